import PyProof.Rows.All
import Wide.All
import OpenK.AllK
import Wide.FinOn
import Lean
import PyProof.EqAt
import PyProof.EqKinds
import PyProof.TupleCall
import PySem.SetOps
import PyProof.SetKind
import PyProof.CollectWalk
import PyProof.FactsAll.set
import PyProof.ForAny
import PyProof.Rows.SortWalk
import PyProof.Rows.SetFrom
import KE.KSortAsk
import KE.KSortTup
import KE.KLam
import KE.KNestM
import KE.KMinBuiltin
import PyProof.NsDelKeeps
import PyProof.TupleKey
import PyProof.IsRules
import KE.KRevIter
import PyProof.WalksMore
import PySem.Challenge.RW_crossracks_k21_rules_choose
set_option Elab.async false
set_option linter.all false
set_option maxRecDepth 100000
namespace L2
open PySem PySem.Spec PyProof.Rows
abbrev Key:=Sum Int Str
def U6:Key → Value → Bool
 | .inl k,v=>Value.isInt k v
 | .inr x,v=>Value.isStrOf x v
def aK8 (w:World):Key → Int
 | .inl k=>hashInt k
 | .inr x=>hashStr w x
theorem o8:∀ {k:Key} {v:Value},U6 k v = true → (∃ i t,k = Sum.inl i ∧ v = Value.int i t) ∨ (∃ x t,k = Sum.inr x ∧ v = Value.str x t)
 | .inl i,v,h=>by
  obtain ⟨t,e⟩:=Value.isInt_shape (k:=i) (v:=v) h
  exact .inl ⟨i,t,rfl,e⟩
 | .inr x,v,h=>by
  obtain ⟨t,e⟩:=Value.isStrOf_shape (x:=x) (v:=v) h
  exact .inr ⟨x,t,rfl,e⟩
theorem ag9 (i:Int) (t:Tok):U6 (.inl i) (.int i t) = true:=by simp [U6,Value.isInt]
theorem ai3 (x:Str) (t:Tok):U6 (.inr x) (.str x t) = true:=by simp [U6,Value.isStrOf]
theorem aD9 (a b:Int):decide ((Sum.inl a:Key) = Sum.inl b) = (a == b):=by
 by_cases e:a = b
 ·subst e; simp
 ·have h:¬ (Sum.inl a:Key) = Sum.inl b:=fun q=>e (Sum.inl.inj q)
  rw [decide_eq_false h]
  exact (beq_eq_false_iff_ne.mpr e).symm
theorem aB8 (a b:Str):decide ((Sum.inr a:Key) = Sum.inr b) = decide (a = b):=by
 by_cases e:a = b
 ·subst e; simp
 ·have h:¬ (Sum.inr a:Key) = Sum.inr b:=fun q=>e (Sum.inr.inj q)
  rw [decide_eq_false h,decide_eq_false e]
theorem aB5 (a:Int) (b:Str):decide ((Sum.inl a:Key) = Sum.inr b) = false:=decide_eq_false (fun q=>nomatch q)
theorem aA1 (a:Str) (b:Int):decide ((Sum.inr a:Key) = Sum.inl b) = false:=decide_eq_false (fun q=>nomatch q)
def p7 (prog:Program) (w:World):PySem.KeyKind prog w Key where
 is:=U6
 hash:=aK8 w
 inj:=fun v a b ha hb=>by
  rcases o8 ha with ⟨i,t,rfl,rfl⟩ | ⟨x,t,rfl,rfl⟩
  ·rcases o8 hb with ⟨j,u,rfl,e⟩ | ⟨y,u,rfl,e⟩
   ·injection e with e1 _; rw [e1]
   ·exact nomatch e
  ·rcases o8 hb with ⟨j,u,rfl,e⟩ | ⟨y,u,rfl,e⟩
   ·exact nomatch e
   ·injection e with e1 _; rw [e1]
 byValue:=fun k v h=>by
  rcases o8 h with ⟨i,t,rfl,rfl⟩ | ⟨x,t,rfl,rfl⟩ <;> rfl
 pyHash:=fun hv h=>by
  rcases o8 hv with ⟨i,t,rfl,rfl⟩ | ⟨x,t,rfl,rfl⟩
  ·exact wpAny_pyHash_int h
  ·exact wpAny_pyHash_str h
 eqBool:=fun hu hv h=>by
  rcases o8 hu with ⟨i,t,rfl,rfl⟩ | ⟨x,t,rfl,rfl⟩
  ·rcases o8 hv with ⟨j,u,rfl,rfl⟩ | ⟨y,u,rfl,rfl⟩
   ·rw [aD9] at h; exact wpAny_eqBool_int h
   ·rw [aB5] at h; exact SeqAt.EqAt.int_str i t y u _ _ _ _ h
  ·rcases o8 hv with ⟨j,u,rfl,rfl⟩ | ⟨y,u,rfl,rfl⟩
   ·rw [aA1] at h; exact SeqAt.EqAt.str_int x t j u _ _ _ _ h
   ·rw [aB8] at h; exact wpAny_eqBool_str h
 «strs»:=fun k x t v h=>by
  rcases o8 h with ⟨i,u,rfl,e⟩ | ⟨y,u,rfl,e⟩
  ·exact nomatch e
  ·injection e with e1 _
   subst e1
   cases v <;> rfl
theorem Z7 (prog:Program) (w:World) (i:Int) (t:Tok):(p7 prog w).is (.inl i) (.int i t) = true:=ag9 i t
theorem Z4 (prog:Program) (w:World) (x:Str) (t:Tok):(p7 prog w).is (.inr x) (.str x t) = true:=ai3 x t
end L2
namespace L2
open PySem PySem.Spec PyProof.Rows
inductive V where
 | non | bl (b:Bool) | int (i:Int) | str (x:Str) | byt (b:Array UInt8) | flt (b:UInt64) | ref (a:Addr) | ty (n:String)
 deriving DecidableEq
def i9:V → Value → Prop
 | .non,u=>u = Value.none
 | .bl b,u=>u = Value.bool b
 | .int i,u=>∃ t,u = Value.int i t
 | .str x,u=>∃ t,u = Value.str x t
 | .byt b,u=>∃ t,u = Value.bytes b t
 | .flt b,u=>∃ t,u = Value.float b t
 | .ref a,u=>u = Value.ref a
 | .ty n,u=>u = Value.type n
abbrev i7:List V → List Value → Prop:=Paired i9
theorem i7.length {xs:List V} {us:List Value} (r:i7 xs us):xs.length = us.length:=Paired.length r
theorem i7.get:∀ {xs:List V} {us:List Value} {i:Nat} {x:V},i7 xs us → xs[i]? = some x → ∃ u,us[i]? = some u ∧ i9 x u
 | _,_,_,_,.nil,e=>by simp at e
 | _,_,0,_,.cons r _,e=>by simp at e; subst e; exact ⟨_,rfl,r⟩
 | _,_,i + 1,x,.cons _ t,e=>by
  obtain ⟨u,h1,h2⟩:=i7.get (i:=i) (x:=x) t (by simpa using e)
  exact ⟨u,by simpa using h1,h2⟩
theorem i7.set {x:V} {u:Value} (r:i9 x u):∀ {xs:List V} {us:List Value} (i:Nat),i7 xs us → i7 (xs.set i x) (us.set i u)
 | _,_,_,.nil=>.nil
 | _,_,0,.cons _ t=>.cons r t
 | _,_,i + 1,.cons q t=>.cons q (i7.set r i t)
theorem i7.append:∀ {xs ys:List V} {us ws:List Value},i7 xs us → i7 ys ws → i7 (xs ++ ys) (us ++ ws)
 | _,_,_,_,.nil,s=>s
 | _,_,_,_,.cons r t,s=>.cons r (i7.append t s)
theorem i7.take:∀ {xs:List V} {us:List Value} (n:Nat),i7 xs us → i7 (xs.take n) (us.take n)
 | _,_,0,_=>.nil
 | _,_,_ + 1,.nil=>.nil
 | _,_,n + 1,.cons r t=>.cons r (i7.take n t)
theorem i7.drop:∀ {xs:List V} {us:List Value} (n:Nat),i7 xs us → i7 (xs.drop n) (us.drop n)
 | _,_,0,r=>r
 | _,_,_ + 1,.nil=>.nil
 | _,_,n + 1,.cons _ t=>i7.drop n t
def L5:Option V → Option Value → Prop
 | some v,some u=>i9 v u
 | none,none=>True
 | _,_=>False
def KV {κ:Type}:List (κ × V) → List (κ × Value) → Prop:=Paired fun (p:κ × V) (q:κ × Value)=>p.1 = q.1 ∧ i9 p.2 q.2
def kV:Key → V
 | .inl i=>.int i
 | .inr x=>.str x
inductive HO where
 /-- a list -/
 | lst (xs:List V)
 /-- a tuple (never changes) -/
 | tup (xs:List V)
 /-- a dict whose keys are ints and texts; one whose keys are tuples of ints and texts (the empty one is both) -/
 | dK (kvs:List (Key × V)) | dT (kvs:List (List Key × V))
 /-- a set of ints: its members,its size -/
 | set (S:Int → Bool) (n:Nat)
 /-- an instance of the class at C,its dict at dx,its attributes -/
 | ins (C dx:Addr) (fs:List (Str × V))
 /-- the dict of the instance at x -/
 | own (x:Addr)
 /-- the dict of an exception -/
 | xd (fs:List (Str × V))
 /-- a bound method,f of x -/
 | met (f x:Addr)
 /-- a range object lo,lo + 1,.. below hi -/
 | rng (lo hi:Int)
 /-- a thing that is known to the object (the script; a dict while a loop walks it): read,never written while it is so -/
 | frz (o:Obj) (u:HO)
 /-- a code object's table -/
 | tbl (ps:Array Value)
 /-- any other thing,by what is true of its one object (a def of one's own: SetO a S n:=HO.ext fun h=>..) -/
 | ext (φ:Heap → Prop)
abbrev Hp:=Addr → Option HO
def upd (H:Hp) (a:Addr) (o:HO):Hp:=fun b=>if b = a then some o else H b
theorem d9 {H:Hp} {a:Addr} {o:HO}:upd H a o a = some o:=by unfold upd; rw [if_pos rfl]
theorem h9 {H:Hp} {a b:Addr} {o:HO} (h:b ≠ a):upd H a o b = H b:=by unfold upd; rw [if_neg h]
theorem aG1 {H:Hp} {a b:Addr} {o u:HO} (h:H a = some o) (h':H b = some u) (d:o ≠ u):a ≠ b:=by
 intro e; subst e; rw [h] at h'; exact d (Option.some.inj h')
theorem i6 {H:Hp} {a b:Addr} {o:HO} (h:H a = some o) (h':H b = none):a ≠ b:=by
 intro e; subst e; rw [h] at h'; cases h'
section
variable (P:Program) (w:World)
def m9 (H:Hp) (h:Heap) (a:Addr):HO → Prop
 | .lst xs=>xs.length ≤ sizeLine ∧ ∃ (its:List Value) (n:Nat),i7 xs its ∧ h.get? a = some { cls:=.type "list",data:=.seq its.toArray n }
 | .tup xs=>xs.length ≤ sizeLine ∧ ∃ its:List Value,i7 xs its ∧ IsTup h a its.toArray
 | .dK kvs=>kvs.length ≤ sizeLine ∧ (a == sysModules) = false ∧ ∃ vs,KV kvs vs ∧ h.DictOf (p7 P w) a vs
 | .dT kvs=>kvs.length ≤ sizeLine ∧ (a == sysModules) = false ∧ ∃ xs:List (List Key × Addr × Value),
   Paired (fun (p:List Key × V) (q:List Key × Addr × Value)=>p.1 = q.1 ∧ H q.2.1 = some (.tup (p.1.map kV)) ∧ i9 p.2 q.2.2) kvs xs ∧
   ∃ o es ep,h.get? a = some o ∧ o.ExactDict ∧ o.data = .dict es ep ∧ es.toList = xs.map (entryOfKey (tupleKind (p7 P w))) ∧ (xs.map (·.1)).Nodup
 | .set S n=>h.SetOf (intKind P w) a S n
 | .ins C dx fs=>H dx = some (.own a) ∧ fs.length ≤ 1000 ∧ dx ≠ a ∧ h.get? a = some (PySem.W.instObj C dx) ∧
   ∃ mA,h.Ns1 dx mA ∧ (∀ f,L5 (fs.lookup f) (mA f)) ∧ PySem.Within mA (fs.map (·.1))
 | .own _=>∃ o,h.get? a = some o
 | .xd fs=>∃ mA,h.Ns1 a mA ∧ ∀ f,L5 (fs.lookup f) (mA f)
 | .rng lo hi=>∃ t u v,h.get? a = some { cls:=.type "range",data:=.fields #[.int lo t,.int hi u,.int 1 v] }
 | .frz o u=>h.get? a = some o ∧ m9 H h a u
 | .tbl ps=>h.get? a = some { cls:=.none,data:=.fields ps }
 | .met f x=>h.get? a = some (PySem.W.methodObj (.ref f) (.ref x))
 | .ext φ=>φ h ∧ (∃ o,h.get? a = some o) ∧ ∀ h1 h2:Heap,φ h1 → (∀ o,h1.get? a = some o → h2.get? a = some o) → φ h2
def HOk (H:Hp) (h:Heap):Prop:=∀ a o,H a = some o → m9 P w H h a o
end
section
variable {P:Program} {w:World} {H H':Hp} {h h':Heap} {a:Addr} {o:HO}
theorem m9.lt (x:m9 P w H h a o):a < h.objs.size:=by
 cases o with
 | lst xs=>obtain ⟨_,_,_,_,e⟩:=x; exact Heap.lt_size e
 | tup xs=>obtain ⟨_,_,_,p⟩:=x; exact p.lt
 | dK kvs=>obtain ⟨_,_,_,_,o,_,_,e,_⟩:=x; exact Heap.lt_size e
 | dT kvs=>obtain ⟨_,_,_,_,o,_,_,e,_⟩:=x; exact Heap.lt_size e
 | set S n=>obtain ⟨o,_,_,_,e,_⟩:=x; exact Heap.lt_size e
 | ins C dx fs=>obtain ⟨_,_,_,e,_⟩:=x; exact Heap.lt_size e
 | own y=>obtain ⟨_,e⟩:=x; exact Heap.lt_size e
 | xd fs=>obtain ⟨_,⟨_,_,_,e,_⟩,_⟩:=x; exact Heap.lt_size e
 | rng lo hi=>obtain ⟨_,_,_,e⟩:=x; exact Heap.lt_size e
 | frz ob u=>obtain ⟨e,_⟩:=x; exact Heap.lt_size e
 | tbl ps=>exact Heap.lt_size (show h.get? a = some _ from x)
 | met f y=>exact Heap.lt_size (show h.get? a = some _ from x)
 | ext φ=>obtain ⟨_,⟨_,e⟩,_⟩:=x; exact Heap.lt_size e
theorem Paired.mapP {α β:Type} {F G:α → β → Prop}:∀ {l₁:List α} {l₂:List β},Paired F l₁ l₂ → (∀ a b,F a b → G a b) → Paired G l₁ l₂
 | _,_,.nil,_=>.nil
 | _,_,.cons r t,f=>.cons (f _ _ r) (Paired.mapP t f)
theorem m9.stay (x:m9 P w H h a o) (k:∀ b u,(b = a ∨ H b = some (.own a)) → h.get? b = some u → h'.get? b = some u)
  (ho:∀ b,H b = some (.own a) → H' b = some (.own a)) (ht:∀ b xs,H b = some (.tup xs) → H' b = some (.tup xs)):m9 P w H' h' a o:=by
 induction o with
 | lst xs=>obtain ⟨z,its,n,r,e⟩:=x; exact ⟨z,its,n,r,k _ _ (.inl rfl) e⟩
 | tup xs=>obtain ⟨z,its,r,ob,e,c⟩:=x; exact ⟨z,its,r,ob,k _ _ (.inl rfl) e,c⟩
 | dK kvs=>obtain ⟨z,y,vs,r,ob,es,ep,e,c⟩:=x; exact ⟨z,y,vs,r,ob,es,ep,k _ _ (.inl rfl) e,c⟩
 | dT kvs =>
  obtain ⟨z,y,xs,r,ob,es,ep,e,c⟩:=x
  exact ⟨z,y,xs,Paired.mapP r fun p q z=>⟨z.1,ht _ _ z.2.1,z.2.2⟩,ob,es,ep,k _ _ (.inl rfl) e,c⟩
 | set S n=>obtain ⟨ob,es,ep,t,e,c⟩:=x; exact ⟨ob,es,ep,t,k _ _ (.inl rfl) e,c⟩
 | ins C dx fs =>
  obtain ⟨d,z,ne,e,mA,⟨od,es,ep,e2,c⟩,r⟩:=x
  exact ⟨ho _ d,z,ne,k _ _ (.inl rfl) e,mA,⟨od,es,ep,k _ _ (.inr d) e2,c⟩,r⟩
 | own y=>obtain ⟨ob,e⟩:=x; exact ⟨ob,k _ _ (.inl rfl) e⟩
 | xd fs=>obtain ⟨mA,⟨od,es,ep,e,c⟩,r⟩:=x; exact ⟨mA,⟨od,es,ep,k _ _ (.inl rfl) e,c⟩,r⟩
 | rng lo hi=>obtain ⟨t,u,v,e⟩:=x; exact ⟨t,u,v,k _ _ (.inl rfl) e⟩
 | frz ob u ih=>obtain ⟨e,q⟩:=x; exact ⟨k _ _ (.inl rfl) e,ih q⟩
 | tbl ps =>
  have e:h.get? a = some { cls:=.none,data:=.fields ps }:=x
  show h'.get? a = some { cls:=.none,data:=.fields ps }
  exact k a _ (.inl rfl) e
 | met f y =>
  have e:h.get? a = some (PySem.W.methodObj (.ref f) (.ref y)):=x
  show h'.get? a = some (PySem.W.methodObj (.ref f) (.ref y))
  exact k a _ (.inl rfl) e
 | ext φ=>obtain ⟨p,⟨o,e⟩,st⟩:=x; exact ⟨st _ _ p fun o q=>k _ _ (.inl rfl) q,⟨o,k _ _ (.inl rfl) e⟩,st⟩
theorem HOk.lt (x:HOk P w H h) (e:H a = some o):a < h.objs.size:=(x a o e).lt
theorem HOk.fresh (x:HOk P w H h) (e:h.objs.size ≤ a):H a = none:=by
 cases q:H a with
 | none=>rfl
 | some u=>exact absurd (Nat.lt_of_lt_of_le (x.lt q) e) (Nat.lt_irrefl _)
theorem HOk.kept (x:HOk P w H h) (k:∀ b u,h.get? b = some u → h'.get? b = some u):HOk P w H h':=fun a o e =>
 (x a o e).stay (fun b u _ q=>k b u q) (fun _ q=>q) fun _ _ q=>q
theorem HOk.laid (x:HOk P w H h) (k:∀ b u,h.get? b = some u → h'.get? b = some u) (hp:h.objs.size ≤ a) (new:m9 P w (upd H a o) h' a o):HOk P w (upd H a o) h':=fun b u e=>by
 have hn:=x.fresh hp
 by_cases hb:b = a
 ·subst hb; rw [d9] at e; cases e; exact new
 ·rw [h9 hb] at e
  exact (x b u e).stay (fun c v _ q=>k c v q) (fun c q=>by rw [h9 (i6 q hn)]; exact q) fun c xs q=>by rw [h9 (i6 q hn)]; exact q
end
def Rd (H:Hp) (a:Addr) (u:HO):Prop:=H a = some u ∨ ∃ o,H a = some (.frz o u)
theorem Rd.ok {P:Program} {w:World} {H:Hp} {h:Heap} {a:Addr} {u:HO} (r:Rd H a u) (x:HOk P w H h):m9 P w H h a u:=by
 rcases r with r | ⟨o,r⟩
 ·exact x a u r
 ·obtain ⟨_,q⟩:=x a _ r
  exact q
def Mut:Option HO → Prop
 | some (.lst _)=>True
 | some (.dK _)=>True
 | some (.dT _)=>True
 | some (.set _ _)=>True
 | some (.ins _ _ _)=>True
 | some (.ext _)=>True
 | _=>False
section
variable {P:Program} {w:World} {H:Hp} {h h':Heap} {x e:Addr} {o':HO}
theorem HOk.write (ok:HOk P w H h) (mu:Mut (H x)) (he:e = x ∨ H e = some (.own x)) (k:∀ b u,b ≠ e → h.get? b = some u → h'.get? b = some u) (heo:∃ u,h'.get? e = some u)
  (new:m9 P w (upd H x o') h' x o'):HOk P w (upd H x o') h':=fun b u q=>by
 have nown:∀ c y,H c = some (.own y) → c ≠ x:=fun c y r z=>by subst z; rw [r] at mu; exact mu
 have ntup:∀ c xs,H c = some (.tup xs) → c ≠ x:=fun c xs r z=>by subst z; rw [r] at mu; exact mu
 by_cases hb:b = x
 ·subst hb; rw [d9] at q; cases q; exact new
 ·rw [h9 hb] at q
  by_cases hbe:b = e
  ·have q':H b = some (.own x):=by
    rcases he with z | z
    ·exact absurd (hbe.trans z) hb
    ·rw [hbe]; exact z
   rw [q] at q'; cases q'
   obtain ⟨v,hv⟩:=heo
   exact ⟨v,by rw [hbe]; exact hv⟩
  ·refine (ok b u q).stay (fun c v hc r=>k c v ?_ r) (fun c r=>by rw [h9 (nown c b r)]; exact r) fun c xs r=>by rw [h9 (ntup c xs r)]; exact r
   rcases hc with rfl | hc
   ·exact hbe
   ·rintro rfl
    rcases he with z | z
    ·exact nown c b hc z
    ·rw [hc] at z; cases z; exact hb rfl
end
structure Un (fs ex:List Addr) (H H':Hp) (h h':Heap):Prop where
 keep:∀ b o,h.get? b = some o → H b = none → b ∉ fs → b ∉ ex → h'.get? b = some o
 slot:∀ b o,h.get? b = some o → H b = none → b ∈ fs → b ∉ ex → ∃ sl,h'.get? b = some { o with slots:=sl }
 free:∀ b o,h.get? b = some o → H b = none → b ∉ ex → H' b = none
 there:∀ b o,h.get? b = some o → b ∉ ex → ∃ o',h'.get? b = some o'
 tups:∀ b xs,H b = some (.tup xs) → H' b = some (.tup xs)
 frzs:∀ b o u,H b = some (.frz o u) → H' b = some (.frz o u)
 tbls:∀ b ps,H b = some (.tbl ps) → ∃ more,H' b = some (.tbl (ps ++ more))
section
variable {fs fs' ex ex':List Addr} {H H1 H2:Hp} {h h1 h2 h':Heap} {a x e:Addr} {o:HO}
theorem Un.any (u:Un fs ex H H1 h h1) {b:Addr} {ob:Obj} (q:h.get? b = some ob) (n:H b = none) (hx:b ∉ ex):∃ sl,h1.get? b = some { ob with slots:=sl }:=by
 by_cases hb:b ∈ fs
 ·exact u.slot b ob q n hb hx
 ·exact ⟨ob.slots,u.keep b ob q n hb hx⟩
theorem Un.kept (k:∀ b u,h.get? b = some u → h'.get? b = some u):Un fs ex H H h h' :=
 ⟨fun b ob q _ _ _=>k b ob q,fun b ob q _ _ _=>⟨ob.slots,k b ob q⟩,fun _ _ _ n _=>n,fun b ob q _=>⟨ob,k b ob q⟩,fun _ _ q=>q,fun _ _ _ q=>q,fun _ ps q=>⟨#[],by rw [q]; simp⟩⟩
theorem Un.refl:Un fs ex H H h h:=Un.kept fun _ _ q=>q
theorem Un.laid (k:∀ b u,h.get? b = some u → h'.get? b = some u) (hp:h.objs.size ≤ a) (hn:H a = none):Un fs ex H (upd H a o) h h' where
 keep:=fun b u q _ _ _=>k b u q
 slot:=fun b u q _ _ _=>⟨u.slots,k b u q⟩
 free:=fun b u q n _=>by rw [h9 (Nat.ne_of_lt (Nat.lt_of_lt_of_le (Heap.lt_size q) hp))]; exact n
 there:=fun b u q _=>⟨u,k b u q⟩
 tups:=fun b xs q=>by rw [h9 (i6 q hn)]; exact q
 frzs:=fun b u xs q=>by rw [h9 (i6 q hn)]; exact q
 tbls:=fun b ps q=>⟨#[],by rw [h9 (i6 q hn),q]; simp⟩
theorem Un.write (mu:Mut (H x)) (he:e = x ∨ H e = some (.own x)) (k:∀ b u,b ≠ e → h.get? b = some u → h'.get? b = some u) (heo:∃ u,h'.get? e = some u):Un fs ex H (upd H x o) h h':=by
 have hx:∀ b,H b = none → b ≠ x:=fun b n z=>by subst z; rw [n] at mu; exact mu
 have hb:∀ b,H b = none → b ≠ e:=fun b n z=>by
  subst z
  rcases he with r | r
  ·exact hx b n r
  ·rw [n] at r; cases r
 have hm:∀ b u,H b = some u → ¬ Mut (some u) → b ≠ x:=fun b u q nm z=>by subst z; rw [q] at mu; exact nm mu
 refine ⟨fun b u q n _ _=>k b u (hb b n) q,fun b u q n _ _=>⟨u.slots,k b u (hb b n) q⟩,fun b u q n _=>by rw [h9 (hx b n)]; exact n,fun b u q _=>?_,
  fun b xs q=>by rw [h9 (hm b _ q fun z=>z)]; exact q,fun b u xs q=>by rw [h9 (hm b _ q fun z=>z)]; exact q,fun b ps q=>⟨#[],by rw [h9 (hm b _ q fun z=>z),q]; simp⟩⟩
 by_cases hbe:b = e
 ·subst hbe; exact heo
 ·exact ⟨u,k b u hbe q⟩
end
def trk (h:Heap) (H:Hp):List Addr:=(List.range h.objs.size).filter fun a=>(H a).isSome
def S8 (h:Heap) (H:Hp):Heap:=PySem.W.hideAll h (trk h H)
theorem aj3 (h:Heap) (H:Hp):(S8 h H).objs.size = h.objs.size:=PySem.W.hideAll_size _ _
theorem ar2 {h:Heap} {H:Hp} {b:Addr} {o:Obj} (e:h.get? b = some o) (n:H b = none):(S8 h H).get? b = some o :=
 PySem.W.hideAll_get _ e fun hm=>by
  have q:(H b).isSome = true:=(List.mem_filter.mp hm).2
  rw [n] at q; simp at q
theorem av5 {h:Heap} {H:Hp} {b:Addr} {o:Obj} (e:(S8 h H).get? b = some o):h.get? b = some o ∧ H b = none:=by
 have e':h.get? b = some o:=PySem.W.of_hideAll (trk h H) e
 refine ⟨e',?_⟩
 cases q:H b with
 | none=>rfl
 | some x =>
  have hm:b ∈ trk h H:=List.mem_filter.mpr ⟨List.mem_range.mpr (Heap.lt_size e'),by simp [q]⟩
  have z:(S8 h H).get? b = none:=PySem.W.hideAll_none (trk h H) hm
  rw [z] at e; cases e
end L2
namespace L2
open PySem PySem.Spec PyProof.Rows
structure Mod (K:PySem.W.Frag) (mg:Str → Option Value) (base:Heap):Prop where
 kin:K.In base
 glob:base.Ns mainGlobals mg
 blt:∃ mb,base.Ns builtinsNs mb ∧ ∀ x:Str,x ≠ "__name__" → mb x = bootBuiltins x
 nolimit:base.NoLimit
structure Cx where
 prog:Program
 w:World
 K:PySem.W.Frag
 mg:Str → Option Value
 base:Heap
 A:Around
 N:List Str
 s₀:Shared
 H₀:Hp
 env:Env
 outer:List Env
 stack:List Env
 ex:List Addr
 fn:Str → Bool
 calm:Bool
 pn:List (Addr × Obj)
 xe:Value → Shared → Prop
def frs (l:List Env):List Addr:=l.filterMap (·.frame)
abbrev Cx.fs (X:Cx):List Addr:=frs X.outer
def Vis (sc:Scope) (x:Str):Prop:=sc.names.lookup x = some .local ∨ sc.names.lookup x = some .cell ∨ sc.names.lookup x = some .free
def Loc (sc:Scope) (x:Str):Prop:=sc.names.lookup x = some .local ∨ sc.names.lookup x = some .cell
def aJ0 (env:Env) (h:Heap) (m:Str → Option Value) (x:Str) (u:Value):Prop :=
 (env.kindOf x = some .local ∧ m x = some u) ∨ ((env.kindOf x = some .cell ∨ env.kindOf x = some .free) ∧ ∃ c,env.cells.lookup x = some c ∧ h.IsCell c (some u))
structure Cx.Ok (X:Cx):Prop where
 mod:Mod X.K X.mg X.base
 kind:X.env.scope.kind = .function
 glob:X.env.globals = mainGlobals
 blt:X.env.builtins = builtinsNs
 above:X.s₀.heap.objs.size ≤ X.env.locals
 inj:∀ x y c,X.env.cells.lookup x = some c → X.env.cells.lookup y = some c → x = y
 has:∀ x,(X.env.kindOf x = some .cell ∨ X.env.kindOf x = some .free) → ∃ c,X.env.cells.lookup x = some c
 cab:∀ x c,X.fn x = true → X.env.cells.lookup x = some c → X.s₀.heap.objs.size ≤ c
 hd:X.calm = true → X.A.handled = none
 frames:X.A.frames = some X.stack
 stk:X.stack = X.outer ∨ (X.stack = X.env :: X.outer ∧ X.env.frame = some X.env.locals)
 exf:∀ b ∈ X.ex,b ≠ X.env.locals ∧ ∀ x c,X.env.cells.lookup x = some c → c ≠ b
 bs:∀ b o,X.base.get? b = some o → X.s₀.heap.get? b = some o ∧ X.H₀ b = none
 bsz:X.base.objs.size ≤ X.s₀.heap.objs.size
 noex:∀ b o,X.base.get? b = some o → b ∉ X.ex
 exfs:∀ b ∈ X.ex,b ∉ X.fs
 funs:X.s₀.heap.FunFrames X.base X.outer
 frf:∀ b ∈ X.fs,X.H₀ b = none
structure Inv (X:Cx) (pins:List (Addr × Obj)) (σ:List (Option V)) (H:Hp) (s:Shared):Prop where
 ok:X.Ok
 os:s.os = X.s₀.os
 bare:AllBare s.gens
 base:Un X.fs X.ex X.H₀ H X.s₀.heap s.heap
 loc:∃ m,s.heap.Ns X.env.locals m ∧ ∀ (i:Nat) (x:Str) (v:V),X.N[i]? = some x → σ[i]? = some (some v) → Vis X.env.scope x → ∃ u,i9 v u ∧ aJ0 X.env s.heap m x u
 cell:∀ x c,X.env.cells.lookup x = some c → ∃ v,s.heap.IsCell c v
 free:H X.env.locals = none
 freeC:∀ x c,X.env.cells.lookup x = some c → H c = none
 pin:∀ p ∈ X.pn ++ pins,s.heap.get? p.1 = some p.2 ∧ H p.1 = none ∧ p.1 ≠ X.env.locals ∧ p.1 ∉ X.fs ∧ ∀ v,p.2.data ≠ .cell v
 hok:HOk X.prog X.w H s.heap
 len:σ.length = X.N.length
section
variable {X:Cx} {pins:List (Addr × Obj)} {σ:List (Option V)} {H H':Hp} {s:Shared} {h':Heap}
theorem Cx.Ok.nofr (ok:X.Ok) {b:Addr} {o:Obj} (e:X.base.get? b = some o):b ∉ X.fs:=fun hb=>by
 have:=(ok.funs.mem hb).1
 rw [e] at this; cases this
theorem Inv.bs (I:Inv X pins σ H s):∀ b o,X.base.get? b = some o → s.heap.get? b = some o ∧ H b = none:=fun b o e =>
 ⟨I.base.keep b o (I.ok.bs b o e).1 (I.ok.bs b o e).2 (I.ok.nofr e) (I.ok.noex b o e),I.base.free b o (I.ok.bs b o e).1 (I.ok.bs b o e).2 (I.ok.noex b o e)⟩
theorem Inv.bk (I:Inv X pins σ H s):∀ b o,X.base.get? b = some o → s.heap.get? b = some o:=fun b o e=>(I.bs b o e).1
theorem Inv.mod (I:Inv X pins σ H s):Mod X.K X.mg X.base:=I.ok.mod
theorem Inv.kIn (I:Inv X pins σ H s):X.K.In s.heap:=I.ok.mod.kin.keeps I.bk
theorem Inv.nolimit (I:Inv X pins σ H s):s.heap.NoLimit:=I.ok.mod.nolimit.keeps I.bk
theorem Inv.lt (I:Inv X pins σ H s):X.env.locals < s.heap.objs.size:=let ⟨_,hn,_⟩:=I.loc; hn.lt
theorem Inv.sz (I:Inv X pins σ H s):X.s₀.heap.objs.size ≤ s.heap.objs.size:=Nat.le_trans I.ok.above (Nat.le_of_lt I.lt)
theorem Inv.nofs (I:Inv X pins σ H s) {a:Addr} (h:s.heap.objs.size ≤ a):a ∉ X.fs:=fun hb=>by
 obtain ⟨_,o,ho,_⟩:=I.ok.funs.mem hb
 exact absurd (Nat.lt_of_lt_of_le (Heap.lt_size ho) (Nat.le_trans I.sz h)) (Nat.lt_irrefl _)
theorem Inv.cne (I:Inv X pins σ H s):∀ x c,X.env.cells.lookup x = some c → c ≠ X.env.locals:=fun x c e z=>by
 obtain ⟨v,o,ho,hd⟩:=I.cell x c e
 obtain ⟨m,⟨o',es,ep,ho',hd',_⟩,_⟩:=I.loc
 rw [z,ho'] at ho; cases ho; rw [hd'] at hd; cases hd
theorem Inv.funs (I:Inv X pins σ H s):s.heap.FunFrames X.base X.outer:=by
 have all:∀ (l:List Env),(∀ b ∈ frs l,b ∈ X.fs) → X.s₀.heap.FunFrames X.base l → s.heap.FunFrames X.base l:=by
  intro l
  induction l with
  | nil=>intro _ _; trivial
  | cons env r ih =>
   intro hs hl
   obtain ⟨hk,⟨L,o,hf,hn,ho,hd⟩,hr⟩:=hl
   have hL:L ∈ X.fs:=hs L (by unfold frs; rw [List.filterMap_cons,hf]; exact List.mem_cons_self)
   obtain ⟨sl,e⟩:=I.base.slot L o ho (I.ok.frf L hL) hL fun z=>I.ok.exfs L z hL
   exact ⟨hk,⟨L,_,hf,hn,e,hd⟩,ih (fun b hb=>hs b (by unfold frs; rw [List.filterMap_cons,hf]; exact List.mem_cons_of_mem _ hb)) hr⟩
 exact all X.outer (fun _ hb=>hb) I.ok.funs
theorem Inv.stack (I:Inv X pins σ H s):s.heap.FunFrames X.base X.stack:=by
 rcases I.ok.stk with e | ⟨e,hf⟩
 ·rw [e]; exact I.funs
 ·rw [e]
  obtain ⟨m,hn,_⟩:=I.loc
  refine .cons (by rw [I.ok.kind]; decide) hf hn ?_ I.funs
  exact Heap.get?_none_of_le (Nat.le_trans I.ok.bsz I.ok.above)
theorem Inv.stkSub (I:Inv X pins σ H s):∀ b ∈ frs X.stack,b ∈ X.env.locals :: X.fs:=fun b hb=>by
 rcases I.ok.stk with e | ⟨e,hf⟩
 ·rw [e] at hb; exact List.mem_cons_of_mem _ hb
 ·rw [e] at hb
  unfold frs at hb
  rw [List.filterMap_cons,hf] at hb
  exact hb
theorem Inv.stkFree (I:Inv X pins σ H s):∀ b ∈ frs X.stack,H b = none:=fun b hb=>by
 rcases List.mem_cons.mp (I.stkSub b hb) with e | hb
 ·rw [e]; exact I.free
 ·obtain ⟨_,o,ho,_⟩:=I.ok.funs.mem hb
  exact I.base.free b o ho (I.ok.frf b hb) fun z=>I.ok.exfs b z hb
theorem Inv.step {g':Array GenState} {t':Nat} {d':Drawn} {ch:List Addr} (I:Inv X pins σ H s)
  (hch:∀ b ∈ ch,(b ∈ X.ex ∨ X.s₀.heap.objs.size ≤ b) ∧ b ≠ X.env.locals ∧ (∀ x c,X.env.cells.lookup x = some c → c ≠ b) ∧ ∀ p ∈ X.pn ++ pins,p.1 ≠ b)
  (keep:∀ b o,b ≠ X.env.locals → b ∉ X.fs → b ∉ ch → s.heap.get? b = some o → H b = none → h'.get? b = some o)
  (slot:∀ b o,b ≠ X.env.locals → b ∈ X.fs → b ∉ ch → s.heap.get? b = some o → H b = none → ∃ sl,h'.get? b = some { o with slots:=sl }) (free:∀ b o,b ∉ ch → s.heap.get? b = some o → H b = none → H' b = none)
  (there:∀ b o,b ∉ ch → s.heap.get? b = some o → ∃ o',h'.get? b = some o')
  (tups:∀ b xs,H b = some (.tup xs) → H' b = some (.tup xs)) (frzs:∀ b o u,H b = some (.frz o u) → H' b = some (.frz o u)) (tbls:∀ b ps,H b = some (.tbl ps) → ∃ more,H' b = some (.tbl (ps ++ more)))
  (ns:∀ m,s.heap.Ns X.env.locals m → h'.Ns X.env.locals m) (hok:HOk X.prog X.w H' h') (hg:AllBare g') :
  Inv X pins σ H' { s with heap:=h',gens:=g',drawn:=d',toks:=t' }:=by
 have neL:∀ b o,X.s₀.heap.get? b = some o → b ≠ X.env.locals:=fun b o e=>Nat.ne_of_lt (Nat.lt_of_lt_of_le (Heap.lt_size e) I.ok.above)
 have neC:∀ b o,X.s₀.heap.get? b = some o → b ∉ X.ex → b ∉ ch:=fun b o e hx hb=>by
  rcases (hch b hb).1 with z | z
  ·exact hx z
  ·exact absurd (Nat.lt_of_lt_of_le (Heap.lt_size e) z) (Nat.lt_irrefl _)
 have cellK:∀ x c,X.env.cells.lookup x = some c → ∀ v,s.heap.IsCell c v → h'.IsCell c v:=fun x c e v ⟨o,ho,hd⟩=>by
  have nch:c ∉ ch:=fun z=>(hch c z).2.2.1 x c e rfl
  by_cases hc:c ∈ X.fs
  ·obtain ⟨sl,q⟩:=slot c o (I.cne x c e) hc nch ho (I.freeC x c e)
   exact ⟨_,q,hd⟩
  ·exact ⟨o,keep c o (I.cne x c e) hc nch ho (I.freeC x c e),hd⟩
 refine ⟨I.ok,I.os,hg,⟨fun b o e n hb hx=>?_,fun b o e n hb hx=>?_,fun b o e n hx=>?_,fun b o e hx=>?_,fun b xs e=>tups b xs (I.base.tups b xs e),fun b o xs e=>frzs b o xs (I.base.frzs b o xs e),fun b ps e=>?_⟩,?_,fun x c e=>?_,?_,fun x c e=>?_,fun p hp=>?_,hok,I.len⟩
 ·exact keep b o (neL b o e) hb (neC b o e hx) (I.base.keep b o e n hb hx) (I.base.free b o e n hx)
 ·obtain ⟨sl,e1⟩:=I.base.slot b o e n hb hx
  obtain ⟨sl',e2⟩:=slot b _ (neL b o e) hb (neC b o e hx) e1 (I.base.free b o e n hx)
  exact ⟨sl',e2⟩
 ·obtain ⟨o',e1⟩:=I.base.there b o e hx
  exact free b o' (neC b o e hx) e1 (I.base.free b o e n hx)
 ·obtain ⟨o',e1⟩:=I.base.there b o e hx
  exact there b o' (neC b o e hx) e1
 ·obtain ⟨m1,e1⟩:=I.base.tbls b ps e
  obtain ⟨m2,e2⟩:=tbls b _ e1
  exact ⟨m1 ++ m2,by rw [e2,Array.append_assoc]⟩
 ·obtain ⟨m,hn,hl⟩:=I.loc
  refine ⟨m,ns m hn,fun i x v e1 e2 e3=>?_⟩
  obtain ⟨u,r,l⟩:=hl i x v e1 e2 e3
  refine ⟨u,r,?_⟩
  rcases l with l | ⟨k,c,e,z⟩
  ·exact .inl l
  ·exact .inr ⟨k,c,e,cellK x c e _ z⟩
 ·obtain ⟨v,z⟩:=I.cell x c e
  exact ⟨v,cellK x c e v z⟩
 ·obtain ⟨m,⟨o,_,_,ho,_⟩,_⟩:=I.loc
  exact free _ o (fun z=>(hch _ z).2.1 rfl) ho I.free
 ·obtain ⟨v,o,ho,hd⟩:=I.cell x c e
  exact free c o (fun z=>(hch c z).2.2.1 x c e rfl) ho (I.freeC x c e)
 ·obtain ⟨e,n,ne,nf,d⟩:=I.pin p hp
  have nch:p.1 ∉ ch:=fun z=>(hch p.1 z).2.2.2 p hp rfl
  exact ⟨keep p.1 p.2 ne nf nch e n,free p.1 p.2 nch e n,ne,nf,d⟩
theorem Inv.un {t':Nat} (I:Inv X pins σ H s) (u:Un X.fs [] H H' s.heap h') (hok:HOk X.prog X.w H' h'):Inv X pins σ H' { s with heap:=h',toks:=t' }:=by
 obtain ⟨m,⟨o,es,ep,ho,r⟩,_⟩:=id I.loc
 obtain ⟨sl,hL⟩:=u.any ho I.free (by simp)
 exact I.step (g':=s.gens) (d':=s.drawn) (ch:=[]) (fun _ z=>nomatch z) (fun b o _ hb _ e n=>u.keep b o e n hb (by simp)) (fun b o _ hb _ e n=>u.slot b o e n hb (by simp)) (fun b o _ e n=>u.free b o e n (by simp)) (fun b o _ e=>u.there b o e (by simp)) u.tups u.frzs u.tbls (fun m' hm=>by
  obtain ⟨o',es',ep',ho',r'⟩:=hm
  rw [ho] at ho'; cases ho'
  exact ⟨_,es',ep',hL,r'⟩) hok I.bare
theorem Inv.call {g':Array GenState} {t':Nat} {d':Drawn} {ch:List Addr} (I:Inv X pins σ H s) (u:Un (frs X.stack) ch H H' s.heap h') (hok:HOk X.prog X.w H' h') (hg:AllBare g')
  (hch:∀ b ∈ ch,(b ∈ X.ex ∨ X.s₀.heap.objs.size ≤ b) ∧ b ≠ X.env.locals ∧ (∀ x c,X.env.cells.lookup x = some c → c ≠ b) ∧ ∀ p ∈ X.pn ++ pins,p.1 ≠ b) :
  Inv X pins σ H' { s with heap:=h',gens:=g',drawn:=d',toks:=t' }:=by
 obtain ⟨m,⟨o,es,ep,ho,r⟩,_⟩:=id I.loc
 obtain ⟨sl,hL⟩:=u.any ho I.free fun z=>(hch _ z).2.1 rfl
 exact I.step (ch:=ch) hch (fun b o hL hb hc e n=>u.keep b o e n (fun z=>(List.mem_cons.mp (I.stkSub b z)).elim hL hb) hc) (fun b o _ _ hc e n=>u.any e n hc) (fun b o hc e n=>u.free b o e n hc) (fun b o hc e=>u.there b o e hc) u.tups u.frzs u.tbls (fun m' hm=>by
  obtain ⟨o',es',ep',ho',r'⟩:=hm
  rw [ho] at ho'; cases ho'
  exact ⟨_,es',ep',hL,r'⟩) hok hg
theorem Inv.turned {t':Nat} {it:Addr} (I:Inv X pins σ H s) (k:∀ b o,b ≠ it → s.heap.get? b = some o → h'.get? b = some o) (hn:H it = none) (hL:it ≠ X.env.locals)
  (h1:it ∈ X.ex ∨ X.s₀.heap.objs.size ≤ it) (h2:∀ x c,X.env.cells.lookup x = some c → c ≠ it) (h3:∀ p ∈ X.pn ++ pins,p.1 ≠ it):Inv X pins σ H { s with heap:=h',toks:=t' }:=by
 have nit:∀ b u,H b = some u → b ≠ it:=fun b u e z=>by rw [z,hn] at e; cases e
 refine I.step (g':=s.gens) (d':=s.drawn) (ch:=[it]) (fun b hb=>?_) (fun b o _ _ hc e _=>k b o (fun z=>hc (by simp [z])) e) (fun b o _ _ hc e _=>⟨o.slots,k b o (fun z=>hc (by simp [z])) e⟩) (fun _ _ _ _ n=>n)
  (fun b o hc e=>⟨o,k b o (fun z=>hc (by simp [z])) e⟩) (fun _ _ e=>e) (fun _ _ _ e=>e) (fun b ps e=>⟨#[],by rw [e]; simp⟩) (fun m hm=>?_) (fun b u e=>?_) I.bare
 ·have e:b = it:=by simpa using hb
  subst e
  exact ⟨h1,hL,h2,h3⟩
 ·obtain ⟨o,es,ep,ho,r⟩:=hm
  exact ⟨o,es,ep,k _ o (Ne.symm hL) ho,r⟩
 ·refine (I.hok b u e).stay (fun c v hc q=>k c v ?_ q) (fun _ q=>q) fun _ _ q=>q
  rcases hc with z | z
  ·rw [z]; exact nit b u e
  ·exact nit c _ z
theorem Inv.tok (I:Inv X pins σ H s) (t:Nat):Inv X pins σ H { s with toks:=t }:=I.un (h':=s.heap) (t':=t) Un.refl I.hok
theorem Inv.kept {t':Nat} (I:Inv X pins σ H s) (k:∀ b u,s.heap.get? b = some u → h'.get? b = some u):Inv X pins σ H { s with heap:=h',toks:=t' }:=I.un (Un.kept k) (I.hok.kept k)
theorem Inv.laid {a:Addr} {o:HO} {t':Nat} (I:Inv X pins σ H s) (k:∀ b u,s.heap.get? b = some u → h'.get? b = some u) (hp:s.heap.objs.size ≤ a) (new:m9 X.prog X.w (upd H a o) h' a o) :
  Inv X pins σ (upd H a o) { s with heap:=h',toks:=t' }:=I.un (Un.laid k hp (I.hok.fresh hp)) (I.hok.laid k hp new)
theorem Inv.write {x e:Addr} {o:HO} {t':Nat} (I:Inv X pins σ H s) (mu:Mut (H x)) (he:e = x ∨ H e = some (.own x)) (k:∀ b u,b ≠ e → s.heap.get? b = some u → h'.get? b = some u) (heo:∃ u,h'.get? e = some u)
  (new:m9 X.prog X.w (upd H x o) h' x o):Inv X pins σ (upd H x o) { s with heap:=h',toks:=t' }:=I.un (Un.write mu he k heo) (I.hok.write mu he k heo new)
theorem Inv.pins_of {pins':List (Addr × Obj)} (I:Inv X pins σ H s) (h:∀ p ∈ pins',s.heap.get? p.1 = some p.2 ∧ H p.1 = none ∧ p.1 ≠ X.env.locals ∧ p.1 ∉ X.fs ∧ ∀ v,p.2.data ≠ .cell v):Inv X pins' σ H s :=
 ⟨I.ok,I.os,I.bare,I.base,I.loc,I.cell,I.free,I.freeC,fun p hp=>(List.mem_append.mp hp).elim (fun z=>I.pin p (List.mem_append_left _ z)) (h p),I.hok,I.len⟩
theorem R4 {N:List Str} (hN:N.Nodup) {i j:Nat} {x:Str} (a:N[i]? = some x) (b:N[j]? = some x):i = j:=by
 obtain ⟨h1,e1⟩:=List.getElem?_eq_some_iff.mp a
 obtain ⟨h2,e2⟩:=List.getElem?_eq_some_iff.mp b
 exact (List.getElem_inj hN).mp (e1.trans e2.symm)
theorem T7 {M:Model} {A:Around} {E:Value → Shared → Prop} {i:Nat} {x:Str} {v:V} {u:Value} {Q:Unit → Shared → Prop} (I:Inv X pins σ H s) (hN:X.N.Nodup) (hi:X.N[i]? = some x) (hx:Loc X.env.scope x) (r:i9 v u)
  (h:∀ s',Inv X pins (σ.set i (some v)) H s' → (∃ a,Heap.SameBut a s.heap s'.heap ∧ (a = X.env.locals ∨ X.env.cells.lookup x = some a)) → Q () s') (hf:X.fn x = true ∨ X.env.scope.names.lookup x = some .local:=by first | exact .inl rfl | exact .inr rfl | assumption):wpAny M A (storeName X.env x u) Q E s:=by
 obtain ⟨m,hn,hl⟩:=id I.loc
 have hcls:(X.env.scope.kind == .class || (X.env.scope.kind == .module && X.env.locals != X.env.globals)) = false:=by rw [I.ok.kind]; rfl
 have hiσ:i < σ.length:=by rw [I.len]; exact (List.getElem?_eq_some_iff.mp hi).1
 have cne:=I.cne
 have tracked:∀ {a:Addr} {h':Heap},(∃ o,s.heap.get? a = some o ∧ H a = none) → Heap.SameBut a s.heap h' → HOk X.prog X.w H h':=fun {a h'} ha hs b ob e=>by
  obtain ⟨_,_,hfree⟩:=ha
  refine (I.hok b ob e).stay (fun c w' hc q=>(hs.2 c ?_).trans q) (fun _ q=>q) fun _ _ q=>q
  rintro rfl
  rcases hc with rfl | hc
  ·rw [hfree] at e; cases e
  ·rw [hfree] at hc; cases hc
 rcases hx with hk | hk
 ·refine wpAny_storeName_local hk hn (fun h' hn' hs=>?_) hcls
  obtain ⟨oL,_,_,hoL,_⟩:=id hn
  refine h _ ⟨I.ok,I.os,I.bare,⟨fun b o e n hb hx=>?_,fun b o e n hb hx=>?_,I.base.free,fun b o e hx=>?_,I.base.tups,I.base.frzs,I.base.tbls⟩,⟨_,hn',fun j y v' e1 e2 e3=>?_⟩,fun y c e=>?_,I.free,I.freeC,fun p hp=>?_,tracked ⟨oL,hoL,I.free⟩ hs,by simpa using I.len⟩ ⟨_,hs,.inl rfl⟩
  ·exact (hs.2 b (Nat.ne_of_lt (Nat.lt_of_lt_of_le (Heap.lt_size e) I.ok.above))).trans (I.base.keep b o e n hb hx)
  ·obtain ⟨sl,e1⟩:=I.base.slot b o e n hb hx
   exact ⟨sl,(hs.2 b (Nat.ne_of_lt (Nat.lt_of_lt_of_le (Heap.lt_size e) I.ok.above))).trans e1⟩
  ·obtain ⟨o',e1⟩:=I.base.there b o e hx
   exact ⟨o',(hs.2 b (Nat.ne_of_lt (Nat.lt_of_lt_of_le (Heap.lt_size e) I.ok.above))).trans e1⟩
  ·by_cases hj:j = i
   ·subst hj
    rw [hi] at e1; cases e1
    rw [List.getElem?_set_self hiσ] at e2
    cases e2
    exact ⟨u,r,.inl ⟨hk,by simp⟩⟩
   ·rw [List.getElem?_set_ne (Ne.symm hj)] at e2
    obtain ⟨u',r',q⟩:=hl j y v' e1 e2 e3
    refine ⟨u',r',?_⟩
    rcases q with ⟨k,e⟩ | ⟨k,c,e,z⟩
    ·refine .inl ⟨k,?_⟩
     have:y ≠ x:=fun e=>hj (R4 hN e1 (e ▸ hi))
     simp [this,e]
    ·exact .inr ⟨k,c,e,z.sameBut hs (cne y c e)⟩
  ·obtain ⟨w',z⟩:=I.cell y c e
   exact ⟨w',z.sameBut hs (cne y c e)⟩
  ·obtain ⟨e,n,ne,nf,d⟩:=I.pin p hp
   exact ⟨(hs.2 p.1 ne).trans e,n,ne,nf,d⟩
 ·have hfn:X.fn x = true:=by
   rcases hf with z | z
   ·exact z
   ·rw [z] at hk; cases hk
  obtain ⟨c,hc⟩:=I.ok.has x (.inl hk)
  obtain ⟨w',z⟩:=I.cell x c hc
  refine wpAny_storeName_cell I.ok.kind hk hc z (fun h' hc' hs=>?_)
  obtain ⟨oc,hoc,hocd⟩:=id z
  refine h { s with heap:=h' } ⟨I.ok,I.os,I.bare,⟨fun b o e n hb hx=>?_,fun b o e n hb hx=>?_,I.base.free,fun b o e hx=>?_,I.base.tups,I.base.frzs,I.base.tbls⟩,⟨m,hn.sameBut hs (Ne.symm (cne x c hc)),fun j y v' e1 e2 e3=>?_⟩,fun y c' e=>?_,I.free,I.freeC,fun p hp=>?_,tracked ⟨oc,hoc,I.freeC x c hc⟩ hs,by simpa using I.len⟩ ⟨c,hs,.inr hc⟩
  ·exact (hs.2 b (Nat.ne_of_lt (Nat.lt_of_lt_of_le (Heap.lt_size e) (I.ok.cab x c hfn hc)))).trans (I.base.keep b o e n hb hx)
  ·obtain ⟨sl,e1⟩:=I.base.slot b o e n hb hx
   exact ⟨sl,(hs.2 b (Nat.ne_of_lt (Nat.lt_of_lt_of_le (Heap.lt_size e) (I.ok.cab x c hfn hc)))).trans e1⟩
  ·obtain ⟨o',e1⟩:=I.base.there b o e hx
   exact ⟨o',(hs.2 b (Nat.ne_of_lt (Nat.lt_of_lt_of_le (Heap.lt_size e) (I.ok.cab x c hfn hc)))).trans e1⟩
  ·by_cases hj:j = i
   ·subst hj
    rw [hi] at e1; cases e1
    rw [List.getElem?_set_self hiσ] at e2
    cases e2
    exact ⟨u,r,.inr ⟨.inl hk,c,hc,hc'⟩⟩
   ·rw [List.getElem?_set_ne (Ne.symm hj)] at e2
    obtain ⟨u',r',q⟩:=hl j y v' e1 e2 e3
    refine ⟨u',r',?_⟩
    rcases q with q | ⟨k,c',e,z'⟩
    ·exact .inl q
    ·refine .inr ⟨k,c',e,z'.sameBut hs ?_⟩
     rintro rfl
     exact hj (R4 hN e1 (I.ok.inj _ _ _ e hc ▸ hi))
  ·by_cases hcc:c' = c
   ·subst hcc; exact ⟨_,hc'⟩
   ·obtain ⟨w2,z2⟩:=I.cell y c' e
    exact ⟨w2,z2.sameBut hs hcc⟩
  ·obtain ⟨e,n,ne,nf,d⟩:=I.pin p hp
   refine ⟨(hs.2 p.1 ?_).trans e,n,ne,nf,d⟩
   intro q
   rw [q,hoc] at e
   have q':oc = p.2:=Option.some.inj e
   exact d w' (by rw [← q']; exact hocd)
theorem Q8 {M:Model} {A:Around} {E:Value → Shared → Prop} {i:Nat} {x:Str} {v:V} {u:Value} {Q:Unit → Shared → Prop} (I:Inv X pins σ H s) (hN:X.N.Nodup) (hi:X.N[i]? = some x) (hx:Loc X.env.scope x) (r:i9 v u)
  (h:∀ s',Inv X pins (σ.set i (some v)) H s' → Q () s') (hf:X.fn x = true ∨ X.env.scope.names.lookup x = some .local:=by first | exact .inl rfl | exact .inr rfl | assumption):wpAny M A (storeName X.env x u) Q E s :=
 T7 I hN hi hx r (fun s' I' _=>h s' I') hf
theorem Inv.call' {s':Shared} {ch:List Addr} (I:Inv X pins σ H s) (ho:s'.os = s.os) (u:Un (frs X.stack) ch H H' s.heap s'.heap) (hok:HOk X.prog X.w H' s'.heap) (hg:AllBare s'.gens)
  (hch:∀ b ∈ ch,(b ∈ X.ex ∨ X.s₀.heap.objs.size ≤ b) ∧ b ≠ X.env.locals ∧ (∀ x c,X.env.cells.lookup x = some c → c ≠ b) ∧ ∀ p ∈ X.pn ++ pins,p.1 ≠ b):Inv X pins σ H' s':=by
 obtain ⟨h',g',d',t',o'⟩:=s'
 have e:o' = s.os:=ho
 subst e
 exact I.call (g':=g') (t':=t') (d':=d') u hok hg hch
end
abbrev XK:=Value → Option Addr → Hp → Prop
abbrev St:=List (Option V)
abbrev VK:=V → Hp → Prop
abbrev TE:=St → Hp → VK → Prop
abbrev TT:=St → Hp → (Bool → Hp → Prop) → Prop
abbrev TA:=St → Hp → (List V → Hp → Prop) → Prop
structure Ends where
 nx:St → Hp → Prop
 rt:VK
 bk:St → Hp → Prop:=fun _ _=>False
 ct:St → Hp → Prop:=fun _ _=>False
abbrev TS:=Ends → St → Hp → Prop
def EP (X:Cx) (pins:List (Addr × Obj)) (σ:St) (Q:VK) (u:Value) (s':Shared):Prop:=∃ v H',Inv X pins σ H' s' ∧ i9 v u ∧ Q v H'
def TP (X:Cx) (pins:List (Addr × Obj)) (σ:St) (Q:Bool → Hp → Prop) (b:Bool) (s':Shared):Prop:=∃ H',Inv X pins σ H' s' ∧ Q b H'
def AP (X:Cx) (pins:List (Addr × Obj)) (σ:St) (Q:List V → Hp → Prop) (us:List Value) (s':Shared):Prop:=∃ vs H',Inv X pins σ H' s' ∧ i7 vs us ∧ Q vs H'
def SP (X:Cx) (pins:List (Addr × Obj)) (D:Ends) (f:Flow) (s':Shared):Prop :=
 match f with
 | .next=>∃ σ' H',Inv X pins σ' H' s' ∧ D.nx σ' H'
 | .brk=>∃ σ' H',Inv X pins σ' H' s' ∧ D.bk σ' H'
 | .cont=>∃ σ' H',Inv X pins σ' H' s' ∧ D.ct σ' H'
 | .ret u=>∃ v σ' H',Inv X pins σ' H' s' ∧ i9 v u ∧ D.rt v H'
def PE (X:Cx) (e:Expr) (t:TE):Prop :=
 ∀ (pins:List (Addr × Obj)) (s:Shared) (σ:St) (H:Hp) (Q:VK),Inv X pins σ H s → t σ H Q → wpAny (model X.prog X.w) X.A (eval e X.env) (EP X pins σ Q) X.xe s
def PT (X:Cx) (e:Expr) (t:TT):Prop :=
 ∀ (pins:List (Addr × Obj)) (s:Shared) (σ:St) (H:Hp) (Q:Bool → Hp → Prop),Inv X pins σ H s → t σ H Q → wpAny (model X.prog X.w) X.A (isTrue e X.env (eval e X.env)) (TP X pins σ Q) X.xe s
def PW (X:Cx) (e:Expr) (t:TT):Prop :=
 ∀ (whole:Sem Value) (pins:List (Addr × Obj)) (s:Shared) (σ:St) (H:Hp) (Q:Bool → Hp → Prop),Inv X pins σ H s → t σ H Q → wpAny (model X.prog X.w) X.A (isTrue e X.env whole) (TP X pins σ Q) X.xe s
theorem PW.pt {X:Cx} {e:Expr} {t:TT} (h:PW X e t):PT X e t:=h _
def PA (X:Cx) (es:List Expr) (t:TA):Prop :=
 ∀ (pos:Pos) (pins:List (Addr × Obj)) (s:Shared) (σ:St) (H:Hp) (Q:List V → Hp → Prop),Inv X pins σ H s → t σ H Q → wpAny (model X.prog X.w) X.A (spliced (backTo pos (starEach es X.env))) (AP X pins σ Q) X.xe s
def PS (X:Cx) (st:Stmt) (t:TS):Prop :=
 ∀ (pins:List (Addr × Obj)) (s:Shared) (σ:St) (H:Hp) (D:Ends),Inv X pins σ H s → t D σ H → wpAny (model X.prog X.w) X.A (exec st X.env) (SP X pins D) X.xe s
def PSs (X:Cx) (st:List Stmt) (t:TS):Prop :=
 ∀ (pins:List (Addr × Obj)) (s:Shared) (σ:St) (H:Hp) (D:Ends),Inv X pins σ H s → t D σ H → wpAny (model X.prog X.w) X.A (execs st X.env) (SP X pins D) X.xe s
theorem thn {α:Type} {t:Sem α} {Q Q':α → Shared → Prop} {M:Model} {A:Around} {E:Value → Shared → Prop} {s:Shared} (h:wpAny M A t Q E s) (hQ:∀ a s,Q a s → Q' a s):wpAny M A t Q' E s:=wpAny_mono h hQ fun _ _ x=>x
end L2
namespace L2
open PySem PySem.Spec PyProof.Rows
section
variable {X:Cx}
theorem bin {a b:Expr} {ta tb:TE} (ha:PE X a ta) (hb:PE X b tb) {pins:List (Addr × Obj)} {s:Shared} {σ:St} {H:Hp} {R:V → V → Hp → Prop} (I:Inv X pins σ H s) (h:ta σ H fun x H1=>tb σ H1 fun y H2=>R x y H2)
  {α:Type} {Q:α → Shared → Prop} {f:Value → Value → Sem α}
  (hf:∀ v u s2 x y H2,Inv X pins σ H2 s2 → i9 x v → i9 y u → R x y H2 → wpAny (model X.prog X.w) X.A (f v u) Q X.xe s2) :
  wpAny (model X.prog X.w) X.A (eval a X.env) (fun v s₁=>wpAny (model X.prog X.w) X.A (eval b X.env) (fun u s₂=>wpAny (model X.prog X.w) X.A (f v u) Q X.xe s₂) X.xe s₁) X.xe s:=by
 refine thn (ha pins s σ H _ I h) fun v s1 ⟨x,H1,I1,r1,q1⟩=>?_
 refine thn (hb pins s1 σ H1 _ I1 q1) fun u s2 ⟨y,H2,I2,r2,q2⟩=>?_
 exact hf v u s2 x y H2 I2 r1 r2 q2
def aF4 (i:Nat):TE:=fun σ H Q=>∃ v,σ[i]? = some (some v) ∧ Q v H
def tC (v:V):TE:=fun _ H Q=>Q v H
theorem aA9 {i:Nat} {x:Str} {pos:Pos} (hN:X.N[i]? = some x) (hv:Vis X.env.scope x) (hd:(x == ("__debug__":Str)) = false:=by decide) (hcd:(x == ("__classdict__":Str)) = false:=by decide):PE X (.Name x pos) (aF4 i):=by
 intro pins s σ H Q I h
 obtain ⟨v,e,h⟩:=h
 obtain ⟨m,hn,hl⟩:=I.loc
 obtain ⟨u,r,l⟩:=hl i x v hN e hv
 have fin:EP X pins σ Q u s:=⟨v,H,I,r,h⟩
 rcases l with ⟨hk,hm⟩ | ⟨hk,c,hc,hcell⟩
 ·exact wpAny_Name (wpAny_loadName_local I.ok.kind hk hn hm fin) hd
 ·rcases hk with hk | hk
  ·exact wpAny_Name (wpAny_loadName_cell I.ok.kind hk hc hcell fin) hd
  ·exact wpAny_Name (wpAny_loadName_free I.ok.kind hk hc hcell fin hcd) hd
theorem e7 {i j pos}:PE X (.Constant (.int i) j pos) (tC (.int i)):=fun _ _ _ H _ I h=>wpAny_Constant_int ⟨.int i,H,I.tok _,⟨_,rfl⟩,h⟩
theorem O3 {b j pos}:PE X (.Constant (.bool b) j pos) (tC (.bl b)):=fun _ _ _ H _ I h=>Constant_bool ⟨.bl b,H,I,rfl,h⟩
theorem S0 {j pos}:PE X (.Constant .none j pos) (tC .non):=fun _ _ _ H _ I h=>Constant_none ⟨.non,H,I,rfl,h⟩
theorem p6 {x j pos}:PE X (.Constant (.str x) j pos) (tC (.str x)):=fun _ _ _ H _ I h=>Calls.Constant_str ⟨.str x,H,I.tok _,⟨_,rfl⟩,h⟩
def Gl (X:Cx) (x:Str):Prop:=X.env.kindOf x = some .globalImplicit
theorem D1 {E:Value → Shared → Prop} {pins:List (Addr × Obj)} {s:Shared} {σ:St} {H:Hp} {x:Str} {u:Value} {pos:Pos} {Q:Value → Shared → Prop} (I:Inv X pins σ H s) (hg:Gl X x) (hm:X.mg x = some u) (h:Q u s)
  (hd:(x == ("__debug__":Str)) = false:=by decide):wpAny (model X.prog X.w) X.A (eval (.Name x pos) X.env) Q E s :=
 Calls.Name_function_global I.ok.kind hg (Calls.loadGlobal_global (by rw [I.ok.glob]; exact I.mod.glob.keeps I.bk) hm h) hd
theorem O0 {E:Value → Shared → Prop} {pins:List (Addr × Obj)} {s:Shared} {σ:St} {H:Hp} {x:Str} {u:Value} {pos:Pos} {Q:Value → Shared → Prop} (I:Inv X pins σ H s) (hg:Gl X x) (hm:X.mg x = none) (hv:bootBuiltins x = some u) (h:Q u s)
  (hn:x ≠ "__name__":=by decide) (hd:(x == ("__debug__":Str)) = false:=by decide):wpAny (model X.prog X.w) X.A (eval (.Name x pos) X.env) Q E s:=by
 obtain ⟨mb,h1,h2⟩:=I.mod.blt
 exact Calls.Name_function_global I.ok.kind hg (Calls.loadGlobal_builtin (by rw [I.ok.glob]; exact I.mod.glob.keeps I.bk) hm (by rw [I.ok.blt]; exact h1.keeps I.bk) ((h2 x hn).trans hv) h) hd
theorem A5 {x:Str} {v:V} {u:Value} {pos:Pos} (hg:Gl X x) (hm:X.mg x = some u) (r:i9 v u) (hd:(x == ("__debug__":Str)) = false:=by decide):PE X (.Name x pos) (tC v) :=
 fun _ _ _ H _ I h=>D1 I hg hm ⟨v,H,I,r,h⟩ hd
theorem P8 {x:Str} {v:V} {u:Value} {pos:Pos} (hg:Gl X x) (hm:X.mg x = none) (hv:bootBuiltins x = some u) (r:i9 v u) (hn:x ≠ "__name__":=by decide) (hd:(x == ("__debug__":Str)) = false:=by decide):PE X (.Name x pos) (tC v) :=
 fun _ _ _ H _ I h=>O0 I hg hm hv ⟨v,H,I,r,h⟩ hn hd
variable {a b:Expr} {ta tb:TE} {pos:Pos}
def PC (X:Cx) (op:CmpOp) (a b:Expr) (t:TE):Prop :=
 ∀ (pins:List (Addr × Obj)) (s:Shared) (σ:St) (H:Hp) (Q:VK),Inv X pins σ H s → t σ H Q →
  wpAny (model X.prog X.w) X.A (eval a X.env) (fun v s₁=>wpAny (model X.prog X.w) X.A (eval b X.env) (fun u s₂=>wpAny (model X.prog X.w) X.A (compareOp op v u) (EP X pins σ Q) X.xe s₂) X.xe s₁) X.xe s
def tB (t:TE):TT:=fun σ H Q=>t σ H fun x H1=>∃ c,x = .bl c ∧ Q c H1
theorem aA0 {op:CmpOp} {t:TE} (h:PC X op a b t) (h1:behindInMarks op b = false:=by first | exact nobehind _ (by decide) (by decide) | rfl):PT X (.Compare a [op] [b] pos) (tB t):=by
 intro pins s σ H Q I hw
 refine wpAny_isTrue_Compare1 (thn (h pins s σ H _ I hw) fun v s1 h1=>thn h1 fun u s2 h2=>thn h2 fun c s3 ⟨x,H1,I1,r1,q1⟩=>?_) h1
 obtain ⟨d,rfl,q⟩:=q1
 cases r1
 exact wpAny_truthy_bool ⟨H1,I1,q⟩
variable {tA tB':TT} {rest:List Expr}
def tOr (t u:TT):TT:=fun σ H Q=>t σ H fun c H1=>if c = true then Q true H1 else u σ H1 Q
def aJ7 (t:TT):TT:=fun σ H Q=>t σ H fun c H1=>Q (!c) H1
theorem am2 (ha:PT X a tA):PW X (.BoolOp .Or [a] pos) tA:=by
 intro wh pins s σ H Q I h
 refine isTrue_or (thn (ha pins s σ H Q I h) fun c s1 e=>?_)
 cases c with
 | false=>exact isTrue_or_nil e
 | true=>exact e
theorem ap9 (ha:PT X a tA) (hb:PW X (.BoolOp .Or (b :: rest) pos) tB'):PW X (.BoolOp .Or (a :: b :: rest) pos) (tOr tA tB'):=by
 intro wh pins s σ H Q I h
 refine isTrue_or (thn (ha pins s σ H _ I h) fun c s1 ⟨H1,I1,q1⟩=>?_)
 cases c with
 | true=>exact ⟨H1,I1,q1⟩
 | false=>exact hb wh pins s1 σ H1 Q I1 q1
theorem R6 (ha:PT X a tA):PT X (.UnaryOp .Not a pos) (aJ7 tA):=by
 intro pins s σ H Q I h
 exact isTrue_not (ha pins s σ H (fun c H1=>Q (!c) H1) I h)
def aE8 (ta tb:TE):TE:=fun σ H Q=>ta σ H fun x H1=>∃ c,x = .bl c ∧ if c = true then tb σ H1 Q else Q (.bl false) H1
def aH3 (ta:TE):TE:=fun σ H Q=>ta σ H fun x H1=>∃ c,x = .bl c ∧ Q (.bl (!c)) H1
theorem aq3 {op} {t:TE} (h:PE X a t):PE X (.BoolOp op [a] pos) t:=fun pins s σ H Q I hw=>BoolOp_one (h pins s σ H Q I hw)
theorem ab9 (ha:PE X a ta) (hb:PE X (.BoolOp .And (b :: rest) pos) tb):PE X (.BoolOp .And (a :: b :: rest) pos) (aE8 ta tb):=by
 intro pins s σ H Q I h
 refine BoolOp_and (thn (ha pins s σ H _ I h) fun v s1 ⟨x,H1,I1,r1,q1⟩=>?_)
 obtain ⟨c,rfl,q1⟩:=q1
 cases r1
 refine wpAny_truthy_bool ?_
 cases c with
 | true=>exact hb pins s1 σ H1 Q I1 q1
 | false=>exact ⟨.bl false,H1,I1,rfl,q1⟩
theorem aA6 (ha:PE X a ta):PE X (.UnaryOp .Not a pos) (aH3 ta):=by
 intro pins s σ H Q I h
 refine UnaryOp_ (thn (ha pins s σ H _ I h) fun v s1 ⟨x,H1,I1,r1,q1⟩=>?_)
 obtain ⟨c,rfl,q1⟩:=q1
 cases r1
 exact not_of (wpAny_truthy_bool ⟨.bl (!c),H1,I1,rfl,q1⟩)
end
end L2
namespace L2
open PySem PySem.Spec PyProof.Rows
def SqL (K:PySem.W.Frag) (H:Hp) (a:Addr) (xs:List V):Prop :=
 Rd H a (.lst xs) ∨
  ∃ (o:Obj) (its:Array Value) (n:Nat),K.lookup a = some o ∧ o.cls = .type "list" ∧ o.dict = none ∧ o.data = .seq its n ∧ its.size ≤ sizeLine ∧ i7 xs its.toList
def SqT (K:PySem.W.Frag) (H:Hp) (a:Addr) (xs:List V):Prop :=
 Rd H a (.tup xs) ∨
  ∃ (o:Obj) (its:Array Value) (n:Nat),K.lookup a = some o ∧ o.cls = .type "tuple" ∧ o.data = .seq its n ∧ its.size ≤ sizeLine ∧ i7 xs its.toList
def aI5:Value → Option V
 | .none=>some .non
 | .bool b=>some (.bl b)
 | .int i _=>some (.int i)
 | .str x _=>some (.str x)
 | .bytes b _=>some (.byt b)
 | .float b _=>some (.flt b)
 | .ref a=>some (.ref a)
 | .type n=>some (.ty n)
 | _=>none
theorem i9.abs {x:V} {u:Value} (r:i9 x u):aI5 u = some x:=by
 cases x with
 | non=>cases r; rfl
 | bl _=>cases r; rfl
 | int _=>obtain ⟨t,rfl⟩:=r; rfl
 | str _=>obtain ⟨t,rfl⟩:=r; rfl
 | byt _=>obtain ⟨t,rfl⟩:=r; rfl
 | flt _=>obtain ⟨t,rfl⟩:=r; rfl
 | ref _=>cases r; rfl
 | ty _=>cases r; rfl
theorem i9.inj {x y:V} {u:Value} (r:i9 x u) (q:i9 y u):x = y:=Option.some.inj (r.abs.symm.trans q.abs)
theorem i7.inj:∀ {xs ys:List V} {us:List Value},i7 xs us → i7 ys us → xs = ys
 | _,_,_,.nil,.nil=>rfl
 | _,_,_,.cons r t,.cons r' t'=>by rw [r.inj r',i7.inj t t']
section
variable {X:Cx} {pins:List (Addr × Obj)} {σ:St} {H:Hp} {s:Shared} {a:Addr} {xs ys:List V}
theorem SqL.of {K:PySem.W.Frag} (h:H a = some (.lst xs)):SqL K H a xs:=.inl (.inl h)
theorem SqT.of {K:PySem.W.Frag} (h:H a = some (.tup xs)):SqT K H a xs:=.inl (.inl h)
theorem Inv.list (I:Inv X pins σ H s) (h:SqL X.K H a xs):∃ its:List Value,i7 xs its ∧ PlainL s.heap a its.toArray ∧ xs.length ≤ sizeLine:=by
 rcases h with h | ⟨o,its,n,hk,hc,hd,hs,hz,r⟩
 ·obtain ⟨z,its,n,r,e⟩:=h.ok I.hok
  exact ⟨its,r,⟨_,n,e,rfl,rfl,rfl⟩,z⟩
 ·refine ⟨its.toList,r,⟨o,n,I.kIn a o hk,hc,hd,by simpa using hs⟩,?_⟩
  have e:=r.length
  simp only [Array.length_toList] at e
  lia
theorem Inv.tuple (I:Inv X pins σ H s) (h:SqT X.K H a xs):∃ its:List Value,i7 xs its ∧ IsTup s.heap a its.toArray ∧ xs.length ≤ sizeLine:=by
 rcases h with h | ⟨o,its,n,hk,hc,hs,hz,r⟩
 ·obtain ⟨z,its,r,p⟩:=h.ok I.hok
  exact ⟨its,r,p,z⟩
 ·refine ⟨its.toList,r,⟨o,I.kIn a o hk,hc,n,by simpa using hs⟩,?_⟩
  have e:=r.length
  simp only [Array.length_toList] at e
  lia
theorem Inv.list_inj (I:Inv X pins σ H s) (h:SqL X.K H a xs) (h':SqL X.K H a ys):xs = ys:=by
 obtain ⟨its,r,⟨o,n,e,_,_,d⟩,_⟩:=I.list h
 obtain ⟨its',r',⟨o',n',e',_,_,d'⟩,_⟩:=I.list h'
 rw [e] at e'; cases e'
 rw [d] at d'
 injection d' with d1 _
 have:its = its':=by simpa using congrArg Array.toList d1
 subst this
 exact r.inj r'
theorem Inv.tuple_inj (I:Inv X pins σ H s) (h:SqT X.K H a xs) (h':SqT X.K H a ys):xs = ys:=by
 obtain ⟨its,r,⟨o,e,_,n,d⟩,_⟩:=I.tuple h
 obtain ⟨its',r',⟨o',e',_,n',d'⟩,_⟩:=I.tuple h'
 rw [e] at e'; cases e'
 rw [d] at d'
 injection d' with d1 _
 have:its = its':=by simpa using congrArg Array.toList d1
 subst this
 exact r.inj r'
end
abbrev Cx.wish (X:Cx) (E:Value → Shared → Prop):Cx:={ X with xe:=E }
abbrev Cx.nox (X:Cx):Cx:=X.wish fun _ _=>False
theorem Cx.Ok.wish {X:Cx} (ok:X.Ok) (E:Value → Shared → Prop):(X.wish E).Ok :=
 ⟨ok.mod,ok.kind,ok.glob,ok.blt,ok.above,ok.inj,ok.has,ok.cab,ok.hd,ok.frames,ok.stk,ok.exf,ok.bs,ok.bsz,ok.noex,ok.exfs,ok.funs,ok.frf⟩
theorem Cx.Ok.unwish {X:Cx} {E:Value → Shared → Prop} (ok:(X.wish E).Ok):X.Ok :=
 ⟨ok.mod,ok.kind,ok.glob,ok.blt,ok.above,ok.inj,ok.has,ok.cab,ok.hd,ok.frames,ok.stk,ok.exf,ok.bs,ok.bsz,ok.noex,ok.exfs,ok.funs,ok.frf⟩
section
variable {X:Cx} {pins:List (Addr × Obj)} {σ:St} {H:Hp} {s:Shared} {E:Value → Shared → Prop}
theorem Inv.wish (I:Inv X pins σ H s) (E:Value → Shared → Prop):Inv (X.wish E) pins σ H s:=⟨I.ok.wish E,I.os,I.bare,I.base,I.loc,I.cell,I.free,I.freeC,I.pin,I.hok,I.len⟩
theorem Inv.unwish (I:Inv (X.wish E) pins σ H s):Inv X pins σ H s:=⟨I.ok.unwish,I.os,I.bare,I.base,I.loc,I.cell,I.free,I.freeC,I.pin,I.hok,I.len⟩
theorem SP.unwish {D:Ends} {f:Flow} {s':Shared} (h:SP (X.wish E) pins D f s'):SP X pins D f s':=by
 cases f with
 | next=>obtain ⟨σ',H',I,q⟩:=h; exact ⟨σ',H',I.unwish,q⟩
 | brk=>obtain ⟨σ',H',I,q⟩:=h; exact ⟨σ',H',I.unwish,q⟩
 | cont=>obtain ⟨σ',H',I,q⟩:=h; exact ⟨σ',H',I.unwish,q⟩
 | ret u=>obtain ⟨v,σ',H',I,r,q⟩:=h; exact ⟨v,σ',H',I.unwish,r,q⟩
theorem PSs.nox {st:List Stmt} {t:TS} (h:PSs X.nox st t):PSs X st t:=fun pins s σ H D I hw =>
 wpAny_mono (h pins s σ H D (I.wish _) hw) (fun _ _ q=>q.unwish) fun _ _ z=>False.elim z
end
section
variable {X:Cx} {st:Stmt} {rest:List Stmt} {t u:TS} {e:Expr} {te:TE} {pos:Pos}
def ak8:TS:=fun D σ H=>D.nx σ H
def aF5 (t u:TS):TS:=fun D σ H=>t { D with nx:=u D } σ H
theorem m7:PSs X [] ak8:=fun _ _ σ H _ I h=>wpAny_execs_nil ⟨σ,H,I,h⟩
theorem e6 (h1:PS X st t) (h2:PSs X rest u):PSs X (st :: rest) (aF5 t u):=by
 intro pins s σ H D I h
 refine wpAny_execs_cons (thn (h1 pins s σ H { D with nx:=u D } I h) fun f s1 q=>?_)
 cases f with
 | next =>
  obtain ⟨σ',H',I',q⟩:=q
  exact h2 pins s1 σ' H' D I' q
 | ret v=>exact q
 | brk=>exact q
 | cont=>exact q
theorem h7 (h1:PS X st t):PSs X [st] t:=by
 intro pins s σ H D I h
 refine wpAny_execs_cons (thn (h1 pins s σ H D I h) fun f s1 q=>?_)
 cases f with
 | next=>exact wpAny_execs_nil q
 | ret v=>exact q
 | brk=>exact q
 | cont=>exact q
theorem Inv.quiet {pins:List (Addr × Obj)} {σ:St} {H:Hp} {s:Shared} (I:Inv X pins σ H s):interactive X.env = false:=by simp [interactive,I.ok.kind]
def aE6 (te:TE):TS:=fun D σ H=>te σ H fun _ H1=>D.nx σ H1
theorem A0 (he:PE X e te) (hs:swapsWith e none pos.line X.env = pure false:=by rfl):PS X (.Expr e pos) (aE6 te):=by
 intro pins s σ H D I h
 exact wpAny_Expr_any (thn (he pins s σ H _ I h) fun v s1 ⟨x,H1,I1,r1,q1⟩=>⟨σ,H1,I1,q1⟩) I.quiet hs
def aI8 (te:TE):TS:=fun D σ H=>te σ H D.rt
theorem j8 (he:PE X e te):PS X (.Return (some e) pos) (aI8 te):=by
 intro pins s σ H D I h
 exact wpAny_Return_some (thn (he pins s σ H _ I h) fun v s1 ⟨x,H1,I1,r1,q1⟩=>⟨x,σ,H1,I1,r1,q1⟩)
def aK2 (c:TT) (t u:TS):TS:=fun D σ H=>c σ H fun b H1=>if b = true then t D σ H1 else u D σ H1
theorem q0 {c:Expr} {a b:List Stmt} {tc:TT} (hc:PT X c tc) (ha:PSs X a t) (hb:PSs X b u):PS X (.If c a b pos) (aK2 tc t u):=by
 intro pins s σ H D I h
 refine wpAny_If (thn (hc pins s σ H _ I h) fun d s1 ⟨H1,I1,q1⟩=>?_)
 cases d with
 | true=>exact ha pins s1 σ H1 D I1 q1
 | false=>exact hb pins s1 σ H1 D I1 q1
end
abbrev TG:=V → St → Hp → (St → Hp → Prop) → Prop
def PG (X:Cx) (target:Expr) (t:TG):Prop :=
 ∀ (pins:List (Addr × Obj)) (s:Shared) (σ:St) (H:Hp) (v:V) (u:Value) (Q:St → Hp → Prop),Inv X pins σ H s → i9 v u → t v σ H Q →
  wpAny (model X.prog X.w) X.A (assign target X.env u) (fun _ s'=>∃ σ' H',Inv X pins σ' H' s' ∧ Q σ' H') X.xe s
abbrev aD2:=V → V → V → Hp → (Hp → Prop) → Prop
def aD0 (X:Cx) (t:aD2):Prop :=
 ∀ (pins:List (Addr × Obj)) (s:Shared) (σ:St) (H:Hp) (o i v:V) (ov iv u:Value) (Q:Hp → Prop),Inv X pins σ H s → i9 o ov → i9 i iv → i9 v u → t o i v H Q →
  wpAny (model X.prog X.w) X.A (setItem ov iv u) (fun _ s'=>∃ H',Inv X pins σ H' s' ∧ Q H') X.xe s
abbrev TIp:=V → V → Hp → VK → Prop
def PIp (X:Cx) (op:Operator) (t:TIp):Prop :=
 ∀ (pins:List (Addr × Obj)) (s:Shared) (σ:St) (H:Hp) (x y:V) (v u:Value) (Q:VK),Inv X pins σ H s → i9 x v → i9 y u → t x y H Q →
  wpAny (model X.prog X.w) X.A (inplaceOp op v u) (EP X pins σ Q) X.xe s
section
variable {X:Cx} {pos:Pos}
def Z1 (i:Nat):TG:=fun v σ H Q=>Q (σ.set i (some v)) H
theorem n5 {i:Nat} {x:Str} (hN:X.N.Nodup) (hi:X.N[i]? = some x) (hx:Loc X.env.scope x) (hf:X.fn x = true ∨ X.env.scope.names.lookup x = some .local:=by first | exact .inl rfl | exact .inr rfl | assumption):PG X (.Name x pos) (Z1 i):=by
 intro pins s σ H v u Q I r h
 exact wpAny_assign_Name (Q8 I hN hi hx r (fun s' I'=>⟨_,H,I',h⟩) hf)
def aG0 (te:TE) (g:TG):TS:=fun D σ H=>te σ H fun x H1=>g x σ H1 D.nx
theorem i4 {i:Nat} {x:Str} {e:Expr} {te:TE} {pos':Pos} (hN:X.N.Nodup) (hi:X.N[i]? = some x) (hx:Loc X.env.scope x) (he:PE X e te) (hs:swapsWith e (some (.Name x pos')) pos.line X.env = pure false:=by rfl) (hf:X.fn x = true ∨ X.env.scope.names.lookup x = some .local:=by first | exact .inl rfl | exact .inr rfl | assumption) :
  PS X (.Assign [.Name x pos'] e pos) (aG0 te (Z1 i)):=by
 intro pins s σ H D I h
 refine wpAny_Assign_Name (thn (he pins s σ H _ I h) fun v s1 ⟨y,H1,I1,r1,q1⟩=>?_) hs
 exact Q8 I1 hN hi hx r1 (fun s2 I2=>⟨_,H1,I2,q1⟩) hf
def aE5 (to ti te:TE) (tget:V → V → Hp → VK → Prop) (tip:TIp) (tset:aD2):TS:=fun D σ H=>to σ H fun o H1=>ti σ H1 fun i H2=>tget o i H2 fun x H3=>te σ H3 fun y H4=>tip x y H4 fun z H5=>tset o i z H5 fun H6=>D.nx σ H6
def aB1 (X:Cx) (t:V → V → Hp → VK → Prop):Prop :=
 ∀ (pins:List (Addr × Obj)) (s:Shared) (σ:St) (H:Hp) (o i:V) (ov iv:Value) (Q:VK),Inv X pins σ H s → i9 o ov → i9 i iv → t o i H Q →
  wpAny (model X.prog X.w) X.A (getItem ov iv) (EP X pins σ Q) X.xe s
theorem at3 {o i e:Expr} {to ti te:TE} {tget:V → V → Hp → VK → Prop} {tip:TIp} {tset:aD2} {op:Operator} {tpos:Pos} (ho:PE X o to) (hi:PE X i ti) (hg:aB1 X tget) (he:PE X e te) (hp:PIp X op tip) (hs:aD0 X tset)
  (ha:∀ ov iv new,augStore i ov iv new = (do holding [new,ov,iv] (setItem ov iv new); release [new,ov,iv] []; pure .next):=by intros; rfl):PS X (.AugAssign (.Subscript o i tpos) op e pos) (aE5 to ti te tget tip tset):=by
 intro pins s σ H D I h
 refine wpAny_AugAssign_SubscriptAny (thn (ho pins s σ H _ I h) fun ov s1 ⟨x1,H1,I1,r1,q1⟩=>?_) ha
 refine thn (hi pins s1 σ H1 _ I1 q1) fun iv s2 ⟨x2,H2,I2,r2,q2⟩=>?_
 refine thn (hg pins s2 σ H2 x1 x2 ov iv _ I2 r1 r2 q2) fun old s3 ⟨x3,H3,I3,r3,q3⟩=>?_
 refine thn (he pins s3 σ H3 _ I3 q3) fun v s4 ⟨x4,H4,I4,r4,q4⟩=>?_
 refine thn (hp pins s4 σ H4 x3 x4 old v _ I4 r3 r4 q4) fun new s5 ⟨x5,H5,I5,r5,q5⟩=>?_
 exact thn (hs pins s5 σ H5 x1 x2 x5 ov iv new _ I5 r1 r2 r5 q5) fun _ s6 ⟨H6,I6,q6⟩=>⟨σ,H6,I6,q6⟩
end
structure It where
 go:Nat → Hp → Prop
 yld:Nat → Hp → V → Hp → Prop
 stop:Nat → Hp → Prop
def D5 (X:Cx) (pins:List (Addr × Obj)) (H:Hp) (b:Addr):Prop :=
 H b = none ∧ b ≠ X.env.locals ∧ b ∉ X.fs ∧ (b ∈ X.ex ∨ X.s₀.heap.objs.size ≤ b) ∧ (∀ x c,X.env.cells.lookup x = some c → c ≠ b) ∧ ∀ p ∈ X.pn ++ pins,p.1 ≠ b
theorem Inv.fpOk {X:Cx} {pins:List (Addr × Obj)} {σ:St} {H H':Hp} {s:Shared} {b:Addr} (I:Inv X pins σ H s) (hb:s.heap.objs.size ≤ b) (hn:H' b = none):D5 X pins H' b:=by
 refine ⟨hn,Nat.ne_of_gt (Nat.lt_of_lt_of_le I.lt hb),I.nofs hb,.inr (Nat.le_trans I.sz hb),fun x c e z=>?_,fun p hp z=>?_⟩
 ·obtain ⟨v,q⟩:=I.cell x c e
  exact absurd (Nat.lt_of_lt_of_le q.lt (by rw [z]; exact hb)) (Nat.lt_irrefl _)
 ·exact absurd (Nat.lt_of_lt_of_le (Heap.lt_size (I.pin p hp).1) (by rw [z]; exact hb)) (Nat.lt_irrefl _)
structure Turn (P:Program) (w:World) (K:PySem.W.Frag) (tg:Expr) (J:It) (fp:List Addr) (it:Addr) (tn:Nat → Heap → Prop):Prop where
 mem:it ∈ fp
 obj:∀ i h,tn i h → ∀ b ∈ fp,∃ o,h.get? b = some o ∧ ∀ v,o.data ≠ .cell v
 keep:∀ i h h',tn i h → (∀ b ∈ fp,∀ o,h.get? b = some o → h'.get? b = some o) → tn i h'
 item:∀ (X:Cx),X.prog = P → X.w = w → X.K = K → X.calm = true → ∀ (i:Nat) (pins:List (Addr × Obj)) (s:Shared) (σ:St) (H:Hp) (E:Value → Shared → Prop),Inv X pins σ H s → (∀ b ∈ fp,D5 X pins H b) → tn i s.heap → J.go i H →
  wpAny (model P w) X.A (pyNext (.ref it)) (fun r s1=>∃ u,r = some u ∧
   wpAny (model P w) X.A (letOwnedTupleGo tg (.ref it) u) (fun _ s2=>∃ x H',Inv X pins σ H' s2 ∧ i9 x u ∧ J.yld i H x H' ∧ tn (i + 1) s2.heap ∧ ∀ b ∈ fp,H' b = none) E s1) E s
 done:∀ (X:Cx),X.prog = P → X.w = w → X.K = K → X.calm = true → ∀ (i:Nat) (pins:List (Addr × Obj)) (s:Shared) (σ:St) (H:Hp) (E:Value → Shared → Prop),Inv X pins σ H s → (∀ b ∈ fp,D5 X pins H b) → tn i s.heap → J.stop i H →
  wpAny (model P w) X.A (pyNext (.ref it)) (fun r s1=>r = none ∧ Inv X pins σ H s1) E s
 self:∀ (A:Around) (i:Nat) (s:Shared) (Q:Value → Shared → Prop) (E:Value → Shared → Prop),tn i s.heap → Q (.ref it) s → wpAny (model P w) A (pyIter (.ref it)) Q E s
abbrev TI:=St → Hp → (It → Hp → Prop) → Prop
def PIE (X:Cx) (pins:List (Addr × Obj)) (σ:St) (tg:Expr) (R:It → Hp → Prop) (itv:Value) (s2:Shared):Prop :=
 ∃ (it:Addr) (fp:List Addr) (tn:Nat → Heap → Prop) (J:It) (H':Hp),itv = .ref it ∧ Inv X pins σ H' s2 ∧ Turn X.prog X.w X.K tg J fp it tn ∧ tn 0 s2.heap ∧ (∀ b ∈ fp,D5 X pins H' b) ∧ R J H'
def PI (X:Cx) (tg iter:Expr) (wi:TI):Prop :=
 ∀ (pins:List (Addr × Obj)) (s:Shared) (σ:St) (H:Hp) (R:It → Hp → Prop),Inv X pins σ H s → wi σ H R →
  wpAny (model X.prog X.w) X.A (eval iter X.env) (fun v s1=>wpAny (model X.prog X.w) X.A (pyIter v) (PIE X pins σ tg R) X.xe s1) X.xe s
theorem aj8 {M:Model} {A:Around} {E:Value → Shared → Prop} {s:Shared} {tg:Expr} {it:Addr} {u:Value} {o:Obj} {n:String} {vs:Array Value} {Q:Unit → Shared → Prop} (ho:s.heap.get? it = some o) (hc:o.cls = .type n) (hd:o.data = .fields vs)
    (hn:["enumerate","zip","dict_itemiterator","dict_reverseitemiterator","odict_iterator","itertools.zip_longest","itertools.pairwise"].contains n = false) (hQ:Q () s):wpAny M A (letOwnedTupleGo tg (.ref it) u) Q E s:=by
  unfold letOwnedTupleGo
  cases tg <;> first
    | exact wpAny_pure hQ
    | (cases u <;> first
        | exact wpAny_pure hQ
        | (refine wpAny_bind (wpAny_load ho ?_)
           rw [hc,hd]
           show wpAny M A (if (["enumerate","zip","dict_itemiterator","dict_reverseitemiterator","odict_iterator","itertools.zip_longest","itertools.pairwise"].contains n && vs[0]? == some (rawInt _)) = true then _ else _) Q E s
           rw [if_neg (by intro h; rw [hn,Bool.false_and] at h; cases h)]
           exact wpAny_pure hQ))
def Itl (K:PySem.W.Frag) (a:Addr):It :=
 ⟨fun i H=>∃ xs x,SqL K H a xs ∧ xs[i]? = some x,fun i H x H'=>H' = H ∧ ∀ xs,SqL K H a xs → xs[i]? = some x,fun i H=>∃ xs,SqL K H a xs ∧ xs.length ≤ i⟩
def Itt (K:PySem.W.Frag) (a:Addr):It :=
 ⟨fun i H=>∃ xs x,SqT K H a xs ∧ xs[i]? = some x,fun i H x H'=>H' = H ∧ ∀ xs,SqT K H a xs → xs[i]? = some x,fun i H=>∃ xs,SqT K H a xs ∧ xs.length ≤ i⟩
def Itr (lo:Int) (n:Nat):It:=⟨fun i _=>i < n,fun i H x H'=>H' = H ∧ x = .int (lo + i),fun i _=>n ≤ i⟩
theorem ai5 {P:Program} {w:World} {K:PySem.W.Frag} {tg:Expr} (a it:Addr):Turn P w K tg (Itl K a) [it] it (fun i h=>h.IsListIter it a i) where
 mem:=by simp
 obj:=fun i h st b hb=>by
  have e:b = it:=by simpa using hb
  subst e
  obtain ⟨o,e,c,d⟩:=st
  exact ⟨o,e,fun v z=>by rw [d] at z; cases z⟩
 keep:=fun i h h' st k=>st.at fun o e=>k it (by simp) o e
 item:=by
  intro X hP hw hK hc i pins s σ H E I hf st hg
  subst hP hw hK
  obtain ⟨xs,x,hq,hx⟩:=hg
  obtain ⟨its,rv,p,hz⟩:=I.list hq
  obtain ⟨u,hu,ru⟩:=rv.get hx
  obtain ⟨f0,f1,f2,f3,f4,f5⟩:=hf it (by simp)
  refine wpAny_pyNext_list_item st p.isList (x:=u) (by simpa using hu) fun h' st' sb=>?_
  have I1:Inv X pins σ H { s with heap:=h' }:=I.turned (t':=s.toks) (fun b o hb e=>(sb.2 b hb).trans e) f0 f1 f3 f4 f5
  obtain ⟨o,e,c,d⟩:=id st'
  exact ⟨u,rfl,aj8 (s:={ s with heap:=h' }) e c d (by decide) ⟨x,H,I1,ru,⟨rfl,fun ys hy=>by rw [I.list_inj hy hq]; exact hx⟩,st',fun b hb=>(hf b hb).1⟩⟩
 done:=by
  intro X hP hw hK hc i pins s σ H E I hf st hg
  subst hP hw hK
  obtain ⟨xs,hq,hx⟩:=hg
  obtain ⟨its,rv,p,hz⟩:=I.list hq
  obtain ⟨f0,f1,f2,f3,f4,f5⟩:=hf it (by simp)
  have hl:=rv.length
  exact wpAny_pyNext_list_end (I.ok.hd hc) st p.isList (by simp; lia) fun h' eb=>⟨rfl,I.turned (t':=s.toks) (fun b o hb e=>eb b o hb e) f0 f1 f3 f4 f5⟩
 self:=fun _ _ _ _ _ st h=>wpAny_pyIter_listiter st h
theorem aa7 {P:Program} {w:World} {K:PySem.W.Frag} {tg:Expr} (a it:Addr):Turn P w K tg (Itt K a) [it] it (fun i h=>h.IsTupleIter it a i) where
 mem:=by simp
 obj:=fun i h st b hb=>by
  have e:b = it:=by simpa using hb
  subst e
  obtain ⟨o,e,c,d⟩:=st
  exact ⟨o,e,fun v z=>by rw [d] at z; cases z⟩
 keep:=fun i h h' st k=>st.at fun o e=>k it (by simp) o e
 item:=by
  intro X hP hw hK hc i pins s σ H E I hf st hg
  subst hP hw hK
  obtain ⟨xs,x,hq,hx⟩:=hg
  obtain ⟨its,rv,p,hz⟩:=I.tuple hq
  obtain ⟨u,hu,ru⟩:=rv.get hx
  obtain ⟨f0,f1,f2,f3,f4,f5⟩:=hf it (by simp)
  refine wpAny_pyNext_tuple_item st (show s.heap.IsTuple a its.toArray from p) (x:=u) (by simpa using hu) fun h' st' sb=>?_
  have I1:Inv X pins σ H { s with heap:=h' }:=I.turned (t':=s.toks) (fun b o hb e=>(sb.2 b hb).trans e) f0 f1 f3 f4 f5
  obtain ⟨o,e,c,d⟩:=id st'
  exact ⟨u,rfl,aj8 (s:={ s with heap:=h' }) e c d (by decide) ⟨x,H,I1,ru,⟨rfl,fun ys hy=>by rw [I.tuple_inj hy hq]; exact hx⟩,st',fun b hb=>(hf b hb).1⟩⟩
 done:=by
  intro X hP hw hK hc i pins s σ H E I hf st hg
  subst hP hw hK
  obtain ⟨xs,hq,hx⟩:=hg
  obtain ⟨its,rv,p,hz⟩:=I.tuple hq
  obtain ⟨f0,f1,f2,f3,f4,f5⟩:=hf it (by simp)
  have hl:=rv.length
  exact wpAny_pyNext_tuple_end (I.ok.hd hc) st (show s.heap.IsTuple a its.toArray from p) (by simp; lia) fun h' eb=>⟨rfl,I.turned (t':=s.toks) (fun b o hb e=>eb b o hb e) f0 f1 f3 f4 f5⟩
 self:=fun _ _ _ _ _ st h=>wpAny_pyIter_tupleiter st h
theorem ab8 {P:Program} {w:World} {K:PySem.W.Frag} {tg:Expr} (it:Addr) (lo:Int) (n:Nat):Turn P w K tg (Itr lo n) [it] it (fun i h=>IsRangeIter h it (lo + (i:Nat) * 1) ((n:Int) - (i:Nat)) 1) where
 mem:=by simp
 obj:=fun i h st b hb=>by
  have e:b = it:=by simpa using hb
  subst e
  exact ⟨_,st,fun v z=>by
   have z':Data.fields _ = Data.cell v:=z
   cases z'⟩
 keep:=fun i h h' st k=>k it (by simp) _ st
 item:=by
  intro X hP hw hK hc i pins s σ H E I hf st hg
  subst hP hw hK
  obtain ⟨f0,f1,f2,f3,f4,f5⟩:=hf it (by simp)
  have W:=Walks.range (prog:=X.prog) (w:=X.w) (I.ok.hd hc) it lo 1 n
  refine W.item i s _ _ hg st fun v h' tk hv st' kk=>?_
  obtain ⟨t,rfl⟩:=hv
  have I1:Inv X pins σ H { s with heap:=h',toks:=tk }:=I.turned (fun b o hb e=>kk b o (by simpa using hb) e) f0 f1 f3 f4 f5
  refine ⟨_,rfl,aj8 (s:={ s with heap:=h',toks:=tk }) (n:="range_iterator") st' rfl rfl (by decide) ⟨.int (lo + i),H,I1,⟨t,?_⟩,⟨rfl,rfl⟩,st',fun b hb=>(hf b hb).1⟩⟩
  rw [Int.mul_one]
 done:=by
  intro X hP hw hK hc i pins s σ H E I hf st hg
  subst hP hw hK
  obtain ⟨f0,f1,f2,f3,f4,f5⟩:=hf it (by simp)
  exact wpAny_pyNext_range_end (I.ok.hd hc) st (by have:n ≤ i:=hg; lia) fun h' eb=>⟨rfl,I.turned (t':=s.toks) (fun b o hb e=>eb b o hb e) f0 f1 f3 f4 f5⟩
 self:=fun _ _ _ _ _ st h=>wpAny_pyIter_rangeiter st h
end L2
namespace L2
open PySem PySem.Spec PyProof.Rows
section
variable {X:Cx} {tg:Expr}
def az2 (K:PySem.W.Frag) (tl:TE):TI:=fun σ H R=>tl σ H fun x H1=>∃ a,x = .ref a ∧ (∃ xs,SqL K H1 a xs) ∧ R (Itl K a) H1
def aF1 (K:PySem.W.Frag) (tl:TE):TI:=fun σ H R=>tl σ H fun x H1=>∃ a,x = .ref a ∧ (∃ xs,SqT K H1 a xs) ∧ R (Itt K a) H1
theorem au7 {l:Expr} {tl:TE} (hl:PE X l tl):PI X tg l (az2 X.K tl):=by
 intro pins s σ H R I h
 refine thn (hl pins s σ H _ I h) fun v s1 ⟨x,H1,I1,r1,q1⟩=>?_
 obtain ⟨a,e,⟨xs,hq⟩,q⟩:=q1
 subst e
 cases r1
 obtain ⟨its,rv,p,hz⟩:=I1.list hq
 refine wpAny_pyIter_list p.isList ?_
 refine ⟨s1.heap.objs.size,[s1.heap.objs.size],_,_,H1,rfl,I1.kept (t':=s1.toks) fun b o e=>Heap.get?_push_of_some _ e,ai5 a _,⟨_,Heap.get?_push_size _ rfl,rfl,rfl⟩,fun b hb=>?_,q⟩
 have e:b = s1.heap.objs.size:=by simpa using hb
 subst e
 exact I1.fpOk (Nat.le_refl _) (I1.hok.fresh (Nat.le_refl _))
theorem aD5 {l:Expr} {tl:TE} (hl:PE X l tl):PI X tg l (aF1 X.K tl):=by
 intro pins s σ H R I h
 refine thn (hl pins s σ H _ I h) fun v s1 ⟨x,H1,I1,r1,q1⟩=>?_
 obtain ⟨a,e,⟨xs,hq⟩,q⟩:=q1
 subst e
 cases r1
 obtain ⟨its,rv,p,hz⟩:=I1.tuple hq
 refine wpAny_pyIter_tuple (show s1.heap.IsTuple a its.toArray from p) ?_
 refine ⟨s1.heap.objs.size,[s1.heap.objs.size],_,_,H1,rfl,I1.kept (t':=s1.toks) fun b o e=>Heap.get?_push_of_some _ e,aa7 a _,⟨_,Heap.get?_push_size _ rfl,rfl,rfl⟩,fun b hb=>?_,q⟩
 have e:b = s1.heap.objs.size:=by simpa using hb
 subst e
 exact I1.fpOk (Nat.le_refl _) (I1.hok.fresh (Nat.le_refl _))
theorem ar5 {pins:List (Addr × Obj)} {σ:St} {H:Hp} {s:Shared} {R:It → Hp → Prop} {E:Value → Shared → Prop} {lo hi:Int} {t u v:Tok} {tk:Nat} (I:Inv X pins σ H s) (h1:-(2 ^ 62) ≤ lo) (h2:lo < 2 ^ 62) (h3:-(2 ^ 62) ≤ hi) (h4:hi < 2 ^ 62)
  (q:R (Itr lo (hi - lo).toNat) H):wpAny (model X.prog X.w) X.A (pyIter (.ref s.heap.objs.size)) (PIE X pins σ tg R) E { s with heap:=s.heap.push { cls:=.type "range",data:=.fields #[.int lo t,.int hi u,.int 1 v] },toks:=tk }:=by
 refine wpAny_pyIter_range (IsRange.new ..) (small_one h1 h2 h3 h4) ?_
 have I1:Inv X pins σ H { s with heap:=s.heap.push { cls:=.type "range",data:=.fields #[.int lo t,.int hi u,.int 1 v] },toks:=tk }:=I.kept fun b o e=>Heap.get?_push_of_some _ e
 refine ⟨(s.heap.push { cls:=.type "range",data:=.fields #[.int lo t,.int hi u,.int 1 v] }).objs.size,[(s.heap.push { cls:=.type "range",data:=.fields #[.int lo t,.int hi u,.int 1 v] }).objs.size],_,_,H,rfl,
  I1.kept (t':=tk) fun b o e=>Heap.get?_push_of_some _ e,ab8 _ lo (hi - lo).toNat,?_,fun b hb=>?_,q⟩
 ·have e1:lo + ((0:Nat):Int) * 1 = lo:=by simp
  have e2:(((hi - lo).toNat:Nat):Int) - ((0:Nat):Int) = Builtin.Range.rangeSize lo hi 1:=by rw [rangeSize_one]; split <;> lia
  show IsRangeIter _ _ (lo + ((0:Nat):Int) * 1) ((((hi - lo).toNat:Nat):Int) - ((0:Nat):Int)) 1
  rw [e1,e2]
  exact Heap.get?_push_size _ rfl
 ·have e:b = (s.heap.push { cls:=.type "range",data:=.fields #[.int lo t,.int hi u,.int 1 v] }).objs.size:=by simpa using hb
  subst e
  exact I1.fpOk (Nat.le_refl _) (I1.hok.fresh (Nat.le_refl _))
def aE7 (ta:TA):TI:=fun σ H R=>ta σ H fun vs H1=>∃ j:Int,vs = [.int j] ∧ -(2 ^ 62) ≤ j ∧ j < 2 ^ 62 ∧ R (Itr 0 j.toNat) H1
theorem y4 {a:Expr} {ta:TA} {p pos:Pos} (hg:Gl X "range") (hm:X.mg "range" = none) (ha:PA X [a] ta) (hs:starEach [a] X.env = [(false,eval a X.env)]:=by rfl):PI X tg (.Call (.Name "range" p) [a] [] pos) (aE7 ta):=by
 intro pins s σ H R I h
 refine Call_ (O0 I hg hm boot_range (PyProof.Rows.callWith_type1 (thn (ha pos pins s σ H _ I h) fun us s1 ⟨vs,H1,I1,r1,q1⟩=>?_) hs rfl))
 obtain ⟨j,e,q1,q2,q⟩:=q1
 subst e
 cases r1 with
 | cons r rr =>
  cases rr
  obtain ⟨t,rfl⟩:=r
  exact call_range_1 (ar5 I1 (by lia) (by lia) q1 q2 (by simpa using q))
def aK0 (wi:TI) (g:TG) (tb:TS):TS:=fun D σ H=>wi σ H fun J H1=>∃ W:Nat → Nat → St → Hp → Prop,(∃ m,W 0 m σ H1) ∧ ∀ i m σ H,W i m σ H →
 (J.stop i H ∧ D.nx σ H) ∨ (J.go i H ∧ ∃ N:St → Hp → Prop,(∀ σ' H',N σ' H' → ∃ m',m' < m ∧ W (i + 1) m' σ' H') ∧ ∀ x H',J.yld i H x H' → g x σ H' fun σ2 H2=>tb { D with nx:=N,ct:=N,bk:=D.nx } σ2 H2)
def D7 (fp:List Addr) (h:Heap):List (Addr × Obj):=fp.filterMap fun b=>(h.get? b).map fun o=>(b,o)
theorem o0 {fp:List Addr} {h:Heap} {b:Addr} {o:Obj} (hb:b ∈ fp) (e:h.get? b = some o):(b,o) ∈ D7 fp h:=List.mem_filterMap.mpr ⟨b,hb,by rw [e]; rfl⟩
theorem V3 {fp:List Addr} {h:Heap} {p:Addr × Obj} (hp:p ∈ D7 fp h):p.1 ∈ fp ∧ h.get? p.1 = some p.2:=by
 obtain ⟨b,hb,e⟩:=List.mem_filterMap.mp hp
 cases q:h.get? b with
 | none=>rw [q] at e; cases e
 | some o =>
  rw [q] at e
  have e':(b,o) = p:=Option.some.inj e
  subst e'
  exact ⟨hb,q⟩
theorem Inv.pinned {pins:List (Addr × Obj)} {σ:St} {H:Hp} {s:Shared} {fp:List Addr} (I:Inv X pins σ H s) (hf:∀ b ∈ fp,D5 X pins H b) (ho:∀ b ∈ fp,∃ o,s.heap.get? b = some o ∧ ∀ v,o.data ≠ .cell v):Inv X (pins ++ D7 fp s.heap) σ H s :=
 I.pins_of fun p hp=>(List.mem_append.mp hp).elim (fun z=>I.pin p (List.mem_append_right _ z)) fun z=>by
  obtain ⟨hb,e⟩:=V3 z
  obtain ⟨f0,f1,f2,_⟩:=hf p.1 hb
  obtain ⟨o,e',d⟩:=ho p.1 hb
  rw [e] at e'; cases e'
  exact ⟨e,f0,f1,f2,d⟩
theorem Inv.unpinned {pins pl:List (Addr × Obj)} {σ:St} {H:Hp} {s:Shared} (I:Inv X (pins ++ pl) σ H s):Inv X pins σ H s:=I.pins_of fun p hp=>I.pin p (List.mem_append_right _ (List.mem_append_left _ hp))
theorem y9 {iter:Expr} {body:List Stmt} {wi:TI} {g:TG} {tb:TS} {pos:Pos} (hp:PassesOwn (model X.prog X.w) X.A X.env X.xe) (hc:X.calm = true) (hi:PI X tg iter wi) (hg:PG X tg g) (hb:PSs X body tb)
  (hs:∀ x,foldedSetIterable iter X.env x = pure x:=by intro _; rfl):PS X (.For tg iter body [] pos) (aK0 wi g tb):=by
 intro pins s σ H D I h
 refine wpAny_For (thn (hi pins s σ H _ I h) fun v s1 h1=>thn h1 fun itv s2 h2=>?_) hs
 obtain ⟨it,fp,tn,J,H2,e,I2,T,st2,f2,W,⟨m0,w0⟩,turn⟩:=h2
 subst e
 have stat:∀ {H':Hp},(∀ b ∈ fp,H' b = none) → ∀ b ∈ fp,D5 X pins H' b:=fun hn b hb=>⟨hn b hb,(f2 b hb).2⟩
 refine codeAny_forLoop_any (fun n s'=>∃ i σ' H',Inv X pins σ' H' s' ∧ tn i s'.heap ∧ (∀ b ∈ fp,H' b = none) ∧ W i n σ' H') ?_ m0 ⟨0,σ,H2,I2,st2,fun b hb=>(f2 b hb).1,w0⟩
 rintro n s3 ⟨i,σ3,H3,I3,st3,fr3,w3⟩
 rcases turn i n σ3 H3 w3 with ⟨stop,qn⟩ | ⟨go,N,hN,step⟩
 ·refine wpAny_passesOwn hp (thn (T.done X rfl rfl rfl hc i pins s3 σ3 H3 X.xe I3 (stat fr3) st3 stop) fun r s4 ⟨hr,I4⟩=>?_)
  subst hr
  exact wpAny_execs_nil ⟨σ3,H3,I4,qn⟩
 ·refine wpAny_passesOwn hp (thn (T.item X rfl rfl rfl hc i pins s3 σ3 H3 X.xe I3 (stat fr3) st3 go) fun r s4 ⟨u,hr,h4⟩=>?_)
  subst hr
  refine wpAny_passesOwn hp (thn h4 fun _ s5 ⟨x,H5,I5,r5,y5,st5,fr5⟩=>?_)
  have I5':=I5.pinned (stat fr5) (T.obj _ _ st5)
  refine wpAny_passesOwn hp (thn (hg _ s5 σ3 H5 x u _ I5' r5 (step x H5 y5)) fun _ s6 ⟨σ6,H6,I6,q6⟩=>?_)
  refine wpAny_passesOwn hp (thn (hb _ s6 σ6 H6 _ I6 q6) fun f s7 q7=>?_)
  have again:∀ {σ7:St} {H7:Hp},Inv X (pins ++ D7 fp s5.heap) σ7 H7 s7 → N σ7 H7 → ∃ m,m < n ∧ ∃ i σ' H',Inv X pins σ' H' s7 ∧ tn i s7.heap ∧ (∀ b ∈ fp,H' b = none) ∧ W i m σ' H':=fun {σ7 H7} I7 n7=>by
   obtain ⟨m',hm,w7⟩:=hN σ7 H7 n7
   refine ⟨m',hm,i + 1,σ7,H7,I7.unpinned,T.keep _ _ _ st5 fun b hb o e=>(I7.pin (b,o) (List.mem_append_right _ (List.mem_append_right _ (o0 hb e)))).1,fun b hb=>?_,w7⟩
   obtain ⟨o,e,d⟩:=T.obj _ _ st5 b hb
   exact (I7.pin (b,o) (List.mem_append_right _ (List.mem_append_right _ (o0 hb e)))).2.1
  cases f with
  | next=>obtain ⟨σ7,H7,I7,n7⟩:=q7; exact again I7 n7
  | cont=>obtain ⟨σ7,H7,I7,n7⟩:=q7; exact again I7 n7
  | brk=>obtain ⟨σ7,H7,I7,q7⟩:=q7; exact ⟨σ7,H7,I7.unpinned,q7⟩
  | ret v=>obtain ⟨x7,σ7,H7,I7,r7,q7⟩:=q7; exact ⟨x7,σ7,H7,I7.unpinned,r7,q7⟩
end
theorem C1 {K:PySem.W.Frag} {a:Addr} {xs:List V} {g:TG} {tb:TS} {D:Ends} {σ:St} {H:Hp} (Pv:Nat → St → Hp → Prop) (h0:Pv 0 σ H) (hl:∀ i σ H,i ≤ xs.length → Pv i σ H → SqL K H a xs)
  (hs:∀ i x σ H,xs[i]? = some x → Pv i σ H → g x σ H fun σ2 H2=>tb { D with nx:=Pv (i + 1),ct:=Pv (i + 1),bk:=D.nx } σ2 H2) (hd:∀ σ H,Pv xs.length σ H → D.nx σ H) :
  ∃ W:Nat → Nat → St → Hp → Prop,(∃ m,W 0 m σ H) ∧ ∀ i m σ H,W i m σ H →
   ((Itl K a).stop i H ∧ D.nx σ H) ∨ ((Itl K a).go i H ∧ ∃ N:St → Hp → Prop,(∀ σ' H',N σ' H' → ∃ m',m' < m ∧ W (i + 1) m' σ' H') ∧ ∀ x H',(Itl K a).yld i H x H' → g x σ H' fun σ2 H2=>tb { D with nx:=N,ct:=N,bk:=D.nx } σ2 H2):=by
 refine ⟨fun i m σ H=>m = xs.length - i ∧ i ≤ xs.length ∧ Pv i σ H,⟨xs.length,by simp,Nat.zero_le _,h0⟩,?_⟩
 rintro i m σ H ⟨rfl,hi,p⟩
 have q:=hl i σ H hi p
 by_cases hlt:i < xs.length
 ·refine .inr ⟨⟨xs,xs[i],q,by simp [hlt]⟩,Pv (i + 1),fun σ' H' p'=>⟨xs.length - (i + 1),by lia,rfl,hlt,p'⟩,fun x H' y=>?_⟩
  obtain ⟨e,y⟩:=y
  subst e
  exact hs i x σ _ (y xs q) p
 ·have e:i = xs.length:=by lia
  subst e
  exact .inl ⟨⟨xs,q,Nat.le_refl _⟩,hd σ H p⟩
theorem at5 {K:PySem.W.Frag} {a:Addr} {xs:List V} {g:TG} {tb:TS} {D:Ends} {σ:St} {H:Hp} (Pv:Nat → St → Hp → Prop) (h0:Pv 0 σ H) (hl:∀ i σ H,i ≤ xs.length → Pv i σ H → SqT K H a xs)
  (hs:∀ i x σ H,xs[i]? = some x → Pv i σ H → g x σ H fun σ2 H2=>tb { D with nx:=Pv (i + 1),ct:=Pv (i + 1),bk:=D.nx } σ2 H2) (hd:∀ σ H,Pv xs.length σ H → D.nx σ H) :
  ∃ W:Nat → Nat → St → Hp → Prop,(∃ m,W 0 m σ H) ∧ ∀ i m σ H,W i m σ H →
   ((Itt K a).stop i H ∧ D.nx σ H) ∨ ((Itt K a).go i H ∧ ∃ N:St → Hp → Prop,(∀ σ' H',N σ' H' → ∃ m',m' < m ∧ W (i + 1) m' σ' H') ∧ ∀ x H',(Itt K a).yld i H x H' → g x σ H' fun σ2 H2=>tb { D with nx:=N,ct:=N,bk:=D.nx } σ2 H2):=by
 refine ⟨fun i m σ H=>m = xs.length - i ∧ i ≤ xs.length ∧ Pv i σ H,⟨xs.length,by simp,Nat.zero_le _,h0⟩,?_⟩
 rintro i m σ H ⟨rfl,hi,p⟩
 have q:=hl i σ H hi p
 by_cases hlt:i < xs.length
 ·refine .inr ⟨⟨xs,xs[i],q,by simp [hlt]⟩,Pv (i + 1),fun σ' H' p'=>⟨xs.length - (i + 1),by lia,rfl,hlt,p'⟩,fun x H' y=>?_⟩
  obtain ⟨e,y⟩:=y
  subst e
  exact hs i x σ _ (y xs q) p
 ·have e:i = xs.length:=by lia
  subst e
  exact .inl ⟨⟨xs,q,Nat.le_refl _⟩,hd σ H p⟩
theorem z4 {lo:Int} {n:Nat} {g:TG} {tb:TS} {D:Ends} {σ:St} {H:Hp} (Pv:Nat → St → Hp → Prop) (h0:Pv 0 σ H)
  (hs:∀ i σ H,i < n → Pv i σ H → g (.int (lo + i)) σ H fun σ2 H2=>tb { D with nx:=Pv (i + 1),ct:=Pv (i + 1),bk:=D.nx } σ2 H2) (hd:∀ σ H,Pv n σ H → D.nx σ H) :
  ∃ W:Nat → Nat → St → Hp → Prop,(∃ m,W 0 m σ H) ∧ ∀ i m σ H,W i m σ H →
   ((Itr lo n).stop i H ∧ D.nx σ H) ∨ ((Itr lo n).go i H ∧ ∃ N:St → Hp → Prop,(∀ σ' H',N σ' H' → ∃ m',m' < m ∧ W (i + 1) m' σ' H') ∧ ∀ x H',(Itr lo n).yld i H x H' → g x σ H' fun σ2 H2=>tb { D with nx:=N,ct:=N,bk:=D.nx } σ2 H2):=by
 refine ⟨fun i m σ H=>m = n - i ∧ i ≤ n ∧ Pv i σ H,⟨n,by simp,Nat.zero_le _,h0⟩,?_⟩
 rintro i m σ H ⟨rfl,hi,p⟩
 by_cases hlt:i < n
 ·refine .inr ⟨hlt,Pv (i + 1),fun σ' H' p'=>⟨n - (i + 1),by lia,rfl,hlt,p'⟩,fun x H' y=>?_⟩
  obtain ⟨e,y⟩:=y
  subst e y
  exact hs i σ _ hlt p
 ·have e:i = n:=by lia
  subst e
  exact .inl ⟨Nat.le_refl _,hd σ H p⟩
end L2
namespace L2
open PySem PySem.Spec PyProof.Rows
abbrev R2:=V → V → Hp → VK → Prop
def OpR (X:Cx) (f:Value → Value → Sem Value) (r:R2):Prop :=
 ∀ (pins:List (Addr × Obj)) (s:Shared) (σ:St) (H:Hp) (x y:V) (v u:Value) (Q:VK),Inv X pins σ H s → i9 x v → i9 y u → r x y H Q →
  wpAny (model X.prog X.w) X.A (f v u) (EP X pins σ Q) X.xe s
def UnR (X:Cx) (f:Value → Sem Value) (r:V → Hp → VK → Prop):Prop :=
 ∀ (pins:List (Addr × Obj)) (s:Shared) (σ:St) (H:Hp) (x:V) (v:Value) (Q:VK),Inv X pins σ H s → i9 x v → r x H Q →
  wpAny (model X.prog X.w) X.A (f v) (EP X pins σ Q) X.xe s
def y3 (X:Cx) (f:Value) (r:List V → Hp → VK → Prop):Prop :=
 ∀ (pins:List (Addr × Obj)) (s:Shared) (σ:St) (H:Hp) (xs:List V) (us:List Value) (Q:VK),Inv X pins σ H s → i7 xs us → r xs H Q →
  wpAny (model X.prog X.w) X.A (call f us) (EP X pins σ Q) X.xe s
def aH5 (X:Cx) (r:V → Hp → (Bool → Hp → Prop) → Prop):Prop :=
 ∀ (pins:List (Addr × Obj)) (s:Shared) (σ:St) (H:Hp) (x:V) (v:Value) (Q:Bool → Hp → Prop),Inv X pins σ H s → i9 x v → r x H Q →
  wpAny (model X.prog X.w) X.A (truthy v) (TP X pins σ Q) X.xe s
def tOp (r:R2) (ta tb:TE):TE:=fun σ H Q=>ta σ H fun x H1=>tb σ H1 fun y H2=>r x y H2 Q
def tUn (r:V → Hp → VK → Prop) (ta:TE):TE:=fun σ H Q=>ta σ H fun x H1=>r x H1 Q
def rI (C:Int → Int → Prop) (g:Int → Int → V):R2:=fun x y H Q=>∃ i j,x = .int i ∧ y = .int j ∧ C i j ∧ Q (g i j) H
def rI0 (g:Int → Int → V):R2:=fun x y H Q=>∃ i j,x = .int i ∧ y = .int j ∧ Q (g i j) H
def rU (g:Int → V):V → Hp → VK → Prop:=fun x H Q=>∃ i,x = .int i ∧ Q (g i) H
section
variable {X:Cx} {a b c:Expr} {ta tb tc:TE} {pos:Pos}
theorem aE4 (ha:PE X a ta) (hb:PE X b tb) {pins:List (Addr × Obj)} {s:Shared} {σ:St} {H:Hp} {R:V → V → Hp → Prop} (I:Inv X pins σ H s)
  (h:ta σ H fun x H1=>tb σ H1 fun y H2=>R x y H2) {Q:Value → Shared → Prop} {f:Value → Value → Sem Value}
  (hf:∀ v u s2 x y H2,Inv X pins σ H2 s2 → i9 x v → i9 y u → R x y H2 → wpAny (model X.prog X.w) X.A (f v u) Q X.xe s2) :
  wpAny (model X.prog X.w) X.A (eval a X.env) (fun v s₁=>wpAny (model X.prog X.w) X.A (eval b X.env) (fun u s₂=>wpAny (model X.prog X.w) X.A (f v u) Q X.xe s₂) X.xe s₁) X.xe s:=by
 refine thn (ha pins s σ H _ I h) fun v s1 ⟨x,H1,I1,r1,q1⟩=>?_
 refine thn (hb pins s1 σ H1 _ I1 q1) fun u s2 ⟨y,H2,I2,r2,q2⟩=>?_
 exact hf v u s2 x y H2 I2 r1 r2 q2
theorem i3 {op:Operator} {r:R2} (ho:OpR X (binaryOp op) r) (ha:PE X a ta) (hb:PE X b tb):PE X (.BinOp a op b pos) (tOp r ta tb):=by
 intro pins s σ H Q I h
 exact wpAny_BinOp (aE4 ha hb I h fun v u s2 x y H2 I2 rx ry q=>ho pins s2 σ H2 x y v u Q I2 rx ry q)
theorem al4 {op:UnaryOp} {r:V → Hp → VK → Prop} (ho:UnR X (unaryOp op) r) (ha:PE X a ta):PE X (.UnaryOp op a pos) (tUn r ta):=by
 intro pins s σ H Q I h
 exact UnaryOp_ (thn (ha pins s σ H _ I h) fun v s1 ⟨x,H1,I1,r1,q1⟩=>ho pins s1 σ H1 x v Q I1 r1 q1)
theorem opI {f:Value → Value → Sem Value} {C:Int → Int → Prop} {g:Int → Int → Int}
  (rule:∀ (i j:Int) (t u:Tok) (s:Shared) (Q:Value → Shared → Prop) (E:Value → Shared → Prop),C i j → Q (.int (g i j) s.toks) { s with toks:=s.toks + 1 } → wpAny (model X.prog X.w) X.A (f (.int i t) (.int j u)) Q E s) :
  OpR X f (rI C fun i j=>.int (g i j)):=by
 intro pins s σ H x y v u Q I rx ry h
 obtain ⟨i,j,rfl,rfl,hc,q⟩:=h
 obtain ⟨t,rfl⟩:=rx
 obtain ⟨t',rfl⟩:=ry
 exact rule i j t t' s _ _ hc ⟨.int (g i j),H,I.tok _,⟨_,rfl⟩,q⟩
theorem aC2 {f:Value → Value → Sem Value} {g:Int → Int → Int}
  (rule:∀ (i j:Int) (t u:Tok) (s:Shared) (Q:Value → Shared → Prop) (E:Value → Shared → Prop),Q (.int (g i j) s.toks) { s with toks:=s.toks + 1 } → wpAny (model X.prog X.w) X.A (f (.int i t) (.int j u)) Q E s) :
  OpR X f (rI0 fun i j=>.int (g i j)):=by
 intro pins s σ H x y v u Q I rx ry h
 obtain ⟨i,j,rfl,rfl,q⟩:=h
 obtain ⟨t,rfl⟩:=rx
 obtain ⟨t',rfl⟩:=ry
 exact rule i j t t' s _ _ ⟨.int (g i j),H,I.tok _,⟨_,rfl⟩,q⟩
theorem aD6 {f:Value → Value → Sem Value} {g:Int → Int → Bool}
  (rule:∀ (i j:Int) (t u:Tok) (s:Shared) (Q:Value → Shared → Prop) (E:Value → Shared → Prop),Q (.bool (g i j)) s → wpAny (model X.prog X.w) X.A (f (.int i t) (.int j u)) Q E s) :
  OpR X f (rI0 fun i j=>.bl (g i j)):=by
 intro pins s σ H x y v u Q I rx ry h
 obtain ⟨i,j,rfl,rfl,q⟩:=h
 obtain ⟨t,rfl⟩:=rx
 obtain ⟨t',rfl⟩:=ry
 exact rule i j t t' s _ _ ⟨.bl (g i j),H,I,rfl,q⟩
def aJ3 (i j:Int):Prop:=0 < j ∧ j < 1073741824
def aF3 (i j:Int):Prop:=0 ≤ j ∧ j ≤ 1000000 ∧ i.natAbs < 2 ^ 64
def aC7 (i j:Int):Prop:=(-(2 ^ 64) < i ∧ i < 2 ^ 64) ∨ (-(2 ^ 64) < j ∧ j < 2 ^ 64)
theorem aC7.ok {i j:Int} (h:aC7 i j):IntMulOk i j:=by
 rcases h with ⟨h1,h2⟩ | ⟨h1,h2⟩
 ·exact .of_left (intBits_le_64 h1 h2)
 ·exact .of_right (intBits_le_64 h1 h2)
theorem ac9 (k:Nat):(0:Int) ≤ 2 ^ k:=by
 rw [two_pow_cast]
 exact Int.natCast_nonneg _
theorem z8:OpR X (binaryOp .Add) (rI0 fun i j=>.int (i + j)):=aC2 fun _ _ _ _ _ _ _ q=>add_int q
theorem n9:OpR X (binaryOp .Mult) (rI aC7 fun i j=>.int (i * j)):=opI fun _ _ _ _ _ _ _ hc q=>mul_int q hc.ok
theorem F1:OpR X (binaryOp .FloorDiv) (rI aJ3 fun i j=>.int (i / j)):=opI fun i j _ _ _ _ _ hc q=>by
 have h1:(0:Int) < j:=hc.1
 have h2:j < 1073741824:=hc.2
 exact floordiv_int (by lia) (by rw [Int.fdiv_eq_ediv_of_nonneg i (by lia)]; exact q) (.inl (PyProof.noPylong_small (by lia)))
theorem n4:OpR X (binaryOp .Mod) (rI (fun _ j=>0 < j) fun i j=>.int (i % j)):=opI fun i j _ _ _ _ _ hc q=>by
 have h1:(0:Int) < j:=hc
 exact mod_int' (by lia) (by rw [Int.fmod_eq_emod_of_nonneg i (by lia)]; exact q)
theorem V5:OpR X (binaryOp .Pow) (rI aF3 fun i j=>.int (i ^ j.toNat)):=opI fun _ _ _ _ _ _ _ hc q=>pow_int_small hc.1 hc.2.1 hc.2.2 q
theorem aD1:OpR X (binaryOp .LShift) (rI aF3 fun i j=>.int (i * 2 ^ j.toNat)):=opI fun _ _ _ _ _ _ _ hc q=>lshift_int_small hc.1 hc.2.1 hc.2.2 q
theorem aE0:OpR X (binaryOp .RShift) (rI (fun _ j=>0 ≤ j) fun i j=>.int (i / 2 ^ j.toNat)):=opI fun i j _ _ _ _ _ hc q =>
 rshift_int hc (by rw [Int.fdiv_eq_ediv_of_nonneg i (ac9 _)]; exact q)
theorem aB4:OpR X (binaryOp .BitAnd) (rI0 fun i j=>.int (Builtin.bitAnd i j)):=aC2 fun _ _ _ _ _ _ _ q=>and_int q
theorem aw1:OpR X (inplaceOp .Add) (rI0 fun i j=>.int (i + j)):=aC2 fun _ _ _ _ _ _ _ q=>iadd_int q
theorem unI {f:Value → Sem Value} {g:Int → Int}
  (rule:∀ (i:Int) (t:Tok) (s:Shared) (Q:Value → Shared → Prop) (E:Value → Shared → Prop),Q (.int (g i) s.toks) { s with toks:=s.toks + 1 } → wpAny (model X.prog X.w) X.A (f (.int i t)) Q E s) :
  UnR X f (rU fun i=>.int (g i)):=by
 intro pins s σ H x v Q I rx h
 obtain ⟨i,rfl,q⟩:=h
 obtain ⟨t,rfl⟩:=rx
 exact rule i t s _ _ ⟨.int (g i),H,I.tok _,⟨_,rfl⟩,q⟩
theorem ac8:UnR X (unaryOp .USub) (rU fun i=>.int (-i)):=unI fun _ _ _ _ _ q=>neg_int q
end
def aG6:V → V → Bool
 | .non,.non=>true | .non,.int _=>true | .int _,.non=>true | .non,.bl _=>true | .bl _,.non=>true | .non,.str _=>true | .str _,.non=>true
 | .int _,.int _=>true | .bl _,.bl _=>true | .str _,.str _=>true | .byt _,.byt _=>true
 | .int _,.str _=>true | .str _,.int _=>true | .bl _,.str _=>true | .str _,.bl _=>true
 | _,_=>false
def rEq:R2:=fun x y H Q=>aG6 x y = true ∧ Q (.bl (decide (x = y))) H
def rNe:R2:=fun x y H Q=>aG6 x y = true ∧ Q (.bl (!decide (x = y))) H
theorem ae4 {i j:Int}:decide (V.int i = V.int j) = (i == j):=by
 rw [Bool.eq_iff_iff]
 simp
theorem am7 {i j:Bool}:decide (V.bl i = V.bl j) = (i == j):=by
 rw [Bool.eq_iff_iff]
 simp
theorem af3 {i j:Str}:decide (V.str i = V.str j) = (i == j):=by
 rw [Bool.eq_iff_iff]
 simp
theorem af7 {i j:Array UInt8}:decide (V.byt i = V.byt j) = (i.toList == j.toList):=by
 rw [Bool.eq_iff_iff]
 cases i
 cases j
 simp
section
variable {X:Cx} {a b c:Expr} {ta tb tc:TE} {pos:Pos}
theorem m5 {pins:List (Addr × Obj)} {σ:St} {H:Hp} {s:Shared} {Q:VK} {k k':Bool} (I:Inv X pins σ H s) (q:Q (.bl k) H) (e:k = k'):EP X pins σ Q (.bool k') s:=by
 subst e
 exact ⟨.bl k,H,I,rfl,q⟩
theorem D4:OpR X (compareOp .Eq) rEq:=by
 intro pins s σ H x y v u Q I rx ry h
 obtain ⟨hs,q⟩:=h
 cases x with
 | non =>
  cases rx
  cases y with
  | non=>cases ry; exact PySem.EqNone.eq_none_none (m5 I q (by simp))
  | bl j=>cases ry; exact PySem.EqNone.eq_none_bool (m5 I q (by simp))
  | int j=>obtain ⟨t',rfl⟩:=ry; exact PySem.EqNone.eq_none_int (m5 I q (by simp))
  | str j=>obtain ⟨t',rfl⟩:=ry; exact PySem.EqNone.eq_none_str (m5 I q (by simp))
  | _=>exact absurd (show false = true from hs) Bool.false_ne_true
 | bl i =>
  cases rx
  cases y with
  | non=>cases ry; exact PySem.EqNone.eq_bool_none (m5 I q (by simp))
  | bl j=>cases ry; exact eq_bool (m5 I q am7)
  | str j=>obtain ⟨t',rfl⟩:=ry; exact PySem.EqMixed.eq_bool_str (m5 I q (by simp))
  | _=>exact absurd (show false = true from hs) Bool.false_ne_true
 | int i =>
  obtain ⟨t,rfl⟩:=rx
  cases y with
  | non=>cases ry; exact PySem.EqNone.eq_int_none (m5 I q (by simp))
  | int j=>obtain ⟨t',rfl⟩:=ry; exact eq_int (m5 I q ae4)
  | str j=>obtain ⟨t',rfl⟩:=ry; exact PySem.EqMixed.eq_int_str (m5 I q (by simp))
  | _=>exact absurd (show false = true from hs) Bool.false_ne_true
 | str i =>
  obtain ⟨t,rfl⟩:=rx
  cases y with
  | non=>cases ry; exact PySem.EqNone.eq_str_none (m5 I q (by simp))
  | bl j=>cases ry; exact PySem.EqMixed.eq_str_bool (m5 I q (by simp))
  | int j=>obtain ⟨t',rfl⟩:=ry; exact PySem.EqMixed.eq_str_int (m5 I q (by simp))
  | str j=>obtain ⟨t',rfl⟩:=ry; exact eq_str (m5 I q af3)
  | _=>exact absurd (show false = true from hs) Bool.false_ne_true
 | byt i =>
  obtain ⟨t,rfl⟩:=rx
  cases y with
  | byt j=>obtain ⟨t',rfl⟩:=ry; exact PySem.W.eq_bytes (m5 I q af7)
  | _=>exact absurd (show false = true from hs) Bool.false_ne_true
 | _=>cases y <;> exact absurd (show false = true from hs) Bool.false_ne_true
theorem aF6:OpR X (compareOp .NotEq) rNe:=by
 intro pins s σ H x y v u Q I rx ry h
 obtain ⟨hs,q⟩:=h
 cases x with
 | non =>
  cases rx
  cases y with
  | non=>cases ry; exact PySem.EqNone.ne_none_none (m5 I q (by simp))
  | bl j=>cases ry; exact PySem.EqNone.ne_none_bool (m5 I q (by simp))
  | int j=>obtain ⟨t',rfl⟩:=ry; exact PySem.EqNone.ne_none_int (m5 I q (by simp))
  | str j=>obtain ⟨t',rfl⟩:=ry; exact PySem.EqNone.ne_none_str (m5 I q (by simp))
  | _=>exact absurd (show false = true from hs) Bool.false_ne_true
 | bl i =>
  cases rx
  cases y with
  | non=>cases ry; exact PySem.EqNone.ne_bool_none (m5 I q (by simp))
  | bl j=>cases ry; exact ne_bool (m5 I q (congrArg not am7))
  | str j=>obtain ⟨t',rfl⟩:=ry; exact PySem.EqMixed.ne_bool_str (m5 I q (by simp))
  | _=>exact absurd (show false = true from hs) Bool.false_ne_true
 | int i =>
  obtain ⟨t,rfl⟩:=rx
  cases y with
  | non=>cases ry; exact PySem.EqNone.ne_int_none (m5 I q (by simp))
  | int j=>obtain ⟨t',rfl⟩:=ry; exact ne_int (m5 I q (congrArg not ae4))
  | str j=>obtain ⟨t',rfl⟩:=ry; exact PySem.EqMixed.ne_int_str (m5 I q (by simp))
  | _=>exact absurd (show false = true from hs) Bool.false_ne_true
 | str i =>
  obtain ⟨t,rfl⟩:=rx
  cases y with
  | non=>cases ry; exact PySem.EqNone.ne_str_none (m5 I q (by simp))
  | bl j=>cases ry; exact PySem.EqMixed.ne_str_bool (m5 I q (by simp))
  | int j=>obtain ⟨t',rfl⟩:=ry; exact PySem.EqMixed.ne_str_int (m5 I q (by simp))
  | str j=>obtain ⟨t',rfl⟩:=ry; exact ne_str (m5 I q (congrArg not af3))
  | _=>exact absurd (show false = true from hs) Bool.false_ne_true
 | byt i =>
  obtain ⟨t,rfl⟩:=rx
  cases y with
  | byt j=>obtain ⟨t',rfl⟩:=ry; exact PySem.W.ne_bytes (m5 I q (congrArg not af7))
  | _=>exact absurd (show false = true from hs) Bool.false_ne_true
 | _=>cases y <;> exact absurd (show false = true from hs) Bool.false_ne_true
theorem aH1:OpR X (compareOp .Lt) (rI0 fun i j=>.bl (decide (i < j))):=aD6 fun _ _ _ _ _ _ _ q=>lt_int q
theorem az6:OpR X (compareOp .Gt) (rI0 fun i j=>.bl (decide (j < i))):=aD6 fun _ _ _ _ _ _ _ q=>gt_int q
theorem aH6:OpR X (compareOp .GtE) (rI0 fun i j=>.bl (decide (j ≤ i))):=aD6 fun _ _ _ _ _ _ _ q=>ge_int q
theorem ad5:OpR X (compareOp .IsNot) (fun x y H Q=>y = .non ∧ Q (.bl (!decide (x = .non))) H):=by
 intro pins s σ H x y v u Q I rx ry h
 obtain ⟨rfl,q⟩:=h
 cases ry
 refine isnot_none_gen (m5 I q ?_)
 cases x <;> first
  | (cases rx; rfl)
  | (obtain ⟨t,rfl⟩:=rx; rfl)
theorem o5 (b:Expr) {op:CmpOp} (h:op ≠ .In:=by decide) (h2:op ≠ .NotIn:=by decide):behindInMarks op b = false:=by
 have e1:(op == CmpOp.In) = false:=by cases op <;> first | rfl | exact absurd rfl h
 have e2:(op == CmpOp.NotIn) = false:=by cases op <;> first | rfl | exact absurd rfl h2
 cases b <;> simp [behindInMarks,e1,e2]
theorem W6 {op:CmpOp} {r:R2} (ho:OpR X (compareOp op) r) (ha:PE X a ta) (hb:PE X b tb) (hm:behindInMarks op b = false):PE X (.Compare a [op] [b] pos) (tOp r ta tb):=by
 intro pins s σ H Q I h
 exact wpAny_Compare1 (aE4 ha hb I h fun v u s2 x y H2 I2 rx ry q=>ho pins s2 σ H2 x y v u Q I2 rx ry q) hm
def aH8 (t:TE):TT:=fun σ H Q=>t σ H fun x H'=>∃ k,x = .bl k ∧ Q k H'
theorem m3 {op:CmpOp} {r:R2} (ho:OpR X (compareOp op) r) (ha:PE X a ta) (hb:PE X b tb) (hm:behindInMarks op b = false):PT X (.Compare a [op] [b] pos) (aH8 (tOp r ta tb)):=by
 intro pins s σ H Q I h
 refine wpAny_isTrue_Compare1 (thn (ha pins s σ H _ I h) fun v s1 ⟨x,H1,I1,r1,q1⟩=>thn (hb pins s1 σ H1 _ I1 q1) fun u s2 ⟨y,H2,I2,r2,q2⟩ =>
  thn (ho pins s2 σ H2 x y v u _ I2 r1 r2 q2) fun c s3 ⟨z,H3,I3,r3,k,e,q3⟩=>?_) hm
 subst e
 cases r3
 exact wpAny_truthy_bool ⟨H3,I3,q3⟩
def aB3 (K:PySem.W.Frag) (x:V) (H:Hp) (k:Bool):Prop :=
 match x with
 | .non=>k = false
 | .bl b=>k = b
 | .int i=>k = (i != 0)
 | .str y=>y.length ≤ sizeLine ∧ k = ((y.length:Int) != 0)
 | .byt y=>y.size ≤ sizeLine ∧ k = ((y.size:Int) != 0)
 | .ref p=>(∃ xs,SqL K H p xs ∧ k = !xs.isEmpty) ∨ (∃ xs,SqT K H p xs ∧ k = !xs.isEmpty) ∨ ∃ kvs,H p = some (.dK kvs) ∧ k = !kvs.isEmpty
 | _=>False
theorem ad0 {κ:Type} {kvs:List (κ × V)} {vs:List (κ × Value)} (r:KV kvs vs):(!vs.isEmpty) = !kvs.isEmpty:=by
 cases r <;> rfl
theorem Q1 {xs:List V} {its:List Value} (r:i7 xs its):(!its.toArray.isEmpty) = !xs.isEmpty:=by
 cases r <;> simp
theorem M6:(sizeLine:Nat) < 2 ^ 63:=by rw [sizeLine_eq]; decide
theorem aC1:aH5 X (fun x H Q=>∃ k,aB3 X.K x H k ∧ Q k H):=by
 intro pins s σ H x v Q I rx h
 obtain ⟨k,e,q⟩:=h
 have hl:=M6
 have hs:sizeLine = 16777216:=sizeLine_eq
 cases x with
 | non =>
  cases rx
  have e':k = false:=e
  subst e'
  exact truthy_none ⟨H,I,q⟩
 | bl b =>
  cases rx
  have e':k = b:=e
  subst e'
  exact wpAny_truthy_bool ⟨H,I,q⟩
 | int i =>
  obtain ⟨t,rfl⟩:=rx
  have e':k = (i != 0):=e
  subst e'
  exact PySem.P.truthy_int ⟨H,I,q⟩
 | str y =>
  obtain ⟨t,rfl⟩:=rx
  obtain ⟨hy,e'⟩:y.length ≤ sizeLine ∧ k = ((y.length:Int) != 0):=e
  subst e'
  exact PySem.P.truthy_str (by lia) ⟨H,I.tok _,q⟩
 | byt y =>
  obtain ⟨t,rfl⟩:=rx
  obtain ⟨hy,e'⟩:y.size ≤ sizeLine ∧ k = ((y.size:Int) != 0):=e
  subst e'
  exact PySem.W.truthy_bytes (by lia) ⟨H,I.tok _,q⟩
 | ref p =>
  cases rx
  have e':(∃ xs,SqL X.K H p xs ∧ k = !xs.isEmpty) ∨ (∃ xs,SqT X.K H p xs ∧ k = !xs.isEmpty) ∨ ∃ kvs,H p = some (.dK kvs) ∧ k = !kvs.isEmpty:=e
  rcases e' with ⟨xs,hx,e'⟩ | ⟨xs,hx,e'⟩ | ⟨kvs,hx,e'⟩
  ·subst e'
   obtain ⟨its,r,pl,hz⟩:=I.list hx
   have hlen:=r.length
   exact wpAny_truthy_list pl.isList (by simp only [List.size_toArray]; lia) ⟨H,I.tok _,by rw [Q1 r]; exact q⟩
  ·subst e'
   obtain ⟨its,r,pl,hz⟩:=I.tuple hx
   have hlen:=r.length
   exact truthy_tuple pl (by simp only [List.size_toArray]; lia) ⟨H,I.tok _,by rw [Q1 r]; exact q⟩
  ·subst e'
   obtain ⟨hz,hS,vs,r,m⟩:kvs.length ≤ sizeLine ∧ (p == sysModules) = false ∧ ∃ vs,KV kvs vs ∧ s.heap.DictOf (p7 X.prog X.w) p vs:=I.hok p _ hx
   have hlen:kvs.length = vs.length:=Paired.length r
   exact wpAny_truthy_dict hS m (by lia) ⟨H,I.tok _,by rw [ad0 r]; exact q⟩
 | _=>exact (show False from e).elim
theorem aq2 (ha:PE X a ta) (he:∀ whole,isTrue a X.env whole = (do let v ← whole; standAt a.pos; holding [v] (truthy v))) :
  PT X a (fun σ H Q=>ta σ H fun x H'=>∃ k,aB3 X.K x H' k ∧ Q k H'):=by
 intro pins s σ H Q I h
 exact isTrue_plain (thn (ha pins s σ H _ I h) fun v s1 ⟨x,H1,I1,r1,q1⟩=>aC1 pins s1 σ H1 x v Q I1 r1 q1) (he _)
theorem F7 {x:V} {us:List Value} (r:i7 [x] us):∃ u,us = [u] ∧ i9 x u:=by
 cases r with
 | cons r1 r2=>cases r2; exact ⟨_,rfl,r1⟩
theorem ak7 {x y:V} {us:List Value} (r:i7 [x,y] us):∃ u w',us = [u,w'] ∧ i9 x u ∧ i9 y w':=by
 cases r with
 | cons r1 r2 =>
  cases r2 with
  | cons r3 r4=>cases r4; exact ⟨_,_,rfl,r1,r3⟩
theorem an0:y3 X (.builtin "abs") (fun xs H Q=>∃ i,xs = [.int i] ∧ Q (.int (if i < 0 then -i else i)) H):=by
 intro pins s σ H xs us Q I r h
 obtain ⟨i,rfl,q⟩:=h
 obtain ⟨u,rfl,t,rfl⟩:=F7 r
 exact call_abs_int fun u tk=>⟨.int (if i < 0 then -i else i),H,I.tok _,⟨_,rfl⟩,q⟩
theorem T8 (hc:X.calm = true):y3 X (.builtin "min") (fun xs H Q=>∃ i j,xs = [.int i,.int j] ∧ Q (.int (if j < i then j else i)) H):=by
 intro pins s σ H xs us Q I r h
 obtain ⟨i,j,rfl,q⟩:=h
 obtain ⟨u,w',rfl,⟨t,rfl⟩,⟨t',rfl⟩⟩:=ak7 r
 refine min_two_ints (I.ok.hd hc) fun h' tk k=>⟨_,H,I.kept k,?_,q⟩
 by_cases hj:j < i
 ·rw [if_pos hj,if_pos hj]; exact ⟨_,rfl⟩
 ·rw [if_neg hj,if_neg hj]; exact ⟨_,rfl⟩
end
end L2
namespace L2
open PySem PySem.Spec PyProof.Rows
structure ObjM (h:Heap) (x dx C:Addr) (mA:Str → Option Value):Prop where
 obj:h.get? x = some (PySem.W.instObj C dx)
 ns:h.Ns1 dx mA
 ne:dx ≠ x
theorem ah6 {h:Heap} {dx:Addr} {mA:Str → Option Value} (n:h.Ns1 dx mA):∃ od,h.get? dx = some od ∧ ∀ name,PySem.W.lookIn name od = some (mA name):=by
 obtain ⟨o,es,ep,ho,hd,hk,_,hm⟩:=n
 refine ⟨o,ho,fun name=>?_⟩
 have e:=hm name
 unfold nsFind findBy at e
 rw [← Array.find?_toList] at e
 unfold PySem.W.lookIn
 rw [hd]
 dsimp only
 split
 ·rename_i y q
  rw [q] at e
  exact congrArg some e
 ·rename_i q
  rw [q] at e
  have a:es.toList.any (·.refKey) = false:=by
   rw [List.any_eq_false]
   intro y hy
   obtain ⟨z,t,hkey⟩:=hk y (Array.mem_toList_iff.mp hy)
   simp [DictEntry.refKey,hkey]
  have a':¬ es.toList.any (·.refKey) = true:=by rw [a]; exact Bool.false_ne_true
  rw [if_neg a']
  exact congrArg some e
theorem ObjM.look {h:Heap} {x dx C:Addr} {mA:Str → Option Value} (I:ObjM h x dx C mA):∃ od,PySem.W.InstAt h x (PySem.W.instObj C dx) C (some od) ∧ ∀ name,PySem.W.lookIn name od = some (mA name) :=
 let ⟨od,ho,hl⟩:=ah6 I.ns
 ⟨od,⟨I.obj,rfl,rfl,ho⟩,hl⟩
section
variable {prog:Program} {w:World} {A:Around} {E:Value → Shared → Prop} {s:Shared} {K:PySem.W.Frag} {x dx C f:Addr} {mA:Str → Option Value} {name:Str} {v:Value}
theorem as0 {expr:Bool} {Q:Value → Shared → Prop} (X:K.In s.heap) (I:ObjM s.heap x dx C mA) (hg:PySem.W.plainGet K C name = true) (hh:PySem.W.hasDictIn K C = true)
  (ha:PySem.W.findIn K (.ref C) name = some none) (hv:mA name = some v) (hv':PySem.W.handedIn v = true) (h:Q v { s with toks:=s.toks + 1 }) :
  wpAny (model prog w) A (getAttr (.ref x) name expr) Q E s:=by
 obtain ⟨od,J,hl⟩:=I.look
 exact PySem.W.get_value X J (PySem.W.plainGet_of hg).1 (PySem.W.findObj_own hh ha rfl (by rw [hl,hv])) hv' h
theorem al0 {pl:Sem Bool} {Q:Value × List Value → Shared → Prop} (X:K.In s.heap) (I:ObjM s.heap x dx C mA) (hg:PySem.W.plainGet K C name = true)
  (hf:PySem.W.findIn K (.ref C) name = some (some (.ref f))) (ht:PySem.W.isFn K (.ref f) = true) (hv:mA name = none) (h:Q (.ref f,[.ref x]) s) :
  wpAny (model prog w) A (getMethod (.ref x) name pl) Q E s:=by
 obtain ⟨od,J,hl⟩:=I.look
 exact PySem.W.method_fn X J (PySem.W.plainGet_of hg).1 (PySem.W.plainGet_of hg).2 hf (beq_iff_eq.mp ht) (by show (PySem.W.lookIn name od).map (·.isSome) = some false; rw [hl,hv]; rfl) h
theorem au9 {ns:List Str} {Q:Unit → Shared → Prop} (X:K.In s.heap) (I:ObjM s.heap x dx C mA)
  (hs:PySem.W.findIn K (.ref C) "__setattr__" = some (some (.builtin "object.__setattr__"))) (hp:PySem.W.plainOver K C = true) (ht:PySem.W.takerIn K C name = some none) (hh:PySem.W.hasDictIn K C = true)
  (hw:PySem.Within mA ns) (hsz:ns.length ≤ sizeLine)
  (h:∀ h',ObjM h' x dx C (fun y=>if y = name then some v else mA y) → Heap.SameBut dx s.heap h' → Q () { s with heap:=h',toks:=s.toks + 2 }) :
  wpAny (model prog w) A (setAttr (.ref x) name v) Q E s:=by
 obtain ⟨od,J,hl⟩:=I.look
 refine PySem.W.set_plain X J hs (PySem.W.osa_open (s:={ s with toks:=s.toks + 1 }) (r:=none) X J hp ht fun b=>?_)
 obtain ⟨cd,hc,hd'⟩:=PySem.W.any_some hh
 have hx:s.heap.get? x = some ⟨.ref C,some dx,.plain,#[]⟩:=I.obj
 refine wpAny_bind (wpAny_pure (wpAny_bind (wpAny_bind (wpAny_loadPart hx (wpAny_bind (PySem.W.Looks.here (s:={ s with toks:=s.toks + 1 }) (PySem.W.looks_clsIn X hc) ?_))))))
 rw [hd']
 refine wpAny_pure (a:=some dx) (wpAny_bind (wpAny_pure (wpAny_bind ?_)))
 refine wpAny_nsSet1 (s:={ s with toks:=s.toks + 1 }) I.ns fun h' hn2 hs2=>?_
 obtain ⟨oD,esD,epD,hoD,hdD,hcD⟩:=hn2.count (PySem.Within.cons name v hw)
 refine wpAny_bind (wpAny_lookBehind hoD (by rw [hdD]; exact pastItsLine_dict (Nat.le_trans hcD (by rw [List.length_cons]; lia))) ?_)
 exact wpAny_pure (h _ ⟨(hs2.2 _ (Ne.symm I.ne)).trans I.obj,hn2,I.ne⟩ hs2)
theorem al8 {R:Result → Shared → Prop} {vs:List Value} {kw:List (Str × Value)} (X:K.In s.heap) (hm:PySem.W.makesIn K C = true)
  (hi:PySem.W.findIn K (.ref C) "__init__" = some (some (.ref f))) (hf:PySem.W.typeIn K (.ref f) = some (.type "function"))
  (h:codeAny (model prog w) (A.under (.builtin "type.__call__" ⟨.ref C :: vs,kw⟩)) (.call (.ref f) ⟨.ref (s.heap.objs.size + 1) :: vs,kw⟩) (PySem.W.InitBack (s.heap.objs.size + 1) R)
   { s with heap:=(s.heap.push PySem.W.emptyDict).push (PySem.W.instObj C s.heap.objs.size) }) :
  codeAny (model prog w) A (.call (.ref C) ⟨vs,kw⟩) R s:=by
 obtain ⟨hh,g,d,t,os⟩:=s
 exact PySem.W.make_core (PySem.W.makes_of X hm) (PySem.W.looks_findIn X hi) (fun self=>PySem.W.bind_fn X self hf) (.inl rfl) h
end
def F5 (f:Str) (v:V):List (Str × V) → List (Str × V)
 | []=>[(f,v)]
 | (g,x) :: r=>if g = f then (g,v) :: r else (g,x) :: F5 f v r
theorem O4 (f g:Str) (v:V):∀ fs:List (Str × V),(F5 f v fs).lookup g = if g = f then some v else fs.lookup g
 | []=>by
  show List.lookup g [(f,v)] = _
  by_cases h:g = f
  ·have hb:(g == f) = true:=beq_iff_eq.mpr h
   simp only [List.lookup,hb,if_pos h]
  ·have hb:(g == f) = false:=beq_eq_false_iff_ne.mpr h
   simp only [List.lookup,hb,if_neg h]
 | (k,x) :: r=>by
  have ih:=O4 f g v r
  rw [show F5 f v ((k,x) :: r) = (if k = f then (k,v) :: r else (k,x) :: F5 f v r) from rfl]
  by_cases hk:k = f
  ·rw [if_pos hk]
   by_cases h:g = k
   ·have hb:(g == k) = true:=beq_iff_eq.mpr h
    simp only [List.lookup,hb,if_pos (h.trans hk)]
   ·have hb:(g == k) = false:=beq_eq_false_iff_ne.mpr h
    simp only [List.lookup,hb,if_neg (fun e:g = f=>h (e.trans hk.symm))]
  ·rw [if_neg hk]
   by_cases h:g = k
   ·have hb:(g == k) = true:=beq_iff_eq.mpr h
    simp only [List.lookup,hb,if_neg (fun e:g = f=>hk (h.symm.trans e))]
   ·have hb:(g == k) = false:=beq_eq_false_iff_ne.mpr h
    simp only [List.lookup,hb]
    exact ih
theorem N1 (f:Str) (v:V):∀ fs:List (Str × V),f ∈ (F5 f v fs).map (·.1) ∧ ∀ g,g ∈ fs.map (·.1) → g ∈ (F5 f v fs).map (·.1)
 | []=>⟨by simp [F5],fun g h=>by simp at h⟩
 | (k,x) :: r=>by
  obtain ⟨i1,i2⟩:=N1 f v r
  rw [show F5 f v ((k,x) :: r) = (if k = f then (k,v) :: r else (k,x) :: F5 f v r) from rfl]
  by_cases hk:k = f
  ·rw [if_pos hk]
   subst hk
   exact ⟨by simp,fun g h=>by simpa using h⟩
  ·rw [if_neg hk]
   refine ⟨?_,fun g h=>?_⟩
   ·rw [List.map_cons]
    exact List.mem_cons_of_mem _ i1
   ·rw [List.map_cons] at h ⊢
    rcases List.mem_cons.mp h with e | e
    ·exact List.mem_cons.mpr (.inl e)
    ·exact List.mem_cons_of_mem _ (i2 g e)
theorem O8 (f:Str) (v:V):∀ fs:List (Str × V),(F5 f v fs).length ≤ fs.length + 1
 | []=>by simp [F5]
 | (k,x) :: r=>by
  have ih:=O8 f v r
  rw [show F5 f v ((k,x) :: r) = (if k = f then (k,v) :: r else (k,x) :: F5 f v r) from rfl]
  by_cases hk:k = f
  ·rw [if_pos hk,List.length_cons,List.length_cons]; lia
  ·rw [if_neg hk,List.length_cons,List.length_cons]; lia
theorem L5.some_of {v:V} {o:Option Value} (r:L5 (some v) o):∃ u,o = some u ∧ i9 v u:=by
 cases o with
 | none=>exact (show False from r).elim
 | some u=>exact ⟨u,rfl,r⟩
theorem L5.none_of {o:Option Value} (r:L5 none o):o = none:=by
 cases o with
 | none=>rfl
 | some u=>exact (show False from r).elim
theorem ag4 {v:V} {u:Value} (r:i9 v u):PySem.W.handedIn u = true:=by
 cases v with
 | non=>cases (show u = Value.none from r); rfl
 | bl b=>cases (show u = Value.bool b from r); rfl
 | int i=>obtain ⟨t,e⟩:=(show ∃ t,u = Value.int i t from r); cases e; rfl
 | str x=>obtain ⟨t,e⟩:=(show ∃ t,u = Value.str x t from r); cases e; rfl
 | byt b=>obtain ⟨t,e⟩:=(show ∃ t,u = Value.bytes b t from r); cases e; rfl
 | flt b=>obtain ⟨t,e⟩:=(show ∃ t,u = Value.float b t from r); cases e; rfl
 | ref a=>cases (show u = Value.ref a from r); rfl
 | ty n=>cases (show u = Value.type n from r); rfl
section
variable {P:Program} {w:World} {H H':Hp} {h h':Heap} {a C dx:Addr} {fs fs':List (Str × V)}
theorem P4 (hok:HOk P w H h) (e:H a = some (.ins C dx fs)):∃ mA,ObjM h a dx C mA ∧ (∀ f,L5 (fs.lookup f) (mA f)) ∧ PySem.Within mA (fs.map (·.1)) ∧ fs.length ≤ 1000 ∧ H dx = some (.own a):=by
 obtain ⟨d,z,ne,ob,mA,n,r,q⟩:=(show m9 P w H h a (.ins C dx fs) from hok a _ e)
 exact ⟨mA,⟨ob,n,ne⟩,r,q,z,d⟩
end
structure Cls (K:PySem.W.Frag) (C:Addr):Prop where
 pg:PySem.W.plainGet K C Str.empty = true
 hd:PySem.W.hasDictIn K C = true
 po:PySem.W.plainOver K C = true
 sa:PySem.W.findIn K (.ref C) "__setattr__" = some (some (.builtin "object.__setattr__"))
theorem Cls.get {K:PySem.W.Frag} {C:Addr} (c:Cls K C) (f:Str):PySem.W.plainGet K C f = true:=c.pg
def G9 (K:PySem.W.Frag) (C:Addr) (f:Str):Prop:=PySem.W.findIn K (.ref C) f = some none
theorem G9.taker {K:PySem.W.Frag} {C:Addr} {f:Str} (n:G9 K C f):PySem.W.takerIn K C f = some none:=by
 unfold PySem.W.takerIn
 rw [show PySem.W.findIn K (.ref C) f = some none from n]
 rfl
structure Meth (K:PySem.W.Frag) (C:Addr) (m:Str) (f:Addr):Prop where
 at_:PySem.W.findIn K (.ref C) m = some (some (.ref f))
 fn:PySem.W.isFn K (.ref f) = true
 kp:PySem.W.keepIn K (.ref f) = true
section
variable {X:Cx} {pins:List (Addr × Obj)} {σ:St} {H:Hp} {s:Shared} {a C dx:Addr} {fs:List (Str × V)} {f:Str} {v:V} {A:Around} {E:Value → Shared → Prop}
theorem ab5 {b:Bool} {Q:Value → Shared → Prop} (I:Inv X pins σ H s) (e:H a = some (.ins C dx fs)) (c:Cls X.K C) (n:G9 X.K C f) (l:fs.lookup f = some v)
  (h:∀ u s',Inv X pins σ H s' → i9 v u → Q u s'):wpAny (model X.prog X.w) A (getAttr (.ref a) f b) Q E s:=by
 obtain ⟨mA,O,r,_,_,_⟩:=P4 I.hok e
 obtain ⟨u,hu,ru⟩:=L5.some_of (v:=v) (o:=mA f) (by rw [← l]; exact r f)
 exact as0 I.kIn O (c.get f) c.hd n hu (ag4 ru) (h u _ (I.tok _) ru)
theorem R0 {m:Str} {g:Addr} {pl:Sem Bool} {Q:Value × List Value → Shared → Prop} (I:Inv X pins σ H s) (e:H a = some (.ins C dx fs)) (c:Cls X.K C) (k:Meth X.K C m g) (l:fs.lookup m = none)
  (h:Q (.ref g,[.ref a]) s):wpAny (model X.prog X.w) A (getMethod (.ref a) m pl) Q E s:=by
 obtain ⟨mA,O,r,_,_,_⟩:=P4 I.hok e
 have hn:mA m = none:=L5.none_of (by rw [← l]; exact r m)
 exact al0 I.kIn O (c.get m) k.at_ k.fn hn h
theorem ab6 {y:V} {u:Value} {Q:Unit → Shared → Prop} (I:Inv X pins σ H s) (e:H a = some (.ins C dx fs)) (c:Cls X.K C) (n:G9 X.K C f) (hl:fs.length < 1000) (ry:i9 y u)
  (h:∀ s',Inv X pins σ (upd H a (.ins C dx (F5 f y fs))) s' → Q () s'):wpAny (model X.prog X.w) A (setAttr (.ref a) f u) Q E s:=by
 obtain ⟨mA,O,r,wi,_,ho⟩:=P4 I.hok e
 have hz:(fs.map (·.1)).length ≤ sizeLine:=by rw [List.length_map,sizeLine_eq]; lia
 refine au9 I.kIn O c.sa c.po n.taker c.hd wi hz fun h' O' sb=>h _ ?_
 have hd:∃ o,h'.get? dx = some o:=let ⟨o,_,_,e',_⟩:=O'.ns; ⟨o,e'⟩
 refine I.write (x:=a) (e:=dx) (by rw [e]; exact True.intro) (.inr ho) (fun b q hb z=>(sb.2 b hb).trans z) hd ?_
 refine ⟨by rw [h9 O.ne]; exact ho,?_,O.ne,O'.obj,_,O'.ns,fun g=>?_,fun g hg=>?_⟩
 ·have:=O8 f y fs; lia
 ·show L5 ((F5 f y fs).lookup g) (if g = f then some u else mA g)
  rw [O4]
  by_cases q:g = f
  ·rw [if_pos q,if_pos q]; exact ry
  ·rw [if_neg q,if_neg q]; exact r g
 ·by_cases q:g = f
  ·rw [q]; exact (N1 f y fs).1
  ·refine (N1 f y fs).2 g (wi g fun z=>hg ?_)
   show (if g = f then some u else mA g) = none
   rw [if_neg q]; exact z
theorem Inv.made (I:Inv X pins σ H s):Inv X pins σ (upd (upd H s.heap.objs.size (.own (s.heap.objs.size + 1))) (s.heap.objs.size + 1) (.ins C s.heap.objs.size []))
  { s with heap:=(s.heap.push PySem.W.emptyDict).push (PySem.W.instObj C s.heap.objs.size) }:=by
 have e1:(s.heap.push PySem.W.emptyDict).get? s.heap.objs.size = some PySem.W.emptyDict:=Heap.get?_push_size s.heap rfl
 have e2:((s.heap.push PySem.W.emptyDict).push (PySem.W.instObj C s.heap.objs.size)).get? (s.heap.objs.size + 1) = some (PySem.W.instObj C s.heap.objs.size):=by
  have:=Heap.get?_push_size (s.heap.push PySem.W.emptyDict) (o:=PySem.W.instObj C s.heap.objs.size) rfl
  rwa [Heap.size_push] at this
 have e3:(s.heap.push PySem.W.emptyDict).Ns s.heap.objs.size (fun _=>none):=⟨PySem.W.emptyDict,#[],_,e1,rfl,(fun e he=>absurd he (by simp)),fun _=>rfl⟩
 have I1:=I.laid (a:=s.heap.objs.size) (o:=.own (s.heap.objs.size + 1)) (h':=s.heap.push PySem.W.emptyDict) (t':=s.toks) (fun b u q=>Heap.get?_push_of_some _ q) (Nat.le_refl _) ⟨_,e1⟩
 refine I1.laid (a:=s.heap.objs.size + 1) (o:=.ins C s.heap.objs.size []) (t':=s.toks) (fun b u q=>Heap.get?_push_of_some _ q) (Nat.le_of_eq (Heap.size_push _ _)) ?_
 have ne:s.heap.objs.size ≠ s.heap.objs.size + 1:=Nat.ne_of_lt (Nat.lt_succ_self _)
 refine ⟨by rw [h9 ne,d9],Nat.zero_le _,ne,e2,fun _=>none,(Heap.Ns1.of_empty e3).at fun o q=>Heap.get?_push_of_some _ q,fun _=>True.intro,fun y hy=>absurd rfl hy⟩
theorem aw5 {prog:Program} {w:World} {env:Env} {e:Expr} {f:Str} {pos:Pos} {s:Shared} {Q:Value → Shared → Prop} (hb:attributeBase e f env (eval e env) = eval e env)
  (h:wpAny (model prog w) A (eval e env) (fun o s₁=>wpAny (model prog w) A (getAttr o f true) Q E s₁) E s):wpAny (model prog w) A (eval (.Attribute e f pos) env) Q E s :=
 Attribute_any_ h (by rw [arm_eval_Attribute,hb])
end
def aH0 (K:PySem.W.Frag) (ta:TE) (f:Str):TE:=fun σ H Q=>ta σ H fun x H1=>∃ a C dx fs v,x = .ref a ∧ H1 a = some (.ins C dx fs) ∧ Cls K C ∧ G9 K C f ∧ fs.lookup f = some v ∧ Q v H1
def aJ8 (K:PySem.W.Frag) (ta tv:TE) (f:Str):TS:=fun D σ H=>tv σ H fun y H1=>ta σ H1 fun x H2=>∃ a C dx fs,x = .ref a ∧ H2 a = some (.ins C dx fs) ∧ Cls K C ∧ G9 K C f ∧ fs.length < 1000 ∧
 D.nx σ (upd H2 a (.ins C dx (F5 f y fs)))
section
variable {X:Cx} {o e value:Expr} {f:Str} {pos pos' tpos:Pos} {ta tv:TE}
theorem aA2 (he:PE X e ta) (hb:attributeBase e f X.env (eval e X.env) = eval e X.env):PE X (.Attribute e f pos) (aH0 X.K ta f):=by
 intro pins s σ H Q I h
 refine aw5 hb (thn (he pins s σ H _ I h) fun u s1 ⟨x,H1,I1,rx,a,C,dx,fs,v,ex,ea,c,n,l,q⟩=>?_)
 subst ex
 obtain rfl:u = Value.ref a:=rx
 exact ab5 I1 ea c n l fun u' s2 I2 ru=>⟨v,H1,I2,ru,q⟩
theorem aC3 (ha:PE X o ta) (hv:PE X value tv) (hs:swapsWith value (some (.Attribute o f pos')) pos.line X.env = pure false):PS X (.Assign [.Attribute o f pos'] value pos) (aJ8 X.K ta tv f):=by
 intro pins s σ H D I h
 refine plainObj_wpAny_Assign_Attribute (thn (hv pins s σ H _ I h) fun u s1 ⟨y,H1,I1,ry,q⟩=>thn (ha pins s1 σ H1 _ I1 q) fun ov s2 ⟨x,H2,I2,rx,a,C,dx,fs,ex,ea,c,n,l,q2⟩=>?_) hs
 subst ex
 obtain rfl:ov = Value.ref a:=rx
 exact ab6 I2 ea c n l ry fun s3 I3=>⟨σ,_,I3,q2⟩
theorem ay5 {pl:Sem Bool} {m:Str} {apos:Pos} {args:List Expr} {pins:List (Addr × Obj)} {s:Shared} {σ:St} {H:Hp} {Q:Value → Shared → Prop} {te:TE} (he:PE X e te) (I:Inv X pins σ H s)
  (h:te σ H fun x H1=>∃ a C dx fs g,x = .ref a ∧ H1 a = some (.ins C dx fs) ∧ Cls X.K C ∧ Meth X.K C m g ∧ fs.lookup m = none ∧
   ∀ s1,Inv X pins σ H1 s1 → wpAny (model X.prog X.w) X.A (callWith pos (.ref g) [.ref a] (backTo pos (starEach args X.env)) (backToKw pos (keywordEach [] X.env))) Q X.xe s1)
  (ht:eval (.Call (.Attribute e m apos) args [] pos) X.env = (do
   let ov ← eval e X.env
   standAt apos.atName
   let (f,first) ← holding [ov] (getMethod ov m pl)
   callWith pos f first (backTo pos (starEach args X.env)) (backToKw pos (keywordEach [] X.env)))) :
  wpAny (model X.prog X.w) X.A (eval (.Call (.Attribute e m apos) args [] pos) X.env) Q X.xe s:=by
 refine PySem.W.methodCall_KW (pl:=pl) (thn (he pins s σ H _ I h) fun u s1 ⟨x,H1,I1,rx,a,C,dx,fs,g,ex,ea,c,k,l,q⟩=>?_) ht
 subst ex
 obtain rfl:u = Value.ref a:=rx
 exact R0 I1 ea c k l (q s1 I1)
end
section
variable {X:Cx} {pins:List (Addr × Obj)} {σ:St} {H:Hp} {s:Shared} {A:Around} {E:Value → Shared → Prop} {Q:Value → Shared → Prop} {c:Value} {b:Bool}
inductive TyOf (K:PySem.W.Frag) (H:Hp):V → Value → Prop where
 | non:TyOf K H .non (.type "NoneType")
 | bl (x:Bool):TyOf K H (.bl x) (.type "bool")
 | int (i:Int):TyOf K H (.int i) (.type "int")
 | str (x:Str):TyOf K H (.str x) (.type "str")
 | flt (x:UInt64):TyOf K H (.flt x) (.type "float")
 | lst {a:Addr} {xs:List V} (e:H a = some (.lst xs)):TyOf K H (.ref a) (.type "list")
 | frz {a:Addr} {o:Obj} {xs:List V} (e:H a = some (.frz o (.lst xs))):TyOf K H (.ref a) (.type "list")
 | tup {a:Addr} {xs:List V} (e:H a = some (.tup xs)):TyOf K H (.ref a) (.type "tuple")
 | dK {a:Addr} {kvs:List (Key × V)} (e:H a = some (.dK kvs)):TyOf K H (.ref a) (.type "dict")
 | dT {a:Addr} {kvs:List (List Key × V)} (e:H a = some (.dT kvs)):TyOf K H (.ref a) (.type "dict")
 | ins {a C dx:Addr} {fs:List (Str × V)} (e:H a = some (.ins C dx fs)) (cl:Cls K C) (ha:PySem.W.findIn K (.ref C) "__class__" = some (some (.builtin "object.__class__")))
   (hn:PySem.W.specialIn K (.builtin "object.__class__") "__get__" = some (some (.builtin "getset_descriptor.__get__"))) (htk:PySem.W.takesIn K (.builtin "object.__class__") = some true)
   (hm:PySem.W.mroIn K C (.type "object") = some true):TyOf K H (.ref a) (.ref C)
theorem ag6 {x:V} {u t:Value} (I:Inv X pins σ H s) (rx:i9 x u) (ty:TyOf X.K H x t) (e:PySem.W.kitOne X.K t c = some b) (h:∀ tk,Q (.bool b) { s with toks:=tk }) :
  wpAny (model X.prog X.w) A (call (.builtin "isinstance") [u,c]) Q E s:=by
 cases ty with
 | non=>cases (show u = Value.none from rx); exact PySem.W.kia_one PySem.W.kitx_none I.kIn True.intro e (fun z=>nomatch z) h
 | bl y=>cases (show u = Value.bool y from rx); exact PySem.W.kia_one PySem.W.kitx_bool I.kIn True.intro e (fun z=>nomatch z) h
 | int i=>obtain ⟨t,q⟩:=(show ∃ t,u = Value.int i t from rx); cases q; exact PySem.W.kia_one PySem.W.kitx_int I.kIn True.intro e (fun z=>nomatch z) h
 | str y=>obtain ⟨t,q⟩:=(show ∃ t,u = Value.str y t from rx); cases q; exact PySem.W.kia_one PySem.W.kitx_str I.kIn True.intro e (fun z=>nomatch z) h
 | flt y=>obtain ⟨t,q⟩:=(show ∃ t,u = Value.float y t from rx); cases q; exact PySem.W.kia_one PySem.W.kitx_float I.kIn True.intro e (fun z=>nomatch z) h
 | @lst a xs ea =>
  cases (show u = Value.ref a from rx)
  obtain ⟨_,_,n,_,h1⟩:=(show m9 X.prog X.w H s.heap a (.lst xs) from I.hok a _ ea)
  exact PySem.W.kia_one PySem.W.kitx_list I.kIn ⟨_,h1,rfl⟩ e (fun z=>nomatch z) h
 | @frz a ob xs ea =>
  cases (show u = Value.ref a from rx)
  obtain ⟨_,_,_,n,_,h1⟩:=(show m9 X.prog X.w H s.heap a (.frz ob (.lst xs)) from I.hok a _ ea)
  exact PySem.W.kia_one PySem.W.kitx_list I.kIn ⟨_,h1,rfl⟩ e (fun z=>nomatch z) h
 | @tup a xs ea =>
  cases (show u = Value.ref a from rx)
  obtain ⟨_,_,_,p⟩:=(show m9 X.prog X.w H s.heap a (.tup xs) from I.hok a _ ea)
  obtain ⟨o,h1,h2,_⟩:=p
  exact PySem.W.kia_one PySem.W.kitx_tuple I.kIn ⟨o,h1,h2⟩ e (fun z=>nomatch z) h
 | @dK a kvs ea =>
  cases (show u = Value.ref a from rx)
  obtain ⟨_,_,vs,_,p⟩:=(show m9 X.prog X.w H s.heap a (.dK kvs) from I.hok a _ ea)
  obtain ⟨o,es,ep,h1,h2,_⟩:=p
  exact PySem.W.kia_one PySem.W.kitx_dict I.kIn ⟨o,h1,h2.1⟩ e (fun z=>nomatch z) h
 | @dT a kvs ea =>
  cases (show u = Value.ref a from rx)
  obtain ⟨_,_,xs,_,o,es,ep,h1,h2,_⟩:=(show m9 X.prog X.w H s.heap a (.dT kvs) from I.hok a _ ea)
  exact PySem.W.kia_one PySem.W.kitx_dict I.kIn ⟨o,h1,h2.1⟩ e (fun z=>nomatch z) h
 | @ins a C dx fs ea cl ha hn htk hm =>
  cases (show u = Value.ref a from rx)
  obtain ⟨mA,O,_⟩:=P4 I.hok ea
  obtain ⟨od,J,_⟩:=O.look
  exact PySem.W.kia_one (PySem.W.kitx_own (cl.get _) cl.hd ha hn htk hm) I.kIn J e (fun z=>nomatch z) h
end
end L2
namespace L2
open PySem PySem.Spec PyProof.Rows
structure Room (k:Nat) (A:Around):Prop where
 hd:A.handled = none
 dp:A.depth + 3 * k + 5 < recursionLimit
 un:A.units + 16 * k + 200 < cLine
theorem Room.mono {j k:Nat} {A:Around} (r:Room k A) (h:j ≤ k):Room j A:=⟨r.hd,by have:=r.dp; lia,by have:=r.un; lia⟩
theorem Room.deeper {k:Nat} {A:Around} (r:Room (k + 1) A) (env:Env):Room k (A.deeper env) :=
 ⟨r.hd,by have:=r.dp; show A.depth + 1 + 3 * k + 5 < _; lia,by have:=r.un; show A.units + 3 + 16 * k + 200 < _; lia⟩
theorem ac6 {A:Around} {C:Addr} {us:List Value} {kw:List (Str × Value)}:(A.under (.builtin "type.__call__" ⟨.ref C :: us,kw⟩)).depth = A.depth + 1:=by
 first | rfl | simp [Around.under,Code.weight,Code.isCreation,Code.isGuard,Code.isCaller,Code.frames,Code.isFrame,guardIds]
theorem ac5 {A:Around} {C:Addr} {us:List Value} {kw:List (Str × Value)}:(A.under (.builtin "type.__call__" ⟨.ref C :: us,kw⟩)).units = A.units + 1:=by
 first | rfl | simp [Around.under,Code.cUnits,Code.frames,Code.isFrame]
theorem Room.make {k:Nat} {A:Around} (r:Room (k + 1) A) (C:Addr) (us:List Value) (kw:List (Str × Value)):Room k (A.under (.builtin "type.__call__" ⟨.ref C :: us,kw⟩)) :=
 ⟨r.hd,by have:=r.dp; rw [ac6]; lia,by have:=r.un; rw [ac5]; lia⟩
theorem Room.depth {k:Nat} {A:Around} (r:Room k A):A.depth < recursionLimit:=by have:=r.dp; lia
theorem Room.units {k:Nat} {A:Around} (r:Room k A):A.units + 64 < cLine:=by have:=r.un; lia
theorem Room.units0 {k:Nat} {A:Around} (r:Room k A):A.units < cLine:=by have:=r.un; lia
def aI4:TA:=fun _ H Q=>Q [] H
def aG2 (ta:TE) (tr:TA):TA:=fun σ H Q=>ta σ H fun x H1=>tr σ H1 fun xs H2=>Q (x :: xs) H2
section
variable {X:Cx} {e:Expr} {es:List Expr} {te:TE} {t:TA} {pos:Pos}
theorem g7:PA X [] aI4:=fun _ _ _ _ H Q I h=>Calls.spliced_nil ⟨[],H,I,.nil,h⟩
theorem b8 (ha:PE X e te) (hr:PA X es t) (hs:starEach (e :: es) X.env = (false,eval e X.env) :: starEach es X.env:=by rfl):PA X (e :: es) (aG2 te t):=by
 intro pos pins s σ H Q I h
 rw [hs]
 show wpAny _ _ (spliced ((false,eval e X.env) :: backTo pos (starEach es X.env))) _ _ s
 refine Calls.spliced_cons (thn (ha pins s σ H _ I h) fun u s1 ⟨x,H1,I1,r1,q1⟩=>?_)
 exact thn (hr pos pins s1 σ H1 _ I1 q1) fun us s2 ⟨xs,H2,I2,r2,q2⟩=>⟨x :: xs,H2,I2,.cons r1 r2,q2⟩
def aI7 (t:TA):TE:=fun σ H Q=>t σ H fun xs H1=>xs.length ≤ sizeLine ∧ ∀ p,H1 p = none → Q (.ref p) (upd H1 p (.tup xs))
def aI9 (t:TA):TE:=fun σ H Q=>t σ H fun xs H1=>xs.length ≤ sizeLine ∧ ∀ p,H1 p = none → Q (.ref p) (upd H1 p (.lst xs))
theorem J7 {x1} (h:PA X es t):PE X (.Tuple es x1 pos) (aI7 t):=by
 intro pins s σ H Q I hq
 refine wpAny_Tuple_spliced (thn (h pos pins s σ H _ I hq) fun us s1 ⟨xs,H1,I1,r,z,q⟩=>⟨by rw [← r.length]; exact z,?_⟩)
 have hf:H1 s1.heap.objs.size = none:=I1.hok.fresh (Nat.le_refl _)
 refine ⟨.ref s1.heap.objs.size,upd H1 s1.heap.objs.size (.tup xs),I1.laid (t':=s1.toks) (fun b u e=>Heap.get?_push_of_some _ e) (Nat.le_refl _) ?_,rfl,q _ hf⟩
 exact ⟨z,us,r,⟨_,Heap.get?_push_size _ rfl,rfl,_,rfl⟩⟩
theorem o9 (h:PA X es t):PE X (.List es pos) (aI9 t):=by
 intro pins s σ H Q I hq
 refine wpAny_List_spliced (thn (h pos pins s σ H _ I hq) fun us s1 ⟨xs,H1,I1,r,z,q⟩=>⟨by rw [← r.length]; exact z,?_⟩)
 have hf:H1 s1.heap.objs.size = none:=I1.hok.fresh (Nat.le_refl _)
 refine ⟨.ref s1.heap.objs.size,upd H1 s1.heap.objs.size (.lst xs),I1.laid (t':=s1.toks) (fun b u e=>Heap.get?_push_of_some _ e) (Nat.le_refl _) ?_,rfl,q _ hf⟩
 exact ⟨z,us,0,r,Heap.get?_push_size _ rfl⟩
end
abbrev Sp:=List V → Hp → VK → XK → Prop
abbrev CXT:=List Env → Hp → Shared → XK → Value → Shared → Prop
structure Env0 (P:Program) (w:World) (K:PySem.W.Frag) (mg:Str → Option Value) (base:Heap) (A:Around) (outer:List Env) (s:Shared) (H:Hp):Prop where
 frames:A.frames = some outer
 mod:Mod K mg base
 bs:∀ b o,base.get? b = some o → s.heap.get? b = some o ∧ H b = none
 bsz:base.objs.size ≤ s.heap.objs.size
 funs:s.heap.FunFrames base outer
 frf:∀ b ∈ frs outer,H b = none
 hok:HOk P w H s.heap
 bare:AllBare s.gens
def CE (outer:List Env) (P:Program) (w:World) (H:Hp) (s:Shared) (Q:VK) (u:Value) (s':Shared):Prop :=
 ∃ v H',s'.os = s.os ∧ AllBare s'.gens ∧ Un (frs outer) [] H H' s.heap s'.heap ∧ HOk P w H' s'.heap ∧ i9 v u ∧ Q v H'
def CR (CX:CXT) (outer:List Env) (P:Program) (w:World) (H:Hp) (s:Shared) (Q:VK) (E:XK) (r:Result) (s':Shared):Prop :=
 match r with
 | .ok (.ret u)=>CE outer P w H s Q u s'
 | .ok _=>False
 | .error e=>CX outer H s E e s'
structure FnOk (P:Program) (w:World) (K:PySem.W.Frag) (mg:Str → Option Value) (base:Heap) (CX:CXT) (k:Nat) (f:Addr) (fd:FuncData) (ps:List Str) (sp:Sp):Prop where
 len:∀ vs H Q E,sp vs H Q E → vs.length = ps.length
 run:∀ (A:Around) (outer:List Env) (s:Shared) (H:Hp) (args:Args) (us:List Value) (vs:List V) (Q:VK) (E:XK),Room k A → Env0 P w K mg base A outer s H → BindsTo s fd args (ps.zip us) → i7 vs us → sp vs H Q E →
  codeAny (model P w) A (.call (.ref f) args) (CR CX outer P w H s Q E) s
theorem Env0.make {P:Program} {w:World} {K:PySem.W.Frag} {mg:Str → Option Value} {base:Heap} {A:Around} {outer:List Env} {s:Shared} {H:Hp} (e:Env0 P w K mg base A outer s H) (C:Addr) (us:List Value) (kw:List (Str × Value)) :
  Env0 P w K mg base (A.under (.builtin "type.__call__" ⟨.ref C :: us,kw⟩)) outer s H:=⟨by first | exact e.frames | (simpa [Around.under,Code.envs,Code.isFrame,pushEnvs] using e.frames),e.mod,e.bs,e.bsz,e.funs,e.frf,e.hok,e.bare⟩
section
variable {X:Cx} {pins:List (Addr × Obj)} {σ:St} {H:Hp} {s s':Shared}
theorem Inv.env0 (I:Inv X pins σ H s):Env0 X.prog X.w X.K X.mg X.base X.A X.stack s H :=
 ⟨I.ok.frames,I.ok.mod,I.bs,Nat.le_trans I.ok.bsz I.sz,I.stack,I.stkFree,I.hok,I.bare⟩
theorem Inv.after {Q:VK} {u:Value} (I:Inv X pins σ H s) (h:CE X.stack X.prog X.w H s Q u s'):EP X pins σ Q u s':=by
 obtain ⟨v,H',os,bare,un,hok,r,q⟩:=h
 obtain ⟨hh,g,d,t,os'⟩:=s'
 obtain rfl:os' = s.os:=os
 exact ⟨v,H',I.call (h':=hh) (g':=g) (d':=d) (t':=t) (ch:=[]) un hok bare (fun b z=>absurd z (by simp)),r,q⟩
end
def az3 (sp:Sp) (dvs:List V) (E:XK) (t:TA):TE:=fun σ H Q=>t σ H fun vs H1=>sp (vs ++ dvs) H1 Q E
def ay9 (C:Addr) (m:Str) (sp:Sp) (dvs:List V) (E:XK) (ta:TE) (t:TA):TE:=fun σ H Q=>ta σ H fun x H1=>∃ a dx fs,x = .ref a ∧ H1 a = some (.ins C dx fs) ∧ fs.lookup m = none ∧
 t σ H1 fun vs H2=>sp (x :: (vs ++ dvs)) H2 Q E
def ay4 (C:Addr) (sp:Sp) (dvs:List V) (E:XK) (t:TA):TE:=fun σ H Q=>t σ H fun vs H1=>∀ x dx,H1 x = none → H1 dx = none → dx ≠ x →
 sp (.ref x :: (vs ++ dvs)) (upd (upd H1 dx (.own x)) x (.ins C dx [])) (fun v H2=>v = .non ∧ Q (.ref x) H2) E
def B4 (K:PySem.W.Frag) (fd:FuncData) (ps:List Str) (ds:List Value):Prop :=
 ∀ (s:Shared) (us:List Value),K.In s.heap → (us ++ ds).length = ps.length → BindsTo s fd ⟨us,[]⟩ (ps.zip (us ++ ds))
theorem B4.all {K:PySem.W.Frag} {fd:FuncData} {ps:List Str} (h:∀ us:List Value,us.length = ps.length → bindArgs fd ⟨us,[]⟩ = pure (ps.zip us)):B4 K fd ps []:=fun s us _ hl=>by
 rw [List.append_nil] at hl ⊢
 exact .of_eq (h us hl)
def M7 (CX:CXT) (X:Cx) (E:XK):Prop:=∀ (pins:List (Addr × Obj)) (σ:St) (H:Hp) (s:Shared) (e:Value) (s':Shared),Inv X pins σ H s → CX X.stack H s E e s' → X.xe e s'
section
variable {X:Cx} {CX:CXT} {k:Nat} {f C:Addr} {fd:FuncData} {ps:List Str} {sp:Sp} {dvs:List V} {ds:List Value} {E:XK} {x m:Str} {p pos apos:Pos} {e o:Expr} {es:List Expr} {ta:TE} {t:TA}
theorem ap3 {pins:List (Addr × Obj)} {σ:St} {H:Hp} {s:Shared} {Q:VK} {us:List Value} {vs:List V} (F:FnOk X.prog X.w X.K X.mg X.base CX k f fd ps sp) (hr:Room k X.A) (hb:B4 X.K fd ps ds) (hd:i7 dvs ds) (hx:M7 CX X E)
  (I:Inv X pins σ H s) (r:i7 vs us) (h:sp (vs ++ dvs) H Q E):wpAny (model X.prog X.w) X.A (call (.ref f) us) (EP X pins σ Q) X.xe s:=by
 have r2:i7 (vs ++ dvs) (us ++ ds):=r.append hd
 have hl:(us ++ ds).length = ps.length:=by rw [← r2.length]; exact F.len _ _ _ _ h
 refine wpAny_call (codeAny_mono (F.run X.A X.stack s H ⟨us,[]⟩ (us ++ ds) (vs ++ dvs) Q E hr I.env0 (hb s us I.kIn hl) r2 h) fun r s' hq=>?_)
 cases r with
 | error e=>exact hx pins σ H s e s' I hq
 | ok fl =>
  cases fl with
  | ret u=>exact I.after hq
  | next=>exact False.elim hq
  | brk=>exact False.elim hq
  | cont=>exact False.elim hq
theorem av2 (F:FnOk X.prog X.w X.K X.mg X.base CX k f fd ps sp) (hr:Room k X.A) (hg:Gl X x) (hm:X.mg x = some (.ref f)) (hk:PySem.W.keepIn X.K (.ref f) = true) (hb:B4 X.K fd ps ds) (hd:i7 dvs ds) (hx:M7 CX X E)
  (ha:PA X (e :: es) t) (hdb:(x == ("__debug__":Str)) = false:=by decide) (he:starEach (e :: es) X.env = (false,eval e X.env) :: starEach es X.env:=by rfl) (hpl:(backTo pos (starEach es X.env)).any (·.1) = false:=by rfl) :
  PE X (.Call (.Name x p) (e :: es) [] pos) (az3 sp dvs E t):=by
 intro pins s σ H Q I h
 refine wpAny_Call_Name_kw (D1 I hg hm ?_ hdb)
 refine PySem.W.callWith_K (h₀:=X.base) I.ok.mod.kin hk (thn (ha pos pins s σ H _ I h) fun us s1 ⟨vs,H1,I1,r,q⟩=>⟨I1.kIn,?_⟩) he hpl
 exact ap3 F hr hb hd hx I1 r q
theorem au2 {pl:Sem Bool} (he:PE X o ta) (c:Cls X.K C) (hm:Meth X.K C m f) (F:FnOk X.prog X.w X.K X.mg X.base CX k f fd ps sp) (hr:Room k X.A) (hb:B4 X.K fd ps ds) (hd:i7 dvs ds) (hx:M7 CX X E) (ha:PA X (e :: es) t)
  (hst:starEach (e :: es) X.env = (false,eval e X.env) :: starEach es X.env:=by rfl) (hpl:(backTo pos (starEach es X.env)).any (·.1) = false:=by rfl)
  (ht:eval (.Call (.Attribute o m apos) (e :: es) [] pos) X.env = (do
   let ov ← eval o X.env
   standAt apos.atName
   let (f,first) ← holding [ov] (getMethod ov m pl)
   callWith pos f first (backTo pos (starEach (e :: es) X.env)) (backToKw pos (keywordEach [] X.env))):=by rfl) :
  PE X (.Call (.Attribute o m apos) (e :: es) [] pos) (ay9 C m sp dvs E ta t):=by
 intro pins s σ H Q I h
 refine PySem.W.methodCall_KW (pl:=pl) (thn (he pins s σ H _ I h) fun u s1 ⟨x,H1,I1,rx,a,dx,fs,ex,ea,l,q⟩=>?_) ht
 subst ex
 obtain rfl:u = Value.ref a:=rx
 refine R0 I1 ea c hm l ?_
 refine PySem.W.callWith_K (first:=[.ref a]) (h₀:=X.base) I.ok.mod.kin hm.kp (thn (ha pos pins s1 σ H1 _ I1 q) fun us s2 ⟨vs,H2,I2,r,q2⟩=>⟨I2.kIn,?_⟩) hst hpl
 exact ap3 (us:=.ref a :: us) (vs:=.ref a :: vs) F hr hb hd hx I2 (.cons rfl r) q2
structure Mk (K:PySem.W.Frag) (C f:Addr):Prop where
 makes:PySem.W.makesIn K C = true
 init:PySem.W.findIn K (.ref C) "__init__" = some (some (.ref f))
 fn:PySem.W.isFn K (.ref f) = true
 kp:PySem.W.keepIn K (.ref C) = true
theorem al1 {pins:List (Addr × Obj)} {σ:St} {H:Hp} {s:Shared} {Q:VK} {us:List Value} {vs:List V} (M:Mk X.K C f) (F:FnOk X.prog X.w X.K X.mg X.base CX k f fd ps sp) (hr:Room (k + 1) X.A) (hb:B4 X.K fd ps ds) (hd:i7 dvs ds)
  (hx:M7 CX X E) (I:Inv X pins σ H s) (r:i7 vs us)
  (h:∀ x dx,H x = none → H dx = none → dx ≠ x → sp (.ref x :: (vs ++ dvs)) (upd (upd H dx (.own x)) x (.ins C dx [])) (fun v H2=>v = .non ∧ Q (.ref x) H2) E) :
  wpAny (model X.prog X.w) X.A (call (.ref C) us) (EP X pins σ Q) X.xe s:=by
 have hq:=h (s.heap.objs.size + 1) s.heap.objs.size (I.hok.fresh (Nat.le_succ _)) (I.hok.fresh (Nat.le_refl _)) (Nat.ne_of_lt (Nat.lt_succ_self _))
 have I2:=Inv.made (C:=C) I
 have r2:i7 (V.ref (s.heap.objs.size + 1) :: (vs ++ dvs)) (Value.ref (s.heap.objs.size + 1) :: (us ++ ds)):=.cons rfl (r.append hd)
 have hl:(Value.ref (s.heap.objs.size + 1) :: us ++ ds).length = ps.length:=by
  have e:=r2.length
  rw [F.len _ _ _ _ hq] at e
  exact e.symm
 refine wpAny_call (al8 (f:=f) I.kIn M.makes M.init (beq_iff_eq.mp M.fn) (codeAny_mono (F.run _ X.stack _ _ ⟨Value.ref (s.heap.objs.size + 1) :: us,[]⟩ (Value.ref (s.heap.objs.size + 1) :: (us ++ ds)) _ _ E (hr.make C us [])
  (I2.env0.make C us []) (hb _ (Value.ref (s.heap.objs.size + 1) :: us) I2.kIn hl) r2 hq) fun r s' hq'=>?_))
 cases r with
 | error e=>exact hx pins σ _ _ e s' I2 hq'
 | ok fl =>
  cases fl with
  | ret u =>
   obtain ⟨v,H',I3,rv,ev,q3⟩:=I2.after hq'
   subst ev
   exact ⟨rv,⟨V.ref (s.heap.objs.size + 1),H',I3,rfl,q3⟩⟩
  | next=>exact False.elim hq'
  | brk=>exact False.elim hq'
  | cont=>exact False.elim hq'
theorem ax2 (M:Mk X.K C f) (F:FnOk X.prog X.w X.K X.mg X.base CX k f fd ps sp) (hr:Room (k + 1) X.A) (hg:Gl X x) (hm:X.mg x = some (.ref C)) (hb:B4 X.K fd ps ds) (hd:i7 dvs ds) (hx:M7 CX X E)
  (ha:PA X (e :: es) t) (hdb:(x == ("__debug__":Str)) = false:=by decide) (he:starEach (e :: es) X.env = (false,eval e X.env) :: starEach es X.env:=by rfl) (hpl:(backTo pos (starEach es X.env)).any (·.1) = false:=by rfl) :
  PE X (.Call (.Name x p) (e :: es) [] pos) (ay4 C sp dvs E t):=by
 intro pins s σ H Q I h
 refine wpAny_Call_Name_kw (D1 I hg hm ?_ hdb)
 refine PySem.W.callWith_K (h₀:=X.base) I.ok.mod.kin M.kp (thn (ha pos pins s σ H _ I h) fun us s1 ⟨vs,H1,I1,r,q⟩=>⟨I1.kIn,?_⟩) he hpl
 exact al1 M F hr hb hd hx I1 r q
end
structure FnScope (N P:List Str) (sc:Scope):Prop where
 kind:sc.kind = .function
 co:sc.isCoroutine = false
 gen:sc.isGenerator = false
 nd:N.Nodup
 pre:N.take P.length = P
 par:∀ x ∈ P,sc.names.lookup x = some .local ∨ sc.names.lookup x = some .cell
 nofree:∀ y ∈ sc.names,y.2 ≠ .free
theorem T9 {kindOf:Str → Option NameKind} {x:Str}:∀ {binds:List (Str × Value)} {m:Str → Option Value},(∀ v,(x,v) ∉ binds) → bindL kindOf binds m x = m x
 | [],_,_=>rfl
 | (n,v) :: r,m,h=>by
  unfold bindL
  rw [T9 fun w hw=>h w (List.mem_cons_of_mem _ hw)]
  split
  ·have:x ≠ n:=by rintro rfl; exact h v List.mem_cons_self
   simp [this]
  ·rfl
theorem U2 {kindOf:Str → Option NameKind} {x:Str}:∀ {binds:List (Str × Value)} {m:Str → Option Value},(∀ v,(x,v) ∉ binds) → bindC kindOf binds m x = m x
 | [],_,_=>rfl
 | (n,v) :: r,m,h=>by
  unfold bindC
  rw [U2 fun w hw=>h w (List.mem_cons_of_mem _ hw)]
  split
  ·rfl
  ·have:x ≠ n:=by rintro rfl; exact h v List.mem_cons_self
   simp [this]
theorem T6 {kindOf:Str → Option NameKind} {x:Str} {v:Value}:∀ {P:List Str} {vs:List Value} {i:Nat} {m:Str → Option Value},P.Nodup → P[i]? = some x → vs[i]? = some v → kindOf x = some .local →
  bindL kindOf (P.zip vs) m x = some v
 | [],_,_,_,_,h,_,_=>by simp at h
 | _ :: _,[],_,_,_,_,h,_=>by simp at h
 | p :: P,w :: vs,0,m,nd,h1,h2,hk=>by
  simp at h1 h2; subst h1; subst h2
  show bindL kindOf ((p,w) :: P.zip vs) m p = _
  unfold bindL
  rw [T9 fun v hv=>(List.nodup_cons.mp nd).1 (List.of_mem_zip hv).1,if_pos hk]
  simp
 | p :: P,w :: vs,i + 1,m,nd,h1,h2,hk=>by
  show bindL kindOf ((p,w) :: P.zip vs) m x = _
  unfold bindL
  exact T6 (i:=i) (List.nodup_cons.mp nd).2 (by simpa using h1) (by simpa using h2) hk
theorem U4 {kindOf:Str → Option NameKind} {x:Str} {v:Value}:∀ {P:List Str} {vs:List Value} {i:Nat} {m:Str → Option Value},P.Nodup → P[i]? = some x → vs[i]? = some v → kindOf x ≠ some .local →
  bindC kindOf (P.zip vs) m x = some v
 | [],_,_,_,_,h,_,_=>by simp at h
 | _ :: _,[],_,_,_,_,h,_=>by simp at h
 | p :: P,w :: vs,0,m,nd,h1,h2,hk=>by
  simp at h1 h2; subst h1; subst h2
  show bindC kindOf ((p,w) :: P.zip vs) m p = _
  unfold bindC
  rw [U2 fun v hv=>(List.nodup_cons.mp nd).1 (List.of_mem_zip hv).1,if_neg hk]
  simp
 | p :: P,w :: vs,i + 1,m,nd,h1,h2,hk=>by
  show bindC kindOf ((p,w) :: P.zip vs) m x = _
  unfold bindC
  exact U4 (i:=i) (List.nodup_cons.mp nd).2 (by simpa using h1) (by simpa using h2) hk
def B6 (N:List Str) (vs:List V):St:=vs.map some ++ List.replicate (N.length - vs.length) none
def D6 (CX:CXT) (P:Program) (w:World) (K:PySem.W.Frag) (mg:Str → Option Value) (base:Heap) (N:List Str) (qual:Str) (scope:Scope) (f:Addr) (cd:Value) (A:Around) (outer:List Env) (s:Shared) (H:Hp) (E:XK):Cx where
 prog:=P
 w:=w
 K:=K
 mg:=mg
 base:=base
 A:=A.deeper (envOfC qual scope s.heap.objs.size f cd)
 N:=N
 s₀:=s
 H₀:=H
 env:=envOfC qual scope s.heap.objs.size f cd
 outer:=outer
 stack:=envOfC qual scope s.heap.objs.size f cd :: outer
 ex:=[]
 calm:=true
 fn:=fun _=>true
 pn:=[]
 xe:=fun e s'=>wpAny (model P w) (A.deeper (envOfC qual scope s.heap.objs.size f cd)) (leaving (envOfC qual scope s.heap.objs.size f cd) e) (fun _ s''=>CX outer H s E e s'') (fun e' s''=>CX outer H s E e' s'') s'
theorem Q2 {sc:Scope} {n:Nat} {x:Str} (h:sc.names.lookup x = some .cell):∃ c,(cellsFrom n sc.names []).lookup x = some c:=by
 have q:=PySem.W.cellsFrom_some sc.names n [] (.inl h)
 exact Option.isSome_iff_exists.mp q
theorem ah3 {CX:CXT} {P:Program} {w:World} {K:PySem.W.Frag} {mg:Str → Option Value} {base:Heap} {N ps:List Str} {qual:Str} {scope:Scope} {f:Addr} {cd:Value} {A:Around} {outer:List Env} {s s1:Shared} {H:Hp} {E:XK} {us:List Value} {vs:List V}
  (S:FnScope N ps scope) (hd:A.handled = none) (e0:Env0 P w K mg base A outer s H) (hl:vs.length = ps.length) (r:i7 vs us)
  (x:InCallC s s.heap.objs.size (bindL (envOfC qual scope s.heap.objs.size f cd).kindOf (ps.zip us) fun _=>none) (cellsFrom (s.heap.objs.size + 1) scope.names []) (bindC (envOfC qual scope s.heap.objs.size f cd).kindOf (ps.zip us) fun _=>none) s1) :
  Inv (D6 CX P w K mg base N qual scope f cd A outer s H E) [] (B6 N vs) H s1:=by
 have hpl:ps.length ≤ N.length:=by have:=congrArg List.length S.pre; rw [List.length_take] at this; lia
 obtain ⟨h1,tk,rfl,hk⟩:=x.done
 have noA:∀ b:Addr,b ∉ (D6 CX P w K mg base N qual scope f cd A outer s H E).ex:=fun b z=>absurd (show b ∈ ([]:List Addr) from z) (by simp)
 refine ⟨⟨e0.mod,S.kind,rfl,rfl,Nat.le_refl _,fun y z c h1 h2=>?_,fun y hy=>?_,fun y c _ h=>?_,fun _=>hd,Around.frames_deeper e0.frames,.inr ⟨rfl,rfl⟩,fun b z=>absurd z (noA b),e0.bs,e0.bsz,fun b _ _=>noA b,fun b z=>absurd z (noA b),e0.funs,e0.frf⟩,
  rfl,e0.bare,Un.kept hk,⟨_,x.toInCall.ns,fun i y v h1 h2 h3=>?_⟩,fun y c h=>⟨_,x.cell y c h⟩,e0.hok.fresh (Nat.le_refl _),fun y c h=>?_,fun p hp=>absurd (show p ∈ ([]:List (Addr × Obj)) from hp) (by simp),e0.hok.kept hk,?_⟩
 ·exact name_of_addr x.apart (PySem.mem_of_lookup h1) (PySem.mem_of_lookup h2)
 ·have hy:scope.names.lookup y = some .cell ∨ scope.names.lookup y = some .free:=hy
  rcases hy with hy | hy
  ·exact Q2 hy
  ·exact absurd rfl (S.nofree _ (PySem.mem_of_lookup hy))
 ·exact Nat.le_of_lt (x.above y c (PySem.mem_of_lookup h))
 ·have hi:i < vs.length:=by
   unfold B6 at h2
   by_cases hi:i < vs.length
   ·exact hi
   ·rw [List.getElem?_append_right (by simpa using hi)] at h2
    rw [List.getElem?_replicate] at h2
    split at h2 <;> cases h2
  have ha:vs[i]? = some v:=by
   unfold B6 at h2
   rw [List.getElem?_append_left (by simpa using hi),List.getElem?_map] at h2
   cases e:vs[i]? with
   | none=>rw [e] at h2; cases h2
   | some a=>rw [e] at h2; cases h2; rfl
  obtain ⟨u,hu,rv⟩:=r.get ha
  have hp:ps[i]? = some y:=by
   rw [← S.pre,List.getElem?_take_of_lt (by lia)]; exact h1
  have ndP:ps.Nodup:=by rw [← S.pre]; exact S.nd.sublist (List.take_sublist _ _)
  refine ⟨u,rv,?_⟩
  rcases S.par y (List.mem_of_getElem? hp) with k | k
  ·exact .inl ⟨k,T6 ndP hp hu k⟩
  ·obtain ⟨c,e⟩:=Q2 (n:=s.heap.objs.size + 1) k
   refine .inr ⟨.inl k,c,e,?_⟩
   have q:=x.cell y c e
   rw [U4 ndP hp hu (by show scope.names.lookup y ≠ _; rw [k]; decide)] at q
   exact q
 ·exact e0.hok.fresh (Nat.le_of_lt (x.above y c (PySem.mem_of_lookup h)))
 ·unfold B6
  show _ = N.length
  rw [List.length_append,List.length_map,List.length_replicate]
  lia
theorem ad6 {CX:CXT} {P:Program} {w:World} {K:PySem.W.Frag} {mg:Str → Option Value} {base:Heap} {k:Nat} {f:Addr} {name qual:Str} {params:Arguments} {body:List Stmt} {scope:Scope} {dV kV doc pm cdv ct oc:Value} {an od:Option Addr}
  {osl:Array (Option Value)} {N ps:List Str} {sp:Sp} (lk:K.lookup f = some ⟨oc,od,.func (PySem.W.fnOf name qual params body scope dV kV doc pm an cdv ct),osl⟩) (hcd:PySem.W.codeIn K cdv qual = true) (S:FnScope N ps scope)
  (len:∀ vs H Q E,sp vs H Q E → vs.length = ps.length)
  (hbody:∀ (A:Around) (outer:List Env) (s:Shared) (H:Hp) (vs:List V) (Q:VK) (E:XK),Room k (A.deeper (envOfC qual scope s.heap.objs.size f cdv)) → sp vs H Q E →
   ∃ t,PSs (D6 CX P w K mg base N qual scope f cdv A outer s H E) body t ∧ t { nx:=fun _ H'=>Q .non H',rt:=Q } (B6 N vs) H) :
  FnOk P w K mg base CX (k + 1) f (PySem.W.fnOf name qual params body scope dV kV doc pm an cdv ct) ps sp:=by
 refine ⟨len,fun A outer s H args us vs Q E hr e0 hb r hsp=>?_⟩
 have hl:=len _ _ _ _ hsp
 have KX:K.In s.heap:=e0.mod.kin.keeps fun b o e=>(e0.bs b o e).1
 have lim:s.heap.NoLimit:=e0.mod.nolimit.keeps fun b o e=>(e0.bs b o e).1
 have hkind:∀ y ∈ ps.zip us,scope.names.lookup y.1 = some .local ∨ (scope.names.lookup y.1 = some .cell ∧ ((cellsFrom (s.heap.objs.size + 1) scope.names []).lookup y.1).isSome = true):=fun ⟨n,v⟩ hy=>by
  rcases S.par n (List.of_mem_zip hy).1 with q | q
  ·exact .inl q
  ·exact .inr ⟨q,PySem.W.cellsFrom_some _ _ _ (.inl q)⟩
 refine codeAny_call_function hr.depth (KX _ _ lk) rfl S.co S.gen rfl (PySem.W.codeRec_of KX hcd) (hb _ _ _ _ ?_)
 refine wpAny_newFunctionEnv_cells S.kind hkind fun env he s1 x=>?_
 subst he
 refine ⟨lim.keeps x.toInCall.keep,codeAny_func ?_⟩
 obtain ⟨t,ht,hq⟩:=hbody A outer s H vs Q E (hr.deeper _) hsp
 have I:Inv (D6 CX P w K mg base N qual scope f cdv A outer s H E) [] (B6 N vs) H s1:=ah3 S hr.hd e0 hl r x
 refine wpAny_mono (ht [] s1 (B6 N vs) H _ I hq) (fun fl s' hs=>?_) fun e s' hs=>hs
 have fin:∀ {σ':St} {H':Hp} {v:V} {u:Value},Inv (D6 CX P w K mg base N qual scope f cdv A outer s H E) [] σ' H' s' → i9 v u → Q v H' → CE outer P w H s Q u s' :=
  fun {σ' H' v u} J rv q=>⟨v,H',J.os,J.bare,J.base,J.hok,rv,q⟩
 cases fl with
 | ret u =>
  obtain ⟨v,σ',H',J,rv,q⟩:=hs
  exact fin J rv q
 | next =>
  obtain ⟨σ',H',J,q⟩:=hs
  exact fin (v:=V.non) (u:=Value.none) J rfl q
 | brk =>
  obtain ⟨_,_,_,q⟩:=hs
  exact False.elim q
 | cont =>
  obtain ⟨_,_,_,q⟩:=hs
  exact False.elim q
end L2
namespace L2
open PySem PySem.Spec PyProof.Rows
section
variable {X:Cx} {x:Str} {p pos:Pos} {e:Expr} {es:List Expr} {t:TA} {id T:String} {r:List V → Hp → VK → Prop}
def tCB (r:List V → Hp → VK → Prop) (t:TA):TE:=fun σ H Q=>t σ H fun vs H1=>r vs H1 Q
theorem j2 (hc:y3 X (.builtin id) r) (hg:Gl X x) (hm:X.mg x = none) (hv:bootBuiltins x = some (.builtin id)) (ha:PA X (e :: es) t) (hn:x ≠ "__name__":=by decide) (hdb:(x == ("__debug__":Str)) = false:=by decide)
  (he:starEach (e :: es) X.env = (false,eval e X.env) :: starEach es X.env:=by rfl) (hpl:(backTo pos (starEach es X.env)).any (·.1) = false:=by rfl):PE X (.Call (.Name x p) (e :: es) [] pos) (tCB r t):=by
 intro pins s σ H Q I h
 refine wpAny_Call_Name_kw (O0 I hg hm hv ?_ hn hdb)
 exact PyProof.Rows.callWith_builtin1 (thn (ha pos pins s σ H _ I h) fun us s1 ⟨vs,H1,I1,r1,q1⟩=>hc pins s1 σ H1 vs us Q I1 r1 q1) he hpl
theorem z9 (hc:y3 X (.type T) r) (hg:Gl X x) (hm:X.mg x = none) (hv:bootBuiltins x = some (.type T)) (ha:PA X (e :: es) t) (hn:x ≠ "__name__":=by decide) (hdb:(x == ("__debug__":Str)) = false:=by decide)
  (he:starEach (e :: es) X.env = (false,eval e X.env) :: starEach es X.env:=by rfl) (hpl:(backTo pos (starEach es X.env)).any (·.1) = false:=by rfl):PE X (.Call (.Name x p) (e :: es) [] pos) (tCB r t):=by
 intro pins s σ H Q I h
 refine wpAny_Call_Name_kw (O0 I hg hm hv ?_ hn hdb)
 exact PyProof.Rows.callWith_type1 (thn (ha pos pins s σ H _ I h) fun us s1 ⟨vs,H1,I1,r1,q1⟩=>hc pins s1 σ H1 vs us Q I1 r1 q1) he hpl
end
end L2
namespace HT
open PySem PyProof.Rows
section
variable {prog:Program} {w:World} {A:Around} {E:Value → Shared → Prop} {s:Shared}
def sIx (n d:Nat):Option Int → Nat
 | none=>d
 | some v=>if v < 0 then (v + (n:Int)).toNat else min v.toNat n
theorem sIx_none (n d:Nat):sIx n d none = d:=rfl
theorem sIx_nat (n d k:Nat):sIx n d (some (k:Int)) = min k n:=by
 show (if (k:Int) < 0 then ((k:Int) + (n:Int)).toNat else min (k:Int).toNat n) = min k n
 rw [if_neg (by lia),Int.toNat_natCast]
end
end HT
namespace L2
open PySem PySem.Spec PyProof.Rows
abbrev TO:=St → Hp → (Option Int → Hp → Prop) → Prop
def PO (X:Cx) (e:Option Expr) (t:TO):Prop :=
 ∀ (pins:List (Addr × Obj)) (s:Shared) (σ:St) (H:Hp) (Q:Option Int → Hp → Prop),Inv X pins σ H s → t σ H Q →
  wpAny (model X.prog X.w) X.A (evalPart e X.env) (fun u s'=>∃ o H',Inv X pins σ H' s' ∧ IsPart u o ∧ Q o H') X.xe s
def as6:TO:=fun _ H Q=>Q none H
def aF9 (t:TE):TO:=fun σ H Q=>t σ H fun x H1=>∃ i,x = .int i ∧ Q (some i) H1
theorem A9 {ns:List Int}:∀ {us:List Value},i7 (ns.map V.int) us → IntsAre us ns:=by
 induction ns with
 | nil=>intro us r; rw [List.map_nil] at r; cases r; exact .nil
 | cons n ns ih =>
  intro us r
  rw [List.map_cons] at r
  cases r with
  | cons r1 r2 =>
   obtain ⟨t,e⟩:=r1
   subst e
   exact .cons n t (ih r2)
section
variable {X:Cx} {e:Expr} {te:TE} {lo hi:Option Expr} {tl th:TO} {pos p2:Pos}
theorem ae0:PO X none as6:=by
 intro pins s σ H Q I h
 rw [evalPart_none]
 exact wpAny_pure ⟨none,H,I,.none,h⟩
theorem P5 (h:PE X e te):PO X (some e) (aF9 te):=by
 intro pins s σ H Q I hw
 rw [evalPart_some]
 refine thn (h pins s σ H _ I hw) fun u s1 ⟨x,H1,I1,r1,q1⟩=>?_
 obtain ⟨i,rfl,q⟩:=q1
 obtain ⟨t,rfl⟩:=r1
 exact ⟨some i,H1,I1,.int i t,q⟩
def SlR (X:Cx) (r:V → Option Int → Option Int → Hp → VK → Prop):Prop :=
 ∀ (pins:List (Addr × Obj)) (s:Shared) (σ:St) (H:Hp) (x:V) (v vl vu:Value) (lo hi:Option Int) (sl:Addr) (Q:VK),Inv X pins σ H s → i9 x v → s.heap.IsSliceOf sl vl vu .none → IsPart vl lo → IsPart vu hi → r x lo hi H Q →
  ∃ T id,typeLookup (.type T) "__getitem__" = pure (some (.builtin id)) ∧ s.TypeIs v T ∧ wpAny (model X.prog X.w) X.A (getItem v (.ref sl)) (EP X pins σ Q) X.xe s
def tSl (r:V → Option Int → Option Int → Hp → VK → Prop) (te:TE) (tl th:TO):TE:=fun σ H Q=>te σ H fun x H1=>tl σ H1 fun l H2=>th σ H2 fun u H3=>r x l u H3 Q
theorem S2 {r:V → Option Int → Option Int → Hp → VK → Prop} (hr:SlR X r) (he:PE X e te) (hl:PO X lo tl) (hu:PO X hi th):PE X (.Subscript e (.Slice lo hi none p2) pos) (tSl r te tl th):=by
 intro pins s σ H Q I h
 refine Subscript_ (thn (he pins s σ H _ I h) fun v s1 ⟨x,H1,I1,r1,q1⟩=>?_)
 refine wpAny_Slice (thn (hl pins s1 σ H1 _ I1 q1) fun vl s2 ⟨l,H2,I2,pl,q2⟩=>thn (hu pins s2 σ H2 _ I2 q2) fun vu s3 ⟨u,H3,I3,pu,q3⟩=>?_)
 rw [evalPart_none]
 refine wpAny_pure ?_
 have I4:Inv X pins σ H3 { s3 with heap:=s3.heap.push { cls:=.type "slice",data:=.fields #[vl,vu,.none] } }:=I3.kept (t':=s3.toks) fun b ob q=>Heap.get?_push_of_some _ q
 obtain ⟨T,id,hT,ht,hg⟩:=hr pins { s3 with heap:=s3.heap.push { cls:=.type "slice",data:=.fields #[vl,vu,.none] } } σ H3 x v vl vu l u s3.heap.objs.size Q I4 r1 (Heap.IsSliceOf.new ..) pl pu q3
 show wpAny (model X.prog X.w) X.A (subscriptTail e (.Slice lo hi none p2) v (.ref s3.heap.objs.size)) (EP X pins σ Q) X.xe { s3 with heap:=s3.heap.push { cls:=.type "slice",data:=.fields #[vl,vu,.none] } }
 exact tail_any (ops:=[.ref s3.heap.objs.size,v]) ht hT hg (by with_unfolding_all rfl)
def z6 (xs:List V) (lo hi:Option Int):List V:=(xs.drop (HT.sIx xs.length 0 lo)).take (HT.sIx xs.length xs.length hi - HT.sIx xs.length 0 lo)
theorem aa2 (xs:List V) (lo hi:Option Int):(z6 xs lo hi).length ≤ xs.length:=by
 unfold z6
 rw [List.length_take,List.length_drop]
 lia
end
end L2
namespace L2
open PySem PySem.Spec PyProof.Rows
def ixN (n:Nat) (i:Int):Option Nat:=if 0 ≤ i then (if i < n then some i.toNat else none) else if -(n:Int) ≤ i then some (i + n).toNat else none
def atI {α:Type} (xs:List α) (i:Int):Option α:=(ixN xs.length i).bind fun j=>xs[j]?
theorem ad4 {n:Nat} {i:Int} {j:Nat} (h:ixN n i = some j):seqIndex? i n = some j ∧ j < n ∧ -(n:Int) ≤ i ∧ i < n:=by
 unfold ixN at h
 by_cases h0:0 ≤ i
 ·rw [if_pos h0] at h
  by_cases h1:i < n
  ·rw [if_pos h1] at h
   have e:i.toNat = j:=Option.some.inj h
   exact ⟨by rw [seqIndex_of h0 h1,e],by lia,by lia,h1⟩
  ·rw [if_neg h1] at h; cases h
 ·rw [if_neg h0] at h
  by_cases h1:-(n:Int) ≤ i
  ·rw [if_pos h1] at h
   have e:(i + n).toNat = j:=Option.some.inj h
   exact ⟨by rw [seqIndex_neg (by lia) h1,e],by lia,h1,by lia⟩
  ·rw [if_neg h1] at h; cases h
theorem ae1 {α:Type} {xs:List α} {i:Int} {v:α} (h:atI xs i = some v):∃ j,seqIndex? i xs.length = some j ∧ xs[j]? = some v ∧ j < xs.length ∧ -(xs.length:Int) ≤ i ∧ i < xs.length:=by
 unfold atI at h
 cases e:ixN xs.length i with
 | none=>rw [e] at h; cases h
 | some j =>
  rw [e] at h
  obtain ⟨h1,h2,h3,h4⟩:=ad4 e
  exact ⟨j,h1,h,h2,h3,h4⟩
theorem B5 {α:Type} {xs:List α} {j:Nat} {v:α} (h:xs[j]? = some v):atI xs (j:Int) = some v:=by
 have hj:j < xs.length:=(List.getElem?_eq_some_iff.mp h).1
 have e:ixN xs.length (j:Int) = some j:=by
  unfold ixN
  rw [if_pos (by lia),if_pos (by lia)]; simp
 unfold atI; rw [e]; exact h
def at7 (b:Expr):Prop:=∀ o i,subscripted b false o i = operate [o,i] (getItem o i)
def IxR (X:Cx) (r:R2):Prop :=
 ∀ (value slice:Expr) (pins:List (Addr × Obj)) (s:Shared) (σ:St) (H:Hp) (x y:V) (v u:Value) (Q:VK),Inv X pins σ H s → i9 x v → i9 y u → r x y H Q →
  subscripted slice false v u = operate [v,u] (getItem v u) → wpAny (model X.prog X.w) X.A (subscriptTail value slice v u) (EP X pins σ Q) X.xe s
def MtR (X:Cx) (id:String) (r:V → List V → Hp → VK → Prop):Prop :=
 ∀ (pins:List (Addr × Obj)) (s:Shared) (σ:St) (H:Hp) (x:V) (xs:List V) (v:Value) (us:List Value) (Q:VK),Inv X pins σ H s → i9 x v → i7 xs us → r x xs H Q →
  wpAny (model X.prog X.w) X.A (call (.builtin id) (v :: us)) (EP X pins σ Q) X.xe s
section
variable {X:Cx} {a b:Expr} {ta tb:TE} {pos:Pos}
theorem m4 {r:R2} (hr:IxR X r) (ha:PE X a ta) (hb:PE X b tb) (hs:at7 b):PE X (.Subscript a b pos) (tOp r ta tb):=by
 intro pins s σ H Q I h
 exact Subscript_ (aE4 ha hb I h fun v u s2 x y H2 I2 rx ry q=>hr a b pins s2 σ H2 x y v u Q I2 rx ry q (hs _ _))
def aF8 (K:PySem.W.Frag):R2:=fun x y H Q=>∃ p xs i v,x = .ref p ∧ y = .int i ∧ SqL K H p xs ∧ atI xs i = some v ∧ Q v H
def aF0 (K:PySem.W.Frag):R2:=fun x y H Q=>∃ p xs i v,x = .ref p ∧ y = .int i ∧ SqT K H p xs ∧ atI xs i = some v ∧ Q v H
theorem at6:IxR X (aF8 X.K):=by
 intro value slice pins s σ H x y v u Q I rx ry h hs
 obtain ⟨p,xs,i,z,rfl,rfl,hq,he,q⟩:=h
 cases rx
 obtain ⟨t,rfl⟩:=ry
 obtain ⟨its,r,pl,hz⟩:=I.list hq
 obtain ⟨j,h1,h2,h3,h4,h5⟩:=ae1 he
 obtain ⟨w,ew,rw'⟩:=r.get h2
 have hl:=r.length
 have hn:=M6
 have fin:EP X pins σ Q w s:=⟨z,H,I,rw',q⟩
 by_cases h0:0 ≤ i
 ·have hj:i.toNat = j:=by
   rw [seqIndex_of h0 h5] at h1
   exact Option.some.inj h1
  exact item_listR pl.isList h0 (by lia) (by rw [hj]; simpa using ew) fin hs
 ·have hj:(i + (its.toArray.size:Int)).toNat = j:=by
   rw [seqIndex_neg (by lia) h4] at h1
   rw [List.size_toArray,← hl]
   exact Option.some.inj h1
  exact subscriptTail_builtinR (x:=w) pl.isList.typeIs slot_list_getitem.lookup
   (wpAny_getItem_list_neg (Q:=fun r s'=>r = w ∧ EP X pins σ Q r s') pl.isList (by lia) (by rw [List.size_toArray] <;> lia) (by lia) (by rw [hj]; simpa using ew) ⟨rfl,fin⟩) hs
theorem aB6:IxR X (aF0 X.K):=by
 intro value slice pins s σ H x y v u Q I rx ry h hs
 obtain ⟨p,xs,i,z,rfl,rfl,hq,he,q⟩:=h
 cases rx
 obtain ⟨t,rfl⟩:=ry
 obtain ⟨its,r,pl,hz⟩:=I.tuple hq
 obtain ⟨j,h1,h2,h3,h4,h5⟩:=ae1 he
 obtain ⟨w,ew,rw'⟩:=r.get h2
 have hl:=r.length
 have hn:=M6
 have fin:EP X pins σ Q w s:=⟨z,H,I,rw',q⟩
 exact subscriptTail_builtinR (x:=w) pl.typeIs slot_tuple_getitem.lookup
  (getItem_tuple (j:=j) (Q:=fun r s'=>r = w ∧ EP X pins σ Q r s') pl (by lia) (by lia) (by rw [List.size_toArray,← hl]; exact h1) (by simpa using ew) ⟨rfl,fin⟩) hs
theorem ac3 (its:List Value) (n j:Nat) (u:Value):Obj.mapSeq (·.setIfInBounds j u) { cls:=.type "list",data:=.seq its.toArray n } = { cls:=.type "list",data:=.seq (its.set j u).toArray n }:=by
 simp [Obj.mapSeq]
theorem Inv.lst {pins:List (Addr × Obj)} {σ:St} {H:Hp} {s:Shared} {p:Addr} {xs:List V} (I:Inv X pins σ H s) (h:H p = some (.lst xs)) :
  ∃ (its:List Value) (n:Nat),i7 xs its ∧ s.heap.get? p = some { cls:=.type "list",data:=.seq its.toArray n } ∧ xs.length ≤ sizeLine:=by
 obtain ⟨z,its,n,r,e⟩:=I.hok p _ h
 exact ⟨its,n,r,e,z⟩
theorem Inv.lstUpd {pins:List (Addr × Obj)} {σ:St} {H:Hp} {s:Shared} {p:Addr} {xs ys:List V} {its its':List Value} {n n':Nat} {f:Obj → Obj} (I:Inv X pins σ H s) (h:H p = some (.lst xs))
  (ho:s.heap.get? p = some { cls:=.type "list",data:=.seq its.toArray n }) (hf:f { cls:=.type "list",data:=.seq its.toArray n } = { cls:=.type "list",data:=.seq its'.toArray n' }) (r:i7 ys its') (hz:ys.length ≤ sizeLine) (t:Nat) :
  Inv X pins σ (upd H p (.lst ys)) { s with heap:=s.heap.update p f,toks:=t }:=by
 have e:(s.heap.update p f).get? p = some { cls:=.type "list",data:=.seq its'.toArray n' }:=by
  rw [Heap.get?_update_self f ho (by rw [hf] <;> rfl),hf]
 refine I.write (x:=p) (e:=p) (by rw [h]; trivial) (.inl rfl) (fun b u hb q=>(Heap.get?_update_other _ _ (Ne.symm hb)).trans q) ⟨_,e⟩ ?_
 exact ⟨hz,its',n',r,e⟩
def aE9:V → V → V → Hp → (Hp → Prop) → Prop:=fun o i v H Q=>∃ p xs k j,o = .ref p ∧ i = .int k ∧ H p = some (.lst xs) ∧ ixN xs.length k = some j ∧ Q (upd H p (.lst (xs.set j v)))
theorem al7:aD0 X aE9:=by
 intro pins s σ H o i v ov iv u Q I ro ri rv h
 obtain ⟨p,xs,k,j,rfl,rfl,hp,hj,q⟩:=h
 cases ro
 obtain ⟨t,rfl⟩:=ri
 obtain ⟨its,n,r,ho,hz⟩:=I.lst hp
 obtain ⟨h1,h2,h3,h4⟩:=ad4 hj
 have hl:=r.length
 have hn:=M6
 have I':Inv X pins σ (upd H p (.lst (xs.set j v))) { s with heap:=s.heap.update p (Obj.mapSeq (·.setIfInBounds j u)) } :=
  I.lstUpd hp ho (ac3 its n j u) (r.set rv j) (by rw [List.length_set]; exact hz) s.toks
 by_cases h0:0 ≤ k
 ·have hk:k.toNat = j:=by
   rw [seqIndex_of h0 h4] at h1
   exact Option.some.inj h1
  exact PySem.W.ki_setAt ho h0 (by lia) (by rw [List.size_toArray,← hl]; exact h4) (by rw [hk]; exact ⟨_,I',q⟩)
 ·have hk:(k + (its.toArray.size:Int)).toNat = j:=by
   rw [seqIndex_neg (by lia) h3] at h1
   rw [List.size_toArray,← hl]
   exact Option.some.inj h1
  exact PySem.W.ki_setBack ho (by lia) (by rw [List.size_toArray,← hl]; exact h3) (by lia) (by rw [hk]; exact ⟨_,I',q⟩)
theorem X4 (lo hi:Option Int) (n:Nat):(sliceBounds lo hi none n).1 = ((HT.sIx n 0 lo:Nat):Int) ∧ (sliceBounds lo hi none n).2.1 = ((HT.sIx n n hi:Nat):Int) ∧ (sliceBounds lo hi none n).2.2 = 1:=by
 refine ⟨?_,?_,rfl⟩
 ·cases lo with
  | none=>simp [sliceBounds,HT.sIx]
  | some i =>
   simp only [sliceBounds,HT.sIx,Option.getD_none,show (1:Int) > 0 by decide,if_true]
   by_cases h:i < 0
   ·simp only [h,if_true] <;> lia
   ·simp only [h,if_false] <;> lia
 ·cases hi with
  | none=>simp [sliceBounds,HT.sIx]
  | some i =>
   simp only [sliceBounds,HT.sIx,Option.getD_none,show (1:Int) > 0 by decide,if_true]
   by_cases h:i < 0
   ·simp only [h,if_true] <;> lia
   ·simp only [h,if_false] <;> lia
theorem S6 (its:List Value) (lo hi:Option Int):slicePick its.toArray lo hi none = ((its.drop (HT.sIx its.length 0 lo)).take (HT.sIx its.length its.length hi - HT.sIx its.length 0 lo)).toArray:=by
 obtain ⟨h1,h2,h3⟩:=X4 lo hi its.toArray.size
 unfold slicePick
 rw [h1,h2,h3]
 simp only [sliceRange_one,pick_run,List.size_toArray] <;> rfl
def aH2 (K:PySem.W.Frag):V → Option Int → Option Int → Hp → VK → Prop:=fun x lo hi H Q=>∃ a xs,x = .ref a ∧ SqL K H a xs ∧ ∀ p,H p = none → Q (.ref p) (upd H p (.lst (z6 xs lo hi)))
theorem ay1:SlR X (aH2 X.K):=by
 intro pins s σ H x v vl vu lo hi sl Q I rx hs pl pu h
 obtain ⟨a,xs,rfl,hx,q⟩:=h
 cases rx
 obtain ⟨its,r,ht,hz⟩:=I.list hx
 have hlen:=r.length
 refine ⟨"list",_,slot_list_getitem.lookup,ht.isList.typeIs,?_⟩
 refine wpAny_getItem_list_slice ht.isList hs pl pu .none (by simp) ?_ (by rw [List.size_toArray] <;> lia)
 rw [S6,← hlen]
 refine ⟨.ref s.heap.objs.size,_,I.laid (t':=s.toks) (o:=.lst (z6 xs lo hi)) (fun b ob q=>Heap.get?_push_of_some _ q) (Nat.le_refl _) ?_,rfl,q _ (I.hok.fresh (Nat.le_refl _))⟩
 exact ⟨Nat.le_trans (aa2 xs lo hi) hz,_,0,(r.drop (HT.sIx xs.length 0 lo)).take (HT.sIx xs.length xs.length hi - HT.sIx xs.length 0 lo),Heap.get?_push_size _ rfl⟩
def L8:V → Bool
 | .non=>true
 | .bl _=>true
 | .int _=>true
 | .str _=>true
 | _=>false
def eqV:V → V → Bool
 | .non,.non=>true
 | .bl a,.bl b=>a == b
 | .bl a,.int b=>(if a then 1 else 0) == b
 | .int a,.bl b=>a == (if b then 1 else 0)
 | .int a,.int b=>a == b
 | .str a,.str b=>a == b
 | _,_=>false
theorem aD4 {A:Around} {s:Shared} {y x:V} {u v:Value} (ry:i9 y u) (rx:i9 x v) (fy:L8 y = true) (fx:L8 x = true):SeqAt.EqAt A s u v (eqV y x):=by
 cases y with
 | non =>
  cases ry
  cases x with
  | non=>cases rx; exact SeqAt.EqAt.same _
  | bl b=>cases rx; exact SeqAt.EqAt.none_bool b
  | int b=>obtain ⟨t,rfl⟩:=rx; exact SeqAt.EqAt.none_int b t
  | str b=>obtain ⟨t,rfl⟩:=rx; exact SeqAt.EqAt.none_str b t
  | _=>exact absurd (show false = true from fx) Bool.false_ne_true
 | bl a =>
  cases ry
  cases x with
  | non=>cases rx; exact SeqAt.EqAt.bool_none a
  | bl b=>cases rx; exact SeqAt.EqAt.bool_bool a b
  | int b=>obtain ⟨t,rfl⟩:=rx; exact SeqAt.EqAt.bool_int a b t
  | str b=>obtain ⟨t,rfl⟩:=rx; exact SeqAt.EqAt.bool_str a b t
  | _=>exact absurd (show false = true from fx) Bool.false_ne_true
 | int a =>
  obtain ⟨t',rfl⟩:=ry
  cases x with
  | non=>cases rx; exact SeqAt.EqAt.int_none a t'
  | bl b=>cases rx; exact SeqAt.EqAt.int_bool a t' b
  | int b=>obtain ⟨t,rfl⟩:=rx; exact SeqAt.EqAt.int_int a t' b t
  | str b=>obtain ⟨t,rfl⟩:=rx; exact SeqAt.EqAt.int_str a t' b t
  | _=>exact absurd (show false = true from fx) Bool.false_ne_true
 | str a =>
  obtain ⟨t',rfl⟩:=ry
  cases x with
  | non=>cases rx; exact SeqAt.EqAt.str_none a t'
  | bl b=>cases rx; exact SeqAt.EqAt.str_bool a t' b
  | int b=>obtain ⟨t,rfl⟩:=rx; exact SeqAt.EqAt.str_int a t' b t
  | str b=>obtain ⟨t,rfl⟩:=rx; exact SeqAt.EqAt.str_str a t' b t
  | _=>exact absurd (show false = true from fx) Bool.false_ne_true
 | _=>exact absurd (show false = true from fy) Bool.false_ne_true
def eqU (x:V) (u:Value):Bool:=match u with
 | .none=>eqV .non x
 | .bool b=>eqV (.bl b) x
 | .int i _=>eqV (.int i) x
 | .str z _=>eqV (.str z) x
 | _=>false
theorem ap5 {x y:V} {u:Value} (r:i9 y u) (f:L8 y = true):eqU x u = eqV y x:=by
 cases y with
 | non=>cases r; rfl
 | bl b=>cases r; rfl
 | int i=>obtain ⟨t,rfl⟩:=r; rfl
 | str z=>obtain ⟨t,rfl⟩:=r; rfl
 | _=>exact absurd (show false = true from f) Bool.false_ne_true
theorem L7 {x:V}:∀ {xs:List V} {us:List Value},i7 xs us → xs.all L8 = true → us.any (eqU x) = xs.any fun y=>eqV y x
 | _,_,.nil,_=>rfl
 | y :: xs,u :: us,.cons r t,f=>by
  rw [List.all_cons,Bool.and_eq_true] at f
  rw [List.any_cons,List.any_cons,ap5 r f.1,L7 t f.2]
theorem E1 {A:Around} {s:Shared} {x:V} {v:Value} (rx:i9 x v) (fx:L8 x = true):∀ {xs:List V} {us:List Value},i7 xs us → xs.all L8 = true → ∀ u ∈ us,SeqAt.EqAt A s u v (eqU x u)
 | _,_,.nil,_=>fun u hu=>by cases hu
 | y :: xs,u :: us,.cons r t,f=>fun u' hu=>by
  rw [List.all_cons,Bool.and_eq_true] at f
  rcases List.mem_cons.mp hu with rfl | hu
  ·rw [ap5 r f.1]; exact aD4 r rx f.1 fx
  ·exact E1 rx fx t f.2 u' hu
def inV (x:V) (xs:List V):Bool:=xs.any fun y=>eqV y x
def rIn (K:PySem.W.Frag) (neg:Bool):R2:=fun x y H Q=>∃ p xs,y = .ref p ∧ (SqL K H p xs ∨ SqT K H p xs) ∧ L8 x = true ∧ xs.all L8 = true ∧ Q (.bl (if neg then !inV x xs else inV x xs)) H
theorem ai1:OpR X (compareOp .In) (rIn X.K false):=by
 intro pins s σ H x y v u Q I rx ry h
 obtain ⟨p,xs,rfl,hq,fx,fs,q⟩:=h
 cases ry
 rcases hq with hq | hq
 ·obtain ⟨its,r,pl,hz⟩:=I.list hq
  refine SeqAt.in_listAt (eqU x) pl.isList (fun w hw=>E1 rx fx r fs w (by simpa using hw)) ⟨.bl _,H,I,rfl,?_⟩
  rw [show its.toArray.any (eqU x) = its.any (eqU x) by simp,L7 r fs]
  exact q
 ·obtain ⟨its,r,pl,hz⟩:=I.tuple hq
  refine SeqAt.in_tupleAt (eqU x) pl (fun w hw=>E1 rx fx r fs w (by simpa using hw)) ⟨.bl _,H,I,rfl,?_⟩
  rw [show its.toArray.any (eqU x) = its.any (eqU x) by simp,L7 r fs]
  exact q
theorem W3:OpR X (compareOp .NotIn) (rIn X.K true):=by
 intro pins s σ H x y v u Q I rx ry h
 obtain ⟨p,xs,rfl,hq,fx,fs,q⟩:=h
 cases ry
 rcases hq with hq | hq
 ·obtain ⟨its,r,pl,hz⟩:=I.list hq
  refine SeqAt.notIn_listAt (eqU x) pl.isList (fun w hw=>E1 rx fx r fs w (by simpa using hw)) ⟨.bl _,H,I,rfl,?_⟩
  rw [show its.toArray.any (eqU x) = its.any (eqU x) by simp,L7 r fs]
  exact q
 ·obtain ⟨its,r,pl,hz⟩:=I.tuple hq
  refine SeqAt.notIn_tupleAt (eqU x) pl (fun w hw=>E1 rx fx r fs w (by simpa using hw)) ⟨.bl _,H,I,rfl,?_⟩
  rw [show its.toArray.any (eqU x) = its.any (eqU x) by simp,L7 r fs]
  exact q
theorem X1:y3 X (.builtin "len") (fun xs H Q=>∃ p ys,xs = [.ref p] ∧ (SqL X.K H p ys ∨ SqT X.K H p ys) ∧ Q (.int ys.length) H):=by
 intro pins s σ H xs us Q I r h
 obtain ⟨p,ys,rfl,hq,q⟩:=h
 obtain ⟨u,rfl,rx⟩:=F7 r
 cases rx
 have hn:=M6
 rcases hq with hq | hq
 ·obtain ⟨its,r',pl,hz⟩:=I.list hq
  have hlen:=r'.length
  exact Calls.call_len_list pl.isList (by simp only [List.size_toArray] <;> lia) ⟨.int ys.length,H,I.tok _,⟨s.toks + 1,by rw [List.size_toArray,hlen]⟩,q⟩
 ·obtain ⟨its,r',pl,hz⟩:=I.tuple hq
  have hlen:=r'.length
  exact len_tuple pl (by simp only [List.size_toArray] <;> lia) ⟨.int ys.length,H,I.tok _,⟨s.toks + 1,by rw [List.size_toArray,hlen]⟩,q⟩
theorem X0:y3 X (.type "list") (fun xs H Q=>∃ p ys,xs = [.ref p] ∧ (SqL X.K H p ys ∨ SqT X.K H p ys) ∧ ∀ l,H l = none → Q (.ref l) (upd H l (.lst ys))):=by
 intro pins s σ H xs us Q I r h
 obtain ⟨p,ys,rfl,hq,q⟩:=h
 obtain ⟨u,rfl,rx⟩:=F7 r
 cases rx
 have fin:∀ (its:List Value),i7 ys its → ys.length ≤ sizeLine → ∀ (h':Heap) (c':Nat),(∀ b o',s.heap.get? b = some o' → h'.get? b = some o') →
   h'.get? s.heap.objs.size = some { cls:=.type "list",dict:=none,data:=.seq its.toArray c',slots:=#[] } → EP X pins σ Q (.ref s.heap.objs.size) { s with heap:=h' }:=fun its r' hz h' c' kp e =>
  ⟨.ref s.heap.objs.size,_,I.laid (t':=s.toks) kp (Nat.le_refl _) (show m9 X.prog X.w _ h' _ (.lst ys) from ⟨hz,its,c',r',e⟩),rfl,q _ (I.hok.fresh (Nat.le_refl _))⟩
 rcases hq with hq | hq
 ·obtain ⟨its,r',pl,hz⟩:=I.list hq
  have hlen:=r'.length
  obtain ⟨o,ho,hc,n,hd⟩:=pl.isList
  exact call_list_seq p (.inl rfl) ho hc hd (fun h' c' kp e=>fin its r' hz h' c' kp e) (by simp only [List.size_toArray] <;> lia)
 ·obtain ⟨its,r',pl,hz⟩:=I.tuple hq
  have hlen:=r'.length
  obtain ⟨o,ho,hc,n,hd⟩:=pl
  exact call_list_seq p (.inr rfl) ho hc hd (fun h' c' kp e=>fin its r' hz h' c' kp e) (by simp only [List.size_toArray] <;> lia)
theorem S7:y3 X (.type "tuple") (fun xs H Q=>∃ p ys,xs = [.ref p] ∧ ((SqL X.K H p ys ∧ ∀ l,H l = none → Q (.ref l) (upd H l (.tup ys))) ∨ (SqT X.K H p ys ∧ Q (.ref p) H))):=by
 intro pins s σ H xs us Q I r h
 obtain ⟨p,ys,rfl,h⟩:=h
 obtain ⟨u,rfl,rx⟩:=F7 r
 cases rx
 rcases h with ⟨hq,q⟩ | ⟨hq,q⟩
 ·obtain ⟨its,r',pl,hz⟩:=I.list hq
  have hlen:=r'.length
  refine call_tuple_list pl.isList (fun h' kp=>?_) (by simp only [List.size_toArray] <;> lia)
  have I1:Inv X pins σ H { s with heap:=h' }:=I.kept (t':=s.toks) kp
  have I2:Inv X pins σ (upd H h'.objs.size (.tup ys)) { s with heap:=h'.push { cls:=.type "tuple",data:=.seq its.toArray } } :=
   I1.laid (t':=s.toks) (fun b o e=>Heap.get?_push_of_some _ e) (Nat.le_refl _) (show m9 X.prog X.w _ _ _ (.tup ys) from ⟨hz,its,r',IsTup.new _ _⟩)
  exact ⟨.ref h'.objs.size,_,I2,rfl,q _ (I1.hok.fresh (Nat.le_refl _))⟩
 ·obtain ⟨its,r',pl,hz⟩:=I.tuple hq
  exact call_tuple_same pl ⟨.ref p,H,I,rfl,q⟩
def tyV (K:PySem.W.Frag) (T:String) (x:V) (H:Hp):Prop:=match x with
 | .str _=>T = "str"
 | .int _=>T = "int"
 | .ref p=>(T = "list" ∧ ∃ xs,SqL K H p xs) ∨ (T = "tuple" ∧ ∃ o,K.lookup p = some o ∧ o.cls = .type "tuple" ∧ o.dict = none) ∨
   (T = "dict" ∧ ((∃ kvs,H p = some (.dK kvs)) ∨ ∃ kvs,H p = some (.dT kvs))) ∨ (T = "set" ∧ ∃ S n,H p = some (.set S n))
 | _=>False
theorem ap8 {pins:List (Addr × Obj)} {σ:St} {H:Hp} {s:Shared} {T:String} {x:V} {v:Value} (I:Inv X pins σ H s) (r:i9 x v) (ty:tyV X.K T x H) :
  s.TypeIs v T ∧ ∀ a,v = .ref a → ∃ ob,s.heap.get? a = some ob ∧ ob.dict = none:=by
 cases x with
 | str z =>
  obtain ⟨t,rfl⟩:=r
  cases (show T = "str" from ty)
  exact ⟨typeIs_str s z t,fun _ e=>nomatch e⟩
 | int i =>
  obtain ⟨t,rfl⟩:=r
  cases (show T = "int" from ty)
  exact ⟨typeIs_int s i t,fun _ e=>nomatch e⟩
 | ref p =>
  cases r
  rcases ty with ⟨rfl,xs,hq⟩ | ⟨rfl,o,hk,hc,hd⟩ | ⟨rfl,hk⟩ | ⟨rfl,S,n,hk⟩
  ·obtain ⟨its,_,pl,_⟩:=I.list hq
   refine ⟨pl.isList.typeIs,fun a e=>?_⟩
   cases e
   obtain ⟨o,n,e,c,hd,_⟩:=pl
   exact ⟨o,e,hd⟩
  ·refine ⟨⟨o,I.kIn p o hk,hc⟩,fun a e=>?_⟩
   cases e
   exact ⟨o,I.kIn _ o hk,hd⟩
  ·have z:∃ o,s.heap.get? p = some o ∧ o.ExactDict:=by
    rcases hk with ⟨kvs,hk⟩ | ⟨kvs,hk⟩
    ·obtain ⟨_,_,_,_,o,_,_,e,ex,_⟩:=I.hok p _ hk
     exact ⟨o,e,ex⟩
    ·obtain ⟨_,_,_,_,o,_,_,e,ex,_⟩:=I.hok p _ hk
     exact ⟨o,e,ex⟩
   obtain ⟨o,e,ex⟩:=z
   refine ⟨⟨o,e,ex.1⟩,fun a e2=>?_⟩
   cases e2
   exact ⟨o,e,ex.2.1⟩
  ·obtain ⟨o,_,_,_,e,ex,_⟩:=I.hok p _ hk
   refine ⟨⟨o,e,ex.1⟩,fun a e2=>?_⟩
   cases e2
   exact ⟨o,e,ex.2.1⟩
 | _=>exact False.elim ty
def aK7 (K:PySem.W.Frag) (T:String) (r:V → List V → Hp → VK → Prop) (to:TE):TE:=fun σ H Q=>to σ H fun x H1=>tyV K T x H1 ∧ r x [] H1 Q
def tBM (K:PySem.W.Frag) (T:String) (r:V → List V → Hp → VK → Prop) (to:TE) (t:TA):TE:=fun σ H Q=>to σ H fun x H1=>tyV K T x H1 ∧ t σ H1 fun xs H2=>r x xs H2 Q
variable {o e:Expr} {es:List Expr} {to:TE} {t:TA} {name:Str} {apos cpos:Pos} {T id:String} {r:V → List V → Hp → VK → Prop}
theorem az9 (pa:PlainAttrs T) (slot:Slot T name id) (hty:typeOf (.builtin id) = pure (.type "method_descriptor")) (hm:MtR X id r) (ho:PE X o to)
  (hbase:attributeBase o name X.env (eval o X.env) = eval o X.env:=by rfl) (hline:(apos.endLine == cpos.line) = true:=by rfl):PE X (.Call (.Attribute o name apos) [] [] cpos) (aK7 X.K T r to):=by
 intro pins s σ H Q I h
 refine wpAny_Call_method0_late hbase hline (thn (ho pins s σ H _ I h) fun v s1 ⟨x,H1,I1,r1,ty,q1⟩=>?_)
 obtain ⟨h1,h2⟩:=ap8 I1 r1 ty
 exact ⟨T,id,pa,slot,hty,h1,h2,Calls.callWith_builtin rfl (PySem.evalArgs_none (hm pins s1 σ H1 x [] v [] Q I1 r1 .nil q1))⟩
theorem aG9 (pa:PlainAttrs T) (slot:Slot T name id) (hty:typeOf (.builtin id) = pure (.type "method_descriptor")) (hm:MtR X id r) (ho:PE X o to) (ha:PA X (e :: es) t)
  (hbase:attributeBase o name X.env (eval o X.env) = eval o X.env:=by rfl)
  (hfew:((backTo cpos (starEach (e :: es) X.env)).all (fun x=>!x.1) && (backToKw cpos (keywordEach [] X.env)).all (fun x=>x.1.isSome)
   && decide ((e :: es).length + ([]:List Keyword).length + (if ([]:List Keyword).isEmpty then 0 else 1) < 30)) = true:=by rfl)
  (hline:(apos.endLine == cpos.line) = true:=by rfl) (hs:starEach (e :: es) X.env = (false,eval e X.env) :: starEach es X.env:=by rfl) (hplain:(backTo cpos (starEach es X.env)).any (·.1) = false:=by rfl) :
  PE X (.Call (.Attribute o name apos) (e :: es) [] cpos) (tBM X.K T r to t):=by
 intro pins s σ H Q I h
 refine wpAny_Call_method_late hbase hfew hline rfl (thn (ho pins s σ H _ I h) fun v s1 ⟨x,H1,I1,r1,ty,q1⟩=>?_)
 obtain ⟨h1,h2⟩:=ap8 I1 r1 ty
 refine ⟨T,id,pa,slot,hty,h1,h2,?_⟩
 have hA:=ha cpos pins s1 σ H1 _ I1 q1
 rw [hs] at hA ⊢
 refine Calls.callWith_builtin (by show (false || (backTo cpos (starEach es X.env)).any (·.1)) = false; rw [hplain] <;> rfl) (Calls.evalArgs_plain ?_)
 exact thn hA fun us s2 ⟨vs,H2,I2,r2,q2⟩=>hm pins s2 σ H2 x vs v us Q I2 r1 r2 q2
end
end L2
namespace L2
open PySem PySem.Spec PyProof.Rows
def MtM (X:Cx) (id:String) (r:V → List V → Hp → VK → Prop):Prop :=
 ∀ (pins:List (Addr × Obj)) (s:Shared) (σ:St) (H:Hp) (x:V) (xs:List V) (v:Value) (us:List Value) (Q:VK),Inv X pins σ H s → i9 x v → i7 xs us → r x xs H Q →
  wpAny (model X.prog X.w) X.A (call (.builtin id) (v :: us)) (EP X pins σ Q) X.xe s
theorem i7.one:∀ {x:V} {us:List Value},i7 [x] us → ∃ u,us = [u] ∧ i9 x u
 | _,_,.cons r .nil=>⟨_,rfl,r⟩
theorem i7.zero:∀ {us:List Value},i7 [] us → us = []
 | _,.nil=>rfl
theorem i7.eraseIdx:∀ {xs:List V} {us:List Value} (i:Nat),i7 xs us → i7 (xs.eraseIdx i) (us.eraseIdx i)
 | _,_,_,.nil=>.nil
 | _,_,0,.cons _ t=>t
 | _,_,i + 1,.cons r t=>.cons r (i7.eraseIdx i t)
theorem i7.rep {xs:List V} {us:List Value} (h:i7 xs us):∀ k:Nat,i7 (List.replicate k xs).flatten (List.replicate k us).flatten
 | 0=>.nil
 | k + 1=>by
  rw [List.replicate_succ,List.replicate_succ,List.flatten_cons,List.flatten_cons]
  exact i7.append h (i7.rep h k)
theorem V1 {α:Type}:∀ (l:List α) (i:Nat),(l.eraseIdx i).length ≤ l.length
 | [],_=>Nat.le_refl _
 | _ :: _,0=>Nat.le_succ _
 | _ :: r,i + 1=>Nat.succ_le_succ (V1 r i)
theorem V0 (its:List Value):∀ (k:Nat) (acc:List Value),
  List.foldl (fun x1 x2=>x1 ++ x2) acc.toArray (List.replicate k its.toArray) = (acc ++ (List.replicate k its).flatten).toArray
 | 0,acc=>by simp
 | k + 1,acc=>by
  have e:acc.toArray ++ its.toArray = (acc ++ its).toArray:=by simp
  have e2:(acc ++ its) ++ (List.replicate k its).flatten = acc ++ (List.replicate (k + 1) its).flatten:=by
   rw [List.replicate_succ,List.flatten_cons,List.append_assoc]
  rw [← e2,← V0 its k (acc ++ its),← e,List.replicate_succ,List.foldl_cons]
section
variable {X:Cx} {pins:List (Addr × Obj)} {σ:St} {H:Hp} {s:Shared} {l b:Addr} {xs ys zs:List V}
theorem Inv.lset {its its':List Value} {n:Nat} {f:Array Value → Array Value} {t':Nat} (I:Inv X pins σ H s) (hH:H l = some (.lst xs))
  (e:s.heap.get? l = some { cls:=.type "list",data:=.seq its.toArray n }) (hf:f its.toArray = its'.toArray) (hv:i7 ys its') (hz:ys.length ≤ sizeLine) :
  Inv X pins σ (upd H l (.lst ys)) { s with heap:=s.heap.update l (Obj.mapSeq f),toks:=t' }:=by
 have q:=PySem.IsL.update e f
 rw [hf] at q
 refine I.write (x:=l) (e:=l) (by rw [hH]; exact trivial) (.inl rfl) (fun b' u hb hu=>(Heap.get?_update_other s.heap (Obj.mapSeq f) (Ne.symm hb)).trans hu) ⟨_,q⟩ ?_
 exact ⟨hz,its',_,hv,q⟩
theorem Inv.lnew {its:List Value} {t':Nat} (I:Inv X pins σ H s) (hv:i7 ys its) (hz:ys.length ≤ sizeLine) :
  Inv X pins σ (upd H s.heap.objs.size (.lst ys)) { s with heap:=s.heap.push { cls:=.type "list",data:=.seq its.toArray },toks:=t' } :=
 I.laid (fun _ _ q=>Heap.get?_push_of_some _ q) (Nat.le_refl _) ⟨hz,its,0,hv,Heap.get?_push_size _ rfl⟩
theorem Inv.fresh (I:Inv X pins σ H s):H s.heap.objs.size = none:=I.hok.fresh (Nat.le_refl _)
theorem Inv.lstM (I:Inv X pins σ H s) (hH:H l = some (.lst xs)):xs.length ≤ sizeLine ∧ ∃ (its:List Value) (n:Nat),i7 xs its ∧ xs.length = its.length ∧ s.heap.get? l = some { cls:=.type "list",data:=.seq its.toArray n }:=by
 obtain ⟨z,its,n,r,e⟩:=I.hok l _ hH
 exact ⟨z,its,n,r,r.length,e⟩
theorem ak6 {n:Nat} (h:n ≤ sizeLine):Builtin.List.listTooLong n = false:=by
 unfold Builtin.List.listTooLong
 exact decide_eq_false (by lia)
end
section
variable {X:Cx}
def af8:V → List V → Hp → VK → Prop:=fun x vs H Q=>∃ l xs y,x = .ref l ∧ vs = [y] ∧ H l = some (.lst xs) ∧ xs.length < sizeLine ∧ Q .non (upd H l (.lst (xs ++ [y])))
theorem aj5:MtM X "list.append" af8:=by
 intro pins s σ H x vs v us Q I rx rv h
 obtain ⟨l,xs,y,rfl,rfl,hH,hz,q⟩:=h
 cases rx
 obtain ⟨u,rfl,ru⟩:=rv.one
 obtain ⟨z,its,n,r,hl,e⟩:=I.lstM hH
 refine call_meets F.slot_list_append ⟨_,e,rfl⟩ F.entry_list_append (F.args_list_append_2 _ _) (PySem.list_append l its.toArray n u (by rw [List.size_toArray]; lia)) ⟨e,?_⟩
 refine ⟨.non,_,I.lset (its':=its ++ [u]) hH e (by simp) (r.append (.cons ru .nil)) ?_,rfl,q⟩
 rw [List.length_append,List.length_singleton]
 lia
def ap1:V → List V → Hp → VK → Prop:=fun x vs H Q=>∃ l xs i k y,x = .ref l ∧ vs = [.int i] ∧ H l = some (.lst xs) ∧ -(2 ^ 63) ≤ i ∧ i < 2 ^ 63 ∧ seqIndex? i xs.length = some k ∧ xs[k]? = some y ∧ Q y (upd H l (.lst (xs.eraseIdx k)))
theorem ao0:MtM X "list.pop" ap1:=by
 intro pins s σ H x vs v us Q I rx rv h
 obtain ⟨l,xs,i,k,y,rfl,rfl,hH,h1,h2,hk,hy,q⟩:=h
 cases rx
 obtain ⟨u,rfl,ru⟩:=rv.one
 obtain ⟨t,rfl⟩:=ru
 obtain ⟨z,its,n,r,hl,e⟩:=I.lstM hH
 obtain ⟨w,hw,rw'⟩:=r.get hy
 refine call_meets F.slot_list_pop ⟨_,e,rfl⟩ F.entry_list_pop (F.args_list_pop_2 _ _)
  (MeetsSeq.list_pop_at l its.toArray n i t k w (fitsIndex_both h1 h2) (by rw [List.size_toArray,← hl]; exact hk) (by rw [← Array.getElem?_toList]; exact hw) (by rw [List.size_toArray]; lia)) ⟨e,?_⟩
 refine ⟨y,_,I.lset (its':=its.eraseIdx k) hH e ?_ (r.eraseIdx k) ?_,rw',q⟩
 ·show its.toArray.eraseIdxIfInBounds k = (its.eraseIdx k).toArray
  rw [List.eraseIdxIfInBounds_toArray]
 ·have:=V1 xs k
  lia
def ak9:V → List V → Hp → VK → Prop:=fun x vs H Q=>∃ l xs,x = .ref l ∧ vs = [] ∧ H l = some (.lst xs) ∧ Q .non (upd H l (.lst []))
theorem ao6:MtM X "list.clear" ak9:=by
 intro pins s σ H x vs v us Q I rx rv h
 obtain ⟨l,xs,rfl,rfl,hH,q⟩:=h
 cases rx
 have hus:=rv.zero
 subst hus
 obtain ⟨z,its,n,r,hl,e⟩:=I.lstM hH
 refine call_meets F.slot_list_clear ⟨_,e,rfl⟩ F.entry_list_clear (F.args_list_clear_1 _) (AutoSeq1.list_clear_list_0 l its.toArray n (by rw [List.size_toArray]; lia)) ⟨e,?_⟩
 exact ⟨.non,_,I.lset (its':=[]) (ys:=[]) hH e rfl .nil (Nat.zero_le _),rfl,q⟩
def aK3:R2:=fun x y H Q=>∃ l b xs zs,x = .ref l ∧ y = .ref b ∧ H l = some (.lst xs) ∧ H b = some (.lst zs) ∧ xs.length + zs.length ≤ sizeLine ∧ ∀ p,H p = none → Q (.ref p) (upd H p (.lst (xs ++ zs)))
theorem D2:OpR X (binaryOp .Add) aK3:=by
 intro pins s σ H x y v u Q I rx ry h
 obtain ⟨l,b,xs,zs,rfl,rfl,hH,hB,hz,q⟩:=h
 cases rx
 cases ry
 obtain ⟨z,its,n,r,hl,e⟩:=I.lstM hH
 obtain ⟨z2,its2,n2,r2,hl2,e2⟩:=I.lstM hB
 refine PySem.P.add_list e e2 ?_ (by rw [List.size_toArray,List.size_toArray]; lia)
 have ea:its.toArray ++ its2.toArray = (its ++ its2).toArray:=by simp
 rw [ea]
 exact ⟨.ref _,_,I.lnew (t':=s.toks) (r.append r2) (by rw [List.length_append]; lia),rfl,q _ I.fresh⟩
def aI1:R2:=fun x y H Q=>∃ l k xs,x = .ref l ∧ y = .int k ∧ H l = some (.lst xs) ∧ -(2 ^ 63) ≤ k ∧ k < 2 ^ 63 ∧ xs.length * k.toNat ≤ sizeLine ∧
 ∀ p,H p = none → Q (.ref p) (upd H p (.lst (List.replicate k.toNat xs).flatten))
theorem as2 {α:Type} (xs:List α) (k:Nat):(List.replicate k xs).flatten.length = k * xs.length:=by
 induction k with
 | zero=>simp
 | succ k ih=>rw [List.replicate_succ,List.flatten_cons,List.length_append,ih,Nat.succ_mul,Nat.add_comm]
theorem aA5:OpR X (binaryOp .Mult) aI1:=by
 intro pins s σ H x y v u Q I rx ry h
 obtain ⟨l,k,xs,rfl,rfl,hH,h1,h2,hz,q⟩:=h
 cases rx
 obtain ⟨t,rfl⟩:=ry
 obtain ⟨z,its,n,r,hl,e⟩:=I.lstM hH
 have hlen:its.toArray.size * k.toNat ≤ sizeLine:=by rw [List.size_toArray,← hl]; exact hz
 have hcap:¬ its.toArray.size * k.toNat > (2 ^ 63 - 1) / 8:=by
  have:(sizeLine:Nat) ≤ (2 ^ 63 - 1) / 8:=by decide
  lia
 have hfit:¬ (!Builtin.List.listFitsIndex k) = true:=by
  rw [fitsIndex_both h1 h2]
  exact Bool.false_ne_true
 have hlong:¬ Builtin.List.listTooLong (its.toArray.size * k.toNat) = true:=by
  rw [ak6 hlen]
  exact Bool.false_ne_true
 have hnew:List.foldl (fun x1 x2=>x1 ++ x2) #[] (List.replicate (if its.toArray.isEmpty = true then 0 else k.toNat) its.toArray) = (List.replicate k.toNat its).flatten.toArray:=by
  have f0:∀ m:Nat,List.foldl (fun x1 x2=>x1 ++ x2) #[] (List.replicate m its.toArray) = (List.replicate m its).flatten.toArray:=fun m=>by
   have:=V0 its m []
   rw [List.nil_append] at this
   exact this
  rw [f0]
  cases its with
  | nil=>simp
  | cons a r'=>rw [if_neg (by simp)]
 refine wpAny_binaryOp_repeat_ref (T:="list") (U:="int") (by decide) ⟨_,e,rfl⟩ (fun s'=>typeIs_int s' k t) noFill_list_mul F.fills_int_mul F.slot_int_rmul repeat_list F.slot_int_index.lookup
  (call_meets F.slot_int_rmul (typeIs_int s k t) F.entry_int_rmul (F.args_int_rmul_2 _ _) (int___rmul___int_list k t l its.toArray n)
   ⟨e,rfl,⟨_,e,rfl⟩,call_meets F.slot_list_mul ⟨_,e,rfl⟩ F.entry_list_mul (F.args_list_mul_2 _ _) (AutoListH.list___mul___list_int_3 l its.toArray n k t hfit hcap hlong) ⟨e,?_⟩⟩)
 rw [hnew]
 exact ⟨.ref _,_,I.lnew (t':=s.toks) (r.rep k.toNat) (by rw [as2,Nat.mul_comm]; exact hz),rfl,q _ I.fresh⟩
end
end L2
namespace Att
open PySem PySem.W PySem.Calls PyProof.Rows
theorem O9 {P:Params} {h:Heap}:∀ (ns:List Int) (vs:List Value),WellAll P h vs (ns.map WData.int) → IntsAre vs ns:=by
 intro ns
 induction ns with
 | nil =>
  intro vs w
  rw [List.map_nil] at w
  cases w
  exact .nil
 | cons n ns ih =>
  intro vs w
  rw [List.map_cons] at w
  cases w with
  | cons a b =>
   cases a
   exact .cons _ _ (ih _ b)
theorem ah7 {l:OpenLaw} {n:Nat} (hn:l.most = some n) {P:Params} {h:Heap} {args:List WData} {vals:List Value}
  (hpre:l.row.toRowW.claim.pre args = true) (hwl:WellAll P h vals args) :
  ∃ a vs ns,vals = [Value.ref a] ∧ args = [WData.list (ns.map WData.int)] ∧ h.get? a = some { cls:=.type "list",data:=.seq vs.toArray } ∧ IntsAre vs ns ∧ ns.length ≤ n:=by
 have hsh:WShape.hasAll [] args [.list .int] = true:=(pre_splitW hpre).1
 have hc:l.pre.holds [] { args:=args } = true:=(pre_splitW hpre).2
 obtain ⟨d,r,rfl,h1,h2⟩:=hasAllW_cons hsh
 obtain rfl:=hasAllW_nil h2
 obtain ⟨xs,rfl,h3⟩:=hasW_list h1
 obtain ⟨ns,rfl⟩:=items_int h3
 have hlen:ns.length ≤ n:=by
  unfold OpenLaw.pre at hc
  have h4:(WTm.not (.lt (.lit (.int (n:Int))) (.len (.arg 0)))).holds [] { args:=[.list (ns.map .int)] } = true:=by
   have h4:=(holds_andW hc).1
   rw [hn] at h4
   exact h4
  have h5:=condW_of h4 (w_not (w_lt w_lit (w_len_list (w_arg rfl))))
  rw [List.length_map] at h5
  refine Nat.le_of_not_lt fun q=>?_
  have q':(n:Int) < ((ns.length:Nat):Int):=by lia
  first
   | (rw [decide_eq_true q'] at h5; exact absurd h5 (by decide))
   | (simp at h5; lia)
 cases hwl with
 | cons w1 w2 =>
  cases w2
  cases w1 with
  | list ho hall=>exact ⟨_,_,ns,rfl,rfl,ho,O9 ns _ hall,hlen⟩
theorem ai8 (l:OpenLaw) (args:List WData):l.row.toRowW.claim.post args (.bool true) args = true :=
 postW_of (r:=l.row.toRowW) (X:=(true == true))
  (show WShape.has [] (.bool true) .bool = true by first | rfl | decide | simp [WShape.has,WShape.arms,WShape.armsAll])
  (show (WTm.eq .res (.lit (.bool true))).value [] { args:=args,res:=some (.bool true),after:=args } = some (.bool (true == true)) from w_eq_bool (w_res rfl) w_lit) rfl
theorem attach_call {l:OpenLaw} {n:Nat} {q:Program} {loose:List Str} {XP:(Str → Option Value) → Heap → Prop} {YP:World → Heap → Prop} {d:DefRec}
  (hn:l.most = some n) (hdf:d.params.defaults = [])
  (call:∀ (w:World) (s₀ s₁:Shared) (mg mb:Str → Option Value) (fa:Addr) (o:Obj) (pm cd doc:Value) (a:Addr) (vs:List Value) (ns:List Int),
   Ground q loose [] XP w s₀ mg mb s₁.heap → YP w s₁.heap →
   s₁.heap.get? fa = some o → o.data = .func (docDef d.name d.params d.body d.scope pm cd doc) → s₁.heap.CodeRec cd d.name → mg d.name = some (.ref fa) →
   s₁.heap.get? a = some { cls:=.type "list",data:=.seq vs.toArray } → IntsAre vs ns → ns.length ≤ n → s₁.gens = #[] →
   codeAny (model l.prog w) callerA (.call (.ref fa) ⟨[.ref a],[]⟩) (fun r s'=>r = .ok (.ret (.bool true)) ∧ OldK s₁.heap s'.heap ∧ s'.os = s₁.os ∧ AllBare s'.gens) s₁) :
  WalkO q loose XP YP l.row.toRowW d [] (fun f vs=>PySem.call f vs):=by
 intro w s₀ s₁ mg mb G Y fa o pm cd doc dV kV ho hd hcd hD hmg hg args vals as hpre hlay hrd hwl hlo
 obtain rfl:dV = .none:=Dflts.none hD hdf
 obtain rfl:kV = .none:=Dflts.noKw hD
 obtain ⟨a,vs,ns,rfl,rfl,hobj,hints,hlen⟩:=ah7 hn hpre hwl
 refine enter_call (codeAny_mono (call w s₀ s₁ mg mb fa o pm cd doc a vs ns G Y ho (fd_plain hd) hcd hmg hobj hints hlen hg) fun r s' hq=>?_)
 obtain ⟨rfl,h2,h3,h4⟩:=hq
 exact ⟨.inl ⟨.bool true,.bool true,[],rfl,fun _=>rfl,.bool true,ai8 l _,fun _=>⟨List.Pairwise.nil,fun _ hm=>(nomatch hm)⟩⟩,h2,h3,h4⟩
end Att
namespace L2
open PySem PySem.Spec PyProof.Rows
theorem N5:∀ {vs:List Value} {ns:List Int},IntsAre vs ns → i7 (ns.map V.int) vs
 | _,_,.nil=>.nil
 | _,_,.cons n t h=>.cons ⟨t,rfl⟩ (N5 h)
end L2
namespace L2
open PySem PySem.Spec PyProof.Rows
def j1 (s:Stmt) (j:Nat):Stmt:=match s with
 | .ClassDef _ _ _ body _ _ _ _ _ _ _=>body.getD j (.Pass ⟨0,0,0,0⟩)
 | _=>.Pass ⟨0,0,0,0⟩
def j3 (s:Stmt):Arguments:=match s with
 | .FunctionDef _ a _ _ _ _ _ _ _ _=>a
 | _=>{ posonlyargs:=[],args:=[],vararg:=none,kwonlyargs:=[],kw_defaults:=[],kwarg:=none,defaults:=[] }
def i8 (s:Stmt):List Stmt:=match s with
 | .FunctionDef _ _ b _ _ _ _ _ _ _=>b
 | _=>[]
def g6 (s:Stmt):Scope:=match s with
 | .FunctionDef _ _ _ _ _ _ sc _ _ _=>sc
 | _=>{ kind:=.function,names:=[],isGenerator:=false,isCoroutine:=false }
abbrev CX0:CXT:=fun _ _ _ _ _ _=>False
abbrev E0:XK:=fun _ _ _=>False
theorem am1 {X:Cx}:M7 CX0 X E0:=fun _ _ _ _ _ _ _ h=>h.elim
structure Fun (K:PySem.W.Frag) (x qual:Str) (st:Stmt) (f:Addr) (fd:FuncData):Prop where
 ex:∃ (oc:Value) (od:Option Addr) (kV doc pm:Value) (an:Option Addr) (cdv ct:Value) (osl:Array (Option Value)),
  fd = PySem.W.fnOf x qual (j3 st) (i8 st) (g6 st) .none kV doc pm an cdv ct ∧ K.lookup f = some ⟨oc,od,.func fd,osl⟩ ∧ PySem.W.codeIn K cdv qual = true
 kp:PySem.W.keepIn K (.ref f) = true
section
variable {P:Program} {w:World} {K:PySem.W.Frag} {mg:Str → Option Value} {base:Heap}
theorem Fun.ok {x qual:Str} {st:Stmt} {f:Addr} {fd:FuncData} {N ps:List Str} {k:Nat} {sp:Sp} (F:Fun K x qual st f fd) (S:FnScope N ps (g6 st)) (len:∀ vs H Q E,sp vs H Q E → vs.length = ps.length)
  (hbody:∀ (cdv:Value) (A:Around) (outer:List Env) (s:Shared) (H:Hp) (vs:List V) (Q:VK) (E:XK),Room k (A.deeper (envOfC qual (g6 st) s.heap.objs.size f cdv)) → sp vs H Q E →
   ∃ t,PSs (D6 CX0 P w K mg base N qual (g6 st) f cdv A outer s H E).nox (i8 st) t ∧ t { nx:=fun _ H'=>Q .non H',rt:=Q } (B6 N vs) H):FnOk P w K mg base CX0 (k + 1) f fd ps sp:=by
 obtain ⟨oc,od,kV,doc,pm,an,cdv,ct,osl,rfl,lk,hcd⟩:=F.ex
 refine ad6 lk hcd S len fun A outer s H vs Q E hr hsp=>?_
 obtain ⟨t,h,q⟩:=hbody cdv A outer s H vs Q E hr hsp
 exact ⟨t,h.nox,q⟩
theorem am5 {x qual:Str} {st:Stmt} {f:Addr} {oc:Value} {od an:Option Addr} {osl:Array (Option Value)} {kV doc pm cdv ct:Value} (l:K.lookup f = some ⟨oc,od,.func (PySem.W.fnOf x qual (j3 st) (i8 st) (g6 st) .none kV doc pm an cdv ct),osl⟩)
  (c:PySem.W.codeIn K cdv qual = true) (k:PySem.W.keepIn K (.ref f) = true):Fun K x qual st f (PySem.W.fnOf x qual (j3 st) (i8 st) (g6 st) .none kV doc pm an cdv ct):=⟨⟨oc,od,kV,doc,pm,an,cdv,ct,osl,rfl,l,c⟩,k⟩
end
theorem ay7 {A:Around} {k:Nat} (hr:Room k A):A.units + 1 < cLine:=Nat.lt_of_le_of_lt (Nat.add_le_add_left (by decide:1 ≤ 64) _) hr.units
theorem j4 {n:Nat} (h:n ≤ 1000):n < sizeLine:=Nat.lt_of_le_of_lt h (by decide)
section
variable {X:Cx}
theorem pv (i:Nat) {x:Str} {pos:Pos} (hN:X.N[i]? = some x:=by rfl) (hv:Vis X.env.scope x:=by first | exact Or.inl rfl | exact Or.inr (Or.inl rfl) | exact Or.inr (Or.inr rfl)) (hd:(x == ("__debug__":Str)) = false:=by decide)
  (hcd:(x == ("__classdict__":Str)) = false:=by decide):PE X (.Name x pos) (aF4 i):=aA9 hN hv hd hcd
end
theorem V9 {A B:Prop} (h:B):if false = true then A else B:=by
 rw [if_neg Bool.false_ne_true]
 exact h
theorem R1 {A B:Prop} (h:A):if true = true then A else B:=by
 rw [if_pos rfl]
 exact h
theorem E3 {c A B:Prop} [Decidable c] (h1:c → A) (h2:¬ c → B):if c then A else B:=by
 by_cases h:c
 ·rw [if_pos h]
  exact h1 h
 ·rw [if_neg h]
  exact h2 h
def j0 (H H':Hp):Prop:=∀ b o,H b = some o → H' b = some o
theorem j0.refl (H:Hp):j0 H H:=fun _ _ h=>h
theorem j0.trans {H H1 H2:Hp} (a:j0 H H1) (b:j0 H1 H2):j0 H H2:=fun c o h=>b c o (a c o h)
theorem j0.free {H H':Hp} (e:j0 H H') {l:Addr} (h:H' l = Option.none):H l = Option.none:=by
 cases q:H l with
 | none=>rfl
 | some o =>
  rw [e l o q] at h
  cases h
theorem j0.seq {K:PySem.W.Frag} {H H':Hp} {a:Addr} {xs:List V} (e:j0 H H') (h:SqL K H a xs):SqL K H' a xs:=by
 rcases h with (h | ⟨o,h⟩) | h
 ·exact .inl (.inl (e _ _ h))
 ·exact .inl (.inr ⟨o,e _ _ h⟩)
 ·exact .inr h
end L2
namespace L2
open PySem PySem.Spec PyProof.Rows
section
variable {κ:Type} [DecidableEq κ]
def w5 (kvs:List (κ × V)) (k:κ):Option V:=(kvs.find? fun kv=>decide (kv.1 = k)).map (·.2)
def N4 (kvs:List (κ × V)) (k:κ) (v:V):List (κ × V) :=
 if (kvs.any fun kv=>decide (kv.1 = k)) = true then kvs.map (fun kv=>if kv.1 = k then (kv.1,v) else kv) else kvs ++ [(k,v)]
theorem r9 {p:κ × V} {r:List (κ × V)} {k:κ} (e:p.1 = k):w5 (p :: r) k = some p.2:=by simp [w5,List.find?_cons,e]
theorem r6 {p:κ × V} {r:List (κ × V)} {k:κ} (e:¬ p.1 = k):w5 (p :: r) k = w5 r k:=by simp [w5,List.find?_cons,e]
theorem M0 (k:κ):∀ kvs:List (κ × V),(kvs.any fun kv=>decide (kv.1 = k)) = (w5 kvs k).isSome
 | []=>rfl
 | p :: r=>by
  rw [List.any_cons]
  by_cases e:p.1 = k
  ·simp only [r9 e,decide_eq_true e,Bool.true_or,Option.isSome_some]
  ·rw [r6 e,decide_eq_false e,Bool.false_or]; exact M0 k r
theorem Y5 (k j:κ) (y:V):∀ kvs:List (κ × V),w5 (kvs.map fun kv=>if kv.1 = k then (kv.1,y) else kv) j = (w5 kvs j).map fun x=>if j = k then y else x
 | []=>rfl
 | p :: r=>by
  have ih:=Y5 k j y r
  rw [List.map_cons]
  by_cases h:p.1 = k
  ·rw [if_pos h]
   by_cases e:p.1 = j
   ·rw [r9 (p:=(p.1,y)) e,r9 e,Option.map_some,if_pos (e.symm.trans h)]
   ·rw [r6 (p:=(p.1,y)) e,r6 e,ih]
  ·rw [if_neg h]
   by_cases e:p.1 = j
   ·rw [r9 (p:=p) e,r9 e,Option.map_some,if_neg (fun z=>h (e.trans z))]
   ·rw [r6 (p:=p) e,r6 e,ih]
theorem U3 (k j:κ) (y:V):∀ kvs:List (κ × V),w5 kvs k = none → w5 (kvs ++ [(k,y)]) j = if j = k then some y else w5 kvs j
 | [],_=>by
  by_cases e:k = j
  ·rw [if_pos e.symm]; exact r9 (p:=(k,y)) e
  ·rw [if_neg (fun z=>e z.symm)]; exact r6 (p:=(k,y)) e
 | p :: r,hn=>by
  rw [List.cons_append]
  have hk:¬ p.1 = k:=fun z=>by rw [r9 z] at hn; cases hn
  rw [r6 hk] at hn
  have ih:=U3 k j y r hn
  by_cases e:p.1 = j
  ·rw [r9 e,r9 e,if_neg (fun z=>hk (e.trans z))]
  ·rw [r6 e,r6 e,ih]
theorem al9 (kvs:List (κ × V)) (k j:κ) (y:V):w5 (N4 kvs k y) j = if j = k then some y else w5 kvs j:=by
 unfold N4
 by_cases a:(kvs.any fun kv=>decide (kv.1 = k)) = true
 ·rw [if_pos a,Y5]
  rw [M0] at a
  by_cases e:j = k
  ·obtain ⟨x,hx⟩:=Option.isSome_iff_exists.mp a
   rw [if_pos e,e,hx,Option.map_some,if_pos rfl]
  ·rw [if_neg e]
   cases w5 kvs j with
   | none=>rfl
   | some x=>rw [Option.map_some,if_neg e]
 ·rw [if_neg a]
  refine U3 k j y kvs ?_
  rw [M0] at a
  cases q:w5 kvs k with
  | none=>rfl
  | some x=>rw [q] at a; exact (a rfl).elim
theorem E4 (kvs:List (κ × V)) (k:κ) (v:V):(N4 kvs k v).length ≤ kvs.length + 1:=by
 unfold N4
 split
 ·rw [List.length_map]; lia
 ·rw [List.length_append,List.length_cons,List.length_nil]; lia
theorem L5.isSome_eq {o:Option V} {u:Option Value} (r:L5 o u):o.isSome = u.isSome:=by
 cases o with
 | none=>cases u with
  | none=>rfl
  | some _=>exact (show False from r).elim
 | some _=>cases u with
  | none=>exact (show False from r).elim
  | some _=>rfl
theorem KV.val {kvs:List (κ × V)} {vs:List (κ × Value)} (r:KV kvs vs) (k:κ):L5 (w5 kvs k) (valueAt vs k):=by
 unfold KV at r
 induction r with
 | nil=>exact True.intro
 | @cons p q ps qs h t ih =>
  obtain ⟨h1,h2⟩:=h
  by_cases e:p.1 = k
  ·have e':q.1 = k:=h1.symm.trans e
   have b:valueAt (q :: qs) k = some q.2:=by simp [valueAt,List.find?_cons,e']
   rw [r9 e,b]; exact h2
  ·have e':¬ q.1 = k:=fun z=>e (h1.trans z)
   have b:valueAt (q :: qs) k = valueAt qs k:=by simp [valueAt,List.find?_cons,e']
   rw [r6 e,b]; exact ih
theorem KV.any {kvs:List (κ × V)} {vs:List (κ × Value)} (r:KV kvs vs) (k:κ):(kvs.any fun kv=>decide (kv.1 = k)) = vs.any fun kv=>decide (kv.1 = k):=by
 unfold KV at r
 induction r with
 | nil=>rfl
 | cons h t ih=>rw [List.any_cons,List.any_cons,ih,h.1]
theorem KV.repl {kvs:List (κ × V)} {vs:List (κ × Value)} (r:KV kvs vs) (k:κ) {y:V} {u:Value} (ry:i9 y u) :
  KV (kvs.map fun kv=>if kv.1 = k then (kv.1,y) else kv) (vs.map fun kv=>if kv.1 = k then (kv.1,u) else kv):=by
 unfold KV at r ⊢
 induction r with
 | nil=>exact .nil
 | @cons p q ps qs h t ih =>
  rw [List.map_cons,List.map_cons]
  refine .cons ?_ ih
  obtain ⟨h1,h2⟩:=h
  by_cases e:p.1 = k
  ·rw [if_pos e,if_pos (h1.symm.trans e)]; exact ⟨h1,ry⟩
  ·rw [if_neg e,if_neg (fun z=>e (h1.trans z))]; exact ⟨h1,h2⟩
theorem KV.put {kvs:List (κ × V)} {vs:List (κ × Value)} (r:KV kvs vs) (k:κ) {y:V} {u:Value} (ry:i9 y u):KV (N4 kvs k y) (stored vs k u):=by
 unfold N4 stored
 rw [r.any k]
 by_cases e:(vs.any fun kv=>decide (kv.1 = k)) = true
 ·rw [if_pos e,if_pos e]; exact r.repl k ry
 ·rw [if_neg e,if_neg e]; exact Paired.snoc r ⟨rfl,ry⟩
theorem KV.length {kvs:List (κ × V)} {vs:List (κ × Value)} (r:KV kvs vs):kvs.length = vs.length:=Paired.length r
end
theorem ar0 {P:Program} {w:World} {k:Key} {u:Value} (r:i9 (kV k) u):(p7 P w).is k u = true:=by
 cases k with
 | inl i=>obtain ⟨t,e⟩:=(show ∃ t,u = Value.int i t from r); subst e; exact Z7 P w i t
 | inr x=>obtain ⟨t,e⟩:=(show ∃ t,u = Value.str x t from r); subst e; exact Z4 P w x t
theorem aD8 {a b:Key} (e:kV a = kV b):a = b:=by
 cases a with
 | inl i=>cases b with
  | inl j=>have e':V.int i = V.int j:=e; injection e' with e'; rw [e']
  | inr y=>exact nomatch (show V.int i = V.str y from e)
 | inr x=>cases b with
  | inl j=>exact nomatch (show V.str x = V.int j from e)
  | inr y=>have e':V.str x = V.str y:=e; injection e' with e'; rw [e']
theorem U5 {P:Program} {w:World}:∀ {ks:List Key} {us:List Value},i7 (ks.map kV) us → ItemsAre (p7 P w) ks us
 | [],_,r=>by rw [List.map_nil] at r; cases r; exact .nil
 | k :: ks,_,r=>by
  rw [List.map_cons] at r
  cases r with
  | cons h t=>exact .cons (ar0 h) (U5 t)
abbrev KT (H:Hp):List (List Key × V) → List (List Key × Addr × Value) → Prop:=Paired fun p q=>p.1 = q.1 ∧ H q.2.1 = some (.tup (p.1.map kV)) ∧ i9 p.2 q.2.2
theorem KT.val {H:Hp} {kvs:List (List Key × V)} {xs:List (List Key × Addr × Value)} (r:KT H kvs xs) (k:List Key):L5 (w5 kvs k) ((atKey xs k).map (·.2)):=by
 induction r with
 | nil=>exact True.intro
 | @cons p q ps qs h t ih =>
  obtain ⟨h1,_,h2⟩:=h
  by_cases e:p.1 = k
  ·have e':q.1 = k:=h1.symm.trans e
   have b:atKey (q :: qs) k = some q.2:=by simp [atKey,List.find?_cons,e']
   rw [r9 e,b]; exact h2
  ·have e':¬ q.1 = k:=fun z=>e (h1.trans z)
   have b:atKey (q :: qs) k = atKey qs k:=by simp [atKey,List.find?_cons,e']
   rw [r6 e,b]; exact ih
theorem KT.repl {H:Hp} {kvs:List (List Key × V)} {xs:List (List Key × Addr × Value)} (r:KT H kvs xs) (k:List Key) {y:V} {u:Value} (ry:i9 y u) :
  KT H (kvs.map fun kv=>if kv.1 = k then (kv.1,y) else kv) (xs.map (putAt k u)):=by
 induction r with
 | nil=>exact .nil
 | @cons p q ps qs h t ih =>
  rw [List.map_cons,List.map_cons]
  refine .cons ?_ ih
  obtain ⟨h1,h2,h3⟩:=h
  unfold putAt
  by_cases e:p.1 = k
  ·rw [if_pos e,if_pos (h1.symm.trans e)]; exact ⟨h1,h2,ry⟩
  ·rw [if_neg e,if_neg (fun z=>e (h1.trans z))]; exact ⟨h1,h2,h3⟩
theorem KT.put {H:Hp} {kvs:List (List Key × V)} {xs:List (List Key × Addr × Value)} (r:KT H kvs xs) (k:List Key) {b:Addr} {y:V} {u:Value} (hb:H b = some (.tup (k.map kV))) (ry:i9 y u) :
  KT H (N4 kvs k y) (storedH xs k b u):=by
 have e:(kvs.any fun kv=>decide (kv.1 = k)) = (atKey xs k).isSome:=by
  rw [M0,(r.val k).isSome_eq,Option.isSome_map]
 unfold N4 storedH
 rw [e]
 by_cases q:(atKey xs k).isSome = true
 ·rw [if_pos q,if_pos q]; exact r.repl k ry
 ·rw [if_neg q,if_neg q]; exact Paired.snoc r ⟨rfl,hb,ry⟩
theorem KT.keeps {H H':Hp} {kvs:List (List Key × V)} {xs:List (List Key × Addr × Value)} (r:KT H kvs xs) (ht:∀ b ys,H b = some (.tup ys) → H' b = some (.tup ys)):KT H' kvs xs :=
 Paired.mapP r fun _ _ z=>⟨z.1,ht _ _ z.2.1,z.2.2⟩
section
variable {P:Program} {w:World} {H:Hp} {h:Heap} {a:Addr}
theorem az4 {u:HO} (ok:HOk P w H h) (e:Rd H a u):m9 P w H h a u:=e.ok ok
theorem az0 {kvs:List (Key × V)} (ok:HOk P w H h) (e:Rd H a (.dK kvs)):kvs.length ≤ sizeLine ∧ (a == sysModules) = false ∧ ∃ vs,KV kvs vs ∧ h.DictOf (p7 P w) a vs :=
 show m9 P w H h a (.dK kvs) from az4 ok e
theorem aH9 {kvs:List (Key × V)} (ok:HOk P w H h) (e:H a = some (.dK kvs)):kvs.length ≤ sizeLine ∧ (a == sysModules) = false ∧ ∃ vs,KV kvs vs ∧ h.DictOf (p7 P w) a vs:=az0 ok (.inl e)
theorem ad1 {ks:List Key} (ok:HOk P w H h) (e:H a = some (.tup (ks.map kV))):(tupleKind (p7 P w)).is h ks a:=by
 obtain ⟨_,its,r,o,h1,h2,n,h3⟩:=(show m9 P w H h a (.tup (ks.map kV)) from ok a _ e)
 exact ⟨o,its.toArray,n,h1,h2,h3,by simpa using U5 r⟩
theorem az5 {kvs:List (List Key × V)} (ok:HOk P w H h) (e:Rd H a (.dT kvs)):kvs.length ≤ sizeLine ∧ (a == sysModules) = false ∧
  ∃ xs,KT H kvs xs ∧ h.DictOfH (tupleKind (p7 P w)) a xs:=by
 obtain ⟨z,y,xs,r,o,es,ep,h1,h2,h3,h4,h5⟩:=(show m9 P w H h a (.dT kvs) from az4 ok e)
 refine ⟨z,y,xs,r,o,es,ep,h1,h2,h3,h4,fun x hx=>?_,h5⟩
 have all:∀ {l:List (List Key × V)} {m:List (List Key × Addr × Value)},KT H l m → ∀ x ∈ m,(tupleKind (p7 P w)).is h x.1 x.2.1:=by
  intro l m q
  induction q with
  | nil=>intro x hx; exact nomatch hx
  | @cons p q ps qs hq t ih =>
   intro x hx
   rcases List.mem_cons.mp hx with e | hx
   ·subst e
    exact ad1 ok (by rw [← hq.1]; exact hq.2.1)
   ·exact ih x hx
 exact all r x hx
theorem aG4 {kvs:List (List Key × V)} (ok:HOk P w H h) (e:H a = some (.dT kvs)):kvs.length ≤ sizeLine ∧ (a == sysModules) = false ∧
  ∃ xs,KT H kvs xs ∧ h.DictOfH (tupleKind (p7 P w)) a xs:=az5 ok (.inl e)
end
def am8 (H:Hp) (a:Addr) (y:V) (r:Option V):Prop :=
 (∃ kvs k,Rd H a (.dK kvs) ∧ y = kV k ∧ r = w5 kvs k) ∨ ∃ kvs k b,Rd H a (.dT kvs) ∧ y = .ref b ∧ H b = some (.tup (k.map kV)) ∧ r = w5 kvs k
def am9 (H:Hp) (a:Addr) (y v:V) (H':Hp):Prop :=
 (∃ kvs k,H a = some (.dK kvs) ∧ y = kV k ∧ kvs.length < sizeLine ∧ H' = upd H a (.dK (N4 kvs k v))) ∨
 ∃ kvs k b,H a = some (.dT kvs) ∧ y = .ref b ∧ H b = some (.tup (k.map kV)) ∧ kvs.length < sizeLine ∧ H' = upd H a (.dT (N4 kvs k v))
theorem am8.t {H:Hp} {a b:Addr} {kvs:List (List Key × V)} {k:List Key} (e:H a = some (.dT kvs)) (eb:H b = some (.tup (k.map kV))):am8 H a (.ref b) (w5 kvs k):=.inr ⟨kvs,k,b,.inl e,rfl,eb,rfl⟩
theorem am9.t {H:Hp} {a b:Addr} {kvs:List (List Key × V)} {k:List Key} {v:V} (e:H a = some (.dT kvs)) (eb:H b = some (.tup (k.map kV))) (hl:kvs.length < sizeLine) :
  am9 H a (.ref b) v (upd H a (.dT (N4 kvs k v))):=.inr ⟨kvs,k,b,e,rfl,eb,hl,rfl⟩
section
variable {X:Cx} {pins:List (Addr × Obj)} {σ:St} {H:Hp} {s:Shared} {a:Addr} {y v:V} {u r:Value} {o:Option V} {A:Around} {E:Value → Shared → Prop}
theorem Inv.big (I:Inv X pins σ H s):sysModules < s.heap.objs.size:=by
 have h:mainGlobals < s.heap.objs.size:=(I.mod.glob.keeps I.bk).lt
 exact Nat.lt_trans (by decide) h
theorem aI2 {Q:Value → Shared → Prop} (hu:A.units + 1 < cLine) (I:Inv X pins σ H s) (g:am8 H a y o) (ry:i9 y u) (h:∀ s',Inv X pins σ H s' → Q (.bool o.isSome) s') :
  wpAny (model X.prog X.w) A (compareOp .In u (.ref a)) Q E s:=by
 rcases g with ⟨kvs,k,e,ey,l⟩ | ⟨kvs,k,b,e,ey,eb,l⟩
 ·subst ey
  obtain ⟨z,hd,vs,rel,dd⟩:=az0 I.hok e
  refine wpAny_in_of (ar0 ry) hd dd.mapOf ?_
  rw [← (rel.val k).isSome_eq,← l]
  exact h _ (I.tok _)
 ·subst ey
  cases (show u = Value.ref b from ry)
  obtain ⟨z,hd,xs,rel,dd⟩:=az5 I.hok e
  refine wpAny_in_heap (tupleKind_room_in1 hu) (ad1 I.hok eb) hd dd ?_
  have q:=(rel.val k).isSome_eq
  rw [Option.isSome_map] at q
  rw [← q,← l]
  exact h _ (I.tok _)
theorem ae9 {h':Heap} {t':Nat} {ob:HO} (I:Inv X pins σ H s) (mu:Mut (H a)) (hs:Heap.SameBut a s.heap h') (he:∃ q,h'.get? a = some q) (new:m9 X.prog X.w (upd H a ob) h' a ob) :
  Inv X pins σ (upd H a ob) { s with heap:=h',toks:=t' } :=
 I.write (x:=a) (e:=a) mu (.inl rfl) (fun b q hb z=>(hs.2 b hb).trans z) he new
theorem aB7 {P:Program} {w:World} {H':Hp} {h':Heap} {kvs:List (Key × V)} {vs:List (Key × Value)} (z:kvs.length ≤ sizeLine) (hd:(a == sysModules) = false) (rel:KV kvs vs) (dd:h'.DictOf (p7 P w) a vs) :
  m9 P w H' h' a (.dK kvs):=⟨z,hd,vs,rel,dd⟩
theorem ai2 {H':Hp} {Q:Unit → Shared → Prop} (hu:A.units + 1 < cLine) (I:Inv X pins σ H s) (g:am9 H a y v H') (ry:i9 y u) (rv:i9 v r) (h:∀ s',Inv X pins σ H' s' → Q () s') :
  wpAny (model X.prog X.w) A (setItem (.ref a) u r) Q E s:=by
 rcases g with ⟨kvs,k,e,ey,l,eH⟩ | ⟨kvs,k,b,e,ey,eb,l,eH⟩
 ·subst ey eH
  obtain ⟨z,hd,vs,rel,dd⟩:=aH9 I.hok e
  have hz:vs.length ≤ sizeLine:=by rw [← rel.length]; exact z
  have hl:(N4 kvs k v).length ≤ sizeLine:=by have:=E4 kvs k v; lia
  refine wpAny_setItem_pairs (hsz:=hz) (ar0 ry) dd fun h' dd' hs=>h _ ?_
  have he:∃ q,h'.get? a = some q:=let ⟨q,_,_,hq,_⟩:=dd'; ⟨q,hq⟩
  exact ae9 I (by rw [e]; exact True.intro) hs he (aB7 hl hd (rel.put k rv) dd')
 ·subst ey eH
  cases (show u = Value.ref b from ry)
  obtain ⟨z,hd,xs,rel,dd⟩:=aG4 I.hok e
  have hz:xs.length ≤ sizeLine:=by rw [← Paired.length rel]; exact z
  have hl:(N4 kvs k v).length ≤ sizeLine:=by have:=E4 kvs k v; lia
  refine wpAny_setItem_heap (hsz:=hz) (tupleKind_room_in1 hu) (ad1 I.hok eb) dd fun h' dd' hs=>h _ ?_
  obtain ⟨q,es,ep,hq,h2,h3,h4,_,h5⟩:=dd'
  refine ae9 I (by rw [e]; exact True.intro) hs ⟨q,hq⟩ ⟨hl,hd,_,(rel.put k eb rv).keeps fun c ys ec=>?_,q,es,ep,hq,h2,h3,h4,h5⟩
  rw [h9 (aG1 ec e (fun z=>nomatch z))]
  exact ec
end
def aJ4 (ty td:TE):TE:=fun σ H Q=>ty σ H fun y H1=>td σ H1 fun x H2=>∃ a o,x = .ref a ∧ am8 H2 a y o ∧ Q (.bl o.isSome) H2
def aG7 (td ty tv:TE):TS:=fun D σ H=>tv σ H fun v H1=>td σ H1 fun x H2=>ty σ H2 fun y H3=>∃ a H4,x = .ref a ∧ am9 H3 a y v H4 ∧ D.nx σ H4
section
variable {X:Cx} {o i e value:Expr} {pos pos' tpos:Pos} {td ty tv:TE}
theorem aE3 (hu:X.A.units + 1 < cLine) (hi:PE X i ty) (ho:PE X o td):PC X .In i o (aJ4 ty td):=by
 intro pins s σ H Q I h
 refine thn (hi pins s σ H _ I h) fun iv s1 ⟨y,H1,I1,ry,q1⟩=>thn (ho pins s1 σ H1 _ I1 q1) fun u s2 ⟨x,H2,I2,rx,a,ov,ex,g,q2⟩=>?_
 subst ex
 obtain rfl:u = Value.ref a:=rx
 exact aI2 hu I2 g ry fun s3 I3=>⟨.bl ov.isSome,H2,I3,rfl,q2⟩
theorem au6 (hu:X.A.units + 1 < cLine) (ho:PE X o td) (hi:PE X i ty) (hv:PE X value tv) (hs:swapsWith value (some (.Subscript o i pos')) pos.line X.env = pure false) :
  PS X (.Assign [.Subscript o i pos'] value pos) (aG7 td ty tv):=by
 intro pins s σ H D I h
 refine wpAny_Assign_Subscript (thn (hv pins s σ H _ I h) fun r s1 ⟨v,H1,I1,rv,q1⟩=>thn (ho pins s1 σ H1 _ I1 q1) fun u s2 ⟨x,H2,I2,rx,q2⟩=>thn (hi pins s2 σ H2 _ I2 q2) fun iv s3 ⟨y,H3,I3,ry,a,H4,ex,g,q3⟩=>?_) hs
 subst ex
 obtain rfl:u = Value.ref a:=rx
 exact ai2 hu I3 g ry rv fun s4 I4=>⟨σ,H4,I4,q3⟩
end
theorem ao1 {P:Program} {w:World} {H:Hp} (h:Heap) (hb:sysModules < h.objs.size):m9 P w H (h.push { cls:=.type "dict",data:=.dict #[] }) h.objs.size (.dT []) :=
 ⟨Nat.zero_le _,beq_eq_false_iff_ne.mpr (Ne.symm (Nat.ne_of_lt hb)),[],.nil,_,#[],0,Heap.get?_push_size _ rfl,⟨rfl,rfl,rfl⟩,rfl,rfl,List.nodup_nil⟩
def aA8:TE:=fun _ H Q=>∀ p,H p = none → Q (.ref p) (upd H p (.dT []))
section
variable {X:Cx} {pos:Pos}
theorem ao3:PE X (.Dict [] [] pos) aA8:=fun pins s σ H Q I h =>
 wpAny_Dict_empty ⟨.ref s.heap.objs.size,_,I.laid (a:=s.heap.objs.size) (o:=.dT []) (t':=s.toks) (fun _ _ q=>Heap.get?_push_of_some _ q) (Nat.le_refl _) (ao1 s.heap I.big),rfl,h _ (I.hok.fresh (Nat.le_refl _))⟩
end
end L2
set_option maxHeartbeats 1000000
namespace L2
open PySem PySem.Spec PyProof.Rows
theorem G6 {scope:Scope} {env:Env} (h:∀ x,(x,NameKind.free) ∈ scope.names → ∃ c,env.cells.lookup x = some c) :
  ∃ cl,closureFor scope env = pure cl ∧ (∀ x c,cl.lookup x = some c → env.cells.lookup x = some c) ∧ ∀ x,(x,NameKind.free) ∈ scope.names → ∃ c,cl.lookup x = some c:=by
 have go:∀ (names:List (Str × NameKind)) (acc:List (Str × Addr)),(∀ x,(x,NameKind.free) ∈ names → ∃ c,env.cells.lookup x = some c) → (∀ x c,acc.lookup x = some c → env.cells.lookup x = some c) →
   ∃ cl,(forIn names acc fun (p:Str × NameKind) (r:List (Str × Addr))=>if p.2 == .free then (do let a ← cellOf env p.1; pure (ForInStep.yield ((p.1,a) :: r))) else pure (ForInStep.yield r):Sem (List (Str × Addr))) = pure cl ∧
    (∀ x c,cl.lookup x = some c → env.cells.lookup x = some c) ∧ (∀ x c,acc.lookup x = some c → ∃ c',cl.lookup x = some c') ∧ ∀ x,(x,NameKind.free) ∈ names → ∃ c,cl.lookup x = some c:=by
  intro names
  induction names with
  | nil=>intro acc _ ha; exact ⟨acc,rfl,ha,fun x c e=>⟨c,e⟩,fun x z=>nomatch z⟩
  | cons p r ih =>
   intro acc hn ha
   obtain ⟨n,k⟩:=p
   rw [List.forIn_cons]
   cases hk:(k == NameKind.free) with
   | false =>
    obtain ⟨cl,h1,h2,h3,h4⟩:=ih acc (fun x z=>hn x (List.mem_cons_of_mem _ z)) ha
    refine ⟨cl,?_,h2,h3,fun x z=>?_⟩
    ·simp only [hk,Bool.false_eq_true,if_false,pure_bind]
     exact h1
    ·rcases List.mem_cons.mp z with e | z
     ·injection e with e1 e2
      rw [← e2] at hk
      exact absurd hk (by decide)
     ·exact h4 x z
   | true =>
    have ek:k = .free:=by simpa using hk
    subst ek
    obtain ⟨c,hc⟩:=hn n List.mem_cons_self
    have hcell:cellOf env n = pure c:=by unfold cellOf; rw [hc]
    obtain ⟨cl,h1,h2,h3,h4⟩:=ih ((n,c) :: acc) (fun x z=>hn x (List.mem_cons_of_mem _ z)) (fun x c' e=>by
     rw [List.lookup_cons] at e
     cases hx:x == n with
     | true =>
      rw [hx] at e
      have e':c = c':=Option.some.inj e
      have ex:x = n:=by simpa using hx
      rw [ex,← e']; exact hc
     | false=>rw [hx] at e; exact ha x c' e)
    refine ⟨cl,?_,h2,fun x c' e=>?_,fun x z=>?_⟩
    ·simp only [beq_self_eq_true,if_true,hcell,pure_bind]
     exact h1
    ·cases hx:x == n with
     | true=>exact h3 x c (by rw [List.lookup_cons,hx])
     | false=>exact h3 x c' (by rw [List.lookup_cons,hx]; exact e)
    ·rcases List.mem_cons.mp z with e | z
     ·injection e with e1 e2
      exact h3 x c (by rw [e1,List.lookup_cons]; simp)
     ·exact h4 x z
 obtain ⟨cl,h1,h2,_,h4⟩:=go scope.names [] h (fun x c e=>nomatch e)
 refine ⟨cl,?_,h2,h4⟩
 rw [← h1]
 unfold closureFor
 simp only [bind_pure]
def o6 (X:Cx) (scope:Scope) (cl:List (Str × Addr)) (C:Addr) (N:List Str) (s:Shared) (H:Hp) (ex:List Addr):Cx where
 prog:=X.prog
 w:=X.w
 K:=X.K
 mg:=X.mg
 base:=X.base
 A:=X.A
 N:=N
 s₀:=s
 H₀:=H
 env:=compEnvC scope cl C X.env
 outer:=X.stack
 stack:=X.stack
 ex:=ex
 calm:=X.calm
 fn:=fun x=>match scope.names.lookup x with | some .cell=>true | _=>false
 pn:=[]
 xe:=fun _ _=>False
theorem y8 {env:Env}:∀ {names:List (Str × NameKind)} {x:Str} {k:NameKind},
  (names.map fun (n,k)=>if (k == NameKind.free && env.scope.kind == .function && env.kindOf n == some .cell) then (n,NameKind.cell) else (n,k)).lookup x = some k →
  ∃ k',names.lookup x = some k' ∧ (k' = k ∨ (k' = .free ∧ k = .cell))
 | [],_,_,h=>by simp at h
 | (n,kk) :: r,x,k,h=>by
  have ih:=@y8 env r x k
  have h':List.lookup x ((if (kk == NameKind.free && env.scope.kind == .function && env.kindOf n == some .cell) = true then (n,NameKind.cell) else (n,kk)) :: r.map fun (n,k)=>if (k == NameKind.free && env.scope.kind == .function && env.kindOf n == some .cell) then (n,NameKind.cell) else (n,k)) = some k:=h
  cases hx:x == n with
  | true =>
   by_cases hc:(kk == NameKind.free && env.scope.kind == .function && env.kindOf n == some .cell) = true
   ·rw [if_pos hc,List.lookup_cons,hx] at h'
    have e:NameKind.cell = k:=Option.some.inj h'
    have hf:kk = .free:=by
     rw [Bool.and_eq_true,Bool.and_eq_true] at hc
     simpa using hc.1.1
    exact ⟨kk,by rw [List.lookup_cons,hx],.inr ⟨hf,e.symm⟩⟩
   ·rw [if_neg hc,List.lookup_cons,hx] at h'
    exact ⟨kk,by rw [List.lookup_cons,hx],.inl (Option.some.inj h')⟩
  | false =>
   have h2:List.lookup x (r.map fun (n,k)=>if (k == NameKind.free && env.scope.kind == .function && env.kindOf n == some .cell) then (n,NameKind.cell) else (n,k)) = some k:=by
    by_cases hc:(kk == NameKind.free && env.scope.kind == .function && env.kindOf n == some .cell) = true
    ·rw [if_pos hc,List.lookup_cons,hx] at h'; exact h'
    ·rw [if_neg hc,List.lookup_cons,hx] at h'; exact h'
   obtain ⟨k',e1,e2⟩:=ih h2
   exact ⟨k',by rw [List.lookup_cons,hx]; exact e1,e2⟩
structure CompScope (N:List Str) (osc scope:Scope) (own:List Str) (fr:List (Nat × Str)):Prop where
 kind:scope.kind = .function
 cells:∀ y ∈ scope.names,y.2 = .cell → scope.names.lookup y.1 = some .cell
 locs:∀ y ∈ scope.names,y.2 = .local → scope.names.lookup y.1 = some .local
 free:∀ y ∈ scope.names,y.2 = .free → osc.names.lookup y.1 = some .cell ∨ osc.names.lookup y.1 = some .free
 slot:∀ p ∈ fr,N[p.1]? = some p.2 ∧ scope.names.lookup p.2 = some .free
theorem HOk.track {P:Program} {w:World} {H:Hp} {h:Heap} {a:Addr} {o:HO} (x:HOk P w H h) (hn:H a = none) (new:m9 P w (upd H a o) h a o):HOk P w (upd H a o) h:=fun b u e=>by
 by_cases hb:b = a
 ·subst hb; rw [d9] at e; cases e; exact new
 ·rw [h9 hb] at e
  exact (x b u e).stay (fun c v _ q=>q) (fun c q=>by rw [h9 (i6 q hn)]; exact q) fun c xs q=>by rw [h9 (i6 q hn)]; exact q
theorem HOk.but {P:Program} {w:World} {H:Hp} {h h':Heap} {a:Addr} (x:HOk P w H h) (hn:H a = none) (k:∀ b o,b ≠ a → h.get? b = some o → h'.get? b = some o):HOk P w H h':=fun b u e =>
 (x b u e).stay (fun c v hc q=>k c v (by
  rintro rfl
  rcases hc with rfl | hc
  ·rw [hn] at e; cases e
  ·rw [hn] at hc; cases hc) q) (fun _ q=>q) fun _ _ q=>q
theorem Un.track {fs ex:List Addr} {H H':Hp} {h h':Heap} {a:Addr} {o:HO} (u:Un fs ex H H' h h') (ha:h.objs.size ≤ a) (hn:H a = none):Un fs ex H (upd H' a o) h h' where
 keep:=u.keep
 slot:=u.slot
 free:=fun b ob q n hx=>by rw [h9 (Nat.ne_of_lt (Nat.lt_of_lt_of_le (Heap.lt_size q) ha))]; exact u.free b ob q n hx
 there:=u.there
 tups:=fun b xs q=>by rw [h9 (i6 q hn)]; exact u.tups b xs q
 frzs:=fun b ob v q=>by rw [h9 (i6 q hn)]; exact u.frzs b ob v q
 tbls:=fun b ps q=>by rw [h9 (i6 q hn)]; exact u.tbls b ps q
theorem Un.but {fs ex:List Addr} {H H':Hp} {h h' h'':Heap} {a:Addr} (u:Un fs ex H H' h h') (ha:h.objs.size ≤ a) (k:∀ b o,b ≠ a → h'.get? b = some o → h''.get? b = some o):Un fs ex H H' h h'' where
 keep:=fun b ob q n hb hx=>k b ob (Nat.ne_of_lt (Nat.lt_of_lt_of_le (Heap.lt_size q) ha)) (u.keep b ob q n hb hx)
 slot:=fun b ob q n hb hx=>let ⟨sl,e⟩:=u.slot b ob q n hb hx; ⟨sl,k b _ (Nat.ne_of_lt (Nat.lt_of_lt_of_le (Heap.lt_size q) ha)) e⟩
 free:=u.free
 there:=fun b ob q hx=>let ⟨o',e⟩:=u.there b ob q hx; ⟨o',k b _ (Nat.ne_of_lt (Nat.lt_of_lt_of_le (Heap.lt_size q) ha)) e⟩
 tups:=u.tups
 frzs:=u.frzs
 tbls:=u.tbls
structure NewCells (scope:Scope) (nw:List (Str × Addr)) (h1:Heap) (C:Addr):Prop where
 ok:∀ n c,(n,c) ∈ nw → h1.IsCell c none ∧ C < c
 apart:nw.Pairwise fun x y=>x.2 ≠ y.2
 has:∀ x,scope.names.lookup x = some .cell → ∃ c,nw.lookup x = some c
 of:∀ x c,nw.lookup x = some c → (x,NameKind.cell) ∈ scope.names
theorem x8:∀ (names:List (Str × NameKind)) (n:Nat) (acc:List (Str × Addr)),cellsFrom n names acc = cellsFrom n names [] ++ acc
 | [],_,_=>rfl
 | (x,k) :: r,n,acc=>by
  unfold cellsFrom
  split
  ·rw [x8 r (n + 1) ((x,n) :: acc),x8 r (n + 1) [(x,n)],List.append_assoc]
   rfl
  ·exact x8 r n acc
theorem C7:∀ (names:List (Str × NameKind)) (n:Nat) (x:Str) (c:Addr),(x,c) ∈ cellsFrom n names [] → (x,NameKind.cell) ∈ names
 | [],_,_,_,h=>nomatch h
 | (y,k) :: r,n,x,c,h=>by
  unfold cellsFrom at h
  split at h
  ·rename_i hk
   rw [x8] at h
   rcases List.mem_append.mp h with h | h
   ·exact List.mem_cons_of_mem _ (C7 r _ x c h)
   ·rw [List.mem_singleton] at h
    cases h
    have:k = .cell:=by simpa using hk
    rw [this]
    exact List.mem_cons_self ..
  ·exact List.mem_cons_of_mem _ (C7 r _ x c h)
theorem y0 {α:Type} {x:Str} {a b:List (Str × α)} {c:α} (h:(a ++ b).lookup x = some c):a.lookup x = some c ∨ (a.lookup x = none ∧ b.lookup x = some c):=by
 induction a with
 | nil=>exact .inr ⟨rfl,h⟩
 | cons p r ih =>
  rw [List.cons_append,List.lookup_cons] at h
  rw [List.lookup_cons]
  cases hx:x == p.1 with
  | true=>rw [hx] at h; exact .inl h
  | false=>rw [hx] at h; exact ih h
theorem C5 {α:Type} {x:Str} {a b:List (Str × α)} {c:α} (h:a.lookup x = some c):(a ++ b).lookup x = some c:=by
 induction a with
 | nil=>cases h
 | cons p r ih =>
  rw [List.lookup_cons] at h
  rw [List.cons_append,List.lookup_cons]
  cases hx:x == p.1 with
  | true=>rw [hx] at h; exact h
  | false=>rw [hx] at h; exact ih h
theorem L6 {α:Type} {x:Str} {a b:List (Str × α)} {c:α} (h:a.lookup x = none) (h2:b.lookup x = some c):(a ++ b).lookup x = some c:=by
 induction a with
 | nil=>exact h2
 | cons p r ih =>
  rw [List.lookup_cons] at h
  rw [List.cons_append,List.lookup_cons]
  cases hx:x == p.1 with
  | true=>rw [hx] at h; cases h
  | false=>rw [hx] at h; exact ih h
theorem T3 {M:Model} {A:Around} {E:Value → Shared → Prop} {s:Shared} {scope:Scope} {globals:Addr} {closure:List (Str × Addr)} {qual:Str} {outer:Env} {Q:Env → Shared → Prop}
  (hQ:∀ nw h1,NewCells scope nw h1 s.heap.objs.size → h1.Ns s.heap.objs.size (fun _=>none) → (∀ b o,s.heap.get? b = some o → h1.get? b = some o) →
   Q { scope,locals:=s.heap.objs.size,globals,cells:=nw ++ closure,qual,func:=none,code:=outer.code,frame:=outer.frame,builtins:=outer.builtins } { s with heap:=h1 }) :
  wpAny M A (newFunctionEnv scope globals closure [] qual none .none (some outer)) Q E s:=by
 simp only [newFunctionEnv,Option.isSome_some,if_true]
 refine wpAny_bind (wpAny_alloc ?_)
 refine wpAny_bind (wpAny_layCells _ (fun name kind cells=>by cases hkc:kind == NameKind.cell <;> simp [hkc]) _ _ _ _ ?_)
 have ok:=cellsFrom_ok scope.names (s.heap.push { cls:=.type "dict",data:=.dict #[] }) (s.heap.objs.size + 1) [] ⟨fun _ _ hm=>(nomatch hm),List.Pairwise.nil⟩ (by rw [Heap.size_push]; exact Nat.le_refl _)
 rw [Heap.size_push] at ok
 rw [show ({ s with heap:=s.heap.push { cls:=.type "dict",data:=.dict #[] } }:Shared).heap.objs.size = s.heap.objs.size + 1 from Heap.size_push ..]
 rw [List.forIn_nil]
 refine wpAny_bind (wpAny_pure (wpAny_pure ?_))
 rw [x8]
 exact hQ _ _ ⟨fun n c h=>⟨(ok.empty n c h).1,(ok.empty n c h).2⟩,ok.apart,fun x h=>Q2 h,fun x c h=>C7 _ _ x c (PySem.mem_of_lookup h)⟩
  ((Heap.Ns.new s.heap (.type "dict")).keeps (pushCells_keeps _ _)) fun b o e=>pushCells_keeps _ _ b o (Heap.get?_push_of_some _ e)
def aj4 (X:Cx) (ifs:List Expr) (t:TT):Prop :=
 ∀ (pins:List (Addr × Obj)) (s:Shared) (σ:St) (H:Hp) (Q:Bool → Hp → Prop),Inv X pins σ H s → t σ H Q →
  wpAny (model X.prog X.w) X.A (forIn ifs true fun c r=>if r = true then do let ok ← isTrue c X.env (eval c X.env); pure (ForInStep.yield ok) else pure (ForInStep.yield r)) (TP X pins σ Q) X.xe s
def aI3:TT:=fun _ H Q=>Q true H
theorem ax6 {X:Cx}:aj4 X [] aI3:=fun _ _ _ H Q I h=>wpAny_tests_nil ⟨H,I,h⟩
theorem L9 {X:Cx} {c:Expr} {t:TT} (h:PT X c t):aj4 X [c] t:=fun pins s σ H Q I q=>wpAny_tests_one (h pins s σ H Q I q)
def t0 (own:List Str) (fr:List (Nat × Str)) (σ:St):St:=own.map (fun _=>none) ++ fr.map fun p=>(σ[p.1]?).join
def X2 (J:It) (g:TG) (tt:TT) (te:TE) (Q:VK) (σ₀:St) (H1:Hp):Prop :=
 ∃ W:Nat → Nat → List V → St → Hp → Prop,(∃ m,W 0 m [] σ₀ H1) ∧ ∀ i m acc σ' H',W i m acc σ' H' →
  (J.stop i H' ∧ acc.length ≤ sizeLine ∧ ∀ p,H' p = none → Q (.ref p) (upd H' p (.lst acc))) ∨
  (J.go i H' ∧ acc.length < sizeLine ∧ ∃ N:List V → St → Hp → Prop,(∀ acc σ' H',N acc σ' H' → ∃ m',m' < m ∧ W (i + 1) m' acc σ' H') ∧ ∀ x H'',J.yld i H' x H'' → g x σ' H'' fun σ2 H2=>tt σ2 H2 fun ok H3=>if ok = true then te σ2 H3 fun y H4=>N (acc ++ [y]) σ2 H4 else N acc σ2 H3)
def az7 (own:List Str) (fr:List (Nat × Str)) (wi:TI) (g:TG) (tt:TT) (te:TE):TE:=fun σ H Q=>wi σ H fun J H1=>X2 J g tt te Q (t0 own fr σ) H1
section
variable {X:Cx} {tg iter elt:Expr} {ifs:List Expr} {scope:Scope} {own:List Str} {fr:List (Nat × Str)} {pos:Pos}
theorem al2 {pins:List (Addr × Obj)} {σ:St} {H:Hp} {s:Shared} {cl:List (Str × Addr)} {ex:List Addr} {h1:Heap} {m:Str → Option Value} {C:Addr} {t':Nat} (S:CompScope X.N X.env.scope scope own fr) (I:Inv X pins σ H s)
  (hcl:∀ x c,cl.lookup x = some c → X.env.cells.lookup x = some c) (hcl2:∀ x,(x,NameKind.free) ∈ scope.names → ∃ c,cl.lookup x = some c) (hex:∀ b ∈ ex,D5 X pins H b ∧ b < s.heap.objs.size)
  (hC:s.heap.objs.size ≤ C) (k:∀ b o,s.heap.get? b = some o → h1.get? b = some o) (hn:h1.Ns C m) {nw:List (Str × Addr)} (nc:NewCells scope nw h1 C) :
  Inv (o6 X scope (nw ++ cl) C (own ++ fr.map (·.2)) s H ex) [] (t0 own fr σ) H { s with heap:=h1,toks:=t' }:=by
 have okX:=I.ok
 have isNew:∀ x c,nw.lookup x = some c → C < c:=fun x c e=>(nc.ok x c (PySem.mem_of_lookup e)).2
 have isOld:∀ x c,cl.lookup x = some c → c < C:=fun x c e=>by
  obtain ⟨v,o,ho,_⟩:=I.cell x c (hcl x c e)
  exact Nat.lt_of_lt_of_le (Heap.lt_size ho) hC
 have hinj:∀ x y c,(nw ++ cl).lookup x = some c → (nw ++ cl).lookup y = some c → x = y:=fun x y c e1 e2=>by
  rcases y0 e1 with a | ⟨_,a⟩ <;> rcases y0 e2 with b | ⟨_,b⟩
  ·exact name_of_addr nc.apart (PySem.mem_of_lookup a) (PySem.mem_of_lookup b)
  ·exact absurd (Nat.lt_trans (isNew x c a) (isOld y c b)) (Nat.lt_irrefl _)
  ·exact absurd (Nat.lt_trans (isNew y c b) (isOld x c a)) (Nat.lt_irrefl _)
  ·exact okX.inj x y c (hcl x c a) (hcl y c b)
 have hasF:∀ x,(x,NameKind.free) ∈ scope.names → ∃ c,(nw ++ cl).lookup x = some c:=fun x hx=>by
  obtain ⟨c,e⟩:=hcl2 x hx
  cases z:nw.lookup x with
  | none=>exact ⟨c,L6 z e⟩
  | some c'=>exact ⟨c',C5 z⟩
 refine ⟨⟨okX.mod,?_,okX.glob,okX.blt,hC,hinj,fun x hx=>?_,fun x c e1 e2=>?_,okX.hd,okX.frames,.inl rfl,fun b hb=>?_,I.bs,Nat.le_trans okX.bsz I.sz,fun b o e hb=>?_,fun b hb hf=>?_,I.stack,I.stkFree⟩,
  rfl,I.bare,Un.kept k,⟨m,hn,fun i x v e1 e2 e3=>?_⟩,fun x c e=>?_,I.hok.fresh hC,fun x c e=>?_,fun p hp=>absurd (show p ∈ ([]:List (Addr × Obj)) from hp) (by simp),I.hok.kept k,?_⟩
 ·exact S.kind
 ·-- a cell's or a free name
  have hx':(relabel scope X.env).names.lookup x = some .cell ∨ (relabel scope X.env).names.lookup x = some .free:=hx
  have hfree:scope.names.lookup x = some .cell ∨ scope.names.lookup x = some .free:=by
   rcases hx' with q | q
   ·obtain ⟨k',e1,e2⟩:=y8 q
    rcases e2 with e2 | ⟨e2,_⟩
    ·exact .inl (by rw [e1,e2])
    ·exact .inr (by rw [e1,e2])
   ·obtain ⟨k',e1,e2⟩:=y8 q
    rcases e2 with e2 | ⟨e2,e3⟩
    ·exact .inr (by rw [e1,e2])
    ·cases e3
  rcases hfree with hfree | hfree
  ·obtain ⟨c,e⟩:=nc.has x hfree
   exact ⟨c,C5 e⟩
  ·exact hasF x (PySem.mem_of_lookup hfree)
 ·-- an own cell is new
  have e1':(match scope.names.lookup x with | some .cell=>true | _=>false) = true:=e1
  have hce:scope.names.lookup x = some .cell:=by
   split at e1'
   ·assumption
   ·cases e1'
  obtain ⟨c',e⟩:=nc.has x hce
  have e2':(nw ++ cl).lookup x = some c:=e2
  rw [C5 e] at e2'
  cases e2'
  exact Nat.le_trans hC (Nat.le_of_lt (isNew x c e))
 ·obtain ⟨⟨f0,f1,f2,f3,f4,f5⟩,f6⟩:=hex b hb
  refine ⟨Nat.ne_of_lt (Nat.lt_of_lt_of_le f6 hC),fun x c e=>?_⟩
  rcases y0 (show (nw ++ cl).lookup x = some c from e) with a | ⟨_,a⟩
  ·exact Nat.ne_of_gt (Nat.lt_trans (Nat.lt_of_lt_of_le f6 hC) (isNew x c a))
  ·exact f4 x c (hcl x c a)
 ·obtain ⟨⟨f0,f1,f2,f3,f4,f5⟩,f6⟩:=hex b hb
  rcases f3 with f3 | f3
  ·exact okX.noex b o e f3
  ·exact absurd (Nat.lt_of_lt_of_le (Heap.lt_size e) (Nat.le_trans okX.bsz f3)) (Nat.lt_irrefl _)
 ·obtain ⟨⟨f0,f1,f2,f3,f4,f5⟩,f6⟩:=hex b hb
  rcases List.mem_cons.mp (I.stkSub b hf) with z | z
  ·exact f1 z
  ·exact f2 z
 ·-- the values of the free names
  have e1':(own ++ fr.map (·.2))[i]? = some x:=e1
  have hi:own.length ≤ i:=by
   by_cases h:i < own.length
   ·unfold t0 at e2
    rw [List.getElem?_append_left (by simpa using h),List.getElem?_map] at e2
    cases q:own[i]? with
    | none=>rw [q] at e2; cases e2
    | some z=>rw [q] at e2; cases e2
   ·lia
  unfold t0 at e2
  rw [List.getElem?_append_right (by simpa using hi),List.getElem?_map,List.length_map] at e2
  rw [List.getElem?_append_right hi,List.getElem?_map] at e1'
  cases q:fr[i - own.length]? with
  | none=>rw [q] at e2; cases e2
  | some p =>
   rw [q] at e2 e1'
   have e1':p.2 = x:=Option.some.inj e1'
   have e2':(σ[p.1]?).join = some v:=Option.some.inj e2
   obtain ⟨hs1,hs2⟩:=S.slot p (List.mem_of_getElem? q)
   rw [e1'] at hs1 hs2
   have e2'':σ[p.1]? = some (some v):=by
    cases z:σ[p.1]? with
    | none=>rw [z] at e2'; cases e2'
    | some y=>rw [z] at e2'; exact congrArg some e2'
   obtain ⟨mX,hnX,hlX⟩:=I.loc
   have hfr:=S.free (x,.free) (PySem.mem_of_lookup hs2) rfl
   have hvis:Vis X.env.scope x:=by
    rcases hfr with z | z
    ·exact .inr (.inl z)
    ·exact .inr (.inr z)
   obtain ⟨u,r,l⟩:=hlX p.1 x v hs1 e2'' hvis
   refine ⟨u,r,?_⟩
   have hkc:X.env.kindOf x = some .cell ∨ X.env.kindOf x = some .free:=hfr
   rcases l with ⟨kx,_⟩ | ⟨kx,c,hc,z⟩
   ·rcases hkc with w | w
    ·rw [w] at kx; cases kx
    ·rw [w] at kx; cases kx
   ·obtain ⟨c',hc'⟩:=hcl2 x (PySem.mem_of_lookup hs2)
    have hcc:=hcl x c' hc'
    rw [hc] at hcc
    cases hcc
    have e3':(relabel scope X.env).names.lookup x = some .local ∨ (relabel scope X.env).names.lookup x = some .cell ∨ (relabel scope X.env).names.lookup x = some .free:=e3
    have hnew:nw.lookup x = none:=by
     cases z:nw.lookup x with
     | none=>rfl
     | some c'' =>
      have:=S.cells _ (nc.of x c'' z) rfl
      rw [hs2] at this
      cases this
    refine .inr ⟨?_,c,L6 hnew hc',?_⟩
    ·rcases e3' with w | w | w
     ·obtain ⟨k',q1,q2⟩:=y8 w
      rw [hs2] at q1
      cases q1
      rcases q2 with q2 | ⟨_,q2⟩ <;> cases q2
     ·exact .inl w
     ·exact .inr w
    ·obtain ⟨o,ho,hd⟩:=z
     exact ⟨o,k _ _ ho,hd⟩
 ·rcases y0 (show (nw ++ cl).lookup x = some c from e) with a | ⟨_,a⟩
  ·exact ⟨none,(nc.ok x c (PySem.mem_of_lookup a)).1⟩
  ·obtain ⟨v,o,ho,hd⟩:=I.cell x c (hcl x c a)
   exact ⟨v,o,k _ _ ho,hd⟩
 ·rcases y0 (show (nw ++ cl).lookup x = some c from e) with a | ⟨_,a⟩
  ·exact I.hok.fresh (Nat.le_trans hC (Nat.le_of_lt (isNew x c a)))
  ·exact I.freeC x c (hcl x c a)
 ·show (t0 own fr σ).length = (own ++ fr.map (·.2)).length
  unfold t0
  rw [List.length_append,List.length_append,List.length_map,List.length_map,List.length_map]
theorem R3 {pins:List (Addr × Obj)} {σ:St} {H2:Hp} {s2:Shared} {cl:List (Str × Addr)} {it:Addr} {fp:List Addr} {tn:Nat → Heap → Prop} {J:It} {g:TG} {tt:TT} {te:TE} {Q:VK} {E:Value → Shared → Prop}
  {RR:Value → Addr → Result → Shared → Prop} (hc:X.calm = true) (S:CompScope X.N X.env.scope scope own fr) (I:Inv X pins σ H2 s2) (hcl:∀ x c,cl.lookup x = some c → X.env.cells.lookup x = some c)
  (hcl2:∀ x,(x,NameKind.free) ∈ scope.names → ∃ c,cl.lookup x = some c) (T:Turn X.prog X.w X.K tg J fp it tn) (st:tn 0 s2.heap) (hfp:∀ b ∈ fp,D5 X pins H2 b)
  (hb:∀ (cl:List (Str × Addr)) (C:Addr) (s:Shared) (H:Hp) (ex:List Addr),PG (o6 X scope cl C (own ++ fr.map (·.2)) s H ex) tg g ∧ aj4 (o6 X scope cl C (own ++ fr.map (·.2)) s H ex) ifs tt ∧ PE (o6 X scope cl C (own ++ fr.map (·.2)) s H ex) elt te)
  (hq:X2 J g tt te Q (t0 own fr σ) H2)
  (fin:∀ (D C:Addr) (s':Shared) (H':Hp),(∃ m,s'.heap.Ns C m) → s2.heap.objs.size ≤ C → C ≠ D → H' C = none → Q (.ref D) H' → (∀ h'',(∀ b o,b ≠ C → s'.heap.get? b = some o → h''.get? b = some o) → Inv X pins σ H' { s' with heap:=h'' }) → RR (.ref D) C (.ok .next) s') :
  wpAny (model X.prog X.w) X.A (newList []) (fun acc s₃=>wpAny (model X.prog X.w) X.A (newFunctionEnv scope X.env.globals cl [] X.env.qual none .none (some X.env)) (fun cenv s₄ =>
   codeAny (model X.prog X.w) X.A (.compStart (.ListComp elt [⟨tg,iter,ifs,0⟩] scope pos) 0 (.ref it) acc { cenv with scope:=relabel scope X.env }) (RR acc cenv.locals) s₄) E s₃) E s2:=by
 obtain ⟨W,⟨m0,w0⟩,turn⟩:=hq
 refine wpAny_newObj_type (T3 (fun nw h₁ nc hns₁ hsb₁=>?_))
 dsimp only at nc hns₁ hsb₁ ⊢
 generalize hH2:s2.heap.push { cls:=.type "list",dict:=none,data:=.seq ([]:List Value).toArray } = HH at nc hns₁ hsb₁ ⊢
 have hC:HH.objs.size = s2.heap.objs.size + 1:=by rw [← hH2,Heap.size_push]
 have hDC:s2.heap.objs.size ≠ HH.objs.size:=by rw [hC]; exact Nat.ne_of_lt (Nat.lt_succ_self _)
 have hCle:s2.heap.objs.size ≤ HH.objs.size:=by rw [hC]; exact Nat.le_succ _
 have old:∀ b o,s2.heap.get? b = some o → h₁.get? b = some o:=fun b o e =>
  hsb₁ b o (hH2 ▸ Heap.get?_push_of_some _ e)
 have hacc:h₁.get? s2.heap.objs.size = some { cls:=.type "list",data:=.seq ([]:List Value).toArray }:=hsb₁ _ _ (hH2 ▸ Heap.get?_push_size _ rfl)
 have flt:∀ b ∈ fp,b < s2.heap.objs.size:=fun b hb=>by
  obtain ⟨o,e,_⟩:=T.obj _ _ st b hb
  exact Heap.lt_size e
 have hlt:s2.heap.objs.size < HH.objs.size:=by rw [hC]; exact Nat.lt_succ_self _
 obtain ⟨D,hD⟩:∃ D:Nat,D = s2.heap.objs.size:=⟨_,rfl⟩
 obtain ⟨C,hCC⟩:∃ C:Nat,C = HH.objs.size:=⟨_,rfl⟩
 rw [← hD] at hacc ⊢
 rw [← hCC] at nc hns₁ ⊢
 have hDlt:D < C:=by rw [hD,hCC]; exact hlt
 have hDs:s2.heap.objs.size ≤ D:=Nat.le_of_eq hD.symm
 have hCs:s2.heap.objs.size ≤ C:=Nat.le_trans hDs (Nat.le_of_lt hDlt)
 have nDC:D ≠ C:=Nat.ne_of_lt hDlt
 have nfD:∀ b ∈ fp,b ≠ D:=fun b hb=>Nat.ne_of_lt (Nat.lt_of_lt_of_le (flt b hb) hDs)
 have nfC:∀ b ∈ fp,b ≠ C:=fun b hb=>Nat.ne_of_lt (Nat.lt_of_lt_of_le (flt b hb) hCs)
 have I0:Inv (o6 X scope (nw ++ cl) C (own ++ fr.map (·.2)) s2 H2 fp) [] (t0 own fr σ) H2 { s2 with heap:=h₁,toks:=s2.toks } :=
  al2 S I hcl hcl2 (fun b hb=>⟨hfp b hb,flt b hb⟩) hCs old hns₁ nc
 obtain ⟨pg,pt,pe⟩:=hb (nw ++ cl) C s2 H2 fp
 have Dcell:∀ x c,(nw ++ cl).lookup x = some c → c ≠ D:=fun x c e=>by
  rcases y0 e with a | ⟨_,a⟩
  ·exact Nat.ne_of_gt (Nat.lt_trans hDlt (nc.ok x c (PySem.mem_of_lookup a)).2)
  ·obtain ⟨v,q⟩:=I.cell x c (hcl x c a)
   exact Nat.ne_of_lt (Nat.lt_of_lt_of_le q.lt hDs)
 have Dstk:D ∉ frs X.stack:=fun hf=>by
  rcases List.mem_cons.mp (I.stkSub D hf) with z | z
  ·have h1:=I.lt
   rw [← z] at h1
   exact Nat.lt_irrefl _ (Nat.lt_of_lt_of_le h1 hDs)
  ·exact I.nofs hDs z
 have stat:∀ {H':Hp} {pl:List (Addr × Obj)},(∀ b ∈ fp,H' b = none) → (∀ p ∈ pl,p.1 = D) → ∀ b ∈ fp,D5 (o6 X scope (nw ++ cl) C (own ++ fr.map (·.2)) s2 H2 fp) pl H' b:=fun {H' pl} hn hpl b hb=>by
  obtain ⟨f0,f1,f2,f3,f4,f5⟩:=hfp b hb
  refine ⟨hn b hb,nfC b hb,fun hf=>?_,.inl hb,fun x c e=>(by
   rcases y0 (show (nw ++ cl).lookup x = some c from e) with a | ⟨_,a⟩
   ·exact Nat.ne_of_gt (Nat.lt_trans (Nat.lt_of_lt_of_le (flt b hb) hCs) (nc.ok x c (PySem.mem_of_lookup a)).2)
   ·exact f4 x c (hcl x c a)),fun p hp z=>?_⟩
  ·rcases List.mem_cons.mp (I.stkSub b hf) with z | z
   ·exact f1 z
   ·exact f2 z
  ·have h1:p.1 = D:=hpl p (by simpa [o6] using hp)
   exact nfD b hb (z.symm.trans h1)
 have loop:∀ s₃:Shared,s₃ = { s2 with heap:=h₁,toks:=s2.toks } →
   codeAny (model X.prog X.w) X.A (.compLoop (.ListComp elt [⟨tg,iter,ifs,0⟩] scope pos) 0 (.ref it) (.ref D) (compEnvC scope (nw ++ cl) C X.env)) (RR (.ref D) C) s₃:=by
  rintro s₃ rfl
  refine codeAny_loop rfl (fun n s'=>∃ i σ' H' acc its k,Inv (o6 X scope (nw ++ cl) C (own ++ fr.map (·.2)) s2 H2 fp) [] σ' H' s' ∧ tn i s'.heap ∧ (∀ b ∈ fp,H' b = none) ∧ H' D = none ∧
   s'.heap.get? D = some { cls:=.type "list",data:=.seq its.toArray k } ∧ i7 acc its ∧ W i n acc σ' H') ?_ m0
   ⟨0,_,H2,[],[],0,I0,T.keep _ _ _ st fun b hb o e=>old b o e,fun b hb=>(hfp b hb).1,I.hok.fresh hDs,hacc,.nil,w0⟩
  rintro n s' ⟨i,σ',H',acc,its,k,I1,st1,fr1,nD,gD,rv,w1⟩
  show wpAny _ X.A ((compTurn (.ListComp elt [⟨tg,iter,ifs,0⟩] scope pos) 0 (.ref it) (.ref D) (compEnvC scope (nw ++ cl) C X.env)).onRaise (fun x=>do noteFrame x (compEnvC scope (nw ++ cl) C X.env); theTreesLotGoes x)) _ _ s'
  refine wpAny_noted ?_
  rw [compTurn_list]
  have I1':Inv (o6 X scope (nw ++ cl) C (own ++ fr.map (·.2)) s2 H2 fp) [(D,{ cls:=.type "list",data:=.seq its.toArray k })] σ' H' s':=I1.pins_of fun p hp=>by
   have e:p = (D,{ cls:=.type "list",data:=.seq its.toArray k }):=by simpa using hp
   subst e
   exact ⟨gD,nD,nDC,Dstk,fun v z=>nomatch z⟩
  rcases turn i n acc σ' H' w1 with ⟨stop,hz,qq⟩ | ⟨go,hz,NN,hNN,step⟩
  ·refine wpAny_bind (wpAny_standAt (wpAny_bind (wpAny_mono (T.done (o6 X scope (nw ++ cl) C (own ++ fr.map (·.2)) s2 H2 fp) rfl rfl rfl hc i _ s' σ' H' (fun _ _=>False) I1' (stat fr1 (by simp)) st1 stop) (fun r s4 ⟨hr,I4⟩=>?_) fun _ _ z=>z.elim)))
   subst hr
   refine wpAny_pure ?_
   have gD4:=(I4.pin (D,_) (List.mem_append_right _ (List.mem_singleton.mpr rfl))).1
   have hC4:H' C = none:=I4.free
   have hC5:(upd H' D (.lst acc)) C = none:=by rw [h9 (Ne.symm nDC)]; exact hC4
   refine fin D C s4 (upd H' D (.lst acc)) ?_ hCs (Ne.symm nDC) hC5 (qq D nD) fun h'' kk=>?_
   ·obtain ⟨m,hn,_⟩:=I4.loc
    exact ⟨m,hn⟩
   ·have un:Un (frs X.stack) fp H2 (upd H' D (.lst acc)) s2.heap h'':=Un.but (a:=C) (Un.track (o:=.lst acc) I4.base hDs (I.hok.fresh hDs)) hCs kk
    have hok:HOk X.prog X.w (upd H' D (.lst acc)) s4.heap:=HOk.track I4.hok nD ⟨hz,its,k,rv,gD4⟩
    exact I.call' (s':={ s4 with heap:=h'' }) (ch:=fp) I4.os un (HOk.but hok hC5 kk) I4.bare fun b hb=>by
     obtain ⟨f0,f1,f2,f3,f4,f5⟩:=hfp b hb
     exact ⟨f3,f1,f4,f5⟩
  ·refine wpAny_bind (wpAny_standAt (wpAny_bind (wpAny_mono (T.item (o6 X scope (nw ++ cl) C (own ++ fr.map (·.2)) s2 H2 fp) rfl rfl rfl hc i _ s' σ' H' (fun _ _=>False) I1' (stat fr1 (by simp)) st1 go) (fun r s4 ⟨u,hr,h4⟩=>?_) fun _ _ z=>z.elim)))
   subst hr
   refine wpAny_bind (wpAny_mono h4 (fun _ s5 ⟨x,H5,I5,r5,y5,st5,fr5⟩=>?_) fun _ _ z=>z.elim)
   have I5':=I5.pinned (stat fr5 (by simp)) (T.obj _ _ st5)
   refine wpAny_bind (wpAny_mono (pg _ s5 σ' H5 x u _ I5' r5 (step x H5 y5)) (fun _ s6 ⟨σ6,H6,I6,q6⟩=>?_) fun _ _ z=>z.elim)
   refine wpAny_bind (wpAny_mono (pt _ s6 σ6 H6 _ I6 q6) (fun ok s7 ⟨H7,I7,q7⟩=>?_) fun _ _ z=>z.elim)
   have again:∀ {s8:Shared} {H8:Hp} {acc':List V} {its':List Value} {k' m':Nat},Inv (o6 X scope (nw ++ cl) C (own ++ fr.map (·.2)) s2 H2 fp) (D7 fp s5.heap) σ6 H8 s8 → H8 D = none →
     s8.heap.get? D = some { cls:=.type "list",data:=.seq its'.toArray k' } → i7 acc' its' → m' < n → W (i + 1) m' acc' σ6 H8 →
     ∃ m,m < n ∧ ∃ i σ' H' acc its k,Inv (o6 X scope (nw ++ cl) C (own ++ fr.map (·.2)) s2 H2 fp) [] σ' H' s8 ∧ tn i s8.heap ∧ (∀ b ∈ fp,H' b = none) ∧ H' D = none ∧
      s8.heap.get? D = some { cls:=.type "list",data:=.seq its.toArray k } ∧ i7 acc its ∧ W i m acc σ' H':=fun {s8 H8 acc' its' k' m'} I8 n8 g8 rv8 hm w8=>by
    refine ⟨m',hm,i + 1,σ6,H8,acc',its',k',I8.pins_of (fun p hp=>nomatch hp),T.keep _ _ _ st5 fun b hb o e=>(I8.pin (b,o) (List.mem_append_right _ (o0 hb e))).1,fun b hb=>?_,n8,g8,rv8,w8⟩
    obtain ⟨o,e,d⟩:=T.obj _ _ st5 b hb
    exact (I8.pin (b,o) (List.mem_append_right _ (o0 hb e))).2.1
   have dropD:∀ {s8:Shared} {H8:Hp},Inv (o6 X scope (nw ++ cl) C (own ++ fr.map (·.2)) s2 H2 fp) ([(D,{ cls:=.type "list",data:=.seq its.toArray k })] ++ D7 fp s5.heap) σ6 H8 s8 →
     Inv (o6 X scope (nw ++ cl) C (own ++ fr.map (·.2)) s2 H2 fp) (D7 fp s5.heap) σ6 H8 s8:=fun I8=>I8.pins_of fun p hp=>I8.pin p (List.mem_append_right _ (List.mem_append_right _ hp))
   cases ok with
   | false =>
    rw [if_neg Bool.false_ne_true] at q7
    obtain ⟨m',hm,w7⟩:=hNN _ _ _ q7
    have pD:=I7.pin (D,_) (List.mem_append_right _ (List.mem_append_left _ (List.mem_singleton.mpr rfl)))
    simp only [Bool.false_eq_true,if_false]
    exact wpAny_pure ⟨rfl,again (dropD I7) pD.2.1 pD.1 rv hm w7⟩
   | true =>
    rw [if_pos rfl] at q7
    simp only [if_true]
    refine wpAny_bind (wpAny_bind (wpAny_mono (pe _ s7 σ6 H7 _ I7 q7) (fun u8 s8 ⟨y,H8,I8,r8,q8⟩=>?_) fun _ _ z=>z.elim))
    obtain ⟨m',hm,w8⟩:=hNN _ _ _ q8
    have pD:=I8.pin (D,_) (List.mem_append_right _ (List.mem_append_left _ (List.mem_singleton.mpr rfl)))
    obtain ⟨gD8,nD8,_⟩:=pD
    have hlen:=rv.length
    refine wpAny_bind (call_meets F.slot_list_append ⟨_,gD8,rfl⟩ F.entry_list_append (F.args_list_append_2 _ _) (PySem.list_append D its.toArray k u8 (by rw [List.size_toArray]; lia)) ⟨gD8,?_⟩)
    refine wpAny_pure (wpAny_pure ⟨rfl,?_⟩)
    have q:=PySem.IsL.update gD8 (·.push u8)
    have e9:its.toArray.push u8 = (its ++ [u8]).toArray:=by simp
    rw [e9] at q
    refine again (its':=its ++ [u8]) ((dropD I8).turned (it:=D) (t':=_) (fun b o hb e=>(Heap.get?_update_other s8.heap _ (Ne.symm hb)).trans e) nD8 nDC (.inr hDs) (fun x c e=>Dcell x c e) fun p hp z=>?_) nD8 q (rv.append (.cons r8 .nil)) hm w8
    have hp':p ∈ D7 fp s5.heap:=by simpa [o6] using hp
    exact nfD p.1 (V3 hp').1 z
 exact codeAny_compStart_list (loop _ rfl) (T.self _ 0 _ _ _ (T.keep _ _ _ st fun b hb o e=>old b o e) (loop _ rfl))
theorem P6 {wi:TI} {g:TG} {tt:TT} {te:TE} (hc:X.calm = true) (S:CompScope X.N X.env.scope scope own fr) (hi:PI X tg iter wi)
  (hb:∀ (cl:List (Str × Addr)) (C:Addr) (s:Shared) (H:Hp) (ex:List Addr),PG (o6 X scope cl C (own ++ fr.map (·.2)) s H ex) tg g ∧ aj4 (o6 X scope cl C (own ++ fr.map (·.2)) s H ex) ifs tt ∧ PE (o6 X scope cl C (own ++ fr.map (·.2)) s H ex) elt te)
  (hs:∀ x,foldedSetIterable iter X.env x = pure x:=by intro _; rfl):PE X (.ListComp elt [⟨tg,iter,ifs,0⟩] scope pos) (az7 own fr wi g tt te):=by
 intro pins s σ H Q I h
 obtain ⟨cl,hclos,hcl,hcl2⟩:=G6 (scope:=scope) (env:=X.env) fun x hx=>I.ok.has x (S.free (x,.free) hx rfl)
 rw [eval_ListComp]
 refine wpAny_comprehension_free (use:=none) rfl hs hclos S.kind S.locs (thn (hi pins s σ H _ I h) fun xv s₁ h₁=>thn h₁ fun itv s₂ h₂=>?_)
 obtain ⟨it,fp,tn,J,H2,e,I2,T,st2,f2,hq⟩:=h₂
 subst e
 refine R3 hc S I2 hcl hcl2 T st2 f2 hb hq (RR:=fun acc C=>compPost (model X.prog X.w) X.A X.xe none (EP X pins σ Q) acc C) fun D C s' H' hn hC1 hCD hC2 q inv=>?_
 obtain ⟨m,hn⟩:=hn
 exact ⟨m,hn,fun h'' sb=>⟨.ref D,H',inv h'' fun b o hb e=>sb.extBut b o hb e,rfl,q⟩⟩
theorem ae7 {i:Nat} {x:Str} {px spos:Pos} {wi:TI} {g:TG} {tt:TT} {te:TE} (hc:X.calm = true) (hN:X.N.Nodup) (hix:X.N[i]? = some x) (hx:X.env.scope.names.lookup x = some .local) (S:CompScope X.N X.env.scope scope own fr) (hi:PI X tg iter wi)
  (hb:∀ (cl:List (Str × Addr)) (C:Addr) (s:Shared) (H:Hp) (ex:List Addr),PG (o6 X scope cl C (own ++ fr.map (·.2)) s H ex) tg g ∧ aj4 (o6 X scope cl C (own ++ fr.map (·.2)) s H ex) ifs tt ∧ PE (o6 X scope cl C (own ++ fr.map (·.2)) s H ex) elt te)
  (hsw:swapsWith (.ListComp elt [⟨tg,iter,ifs,0⟩] scope pos) (some (.Name x px)) spos.line X.env = pure true) (hs:∀ x,foldedSetIterable iter X.env x = pure x:=by intro _; rfl) :
  PS X (.Assign [.Name x px] (.ListComp elt [⟨tg,iter,ifs,0⟩] scope pos) spos) (aG0 (az7 own fr wi g tt te) (Z1 i)):=by
 intro pins s σ H D I h
 obtain ⟨cl,hclos,hcl,hcl2⟩:=G6 (scope:=scope) (env:=X.env) fun x hx=>I.ok.has x (S.free (x,.free) hx rfl)
 rw [exec_Assign_Name_used _ _ _ _ hsw]
 refine wpAny_bind (wpAny_standAt (wpAny_bind ?_))
 show wpAny _ X.A (do let _ ← comprehension (.ListComp elt [⟨tg,iter,ifs,0⟩] scope pos) scope X.env _ (newList []) false (eval iter X.env) (some (assign (.Name x px) X.env))) _ _ s
 refine wpAny_bind (wpAny_mono (wpAny_comprehension_free (use:=some (assign (.Name x px) X.env)) (Q:=fun _ s'=>SP X pins D .next s') rfl hs hclos S.kind S.locs (thn (hi pins s σ H _ I h) fun xv s₁ h₁=>thn h₁ fun itv s₂ h₂=>?_)) (fun _ s' hq=>wpAny_pure (wpAny_pure hq)) fun _ _ e=>e)
 obtain ⟨it,fp,tn,J,H2,e,I2,T,st2,f2,hq⟩:=h₂
 subst e
 refine R3 (Q:=fun x H1=>Z1 i x σ H1 D.nx) hc S I2 hcl hcl2 T st2 f2 hb hq (RR:=fun acc C=>compPost (model X.prog X.w) X.A X.xe (some (assign (.Name x px) X.env)) (fun _ s'=>SP X pins D .next s') acc C) fun Da C s' H' hn hC1 hCD hC2 q inv=>?_
 obtain ⟨m,hn⟩:=hn
 have I3:Inv X pins σ H' { s' with heap:=s'.heap }:=inv s'.heap fun _ _ _ e=>e
 show wpAny _ X.A (assign (.Name x px) X.env (.ref Da)) _ _ s'
 refine wpAny_assign_Name (T7 I3 hN hix (.inl hx) (v:=.ref Da) rfl (fun s4 I4 ⟨a,sb,ha⟩=>?_) (.inr hx))
 have hCL:C ≠ X.env.locals:=Nat.ne_of_gt (Nat.lt_of_lt_of_le I2.lt hC1)
 have hCc:∀ y c,X.env.cells.lookup y = some c → c ≠ C:=fun y c e=>by
  obtain ⟨v,w⟩:=I2.cell y c e
  exact Nat.ne_of_lt (Nat.lt_of_lt_of_le w.lt hC1)
 have haC:C ≠ a:=by
  rcases ha with ha | ha
  ·rw [ha]; exact hCL
  ·exact (hCc _ _ ha).symm
 refine ⟨m,hn.sameBut sb haC,fun h'' sb2=>⟨_,H',I4.turned (it:=C) (t':=s4.toks) (fun b o hb e=>sb2.extBut b o hb e) hC2 hCL (.inr (Nat.le_trans I2.sz hC1)) hCc fun p hp z=>?_,q⟩⟩
 exact Nat.ne_of_lt (Nat.lt_of_lt_of_le (Heap.lt_size (I2.pin p hp).1) hC1) z
end
theorem B8 {K:PySem.W.Frag} {a:Addr} {xs:List V} {g:TG} {tt:TT} {te:TE} {σ₀:St} {H:Hp} {Q:VK} (Pv:Nat → List V → St → Hp → Prop) (h0:Pv 0 [] σ₀ H) (hz:xs.length ≤ sizeLine) (hn:∀ i acc σ H,Pv i acc σ H → acc.length ≤ i)
  (hl:∀ i acc σ H,i ≤ xs.length → Pv i acc σ H → SqL K H a xs)
  (hs:∀ i x acc σ H,xs[i]? = some x → Pv i acc σ H → g x σ H fun σ2 H2=>tt σ2 H2 fun ok H3=>if ok = true then te σ2 H3 fun y H4=>Pv (i + 1) (acc ++ [y]) σ2 H4 else Pv (i + 1) acc σ2 H3)
  (hd:∀ acc σ H,Pv xs.length acc σ H → ∀ p,H p = none → Q (.ref p) (upd H p (.lst acc))) :
  X2 (Itl K a) g tt te Q σ₀ H:=by
 refine ⟨fun i m acc σ H=>m = xs.length - i ∧ i ≤ xs.length ∧ Pv i acc σ H,⟨xs.length,by simp,Nat.zero_le _,h0⟩,?_⟩
 rintro i m acc σ H ⟨rfl,hi,p⟩
 have q:=hl i acc σ H hi p
 have hlen:=hn i acc σ H p
 by_cases hlt:i < xs.length
 ·refine .inr ⟨⟨xs,xs[i],q,by simp [hlt]⟩,by lia,Pv (i + 1),fun acc' σ' H' p'=>⟨xs.length - (i + 1),by lia,rfl,hlt,p'⟩,fun x H' y=>?_⟩
  obtain ⟨e,y⟩:=y
  subst e
  exact hs i x acc σ _ (y xs q) p
 ·have e:i = xs.length:=by lia
  subst e
  exact .inl ⟨⟨xs,q,Nat.le_refl _⟩,by lia,hd acc σ H p⟩
theorem ac4 {lo:Int} {n:Nat} {g:TG} {tt:TT} {te:TE} {σ₀:St} {H:Hp} {Q:VK} (Pv:Nat → List V → St → Hp → Prop) (h0:Pv 0 [] σ₀ H) (hz:n ≤ sizeLine) (hn:∀ i acc σ H,Pv i acc σ H → acc.length ≤ i)
  (hs:∀ i acc σ H,i < n → Pv i acc σ H → g (.int (lo + i)) σ H fun σ2 H2=>tt σ2 H2 fun ok H3=>if ok = true then te σ2 H3 fun y H4=>Pv (i + 1) (acc ++ [y]) σ2 H4 else Pv (i + 1) acc σ2 H3)
  (hd:∀ acc σ H,Pv n acc σ H → ∀ p,H p = none → Q (.ref p) (upd H p (.lst acc))) :
  X2 (Itr lo n) g tt te Q σ₀ H:=by
 refine ⟨fun i m acc σ H=>m = n - i ∧ i ≤ n ∧ Pv i acc σ H,⟨n,by simp,Nat.zero_le _,h0⟩,?_⟩
 rintro i m acc σ H ⟨rfl,hi,p⟩
 have hlen:=hn i acc σ H p
 by_cases hlt:i < n
 ·refine .inr ⟨hlt,by lia,Pv (i + 1),fun acc' σ' H' p'=>⟨n - (i + 1),by lia,rfl,hlt,p'⟩,fun x H' y=>?_⟩
  obtain ⟨e,y⟩:=y
  subst e y
  exact hs i acc σ _ hlt p
 ·have e:i = n:=by lia
  subst e
  exact .inl ⟨Nat.le_refl _,by lia,hd acc σ H p⟩
end L2
namespace L2
open PySem PySem.Spec PyProof.Rows
theorem aJ9 {c A B:Prop} [Decidable c] (h:¬ c) (b:B):if c then A else B:=by rw [if_neg h]; exact b
structure Callee (P:Program) (w:World) (K:PySem.W.Frag) (mg:Str → Option Value) (base:Heap) (k:Nat) (x:Str) (ps:List Str) (sp:Sp):Prop where
 ex:∃ (f:Addr) (fd:FuncData),FnOk P w K mg base CX0 k f fd ps sp ∧ B4 K fd ps [] ∧ PySem.W.keepIn K (.ref f) = true ∧ mg x = some (.ref f)
structure Def (K:PySem.W.Frag) (mg:Str → Option Value) (x:Str) (st:Stmt) (ps:List Str):Prop where
 ex:∃ (f:Addr) (fd:FuncData),Fun K x x st f fd ∧ B4 K fd ps [] ∧ mg x = some (.ref f)
section
variable {P:Program} {w:World} {K:PySem.W.Frag} {mg:Str → Option Value} {base:Heap}
theorem Def.ok {x:Str} {st:Stmt} {N ps:List Str} {k:Nat} {sp:Sp} (D:Def K mg x st ps) (S:FnScope N ps (g6 st)) (len:∀ vs H Q E,sp vs H Q E → vs.length = ps.length)
  (hbody:∀ (f:Addr) (cdv:Value) (A:Around) (outer:List Env) (s:Shared) (H:Hp) (vs:List V) (Q:VK) (E:XK),Room k (A.deeper (envOfC x (g6 st) s.heap.objs.size f cdv)) → sp vs H Q E →
   ∃ t,PSs (D6 CX0 P w K mg base N x (g6 st) f cdv A outer s H E).nox (i8 st) t ∧ t { nx:=fun _ H'=>Q .non H',rt:=Q } (B6 N vs) H):Callee P w K mg base (k + 1) x ps sp:=by
 obtain ⟨f,fd,F,b,m⟩:=D.ex
 exact ⟨f,fd,F.ok S len fun cdv A outer s H vs Q E hr h=>hbody f cdv A outer s H vs Q E hr h,b,F.kp,m⟩
end
section
variable {X:Cx} {k n:Nat} {ps:List Str} {sp:Sp} {x:Str} {p pos:Pos} {e:Expr} {es:List Expr} {t:TA}
theorem y1 (C:Callee X.prog X.w X.K X.mg X.base k x ps sp) (hr:Room n X.A) (hg:Gl X x) (ha:PA X (e :: es) t) (hk:k ≤ n:=by decide) (hdb:(x == ("__debug__":Str)) = false:=by decide)
  (he:starEach (e :: es) X.env = (false,eval e X.env) :: starEach es X.env:=by rfl) (hpl:(backTo pos (starEach es X.env)).any (·.1) = false:=by rfl) :
  PE X (.Call (.Name x p) (e :: es) [] pos) (az3 sp [] E0 t):=by
 obtain ⟨f,fd,F,b,kp,m⟩:=C.ex
 exact av2 F (hr.mono hk) hg m kp b .nil am1 ha hdb he hpl
theorem Z9:y3 X (.builtin "isinstance") (fun xs H Q=>∃ v T t b,xs = [v,.ty T] ∧ TyOf X.K H v t ∧ PySem.W.kitOne X.K t (.type T) = some b ∧ Q (.bl b) H):=by
 intro pins s σ H xs us Q I r h
 obtain ⟨v,T,t,b,rfl,ty,e,q⟩:=h
 obtain ⟨u,u',rfl,r1,r2⟩:=ak7 r
 cases r2
 exact ag6 I r1 ty e fun tk=>⟨.bl b,H,I.tok _,rfl,q⟩
def aK6 (S T:String):Option Bool:=if (Value.type S == Value.type T) = true then some true else if PySem.W.kitMeta T = true then (fastBuiltinMro S).map (·.contains (.type T)) else none
theorem N7 {K:PySem.W.Frag} {S T:String} {b:Bool} (h:aK6 S T = some b):PySem.W.kitOne K (.type S) (.type T) = some b:=h
section
variable {K:PySem.W.Frag}
theorem Y2:PySem.W.kitOne K (.type "int") (.type "int") = some true:=N7 (by decide +kernel)
theorem X3:PySem.W.kitOne K (.type "int") (.type "bool") = some false:=N7 (by decide +kernel)
end
theorem M4:y3 X (.builtin "sorted") (fun xs H Q=>∃ (p:Addr) (ns:List Int),xs = [.ref p] ∧ SqL X.K H p (ns.map V.int) ∧ ns.length < 64 ∧ ∀ ns':List Int,ns'.Perm ns → ns'.Pairwise (· ≤ ·) → ∀ l,H l = none → Q (.ref l) (upd H l (.lst (ns'.map V.int)))):=by
 intro pins s σ H xs us Q I r h
 obtain ⟨p,ns,rfl,hq,h64,q⟩:=h
 obtain ⟨u,rfl,rx⟩:=F7 r
 cases rx
 obtain ⟨its,r',pl,hz⟩:=I.list hq
 have hi:IntsAre its ns:=A9 r'
 have hlen:its.length = ns.length:=hi.length
 refine sorted_ints pl.isList hi (by lia) fun out ns' a1 a2 a3=>?_
 obtain ⟨e,he⟩:=sortedAll_at s.heap its out
 have hz':(ns'.map V.int).length ≤ sizeLine:=by
  rw [List.length_map,a2.length_eq]
  rw [List.length_map] at hz
  exact hz
 exact ⟨.ref (s.heap.objs.size + 1),_,I.laid (t':=s.toks) (o:=.lst (ns'.map V.int)) (fun b o e=>sortedAll_old e) (Nat.le_succ _) ⟨hz',out.toList,e,N5 a1,by simpa [seqObj] using he⟩,rfl,q ns' a2 a3 _ (I.hok.fresh (Nat.le_succ _))⟩
theorem ad8 {ns:List Int} {us:List Value} (h:IntsAre us ns):∀ (i:Nat) (v:Value),us[i]? = some v → ∃ t,v = .int (ns.getD i 0) t:=by
 induction h with
 | nil=>intro i v e; simp at e
 | cons n t h ih =>
  intro i v e
  cases i with
  | zero=>exact ⟨t,by simpa using e.symm⟩
  | succ i =>
   obtain ⟨t',e'⟩:=ih i v (by simpa using e)
   exact ⟨t',by simpa using e'⟩
theorem Z0 (ns ms:List Int) (h:ns.length = ms.length):((List.range ns.length).all fun j=>ns.getD j 0 == ms.getD j 0) = decide (ns = ms):=by
 rw [Bool.eq_iff_iff,List.all_eq_true,decide_eq_true_iff]
 constructor
 ·intro q
  apply List.ext_getElem h
  intro i h1 h2
  have:=q i (by simpa using h1)
  simpa [List.getD,h1,h2] using this
 ·rintro rfl i hi
  simp
theorem U9 {A:Around} {s:Shared} {us vs:List Value} {ns ms:List Int} (h:IntsAre us ns) (h':IntsAre vs ms):∀ j (h1:j < us.toArray.size) (h2:j < vs.toArray.size),SeqAt.EqAt A s us.toArray[j] vs.toArray[j] (ns.getD j 0 == ms.getD j 0):=fun j h1 h2=>by
 obtain ⟨t,e⟩:=ad8 h j us.toArray[j] (by simp)
 obtain ⟨t',e'⟩:=ad8 h' j vs.toArray[j] (by simp)
 rw [e,e']
 exact SeqAt.EqAt.int_int _ _ _ _
theorem ax5 (hu:X.A.units < cLine):OpR X (compareOp .NotEq) (fun x y H Q=>∃ (a b:Addr) (ns ms:List Int),x = .ref a ∧ y = .ref b ∧ SqL X.K H a (ns.map V.int) ∧ SqL X.K H b (ms.map V.int) ∧ Q (.bl (!decide (ns = ms))) H):=by
 intro pins s σ H x y v u Q I rx ry h
 obtain ⟨a,b,ns,ms,rfl,rfl,ha,hb,q⟩:=h
 cases rx
 cases ry
 obtain ⟨its,r1,p1,_⟩:=I.list ha
 obtain ⟨its2,r2,p2,_⟩:=I.list hb
 have i1:IntsAre its ns:=A9 r1
 have i2:IntsAre its2 ms:=A9 r2
 have l1:=i1.length
 have l2:=i2.length
 by_cases hl:ns.length = ms.length
 ·refine SeqAt.RcNeAt.lists (e:=fun j=>ns.getD j 0 == ms.getD j 0) p1.isList p2.isList (by simp only [List.size_toArray]; lia) hu (U9 i1 i2) X.prog X.w X.xe _ ?_
  rw [List.size_toArray,l1,Z0 ns ms hl]
  exact ⟨.bl _,H,I,rfl,q⟩
 ·refine SeqAt.RcNeAt.lists_lengths p1.isList p2.isList (by simp only [List.size_toArray]; simpa using (by lia:its.length ≠ its2.length)) hu X.prog X.w X.xe _ ?_
  have e:decide (ns = ms) = false:=decide_eq_false (fun z=>hl (by rw [z]))
  rw [e] at q
  exact ⟨.bl true,H,I,rfl,q⟩
theorem av0 (hu:X.A.units < cLine):OpR X (compareOp .Eq) (fun x y H Q=>∃ (a b:Addr) (ns ms:List Int),x = .ref a ∧ y = .ref b ∧ SqL X.K H a (ns.map V.int) ∧ SqL X.K H b (ms.map V.int) ∧ Q (.bl (decide (ns = ms))) H):=by
 intro pins s σ H x y v u Q I rx ry h
 obtain ⟨a,b,ns,ms,rfl,rfl,ha,hb,q⟩:=h
 cases rx
 cases ry
 obtain ⟨its,r1,p1,_⟩:=I.list ha
 obtain ⟨its2,r2,p2,_⟩:=I.list hb
 have i1:IntsAre its ns:=A9 r1
 have i2:IntsAre its2 ms:=A9 r2
 have l1:=i1.length
 have l2:=i2.length
 by_cases hl:ns.length = ms.length
 ·refine SeqAt.RcAt.lists (e:=fun j=>ns.getD j 0 == ms.getD j 0) p1.isList p2.isList (by simp only [List.size_toArray]; lia) hu (U9 i1 i2) X.prog X.w X.xe _ ?_
  rw [List.size_toArray,l1,Z0 ns ms hl]
  exact ⟨.bl _,H,I,rfl,q⟩
 ·refine SeqAt.RcAt.lists_lengths p1.isList p2.isList (by simp only [List.size_toArray]; simpa using (by lia:its.length ≠ its2.length)) hu X.prog X.w X.xe _ ?_
  have e:decide (ns = ms) = false:=decide_eq_false (fun z=>hl (by rw [z]))
  rw [e] at q
  exact ⟨.bl false,H,I,rfl,q⟩
end
end L2
namespace L2
open PySem PySem.W PyProof.Rows
def ev {α:Type} (lt:Nat → Nat → Bool):KasT α → α
 | .ret a=>a
 | .ask i j k=>ev lt (k (lt i j))
theorem F4 {α β:Type} (lt:Nat → Nat → Bool) (f:α → KasT β):∀ t:KasT α,ev lt (t.bind f) = ev lt (f (ev lt t))
 | .ret _=>rfl
 | .ask i j k=>F4 lt f (k (lt i j))
section
variable {r:Nat → Int}
abbrev ltR (r:Nat → Int):Nat → Nat → Bool:=fun i j=>decide (r i < r j)
abbrev ky (r:Nat → Int) (p:Array Nat) (k:Nat):Int:=r (p.getD k 0)
theorem J8 {α:Type} (lt:Nat → Nat → Bool) (i j:Nat) (k:Bool → KasT α):ev lt (.ask i j k) = ev lt (k (lt i j)):=rfl
theorem aa5 {i j:Nat} (c:r i < r j):ltR r i j = true:=decide_eq_true c
theorem aa4 {i j:Nat} (c:¬ r i < r j):ltR r i j = false:=decide_eq_false c
def Up (r:Nat → Int) (p:Array Nat) (b:Nat):Prop:=∀ i,0 < i → i < b → ky r p (i - 1) ≤ ky r p i
def Dn (r:Nat → Int) (p:Array Nat) (b:Nat):Prop:=∀ i,0 < i → i < b → ky r p i ≤ ky r p (i - 1)
def Eqs (r:Nat → Int) (p:Array Nat) (a b:Nat):Prop:=∀ i,a < i → i < b → ky r p i = ky r p (i - 1)
theorem Up.mono {p:Array Nat} {b:Nat} (h:Up r p b):∀ i j,i ≤ j → j < b → ky r p i ≤ ky r p j:=by
  intro i j hij hj
  induction j with
  | zero =>
    have:i = 0:=by lia
    subst this; exact Int.le_refl _
  | succ j ih =>
    rcases Nat.lt_or_eq_of_le hij with q | q
    · exact Int.le_trans (ih (by lia) (by lia)) (h (j + 1) (by lia) hj)
    · rw [q]; exact Int.le_refl _
theorem Dn.mono {p:Array Nat} {b:Nat} (h:Dn r p b):∀ i j,i ≤ j → j < b → ky r p j ≤ ky r p i:=by
  intro i j hij hj
  induction j with
  | zero =>
    have:i = 0:=by lia
    subst this; exact Int.le_refl _
  | succ j ih =>
    rcases Nat.lt_or_eq_of_le hij with q | q
    · exact Int.le_trans (h (j + 1) (by lia) hj) (ih (by lia) (by lia))
    · rw [q]; exact Int.le_refl _
theorem Eqs.all {p:Array Nat} {a b:Nat} (h:Eqs r p a b):∀ i,a ≤ i → i < b → ky r p i = ky r p a:=by
  intro i hi hb
  induction i with
  | zero =>
    have:a = 0:=by lia
    subst this; rfl
  | succ i ih =>
    rcases Nat.lt_or_eq_of_le hi with q | q
    · rw [h (i + 1) q hb]; exact ih (by lia) (by lia)
    · rw [q]
theorem S1 {p:Array Nat} {i j:Nat} (hj:j ≤ p.size) (k:Nat):(kas_rev p i j).getD k 0 = if i ≤ k ∧ k < j then p.getD (i + j - 1 - k) 0 else p.getD k 0:=by
 unfold kas_rev
 have e:=getElem?_mirror (xs:=p) (i:=i) hj ((j - i) / 2) (by lia) k
 rw [Array.getD_eq_getD_getElem?,e]
 by_cases c:i ≤ k ∧ k < j
 ·rw [if_pos c]
  by_cases d:i ≤ k ∧ k < i + (j - i) / 2 ∨ j - (j - i) / 2 ≤ k ∧ k < j
  ·rw [if_pos d,Array.getD_eq_getD_getElem?]
  ·rw [if_neg d]
   have:i + j - 1 - k = k:=by lia
   rw [this,Array.getD_eq_getD_getElem?]
 ·rw [if_neg c,if_neg (by lia),Array.getD_eq_getD_getElem?]
theorem X6 {p:Array Nat} {i j:Nat} (hj:j ≤ p.size) (h:Eqs r p i j) (k:Nat):ky r (kas_rev p i j) k = ky r p k:=by
 show r _ = r _
 rw [S1 hj]
 by_cases c:i ≤ k ∧ k < j
 ·rw [if_pos c]
  have e1:ky r p (i + j - 1 - k) = ky r p i:=h.all _ (by lia) (by lia)
  have e2:ky r p k = ky r p i:=h.all _ c.1 c.2
  exact e1.trans e2.symm
 ·rw [if_neg c]
theorem B9 (p:Array Nat) (i j:Nat):(kas_rev p i j).size = p.size:=mirror_size _ _ _ _
theorem y7 (p:Array Nat) (i j:Nat):(kas_rev p i j).Perm p:=mirror_perm _ _ _ _
theorem al3 (p:Array Nat):∀ f n,1 ≤ n → Up r p n → n ≤ ev (ltR r) (kas_asc p f n) ∧ ev (ltR r) (kas_asc p f n) ≤ n + f ∧ Up r p (ev (ltR r) (kas_asc p f n)) ∧
  (ev (ltR r) (kas_asc p f n) < n + f → ky r p (ev (ltR r) (kas_asc p f n)) < ky r p (ev (ltR r) (kas_asc p f n) - 1)):=by
 intro f
 induction f with
 | zero=>intro n h1 h; exact ⟨Nat.le_refl _,Nat.le_refl _,h,fun q=>absurd q (Nat.lt_irrefl _)⟩
 | succ f ih =>
  intro n h1 h
  unfold kas_asc
  rw [J8]
  by_cases c:r (p.getD n 0) < r (p.getD (n - 1) 0)
  ·rw [aa5 c,if_pos rfl]
   exact ⟨Nat.le_refl _,by show n ≤ n + (f + 1); lia,h,fun _=>c⟩
  ·rw [aa4 c,if_neg (by simp)]
   obtain ⟨q1,q2,q3,q4⟩:=ih (n + 1) (by lia) (fun i hi hb=>by
    rcases Nat.lt_or_eq_of_le (Nat.le_of_lt_succ hb) with z | z
    ·exact h i hi z
    ·subst z; exact Int.not_lt.mp c)
   exact ⟨by lia,by lia,q3,fun z=>q4 (by lia)⟩
theorem ax9:∀ (f:Nat) (p:Array Nat) (n q:Nat),q < n → n + f ≤ p.size → Dn r p n → Eqs r p (n - (q + 1)) n →
  ∃ p' n' q',ev (ltR r) (kas_desc f p n q) = (p',n',q') ∧ q' < n' ∧ n ≤ n' ∧ n' ≤ n + f ∧ p'.size = p.size ∧ p'.Perm p ∧ Dn r p' n' ∧ Eqs r p' (n' - (q' + 1)) n':=by
 intro f
 induction f with
 | zero=>intro p n q hq hz hd he; exact ⟨p,n,q,rfl,hq,Nat.le_refl _,Nat.le_refl _,rfl,Array.Perm.refl _,hd,he⟩
 | succ f ih =>
  intro p n q hq hz hd he
  unfold kas_desc
  rw [J8]
  by_cases c:r (p.getD n 0) < r (p.getD (n - 1) 0)
  ·rw [aa5 c,if_pos rfl]
   have step:∀ p1:Array Nat,p1.size = p.size → p1.Perm p → (∀ k,ky r p1 k = ky r p k) → ∃ p' n' q',ev (ltR r) (kas_desc f p1 (n + 1) 0) = (p',n',q') ∧ q' < n' ∧ n ≤ n' ∧ n' ≤ n + (f + 1) ∧ p'.size = p.size ∧ p'.Perm p ∧ Dn r p' n' ∧ Eqs r p' (n' - (q' + 1)) n':=fun p1 s1 pm hk=>by
    obtain ⟨p',n',q',e,a1,a2,a3,a4,a5,a6,a7⟩:=ih p1 (n + 1) 0 (by lia) (by lia) (fun i hi hb=>by
     rw [hk,hk]
     rcases Nat.lt_or_eq_of_le (Nat.le_of_lt_succ hb) with z | z
     ·exact hd i hi z
     ·subst z; exact Int.le_of_lt c) (fun i hi hb=>by lia)
    exact ⟨p',n',q',e,a1,by lia,by lia,a4.trans s1,a5.trans pm,a6,a7⟩
   by_cases cq:q > 0
   ·rw [if_pos cq]
    exact step _ (B9 _ _ _) (y7 _ _ _) (X6 (by lia) he)
   ·rw [if_neg cq]
    exact step p rfl (Array.Perm.refl _) fun _=>rfl
  ·rw [aa4 c,if_neg (by simp)]
   rw [J8]
   by_cases d:r (p.getD (n - 1) 0) < r (p.getD n 0)
   ·rw [aa5 d,if_pos rfl]
    exact ⟨p,n,q,rfl,hq,Nat.le_refl _,by lia,rfl,Array.Perm.refl _,hd,he⟩
   ·rw [aa4 d,if_neg (by simp)]
    have eqn:ky r p n = ky r p (n - 1):=Int.le_antisymm (Int.not_lt.mp d) (Int.not_lt.mp c)
    obtain ⟨p',n',q',e,a1,a2,a3,a4,a5,a6,a7⟩:=ih p (n + 1) (q + 1) (by lia) (by lia) (fun i hi hb=>by
     rcases Nat.lt_or_eq_of_le (Nat.le_of_lt_succ hb) with z | z
     ·exact hd i hi z
     ·subst z; exact Int.le_of_eq eqn) (fun i hi hb=>by
     rcases Nat.lt_or_eq_of_le (Nat.le_of_lt_succ hb) with z | z
     ·exact he i (by lia) z
     ·subst z; exact eqn)
    exact ⟨p',n',q',e,a1,by lia,by lia,a4,a5,a6,a7⟩
def Run (r:Nat → Int) (p:Array Nat) (nrem:Nat) (x:Nat × Array Nat):Prop:=x.1 ≤ nrem ∧ 1 ≤ x.1 ∧ x.2.size = p.size ∧ x.2.Perm p ∧ Up r x.2 x.1
theorem aa3 {p:Array Nat} {n nrem:Nat} (h1:1 ≤ n) (hn:n ≤ nrem) (hz:nrem ≤ p.size) (hd:Dn r p n):Run r p nrem (ev (ltR r) (kas_tail3 n nrem p)):=by
 unfold kas_tail3
 rw [F4]
 have hu:Up r (kas_rev p 0 n) n:=fun i hi hb=>by
  show r _ ≤ r _
  rw [S1 (by lia),S1 (by lia),if_pos (by lia),if_pos (by lia)]
  exact hd.mono (0 + n - 1 - i) (0 + n - 1 - (i - 1)) (by lia) (by lia)
 obtain ⟨a1,a2,a3,_⟩:=al3 (kas_rev p 0 n) (nrem - n) n h1 hu
 exact ⟨by show ev (ltR r) _ ≤ _; lia,by show 1 ≤ ev (ltR r) _; lia,B9 _ _ _,y7 _ _ _,a3⟩
theorem Run.of {p p1:Array Nat} {nrem:Nat} {x:Nat × Array Nat} (h:Run r p1 nrem x) (s:p1.size = p.size) (m:p1.Perm p):Run r p nrem x:=⟨h.1,h.2.1,h.2.2.1.trans s,h.2.2.2.1.trans m,h.2.2.2.2⟩
theorem O6 {p:Array Nat} {n nrem:Nat} (hn:n + 1 ≤ nrem) (hz:nrem ≤ p.size) (hd:Dn r p (n + 1)):Run r p nrem (ev (ltR r) (kas_descPart n nrem p)):=by
 unfold kas_descPart
 rw [F4]
 obtain ⟨p',n',q',e,a1,a2,a3,a4,a5,a6,a7⟩:=ax9 (nrem - (n + 1)) p (n + 1) 0 (by lia) (by lia) hd (fun i hi hb=>by lia)
 rw [e]
 dsimp only
 by_cases c:q' > 0
 ·rw [if_pos c]
  have k:=X6 (r:=r) (by lia) a7
  exact (aa3 (p:=kas_rev p' (n' - (q' + 1)) n') (by lia) (by lia) (by rw [B9]; lia) (fun i hi hb=>by rw [k,k]; exact a6 i hi hb)).of ((B9 _ _ _).trans a4) ((y7 _ _ _).trans a5)
 ·rw [if_neg c]
  exact (aa3 (p:=p') (by lia) (by lia) (by lia) a6).of a4 a5
theorem X8 {p:Array Nat} {nrem:Nat} (h1:1 ≤ nrem) (hz:nrem ≤ p.size):Run r p nrem (ev (ltR r) (kas_count nrem p)):=by
 unfold kas_count
 rw [F4]
 obtain ⟨a1,a2,a3,a4⟩:=al3 (r:=r) p (nrem - 1) 1 (Nat.le_refl _) (fun i hi hb=>by lia)
 generalize ev (ltR r) (kas_asc p (nrem - 1) 1) = n at *
 by_cases c:(n == nrem) = true
 ·rw [if_pos c]
  exact ⟨by show n ≤ nrem; lia,a1,rfl,Array.Perm.refl _,a3⟩
 ·rw [if_neg c]
  have hne:n ≠ nrem:=by simpa using c
  have stop:=a4 (by lia)
  by_cases c2:n > 1
  ·rw [if_pos c2]
   rw [J8]
   by_cases d:r (p.getD 0 0) < r (p.getD (n - 1) 0)
   ·rw [aa5 d,if_pos rfl]
    exact ⟨by show n ≤ nrem; lia,a1,rfl,Array.Perm.refl _,a3⟩
   ·rw [aa4 d,if_neg (by simp)]
    have eqs:Eqs r p 0 n:=fun i hi hb=>by
     have q1:=a3.mono 0 (i - 1) (by lia) (by lia)
     have q2:=a3.mono (i - 1) i (by lia) hb
     have q3:=a3.mono i (n - 1) (by lia) (by lia)
     have q4:ky r p (n - 1) ≤ ky r p 0:=Int.not_lt.mp d
     lia
    have k:=X6 (r:=r) (by lia) eqs
    refine (O6 (p:=kas_rev p 0 n) (by lia) (by rw [B9]; exact hz) (fun i hi hb=>?_)).of (B9 _ _ _) (y7 _ _ _)
    rw [k,k]
    rcases Nat.lt_or_eq_of_le (Nat.le_of_lt_succ hb) with z | z
    ·exact Int.le_of_eq (eqs i hi z)
    ·subst z; exact Int.le_of_lt stop
  ·rw [if_neg c2]
   obtain rfl:n = 1:=by lia
   exact O6 (by lia) hz (fun i hi hb=>by
    obtain rfl:i = 1:=by lia
    exact Int.le_of_lt stop)
theorem ak3 {p:Array Nat} {k:Nat} (hu:Up r p k):∀ f l m,m - l ≤ f → l ≤ m → m ≤ k → (∀ i,i < l → ky r p i ≤ ky r p k) → (∀ i,m ≤ i → i < k → ky r p k < ky r p i) →
  ev (ltR r) (kas_place p k f l m) ≤ k ∧ (∀ i,i < ev (ltR r) (kas_place p k f l m) → ky r p i ≤ ky r p k) ∧ ∀ i,ev (ltR r) (kas_place p k f l m) ≤ i → i < k → ky r p k < ky r p i:=by
 intro f
 induction f with
 | zero =>
  intro l m h1 h2 h3 h4 h5
  obtain rfl:l = m:=by lia
  exact ⟨h3,h4,h5⟩
 | succ f ih =>
  intro l m h1 h2 h3 h4 h5
  unfold kas_place
  by_cases c:l ≥ m
  ·rw [if_pos c]
   obtain rfl:l = m:=by lia
   exact ⟨h3,h4,h5⟩
  ·rw [if_neg c]
   rw [J8]
   by_cases d:r (p.getD k 0) < r (p.getD ((l + m) / 2) 0)
   ·rw [aa5 d,if_pos rfl]
    refine ih l ((l + m) / 2) (by lia) (by lia) (by lia) h4 (fun i hi hb=>?_)
    exact Int.lt_of_lt_of_le d (hu.mono _ i hi hb)
   ·rw [aa4 d,if_neg (by simp)]
    refine ih ((l + m) / 2 + 1) m (by lia) (by lia) h3 (fun i hi=>?_) h5
    exact Int.le_trans (hu.mono i ((l + m) / 2) (by lia) (by lia)) (Int.not_lt.mp d)
theorem O5 {p:Array Nat} {k l:Nat} (hk:k < p.size) (hl:l ≤ k) (i:Nat):(bubble p k (k - l)).getD i 0 = if i = l then p.getD k 0 else if l < i ∧ i ≤ k then p.getD (i - 1) 0 else p.getD i 0:=by
 have e:=getElem?_bubble hk (k - l) (by lia) i
 rw [show k - (k - l) = l by lia] at e
 rw [Array.getD_eq_getD_getElem?,e]
 by_cases c1:i = l
 ·rw [if_pos c1,if_pos c1,Array.getD_eq_getD_getElem?]
 ·rw [if_neg c1,if_neg c1]
  by_cases c2:l < i ∧ i ≤ k
  ·rw [if_pos c2,if_pos c2,Array.getD_eq_getD_getElem?]
  ·rw [if_neg c2,if_neg c2,Array.getD_eq_getD_getElem?]
theorem aA4:∀ (f:Nat) (p:Array Nat) (k:Nat),k + f ≤ p.size → Up r p k → (ev (ltR r) (kas_bin f p k)).Perm p ∧ Up r (ev (ltR r) (kas_bin f p k)) (k + f):=by
 intro f
 induction f with
 | zero=>intro p k hz hu; exact ⟨Array.Perm.refl _,hu⟩
 | succ f ih =>
  intro p k hz hu
  unfold kas_bin
  rw [F4]
  obtain ⟨b1,b2,b3⟩:=ak3 hu k 0 k (by lia) (by lia) (Nat.le_refl _) (fun i hi=>absurd hi (by lia)) (fun i hi hb=>absurd hb (by lia))
  generalize ev (ltR r) (kas_place p k k 0 k) = l at *
  have hk:k < p.size:=by lia
  obtain ⟨c1,c2⟩:=ih (bubble p k (k - l)) (k + 1) (by rw [bubble_size]; lia) (fun i hi hb=>by
   show r _ ≤ r _
   rw [O5 hk b1,O5 hk b1]
   by_cases e1:i - 1 = l
   ·rw [if_pos e1,if_neg (show ¬ i = l by lia),if_pos (by lia)]
    have:=b3 (i - 1) (by lia) (by lia)
    exact Int.le_of_lt this
   ·rw [if_neg e1]
    by_cases e2:i = l
    ·rw [if_pos e2,if_neg (by lia)]
     exact b2 (i - 1) (by lia)
    ·rw [if_neg e2]
     by_cases e3:l < i
     ·rw [if_pos (by lia),if_pos (by lia)]
      exact hu (i - 1) (by lia) (by lia)
     ·rw [if_neg (by lia),if_neg (by lia)]
      exact hu i hi (by lia))
  exact ⟨c1.trans (bubble_perm _ _ _),by rw [show k + (f + 1) = k + 1 + f by lia]; exact c2⟩
theorem au1 {n:Nat} (hn:1 ≤ n):(ev (ltR r) (kas_sort n)).Perm (List.range n).toArray ∧ Up r (ev (ltR r) (kas_sort n)) n:=by
 unfold kas_sort
 rw [F4]
 obtain ⟨h1,h2,h3,h4,h5⟩:=X8 (r:=r) (p:=(List.range n).toArray) (nrem:=n) hn (by simp)
 generalize ev (ltR r) (kas_count n (List.range n).toArray) = x at *
 have hs:x.2.size = n:=by rw [h3]; simp
 by_cases c:x.1 < n
 ·rw [if_pos c]
  have hm:max x.1 1 = x.1:=by lia
  rw [hm]
  obtain ⟨c1,c2⟩:=aA4 (r:=r) (n - x.1) x.2 x.1 (by lia) h5
  rw [show x.1 + (n - x.1) = n by lia] at c2
  exact ⟨c1.trans h4,c2⟩
 ·rw [if_neg c]
  have:x.1 = n:=by lia
  rw [this] at h5
  exact ⟨h4,h5⟩
def I9 {α:Type} (lt:Nat → Nat → Bool) (n:Nat):KasT α → Prop
 | .ret _=>True
 | .ask i j k=>i < n ∧ j < n ∧ I9 lt n (k (lt i j))
theorem I9.bind {α β:Type} {lt:Nat → Nat → Bool} {n:Nat} {f:α → KasT β}:∀ {t:KasT α},I9 lt n t → I9 lt n (f (ev lt t)) → I9 lt n (t.bind f)
 | .ret _,_,h=>h
 | .ask i j k,h,h'=>⟨h.1,h.2.1,I9.bind (t:=k (lt i j)) h.2.2 h'⟩
def InN (n:Nat) (p:Array Nat):Prop:=0 < n ∧ ∀ x ∈ p.toList,x < n
theorem InN.at {n:Nat} {p:Array Nat} (h:InN n p) (k:Nat):p.getD k 0 < n:=by
 rw [Array.getD_eq_getD_getElem?]
 cases e:p[k]? with
 | none=>exact h.1
 | some x=>exact h.2 x (by rw [Array.mem_toList_iff]; exact Array.mem_of_getElem? e)
theorem InN.perm {n:Nat} {p p':Array Nat} (h:InN n p) (m:p'.Perm p):InN n p':=⟨h.1,fun x hx=>h.2 x (by
 rw [Array.mem_toList_iff] at hx ⊢
 exact (Array.Perm.mem_iff m).mp hx)⟩
variable {n₀:Nat}
theorem Q4 {p:Array Nat} (h:InN n₀ p):∀ f n,I9 (ltR r) n₀ (kas_asc p f n)
 | 0,_=>True.intro
 | f + 1,n=>by
  unfold kas_asc
  refine ⟨h.at _,h.at _,?_⟩
  dsimp only
  split
  ·exact True.intro
  ·exact Q4 h f (n + 1)
theorem E9:∀ (f:Nat) {p:Array Nat} (n q:Nat),InN n₀ p → I9 (ltR r) n₀ (kas_desc f p n q)
 | 0,_,_,_,_=>True.intro
 | f + 1,p,n,q,h=>by
  unfold kas_desc
  refine ⟨h.at _,h.at _,?_⟩
  dsimp only
  split
  ·split
   ·exact E9 f _ _ (h.perm (y7 _ _ _))
   ·exact E9 f _ _ h
  ·refine ⟨h.at _,h.at _,?_⟩
   dsimp only
   split
   ·exact True.intro
   ·exact E9 f _ _ h
theorem F2:∀ (f:Nat) (p:Array Nat) (n q:Nat),(ev (ltR r) (kas_desc f p n q)).1.Perm p
 | 0,p,_,_=>Array.Perm.refl _
 | f + 1,p,n,q=>by
  unfold kas_desc
  rw [J8]
  split
  ·split
   ·exact (F2 f _ _ _).trans (y7 _ _ _)
   ·exact F2 f _ _ _
  ·rw [J8]
   split
   ·exact Array.Perm.refl _
   ·exact F2 f _ _ _
theorem Q5 {p:Array Nat} (n nrem:Nat) (h:InN n₀ p):I9 (ltR r) n₀ (kas_tail3 n nrem p):=(Q4 (h.perm (y7 _ _ _)) _ _).bind True.intro
theorem F6 {p:Array Nat} (n nrem:Nat) (h:InN n₀ p):I9 (ltR r) n₀ (kas_descPart n nrem p):=by
 refine (E9 _ _ _ h).bind ?_
 have pm:=F2 (r:=r) (nrem - (n + 1)) p (n + 1) 0
 split
 ·exact Q5 _ _ ((h.perm pm).perm (y7 _ _ _))
 ·exact Q5 _ _ (h.perm pm)
theorem ac2 {p:Array Nat} (nrem:Nat) (h:InN n₀ p):I9 (ltR r) n₀ (kas_count nrem p):=by
 refine (Q4 h _ _).bind ?_
 split
 ·exact True.intro
 ·split
  ·refine ⟨h.at _,h.at _,?_⟩
   dsimp only
   split
   ·exact True.intro
   ·exact F6 _ _ (h.perm (y7 _ _ _))
  ·exact F6 _ _ h
theorem G8 {p:Array Nat} {k:Nat} (h:InN n₀ p):∀ f l m,I9 (ltR r) n₀ (kas_place p k f l m)
 | 0,_,_=>True.intro
 | f + 1,l,m=>by
  unfold kas_place
  split
  ·exact True.intro
  ·refine ⟨h.at _,h.at _,?_⟩
   dsimp only
   split
   ·exact G8 h f _ _
   ·exact G8 h f _ _
theorem X7:∀ (f:Nat) {p:Array Nat} (k:Nat),InN n₀ p → I9 (ltR r) n₀ (kas_bin f p k)
 | 0,_,_,_=>True.intro
 | f + 1,p,k,h=>(G8 h _ _ _).bind (X7 f _ (h.perm (bubble_perm _ _ _)))
theorem af9 {n:Nat} (hn:1 ≤ n):I9 (ltR r) n (kas_sort n):=by
 have h:InN n (List.range n).toArray:=⟨hn,fun x hx=>by simpa using hx⟩
 refine (ac2 n h).bind ?_
 obtain ⟨h1,h2,h3,h4,h5⟩:=X8 (r:=r) (p:=(List.range n).toArray) (nrem:=n) hn (by simp)
 split
 ·exact X7 _ _ (h.perm h4)
 ·exact True.intro
theorem ay6 {cmp:Nat → Nat → (Bool → Shared → Prop) → Shared → Prop} {J:Shared → Prop} {n:Nat} {lt:Nat → Nat → Bool} {α:Type} (hc:∀ i j C s,i < n → j < n → J s → (∀ s',J s' → C (lt i j) s') → cmp i j C s) :
  ∀ (t:KasT α) (s:Shared) (Q:α → Shared → Prop),I9 lt n t → J s → (∀ s',J s' → Q (ev lt t) s') → t.kasWp cmp Q s
 | .ret a,s,Q,_,hJ,h=>h s hJ
 | .ask i j k,s,Q,ha,hJ,h=>hc i j _ s ha.1 ha.2.1 hJ fun s' hJ'=>ay6 hc (k (lt i j)) s' Q ha.2.2 hJ' h
theorem ap0 {α:Type} {xs:List α} {r:Nat → Int} {p:Array Nat} (hp:p.Perm (List.range xs.length).toArray) (hu:Up r p xs.length) (d:α) (key:α → Int) (hk:∀ i,i < xs.length → r i = key (xs.getD i d)) :
  (p.toList.map fun i=>xs.getD i d).Perm xs ∧ (p.toList.map fun i=>xs.getD i d).Pairwise (fun a b=>key a ≤ key b):=by
 have hpl:p.toList.Perm (List.range xs.length):=by simpa using Array.perm_iff_toList_perm.mp hp
 have hlen:p.toList.length = xs.length:=by simpa using hpl.length_eq
 constructor
 ·refine (hpl.map _).trans ?_
  have:(List.range xs.length).map (fun i=>xs.getD i d) = xs:=by
   apply List.ext_getElem
   ·simp
   ·intro i h1 h2
    simp [List.getD,h2]
  rw [this]
 ·rw [List.pairwise_iff_getElem]
  intro i j hi hj hij
  rw [List.length_map] at hi hj
  rw [List.getElem_map,List.getElem_map]
  have m:∀ k (hk:k < p.toList.length),p.toList[k] < xs.length:=fun k hk=>by
   have:=hpl.mem_iff.mp (List.getElem_mem hk)
   simpa using this
  rw [← hk _ (m i hi),← hk _ (m j hj)]
  have q:=hu.mono i j (by lia) (by lia)
  have e:∀ k (hk:k < p.toList.length),p.getD k 0 = p.toList[k]:=fun k hk=>by
   have hk':k < p.size:=by simpa using hk
   simp [Array.getD,hk']
  rw [ky,ky,e i hi,e j hj] at q
  exact q
end
end L2
namespace L2
open PySem PySem.Spec PyProof.Rows
def EqV (X:Cx) (H:Hp) (n:Nat) (x y:V) (b:Bool):Prop :=
 ∀ (A:Around) (pins:List (Addr × Obj)) (s:Shared) (σ:St) (u v:Value),Inv X pins σ H s → i9 x u → i9 y v → A.units + n < cLine → SeqAt.EqAt A s u v b
structure EqRep (X:Cx) {δ:Type} [DecidableEq δ] (n:Nat) (R:Hp → V → δ → Prop):Prop where
 eq:∀ H x y dx dy,R H x dx → R H y dy → EqV X H n x y (decide (dx = dy))
 fn:∀ pins s σ H x d d',Inv X pins σ H s → R H x d → R H x d' → d = d'
section
variable {X:Cx}
variable {δ:Type} [DecidableEq δ] {n:Nat} {R:Hp → V → δ → Prop}
def aG5 (K:PySem.W.Frag) (R:Hp → V → δ → Prop):Hp → V → List δ → Prop:=fun H x ds=>∃ a xs,x = .ref a ∧ SqT K H a xs ∧ Paired (R H) xs ds
def au4 (K:PySem.W.Frag) (R:Hp → V → δ → Prop):Hp → V → List δ → Prop:=fun H x ds=>∃ a xs,x = .ref a ∧ SqL K H a xs ∧ Paired (R H) xs ds
theorem o7 {α β:Type} {Rl:α → β → Prop}:∀ {xs:List α} {ds:List β},Paired Rl xs ds → ∀ (i:Nat) (x:α),xs[i]? = some x → ∃ d,ds[i]? = some d ∧ Rl x d
 | _,_,.nil,i,x,h=>by simp at h
 | _,_,.cons r t,0,x,h=>by simp at h; subst h; exact ⟨_,rfl,r⟩
 | _,_,.cons r t,i + 1,x,h=>by
  obtain ⟨d,e,q⟩:=o7 t i x (by simpa using h)
  exact ⟨d,by simpa using e,q⟩
theorem ae3 (ds ds':List δ) (h:ds.length = ds'.length):((List.range ds.length).all fun j=>decide (ds[j]? = ds'[j]?)) = decide (ds = ds'):=by
 rw [Bool.eq_iff_iff,List.all_eq_true,decide_eq_true_iff]
 constructor
 ·intro q
  apply List.ext_getElem?
  intro i
  by_cases hi:i < ds.length
  ·exact of_decide_eq_true (q i (by simpa using hi))
  ·rw [List.getElem?_eq_none (by lia),List.getElem?_eq_none (by lia)]
 ·rintro rfl i hi
  simp
theorem Z2 (ep:EqRep X n R) {H:Hp} {A:Around} {pins:List (Addr × Obj)} {s:Shared} {σ:St} (I:Inv X pins σ H s) {xs ys:List V} {ds ds':List δ} {us vs:List Value} (hx:Paired (R H) xs ds) (hy:Paired (R H) ys ds') (ru:i7 xs us) (rv:i7 ys vs)
  (hu:A.units + n < cLine):∀ j (h1:j < us.toArray.size) (h2:j < vs.toArray.size),SeqAt.EqAt A s us.toArray[j] vs.toArray[j] (decide (ds[j]? = ds'[j]?)):=fun j h1 h2=>by
 have l1:=ru.length
 have l2:=rv.length
 rw [List.size_toArray] at h1 h2
 have e1:xs[j]? = some (xs[j]'(by lia)):=List.getElem?_eq_getElem _
 have e2:ys[j]? = some (ys[j]'(by lia)):=List.getElem?_eq_getElem _
 obtain ⟨d,q1,r1⟩:=o7 hx j _ e1
 obtain ⟨d',q2,r2⟩:=o7 hy j _ e2
 obtain ⟨u,w1,s1⟩:=ru.get e1
 obtain ⟨v,w2,s2⟩:=rv.get e2
 have z1:us.toArray[j] = u:=by rw [List.getElem?_eq_getElem h1] at w1; simpa using w1
 have z2:vs.toArray[j] = v:=by rw [List.getElem?_eq_getElem h2] at w2; simpa using w2
 rw [z1,z2,q1,q2]
 have:decide (some d = some d') = decide (d = d'):=by rw [Bool.eq_iff_iff]; simp
 rw [this]
 exact ep.eq H _ _ _ _ r1 r2 A pins s σ u v I s1 s2 hu
theorem N3 (ep:EqRep X n R) {H:Hp} {pins:List (Addr × Obj)} {s:Shared} {σ:St} (I:Inv X pins σ H s):∀ {xs:List V} {ds ds':List δ},Paired (R H) xs ds → Paired (R H) xs ds' → ds = ds'
 | _,_,_,.nil,.nil=>rfl
 | _,_,_,.cons r t,.cons r' t'=>by rw [ep.fn pins s σ H _ _ _ I r r',N3 ep I t t']
theorem ar7 (ep:EqRep X n R):EqRep X (n + 1) (aG5 X.K R) where
 eq:=fun H x y dx dy hx hy A pins s σ u v I ru rv hu=>by
  obtain ⟨a,xs,rfl,ha,px⟩:=hx
  obtain ⟨b,ys,rfl,hb,py⟩:=hy
  cases ru
  cases rv
  by_cases hab:a = b
  ·subst hab
   have:=I.tuple_inj ha hb
   subst this
   rw [N3 ep I px py,decide_eq_true rfl]
   exact SeqAt.EqAt.same _
  ·obtain ⟨us,r1,p1,_⟩:=I.tuple ha
   obtain ⟨vs,r2,p2,_⟩:=I.tuple hb
   have l1:=r1.length
   have l2:=r2.length
   have l3:=Paired.length px
   have l4:=Paired.length py
   have:=SeqAt.RcAt.tuples (A:=A) (e:=fun j=>decide (dx[j]? = dy[j]?)) p1 p2 (by lia) (Z2 ep I px py r1 r2 (by show A.units + 1 + n < cLine; lia))
   refine SeqAt.EqAt.of_refs hab ?_
   have e:((List.range (min us.toArray.size vs.toArray.size)).all (fun j=>decide (dx[j]? = dy[j]?)) && us.toArray.size == vs.toArray.size) = decide (dx = dy):=by
    rw [List.size_toArray,List.size_toArray]
    by_cases hl:dx.length = dy.length
    ·rw [show min us.length vs.length = dx.length by lia,ae3 dx dy hl,show (us.length == vs.length) = true by simp; lia,Bool.and_true]
    ·rw [show (us.length == vs.length) = false by simp; lia,Bool.and_false,decide_eq_false (fun z=>hl (by rw [z]))]
   rw [← e]
   exact this
 fn:=fun pins s σ H x d d' I h h'=>by
  obtain ⟨a,xs,rfl,ha,px⟩:=h
  obtain ⟨b,ys,e,hb,py⟩:=h'
  cases e
  have:=I.tuple_inj ha hb
  subst this
  exact N3 ep I px py
theorem aB9 (ep:EqRep X n R) (hu:X.A.units + 1 + n < cLine):OpR X (compareOp .Eq) (fun x y H Q=>∃ ds ds',au4 X.K R H x ds ∧ au4 X.K R H y ds' ∧ Q (.bl (decide (ds = ds'))) H):=by
 intro pins s σ H x y v u Q I rx ry h
 obtain ⟨dx,dy,⟨a,xs,rfl,ha,px⟩,⟨b,ys,rfl,hb,py⟩,q⟩:=h
 cases rx
 cases ry
 obtain ⟨us,r1,p1,_⟩:=I.list ha
 obtain ⟨vs,r2,p2,_⟩:=I.list hb
 have l1:=r1.length
 have l2:=r2.length
 have l3:=Paired.length px
 have l4:=Paired.length py
 by_cases hl:dx.length = dy.length
 ·refine SeqAt.RcAt.lists (e:=fun j=>decide (dx[j]? = dy[j]?)) p1.isList p2.isList (by simp only [List.size_toArray]; lia) (by lia) (Z2 ep I px py r1 r2 (by show X.A.units + 1 + n < cLine; lia)) X.prog X.w X.xe _ ?_
  rw [List.size_toArray,show us.length = dx.length by lia,ae3 dx dy hl]
  exact ⟨.bl _,H,I,rfl,q⟩
 ·refine SeqAt.RcAt.lists_lengths p1.isList p2.isList (by simp only [List.size_toArray]; simpa using (by lia:us.length ≠ vs.length)) (by lia) X.prog X.w X.xe _ ?_
  rw [decide_eq_false (fun z=>hl (by rw [z]))] at q
  exact ⟨.bl false,H,I,rfl,q⟩
end
end L2
namespace L2
open PySem PySem.Spec PyProof.Rows PySem.W
def D0:List V → List V → Option Bool
 | [],[]=>some false
 | [],_ :: _=>some true
 | _ :: _,[]=>some false
 | .int a :: r,.int b :: r'=>if a = b then D0 r r' else some (decide (a < b))
 | .ref a :: r,.ref b :: r'=>if a = b then D0 r r' else none
 | _,_=>none
section
variable {prog:Program} {w:World} {A:Around} {E:Value → Shared → Prop} {s:Shared}
theorem ay3 {a b:Int} {t u:Tok} {k:Bool} {Q:Bool → Shared → Prop} (h:Q (decide (a < b)) s):wpAny (model prog w) A (oneLt' k (.int a t) (.int b u)) Q E s:=by
 cases k with
 | true=>exact oneLt_int h
 | false=>exact kat_one _ _ (lt_int (show PySem.W.BoolBack Q (.bool (decide (a < b))) s from h))
theorem Q7 {b fin:Bool} {Q:Bool → Shared → Prop}:∀ (xs ys:List V) (us vs:List Value) (i:Nat) (c:Bool),i7 xs us → i7 ys vs → D0 xs ys = some c → fin = decide (us.length < vs.length) → Q c s → KatLex prog w A b fin Q (us.zip vs) i s
 | [],[],_,_,i,c,.nil,.nil,h,hf,q=>by
  have e:c = false:=by simpa [D0] using h.symm
  subst e
  refine kat_nil ?_
  rw [hf]; exact q
 | [],y :: ys,_,_,i,c,.nil,.cons _ _,h,hf,q=>by
  have e:c = true:=by simpa [D0] using h.symm
  subst e
  refine kat_nil ?_
  rw [hf,decide_eq_true (by simp)]; exact q
 | x :: xs,[],_,_,i,c,.cons _ _,.nil,h,hf,q=>by
  have e:c = false:=by cases x <;> simpa [D0] using h.symm
  subst e
  refine kat_nil ?_
  rw [hf,decide_eq_false (by simp)]; exact q
 | x :: xs,y :: ys,u :: us,v :: vs,i,c,.cons rx tx,.cons ry ty,h,hf,q=>by
  have hf':fin = decide (us.length < vs.length):=by
   rw [hf,List.length_cons,List.length_cons]
   rw [Bool.eq_iff_iff,decide_eq_true_iff,decide_eq_true_iff]
   lia
  rw [List.zip_cons_cons]
  cases x with
  | int m =>
   cases y with
   | int k =>
    obtain ⟨t,rfl⟩:=rx
    obtain ⟨t',rfl⟩:=ry
    refine kat_cons (wpAny_eqBool_int ?_)
    by_cases e:m = k
    ·rw [show (m == k) = true by simpa using e]
     have h':D0 xs ys = some c:=by simpa [D0,e] using h
     exact kat_yes (Q7 xs ys us vs (i + 1) c tx ty h' hf' q)
    ·rw [show (m == k) = false by simpa using e]
     have h':decide (m < k) = c:=by simpa [D0,e] using h
     refine kat_no (ay3 ?_)
     rw [h']; exact q
   | _=>simp [D0] at h
  | ref m =>
   cases y with
   | ref k =>
    cases rx
    cases ry
    by_cases e:m = k
    ·subst e
     have h':D0 xs ys = some c:=by simpa [D0] using h
     exact kat_cons (SeqAt.EqAt.same (.ref m) prog w _ _ (kat_yes (Q7 xs ys us vs (i + 1) c tx ty h' hf' q)))
    ·simp [D0,e] at h
   | _=>simp [D0] at h
  | _=>cases y <;> simp [D0] at h
theorem W1 {a:Addr} {vs:List Value} {n:Nat} {r:Nat → Int} {P:PySem.Fin → Shared → Prop} (ho:s.heap.get? a = some (seqObj "list" vs.toArray n)) (h64:vs.length < 64)
  (hk:∀ (h':Heap),(∀ b o,b ≠ a → s.heap.get? b = some o → h'.get? b = some o) → 2 ≤ vs.length → ∀ Q':SortKind → Shared → Prop,Q' (tuples' true) { s with heap:=h' } → wpAny (model prog w) A (keyKind' vs.toArray) Q' E { s with heap:=h' })
  (hc:∀ (h':Heap),(∀ b o,b ≠ a → s.heap.get? b = some o → h'.get? b = some o) → ∀ i j,i < vs.length → j < vs.length → ∀ C:Bool → Shared → Prop,C (decide (r i < r j)) { s with heap:=h' } → wpAny (model prog w) A (keyLt' (tuples' true) (vs.getD i Value.none) (vs.getD j Value.none)) C (fun _ _=>False) { s with heap:=h' })
  (h:∀ p:Array Nat,p.Perm (List.range vs.length).toArray → Up r p vs.length → P (.done (.ret .none)) { s with heap:=sortedHeap s.heap a vs (p.toList.map fun i=>vs.getD i Value.none).toArray }) :
  wpAny (model prog w) A (Builtin.«list.sort» ⟨[.ref a],[]⟩) P E s:=by
 have ha:a < s.heap.objs.size:=Heap.lt_size ho
 rw [list_sort_plain]
 refine wpAny_bind (listItems_at ho rfl ?_)
 refine wpAny_bind (listUpdate_at ho rfl ?_ (by rw [List.size_toArray,sizeLine_eq]; lia) (Nat.zero_le _))
 obtain ⟨e1,ho1⟩:∃ e1,(s.heap.update a (Obj.mapSeq fun _=>(#[]:Array Value))).get? a = some (seqObj "list" #[] e1):=⟨_,get?_update_seq ho fun _=>#[]⟩
 refine wpAny_bind (seqEpoch_at ho1 rfl ?_)
 refine wpAny_bind (wpAny_newTuple ?_ (by show vs.length ≤ _; rw [sizeLine_eq]; lia))
 refine wpAny_bind (wpAny_newList ?_ (Nat.zero_le _))
 refine wpAny_holding ?_
 have keep:∀ b o,b ≠ a → s.heap.get? b = some o → (((s.heap.update a (Obj.mapSeq fun _=>(#[]:Array Value))).push (seqObj "tuple" vs.toArray 0)).push (seqObj "list" #[] 0)).get? b = some o:=fun b o hb q =>
  Heap.get?_push_of_some _ (Heap.get?_push_of_some _ ((Heap.get?_update_other _ _ (Ne.symm hb)).trans q))
 have ho6:(((s.heap.update a (Obj.mapSeq fun _=>(#[]:Array Value))).push (seqObj "tuple" vs.toArray 0)).push (seqObj "list" #[] 0)).get? a = some (seqObj "list" #[] e1):=Heap.get?_push_of_some _ (Heap.get?_push_of_some _ ho1)
 show wpAny (model prog w) A _ P E { s with heap:=((s.heap.update a (Obj.mapSeq fun _=>(#[]:Array Value))).push (seqObj "tuple" vs.toArray 0)).push (seqObj "list" #[] 0) }
 dsimp only
 by_cases h2:vs.toArray.size < 2
 ·rw [if_pos h2,if_pos h2]
  refine wpAny_bind (wpAny_pure ?_)
  rw [StateT.run_pure]
  refine wpAny_bind (wpAny_pure ?_)
  dsimp only
  refine wpAny_bind (seqEpoch_at ho6 rfl ?_)
  have eo:(arrOf (SortSt.mk' general' (vs.toArray.zip vs.toArray) #[] 7 none)).map (·.2) = (((List.range vs.length).toArray.toList).map fun i=>vs.getD i Value.none).toArray:=by
   have e3:((List.range vs.length).toArray.toList.map fun i=>vs.getD i Value.none) = vs:=by
    apply List.ext_getElem
    ·simp
    ·intro i q1 q2
     simp [List.getD,q2]
   rw [e3]
   show (vs.toArray.zip vs.toArray).map (·.2) = vs.toArray
   apply Array.ext
   ·simp
   ·intro i q1 q2
    simp
  refine wpAny_bind (listUpdate_at ho6 rfl ?_ (Nat.zero_le _) (by rw [eo,List.size_toArray,List.length_map]; simp; rw [sizeLine_eq]; lia))
  simp only [bne_self_eq_false,Bool.false_eq_true,if_false]
  refine wpAny_pure ?_
  rw [eo]
  refine h (List.range vs.length).toArray (Array.Perm.refl _) fun i hi hb=>?_
  rw [List.size_toArray] at h2
  lia
 ·rw [if_neg h2,if_neg h2]
  rw [List.size_toArray] at h2
  refine wpAny_bind (hk _ keep (by lia) _ ?_)
  have run:=kat_run (E:=E) (κ:=tuples' true) (ks:=vs) (vs:=vs) (prog:=prog) (w:=w) (A:=A) (Q:=fun st' s'=>s' = { s with heap:=((s.heap.update a (Obj.mapSeq fun _=>(#[]:Array Value))).push (seqObj "tuple" vs.toArray 0)).push (seqObj "list" #[] 0) } ∧ failedOf st' = none ∧ ∃ p:Array Nat,p.Perm (List.range vs.length).toArray ∧ Up r p vs.length ∧ arrOf st' = p.map (kas_item (vs.toArray.zip vs.toArray)))
   (G:=fun p s'=>s' = { s with heap:=((s.heap.update a (Obj.mapSeq fun _=>(#[]:Array Value))).push (seqObj "tuple" vs.toArray 0)).push (seqObj "list" #[] 0) } ∧ p.Perm (List.range vs.length).toArray ∧ Up r p vs.length) rfl (by lia) h64 (fun p st' s' a1 a2 a3 ⟨b1,b2,b3⟩=>⟨b1,a3,p,b2,b3,a2⟩)
   (ay6 (J:=fun s'=>s' = { s with heap:=((s.heap.update a (Obj.mapSeq fun _=>(#[]:Array Value))).push (seqObj "tuple" vs.toArray 0)).push (seqObj "list" #[] 0) }) (lt:=ltR r) (n:=vs.length) (fun i j C s' hi hj hJ q=>by
    subst hJ
    exact hc _ keep i j hi hj C (q _ rfl)) _ _ _ (af9 (by lia)) rfl fun s' hJ=>⟨hJ,au1 (by lia)⟩)
  refine wpAny_bind (wpAny_mono run ?_ fun _ _ e=>e)
  rintro ⟨⟨⟩,st'⟩ s' ⟨rfl,hf,p,pm,up,har⟩
  dsimp only
  have hout:=kat_snds (ks:=vs) (vs:=vs) rfl har
  have hsz:(p.toList.map fun i=>vs.getD i Value.none).toArray.size = vs.length:=by rw [List.size_toArray,List.length_map,Array.length_toList,pm.size_eq]; simp
  rw [hout]
  refine wpAny_bind (seqEpoch_at ho6 rfl ?_)
  refine wpAny_bind (listUpdate_at ho6 rfl ?_ (Nat.zero_le _) (by rw [hsz,sizeLine_eq]; lia))
  rw [hf]
  simp only [bne_self_eq_false,Bool.false_eq_true,if_false]
  exact wpAny_pure (h p pm up)
theorem ah8 {l:Addr} {vs:List Value} {r:Nat → Int} {Q:Value → Shared → Prop} (hl:s.heap.IsList l vs.toArray) (h64:vs.length < 64)
  (hk:∀ (A:Around) (E:Value → Shared → Prop) (h':Heap),(∀ b o,s.heap.get? b = some o → h'.get? b = some o) → 2 ≤ vs.length → ∀ Q':SortKind → Shared → Prop,Q' (tuples' true) { s with heap:=h' } → wpAny (model prog w) A (keyKind' vs.toArray) Q' E { s with heap:=h' })
  (hc:∀ (A:Around) (h':Heap),(∀ b o,s.heap.get? b = some o → h'.get? b = some o) → ∀ i j,i < vs.length → j < vs.length → ∀ C:Bool → Shared → Prop,C (decide (r i < r j)) { s with heap:=h' } → wpAny (model prog w) A (keyLt' (tuples' true) (vs.getD i Value.none) (vs.getD j Value.none)) C (fun _ _=>False) { s with heap:=h' })
  (h:∀ (p:Array Nat),p.Perm (List.range vs.length).toArray → Up r p vs.length → Q (.ref (s.heap.objs.size + 1)) { s with heap:=sortedAll s.heap vs (p.toList.map fun i=>vs.getD i Value.none).toArray }) :
  wpAny (model prog w) A (call (.builtin "sorted") [.ref l]) Q E s:=by
 refine Calls.call_function_entry kind_sorted plain_sorted entry_sorted (args_sorted1 _) ?_
 unfold Builtin.«sorted»
 refine wpAny_bind (m:=checkCount "sorted" 1 1 _) (wpAny_pure ?_)
 refine wpAny_bind (collect_list hl ?_ (by rw [sizeLine_eq]; lia))
 refine wpAny_bind (wpAny_newList ?_ (by rw [sizeLine_eq]; lia))
 have sz:((s.heap.push (seqObj "list" #[] 0)).update s.heap.objs.size (Obj.mapSeq (· ++ vs.toArray))).objs.size = s.heap.objs.size + 1:=by rw [Heap.size_update,size_push']
 have hoL:(((s.heap.push (seqObj "list" #[] 0)).update s.heap.objs.size (Obj.mapSeq (· ++ vs.toArray))).push (seqObj "list" vs.toArray 0)).get? (s.heap.objs.size + 1) = some (seqObj "list" vs.toArray 0):=by
  rw [← sz]; exact Heap.get?_push_size _ rfl
 have keep:∀ b o,s.heap.get? b = some o → (((s.heap.push (seqObj "list" #[] 0)).update s.heap.objs.size (Obj.mapSeq (· ++ vs.toArray))).push (seqObj "list" vs.toArray 0)).get? b = some o:=fun b o q =>
  Heap.get?_push_of_some _ ((Heap.get?_update_other _ _ (Nat.ne_of_gt (Heap.lt_size q))).trans (Heap.get?_push_of_some _ q))
 show wpAny _ _ _ _ _ { s with heap:=((s.heap.push (seqObj "list" #[] 0)).update s.heap.objs.size (Obj.mapSeq (· ++ vs.toArray))).push (seqObj "list" vs.toArray 0) }
 rw [sz]
 refine wpAny_bind (wpAny_holding (wpAny_call_entry slot_list_sort ⟨_,hoL,rfl⟩ entry_list_sort (W1 (r:=r) (s:={ s with heap:=((s.heap.push (seqObj "list" #[] 0)).update s.heap.objs.size (Obj.mapSeq (· ++ vs.toArray))).push (seqObj "list" vs.toArray 0) }) hoL h64
  (fun h' kp h2 Q' q=>hk _ _ h' (fun b o e=>kp b o (Nat.ne_of_lt (Nat.lt_succ_of_lt (Heap.lt_size e))) (keep b o e)) h2 Q' q)
  (fun h' kp i j hi hj C q=>hc _ h' (fun b o e=>kp b o (Nat.ne_of_lt (Nat.lt_succ_of_lt (Heap.lt_size e))) (keep b o e)) i j hi hj C q) fun p pm up=>⟨_,rfl,?_⟩) (args_list_sort _)))
 exact wpAny_pure ⟨_,rfl,h p pm up⟩
end
section
variable {X:Cx}
def N9 (K:PySem.W.Frag) (H:Hp) (as:List Addr) (its:List (List V)):Prop:=Paired (fun a xs=>SqT K H a xs ∧ ∃ i r,xs = V.int i :: r) as its
theorem Z5 {K:PySem.W.Frag} {H:Hp} {as:List Addr} {its:List (List V)} (h:N9 K H as its):∀ (i:Nat),i < as.length → ∃ a xs,as[i]? = some a ∧ its[i]? = some xs ∧ SqT K H a xs ∧ ∃ j r,xs = V.int j :: r:=fun i hi=>by
 have e:as[i]? = some as[i]:=List.getElem?_eq_getElem hi
 obtain ⟨d,e2,q⟩:=o7 h i _ e
 exact ⟨_,d,e,e2,q.1,q.2⟩
theorem N0:y3 X (.builtin "sorted") (fun xs H Q=>∃ (p:Addr) (as:List Addr) (its:List (List V)) (r:Nat → Int),xs = [.ref p] ∧ SqL X.K H p (as.map V.ref) ∧ N9 X.K H as its ∧ as.length < 64 ∧
  (∀ i j x y,its[i]? = some x → its[j]? = some y → D0 x y = some (decide (r i < r j))) ∧ ∀ q:Array Nat,q.Perm (List.range as.length).toArray → Up r q as.length → ∀ l,H l = none → Q (.ref l) (upd H l (.lst ((q.toList.map fun i=>as.getD i 0).map V.ref)))):=by
 intro pins s σ H xs us Q I r0 h
 obtain ⟨p,as,its,r,rfl,hq,ht,h64,hcmp,q⟩:=h
 obtain ⟨u,rfl,rx⟩:=F7 r0
 cases rx
 obtain ⟨vs,r',pl,hz⟩:=I.list hq
 have evs:vs = as.map Value.ref:=by
  have go:∀ (as:List Addr) (vs:List Value),i7 (as.map V.ref) vs → vs = as.map Value.ref:=by
   intro as
   induction as with
   | nil=>intro vs r; cases r; rfl
   | cons a t ih =>
    intro vs r
    rw [List.map_cons] at r
    cases r with
    | cons r1 r2=>rw [show _ = Value.ref a from r1,ih _ r2]; rfl
  exact go as vs r'
 subst evs
 have hl:(as.map Value.ref).length = as.length:=List.length_map _
 have hget:∀ i a,as[i]? = some a → (as.map Value.ref).getD i Value.none = .ref a:=fun i a e=>by
  rw [List.getD,List.getElem?_map,e]; rfl
 have tl:=Paired.length ht
 refine ah8 (r:=r) pl.isList (by rw [hl]; exact h64) (fun A E h' kp h2 Q' q'=>?_) (fun A h' kp i j hi hj C q'=>?_) fun pq pm up=>?_
 ·-- the kind
  have I':Inv X pins σ H { s with heap:=h' }:=I.kept (t':=s.toks) kp
  have go:∀ (as:List Addr) (its:List (List V)),N9 X.K H as its → ∃ fs:List Value,KatTups h' (as.map Value.ref) fs ∧ (∀ v ∈ fs,∃ i t,v = .int i t) ∧ fs.length = as.length:=by
   intro as its hT
   unfold N9 at hT
   induction hT with
   | nil=>exact ⟨[],trivial,fun v hv=>absurd hv (by simp),rfl⟩
   | @cons a xs as its hx t ih =>
    obtain ⟨fs,k1,k2,k3⟩:=ih
    obtain ⟨hS,i,r,rfl⟩:=hx
    obtain ⟨us,ru,pu,_⟩:=I'.tuple hS
    cases ru with
    | @cons _ u _ us r1 r2 =>
     obtain ⟨tk,rfl⟩:=r1
     obtain ⟨o,e1,e2,n,e3⟩:=pu
     refine ⟨.int i tk :: fs,KatTups.cons e1 e2 e3 (by simp) k1,fun v hv=>?_,by rw [List.length_cons,List.length_cons,k3]⟩
     rcases List.mem_cons.mp hv with rfl | hv
     ·exact ⟨i,tk,rfl⟩
     ·exact k2 v hv
  obtain ⟨fs,k1,k2,k3⟩:=go as its ht
  refine kat_kind (T:=.type "int") k1 (by rw [hl] at h2; lia) (fun v hv=>?_) (by decide) q'
  obtain ⟨i,tk,rfl⟩:=k2 v hv
  exact .now
 ·-- a comparison
  have I':Inv X pins σ H { s with heap:=h' }:=I.kept (t':=s.toks) kp
  rw [hl] at hi hj
  obtain ⟨a,x,ea,ex,hS,_⟩:=Z5 ht i hi
  obtain ⟨b,y,eb,ey,hS',_⟩:=Z5 ht j hj
  rw [hget i a ea,hget j b eb]
  obtain ⟨us,ru,⟨o,e1,e2,n,e3⟩,_⟩:=I'.tuple hS
  obtain ⟨us',ru',⟨o',e1',e2',n',e3'⟩,_⟩:=I'.tuple hS'
  refine kat_lt e1 e3 e1' e3' ?_
  exact Q7 x y us us' 0 _ (by simpa using ru) (by simpa using ru') (hcmp i j x y ex ey) (by simp) q'
 ·have sz:(pq.toList.map fun i=>(as.map Value.ref).getD i Value.none) = (pq.toList.map fun i=>as.getD i 0).map Value.ref:=by
   rw [List.map_map]
   apply List.map_congr_left
   intro i hi
   have hi':i < as.length:=by
    have:=(Array.Perm.mem_iff pm (a:=i)).mp (by simpa using hi)
    rw [hl] at this
    simpa using this
   show _ = Value.ref (as.getD i 0)
   rw [hget i as[i] (List.getElem?_eq_getElem hi')]
   simp [List.getD,hi']
  rw [sz]
  rw [hl] at pm up
  obtain ⟨e,he⟩:=sortedAll_at s.heap (as.map Value.ref) ((pq.toList.map fun i=>as.getD i 0).map Value.ref).toArray
  have vr:∀ bs:List Addr,i7 (bs.map V.ref) (bs.map Value.ref):=fun bs=>by
   induction bs with
   | nil=>exact .nil
   | cons b t ih=>exact .cons rfl ih
  have hlen:((pq.toList.map fun i=>as.getD i 0).map V.ref).length ≤ sizeLine:=by
   rw [List.length_map,List.length_map,Array.length_toList,pm.size_eq]
   exact Nat.le_of_lt (j4 (by simp; lia))
  exact ⟨.ref (s.heap.objs.size + 1),_,I.laid (t':=s.toks) (o:=.lst ((pq.toList.map fun i=>as.getD i 0).map V.ref)) (fun b o e=>sortedAll_old e) (Nat.le_succ _) ⟨hlen,_,e,vr _,by simpa [seqObj] using he⟩,rfl,q pq pm up _ (I.hok.fresh (Nat.le_succ _))⟩
end
end L2
namespace L2
open PySem PySem.Spec PyProof.Rows
section
variable {es:List Expr} {env:Env} {c:Const} {i:Nat} {p:Pos}
theorem i5:starEach (.Constant c i p :: es) env = (false,eval (.Constant c i p) env) :: starEach es env:=by rw [starEach]; intro a b h; cases h
theorem b9 {x:Str}:starEach (.Name x p :: es) env = (false,eval (.Name x p) env) :: starEach es env:=by rw [starEach]; intro a b h; cases h
theorem j6 {f:Expr} {as:List Expr} {ks:List Keyword}:starEach (.Call f as ks p :: es) env = (false,eval (.Call f as ks p) env) :: starEach es env:=by rw [starEach]; intro a b h; cases h
theorem E6 {a b:Expr} {o:Operator}:starEach (.BinOp a o b p :: es) env = (false,eval (.BinOp a o b p) env) :: starEach es env:=by rw [starEach]; intro a b h; cases h
theorem aF7 {a:Expr} {o:UnaryOp}:starEach (.UnaryOp o a p :: es) env = (false,eval (.UnaryOp o a p) env) :: starEach es env:=by rw [starEach]; intro a b h; cases h
theorem C9 {a b:Expr}:starEach (.Subscript a b p :: es) env = (false,eval (.Subscript a b p) env) :: starEach es env:=by rw [starEach]; intro a b h; cases h
theorem ac7 {a:List Expr}:starEach (.Tuple a i p :: es) env = (false,eval (.Tuple a i p) env) :: starEach es env:=by rw [starEach]; intro a b h; cases h
theorem ax3 {a:List Expr}:starEach (.List a p :: es) env = (false,eval (.List a p) env) :: starEach es env:=by rw [starEach]; intro a b h; cases h
theorem af2 {a:Expr} {g:List Comprehension} {s:Scope}:starEach (.ListComp a g s p :: es) env = (false,eval (.ListComp a g s p) env) :: starEach es env:=by rw [starEach]; intro a b h; cases h
end
section
variable {X:Cx}
theorem m8 (K:PySem.W.Frag) (h:X.K = K:=by rfl):IxR X (aF8 K):=h ▸ at6
theorem m6 (K:PySem.W.Frag) (h:X.K = K:=by rfl):IxR X (aF0 K):=h ▸ aB6
theorem R5 (K:PySem.W.Frag) (h:X.K = K:=by rfl):SlR X (aH2 K):=h ▸ ay1
theorem ak0 (K:PySem.W.Frag) (h:X.K = K:=by rfl):OpR X (compareOp .In) (rIn K false):=h ▸ ai1
theorem aj0 (K:PySem.W.Frag) (h:X.K = K:=by rfl):OpR X (compareOp .NotIn) (rIn K true):=h ▸ W3
def ax8 (K:PySem.W.Frag):List V → Hp → VK → Prop:=fun xs H Q=>∃ p ys,xs = [.ref p] ∧ (SqL K H p ys ∨ SqT K H p ys) ∧ Q (.int ys.length) H
theorem z7 (K:PySem.W.Frag) (h:X.K = K:=by rfl):y3 X (.builtin "len") (ax8 K):=h ▸ X1
def at2 (K:PySem.W.Frag):List V → Hp → VK → Prop:=fun xs H Q=>∃ p ys,xs = [.ref p] ∧ (SqL K H p ys ∨ SqT K H p ys) ∧ ∀ l,H l = none → Q (.ref l) (upd H l (.lst ys))
theorem K8 (K:PySem.W.Frag) (h:X.K = K:=by rfl):y3 X (.type "list") (at2 K):=h ▸ X0
def ar6 (K:PySem.W.Frag):List V → Hp → VK → Prop:=fun xs H Q=>∃ p ys,xs = [.ref p] ∧ ((SqL K H p ys ∧ ∀ l,H l = none → Q (.ref l) (upd H l (.tup ys))) ∨ (SqT K H p ys ∧ Q (.ref p) H))
theorem O2 (K:PySem.W.Frag) (h:X.K = K:=by rfl):y3 X (.type "tuple") (ar6 K):=h ▸ S7
def aw3 (K:PySem.W.Frag):List V → Hp → VK → Prop:=fun xs H Q=>∃ v T t b,xs = [v,.ty T] ∧ TyOf K H v t ∧ PySem.W.kitOne K t (.type T) = some b ∧ Q (.bl b) H
theorem C8 (K:PySem.W.Frag) (h:X.K = K:=by rfl):y3 X (.builtin "isinstance") (aw3 K):=h ▸ Z9
def am0 (K:PySem.W.Frag):List V → Hp → VK → Prop:=fun xs H Q=>∃ (p:Addr) (ns:List Int),xs = [.ref p] ∧ SqL K H p (ns.map V.int) ∧ ns.length < 64 ∧ ∀ ns':List Int,ns'.Perm ns → ns'.Pairwise (· ≤ ·) → ∀ l,H l = none → Q (.ref l) (upd H l (.lst (ns'.map V.int)))
theorem W7 (K:PySem.W.Frag) (h:X.K = K:=by rfl):y3 X (.builtin "sorted") (am0 K):=h ▸ M4
def aj7 (K:PySem.W.Frag):List V → Hp → VK → Prop:=fun xs H Q=>∃ (p:Addr) (as:List Addr) (its:List (List V)) (r:Nat → Int),xs = [.ref p] ∧ SqL K H p (as.map V.ref) ∧ N9 K H as its ∧ as.length < 64 ∧
  (∀ i j x y,its[i]? = some x → its[j]? = some y → D0 x y = some (decide (r i < r j))) ∧ ∀ q:Array Nat,q.Perm (List.range as.length).toArray → Up r q as.length → ∀ l,H l = none → Q (.ref l) (upd H l (.lst ((q.toList.map fun i=>as.getD i 0).map V.ref)))
theorem S5 (K:PySem.W.Frag) (h:X.K = K:=by rfl):y3 X (.builtin "sorted") (aj7 K):=h ▸ N0
def aI6 (K:PySem.W.Frag):R2:=fun x y H Q=>∃ (a b:Addr) (ns ms:List Int),x = .ref a ∧ y = .ref b ∧ SqL K H a (ns.map V.int) ∧ SqL K H b (ms.map V.int) ∧ Q (.bl (!decide (ns = ms))) H
def aJ1 (K:PySem.W.Frag):R2:=fun x y H Q=>∃ (a b:Addr) (ns ms:List Int),x = .ref a ∧ y = .ref b ∧ SqL K H a (ns.map V.int) ∧ SqL K H b (ms.map V.int) ∧ Q (.bl (decide (ns = ms))) H
theorem au8 (K:PySem.W.Frag) (hu:X.A.units < cLine) (h:X.K = K:=by rfl):OpR X (compareOp .NotEq) (aI6 K):=h ▸ ax5 hu
theorem ay2 (K:PySem.W.Frag) (hu:X.A.units < cLine) (h:X.K = K:=by rfl):OpR X (compareOp .Eq) (aJ1 K):=h ▸ av0 hu
section
variable {δ:Type} [DecidableEq δ] {n:Nat} {R:Hp → V → δ → Prop}
def aK5 (K:PySem.W.Frag) (R:Hp → V → δ → Prop):R2:=fun x y H Q=>∃ ds ds',au4 K R H x ds ∧ au4 K R H y ds' ∧ Q (.bl (decide (ds = ds'))) H
theorem aw2 (K:PySem.W.Frag) (ep:EqRep X n R) (hu:X.A.units + 1 + n < cLine) (h:X.K = K:=by rfl):OpR X (compareOp .Eq) (aK5 K R):=h ▸ aB9 ep hu
end
def aJ2 (K:PySem.W.Frag) (ta:TE):TT:=fun σ H Q=>ta σ H fun x H'=>∃ k,aB3 K x H' k ∧ Q k H'
theorem F3 (K:PySem.W.Frag) {a:Expr} {ta:TE} (ha:PE X a ta) (he:∀ whole,isTrue a X.env whole = (do let v ← whole; standAt a.pos; holding [v] (truthy v))) (h:X.K = K:=by rfl):PT X a (aJ2 K ta):=h ▸ aq2 ha he
theorem t4 (K:PySem.W.Frag) {tg l:Expr} {tl:TE} (hl:PE X l tl) (h:X.K = K:=by rfl):PI X tg l (az2 K tl):=h ▸ au7 hl
theorem as9 (K:PySem.W.Frag) {tg l:Expr} {tl:TE} (hl:PE X l tl) (h:X.K = K:=by rfl):PI X tg l (aF1 K tl):=h ▸ aD5 hl
variable {x y z w:Str} {i j k l n:Nat} {px py pz pw pt:Pos}
end
section
variable {X:Cx} {o e:Expr} {es:List Expr} {to:TE} {t:TA} {name:Str} {apos cpos:Pos} {T id:String} {r:V → List V → Hp → VK → Prop}
theorem A2 (K:PySem.W.Frag) (pa:PlainAttrs T) (slot:Slot T name id) (hty:typeOf (.builtin id) = pure (.type "method_descriptor")) (hm:MtR X id r) (ho:PE X o to) (ha:PA X (e :: es) t) (h:X.K = K:=by rfl)
  (hbase:attributeBase o name X.env (eval o X.env) = eval o X.env:=by rfl)
  (hfew:((backTo cpos (starEach (e :: es) X.env)).all (fun x=>!x.1) && (backToKw cpos (keywordEach [] X.env)).all (fun x=>x.1.isSome)
   && decide ((e :: es).length + ([]:List Keyword).length + (if ([]:List Keyword).isEmpty then 0 else 1) < 30)) = true:=by rfl)
  (hline:(apos.endLine == cpos.line) = true:=by rfl) (hs:starEach (e :: es) X.env = (false,eval e X.env) :: starEach es X.env:=by rfl) (hplain:(backTo cpos (starEach es X.env)).any (·.1) = false:=by rfl) :
  PE X (.Call (.Attribute o name apos) (e :: es) [] cpos) (tBM K T r to t):=h ▸ aG9 pa slot hty hm ho ha hbase hfew hline hs hplain
end
end L2
namespace L2
open PySem PySem.Spec PyProof.Rows
theorem A8 {α β:Type} {R R':α → β → Prop}:∀ {as:List α} {ds:List β},Paired R as ds → (∀ a b,b ∈ ds → R a b → R' a b) → Paired R' as ds
 | _,_,.nil,_=>.nil
 | _,_,.cons h t,hi=>.cons (hi _ _ (List.mem_cons_self ..) h) (A8 t fun a b hb=>hi a b (List.mem_cons_of_mem _ hb))
end L2
namespace L2
open PySem PySem.Spec PyProof.Rows
theorem Room.units2 {k:Nat} {A:Around} (r:Room k A):A.units + 1 + (0 + 1) < cLine:=by have:=r.un; lia
end L2
namespace L2
open PySem PySem.Spec PyProof.Rows
theorem q9 {X:Cx}:MtR X "list.append" af8:=aj5
end L2
namespace L2
open PySem PySem.Spec PyProof.Rows
def aA7:Hp → V → Key → Prop:=fun _ x k=>x = kV k
section
variable {X:Cx}
theorem ak2:EqRep X 0 aA7 where
 eq:=fun H x y dx dy hx hy A pins s σ u v I ru rv hu=>by
  subst hx hy
  rcases dx with i | i <;> rcases dy with j | j
  ·obtain ⟨t,rfl⟩:=ru
   obtain ⟨t',rfl⟩:=rv
   have:=SeqAt.EqAt.int_int (A:=A) (s:=s) i t j t'
   rw [show decide ((Sum.inl i:Key) = Sum.inl j) = (i == j) by rw [Bool.eq_iff_iff]; simp]
   exact this
  ·obtain ⟨t,rfl⟩:=ru
   obtain ⟨t',rfl⟩:=rv
   have:=SeqAt.EqAt.int_str (A:=A) (s:=s) i t j t'
   rw [decide_eq_false (fun z=>nomatch z)]
   exact this
  ·obtain ⟨t,rfl⟩:=ru
   obtain ⟨t',rfl⟩:=rv
   have:=SeqAt.EqAt.str_int (A:=A) (s:=s) i t j t'
   rw [decide_eq_false (fun z=>nomatch z)]
   exact this
  ·obtain ⟨t,rfl⟩:=ru
   obtain ⟨t',rfl⟩:=rv
   have:=SeqAt.EqAt.str_str (A:=A) (s:=s) i t j t'
   rw [show decide ((Sum.inr i:Key) = Sum.inr j) = (i == j) by rw [Bool.eq_iff_iff]; simp]
   exact this
 fn:=fun _ _ _ _ x d d' _ h h'=>by subst h; exact aD8 h'
def inD (ds:List (List Key)) (d:List Key):Bool:=ds.any fun x=>decide (x = d)
theorem af6 {ds:List (List Key)} {d:List Key}:inD ds d = true ↔ d ∈ ds:=by
 unfold inD
 rw [List.any_eq_true]
 constructor
 ·rintro ⟨x,hx,h⟩
  rw [← of_decide_eq_true h]
  exact hx
 ·intro h
  exact ⟨d,h,decide_eq_true rfl⟩
def aI0 (K:PySem.W.Frag) (neg:Bool):R2:=fun x y H Q=>∃ (p b:Addr) (as:List Addr) (d:List Key) (ds:List (List Key)),x = .ref b ∧ y = .ref p ∧ SqL K H p (as.map V.ref) ∧ SqT K H b (d.map kV) ∧ Paired (fun a d=>SqT K H a (d.map kV)) as ds ∧ Q (.bl (if neg then !inD ds d else inD ds d)) H
theorem y6 {H:Hp}:∀ d:List Key,Paired (aA7 H) (d.map kV) d
 | []=>.nil
 | _ :: t=>.cons rfl (y6 t)
theorem at8 {pins:List (Addr × Obj)} {σ:St} {H:Hp} {s:Shared} {b:Addr} {as:List Addr} {d:List Key} {ds:List (List Key)} {A:Around} (I:Inv X pins σ H s) (hb:SqT X.K H b (d.map kV)) (hp:Paired (fun a d=>SqT X.K H a (d.map kV)) as ds)
  (hu:A.units + 1 < cLine) {its:List Value} (r:i7 (as.map V.ref) its) :
  ∃ e:Value → Bool,(∀ y,y ∈ its.toArray → SeqAt.EqAt A s y (.ref b) (e y)) ∧ its.toArray.any e = inD ds d:=by
 have ep:=ar7 (X:=X) ak2
 have rd:∀ (j:Nat) a,as[j]? = some a → ∃ d',ds[j]? = some d' ∧ SqT X.K H a (d'.map kV):=fun j a h=>o7 hp j a h
 have evs:its = as.map Value.ref:=by
  have go:∀ (as:List Addr) (vs:List Value),i7 (as.map V.ref) vs → vs = as.map Value.ref:=by
   intro as
   induction as with
   | nil=>intro vs r; cases r; rfl
   | cons a t ih =>
    intro vs r
    rw [List.map_cons] at r
    cases r with
    | cons r1 r2=>rw [show _ = Value.ref a from r1,ih _ r2]; rfl
  exact go as its r
 subst evs
 let e:Value → Bool:=fun y=>match y with
  | .ref a=>(List.range as.length).any fun j=>decide (as[j]? = some a) && decide (ds[j]? = some d)
  | _=>false
 have eR:∀ a,e (.ref a) = true ↔ ∃ j:Nat,as[j]? = some a ∧ ds[j]? = some d:=fun a=>by
  show ((List.range as.length).any fun j=>decide (as[j]? = some a) && decide (ds[j]? = some d)) = true ↔ _
  rw [List.any_eq_true]
  constructor
  ·rintro ⟨j,_,h⟩
   rw [Bool.and_eq_true] at h
   exact ⟨j,of_decide_eq_true h.1,of_decide_eq_true h.2⟩
  ·rintro ⟨j,h1,h2⟩
   exact ⟨j,List.mem_range.mpr (List.getElem?_eq_some_iff.mp h1).1,by rw [Bool.and_eq_true]; exact ⟨decide_eq_true h1,decide_eq_true h2⟩⟩
 have key:∀ (j:Nat) a d',as[j]? = some a → ds[j]? = some d' → e (.ref a) = decide (d' = d):=fun j a d' h1 h2=>by
  rw [Bool.eq_iff_iff,eR,decide_eq_true_iff]
  constructor
  ·rintro ⟨k,g1,g2⟩
   obtain ⟨d1,q1,s1⟩:=rd j a h1
   obtain ⟨d2,q2,s2⟩:=rd k a g1
   rw [h2] at q1
   rw [g2] at q2
   cases q1
   cases q2
   exact ep.fn pins s σ H (.ref a) _ _ I ⟨a,_,rfl,s1,y6 _⟩ ⟨a,_,rfl,s2,y6 _⟩
  ·rintro rfl
   exact ⟨j,h1,h2⟩
 refine ⟨e,fun y hy=>?_,?_⟩
 ·have hy':y ∈ as.map Value.ref:=by simpa using hy
  obtain ⟨a,ha,rfl⟩:=List.mem_map.mp hy'
  obtain ⟨j,hj⟩:=List.getElem?_of_mem ha
  obtain ⟨d',q1,s1⟩:=rd j a hj
  rw [key j a d' hj q1]
  exact ep.eq H (.ref a) (.ref b) d' d ⟨a,_,rfl,s1,y6 _⟩ ⟨b,_,rfl,hb,y6 _⟩ A pins s σ (.ref a) (.ref b) I rfl rfl (by lia)
 ·rw [Bool.eq_iff_iff,af6,Array.any_eq_true']
  constructor
  ·rintro ⟨y,hy,h⟩
   have hy':y ∈ as.map Value.ref:=by simpa using hy
   obtain ⟨a,ha,rfl⟩:=List.mem_map.mp hy'
   obtain ⟨j,_,h2⟩:=(eR a).mp h
   exact List.mem_of_getElem? h2
  ·intro h
   obtain ⟨j,hj⟩:=List.getElem?_of_mem h
   have hl:as.length = ds.length:=Paired.length hp
   have hj':=(List.getElem?_eq_some_iff.mp hj).1
   have ea:as[j]? = some (as[j]'(by lia)):=List.getElem?_eq_getElem (by lia)
   exact ⟨.ref (as[j]'(by lia)),by simp,(eR _).mpr ⟨j,ea,hj⟩⟩
theorem Q9 (K:PySem.W.Frag) (hu:X.A.units + 2 < cLine) (h:X.K = K:=by rfl):OpR X (compareOp .NotIn) (aI0 K true):=by
 subst h
 intro pins s σ H x y v u Q I rx ry h
 obtain ⟨p,b,as,d,ds,rfl,rfl,hq,hb,hp,q⟩:=h
 cases rx
 cases ry
 obtain ⟨its,r,pl,hz⟩:=I.list hq
 obtain ⟨e,h1,h2⟩:=at8 (A:=X.A.in1) I hb hp (by show X.A.units + 1 + 1 < cLine; lia) r
 refine SeqAt.notIn_listAt e pl.isList h1 ⟨.bl _,H,I,rfl,?_⟩
 rw [h2]
 exact q
theorem Room.unitsT {k:Nat} {A:Around} (r:Room k A):A.units + 2 < cLine:=by have:=r.un; lia
end
end L2
namespace L2
open PySem PySem.Spec PyProof.Rows
section
variable {X:Cx}
theorem aw9:PIp X .Add (rI0 fun i j=>.int (i + j)):=aw1
theorem ai0 (K:PySem.W.Frag) (h:X.K = K:=by rfl):aB1 X (fun x y H Q=>∃ p xs i z,x = .ref p ∧ y = .int i ∧ SqL K H p xs ∧ 0 ≤ i ∧ xs[i.toNat]? = some z ∧ Q z H):=by
 subst h
 intro pins s σ H x y v u Q I rx ry h
 obtain ⟨p,xs,i,z,rfl,rfl,hq,h0,he,q⟩:=h
 cases rx
 obtain ⟨t,rfl⟩:=ry
 obtain ⟨its,r,pl,hz⟩:=I.list hq
 obtain ⟨w,ew,rw'⟩:=r.get he
 have hl:=r.length
 have hi:=(List.getElem?_eq_some_iff.mp he).1
 have hn:=M6
 exact wpAny_getItem_list pl.isList h0 (by lia) (by simpa using ew) ⟨z,H,I,rw',q⟩
end
end L2
namespace L2
open PySem PySem.Spec PyProof.Rows
section
variable {X:Cx}
def aH7 (i j:Int):Prop:=0 < j ∧ j < 18446744073709551616
theorem Y4:OpR X (binaryOp .FloorDiv) (rI aH7 fun i j=>.int (i / j)):=opI fun i j _ _ _ _ _ hc q=>by
 have h1:(0:Int) < j:=hc.1
 have h2:j < 18446744073709551616:=hc.2
 refine floordiv_int (by lia) (by rw [Int.fdiv_eq_ediv_of_nonneg i (by lia)]; exact q) (.inl (PyProof.noPylong_of_log2 ?_))
 have h3:j.natAbs < 2 ^ 64:=by lia
 have h4:j.natAbs ≠ 0:=by lia
 have:=(Nat.log2_lt h4).mpr h3
 lia
variable {δ:Type} [DecidableEq δ] {n:Nat} {R:Hp → V → δ → Prop}
end
end L2
namespace L2
open PySem PySem.Spec PyProof.Rows
section
variable {X:Cx}
def P2 (l:Addr) (j:Int):HO:=.ext fun h=>∃ t u v,IsRange h l 0 j 1 t u v
def aJ5:List V → Hp → VK → Prop:=fun xs H Q=>∃ j:Int,xs = [.int j] ∧ ∀ l,H l = none → Q (.ref l) (upd H l (P2 l j))
theorem R9:y3 X (.type "range") aJ5:=by
 intro pins s σ H xs us Q I r h
 obtain ⟨j,rfl,q⟩:=h
 obtain ⟨u,rfl,t,rfl⟩:=F7 r
 refine call_range_1 ?_
 have new:m9 X.prog X.w (upd H s.heap.objs.size (P2 s.heap.objs.size j)) (s.heap.push { cls:=.type "range",data:=.fields #[.int 0 s.toks,.int j t,.int 1 (s.toks + 1)] }) s.heap.objs.size (P2 s.heap.objs.size j):=by
  have e:IsRange (s.heap.push { cls:=.type "range",data:=.fields #[.int 0 s.toks,.int j t,.int 1 (s.toks + 1)] }) s.heap.objs.size 0 j 1 s.toks t (s.toks + 1):=IsRange.new ..
  exact ⟨⟨_,_,_,e⟩,⟨_,e⟩,fun h1 h2 ⟨_,_,_,a⟩ b=>⟨_,_,_,b _ a⟩⟩
 exact ⟨.ref s.heap.objs.size,_,I.laid (t':=s.toks + 1 + 1) (fun b o e=>Heap.get?_push_of_some _ e) (Nat.le_refl _) new,rfl,q _ (I.hok.fresh (Nat.le_refl _))⟩
def aC5:List V → Hp → VK → Prop:=fun xs H Q=>∃ (l:Addr) (n:Nat),xs = [.ref l] ∧ H l = some (P2 l n) ∧ n ≤ 1000 ∧ ∀ t,H t = none → Q (.ref t) (upd H t (.lst ((List.range n).map fun (i:Nat)=>V.int i)))
theorem T0:∀ (n:Nat) (acc:Array Value),ItemsOf (fun i v=>∃ t,v = Value.int (0 + (i:Int) * 1) t) acc n → i7 ((List.range n).map fun (i:Nat)=>V.int i) acc.toList:=fun n acc h=>by
 have go:∀ (us:List Value) (k:Nat),(∀ i v,us[i]? = some v → ∃ t,v = Value.int ((k + i:Nat):Int) t) → i7 ((List.range' k us.length).map fun (i:Nat)=>V.int i) us:=by
  intro us
  induction us with
  | nil=>intro k _; exact .nil
  | cons u r ih =>
   intro k hk
   obtain ⟨t,e⟩:=hk 0 u rfl
   refine .cons ⟨t,by simpa using e⟩ (ih (k + 1) fun i v hv=>?_)
   obtain ⟨t,e⟩:=hk (i + 1) v (by simpa using hv)
   exact ⟨t,by rw [e,show k + 1 + i = k + (i + 1) by lia]⟩
 have:=go acc.toList 0 fun i v hv=>by
  obtain ⟨t,e⟩:=h.2 i v (by simpa using hv)
  exact ⟨t,by rw [e]; simp⟩
 rw [Array.length_toList,h.1] at this
 rw [List.range_eq_range']
 exact this
theorem S9 (hc:X.calm = true):y3 X (.type "list") aC5:=by
 intro pins s σ H xs us Q I r h
 obtain ⟨l,n,rfl,e,hz,q⟩:=h
 obtain ⟨u,rfl,rx⟩:=F7 r
 cases rx
 obtain ⟨t,u,v,g⟩:=(show m9 X.prog X.w H s.heap l (P2 l n) from I.hok l _ e).1
 have sz:Builtin.Range.rangeSize 0 (n:Int) 1 = (n:Int):=by rw [rangeSize_one]; split <;> lia
 refine call_list_range (I.ok.hd hc) g (small_one (by lia) (by lia) (by lia) (by lia)) sz (by lia) fun h' tk acc c kp gS hacc=>?_
 have hv:=T0 n acc hacc
 have I2:Inv X pins σ (upd H s.heap.objs.size (.lst ((List.range n).map fun (i:Nat)=>V.int i))) { s with heap:=h',toks:=tk } :=
  I.laid kp (Nat.le_refl _) (show m9 X.prog X.w _ h' _ (.lst _) from ⟨by rw [List.length_map,List.length_range]; exact Nat.le_of_lt (j4 hz),acc.toList,c,hv,by simpa using gS⟩)
 exact ⟨.ref s.heap.objs.size,_,I2,rfl,q _ (I.hok.fresh (Nat.le_refl _))⟩
end
end L2
namespace L2
open PySem PySem.Spec PyProof.Rows
def ad7 (X:Cx) (q:Str) (scope:Scope) (cl:List (Str × Addr)) (f c:Addr) (N:List Str) (A:Around) (s:Shared) (H:Hp):Cx where
 prog:=X.prog
 w:=X.w
 K:=X.K
 mg:=X.mg
 base:=X.base
 A:=A.deeper (PySem.W.envX q scope s.heap.objs.size f (.ref c) cl)
 N:=N
 s₀:=s
 H₀:=H
 env:=PySem.W.envX q scope s.heap.objs.size f (.ref c) cl
 outer:=X.stack
 stack:=PySem.W.envX q scope s.heap.objs.size f (.ref c) cl :: X.stack
 ex:=[]
 calm:=true
 fn:=fun _=>false
 pn:=[]
 xe:=fun _ _=>False
structure LamScope (N:List Str) (osc scope:Scope) (p:Str) (fr:List (Nat × Str)):Prop where
 kind:scope.kind = .function
 co:scope.isCoroutine = false
 gen:scope.isGenerator = false
 nocell:∀ y ∈ scope.names,y.2 ≠ .cell
 loc:scope.names.lookup p = some .local
 free:∀ y ∈ scope.names,y.2 = .free → osc.names.lookup y.1 = some .cell ∨ osc.names.lookup y.1 = some .free
 slot:∀ z ∈ fr,N[z.1]? = some z.2 ∧ scope.names.lookup z.2 = some .free
def M1 (x:V) (fr:List (Nat × Str)) (σ:St):St:=some x :: fr.map fun z=>(σ[z.1]?).join
section
variable {X:Cx} {pins:List (Addr × Obj)} {σ:St} {H:Hp} {s:Shared} {scope:Scope} {p q:Str} {fr:List (Nat × Str)} {cl:List (Str × Addr)} {f c:Addr} {A:Around} {x:V} {u:Value}
theorem ax4 {h1:Heap} {t':Nat} (S:LamScope X.N X.env.scope scope p fr) (I:Inv X pins σ H s) (hA:A.frames = some X.stack) (hh:A.handled = none)
  (hcl:∀ x c,cl.lookup x = some c → X.env.cells.lookup x = some c) (hcl2:∀ x,(x,NameKind.free) ∈ scope.names → ∃ c,cl.lookup x = some c)
  (k:∀ b o,s.heap.get? b = some o → h1.get? b = some o) (hn:h1.Ns s.heap.objs.size (fun y=>[(p,u)].reverse.lookup y)) (rx:i9 x u) :
  Inv (ad7 X q scope cl f c (p :: fr.map (·.2)) A s H) [] (M1 x fr σ) H { s with heap:=h1,toks:=t' }:=by
 have okX:=I.ok
 refine ⟨⟨okX.mod,S.kind,rfl,rfl,Nat.le_refl _,fun x y c e1 e2=>okX.inj x y c (hcl x c e1) (hcl y c e2),fun y hy=>?_,(fun y c z=>nomatch z),fun _=>hh,Around.frames_deeper hA,.inr ⟨rfl,rfl⟩,(fun b z=>absurd (show b ∈ ([]:List Addr) from z) (by simp)),I.bs,Nat.le_trans okX.bsz I.sz,(fun b _ _ z=>absurd (show b ∈ ([]:List Addr) from z) (by simp)),(fun b z=>absurd (show b ∈ ([]:List Addr) from z) (by simp)),I.stack,I.stkFree⟩,
  rfl,I.bare,Un.kept k,⟨_,hn,fun i y v h1' h2 h3=>?_⟩,fun y c e=>?_,I.hok.fresh (Nat.le_refl _),fun y c e=>I.freeC y c (hcl y c e),(fun p hp=>absurd (show p ∈ ([]:List (Addr × Obj)) from hp) (by simp)),I.hok.kept k,?_⟩
 ·have hy:scope.names.lookup y = some .cell ∨ scope.names.lookup y = some .free:=hy
  rcases hy with hy | hy
  ·exact absurd rfl (S.nocell _ (PySem.mem_of_lookup hy))
  ·exact hcl2 y (PySem.mem_of_lookup hy)
 ·cases i with
  | zero =>
   have e1:p = y:=Option.some.inj h1'
   have e2:x = v:=Option.some.inj (Option.some.inj h2)
   subst e1 e2
   refine ⟨u,rx,.inl ⟨S.loc,?_⟩⟩
   show List.lookup p [(p,u)] = some u
   rw [List.lookup_cons,beq_self_eq_true]
  | succ j =>
   have h1':(fr.map (·.2))[j]? = some y:=h1'
   have h2:(fr.map fun z=>(σ[z.1]?).join)[j]? = some (some v):=h2
   rw [List.getElem?_map] at h1' h2
   cases e:fr[j]? with
   | none=>rw [e] at h1'; cases h1'
   | some z =>
    rw [e] at h1' h2
    have e1:z.2 = y:=Option.some.inj h1'
    have e2:(σ[z.1]?).join = some v:=Option.some.inj h2
    obtain ⟨hs1,hs2⟩:=S.slot z (List.mem_of_getElem? e)
    rw [e1] at hs1 hs2
    have e3:σ[z.1]? = some (some v):=by
     cases w:σ[z.1]? with
     | none=>rw [w] at e2; cases e2
     | some w'=>rw [w] at e2; exact congrArg some e2
    obtain ⟨mX,hnX,hlX⟩:=I.loc
    have hfr:=S.free (y,.free) (PySem.mem_of_lookup hs2) rfl
    have hvis:Vis X.env.scope y:=hfr.elim (fun z=>.inr (.inl z)) fun z=>.inr (.inr z)
    obtain ⟨w,rw',lk⟩:=hlX z.1 y v hs1 e3 hvis
    refine ⟨w,rw',?_⟩
    rcases lk with ⟨l1,_⟩ | ⟨_,c',l2,l3⟩
    ·have l1:X.env.scope.names.lookup y = some .local:=l1
     rcases hfr with z | z <;> (rw [l1] at z; cases z)
    ·obtain ⟨c2,m1⟩:=hcl2 y (PySem.mem_of_lookup hs2)
     have:=hcl y c2 m1
     rw [l2] at this
     cases this
     obtain ⟨o,ho,hd⟩:=l3
     exact .inr ⟨.inr hs2,c',m1,o,k _ _ ho,hd⟩
 ·obtain ⟨v,o,ho,hd⟩:=I.cell y c (hcl y c e)
  exact ⟨v,o,k _ _ ho,hd⟩
 ·show (some x :: fr.map fun z=>(σ[z.1]?).join).length = (p :: fr.map (·.2)).length
  rw [List.length_cons,List.length_cons,List.length_map,List.length_map]
theorem Z6 {name:Str} {params:Arguments} {body:Expr} {pm ctv:Value} {te:TE} {Qy:V → Prop} (S:LamScope X.N X.env.scope scope p fr) (I:Inv X pins σ H s) (hA:A.frames = some X.stack) (hh:A.handled = none) (hroom:A.depth < recursionLimit)
  (ho:s.heap.get? f = some (PySem.W.kla_obj name q params body scope cl pm c ctv)) (hc:s.heap.CodeRec (.ref c) q)
  (hb:PE (ad7 X q scope cl f c (p :: fr.map (·.2)) A s H) body te)
  (hbind:∀ v:Value,bindArgs (PySem.W.kla_fn name q params body scope cl pm (.ref c) ctv) ⟨[v],[]⟩ = pure [(p,v)])
  (hcl:∀ x c,cl.lookup x = some c → X.env.cells.lookup x = some c) (hcl2:∀ x,(x,NameKind.free) ∈ scope.names → ∃ c,cl.lookup x = some c)
  (rx:i9 x u) (ht:te (M1 x fr σ) H fun y H'=>H' = H ∧ Qy y) :
  wpAny (model X.prog X.w) A (call (.ref f) [u]) (fun r s'=>Inv X pins σ H s' ∧ ∃ y,i9 y r ∧ Qy y) (fun _ _=>False) s:=by
 refine wpAny_call (PySem.W.kla_callFunE hroom ho rfl S.co S.gen rfl hc ?_)
 rw [hbind]
 refine wpAny_pure (wpAny_newFunctionEnv S.nocell (fun y hy=>by rw [List.mem_singleton.mp hy]; exact S.loc) (fun h₁ hns hsb=>⟨(I.nolimit).fresh _ hsb,?_⟩) S.kind)
 have k:∀ b o,s.heap.get? b = some o → h₁.get? b = some o:=fun b o e=>hsb.extBut b o (Nat.ne_of_lt (Heap.lt_size e)) (Heap.get?_push_of_some _ e)
 have J:=ax4 (q:=q) (f:=f) (c:=c) (A:=A) (t':=s.toks + 1) S I hA hh hcl hcl2 k hns rx
 refine PySem.W.kla_codeExpr (wpAny_mono (hb [] _ _ H _ J ht) (fun r s' hs=>?_) fun e s' z=>z.elim)
 obtain ⟨y,H',J',ry,rfl,qy⟩:=hs
 obtain ⟨y2,H2,I2,r2,rfl,q2⟩:=I.after (Q:=fun y' H''=>H'' = H' ∧ Qy y') ⟨y,H',J'.os,J'.bare,J'.base,J'.hok,ry,rfl,qy⟩
 exact ⟨I2,y2,r2,q2⟩
end
def K9 (c:Addr) (q:Str):HO:=.ext fun h=>h.CodeRec (.ref c) q
def W0 (H:Hp) (P:Addr) (pos:Pos) (q:Str) (c:Addr):Prop:=H P = some (.tbl #[rawInt pos.line,rawInt pos.col,.ref c]) ∧ H c = some (K9 c q)
def D3 (H:Hp) (P:Addr) (pos:Pos) (q:Str):Prop:=H P = some (.tbl #[]) ∨ ∃ c,W0 H P pos q c
def Y7 (P:Addr) (H H':Hp):Prop:=∀ b u,b ≠ P → H b = some u → H' b = some u
def D9 (mg:Str → Option Value) (h:Heap):Prop:=∃ bm ob,mg "__builtins__" = some (.ref bm) ∧ bm ≠ builtinsNs ∧ h.get? bm = some ob ∧ ob.cls = .type "module" ∧ ob.dict = some builtinsNs ∧ ob.data = .plain
section
variable {X:Cx} {pins:List (Addr × Obj)} {σ:St} {H:Hp} {s:Shared} {scope:Scope} {pos:Pos} {params:Arguments} {body:Expr} {c0 P:Addr}
theorem al6 {P:Program} {w:World} {H:Hp} {h:Heap} {c:Addr} {q:Str} (x:h.CodeRec (.ref c) q):m9 P w H h c (K9 c q):=by
 obtain ⟨c',o,vs,t,e,g,d,r⟩:=x
 cases e
 refine ⟨⟨c,o,vs,t,rfl,g,d,r⟩,⟨o,g⟩,fun h1 h2 y k=>?_⟩
 obtain ⟨c2,o2,vs2,t2,e2,g2,d2,r2⟩:=y
 cases e2
 exact ⟨c,o2,vs2,t2,rfl,k _ g2,d2,r2⟩
theorem K9.of {P:Program} {w:World} {H:Hp} {h:Heap} {c:Addr} {q:Str} (hok:HOk P w H h) (e:H c = some (K9 c q)):h.CodeRec (.ref c) q:=(hok c _ e).1
set_option maxHeartbeats 4000000 in
theorem Z8 (I:Inv X pins σ H s) (hcode:X.env.code = .ref c0) (hC:PySem.W.codeHdIn X.K c0 P = true) (hB:D9 X.mg X.base) (hT:D3 H P pos (X.env.qual ++ "<lambda>"))
  (hdef:defaultsOf params X.env = ([],[])) (hcf:∀ x,(x,NameKind.free) ∈ scope.names → ∃ c,X.env.cells.lookup x = some c) {Q:Value → Shared → Prop}
  (h:∀ (f c:Addr) (cl:List (Str × Addr)) (pm ctv:Value) (H':Hp) (s':Shared),Y7 P H H' → W0 H' P pos (X.env.qual ++ "<lambda>") c → (∀ x c,cl.lookup x = some c → X.env.cells.lookup x = some c) → (∀ x,(x,NameKind.free) ∈ scope.names → ∃ c,cl.lookup x = some c) →
   Inv X ((f,PySem.W.kla_obj "<lambda>" (X.env.qual ++ "<lambda>") params body scope cl pm c ctv) :: pins) σ H' s' → Q (.ref f) s') :
  wpAny (model X.prog X.w) X.A (eval (.Lambda params body scope pos) X.env) Q X.xe s:=by
 obtain ⟨cl,hcl,hcl1,hcl2⟩:=G6 (scope:=scope) (env:=X.env) hcf
 have C:PySem.W.CodeHd s.heap c0 P:=PySem.W.codeHd_of_K I.kIn hC
 have hgs:s.heap.Ns mainGlobals X.mg:=I.ok.mod.glob.keeps I.bk
 have hPn:H P ≠ none:=by
  rcases hT with e | ⟨c,e,_⟩ <;> rw [e] <;> simp
 have neP:∀ b o,X.base.get? b = some o → b ≠ P:=fun b o e z=>by
  have:=(I.bs b o e).2
  rw [z] at this
  exact hPn this
 have hgP:mainGlobals ≠ P:=by
  obtain ⟨o,es,ep,e,r⟩:=I.ok.mod.glob
  exact neP _ o e
 have hB2:s.heap.BuiltinsAt X.mg P:=by
  obtain ⟨bm,ob,b1,b2,b3,b4,b5,b6⟩:=hB
  refine ⟨bm,ob,b1,b2,fun z=>?_,neP _ _ b3,I.bk _ _ b3,b4,b5,b6⟩
  obtain ⟨o,es,ep,e,hd,_⟩:=I.ok.mod.glob
  rw [z,e] at b3
  cases b3
  rw [hd] at b6
  cases b6
 have nefs:∀ {f:Addr},s.heap.objs.size ≤ f → f ≠ X.env.locals ∧ f ∉ X.fs:=fun hf=>⟨Nat.ne_of_gt (Nat.lt_of_lt_of_le I.lt hf),I.nofs hf⟩
 refine PySem.W.kla_eval hdef ?_
 rcases hT with hP | ⟨c,hP,hc⟩
 ·have gP:s.heap.get? P = some (PySem.W.tabObj #[]):=I.hok P _ hP
  refine PySem.W.kla_makeFunction (mg:=X.mg) (clos:=cl) hcl I.ok.glob hgs hcode C gP trivial rfl hgP hB2 fun c' ctv h' tk hx hge hlt hrec htb=>?_
  rw [Array.empty_append] at htb
  have hc':H c' = none:=I.hok.fresh hge
  have nPc:P ≠ c':=fun z=>by rw [z] at hP; rw [hP] at hc'; cases hc'
  have nb:∀ b u,H b = some u → b ≠ c':=fun b u e z=>by rw [z,hc'] at e; cases e
  have H1P:upd (upd H P (.tbl #[rawInt pos.line,rawInt pos.col,.ref c'])) c' (K9 c' (X.env.qual ++ "<lambda>")) P = some (.tbl #[rawInt pos.line,rawInt pos.col,.ref c']):=by rw [h9 nPc,d9]
  have but:Y7 P H (upd (upd H P (.tbl #[rawInt pos.line,rawInt pos.col,.ref c'])) c' (K9 c' (X.env.qual ++ "<lambda>"))):=fun b u ne e=>by rw [h9 (nb b u e),h9 ne]; exact e
  have J:Inv X pins σ (upd (upd H P (.tbl #[rawInt pos.line,rawInt pos.col,.ref c'])) c' (K9 c' (X.env.qual ++ "<lambda>"))) { s with heap:=h'.push (PySem.W.kla_obj "<lambda>" (X.env.qual ++ "<lambda>") params body scope cl ((X.mg "__name__").getD .none) c' ctv),gens:=s.gens,drawn:=s.drawn,toks:=tk }:=by
   refine I.step (ch:=[]) (fun _ z=>nomatch z) (fun b o _ _ _ e n=>?_) (fun b o _ _ _ e n=>⟨o.slots,?_⟩) (fun b o _ e n=>?_) (fun b o _ e=>?_) (fun b xs e=>?_) (fun b o u e=>?_) (fun b ps e=>?_) (fun m hm=>?_) (fun b u e=>?_) I.bare
   ·exact Heap.get?_push_of_some _ (hx b o (fun z=>hPn (z ▸ n)) e)
   ·exact Heap.get?_push_of_some _ (hx b o (fun z=>hPn (z ▸ n)) e)
   ·have z:b ≠ P:=fun z=>hPn (z ▸ n)
    rw [h9 (Nat.ne_of_lt (Nat.lt_of_lt_of_le (Heap.lt_size e) hge)),h9 z]
    exact n
   ·by_cases z:b = P
    ·rw [z]
     exact ⟨_,Heap.get?_push_of_some _ htb⟩
    ·exact ⟨o,Heap.get?_push_of_some _ (hx b o z e)⟩
   ·exact but b _ (fun z=>by rw [z,hP] at e; cases e) e
   ·exact but b _ (fun z=>by rw [z,hP] at e; cases e) e
   ·by_cases z:b = P
    ·rw [z,hP] at e
     cases e
     rw [z]
     exact ⟨#[rawInt pos.line,rawInt pos.col,.ref c'],by rw [H1P]; simp⟩
    ·exact ⟨#[],by rw [but b _ z e]; simp⟩
   ·obtain ⟨o,es,ep,e,r⟩:=hm
    exact ⟨o,es,ep,Heap.get?_push_of_some _ (hx _ o (fun z=>hPn (by rw [← z]; exact I.free)) e),r⟩
   ·by_cases z:b = c'
    ·subst z
     rw [d9] at e
     cases e
     exact al6 (hrec.push _)
    ·rw [h9 z] at e
     by_cases z2:b = P
     ·subst z2
      rw [d9] at e
      cases e
      exact Heap.get?_push_of_some _ htb
     ·rw [h9 z2] at e
      refine (I.hok b u e).stay (fun c v hc g=>Heap.get?_push_of_some _ (hx c v (fun y=>?_) g)) (fun c hc=>but c _ (fun y=>?_) hc) fun c xs hc=>but c _ (fun y=>?_) hc
      ·subst y
       rcases hc with rfl | hc
       ·exact z2 rfl
       ·rw [hP] at hc; cases hc
      ·rw [y,hP] at hc; cases hc
      ·rw [y,hP] at hc; cases hc
  refine h h'.objs.size c' cl ((X.mg "__name__").getD .none) ctv _ _ but ⟨H1P,d9⟩ hcl1 hcl2 (J.pins_of fun p hp=>?_)
  rcases List.mem_cons.mp hp with rfl | hp
  ·have hsz:s.heap.objs.size ≤ h'.objs.size:=Nat.le_of_lt (Nat.lt_of_le_of_lt hge hlt)
   obtain ⟨n1,n2⟩:=nefs hsz
   refine ⟨Heap.get?_push_size _ rfl,?_,n1,n2,fun v z=>by cases z⟩
   rw [h9 (Nat.ne_of_gt hlt),h9 (fun z=>?_)]
   ·exact I.hok.fresh hsz
   ·have:=Heap.lt_size htb
    rw [← z] at this
    exact absurd this (Nat.lt_irrefl _)
  ·exact J.pin p (List.mem_append_right _ hp)
 ·have gP:s.heap.get? P = some (PySem.W.tabObj #[rawInt pos.line,rawInt pos.col,.ref c]):=I.hok P _ hP
  refine PySem.W.kla_makeFunctionHit (mg:=X.mg) (clos:=cl) (cv:=.ref c) hcl I.ok.glob hgs hcode C gP trivial (by simp [codeAmong,rawInt]) hB2 fun ctv h' tk hk hsz=>?_
  have J:Inv X pins σ H { s with heap:=h'.push (PySem.W.kla_obj "<lambda>" (X.env.qual ++ "<lambda>") params body scope cl ((X.mg "__name__").getD .none) c ctv),toks:=tk }:=I.kept fun b u e=>Heap.get?_push_of_some _ (hk b u e)
  refine h h'.objs.size c cl ((X.mg "__name__").getD .none) ctv H _ (fun b u _ e=>e) ⟨hP,hc⟩ hcl1 hcl2 (J.pins_of fun p hp=>?_)
  rcases List.mem_cons.mp hp with rfl | hp
  ·obtain ⟨n1,n2⟩:=nefs hsz
   exact ⟨Heap.get?_push_size _ rfl,I.hok.fresh hsz,n1,n2,fun v z=>by cases z⟩
  ·exact J.pin p (List.mem_append_right _ hp)
end
end L2
namespace L2
open PySem PySem.Spec PyProof.Rows
theorem Inv.turnF {X:Cx} {pins:List (Addr × Obj)} {σ:St} {H:Hp} {s:Shared} {h':Heap} {t':Nat} {it:Addr} (I:Inv X pins σ H s) (F:D5 X pins H it) (k:∀ b o,b ≠ it → s.heap.get? b = some o → h'.get? b = some o):Inv X pins σ H { s with heap:=h',toks:=t' } :=
 I.turned k F.1 F.2.1 F.2.2.2.1 F.2.2.2.2.1 F.2.2.2.2.2
def A6 (kf:Nat → Int) (n i:Nat):Prop:=∀ j,j < n → kf i ≤ kf j ∧ (j < i → kf i < kf j)
section
variable {X:Cx} {pins:List (Addr × Obj)} {σ:St} {H:Hp} {A:Around} {R:Result → Shared → Prop}
set_option maxHeartbeats 4000000 in
theorem ab1 {l I S f:Addr} {xs:List V} (kf:Nat → Int) (hh:A.handled = none) (hlI:l ≠ I) (hSI:S ≠ I) (fS:D5 X pins H S) (fI:D5 X pins H I) (hl:∀ s,Inv X pins σ H s → ∃ its:List Value,i7 xs its ∧ s.heap.IsList l its.toArray)
  (turn:∀ (pl:List (Addr × Obj)) (i:Nat) (x:V) (v:Value) (s:Shared),xs[i]? = some x → i9 x v → Inv X (pins ++ pl) σ H s → wpAny (model X.prog X.w) A.in1 (call (.ref f) [v]) (fun r s'=>Inv X (pins ++ pl) σ H s' ∧ ∃ t,r = .int (kf i) t) (fun _ _=>False) s)
  (hR:∀ (i:Nat) (x:V) (v:Value) (s':Shared),xs[i]? = some x → i9 x v → A6 kf xs.length i → Inv X pins σ H s' → R (.ok (.ret v)) s') :
  ∀ (r j i:Nat) (s:Shared) (c:Nat) (xb:V) (vb:Value) (tb:Tok),xs.length - j = r → j ≤ xs.length → i < j → Inv X pins σ H s → s.heap.get? S = some (seqObj "list" #[vb,.int (kf i) tb] c) → xs[i]? = some xb → i9 xb vb → A6 kf j i → s.heap.IsListIter I l j →
   codeAny (model X.prog X.w) A (.builtin "min.loop" ⟨[.ref I,.ref f,.ref S],[]⟩) R s:=by
 have nm:(toString "min" ++ toString ".loop":String) = "min.loop":=by decide
 intro r
 induction r with
 | zero =>
  intro j i s c xb vb tb hr hj hij J gS exb rxb ba it
  obtain rfl:j = xs.length:=by lia
  obtain ⟨its,rv,isl⟩:=hl s J
  have ln:=rv.length
  have W:=Walks.list (prog:=X.prog) (w:=X.w) (A:=A.in1) hh I l hlI its.toArray
  have sz:its.toArray.size = xs.length:=by rw [List.size_toArray,ln]
  obtain ⟨hp,gn,dr,tk,os⟩:=s
  refine codeAny_builtin PySem.F.entry_min_loop ?_
  rw [Around.under_plainId PySem.F.plain_min_loop _]
  show wpAny _ A.in1 (seqItems? (.ref S) >>= _) _ _ _
  refine wpAny_bind (wpAny_seqItems gS rfl ?_)
  show wpAny _ A.in1 (tryCatch (pyNext (.ref I)) _ >>= _) _ _ _
  refine wpAny_bind (wpAny_tryCatch (W.done _ _ _ ⟨by rw [sz]; exact it,isl⟩ fun h1 tk1 k1=>?_))
  have J1:Inv X pins σ H ⟨h1,gn,dr,tk1,os⟩:=J.turnF (t':=tk1) fI fun b o nb e=>k1 b o (by rw [List.mem_singleton]; exact nb) e
  have gS1:h1.get? S = some (seqObj "list" #[vb,.int (kf i) tb] c):=k1 S _ (by rw [List.mem_singleton]; exact hSI) gS
  show wpAny _ A.in1 (updateSeq S (fun _=>#[]) >>= _) _ _ _
  refine wpAny_bind (wpAny_updateSeq gS1 rfl (wpAny_bind (wpAny_letGo (wpAny_pure ?_))))
  have sb:=Heap.SameBut.update h1 S (Obj.mapSeq fun _=>(#[]:Array Value))
  exact hR i xb vb _ exb rxb ba (J1.turnF (t':=tk1) fS fun b o nb e=>(sb.2 b nb).trans e)
 | succ r ih =>
  intro j i s c xb vb tb hr hj hij J gS exb rxb ba it
  have hlt:j < xs.length:=by lia
  obtain ⟨its,rv,isl⟩:=hl s J
  have ln:=rv.length
  have W:=Walks.list (prog:=X.prog) (w:=X.w) (A:=A.in1) hh I l hlI its.toArray
  have sz:its.toArray.size = xs.length:=by rw [List.size_toArray,ln]
  obtain ⟨hp,gn,dr,tk,os⟩:=s
  refine codeAny_builtin PySem.F.entry_min_loop ?_
  rw [Around.under_plainId PySem.F.plain_min_loop _]
  show wpAny _ A.in1 (seqItems? (.ref S) >>= _) _ _ _
  refine wpAny_bind (wpAny_seqItems gS rfl ?_)
  show wpAny _ A.in1 (tryCatch (pyNext (.ref I)) _ >>= _) _ _ _
  refine wpAny_bind (wpAny_tryCatch (W.item j _ _ _ (by rw [sz]; exact hlt) ⟨it,isl⟩ fun v h1 tk1 pv st1 k1=>?_))
  have ev:its[j]? = some v:=by simpa using pv
  have ex:xs[j]? = some (xs[j]'hlt):=List.getElem?_eq_getElem _
  have rx:i9 (xs[j]'hlt) v:=by
   obtain ⟨v',w1,w2⟩:=rv.get ex
   rw [ev] at w1
   cases w1
   exact w2
  have J1:Inv X pins σ H ⟨h1,gn,dr,tk1,os⟩:=J.turnF (t':=tk1) fI fun b o nb e=>k1 b o (by rw [List.mem_singleton]; exact nb) e
  have gS1:h1.get? S = some (seqObj "list" #[vb,.int (kf i) tb] c):=k1 S _ (by rw [List.mem_singleton]; exact hSI) gS
  obtain ⟨oI,gI1,cI,dI⟩:=id st1.1
  have J2:=J1.pinned (fp:=[S,I]) (fun b hb=>by
   rcases List.mem_cons.mp hb with rfl | hb
   ·exact fS
   ·rw [List.mem_singleton.mp hb]
    exact fI) (fun b hb=>by
   rcases List.mem_cons.mp hb with rfl | hb
   ·exact ⟨_,gS1,fun v z=>by cases z⟩
   ·rw [List.mem_singleton.mp hb]
    exact ⟨oI,gI1,fun v z=>by rw [dI] at z; cases z⟩)
  show wpAny _ A.in1 (tryCatch (holding [v] (call (.ref f) [v])) _ >>= _) _ _ _
  refine wpAny_bind (wpAny_tryCatch (wpAny_holding (wpAny_mono (turn _ j _ v _ ex rx J2) (fun x s2 he=>?_) fun _ _ z=>z.elim)))
  obtain ⟨J3,t2,rfl⟩:=he
  have gS2:=(J3.pin _ (List.mem_append_right _ (List.mem_append_right _ (o0 (List.mem_cons_self ..) gS1)))).1
  have gI2:=(J3.pin _ (List.mem_append_right _ (List.mem_append_right _ (o0 (List.mem_cons_of_mem _ (List.mem_cons_self ..)) gI1)))).1
  have J4:Inv X pins σ H s2:=J3.unpinned
  have it2:s2.heap.IsListIter I l (j + 1):=⟨oI,gI2,cI,dI⟩
  obtain ⟨hp2,gn2,dr2,tk2,os2⟩:=s2
  show wpAny _ A.in1 (tryCatch (holding [v,.int (kf j) t2] (richCompare .Lt (.int (kf j) t2) (.int (kf i) tb) >>= _)) _ >>= _) _ _ _
  refine wpAny_bind (wpAny_tryCatch (wpAny_holding (wpAny_bind (CmpOf.ints_lt (prog:=X.prog) (w:=X.w) (A:=A.in1) (P:=fun i v=>∃ t,v = .int (kf i) t) kf (fun i v z=>z) j i _ _ _ _ _ ⟨_,rfl⟩ ⟨_,rfl⟩ ?_))))
  refine wpAny_bind (wpAny_holding (wpAny_truthy_bool ?_))
  refine wpAny_bind (wpAny_letGo (wpAny_pure ?_))
  by_cases less:kf j < kf i
  ·simp only [less,decide_true,if_true]
   refine wpAny_bind (wpAny_updateSeq gS2 rfl (wpAny_bind (wpAny_letGo ?_)))
   rw [nm]
   have sb:=Heap.SameBut.update hp2 S (Obj.mapSeq fun _=>#[v,.int (kf j) t2])
   refine wpAny_pure ⟨plainId_quiet PySem.F.plain_min_loop _,ih (j + 1) j _ _ _ v t2 (by lia) (by lia) (Nat.lt_succ_self _) (J4.turnF fS fun b o nb e=>(sb.2 b nb).trans e) (get?_update_seq gS2 _) ex rx (fun j' hj'=>?_) ⟨oI,(sb.2 I (Ne.symm hSI)).trans gI2,cI,dI⟩⟩
   by_cases e:j' = j
   ·subst e
    exact ⟨by lia,fun z=>absurd z (Nat.lt_irrefl _)⟩
   ·have:=(ba j' (by lia)).1
    exact ⟨by lia,fun _=>by lia⟩
  ·simp only [less,decide_false,Bool.false_eq_true,if_false]
   refine wpAny_bind (wpAny_letGo ?_)
   rw [nm]
   refine wpAny_pure ⟨plainId_quiet PySem.F.plain_min_loop _,ih (j + 1) i _ _ xb vb tb (by lia) (by lia) (by lia) J4 gS2 exb rxb (fun j' hj'=>?_) it2⟩
   by_cases e:j' = j
   ·subst e
    exact ⟨by lia,fun z=>by lia⟩
   ·exact ba j' (by lia)
theorem ab0 (a v:Value):argsOk "min" ⟨[a],[(Str.ofString "key",v)]⟩:=by unfold argsOk; kernel_rfl
set_option maxHeartbeats 4000000 in
theorem ax1 {s:Shared} {l f:Addr} {xs:List V} {Q:Value → Shared → Prop} {E:Value → Shared → Prop} (kf:Nat → Int) (hh:A.handled = none) (J:Inv X pins σ H s) (hl:∀ s,Inv X pins σ H s → ∃ its:List Value,i7 xs its ∧ s.heap.IsList l its.toArray) (ne:0 < xs.length)
  (turn:∀ (pl:List (Addr × Obj)) (i:Nat) (x:V) (v:Value) (s:Shared),xs[i]? = some x → i9 x v → Inv X (pins ++ pl) σ H s → wpAny (model X.prog X.w) A.in1 (call (.ref f) [v]) (fun r s'=>Inv X (pins ++ pl) σ H s' ∧ ∃ t,r = .int (kf i) t) (fun _ _=>False) s)
  (hQ:∀ (i:Nat) (x:V) (v:Value) (s':Shared),xs[i]? = some x → i9 x v → A6 kf xs.length i → Inv X pins σ H s' → Q v s') :
  wpAny (model X.prog X.w) A (call (.builtin "min") [.ref l] [(Str.ofString "key",.ref f)]) Q E s:=by
 have nm:(toString "min" ++ toString ".loop":String) = "min.loop":=by decide
 obtain ⟨its0,rv0,hls⟩:=hl s J
 obtain ⟨ol,gl,_⟩:=id hls
 have ll:l < s.heap.objs.size:=Heap.lt_size gl
 refine kmb_tree PySem.F.kind_min PySem.F.plain_min PySem.F.entry_min (ab0 _ _) ?_
 show wpAny _ A.in1 (Builtin.Builtins.bindParams "min" ["key","default"] 0 ⟨[],[(Str.ofString "key",.ref f)]⟩ >>= _) _ _ s
 refine wpAny_bind (wpAny_of_eq (show Builtin.Builtins.bindParams "min" ["key","default"] 0 ⟨[],[(Str.ofString "key",.ref f)]⟩ = pure [some (.ref f),none] from rfl) ?_)
 refine wpAny_bind (wpAny_pure (wpAny_bind (wpAny_pyIter_list hls (wpAny_bind (wpAny_newList ?_ (Nat.zero_le _))))))
 rw [nm]
 have zS:(s.heap.push { cls:=.type "list_iterator",data:=.fields #[.ref l,.int 0 0] }).objs.size = s.heap.objs.size + 1:=size_push' ..
 refine wpAny_pure ⟨plainId_quiet PySem.F.plain_min_loop _,?_⟩
 obtain ⟨hp,gn,dr,tk,os⟩:=s
 have J0:Inv X pins σ H ⟨(hp.push { cls:=.type "list_iterator",data:=.fields #[.ref l,.int 0 0] }).push (seqObj "list" #[] 0),gn,dr,tk,os⟩:=J.kept (t':=tk) fun b u e=>Heap.get?_push_of_some _ (Heap.get?_push_of_some _ e)
 have fI:D5 X pins H hp.objs.size:=J.fpOk (Nat.le_refl _) (J.hok.fresh (Nat.le_refl _))
 have fS:D5 X pins H (hp.push { cls:=.type "list_iterator",data:=.fields #[.ref l,.int 0 0] }).objs.size:=J.fpOk (by rw [zS]; exact Nat.le_succ _) (J.hok.fresh (by rw [zS]; exact Nat.le_succ _))
 have gI:((hp.push { cls:=.type "list_iterator",data:=.fields #[.ref l,.int 0 0] }).push (seqObj "list" #[] 0)).get? hp.objs.size = some { cls:=.type "list_iterator",data:=.fields #[.ref l,.int 0 0] }:=Heap.get?_push_of_some _ (Heap.get?_push_size _ rfl)
 have gS:((hp.push { cls:=.type "list_iterator",data:=.fields #[.ref l,.int 0 0] }).push (seqObj "list" #[] 0)).get? (hp.push { cls:=.type "list_iterator",data:=.fields #[.ref l,.int 0 0] }).objs.size = some (seqObj "list" #[] 0):=Heap.get?_push_size _ rfl
 have hSI:(hp.push { cls:=.type "list_iterator",data:=.fields #[.ref l,.int 0 0] }).objs.size ≠ hp.objs.size:=by rw [zS]; exact Nat.succ_ne_self _
 have hlI:l ≠ hp.objs.size:=Nat.ne_of_lt ll
 generalize (hp.push { cls:=.type "list_iterator",data:=.fields #[.ref l,.int 0 0] }).objs.size = S at fS gS hSI ⊢
 obtain ⟨its,rv,isl⟩:=hl _ J0
 have ln:=rv.length
 have W:=Walks.list (prog:=X.prog) (w:=X.w) (A:=A.in1) hh hp.objs.size l hlI its.toArray
 have sz:its.toArray.size = xs.length:=by rw [List.size_toArray,ln]
 refine codeAny_builtin PySem.F.entry_min_loop ?_
 rw [Around.under_plainId PySem.F.plain_min_loop _]
 show wpAny _ A.in1 (seqItems? (.ref S) >>= _) _ _ _
 refine wpAny_bind (wpAny_seqItems gS rfl ?_)
 show wpAny _ A.in1 (tryCatch (pyNext (.ref hp.objs.size)) _ >>= _) _ _ _
 refine wpAny_bind (wpAny_tryCatch (W.item 0 _ _ _ (by rw [sz]; exact ne) ⟨⟨_,gI,rfl,rfl⟩,isl⟩ fun v h1 tk1 pv st1 k1=>?_))
 have ev:its[0]? = some v:=by simpa using pv
 have ex:xs[0]? = some (xs[0]'ne):=List.getElem?_eq_getElem _
 have rx:i9 (xs[0]'ne) v:=by
  obtain ⟨v',w1,w2⟩:=rv.get ex
  rw [ev] at w1
  cases w1
  exact w2
 have J1:Inv X pins σ H ⟨h1,gn,dr,tk1,os⟩:=J0.turnF (t':=tk1) fI fun b o nb e=>k1 b o (by rw [List.mem_singleton]; exact nb) e
 have gS1:h1.get? S = some (seqObj "list" #[] 0):=k1 S _ (by rw [List.mem_singleton]; exact hSI) gS
 obtain ⟨oI,gI1,cI,dI⟩:=id st1.1
 have J2:=J1.pinned (fp:=[S,hp.objs.size]) (fun b hb=>by
  rcases List.mem_cons.mp hb with rfl | hb
  ·exact fS
  ·rw [List.mem_singleton.mp hb]
   exact fI) (fun b hb=>by
  rcases List.mem_cons.mp hb with rfl | hb
  ·exact ⟨_,gS1,fun v z=>by cases z⟩
  ·rw [List.mem_singleton.mp hb]
   exact ⟨oI,gI1,fun v z=>by rw [dI] at z; cases z⟩)
 show wpAny _ A.in1 (tryCatch (holding [v] (call (.ref f) [v])) _ >>= _) _ _ _
 refine wpAny_bind (wpAny_tryCatch (wpAny_holding (wpAny_mono (turn _ 0 _ v _ ex rx J2) (fun x s2 he=>?_) fun _ _ z=>z.elim)))
 obtain ⟨J3,t2,rfl⟩:=he
 have gS2:=(J3.pin _ (List.mem_append_right _ (List.mem_append_right _ (o0 (List.mem_cons_self ..) gS1)))).1
 have gI2:=(J3.pin _ (List.mem_append_right _ (List.mem_append_right _ (o0 (List.mem_cons_of_mem _ (List.mem_cons_self ..)) gI1)))).1
 have J4:Inv X pins σ H s2:=J3.unpinned
 obtain ⟨hp2,gn2,dr2,tk2,os2⟩:=s2
 show wpAny _ A.in1 (updateSeq S (fun _=>#[v,.int (kf 0) t2]) >>= _) _ _ _
 refine wpAny_bind (wpAny_updateSeq gS2 rfl ?_)
 rw [nm]
 have sb:=Heap.SameBut.update hp2 S (Obj.mapSeq fun _=>#[v,.int (kf 0) t2])
 refine wpAny_pure ⟨plainId_quiet PySem.F.plain_min_loop _,ab1 kf hh hlI hSI fS fI hl turn hQ _ 1 0 _ _ _ v t2 rfl (by lia) (by decide) (J4.turnF fS fun b o nb e=>(sb.2 b nb).trans e) (get?_update_seq gS2 _) ex rx (fun j' hj'=>?_) ⟨oI,(sb.2 _ (Ne.symm hSI)).trans gI2,cI,dI⟩⟩
 obtain rfl:j' = 0:=by lia
 exact ⟨by lia,fun z=>absurd z (Nat.lt_irrefl _)⟩
end
section
variable {X:Cx} {e body:Expr} {t:TA} {te:TE} {pn kp pos lpos:Pos} {params:Arguments} {scope:Scope} {p:Str} {c0 P:Addr} {n:Nat}
def av3 (K:PySem.W.Frag) (P:Addr) (lpos:Pos) (q:Str) (fr:List (Nat × Str)) (t:TA) (te:TE):TE:=fun σ H Q=>t σ H fun vs H1=>∃ (l:Addr) (xs:List V),vs = [.ref l] ∧ xs ≠ [] ∧ D3 H1 P lpos q ∧
 ∀ (H2:Hp) (c:Addr),Y7 P H1 H2 → W0 H2 P lpos q c → SqL K H2 l xs ∧ ∃ kf:Nat → Int,(∀ i x,xs[i]? = some x → te (M1 x fr σ) H2 fun y H'=>H' = H2 ∧ y = .int (kf i)) ∧ ∀ i x,xs[i]? = some x → A6 kf xs.length i → Q x H2
theorem ai6 (K:PySem.W.Frag) (fr:List (Nat × Str)) (hr:Room n X.A) (hc:X.calm = true) (hg:Gl X "min") (hm:X.mg "min" = none) (hcode:X.env.code = .ref c0) (hC:PySem.W.codeHdIn X.K c0 P = true) (hB:D9 X.mg X.base)
  (S:LamScope X.N X.env.scope scope p fr) (ha:PA X [e] t) (hb:∀ (q:Str) (cl:List (Str × Addr)) (f c:Addr) (A:Around) (s:Shared) (H:Hp),PE (ad7 X q scope cl f c (p :: fr.map (·.2)) A s H) body te) (hK:X.K = K:=by rfl)
  (hdef:defaultsOf params X.env = ([],[]):=by rfl) (hbind:∀ (q:Str) (cl:List (Str × Addr)) (pm cv ctv v:Value),bindArgs (PySem.W.kla_fn "<lambda>" q params body scope cl pm cv ctv) ⟨[v],[]⟩ = pure [(p,v)]:=by intros; rfl)
  (he:starEach [e] X.env = (false,eval e X.env) :: starEach [] X.env:=by rfl) (hall:(backToKw pos (keywordEach [⟨some "key",.Lambda params body scope lpos,kp⟩] X.env)).all (·.1.isSome) = true:=by rfl)
  (hks:(backToKw pos (keywordEach [⟨some "key",.Lambda params body scope lpos,kp⟩] X.env)).filterMap (·.1) = [Str.ofString "key"]:=by rfl)
  (hkn:(backToKw pos (keywordEach [⟨some "key",.Lambda params body scope lpos,kp⟩] X.env)).any (·.1.isNone) = false:=by rfl)
  (hpl:(backTo pos (starEach [e] X.env)).any (·.1) = false:=by rfl) :
  PE X (.Call (.Name "min" pn) [e] [⟨some "key",.Lambda params body scope lpos,kp⟩] pos) (av3 K P lpos (X.env.qual ++ "<lambda>") fr t te):=by
 subst hK
 intro pins s σ H Q I h
 refine wpAny_Call_Name_kw (O0 I hg hm boot_min ?_ (by decide) (by decide))
 refine callWith_builtin_kwB hpl hkn ?_
 refine PyProof.Rows.evalArgs_kw2 hall (thn (ha pos pins s σ H _ I h) fun us s1 ⟨vs,H1,I1,r1,q1⟩=>?_) he
 obtain ⟨l,xs,rfl,ne,tab,q2⟩:=q1
 obtain ⟨u,rfl,rx⟩:=F7 r1
 cases rx
 refine kws_cons (Z8 I1 hcode hC hB tab hdef (fun x hx=>I1.ok.has x ?_) fun f c cl pm ctv H2 s2 but has hcl hcl2 I2=>kws_nil ?_)
 ·rcases S.free (x,.free) hx rfl with z | z
  ·exact .inl z
  ·exact .inr z
 rw [hks]
 obtain ⟨hl,kf,hkf,qq⟩:=q2 H2 c but has
 show wpAny _ _ (call (.builtin "min") [.ref l] [(Str.ofString "key",.ref f)]) _ _ _
 refine ax1 (xs:=xs) kf (I2.ok.hd hc) I2 (fun s' J=>by
  obtain ⟨its,rv,pl,hz⟩:=J.list hl
  exact ⟨its,rv,pl.isList⟩) (List.length_pos_iff.mpr ne) (fun pl i x v s3 ex rx J=>?_) fun i x v s3 ex rx best J=>?_
 ·have gf:=(J.pin _ (List.mem_append_right _ (List.mem_append_left _ (List.mem_cons_self ..)))).1
  refine wpAny_mono (Z6 S J (A:=X.A.in1) J.ok.frames (J.ok.hd hc) hr.depth gf (K9.of J.hok has.2) (hb _ _ _ _ _ _ _) (fun v=>hbind _ _ _ _ _ v) hcl hcl2 rx (Qy:=fun y=>y = .int (kf i)) (hkf i _ ex)) (fun r s4 hs=>?_) fun _ _ z=>z
  obtain ⟨J4,y,ry,rfl⟩:=hs
  exact ⟨J4,ry⟩
 ·exact ⟨_,H2,J.pins_of fun p hp=>J.pin p (List.mem_append_right _ (List.mem_cons_of_mem _ hp)),rx,qq i _ ex best⟩
end
def A7 (kf:Nat → Int) (n i:Nat):Prop:=∀ j,j < n → kf i ≥ kf j ∧ (j < i → kf i > kf j)
section
variable {X:Cx} {pins:List (Addr × Obj)} {σ:St} {H:Hp} {A:Around} {R:Result → Shared → Prop}
set_option maxHeartbeats 4000000 in
theorem ab4 {l I S f:Addr} {xs:List V} (kf:Nat → Int) (hh:A.handled = none) (hlI:l ≠ I) (hSI:S ≠ I) (fS:D5 X pins H S) (fI:D5 X pins H I) (hl:∀ s,Inv X pins σ H s → ∃ its:List Value,i7 xs its ∧ s.heap.IsList l its.toArray)
  (turn:∀ (pl:List (Addr × Obj)) (i:Nat) (x:V) (v:Value) (s:Shared),xs[i]? = some x → i9 x v → Inv X (pins ++ pl) σ H s → wpAny (model X.prog X.w) A.in1 (call (.ref f) [v]) (fun r s'=>Inv X (pins ++ pl) σ H s' ∧ ∃ t,r = .int (kf i) t) (fun _ _=>False) s)
  (hR:∀ (i:Nat) (x:V) (v:Value) (s':Shared),xs[i]? = some x → i9 x v → A7 kf xs.length i → Inv X pins σ H s' → R (.ok (.ret v)) s') :
  ∀ (r j i:Nat) (s:Shared) (c:Nat) (xb:V) (vb:Value) (tb:Tok),xs.length - j = r → j ≤ xs.length → i < j → Inv X pins σ H s → s.heap.get? S = some (seqObj "list" #[vb,.int (kf i) tb] c) → xs[i]? = some xb → i9 xb vb → A7 kf j i → s.heap.IsListIter I l j →
   codeAny (model X.prog X.w) A (.builtin "max.loop" ⟨[.ref I,.ref f,.ref S],[]⟩) R s:=by
 have nm:(toString "max" ++ toString ".loop":String) = "max.loop":=by decide
 intro r
 induction r with
 | zero =>
  intro j i s c xb vb tb hr hj hij J gS exb rxb ba it
  obtain rfl:j = xs.length:=by lia
  obtain ⟨its,rv,isl⟩:=hl s J
  have ln:=rv.length
  have W:=Walks.list (prog:=X.prog) (w:=X.w) (A:=A.in1) hh I l hlI its.toArray
  have sz:its.toArray.size = xs.length:=by rw [List.size_toArray,ln]
  obtain ⟨hp,gn,dr,tk,os⟩:=s
  refine codeAny_builtin PySem.F.entry_max_loop ?_
  rw [Around.under_plainId PySem.F.plain_max_loop _]
  show wpAny _ A.in1 (seqItems? (.ref S) >>= _) _ _ _
  refine wpAny_bind (wpAny_seqItems gS rfl ?_)
  show wpAny _ A.in1 (tryCatch (pyNext (.ref I)) _ >>= _) _ _ _
  refine wpAny_bind (wpAny_tryCatch (W.done _ _ _ ⟨by rw [sz]; exact it,isl⟩ fun h1 tk1 k1=>?_))
  have J1:Inv X pins σ H ⟨h1,gn,dr,tk1,os⟩:=J.turnF (t':=tk1) fI fun b o nb e=>k1 b o (by rw [List.mem_singleton]; exact nb) e
  have gS1:h1.get? S = some (seqObj "list" #[vb,.int (kf i) tb] c):=k1 S _ (by rw [List.mem_singleton]; exact hSI) gS
  show wpAny _ A.in1 (updateSeq S (fun _=>#[]) >>= _) _ _ _
  refine wpAny_bind (wpAny_updateSeq gS1 rfl (wpAny_bind (wpAny_letGo (wpAny_pure ?_))))
  have sb:=Heap.SameBut.update h1 S (Obj.mapSeq fun _=>(#[]:Array Value))
  exact hR i xb vb _ exb rxb ba (J1.turnF (t':=tk1) fS fun b o nb e=>(sb.2 b nb).trans e)
 | succ r ih =>
  intro j i s c xb vb tb hr hj hij J gS exb rxb ba it
  have hlt:j < xs.length:=by lia
  obtain ⟨its,rv,isl⟩:=hl s J
  have ln:=rv.length
  have W:=Walks.list (prog:=X.prog) (w:=X.w) (A:=A.in1) hh I l hlI its.toArray
  have sz:its.toArray.size = xs.length:=by rw [List.size_toArray,ln]
  obtain ⟨hp,gn,dr,tk,os⟩:=s
  refine codeAny_builtin PySem.F.entry_max_loop ?_
  rw [Around.under_plainId PySem.F.plain_max_loop _]
  show wpAny _ A.in1 (seqItems? (.ref S) >>= _) _ _ _
  refine wpAny_bind (wpAny_seqItems gS rfl ?_)
  show wpAny _ A.in1 (tryCatch (pyNext (.ref I)) _ >>= _) _ _ _
  refine wpAny_bind (wpAny_tryCatch (W.item j _ _ _ (by rw [sz]; exact hlt) ⟨it,isl⟩ fun v h1 tk1 pv st1 k1=>?_))
  have ev:its[j]? = some v:=by simpa using pv
  have ex:xs[j]? = some (xs[j]'hlt):=List.getElem?_eq_getElem _
  have rx:i9 (xs[j]'hlt) v:=by
   obtain ⟨v',w1,w2⟩:=rv.get ex
   rw [ev] at w1
   cases w1
   exact w2
  have J1:Inv X pins σ H ⟨h1,gn,dr,tk1,os⟩:=J.turnF (t':=tk1) fI fun b o nb e=>k1 b o (by rw [List.mem_singleton]; exact nb) e
  have gS1:h1.get? S = some (seqObj "list" #[vb,.int (kf i) tb] c):=k1 S _ (by rw [List.mem_singleton]; exact hSI) gS
  obtain ⟨oI,gI1,cI,dI⟩:=id st1.1
  have J2:=J1.pinned (fp:=[S,I]) (fun b hb=>by
   rcases List.mem_cons.mp hb with rfl | hb
   ·exact fS
   ·rw [List.mem_singleton.mp hb]
    exact fI) (fun b hb=>by
   rcases List.mem_cons.mp hb with rfl | hb
   ·exact ⟨_,gS1,fun v z=>by cases z⟩
   ·rw [List.mem_singleton.mp hb]
    exact ⟨oI,gI1,fun v z=>by rw [dI] at z; cases z⟩)
  show wpAny _ A.in1 (tryCatch (holding [v] (call (.ref f) [v])) _ >>= _) _ _ _
  refine wpAny_bind (wpAny_tryCatch (wpAny_holding (wpAny_mono (turn _ j _ v _ ex rx J2) (fun x s2 he=>?_) fun _ _ z=>z.elim)))
  obtain ⟨J3,t2,rfl⟩:=he
  have gS2:=(J3.pin _ (List.mem_append_right _ (List.mem_append_right _ (o0 (List.mem_cons_self ..) gS1)))).1
  have gI2:=(J3.pin _ (List.mem_append_right _ (List.mem_append_right _ (o0 (List.mem_cons_of_mem _ (List.mem_cons_self ..)) gI1)))).1
  have J4:Inv X pins σ H s2:=J3.unpinned
  have it2:s2.heap.IsListIter I l (j + 1):=⟨oI,gI2,cI,dI⟩
  obtain ⟨hp2,gn2,dr2,tk2,os2⟩:=s2
  show wpAny _ A.in1 (tryCatch (holding [v,.int (kf j) t2] (richCompare .Gt (.int (kf j) t2) (.int (kf i) tb) >>= _)) _ >>= _) _ _ _
  refine wpAny_bind (wpAny_tryCatch (wpAny_holding (wpAny_bind (CmpOf.ints_gt (prog:=X.prog) (w:=X.w) (A:=A.in1) (P:=fun i v=>∃ t,v = .int (kf i) t) kf (fun i v z=>z) j i _ _ _ _ _ ⟨_,rfl⟩ ⟨_,rfl⟩ ?_))))
  refine wpAny_bind (wpAny_holding (wpAny_truthy_bool ?_))
  refine wpAny_bind (wpAny_letGo (wpAny_pure ?_))
  by_cases less:kf j > kf i
  ·simp only [less,decide_true,if_true]
   refine wpAny_bind (wpAny_updateSeq gS2 rfl (wpAny_bind (wpAny_letGo ?_)))
   rw [nm]
   have sb:=Heap.SameBut.update hp2 S (Obj.mapSeq fun _=>#[v,.int (kf j) t2])
   refine wpAny_pure ⟨plainId_quiet PySem.F.plain_max_loop _,ih (j + 1) j _ _ _ v t2 (by lia) (by lia) (Nat.lt_succ_self _) (J4.turnF fS fun b o nb e=>(sb.2 b nb).trans e) (get?_update_seq gS2 _) ex rx (fun j' hj'=>?_) ⟨oI,(sb.2 I (Ne.symm hSI)).trans gI2,cI,dI⟩⟩
   by_cases e:j' = j
   ·subst e
    exact ⟨by lia,fun z=>absurd z (Nat.lt_irrefl _)⟩
   ·have:=(ba j' (by lia)).1
    exact ⟨by lia,fun _=>by lia⟩
  ·simp only [less,decide_false,Bool.false_eq_true,if_false]
   refine wpAny_bind (wpAny_letGo ?_)
   rw [nm]
   refine wpAny_pure ⟨plainId_quiet PySem.F.plain_max_loop _,ih (j + 1) i _ _ xb vb tb (by lia) (by lia) (by lia) J4 gS2 exb rxb (fun j' hj'=>?_) it2⟩
   by_cases e:j' = j
   ·subst e
    exact ⟨by lia,fun z=>by lia⟩
   ·exact ba j' (by lia)
theorem ac1 (a v:Value):argsOk "max" ⟨[a],[(Str.ofString "key",v)]⟩:=by unfold argsOk; kernel_rfl
set_option maxHeartbeats 4000000 in
theorem av7 {s:Shared} {l f:Addr} {xs:List V} {Q:Value → Shared → Prop} {E:Value → Shared → Prop} (kf:Nat → Int) (hh:A.handled = none) (J:Inv X pins σ H s) (hl:∀ s,Inv X pins σ H s → ∃ its:List Value,i7 xs its ∧ s.heap.IsList l its.toArray) (ne:0 < xs.length)
  (turn:∀ (pl:List (Addr × Obj)) (i:Nat) (x:V) (v:Value) (s:Shared),xs[i]? = some x → i9 x v → Inv X (pins ++ pl) σ H s → wpAny (model X.prog X.w) A.in1 (call (.ref f) [v]) (fun r s'=>Inv X (pins ++ pl) σ H s' ∧ ∃ t,r = .int (kf i) t) (fun _ _=>False) s)
  (hQ:∀ (i:Nat) (x:V) (v:Value) (s':Shared),xs[i]? = some x → i9 x v → A7 kf xs.length i → Inv X pins σ H s' → Q v s') :
  wpAny (model X.prog X.w) A (call (.builtin "max") [.ref l] [(Str.ofString "key",.ref f)]) Q E s:=by
 have nm:(toString "max" ++ toString ".loop":String) = "max.loop":=by decide
 obtain ⟨its0,rv0,hls⟩:=hl s J
 obtain ⟨ol,gl,_⟩:=id hls
 have ll:l < s.heap.objs.size:=Heap.lt_size gl
 refine kmb_tree PySem.F.kind_max PySem.F.plain_max PySem.F.entry_max (ac1 _ _) ?_
 show wpAny _ A.in1 (Builtin.Builtins.bindParams "max" ["key","default"] 0 ⟨[],[(Str.ofString "key",.ref f)]⟩ >>= _) _ _ s
 refine wpAny_bind (wpAny_of_eq (show Builtin.Builtins.bindParams "max" ["key","default"] 0 ⟨[],[(Str.ofString "key",.ref f)]⟩ = pure [some (.ref f),none] from rfl) ?_)
 refine wpAny_bind (wpAny_pure (wpAny_bind (wpAny_pyIter_list hls (wpAny_bind (wpAny_newList ?_ (Nat.zero_le _))))))
 rw [nm]
 have zS:(s.heap.push { cls:=.type "list_iterator",data:=.fields #[.ref l,.int 0 0] }).objs.size = s.heap.objs.size + 1:=size_push' ..
 refine wpAny_pure ⟨plainId_quiet PySem.F.plain_max_loop _,?_⟩
 obtain ⟨hp,gn,dr,tk,os⟩:=s
 have J0:Inv X pins σ H ⟨(hp.push { cls:=.type "list_iterator",data:=.fields #[.ref l,.int 0 0] }).push (seqObj "list" #[] 0),gn,dr,tk,os⟩:=J.kept (t':=tk) fun b u e=>Heap.get?_push_of_some _ (Heap.get?_push_of_some _ e)
 have fI:D5 X pins H hp.objs.size:=J.fpOk (Nat.le_refl _) (J.hok.fresh (Nat.le_refl _))
 have fS:D5 X pins H (hp.push { cls:=.type "list_iterator",data:=.fields #[.ref l,.int 0 0] }).objs.size:=J.fpOk (by rw [zS]; exact Nat.le_succ _) (J.hok.fresh (by rw [zS]; exact Nat.le_succ _))
 have gI:((hp.push { cls:=.type "list_iterator",data:=.fields #[.ref l,.int 0 0] }).push (seqObj "list" #[] 0)).get? hp.objs.size = some { cls:=.type "list_iterator",data:=.fields #[.ref l,.int 0 0] }:=Heap.get?_push_of_some _ (Heap.get?_push_size _ rfl)
 have gS:((hp.push { cls:=.type "list_iterator",data:=.fields #[.ref l,.int 0 0] }).push (seqObj "list" #[] 0)).get? (hp.push { cls:=.type "list_iterator",data:=.fields #[.ref l,.int 0 0] }).objs.size = some (seqObj "list" #[] 0):=Heap.get?_push_size _ rfl
 have hSI:(hp.push { cls:=.type "list_iterator",data:=.fields #[.ref l,.int 0 0] }).objs.size ≠ hp.objs.size:=by rw [zS]; exact Nat.succ_ne_self _
 have hlI:l ≠ hp.objs.size:=Nat.ne_of_lt ll
 generalize (hp.push { cls:=.type "list_iterator",data:=.fields #[.ref l,.int 0 0] }).objs.size = S at fS gS hSI ⊢
 obtain ⟨its,rv,isl⟩:=hl _ J0
 have ln:=rv.length
 have W:=Walks.list (prog:=X.prog) (w:=X.w) (A:=A.in1) hh hp.objs.size l hlI its.toArray
 have sz:its.toArray.size = xs.length:=by rw [List.size_toArray,ln]
 refine codeAny_builtin PySem.F.entry_max_loop ?_
 rw [Around.under_plainId PySem.F.plain_max_loop _]
 show wpAny _ A.in1 (seqItems? (.ref S) >>= _) _ _ _
 refine wpAny_bind (wpAny_seqItems gS rfl ?_)
 show wpAny _ A.in1 (tryCatch (pyNext (.ref hp.objs.size)) _ >>= _) _ _ _
 refine wpAny_bind (wpAny_tryCatch (W.item 0 _ _ _ (by rw [sz]; exact ne) ⟨⟨_,gI,rfl,rfl⟩,isl⟩ fun v h1 tk1 pv st1 k1=>?_))
 have ev:its[0]? = some v:=by simpa using pv
 have ex:xs[0]? = some (xs[0]'ne):=List.getElem?_eq_getElem _
 have rx:i9 (xs[0]'ne) v:=by
  obtain ⟨v',w1,w2⟩:=rv.get ex
  rw [ev] at w1
  cases w1
  exact w2
 have J1:Inv X pins σ H ⟨h1,gn,dr,tk1,os⟩:=J0.turnF (t':=tk1) fI fun b o nb e=>k1 b o (by rw [List.mem_singleton]; exact nb) e
 have gS1:h1.get? S = some (seqObj "list" #[] 0):=k1 S _ (by rw [List.mem_singleton]; exact hSI) gS
 obtain ⟨oI,gI1,cI,dI⟩:=id st1.1
 have J2:=J1.pinned (fp:=[S,hp.objs.size]) (fun b hb=>by
  rcases List.mem_cons.mp hb with rfl | hb
  ·exact fS
  ·rw [List.mem_singleton.mp hb]
   exact fI) (fun b hb=>by
  rcases List.mem_cons.mp hb with rfl | hb
  ·exact ⟨_,gS1,fun v z=>by cases z⟩
  ·rw [List.mem_singleton.mp hb]
   exact ⟨oI,gI1,fun v z=>by rw [dI] at z; cases z⟩)
 show wpAny _ A.in1 (tryCatch (holding [v] (call (.ref f) [v])) _ >>= _) _ _ _
 refine wpAny_bind (wpAny_tryCatch (wpAny_holding (wpAny_mono (turn _ 0 _ v _ ex rx J2) (fun x s2 he=>?_) fun _ _ z=>z.elim)))
 obtain ⟨J3,t2,rfl⟩:=he
 have gS2:=(J3.pin _ (List.mem_append_right _ (List.mem_append_right _ (o0 (List.mem_cons_self ..) gS1)))).1
 have gI2:=(J3.pin _ (List.mem_append_right _ (List.mem_append_right _ (o0 (List.mem_cons_of_mem _ (List.mem_cons_self ..)) gI1)))).1
 have J4:Inv X pins σ H s2:=J3.unpinned
 obtain ⟨hp2,gn2,dr2,tk2,os2⟩:=s2
 show wpAny _ A.in1 (updateSeq S (fun _=>#[v,.int (kf 0) t2]) >>= _) _ _ _
 refine wpAny_bind (wpAny_updateSeq gS2 rfl ?_)
 rw [nm]
 have sb:=Heap.SameBut.update hp2 S (Obj.mapSeq fun _=>#[v,.int (kf 0) t2])
 refine wpAny_pure ⟨plainId_quiet PySem.F.plain_max_loop _,ab4 kf hh hlI hSI fS fI hl turn hQ _ 1 0 _ _ _ v t2 rfl (by lia) (by decide) (J4.turnF fS fun b o nb e=>(sb.2 b nb).trans e) (get?_update_seq gS2 _) ex rx (fun j' hj'=>?_) ⟨oI,(sb.2 _ (Ne.symm hSI)).trans gI2,cI,dI⟩⟩
 obtain rfl:j' = 0:=by lia
 exact ⟨by lia,fun z=>absurd z (Nat.lt_irrefl _)⟩
end
section
variable {X:Cx} {e body:Expr} {t:TA} {te:TE} {pn kp pos lpos:Pos} {params:Arguments} {scope:Scope} {p:Str} {c0 P:Addr} {n:Nat}
def as8 (K:PySem.W.Frag) (P:Addr) (lpos:Pos) (q:Str) (fr:List (Nat × Str)) (t:TA) (te:TE):TE:=fun σ H Q=>t σ H fun vs H1=>∃ (l:Addr) (xs:List V),vs = [.ref l] ∧ xs ≠ [] ∧ D3 H1 P lpos q ∧
 ∀ (H2:Hp) (c:Addr),Y7 P H1 H2 → W0 H2 P lpos q c → SqL K H2 l xs ∧ ∃ kf:Nat → Int,(∀ i x,xs[i]? = some x → te (M1 x fr σ) H2 fun y H'=>H' = H2 ∧ y = .int (kf i)) ∧ ∀ i x,xs[i]? = some x → A7 kf xs.length i → Q x H2
theorem ai9 (K:PySem.W.Frag) (fr:List (Nat × Str)) (hr:Room n X.A) (hc:X.calm = true) (hg:Gl X "max") (hm:X.mg "max" = none) (hcode:X.env.code = .ref c0) (hC:PySem.W.codeHdIn X.K c0 P = true) (hB:D9 X.mg X.base)
  (S:LamScope X.N X.env.scope scope p fr) (ha:PA X [e] t) (hb:∀ (q:Str) (cl:List (Str × Addr)) (f c:Addr) (A:Around) (s:Shared) (H:Hp),PE (ad7 X q scope cl f c (p :: fr.map (·.2)) A s H) body te) (hK:X.K = K:=by rfl)
  (hdef:defaultsOf params X.env = ([],[]):=by rfl) (hbind:∀ (q:Str) (cl:List (Str × Addr)) (pm cv ctv v:Value),bindArgs (PySem.W.kla_fn "<lambda>" q params body scope cl pm cv ctv) ⟨[v],[]⟩ = pure [(p,v)]:=by intros; rfl)
  (he:starEach [e] X.env = (false,eval e X.env) :: starEach [] X.env:=by rfl) (hall:(backToKw pos (keywordEach [⟨some "key",.Lambda params body scope lpos,kp⟩] X.env)).all (·.1.isSome) = true:=by rfl)
  (hks:(backToKw pos (keywordEach [⟨some "key",.Lambda params body scope lpos,kp⟩] X.env)).filterMap (·.1) = [Str.ofString "key"]:=by rfl)
  (hkn:(backToKw pos (keywordEach [⟨some "key",.Lambda params body scope lpos,kp⟩] X.env)).any (·.1.isNone) = false:=by rfl)
  (hpl:(backTo pos (starEach [e] X.env)).any (·.1) = false:=by rfl) :
  PE X (.Call (.Name "max" pn) [e] [⟨some "key",.Lambda params body scope lpos,kp⟩] pos) (as8 K P lpos (X.env.qual ++ "<lambda>") fr t te):=by
 subst hK
 intro pins s σ H Q I h
 refine wpAny_Call_Name_kw (O0 I hg hm boot_max ?_ (by decide) (by decide))
 refine callWith_builtin_kwB hpl hkn ?_
 refine PyProof.Rows.evalArgs_kw2 hall (thn (ha pos pins s σ H _ I h) fun us s1 ⟨vs,H1,I1,r1,q1⟩=>?_) he
 obtain ⟨l,xs,rfl,ne,tab,q2⟩:=q1
 obtain ⟨u,rfl,rx⟩:=F7 r1
 cases rx
 refine kws_cons (Z8 I1 hcode hC hB tab hdef (fun x hx=>I1.ok.has x ?_) fun f c cl pm ctv H2 s2 but has hcl hcl2 I2=>kws_nil ?_)
 ·rcases S.free (x,.free) hx rfl with z | z
  ·exact .inl z
  ·exact .inr z
 rw [hks]
 obtain ⟨hl,kf,hkf,qq⟩:=q2 H2 c but has
 show wpAny _ _ (call (.builtin "max") [.ref l] [(Str.ofString "key",.ref f)]) _ _ _
 refine av7 (xs:=xs) kf (I2.ok.hd hc) I2 (fun s' J=>by
  obtain ⟨its,rv,pl,hz⟩:=J.list hl
  exact ⟨its,rv,pl.isList⟩) (List.length_pos_iff.mpr ne) (fun pl i x v s3 ex rx J=>?_) fun i x v s3 ex rx best J=>?_
 ·have gf:=(J.pin _ (List.mem_append_right _ (List.mem_append_left _ (List.mem_cons_self ..)))).1
  refine wpAny_mono (Z6 S J (A:=X.A.in1) J.ok.frames (J.ok.hd hc) hr.depth gf (K9.of J.hok has.2) (hb _ _ _ _ _ _ _) (fun v=>hbind _ _ _ _ _ v) hcl hcl2 rx (Qy:=fun y=>y = .int (kf i)) (hkf i _ ex)) (fun r s4 hs=>?_) fun _ _ z=>z
  obtain ⟨J4,y,ry,rfl⟩:=hs
  exact ⟨J4,ry⟩
 ·exact ⟨_,H2,J.pins_of fun p hp=>J.pin p (List.mem_append_right _ (List.mem_cons_of_mem _ hp)),rx,qq i _ ex best⟩
end
end L2
namespace L2
open PySem PySem.Spec PyProof.Rows
theorem ar4 {X:Cx} {e:Expr}:PE X e (fun _ _ _=>False):=fun _ _ _ _ _ _ h=>h.elim
structure FnQ (K:PySem.W.Frag) (x qual:Str) (st:Stmt) (f:Addr) (fd:FuncData):Prop where
 ex:∃ (oc:Value) (od:Option Addr) (dV kV doc pm:Value) (an:Option Addr) (cdv ct:Value) (osl:Array (Option Value)),
  fd = PySem.W.fnOf x qual (j3 st) (i8 st) (g6 st) dV kV doc pm an cdv ct ∧ K.lookup f = some ⟨oc,od,.func fd,osl⟩ ∧ PySem.W.codeIn K cdv qual = true
structure DefM (K:PySem.W.Frag) (C:Addr) (m qual:Str) (st:Stmt) (ps:List Str) (dvs:List V) (kb:FuncData → Prop):Prop where
 ex:∃ (f:Addr) (fd:FuncData),FnQ K m qual st f fd ∧ Meth K C m f ∧ kb fd ∧ ∀ j,j ≤ dvs.length → ∃ ds,i7 (dvs.drop j) ds ∧ B4 K fd ps ds
structure CalleeM (P:Program) (w:World) (K:PySem.W.Frag) (mg:Str → Option Value) (base:Heap) (k:Nat) (C:Addr) (m:Str) (ps:List Str) (dvs:List V) (kb:FuncData → Prop) (sp:Sp):Prop where
 ex:∃ (f:Addr) (fd:FuncData),FnOk P w K mg base CX0 k f fd ps sp ∧ Meth K C m f ∧ kb fd ∧ ∀ j,j ≤ dvs.length → ∃ ds,i7 (dvs.drop j) ds ∧ B4 K fd ps ds
abbrev noKw:FuncData → Prop:=fun _=>True
structure Made (K:PySem.W.Frag) (mg:Str → Option Value) (x:Str) (C:Addr):Prop where
 makes:PySem.W.makesIn K C = true
 kp:PySem.W.keepIn K (.ref C) = true
 mg:mg x = some (.ref C)
section
variable {P:Program} {w:World} {K:PySem.W.Frag} {mg:Str → Option Value} {base:Heap}
theorem DefM.ok {C:Addr} {m qual:Str} {st:Stmt} {N ps:List Str} {k:Nat} {dvs:List V} {kb:FuncData → Prop} {sp:Sp} (D:DefM K C m qual st ps dvs kb) (S:FnScope N ps (g6 st)) (len:∀ vs H Q E,sp vs H Q E → vs.length = ps.length)
  (hbody:∀ (f:Addr) (cdv:Value) (A:Around) (outer:List Env) (s:Shared) (H:Hp) (vs:List V) (Q:VK) (E:XK),Room k (A.deeper (envOfC qual (g6 st) s.heap.objs.size f cdv)) → sp vs H Q E →
   ∃ t,PSs (D6 CX0 P w K mg base N qual (g6 st) f cdv A outer s H E).nox (i8 st) t ∧ t { nx:=fun _ H'=>Q .non H',rt:=Q } (B6 N vs) H):CalleeM P w K mg base (k + 1) C m ps dvs kb sp:=by
 obtain ⟨f,fd,⟨oc,od,dV,kV,doc,pm,an,cdv,ct,osl,rfl,lk,hcd⟩,mt,hkb,b⟩:=D.ex
 refine ⟨f,_,ad6 lk hcd S len fun A outer s H vs Q E hr hsp=>?_,mt,hkb,b⟩
 obtain ⟨t,h,q⟩:=hbody f cdv A outer s H vs Q E hr hsp
 exact ⟨t,h.nox,q⟩
end
section
variable {X:Cx} {k n:Nat} {C:Addr} {ps:List Str} {dvs:List V} {kb:FuncData → Prop} {sp:Sp} {x m:Str} {p pos apos kpos:Pos} {e o:Expr} {es:List Expr} {ta te:TE} {t:TA}
theorem am4 {pl:Sem Bool} (c:Cls X.K C) (Z:CalleeM X.prog X.w X.K X.mg X.base k C m ps dvs kb sp) (hr:Room n X.A) (he:PE X o ta) (ha:PA X (e :: es) t) (hk:k ≤ n:=by decide)
  (hst:starEach (e :: es) X.env = (false,eval e X.env) :: starEach es X.env:=by rfl) (hpl:(backTo pos (starEach es X.env)).any (·.1) = false:=by rfl)
  (ht:eval (.Call (.Attribute o m apos) (e :: es) [] pos) X.env = (do
   let ov ← eval o X.env
   standAt apos.atName
   let (f,first) ← holding [ov] (getMethod ov m pl)
   callWith pos f first (backTo pos (starEach (e :: es) X.env)) (backToKw pos (keywordEach [] X.env))):=by rfl) :
  PE X (.Call (.Attribute o m apos) (e :: es) [] pos) (ay9 C m sp [] E0 ta t):=by
 obtain ⟨f,fd,F,mt,hkb,b⟩:=Z.ex
 obtain ⟨ds,hv,hb⟩:=b dvs.length (Nat.le_refl _)
 rw [List.drop_length] at hv
 cases hv
 exact au2 (pl:=pl) he c mt F (hr.mono hk) hb .nil am1 ha hst hpl ht
theorem au3 (K:PySem.W.Frag) {f:Str} (he:PE X e ta) (hK:X.K = K:=by rfl) (hb:attributeBase e f X.env (eval e X.env) = eval e X.env:=by rfl):PE X (.Attribute e f pos) (aH0 K ta f):=hK ▸ aA2 he hb
theorem ae2 {K:PySem.W.Frag} {C D:Addr} (hc:PySem.W.isClsIn K D = true) (ht:PySem.W.typeIn K (.ref D) = some (.type "type")) (hs:PySem.W.subIn K (.ref C) (.ref D) = some true):PySem.W.kitOne K (.ref C) (.ref D) = some true:=by
 unfold PySem.W.kitOne
 split
 ·rfl
 ·show (if ((PySem.W.clsIn K D).isSome && PySem.W.typeIn K (.ref D) == some (.type "type")) = true then PySem.W.subIn K (.ref C) (.ref D) else none) = some true
  rw [if_pos (by rw [show (PySem.W.clsIn K D).isSome = true from hc,ht]; rfl),hs]
end
end L2
namespace L2
open PySem PySem.Spec PyProof.Rows
def Q6 (K:PySem.W.Frag) (ts:List Addr):Bool:=ts.all fun P=>(K.lookup P).isNone && K.any fun p=>PySem.W.codeHdIn K p.1 P
set_option maxHeartbeats 4000000 in
theorem ag1 {P:Program} {w:World} {K:PySem.W.Frag} {mg mb:Str → Option Value} {CX:CXT} {k:Nat} {fa a:Addr} {fd:FuncData} {x:Str} {sp:Sp} {s₁:Shared} {vs:List Value} {ns:List Int} {ts:List Addr}
  (KX:K.In s₁.heap) (hts:∀ P ∈ ts,s₁.heap.get? P = some (PySem.W.tabObj #[])) (htf:Q6 K ts = true) (hbm:D9 mg s₁.heap) (hns:s₁.heap.Ns mainGlobals mg) (hb:s₁.heap.Ns builtinsNs mb) (hbb:∀ x:Str,x ≠ "__name__" → mb x = bootBuiltins x) (hlim:s₁.heap.NoLimit) (hg:s₁.gens = #[])
  (ha:s₁.heap.get? a = some { cls:=.type "list",data:=.seq vs.toArray }) (hi:IntsAre vs ns) (hl:ns.length ≤ sizeLine) (hr:Room k callerA)
  (F:∀ base:Heap,K.In base → base.Ns mainGlobals mg → D9 mg base → FnOk P w K mg base CX k fa fd [x] sp) (hbind:∀ (s:Shared) (u:Value),BindsTo s fd ⟨[u],[]⟩ [(x,u)])
  (hsp:∀ H:Hp,(∀ P ∈ ts,H P = some (.tbl #[])) → SqL K H a (ns.map V.int) → sp [.ref a] H (fun v _=>v = .bl true) fun _ _ _=>False)
  (hCX:∀ H e s',CX [] H s₁ (fun _ _ _=>False) e s' → False) :
  codeAny (model P w) callerA (.call (.ref fa) ⟨[.ref a],[]⟩) (fun r s'=>r = .ok (.ret (.bool true)) ∧ OldK s₁.heap s'.heap ∧ s'.os = s₁.os ∧ AllBare s'.gens) s₁:=by
 have rv:=N5 hi
 have lenV:=hi.length
 have naT:a ∉ ts:=fun z=>by
  have:=hts a z
  rw [ha] at this
  cases this
 have tK:∀ P ∈ ts,K.lookup P = none ∧ ∃ c,PySem.W.codeHdIn K c P = true:=fun P hP=>by
  have:=List.all_eq_true.mp htf P hP
  rw [Bool.and_eq_true] at this
  obtain ⟨p,_,h2⟩:=List.any_eq_true.mp this.2
  exact ⟨by simpa using this.1,p.1,h2⟩
 have core:∀ H:Hp,(∀ P ∈ ts,H P = some (.tbl #[])) → SqL K H a (ns.map V.int) → HOk P w H s₁.heap → (∀ b u,H b = some u → (b = a ∧ ∃ o xs,u = .frz o (.lst xs)) ∨ (b ∈ ts ∧ u = .tbl #[])) → (H a ≠ none → K.lookup a = none) →
   codeAny (model P w) callerA (.call (.ref fa) ⟨[.ref a],[]⟩) (fun r s'=>r = .ok (.ret (.bool true)) ∧ OldK s₁.heap s'.heap ∧ s'.os = s₁.os ∧ AllBare s'.gens) s₁:=by
  intro H hT hS hok hA hK
  have base_of:∀ {b:Addr} {o:Obj},s₁.heap.get? b = some o → H b = none → (S8 s₁.heap H).get? b = some o:=fun e n=>ar2 e n
  have noT:∀ {b:Addr} {o:Obj},s₁.heap.get? b = some o → (∀ vs,o ≠ PySem.W.tabObj vs) → b ≠ a → H b = none:=fun {b o} e d n=>by
   cases q:H b with
   | none=>rfl
   | some u =>
    rcases hA b u q with ⟨e',_⟩ | ⟨hb,_⟩
    ·exact absurd e' n
    ·have:=hts b hb
     rw [e] at this
     exact absurd (Option.some.inj this) (d _)
  have noA:∀ {b:Addr} {o:Obj} {es:Array DictEntry} {ep:Nat},s₁.heap.get? b = some o → o.data = .dict es ep → H b = none:=fun {b o es ep} e d=>by
   refine noT e (fun vs z=>?_) fun z=>?_
   ·rw [z] at d; cases d
   ·rw [z,ha] at e; cases e; cases d
  have nsK:∀ {b:Addr} {m:Str → Option Value},s₁.heap.Ns b m → (S8 s₁.heap H).Ns b m:=fun {b m} ⟨o,es,ep,e,d,r⟩=>⟨o,es,ep,base_of e (noA e d),d,r⟩
  have hKb:K.In (S8 s₁.heap H):=fun b o e=>base_of (KX b o e) (by
   cases q:H b with
   | none=>rfl
   | some u =>
    rcases hA b u q with ⟨e',_⟩ | ⟨hb,_⟩
    ·subst e'
     rw [hK (by rw [q]; simp)] at e; cases e
    ·rw [(tK b hb).1] at e; cases e)
  have hBb:D9 mg (S8 s₁.heap H):=by
   obtain ⟨bm,ob,b1,b2,b3,b4,b5,b6⟩:=hbm
   refine ⟨bm,ob,b1,b2,base_of b3 (noT b3 (fun vs z=>?_) fun z=>?_),b4,b5,b6⟩
   ·rw [z] at b4; cases b4
   ·rw [z,ha] at b3
    cases b3
    have b4:Value.type "list" = Value.type "module":=b4
    injection b4 with b4
    exact absurd b4 (by decide)
  have hM:Mod K mg (S8 s₁.heap H):=⟨hKb,nsK hns,⟨mb,nsK hb,hbb⟩,let ⟨mc,h1,h2⟩:=hlim; ⟨mc,nsK h1,h2⟩⟩
  have e0:Env0 P w K mg (S8 s₁.heap H) callerA [] s₁ H:=⟨rfl,hM,fun b o e=>av5 e,Nat.le_of_eq (aj3 _ _),trivial,fun b hb=>absurd (show b ∈ ([]:List Addr) from hb) (by simp),hok,.of_eq hg⟩
  refine codeAny_mono ((F _ hKb (nsK hns) hBb).run callerA [] s₁ H ⟨[.ref a],[]⟩ [.ref a] [.ref a] _ _ hr e0 (hbind s₁ (.ref a)) (.cons rfl .nil) (hsp H hT hS)) fun r s' h=>?_
  cases r with
  | error e=>exact (hCX H e s' h).elim
  | ok fl =>
   cases fl with
   | next=>exact False.elim h
   | brk=>exact False.elim h
   | cont=>exact False.elim h
   | ret u =>
    obtain ⟨v,H',os,bare,un,hok',r',q⟩:=h
    have q':v = .bl true:=q
    subst q'
    obtain rfl:u = Value.bool true:=r'
    have noF:∀ b:Addr,b ∉ frs []:=fun b z=>absurd (show b ∈ ([]:List Addr) from z) (by simp)
    have at':∀ b o,s₁.heap.get? b = some o → b ∉ ts → s'.heap.get? b = some o:=fun b o e nb=>by
     cases q:H b with
     | none=>exact un.keep b o e q (noF b) (by simp)
     | some u =>
      rcases hA b u q with ⟨_,ob,xs,rfl⟩ | ⟨hb,_⟩
      ·have z2:=un.frzs b ob _ q
       obtain ⟨e1,_⟩:=hok b _ q
       obtain ⟨e2,_⟩:=hok' b _ z2
       rw [e] at e1; cases e1
       exact e2
      ·exact absurd hb nb
    have tb:∀ b ∈ ts,∃ more,s'.heap.get? b = some (PySem.W.tabObj (#[] ++ more)):=fun b hb=>by
     obtain ⟨more,z⟩:=un.tbls b _ (hT b hb)
     exact ⟨more,hok' b _ z⟩
    refine ⟨rfl,⟨fun b o e=>?_,fun b o e=>?_⟩,os,bare⟩
    ·by_cases hb:b ∈ ts
     ·obtain ⟨more,z⟩:=tb b hb
      have e1:=hts b hb
      rw [e] at e1
      cases e1
      obtain ⟨c,hc⟩:=(tK b hb).2
      exact .inr (.inl ⟨((PySem.W.codeHd_of_K KX hc).tab e).isCodeTable,rfl,#[],more,rfl,z⟩)
     ·exact .inl (at' b o e hb)
    ·by_cases hb:b ∈ ts
     ·obtain ⟨more,z⟩:=tb b hb
      exact ⟨_,z⟩
     ·exact ⟨o,at' b o e hb⟩
 cases hk:K.lookup a with
 | some o =>
  have e:=KX a o hk
  rw [ha] at e
  cases e
  refine core (fun b=>if b ∈ ts then some (.tbl #[]) else none) (fun P hP=>if_pos hP) (.inr ⟨_,vs.toArray,_,hk,rfl,rfl,rfl,by rw [List.size_toArray,lenV]; exact hl,by simpa using rv⟩) (fun b u z=>?_) (fun b u z=>?_) fun z=>absurd (if_neg naT) z
  ·by_cases hb:b ∈ ts
   ·have z':=(if_pos hb).symm.trans z
    cases z'
    exact hts b hb
   ·have z':=(if_neg hb).symm.trans z
    cases z'
  ·by_cases hb:b ∈ ts
   ·have z':=(if_pos hb).symm.trans z
    cases z'
    exact .inr ⟨hb,rfl⟩
   ·have z':=(if_neg hb).symm.trans z
    cases z'
 | none =>
  refine core (fun b=>if b ∈ ts then some (.tbl #[]) else if b = a then some (.frz { cls:=.type "list",data:=.seq vs.toArray } (.lst (ns.map V.int))) else none) (fun P hP=>if_pos hP) (.inl (.inr ⟨{ cls:=.type "list",data:=.seq vs.toArray },(if_neg naT).trans (if_pos rfl)⟩)) (fun b u z=>?_) (fun b u z=>?_) fun _=>hk
  ·by_cases hb:b ∈ ts
   ·have z':=(if_pos hb).symm.trans z
    cases z'
    exact hts b hb
   ·have z':=(if_neg hb).symm.trans z
    by_cases hb2:b = a
    ·have z'':=(if_pos hb2).symm.trans z'
     cases z''
     subst hb2
     exact ⟨ha,by rw [List.length_map]; exact hl,vs,_,rv,ha⟩
    ·have z'':=(if_neg hb2).symm.trans z'
     cases z''
  ·by_cases hb:b ∈ ts
   ·have z':=(if_pos hb).symm.trans z
    cases z'
    exact .inr ⟨hb,rfl⟩
   ·have z':=(if_neg hb).symm.trans z
    by_cases hb2:b = a
    ·have z'':=(if_pos hb2).symm.trans z'
     cases z''
     exact .inl ⟨hb2,_,_,rfl⟩
    ·have z'':=(if_neg hb2).symm.trans z'
     cases z''
theorem aq0 {l:PySem.W.OpenLaw} {n k:Nat} {q:Program} {loose:List Str} {XP:(Str → Option Value) → Heap → Prop} {YP:World → Heap → Prop} {d:DefRec} {K:Params → PySem.W.Frag} {CX:World → CXT} {sp:World → Sp} {x:Str} {ts:List Addr}
  (hn:l.most = some n) (hn2:n ≤ sizeLine) (hdf:d.params.defaults = []) (hr:Room k callerA)
  (hY:∀ (w:World) (h:Heap),YP w h → (K w.params).In h) (hYT:∀ (w:World) (h:Heap),YP w h → ∀ P ∈ ts,h.get? P = some (PySem.W.tabObj #[])) (htf:∀ p:Params,Q6 (K p) ts = true)
  (F:∀ (w:World) (mg:Str → Option Value) (fa:Addr) (h:Heap),(K w.params).In h → h.Ns mainGlobals mg → mg d.name = some (.ref fa) →
   ∃ fd:FuncData,(∀ (s:Shared) (u:Value),BindsTo s fd ⟨[u],[]⟩ [(x,u)]) ∧
    ∀ base:Heap,(K w.params).In base → base.Ns mainGlobals mg → D9 mg base → FnOk l.prog w (K w.params) mg base (CX w) k fa fd [x] (sp w))
  (hsp:∀ (w:World) (H:Hp) (a:Addr) (ns:List Int),ns.length ≤ n → (∀ P ∈ ts,H P = some (.tbl #[])) → SqL (K w.params) H a (ns.map V.int) → sp w [.ref a] H (fun v _=>v = .bl true) fun _ _ _=>False)
  (hCX:∀ (w:World) (H:Hp) (s:Shared) (e:Value) (s':Shared),CX w [] H s (fun _ _ _=>False) e s' → False) :
  PySem.W.WalkO q loose XP YP l.row.toRowW d [] (fun f vs=>PySem.call f vs):=by
 refine Att.attach_call hn hdf fun w s₀ s₁ mg mb fa o pm cd doc a vs ns G Y ho hd hcd hmg hobj hints hlen hg=>?_
 have KX:=hY w _ Y
 obtain ⟨fd,hb,hF⟩:=F w mg fa _ KX G.T.g hmg
 exact ag1 KX (hYT w _ Y) (htf _) G.T.bmain G.T.g G.T.b G.T.builtins G.T.nolimit hg hobj hints (Nat.le_trans hlen hn2) hr hF hb (fun H hT hS=>hsp w H a ns hlen hT hS) fun H e s'=>hCX w H s₁ e s'
structure DefMT (K:PySem.W.Frag) (C:Addr) (m qual:Str) (st:Stmt) (ps:List Str) (T:Addr):Prop where
 ex:∃ (f c:Addr) (fd:FuncData),(∃ (oc:Value) (od:Option Addr) (dV kV doc pm:Value) (an:Option Addr) (ct:Value) (osl:Array (Option Value)),
   fd = PySem.W.fnOf m qual (j3 st) (i8 st) (g6 st) dV kV doc pm an (.ref c) ct ∧ K.lookup f = some ⟨oc,od,.func fd,osl⟩ ∧ PySem.W.codeIn K (.ref c) qual = true) ∧ PySem.W.codeHdIn K c T = true ∧ Meth K C m f ∧ B4 K fd ps []
theorem DefMT.ok {P:Program} {w:World} {K:PySem.W.Frag} {mg:Str → Option Value} {base:Heap} {C T:Addr} {m qual:Str} {st:Stmt} {N ps:List Str} {k:Nat} {sp:Sp} (D:DefMT K C m qual st ps T) (S:FnScope N ps (g6 st)) (len:∀ vs H Q E,sp vs H Q E → vs.length = ps.length)
  (hbody:∀ (f c:Addr) (A:Around) (outer:List Env) (s:Shared) (H:Hp) (vs:List V) (Q:VK) (E:XK),PySem.W.codeHdIn K c T = true → Room k (A.deeper (envOfC qual (g6 st) s.heap.objs.size f (.ref c))) → sp vs H Q E →
   ∃ t,PSs (D6 CX0 P w K mg base N qual (g6 st) f (.ref c) A outer s H E).nox (i8 st) t ∧ t { nx:=fun _ H'=>Q .non H',rt:=Q } (B6 N vs) H):CalleeM P w K mg base (k + 1) C m ps [] noKw sp:=by
 obtain ⟨f,c,fd,⟨oc,od,dV,kV,doc,pm,an,ct,osl,rfl,lk,hcd⟩,hc,mt,b⟩:=D.ex
 refine ⟨f,_,ad6 lk hcd S len fun A outer s H vs Q E hr hsp=>?_,mt,trivial,fun j hj=>?_⟩
 ·obtain ⟨t,h,q⟩:=hbody f c A outer s H vs Q E hc hr hsp
  exact ⟨t,h.nox,q⟩
 ·obtain rfl:j = 0:=by simpa using hj
  exact ⟨[],.nil,b⟩
end L2
namespace L2
open PySem
def F8 (K:PySem.W.Frag) (c:Addr):Addr:=match K.lookup c with
 | some ⟨_,_,.fields vs,_⟩=>(match (vs[11]?:Option Value) with | some (.ref P)=>P | _=>0)
 | _=>0
def W9 (K:PySem.W.Frag) (ts:List Addr):Sp:=fun vs H Q _=>∃ (a:Addr) (ns:List Int),vs = [.ref a] ∧ SqL K H a (ns.map V.int) ∧ ns.length ≤ 63 ∧ (∀ P ∈ ts,H P = some (.tbl #[])) ∧ ∀ H',Q (.bl true) H'
end L2
namespace L2
open PySem PySem.Spec PyProof.Rows
theorem av9 {A u:TS} {D:Ends} {σ:St} {H:Hp} (S:St → Hp → Prop) (h1:∀ R:St → Hp → Prop,(∀ σ' H',S σ' H' → R σ' H') → A { D with nx:=R } σ H) (h2:∀ σ' H',S σ' H' → u D σ' H'):aF5 A u D σ H:=h1 (u D) h2
end L2
namespace L2
open PySem PySem.Spec PyProof.Rows
theorem m9.at_ {P:Program} {w:World} {H:Hp} {h:Heap} {a:Addr} {o:HO} (x:m9 P w H h a o):∃ u,h.get? a = some u:=by
 cases o with
 | lst xs=>obtain ⟨_,_,_,_,e⟩:=x; exact ⟨_,e⟩
 | tup xs=>obtain ⟨_,_,_,p⟩:=x; exact ⟨_,p.choose_spec.1⟩
 | dK kvs=>obtain ⟨_,_,_,_,o,_,_,e,_⟩:=x; exact ⟨_,e⟩
 | dT kvs=>obtain ⟨_,_,_,_,o,_,_,e,_⟩:=x; exact ⟨_,e⟩
 | set S n=>obtain ⟨o,_,_,_,e,_⟩:=x; exact ⟨_,e⟩
 | ins C dx fs=>obtain ⟨_,_,_,e,_⟩:=x; exact ⟨_,e⟩
 | own y=>obtain ⟨_,e⟩:=x; exact ⟨_,e⟩
 | xd fs=>obtain ⟨_,⟨_,_,_,e,_⟩,_⟩:=x; exact ⟨_,e⟩
 | rng lo hi=>obtain ⟨_,_,_,e⟩:=x; exact ⟨_,e⟩
 | frz ob u=>obtain ⟨e,_⟩:=x; exact ⟨_,e⟩
 | tbl ps=>exact ⟨_,(show h.get? a = some _ from x)⟩
 | met f y=>exact ⟨_,(show h.get? a = some _ from x)⟩
 | ext φ=>obtain ⟨_,e,_⟩:=x; exact e
structure Fly (fs:List Addr) (H1 H2:Hp) (h1 B h2:Heap):Prop where
 kp:∀ b o,h1.get? b = some o → b ∉ fs → (∃ o',B.get? b = some o') ∧ (H1 b = none → B.get? b = some o)
 sl:∀ b o,h1.get? b = some o → b ∈ fs → ∃ sl,h2.get? b = some { o with slots:=sl }
 free:∀ b o,h1.get? b = some o → H1 b = none → H2 b = none
 tups:∀ b xs,H1 b = some (.tup xs) → H2 b = some (.tup xs)
 frzs:∀ b o u,H1 b = some (.frz o u) → H2 b = some (.frz o u)
 tbls:∀ b ps,H1 b = some (.tbl ps) → ∃ more,H2 b = some (.tbl (ps ++ more))
theorem Fly.un {fs:List Addr} {H1 H2:Hp} {h1 B h2:Heap} (f:Fly fs H1 H2 h1 B h2) (st:B.StaysIn h2):Un fs [] H1 H2 h1 h2 where
 keep:=fun b o e n hb _=>st b o ((f.kp b o e hb).2 n)
 slot:=fun b o e _ hb _=>f.sl b o e hb
 free:=fun b o e n _=>f.free b o e n
 there:=fun b o e _=>by
  by_cases hb:b ∈ fs
  ·obtain ⟨sl,q⟩:=f.sl b o e hb; exact ⟨_,q⟩
  ·obtain ⟨⟨o',q⟩,_⟩:=f.kp b o e hb; exact ⟨o',st _ _ q⟩
 tups:=f.tups
 frzs:=f.frzs
 tbls:=f.tbls
theorem Fly.up {fs:List Addr} {H1 H2:Hp} {h1 B h2 h3:Heap} (f:Fly fs H1 H2 h1 B h2) (up:∀ b ∈ fs,∀ o,h2.get? b = some o → ∃ sl,h3.get? b = some { o with slots:=sl }):Fly fs H1 H2 h1 B h3 :=
 ⟨f.kp,fun b o e hb=>by
  obtain ⟨s1,q1⟩:=f.sl b o e hb
  obtain ⟨s2,q2⟩:=up b hb _ q1
  exact ⟨s2,q2⟩,f.free,f.tups,f.frzs,f.tbls⟩
theorem Fly.after {fs fs':List Addr} {H0 H1 H2:Hp} {h0 h1 B h2:Heap} (u:Un fs [] H0 H1 h0 h1) (f:Fly fs' H1 H2 h1 B h2) (hL:∀ b o,h0.get? b = some o → b ∉ fs → b ∉ fs') (hs:∀ b ∈ fs,b ∈ fs') (hf:∀ b ∈ fs,H0 b = none) :
  Fly fs H0 H2 h0 B h2 where
 kp:=fun b o e hb=>by
  obtain ⟨o1,e1⟩:=u.there b o e (by simp)
  refine ⟨(f.kp b o1 e1 (hL b o e hb)).1,fun n=>?_⟩
  exact (f.kp b o (u.keep b o e n hb (by simp)) (hL b o e hb)).2 (u.free b o e n (by simp))
 sl:=fun b o e hb=>by
  obtain ⟨s1,q1⟩:=u.slot b o e (hf b hb) hb (by simp)
  obtain ⟨s2,q2⟩:=f.sl b _ q1 (hs b hb)
  exact ⟨s2,q2⟩
 free:=fun b o e n=>by
  obtain ⟨o1,e1⟩:=u.there b o e (by simp)
  exact f.free b o1 e1 (u.free b o e n (by simp))
 tups:=fun b xs e=>f.tups b xs (u.tups b xs e)
 frzs:=fun b o x e=>f.frzs b o x (u.frzs b o x e)
 tbls:=fun b ps e=>by
  obtain ⟨m1,e1⟩:=u.tbls b ps e
  obtain ⟨m2,e2⟩:=f.tbls b _ e1
  exact ⟨m1 ++ m2,by rw [e2,Array.append_assoc]⟩
def CXE (P:Program) (w:World):CXT:=fun outer H s E e s'=>∃ (ea C:Addr) (a0:Value) (B:Heap) (H':Hp),
 e = .ref ea ∧ s'.os = s.os ∧ AllBare s'.gens ∧ Heap.FlyingW B outer ea (.ref C) a0 s'.heap ∧ Fly (frs outer) H H' s.heap B s'.heap ∧ HOk P w H' B ∧ E (.ref C) none H'
def aG3 (X:Cx) (E:XK):Prop:=∀ (pins:List (Addr × Obj)) (σ:St) (H:Hp) (s:Shared) (C e:Addr) (h':Heap) (args:List Value),Inv X pins σ H s → Heap.MadeExcOf s.heap h' e (.ref C) args → E (.ref C) none H → X.xe (.ref e) { s with heap:=h' }
def af4 (X:Cx) (E:St → XK):Prop:=∀ (pins:List (Addr × Obj)) (σ:St) (H:Hp) (s:Shared) (e:Value) (s':Shared),Inv X pins σ H s → CXE X.prog X.w X.stack H s (E σ) e s' → X.xe e s'
section
variable {P:Program} {w:World} {K:PySem.W.Frag} {mg:Str → Option Value} {base:Heap} {N:List Str} {qual:Str} {scope:Scope} {f:Addr} {cd:Value} {A:Around} {outer:List Env} {s:Shared} {H:Hp} {E:XK}
theorem ao7 {env:Env} {L:Addr} {l:List Env} (h:env.frame = some L):frs (env :: l) = L :: frs l:=by unfold frs; rw [List.filterMap_cons,h]
theorem ar9:aG3 (D6 (CXE P w) P w K mg base N qual scope f cd A outer s H E) E:=by
 intro pins σ H1 s1 C e h' args I hx hE
 show wpAny _ _ (leaving _ (.ref e)) _ _ _
 have fr:frs (D6 (CXE P w) P w K mg base N qual scope f cd A outer s H E).stack = s.heap.objs.size :: frs outer:=ao7 rfl
 have hin:∀ env ∈ (D6 (CXE P w) P w K mg base N qual scope f cd A outer s H E).stack,∀ a,env.frame = some a → a ∈ frs (D6 (CXE P w) P w K mg base N qual scope f cd A outer s H E).stack:=fun env he b hb=>List.mem_filterMap.mpr ⟨env,he,hb⟩
 have frees:=I.stkFree
 have stk:=I.stack
 refine wpAny_leaves_madeW (base:=PySem.W.hideAll s1.heap (frs (D6 (CXE P w) P w K mg base N qual scope f cd A outer s H E).stack)) (h:=s1.heap) I.ok.frames rfl (fun b o q=>PySem.W.of_hideAll _ q) (PySem.W.funFrames_hide stk hin) hx fun h'' t fl _ _ up=>?_
 have f2:Fly (frs (D6 (CXE P w) P w K mg base N qual scope f cd A outer s H E).stack) H1 H1 s1.heap (PySem.W.hideAll s1.heap (frs (D6 (CXE P w) P w K mg base N qual scope f cd A outer s H E).stack)) h'' :=
  ⟨fun b o e1 hb=>⟨⟨o,PySem.W.hideAll_get _ e1 hb⟩,fun _=>PySem.W.hideAll_get _ e1 hb⟩,fun b o e1 hb=>up b o (hx.keeps b o e1) (by
   obtain ⟨_,o',q,d⟩:=stk.mem hb
   rw [e1] at q; cases q; exact d),fun _ _ _ n=>n,fun _ _ q=>q,fun _ _ _ q=>q,fun _ ps q=>⟨#[],by rw [q]; simp⟩⟩
 refine ⟨e,C,_,_,H1,rfl,I.os,I.bare,fl,f2.after (u:=I.base) (fun b o e1 hb=>?_) (fun b hb=>by rw [fr]; exact List.mem_cons_of_mem _ hb) I.ok.frf,fun b u e1=>?_,hE⟩
 ·rw [fr]
  intro z
  rcases List.mem_cons.mp z with z | z
  ·exact absurd (Heap.lt_size e1) (by rw [z]; exact Nat.lt_irrefl _)
  ·exact hb z
 ·refine (I.hok b u e1).stay (fun c v hc q=>PySem.W.hideAll_get _ q fun hm=>?_) (fun _ q=>q) fun _ _ q=>q
  have hn:=frees c hm
  rcases hc with z | z
  ·rw [z] at hn; rw [e1] at hn; cases hn
  ·rw [z] at hn; cases hn
end
end L2
namespace L2
open PySem PySem.Spec PyProof.Rows
structure CalleeE (P:Program) (w:World) (K:PySem.W.Frag) (mg:Str → Option Value) (base:Heap) (k:Nat) (x:Str) (ps:List Str) (dvs:List V) (sp:Sp):Prop where
 ex:∃ (f:Addr) (fd:FuncData),FnOk P w K mg base (CXE P w) k f fd ps sp ∧ (∀ m,m ≤ dvs.length → ∃ ds,i7 (dvs.drop m) ds ∧ B4 K fd ps ds) ∧ PySem.W.keepIn K (.ref f) = true ∧ mg x = some (.ref f)
section
variable {P:Program} {w:World} {K:PySem.W.Frag} {mg:Str → Option Value} {base:Heap}
theorem Def.okE {x:Str} {st:Stmt} {N ps:List Str} {k:Nat} {sp:Sp} (D:Def K mg x st ps) (S:FnScope N ps (g6 st)) (len:∀ vs H Q E,sp vs H Q E → vs.length = ps.length)
  (hbody:∀ (f:Addr) (cdv:Value) (A:Around) (outer:List Env) (s:Shared) (H:Hp) (vs:List V) (Q:VK) (E:XK),Room k (A.deeper (envOfC x (g6 st) s.heap.objs.size f cdv)) → sp vs H Q E →
   ∃ t,PSs (D6 (CXE P w) P w K mg base N x (g6 st) f cdv A outer s H E) (i8 st) t ∧ t { nx:=fun _ H'=>Q .non H',rt:=Q } (B6 N vs) H):CalleeE P w K mg base (k + 1) x ps [] sp:=by
 obtain ⟨f,fd,⟨⟨oc,od,kV,doc,pm,an,cdv,ct,osl,rfl,lk,hcd⟩,kp⟩,b,m⟩:=D.ex
 refine ⟨f,_,ad6 lk hcd S len fun A outer s H vs Q E hr hsp=>hbody f cdv A outer s H vs Q E hr hsp,fun j hj=>⟨[],?_,b⟩,kp,m⟩
 rw [List.drop_nil]; exact .nil
end
def aB0 (sp:Sp) (dvs:List V) (E:St → XK) (t:TA):TE:=fun σ H Q=>t σ H fun vs H1=>sp (vs ++ dvs) H1 Q (E σ)
section
variable {X:Cx} {k n:Nat} {ps:List Str} {dvs:List V} {sp:Sp} {x:Str} {p pos:Pos} {e:Expr} {es:List Expr} {t:TA} {E:St → XK}
theorem aw8 {f:Addr} {fd:FuncData} {ds:List Value} {pins:List (Addr × Obj)} {σ:St} {H:Hp} {s:Shared} {Q:VK} {us:List Value} {vs:List V} (F:FnOk X.prog X.w X.K X.mg X.base (CXE X.prog X.w) k f fd ps sp) (hr:Room k X.A) (hb:B4 X.K fd ps ds) (hd:i7 dvs ds) (hx:af4 X E)
  (I:Inv X pins σ H s) (r:i7 vs us) (h:sp (vs ++ dvs) H Q (E σ)):wpAny (model X.prog X.w) X.A (call (.ref f) us) (EP X pins σ Q) X.xe s:=by
 have r2:i7 (vs ++ dvs) (us ++ ds):=r.append hd
 have hl:(us ++ ds).length = ps.length:=by rw [← r2.length]; exact F.len _ _ _ _ h
 refine wpAny_call (codeAny_mono (F.run X.A X.stack s H ⟨us,[]⟩ (us ++ ds) (vs ++ dvs) Q (E σ) hr I.env0 (hb s us I.kIn hl) r2 h) fun r s' hq=>?_)
 cases r with
 | error e=>exact hx pins σ H s e s' I hq
 | ok fl =>
  cases fl with
  | ret u=>exact I.after hq
  | next=>exact False.elim hq
  | brk=>exact False.elim hq
  | cont=>exact False.elim hq
theorem V7 (m:Nat) (C:CalleeE X.prog X.w X.K X.mg X.base k x ps dvs sp) (hx:af4 X E) (hr:Room n X.A) (hg:Gl X x) (ha:PA X (e :: es) t) (hm:m ≤ dvs.length:=by decide) (hk:k ≤ n:=by decide) (hdb:(x == ("__debug__":Str)) = false:=by decide)
  (he:starEach (e :: es) X.env = (false,eval e X.env) :: starEach es X.env:=by rfl) (hpl:(backTo pos (starEach es X.env)).any (·.1) = false:=by rfl) :
  PE X (.Call (.Name x p) (e :: es) [] pos) (aB0 sp (dvs.drop m) E t):=by
 obtain ⟨f,fd,F,b,kp,mm⟩:=C.ex
 obtain ⟨ds,hv,hb⟩:=b m hm
 intro pins s σ H Q I h
 refine wpAny_Call_Name_kw (D1 I hg mm ?_ hdb)
 refine PySem.W.callWith_K (h₀:=X.base) I.ok.mod.kin kp (thn (ha pos pins s σ H _ I h) fun us s1 ⟨vs,H1,I1,r,q⟩=>⟨I1.kIn,?_⟩) he hpl
 exact aw8 F (hr.mono hk) hb hv hx I1 r q
end
def aF2:List Value:=[.type "ValueError",.type "Exception",.type "BaseException",.type "object"]
structure ExcC (K:PySem.W.Frag) (mg:Str → Option Value) (x:Str) (C:Addr):Prop where
 mg:mg x = some (.ref C)
 exc:PySem.W.excIn K C aF2 "ValueError.__new__" = true
theorem ExcC.own {K:PySem.W.Frag} {mg:Str → Option Value} {x:Str} {C:Addr} {h:Heap} (M:ExcC K mg x C) (X:K.In h):OwnCls x C aF2 "ValueError.__new__" mg h:=by
 refine ⟨M.mg,?_⟩
 have q:=M.exc
 unfold PySem.W.excIn at q
 split at q
 ·rename_i dd cd sl ho
  split at q
  ·rename_i C' bm k0 k1 k2 k3 n k5 hm hs
   simp only [Bool.and_eq_true,beq_iff_eq,Bool.not_eq_true'] at q
   obtain ⟨⟨⟨⟨⟨rfl,rfl⟩,hdel⟩,ht⟩,hok⟩,hni⟩:=q
   obtain ⟨nm,bs,mro,ns,qn,hd,sn,sub,ab,col,del⟩:=cd
   dsimp only at hm hdel hok hni
   subst hm hdel
   have hsl:sl = #[k0,k1,k2,k3,some (.builtin "ValueError.__new__"),k5]:=by
    obtain ⟨l⟩:=sl
    simp only at hs
    rw [hs]
   subst hsl
   exact ⟨bm,ns,nm,qn,bs,hd,sn,sub,ab,col,dd,k0,k1,k2,k3,k5,_,X _ _ ho,.of_isNs (PySem.W.isNs_of_in X hok),PySem.W.nsMap_none_of_in X hok hni,PySem.W.tail_of_in X ht⟩
  ·cases q
 ·cases q
section
variable {X:Cx} {C:Addr} {x:Str} {E:XK} {np cpos pos:Pos} {e:Expr} {ta:TE}
def aC4 (C:Addr) (E:XK) (ta:TE):TS:=fun _ σ H=>ta σ H fun _ H1=>E (.ref C) none H1
theorem aq6 (hl:aG3 X E) (M:ExcC X.K X.mg x C) (hh:X.A.handled = none) (hg:Gl X x) (ha:PE X e ta) (hdb:(x == ("__debug__":Str)) = false:=by decide)
  (he:starEach [e] X.env = (false,eval e X.env) :: starEach [] X.env:=by rfl):PS X (.Raise (some (.Call (.Name x np) [e] [] cpos)) none pos) (aC4 C E ta):=by
 intro pins s σ H D I h
 obtain ⟨tl,N,nm,q,bs,hdct,sn,sub,ab,col,dd,k0,k1,k2,k3,k5,mN,hC,hN,hni,T⟩:=(M.own I.ok.mod.kin).obj
 refine wpAny_Raise_call_subT (C:=C) (nm:=nm) (q:=q) (N:=N) (bs:=bs) (bm:=tl) (hdct:=hdct) (sn:=sn) (sub:=sub) (ab:=ab) (col:=col) (dd:=dd) (k0:=k0) (k1:=k1) (k2:=k2) (k3:=k3) (k5:=k5)
  PySem.F.excBase_ValueError (mN:=mN) (T.hasType PySem.F.excBase_ValueError.hasBase) hh (by rw [he]; rfl) hni (D1 I hg M.mg ⟨rfl,?_⟩ hdb)
 rw [he]
 refine Calls.evalArgs_plain ?_
 show wpAny _ _ (spliced ((false,eval e X.env) :: backTo cpos (starEach [] X.env))) _ _ s
 refine Calls.spliced_cons (thn (ha pins s σ H _ I h) fun u s2 ⟨v,H2,I2,r,q⟩=>?_)
 have hk:=I2.bk
 exact Calls.spliced_nil ⟨rfl,(by show 1 ≤ sizeLine; decide),hk _ _ hC,hN.keeps hk,T.keeps hk,fun h' e' hm=>hl pins σ H2 s2 C e' h' _ I2 hm q⟩
end
end L2
namespace L2
open PySem PySem.Spec PyProof.Rows
def S3 (ea C:Addr):HO:=.ext fun h=>∃ o vs,h.get? ea = some o ∧ o.cls = .ref C ∧ o.data = .fields vs
abbrev Cx.pinned (X:Cx) (pn:List (Addr × Obj)):Cx:={ X with pn:=pn }
def xeT (X:Cx) (pn:List (Addr × Obj)) (E:St → XK):Value → Shared → Prop:=fun e s'=>∃ (pins:List (Addr × Obj)) (σ:St) (H:Hp) (s1:Shared),Inv (X.pinned pn) pins σ H s1 ∧ CXE X.prog X.w X.stack H s1 (E σ) e s'
abbrev tcx (X:Cx) (pn:List (Addr × Obj)) (E:St → XK):Cx:=(X.pinned pn).wish (xeT X pn E)
abbrev hcx (X:Cx) (ea:Addr):Cx:={ X with A:=X.A.mark (some (.ref ea)),calm:=false,xe:=fun _ _=>False }
section
variable {X:Cx} {pins:List (Addr × Obj)} {σ:St} {H:Hp} {s:Shared}
theorem ao5 {pn:List (Addr × Obj)} {E:St → XK}:af4 (tcx X pn E) E:=fun pins σ H s _ _ I c=>⟨pins,σ,H,s,I.unwish,c⟩
theorem Inv.toPinned (I:Inv X pins σ H s):Inv (X.pinned (X.pn ++ pins)) [] σ H s :=
 ⟨⟨I.ok.mod,I.ok.kind,I.ok.glob,I.ok.blt,I.ok.above,I.ok.inj,I.ok.has,I.ok.cab,I.ok.hd,I.ok.frames,I.ok.stk,I.ok.exf,I.ok.bs,I.ok.bsz,I.ok.noex,I.ok.exfs,I.ok.funs,I.ok.frf⟩,I.os,I.bare,I.base,I.loc,I.cell,I.free,I.freeC,fun p hp=>I.pin p (by rw [List.append_nil] at hp; exact hp),I.hok,I.len⟩
theorem Inv.ofPinned {ps:List (Addr × Obj)} (I:Inv (X.pinned (X.pn ++ pins)) ps σ H s):Inv X pins σ H s :=
 ⟨⟨I.ok.mod,I.ok.kind,I.ok.glob,I.ok.blt,I.ok.above,I.ok.inj,I.ok.has,I.ok.cab,I.ok.hd,I.ok.frames,I.ok.stk,I.ok.exf,I.ok.bs,I.ok.bsz,I.ok.noex,I.ok.exfs,I.ok.funs,I.ok.frf⟩,I.os,I.bare,I.base,I.loc,I.cell,I.free,I.freeC,fun p hp=>I.pin p (List.mem_append_left _ hp),I.hok,I.len⟩
theorem Inv.toH (I:Inv X pins σ H s) (ea:Addr):Inv (hcx X ea) pins σ H s :=
 ⟨⟨I.ok.mod,I.ok.kind,I.ok.glob,I.ok.blt,I.ok.above,I.ok.inj,I.ok.has,I.ok.cab,(fun z=>nomatch z),I.ok.frames,I.ok.stk,I.ok.exf,I.ok.bs,I.ok.bsz,I.ok.noex,I.ok.exfs,I.ok.funs,I.ok.frf⟩,I.os,I.bare,I.base,I.loc,I.cell,I.free,I.freeC,I.pin,I.hok,I.len⟩
theorem Inv.ofH {ea:Addr} (ok:X.Ok) (I:Inv (hcx X ea) pins σ H s):Inv X pins σ H s :=
 ⟨ok,I.os,I.bare,I.base,I.loc,I.cell,I.free,I.freeC,I.pin,I.hok,I.len⟩
theorem P3 {M:Model} {A:Around} {E:Value → Shared → Prop} {i:Nat} {n:Str} {pos:Pos} {Q:Unit → Shared → Prop} (I:Inv X pins σ H s) (hN:X.N.Nodup) (hi:X.N[i]? = some n) (hl:X.env.scope.names.lookup n = some .local)
  (h:∀ s',Inv X pins (σ.set i none) H s' → Q () s'):wpAny M A (do bindName X.env n .none; unbindBehindTheSuite X.env n pos) Q E s:=by
 obtain ⟨m,hn,hlm⟩:=id I.loc
 have hcls:(X.env.scope.kind == .class || (X.env.scope.kind == .module && X.env.locals != X.env.globals)) = false:=by rw [I.ok.kind]; rfl
 have cne:=I.cne
 obtain ⟨oL,_,_,hoL,_⟩:=id hn
 have iσ:i < σ.length:=by rw [I.len]; exact (List.getElem?_eq_some_iff.mp hi).1
 refine wpAny_nameGoes_keeps hl hn hcls fun h' v hn' hs=>?_
 refine h _ ⟨I.ok,I.os,I.bare,⟨fun b o e n hb hx=>?_,fun b o e n hb hx=>?_,I.base.free,fun b o e hx=>?_,I.base.tups,I.base.frzs,I.base.tbls⟩,⟨_,hn',fun j y v' e1 e2 e3=>?_⟩,fun y c e=>?_,I.free,I.freeC,fun p hp=>?_,fun b ob e=>?_,by simpa using I.len⟩
 ·exact (hs.2 b (Nat.ne_of_lt (Nat.lt_of_lt_of_le (Heap.lt_size e) I.ok.above))).trans (I.base.keep b o e n hb hx)
 ·obtain ⟨sl,e1⟩:=I.base.slot b o e n hb hx
  exact ⟨sl,(hs.2 b (Nat.ne_of_lt (Nat.lt_of_lt_of_le (Heap.lt_size e) I.ok.above))).trans e1⟩
 ·obtain ⟨o',e1⟩:=I.base.there b o e hx
  exact ⟨o',(hs.2 b (Nat.ne_of_lt (Nat.lt_of_lt_of_le (Heap.lt_size e) I.ok.above))).trans e1⟩
 ·by_cases hj:j = i
  ·subst hj
   rw [List.getElem?_set_self iσ] at e2
   cases e2
  ·rw [List.getElem?_set_ne (Ne.symm hj)] at e2
   obtain ⟨u',r',q⟩:=hlm j y v' e1 e2 e3
   refine ⟨u',r',?_⟩
   rcases q with ⟨k,e⟩ | ⟨k,c,e,z⟩
   ·refine .inl ⟨k,?_⟩
    have:y ≠ n:=fun e=>hj (R4 hN e1 (e ▸ hi))
    simp [this,e]
   ·exact .inr ⟨k,c,e,z.sameBut hs (cne y c e)⟩
 ·obtain ⟨w',z⟩:=I.cell y c e
  exact ⟨w',z.sameBut hs (cne y c e)⟩
 ·obtain ⟨e,n,ne,nf,d⟩:=I.pin p hp
  exact ⟨(hs.2 p.1 ne).trans e,n,ne,nf,d⟩
 ·refine (I.hok b ob e).stay (fun c w' hc q=>(hs.2 c ?_).trans q) (fun _ q=>q) fun _ _ q=>q
  rintro rfl
  have fr:=I.free
  rcases hc with rfl | hc
  ·rw [fr] at e; cases e
  ·rw [fr] at hc; cases hc
end
section
variable {X:Cx}
def Ends.gone (D:Ends) (i:Nat):Ends:={ nx:=fun σ H=>D.nx (σ.set i none) H,rt:=D.rt,bk:=fun σ H=>D.bk (σ.set i none) H,ct:=fun σ H=>D.ct (σ.set i none) H }
def aK4 (K:PySem.W.Frag) (c:Value) (i:Nat) (tb:(St → XK) → TS) (th:TS):TS:=fun D σ H=>∃ E:St → XK,tb E D σ H ∧ ∀ σ' c0 d H',E σ' c0 d H' → σ'.length = σ.length ∧ PySem.W.exmOne K c0 c = some true ∧
 ∀ (ea C:Addr),c0 = .ref C → H' ea = none → th (D.gone i) (σ'.set i (some (.ref ea))) (upd H' ea (S3 ea C))
theorem aE2 {x n:Str} {c:Value} {i:Nat} {body:List Stmt} {b₀:Stmt} {suite:List Stmt} {np hpos pos:Pos} {tb:(St → XK) → TS} {th:TS} (hg:Gl X x) (hm:X.mg x = some c) (hN:X.N.Nodup) (hi:X.N[i]? = some n)
  (hl:X.env.scope.names.lookup n = some .local) (hst:X.stack = X.env :: X.outer) (hf:X.env.frame = some X.env.locals) (hx0:X.ex = [])
  (hb:∀ (pn:List (Addr × Obj)) (E:St → XK),PSs (tcx X pn E) body (tb E)) (hs:∀ ea,PSs (hcx X ea) (b₀ :: suite) th) (hdb:(x == ("__debug__":Str)) = false:=by decide) :
  PS X (.Try body [.ExceptHandler (some (.Name x np)) (some n) (b₀ :: suite) hpos] [] [] pos) (aK4 X.K c i tb th):=by
 intro pins s σ H D I h
 obtain ⟨E,h1,h2⟩:=h
 have lenσ:=I.len
 refine wpAny_Try_except ?_
 refine wpAny_mono (hb (X.pn ++ pins) E [] s σ H D (I.toPinned.wish _) h1) (fun fl s1 q=>?_) (fun e s1 q=>?_)
 ·cases fl with
  | next=>obtain ⟨σ',H',J,q⟩:=q; exact wpAny_execs_nil ⟨σ',H',J.unwish.ofPinned,q⟩
  | brk=>obtain ⟨σ',H',J,q⟩:=q; exact ⟨σ',H',J.unwish.ofPinned,q⟩
  | cont=>obtain ⟨σ',H',J,q⟩:=q; exact ⟨σ',H',J.unwish.ofPinned,q⟩
  | ret u=>obtain ⟨v,σ',H',J,r,q⟩:=q; exact ⟨v,σ',H',J.unwish.ofPinned,r,q⟩
 ·obtain ⟨ps,σ1,H1,s0,J0,ea,C,a0,B,H2,rfl,os,bare,fl,fy,hok,hE⟩:=q
  have J1:Inv X pins σ1 H1 s0:=J0.ofPinned
  obtain ⟨lσ,hex,hth⟩:=h2 σ1 _ _ H2 hE
  have he2:H2 ea = none:=by
   cases q:H2 ea with
   | none=>rfl
   | some o=>obtain ⟨u,e⟩:=(hok ea o q).at_; rw [fl.2.1] at e; cases e
  have hframes:X.A.frames = some (X.env :: X.outer):=hst ▸ I.ok.frames
  have flup:∀ {h3:Heap},s1.heap.UpToSlots h3 → Fly (frs X.stack) H1 H2 s0.heap B h3:=fun {h3} up=>fy.up fun b hb o e1=>up b o e1 (by
   obtain ⟨_,o',q,d⟩:=fl.2.2.1.mem hb
   rw [e1] at q; cases q; exact d)
  have inv:∀ {h3:Heap} {t:Nat},s1.heap.UpToSlots h3 → B.StaysIn h3 → Inv X pins σ1 H2 { s1 with heap:=h3,toks:=t }:=fun {h3 t} up st =>
   J1.call' (s':={ s1 with heap:=h3,toks:=t }) (ch:=[]) os ((flup up).un st) (hok.kept st) bare (fun _ z=>nomatch z)
  refine wpAny_looks_onW hframes hf (hst ▸ fl) fun h4 held up4=>?_
  refine wpAny_landsW held fun h5 fl5 up5=>?_
  have up45:=up4.trans up5
  have I5:Inv X pins σ1 H2 { s1 with heap:=h5 }:=inv (t:=s1.toks) up45 fl5.1
  obtain ⟨ob,hob,hobc⟩:=fl5.there
  refine wpAny_handleBy_cons (codeAny_handlers_test (D1 (X:=hcx X ea) (I5.toH ea) hg hm ?_ hdb)) (by intro q; cases q)
  have LT:PySem.W.Looks (model X.prog X.w) h5 (typeOf (.ref ea)) (.ref C):=hobc ▸ (PySem.W.Looks.ld hob).andThen .now
  refine (PySem.W.exm_one (M:=model X.prog X.w) (K:=X.K) (h:=h5) I5.kIn LT hex).here ?_
  refine codeAny_handlers_suite_as ?_
  refine lands_againW fl5 fun h6 fl6 up6=>?_
  have I6:Inv X pins σ1 H2 { s1 with heap:=h6 }:=inv (t:=s1.toks) (up45.trans up6) fl6.1
  obtain ⟨oe,ws,hoe,hoec,hoed,_⟩:=fl6.first
  have new:m9 X.prog X.w (upd H2 ea (S3 ea C)) h6 ea (S3 ea C):=⟨⟨oe,ws,hoe,hoec,hoed⟩,⟨oe,hoe⟩,fun g1 g2 ⟨o,vs,e1,e2,e3⟩ k=>⟨o,vs,k _ e1,e2,e3⟩⟩
  have none0:X.s₀.heap.get? ea = none:=by
   cases q:X.s₀.heap.get? ea with
   | none=>rfl
   | some o =>
    exfalso
    have hx:ea ∉ X.ex:=by rw [hx0]; simp
    obtain ⟨o1,e1⟩:=J1.base.there ea o q hx
    by_cases hb:ea ∈ frs X.stack
    ·obtain ⟨_,o',q',d⟩:=fl6.2.2.1.mem (hst ▸ hb)
     rw [hoe] at q'; cases q'; exact d _ hoed
    ·obtain ⟨⟨o',q'⟩,_⟩:=fy.kp ea o1 e1 hb
     rw [fl.2.1] at q'; cases q'
  have ne:∀ {b:Addr} {u:HO},H2 b = some u → b ≠ ea:=fun {b u} e z=>by rw [z,he2] at e; cases e
  have nL:X.env.locals ≠ ea:=fun z=>by
   obtain ⟨m,⟨o,es,ep,ho,hd,_⟩,_⟩:=I6.loc
   rw [z] at ho
   have ho2:h6.get? ea = some o:=ho
   rw [hoe] at ho2; cases ho2; rw [hoed] at hd; cases hd
  have I7:Inv X pins σ1 (upd H2 ea (S3 ea C)) { s1 with heap:=h6 }:=by
   refine ⟨I6.ok,I6.os,I6.bare,⟨I6.base.keep,I6.base.slot,fun b o e n hx=>?_,I6.base.there,fun b xs e=>?_,fun b o u e=>?_,fun b ps e=>?_⟩,I6.loc,I6.cell,?_,fun y c e=>?_,fun p hp=>?_,fun b u e=>?_,I6.len⟩
   ·rw [h9 (fun z=>by rw [z,none0] at e; cases e)]; exact I6.base.free b o e n hx
   ·have q:=I6.base.tups b xs e; rw [h9 (ne q)]; exact q
   ·have q:=I6.base.frzs b o u e; rw [h9 (ne q)]; exact q
   ·obtain ⟨m,q⟩:=I6.base.tbls b ps e; exact ⟨m,by rw [h9 (ne q)]; exact q⟩
   ·rw [h9 nL]; exact I6.free
   ·have nC:c ≠ ea:=fun z=>by
     obtain ⟨v,o,ho,hd⟩:=I6.cell y c e
     rw [z] at ho
     have ho2:h6.get? ea = some o:=ho
     rw [hoe] at ho2; cases ho2; rw [hoed] at hd; cases hd
    rw [h9 nC]; exact I6.freeC y c e
   ·obtain ⟨e,n,ne1,nf,d⟩:=I6.pin p hp
    obtain ⟨e0,n0,_,_,_⟩:=J1.pin p hp
    have np:p.1 ≠ ea:=fun z=>by
     have hb:p.1 ∉ frs X.stack:=fun hm=>(List.mem_cons.mp (J1.stkSub _ hm)).elim ne1 nf
     have q:=(fy.kp p.1 p.2 e0 hb).2 n0
     rw [z,fl.2.1] at q; cases q
    exact ⟨e,by rw [h9 np]; exact n,ne1,nf,d⟩
   ·by_cases hb:b = ea
    ·subst hb; rw [d9] at e; cases e; exact new
    ·rw [h9 hb] at e
     exact (I6.hok b u e).stay (fun c v _ q=>q) (fun c q=>by rw [h9 (ne q)]; exact q) fun c xs q=>by rw [h9 (ne q)]; exact q
  refine Q8 (X:=hcx X ea) (I7.toH ea) hN hi (.inl hl) (v:=.ref ea) rfl (fun s7 I8=>?_) (.inr hl)
  refine wpAny_mono (hs ea pins s7 _ _ (D.gone i) I8 (hth ea C rfl he2)) (fun fl8 s8 q8=>?_) fun _ _ z=>z.elim
  cases fl8 with
  | next =>
   obtain ⟨σ',H',J,q⟩:=q8
   exact P3 (J.ofH I.ok) hN hi hl fun s9 J9=>⟨_,H',J9,q⟩
  | brk =>
   obtain ⟨σ',H',J,q⟩:=q8
   exact P3 (J.ofH I.ok) hN hi hl fun s9 J9=>⟨_,H',J9,q⟩
  | cont =>
   obtain ⟨σ',H',J,q⟩:=q8
   exact P3 (J.ofH I.ok) hN hi hl fun s9 J9=>⟨_,H',J9,q⟩
  | ret u =>
   obtain ⟨v,σ',H',J,r,q⟩:=q8
   exact P3 (J.ofH I.ok) hN hi hl fun s9 J9=>⟨v,_,H',J9,r,q⟩
end
end L2
namespace L2
open PySem PySem.Spec PyProof.Rows
open PySem.W (Looks)
open PySem.Builtin PySem.Builtin.ObjectAttr PySem.Builtin.Getset_descriptor
structure ExcX (K:PySem.W.Frag) (C:Addr):Prop where
 ga:PySem.W.findIn K (.ref C) "__getattribute__" = some (some (.builtin "BaseException.__getattribute__"))
 gn:PySem.W.findIn K (.ref C) "__getattr__" = some none
 cl:PySem.W.findIn K (.ref C) "__class__" = some (some (.builtin "object.__class__"))
 gt:PySem.W.specialIn K (.builtin "object.__class__") "__get__" = some (some (.builtin "getset_descriptor.__get__"))
 tk:PySem.W.takesIn K (.builtin "object.__class__") = some true
 mo:PySem.W.mroIn K C (.type "object") = some true
 mb:PySem.W.mroIn K C (.type "BaseException") = some true
 cs:(PySem.W.clsIn K C).isSome = true
section
variable {prog:Program} {w:World} {A:Around} {E:Value → Shared → Prop} {s:Shared} {K:PySem.W.Frag} {x C:Addr}
theorem aq9 {M:Model} {h:Heap} (X:K.In h) (Z:ExcX K C):Looks M h (find (.ref x) (.ref C) "__class__") (.bind (.builtin "getset_descriptor.__get__") (.builtin "object.__class__")):=by
 have L1:=PySem.W.looks_findIn (M:=M) X Z.cl
 have L2:Looks M h (getOf (some (.builtin "object.__class__"))) (some (.builtin "getset_descriptor.__get__")):=PySem.W.looks_specialIn X Z.gt
 have L3:=PySem.W.looks_takesIn (M:=M) X Z.tk
 exact L1.andThen (L2.andThen ((show Looks M h (dataDescriptor? (some (.builtin "object.__class__")) (some (.builtin "getset_descriptor.__get__"))) (some (.builtin "getset_descriptor.__get__",.builtin "object.__class__")) from L3.andThen .now).andThen (Looks.tag .now)))
theorem aw6 {R:Result → Shared → Prop} {tp:Value} {o:Obj} (X:K.In s.heap) (Z:ExcX K C) (ho:s.heap.get? x = some o) (hc:o.cls = .ref C) (h:R (.ok (.ret (.ref C))) s) :
  codeAny (model prog w) A (.call (.builtin "getset_descriptor.__get__") ⟨[.builtin "object.__class__",.ref x,tp],[]⟩) R s:=by
 obtain ⟨hh,g,dr,t,os⟩:=s
 have L0:Looks (model prog w) hh (typeOf (.ref x)) (.ref C):=hc ▸ (Looks.ld ho).andThen .now
 have L1:=PySem.W.looks_mroIn (M:=model prog w) X Z.mo
 refine codeAny_call_builtin PySem.W.KF.slot_gs.plain PySem.W.KF.entry_gs (PySem.W.KF.slot_gs.check _ _ _ _ _ _ _ _ PySem.W.KF.type_class (PySem.W.KF.args_gs _ _ _) ?_)
 unfold Builtin.«getset_descriptor.__get__» descrGet
 rw [PySem.W.dga_obj]
 refine wpAny_bind (wpAny_pure ?_)
 unfold descrGetter descrCheckInstance descrNameAndClass isInstance
 simp only [PySem.W.KF.owner_class]
 repeat lk
 refine ⟨Code.quiet_builtin _ (by decide +kernel),codeAny_builtin PySem.W.KF.entry_class ?_⟩
 unfold Builtin.«object.__class__» shownTypeOf
 repeat lk
 exact h
theorem aj2 {Q:Option Value → Shared → Prop} {o:Obj} (X:K.In s.heap) (Z:ExcX K C) (ho:s.heap.get? x = some o) (hc:o.cls = .ref C) (h:Q (some (.ref C)) { s with toks:=s.toks + 1 }) :
  wpAny (model prog w) A (getAttr? (.ref x) "__class__") Q E s:=by
 obtain ⟨hh,g,dr,t,os⟩:=s
 have L0:Looks (model prog w) hh (typeOf (.ref x)) (.ref C):=hc ▸ (Looks.ld ho).andThen .now
 have L1:=PySem.W.looks_findIn (M:=model prog w) X Z.ga
 have L2:=PySem.W.looks_findIn (M:=model prog w) X Z.gn
 have L3:=aq9 (M:=model prog w) (x:=x) X Z
 have L4:=PySem.W.looks_mroIn (M:=model prog w) X Z.mb
 have f3:=PySem.F.attr_ValueError.ga.bind (.ref x)
 have hk:builtinKind "BaseException.__getattribute__" = some .slot:=by decide +kernel
 have hsplit:splitId "BaseException.__getattribute__" = some ("BaseException","__getattribute__"):=by decide +kernel
 unfold getAttr? getAttrBy? getAttrBy
 refine wpAny_bind (wpAny_mkText (wpAny_bind (wpAny_attempt (wpAny_holding (wpAny_bind (L0.at (wpAny_bind (L1.at ?_))))))))
 show wpAny _ _ (getAttrByItsOwn _ _ _ _ _ _) _ _ _
 unfold getAttrByItsOwn
 refine wpAny_bind ?_
 show wpAny _ _ (typeLookup _ _) _ _ _
 refine L2.at ?_
 refine wpAny_bind (wpAny_attempt (wpAny_holding ?_))
 show wpAny _ _ (boundAndCalled _ _ _) _ _ _
 unfold boundAndCalled
 refine wpAny_bind ?_
 rw [f3]
 refine wpAny_pure ?_
 refine wpAny_call (codeAny_call_builtin PySem.F.attr_ValueError.ga.plain PySem.F.entry_bexc_ga ?_)
 have ha:=PySem.F.args_bexc_ga (.ref x) (.str "__class__" t)
 simp only [checkBuiltinCall,hk,hsplit]
 refine wpAny_bind ?_
 unfold isInstance
 refine wpAny_bind (L0.at (L4.at ?_))
 simp only [Bool.not_true,Bool.false_eq_true,if_false]
 repeat (any_goals (first | assumption | wp_step))
 rw [hc]
 have La:=PySem.W.looks_findIn (M:=model prog w) X Z.cl
 have Lb:Looks (model prog w) hh (getOf (some (.builtin "object.__class__"))) (some (.builtin "getset_descriptor.__get__")):=PySem.W.looks_specialIn X Z.gt
 have Lc:Looks (model prog w) hh (dataDescriptor? (some (.builtin "object.__class__")) (some (.builtin "getset_descriptor.__get__"))) (some (.builtin "getset_descriptor.__get__",.builtin "object.__class__")):=(PySem.W.looks_takesIn (M:=model prog w) X Z.tk).andThen .now
 refine La.at (wpAny_bind (Lb.at (wpAny_bind (Lc.at (wpAny_bind (wpAny_rule (wpAny_pure ?_)))))))
 unfold bindTo
 refine wpAny_bind (wpAny_holding (wpAny_call (aw6 (s:=⟨hh,g,dr,t + 1,os⟩) X Z ho hc ?_)))
 show wpAny _ _ (ret (.ref C)) _ _ _
 refine wpAny_pure ?_
 show wpAny _ _ (handedOut (.ref C)) _ _ _
 exact PySem.W.handed_on rfl (wpAny_pure h)
theorem ar3 (Z:ExcX K C):PySem.W.KitX K (.ref x) (.ref C) (fun h=>∃ o,h.get? x = some o ∧ o.cls = .ref C) where
 ty:=fun _ _ _ ⟨o,ho,hc⟩=>hc ▸ (Looks.ld ho).andThen .now
 it:=fun _ _ X _=>by
  have z0:=Z.cs
  unfold PySem.W.clsIn at z0
  split at z0
  ·rename_i c' d' cd' sl' ho
   intro A' Q' E' s' k q
   unfold isType loadHead
   exact wpAny_bind (wpAny_loadPart (k _ _ (X _ _ ho)) (wpAny_pure q))
  ·cases z0
 ne:=fun h tp dd its n sl X htp=>by
  have z0:=Z.cs
  refine Bool.eq_false_iff.mpr fun q=>?_
  have e:C = tp:=Value.ref.inj (beq_iff_eq.mp q)
  subst e
  unfold PySem.W.clsIn at z0
  split at z0
  ·rename_i c' d' cd' sl' ho
   have z:=(X _ _ ho).symm.trans htp
   cases z
  ·cases z0
 ca:=fun X ⟨o,ho,hc⟩ k=>aj2 X Z ho hc k
end
section
variable {X:Cx}
def ap6 (K:PySem.W.Frag):List V → Hp → VK → Prop:=fun xs H Q=>∃ ea C d c b,xs = [.ref ea,d] ∧ (∀ u,i9 d u → u = c) ∧ H ea = some (S3 ea C) ∧ ExcX K C ∧ PySem.W.kitOne K (.ref C) c = some b ∧ Q (.bl b) H
theorem n3 (K:PySem.W.Frag) (h:X.K = K:=by rfl):y3 X (.builtin "isinstance") (ap6 K):=by
 subst h
 intro pins s σ H xs us Q I r h
 obtain ⟨ea,C,d,c,b,rfl,hd,he,Z,e,q⟩:=h
 obtain ⟨u,u',rfl,r1,r2⟩:=ak7 r
 cases (show u = Value.ref ea from r1)
 cases hd u' r2
 obtain ⟨⟨o,vs,ho,hc,_⟩,_⟩:=(show m9 X.prog X.w H s.heap ea (S3 ea C) from I.hok ea _ he)
 exact PySem.W.kia_one (ar3 Z) I.kIn ⟨o,ho,hc⟩ e (fun z=>nomatch z) fun tk=>⟨.bl b,H,I.tok _,rfl,q⟩
end
end L2
namespace L2
open PySem PySem.Spec PyProof.Rows PySem.SeqAt
section
variable {K:PySem.W.Frag} {C D:Addr}
theorem C3 (hc:PySem.W.isClsIn K D = true) (ht:PySem.W.typeIn K (.ref D) = some (.type "type")) (hs:PySem.W.subIn K (.ref C) (.ref D) = some false) (h1:PySem.W.subIn K (.ref C) (.ref C) = some true):PySem.W.kitOne K (.ref C) (.ref D) = some false:=by
 unfold PySem.W.kitOne
 split
 ·rename_i z
  have e:C = D:=Value.ref.inj (beq_iff_eq.mp z)
  rw [← e,h1] at hs
  cases hs
 ·show (if ((PySem.W.clsIn K D).isSome && PySem.W.typeIn K (.ref D) == some (.type "type")) = true then PySem.W.subIn K (.ref C) (.ref D) else none) = some false
  rw [if_pos (by rw [show (PySem.W.clsIn K D).isSome = true from hc,ht]; rfl),hs]
theorem as3 (hs:PySem.W.subIn K (.ref C) (.type "ValueError") = some true):PySem.W.kitOne K (.ref C) (.type "ValueError") = some true:=by
 unfold PySem.W.kitOne
 split
 ·rfl
 ·show (if PySem.W.kitMeta "ValueError" = true then PySem.W.subIn K (.ref C) (.type "ValueError") else none) = some true
  rw [if_pos (by decide +kernel),hs]
theorem aw0 (hc:PySem.W.isClsIn K D = true) (ht:PySem.W.typeIn K (.ref D) = some (.type "type")) (hs:PySem.W.subIn K (.ref C) (.ref D) = some true) (hb:PySem.W.subIn K (.ref D) (.type "BaseException") = some true):PySem.W.exmOne K (.ref C) (.ref D) = some true:=by
 unfold PySem.W.exmOne
 rw [if_pos (by rw [hb]; rfl)]
 show (if ((PySem.W.clsIn K D).isSome && PySem.W.typeIn K (.ref D) == some (.type "type")) = true then PySem.W.subIn K (.ref C) (.ref D) else none) = some true
 rw [if_pos (by rw [show (PySem.W.clsIn K D).isSome = true from hc,ht]; rfl),hs]
end
theorem P0:bootBuiltins "ValueError" = some (.type "ValueError"):=by first | rfl | decide +kernel
theorem J6:∀ {bs:List Bool} {us:List Value},i7 (bs.map V.bl) us → us = bs.map Value.bool
 | [],_,.nil=>rfl
 | _ :: _,_,.cons r t=>by rw [J6 t]; cases r; rfl
section
variable {X:Cx}
def av6:V → List V → Hp → VK → Prop:=fun x vs H Q=>∃ (l:Addr) (k:Bool) (bs:List Bool),x = .ref l ∧ vs = [.bl k] ∧ H l = some (.lst (bs.map V.bl)) ∧ Q (.int (bs.count k:Nat)) H
theorem eqB {A:Around} {s:Shared} {bs:List Bool} {k:Bool}:∀ y,y ∈ (bs.map Value.bool).toArray → EqAt A s y (.bool k) (isBoolOf k y):=fun y hy=>by
 have hy:y ∈ bs.map Value.bool:=by simpa using hy
 obtain ⟨b,_,rfl⟩:=List.mem_map.mp hy
 exact EqAt.bool_bool b k
theorem ah2:MtR X "list.count" av6:=by
 intro pins s σ H x vs v us Q I rx rv h
 obtain ⟨l,k,bs,rfl,rfl,hH,q⟩:=h
 cases rx
 obtain ⟨u,rfl,ru⟩:=rv.one
 cases ru
 obtain ⟨z,its,n,r,hl,e⟩:=I.lstM hH
 cases J6 r
 refine call_meets F.slot_list_count ⟨_,e,rfl⟩ F.entry_list_count (F.args_list_count_2 _ _) (list_countAt l _ n none #[] (.bool k) (isBoolOf k)) ⟨e,eqB,?_⟩
 refine ⟨.int _,H,I.tok _,⟨_,rfl⟩,?_⟩
 have e2:(bs.map Value.bool).toArray.toList.countP (isBoolOf k) = bs.count k:=by
  show (bs.map Value.bool).countP (isBoolOf k) = _
  rw [List.countP_map]
  rfl
 rw [e2]
 exact q
def as7:V → List V → Hp → VK → Prop:=fun x vs H Q=>∃ (l:Addr) (k:Bool) (bs:List Bool) (j:Nat),x = .ref l ∧ vs = [.bl k] ∧ H l = some (.lst (bs.map V.bl)) ∧ bs[j]? = some k ∧ (∀ m < j,bs[m]? = some (!k)) ∧ j ≤ 1000 ∧ Q (.int (j:Nat)) H
theorem aj6:MtR X "list.index" as7:=by
 intro pins s σ H x vs v us Q I rx rv h
 obtain ⟨l,k,bs,j,rfl,rfl,hH,hj,hno,h1000,q⟩:=h
 cases rx
 obtain ⟨u,rfl,ru⟩:=rv.one
 cases ru
 obtain ⟨z,its,n,r,hl,e⟩:=I.lstM hH
 cases J6 r
 obtain ⟨jl,je⟩:=List.getElem?_eq_some_iff.mp hj
 refine call_meets F.slot_list_index ⟨_,e,rfl⟩ F.entry_list_index (F.args_list_index_2 _ _) (list_indexAt l _ n none #[] (.bool k) (isBoolOf k) j (by simpa using jl) (by lia) ?_ fun m hm h2=>?_) ⟨e,eqB,?_⟩
 ·simp [isBoolOf,je]
 ·obtain ⟨_,me⟩:=List.getElem?_eq_some_iff.mp (hno m h2)
  simp [isBoolOf,me]
 ·exact ⟨.int _,H,I.tok _,⟨_,rfl⟩,q⟩
end
end L2
namespace L2
open PySem PySem.Spec PyProof.Rows
section
variable {X:Cx}
theorem W8:af4 X (fun _=>E0):=fun _ _ _ _ _ _ _ ⟨_,_,_,_,_,_,_,_,_,_,_,z⟩=>z.elim
end
end L2
namespace L2
open PySem PySem.Spec PyProof.Rows PySem.W
section
variable {X:Cx} {C:Addr} {x:Str} {p pos:Pos} {e:Expr} {ta tb:TE}
def aD7 (C:Addr):TE:=fun _ H Q=>∀ x dx,H x = none → H dx = none → dx ≠ x → Q (.ref x) (upd (upd H dx (.own x)) x (.ins C dx []))
theorem C0 (M:Made X.K X.mg x C) (hi:PySem.W.findIn X.K (.ref C) "__init__" = some (some (.builtin "object.__init__"))) (hg:Gl X x) (hdb:(x == ("__debug__":Str)) = false:=by decide) :
  PE X (.Call (.Name x p) [] [] pos) (aD7 C):=by
 intro pins s σ H Q I h
 refine wpAny_Call_Name_kw (D1 I hg M.mg ?_ hdb)
 refine PySem.W.callWith_K0 I.kIn M.kp ?_
 have hq:=h (s.heap.objs.size + 1) s.heap.objs.size (I.hok.fresh (Nat.le_succ _)) (I.hok.fresh (Nat.le_refl _)) (Nat.ne_of_lt (Nat.lt_succ_self _))
 have I2:=Inv.made (C:=C) I
 have Y:=makes_of (M:=model X.prog X.w) I.kIn M.makes
 have lf:=looks_findIn (M:=model X.prog X.w) I.kIn hi
 refine wpAny_call ?_
 have k:∀ b o,s.heap.get? b = some o → ((s.heap.push emptyDict).push (instObj C s.heap.objs.size)).get? b = some o:=fun b o e=>Heap.get?_push_of_some _ (Heap.get?_push_of_some _ e)
 have hx:((s.heap.push emptyDict).push (instObj C s.heap.objs.size)).get? (s.heap.objs.size + 1) = some (instObj C s.heap.objs.size):=by heap_get
 have t1:Looks (model X.prog X.w) ((s.heap.push emptyDict).push (instObj C s.heap.objs.size)) (typeOf (.ref (s.heap.objs.size + 1))) (.ref C):=(Looks.ld hx).andThen .now
 have t2:Looks (model X.prog X.w) ((s.heap.push emptyDict).push (instObj C s.heap.objs.size)) (isInstance (.ref (s.heap.objs.size + 1)) (.type "object")) true:=t1.andThen (Y.top.keeps k)
 obtain ⟨hh,g,d,t,os⟩:=s
 refine make_core Y lf (fun self=>Looks.of_pure (oi_bind self)) (.inr ⟨rfl,rfl⟩) ?_
 refine codeAny_call_builtin oi_plain entry_oi (@check_slot (model X.prog X.w) _ _ _ "object.__init__" "object" "__init__" (.ref (hh.objs.size + 1)) [] [] _ oi_kind oi_split t2 (oi_args (.ref (hh.objs.size + 1))) ?_)
 show wpAny _ _ (Builtin.«object.__init__» ⟨[Value.ref (hh.objs.size + 1)],[]⟩) _ _ _
 rw [oi_run]
 exact wpAny_pure (And.intro rfl ⟨V.ref (hh.objs.size + 1),_,I2,rfl,hq⟩)
def aG8 (ta tb:TE):TE:=fun σ H Q=>ta σ H Q ∨ tb σ H Q
theorem N2 (ha:PE X e ta) (hb:PE X e tb):PE X e (aG8 ta tb):=fun pins s σ H Q I h=>h.elim (ha pins s σ H Q I) (hb pins s σ H Q I)
end
section
variable {X:Cx} {C:Addr} {x:Str} {p pos:Pos} {e:Expr} {es:List Expr} {t:TA} {k n:Nat} {ps:List Str} {dvs:List V} {kb:FuncData → Prop} {sp:Sp}
theorem ax7 (Z:CalleeM X.prog X.w X.K X.mg X.base k C "__init__" ps dvs kb sp) (M:Made X.K X.mg x C) (hr:Room n X.A) (hg:Gl X x) (ha:PA X (e :: es) t) (hk:k + 1 ≤ n:=by decide) (hdb:(x == ("__debug__":Str)) = false:=by decide)
  (he:starEach (e :: es) X.env = (false,eval e X.env) :: starEach es X.env:=by rfl) (hpl:(backTo pos (starEach es X.env)).any (·.1) = false:=by rfl) :
  PE X (.Call (.Name x p) (e :: es) [] pos) (ay4 C sp [] E0 t):=by
 obtain ⟨f,fd,F,mt,hkb,b⟩:=Z.ex
 obtain ⟨ds,hv,hb⟩:=b dvs.length (Nat.le_refl _)
 rw [List.drop_length] at hv
 cases hv
 exact ax2 ⟨M.makes,mt.at_,mt.fn,M.kp⟩ F (hr.mono hk) hg M.mg hb .nil am1 ha hdb he hpl
end
end L2
namespace L2
open PySem PySem.Spec PyProof.Rows
section
variable {X:Cx}
theorem Y1:∀ {xs:List V} {us:List Value},i7 xs us → i7 xs.reverse us.reverse
 | _,_,.nil=>.nil
 | _,_,.cons r t=>by
  rw [List.reverse_cons,List.reverse_cons]
  exact (Y1 t).append (.cons r .nil)
end
end L2
namespace L2
open PySem PySem.Spec PyProof.Rows PyProof
section
variable {X:Cx}
theorem M8 {α:Type}:∀ l:List α,(List.range l.length).filterMap (fun k=>l[k]?) = l
 | []=>rfl
 | a :: t=>by
  rw [List.length_cons,List.range_succ_eq_map,List.filterMap_cons,List.getElem?_cons_zero,List.filterMap_map]
  show a :: List.filterMap (fun k=>(a :: t)[k + 1]?) (List.range t.length) = a :: t
  have:(fun k=>(a :: t)[k + 1]?) = fun k=>t[k]?:=funext fun k=>List.getElem?_cons_succ
  rw [this,M8 t]
theorem B1 {α β:Type} {f g:α → Option β}:∀ {l:List α},(∀ x ∈ l,f x = g x) → l.filterMap f = l.filterMap g
 | [],_=>rfl
 | x :: t,h=>by rw [List.filterMap_cons,List.filterMap_cons,h x (List.mem_cons_self ..),B1 fun y hy=>h y (List.mem_cons_of_mem _ hy)]
theorem ao8 (its:List Value):slicePick its.toArray none none (some (-1)) = its.reverse.toArray:=by
 have hb:sliceBounds none none (some (-1)) its.toArray.size = ((its.length:Int) - 1,-1,-1):=by
  simp [sliceBounds]
 unfold slicePick
 rw [hb]
 congr 1
 unfold sliceRange
 have hc:(if (its.length:Int) - 1 > -1 then ((its.length:Int) - 1 - -1 - -1 - 1) / (- -1) else 0) = (its.length:Int):=by
  by_cases h:(its.length:Int) - 1 > -1
  ·rw [if_pos h,show (- -1:Int) = 1 by decide,Int.ediv_one]
   lia
  ·rw [if_neg h]
   lia
 simp only [show ¬ ((-1:Int) > 0) by decide,if_false]
 rw [hc,Int.toNat_natCast,List.filterMap_map]
 have e1:∀ k ∈ List.range its.length,(fun k:Nat=>its.toArray[((its.length:Int) - 1 + -1 * (k:Int)).toNat]?) k = its.reverse[k]?:=fun k hk=>by
  have hk':=List.mem_range.mp hk
  show its.toArray[((its.length:Int) - 1 + -1 * (k:Int)).toNat]? = _
  rw [List.getElem?_reverse hk',show ((its.length:Int) - 1 + -1 * (k:Int)).toNat = its.length - 1 - k by lia]
  simp
 have:=M8 its.reverse
 rw [List.length_reverse] at this
 rw [← this]
 exact B1 e1
def aK1 (K:PySem.W.Frag) (te ts:TE):TE:=fun σ H Q=>te σ H fun x H1=>ts σ H1 fun y H2=>∃ a xs,y = .int (-1) ∧ x = .ref a ∧ SqL K H2 a xs ∧ ∀ p,H2 p = none → Q (.ref p) (upd H2 p (.lst xs.reverse))
theorem aA3 {e st:Expr} {te ts:TE} {pos p2:Pos} (K:PySem.W.Frag) (he:PE X e te) (hs:PE X st ts) (h:X.K = K:=by rfl):PE X (.Subscript e (.Slice none none (some st) p2) pos) (aK1 K te ts):=by
 subst h
 intro pins s σ H Q I h
 refine Subscript_ (thn (he pins s σ H _ I h) fun v s1 ⟨x,H1,I1,r1,q1⟩=>?_)
 refine wpAny_Slice ?_
 rw [evalPart_none]
 refine wpAny_pure (wpAny_pure ?_)
 rw [evalPart_some]
 refine thn (hs pins s1 σ H1 _ I1 q1) fun u s2 ⟨y,H2,I2,r2,q2⟩=>?_
 obtain ⟨a,xs,rfl,rfl,hx,q⟩:=q2
 obtain ⟨t,rfl⟩:=r2
 cases r1
 have I3:Inv X pins σ H2 { s2 with heap:=s2.heap.push { cls:=.type "slice",data:=.fields #[.none,.none,.int (-1) t] } }:=I2.kept (t':=s2.toks) fun b ob q=>Heap.get?_push_of_some _ q
 obtain ⟨its,r,ht,hz⟩:=I3.list hx
 have hlen:=r.length
 show wpAny (model X.prog X.w) X.A (subscriptTail e (.Slice none none (some st) p2) (.ref a) (.ref s2.heap.objs.size)) (EP X pins σ Q) X.xe { s2 with heap:=s2.heap.push { cls:=.type "slice",data:=.fields #[.none,.none,.int (-1) t] } }
 refine tail_any (ops:=[.ref a,.ref s2.heap.objs.size]) ht.isList.typeIs slot_list_getitem.lookup ?_ (by with_unfolding_all rfl)
 refine wpAny_getItem_list_slice ht.isList (Heap.IsSliceOf.new ..) .none .none (.int (-1) t) (by decide) ?_ (by rw [List.size_toArray] <;> lia)
 rw [ao8]
 refine ⟨.ref _,_,I3.laid (t':=s2.toks) (o:=.lst xs.reverse) (fun b ob q=>Heap.get?_push_of_some _ q) (Nat.le_refl _) ?_,rfl,q _ (I3.hok.fresh (Nat.le_refl _))⟩
 exact ⟨by rw [List.length_reverse]; exact hz,_,0,Y1 r,Heap.get?_push_size _ rfl⟩
end
end L2
namespace L2
open PySem PySem.Spec PyProof.Rows
def h8 {α:Type}:List α → List α
 | []=>[]
 | [a]=>[a]
 | a :: _ :: t=>a :: h8 t
theorem aq1 {α:Type}:∀ (l:List α) (k:Nat),(h8 l)[k]? = l[2 * k]?
 | [],_=>by simp [h8]
 | [a],0=>rfl
 | [a],k + 1=>by simp [h8]
 | a :: b :: t,0=>rfl
 | a :: b :: t,k + 1=>by
  show (a :: h8 t)[k + 1]? = (a :: b :: t)[2 * k + 2]?
  rw [List.getElem?_cons_succ,List.getElem?_cons_succ,List.getElem?_cons_succ]
  exact aq1 t k
theorem E2 {α:Type}:∀ l:List α,(h8 l).length = (l.length + 1) / 2
 | []=>by simp [h8]
 | [a]=>by simp [h8]
 | a :: b :: t=>by
  show (h8 t).length + 1 = (t.length + 1 + 1 + 1) / 2
  rw [E2 t]
  lia
theorem aa8 {α β:Type} (f:α → β):∀ l:List α,h8 (l.map f) = (h8 l).map f
 | []=>rfl
 | [a]=>rfl
 | a :: b :: t=>congrArg (f a :: ·) (aa8 f t)
theorem W2:∀ {xs:List V} {us:List Value},i7 xs us → i7 (h8 xs) (h8 us)
 | [],[],.nil=>.nil
 | [_],[_],.cons h .nil=>.cons h .nil
 | _ :: _ :: _,_ :: _ :: _,.cons h (.cons _ t)=>.cons h (W2 t)
theorem U1:∀ {xs:List V} {us:List Value} (n:Nat),i7 xs us → i7 (xs.drop n) (us.drop n)
 | _,_,0,h=>h
 | [],[],n + 1,.nil=>.nil
 | _ :: _,_ :: _,n + 1,.cons _ t=>U1 n t
theorem Y9 (its:List Value) (d:Nat) (lo:Option Int) (hb:sliceBounds lo none (some 2) its.toArray.size = (((min d its.length:Nat):Int),(its.length:Int),2)):slicePick its.toArray lo none (some 2) = (h8 (its.drop d)).toArray:=by
 unfold slicePick
 rw [hb]
 congr 1
 unfold sliceRange
 simp only [show ((2:Int) > 0) by decide,if_true]
 have hl:(h8 (its.drop d)).length = (its.length - d + 1) / 2:=by rw [E2,List.length_drop]
 have hc:(if ((min d its.length:Nat):Int) < (its.length:Int) then ((its.length:Int) - ((min d its.length:Nat):Int) + 2 - 1) / 2 else 0) = (((h8 (its.drop d)).length:Nat):Int):=by
  rw [hl]
  split <;> lia
 rw [hc,Int.toNat_natCast,List.filterMap_map]
 have:=M8 (h8 (its.drop d))
 refine (B1 fun k hk=>?_).trans this
 have hk':=List.mem_range.mp hk
 show its.toArray[(((min d its.length:Nat):Int) + 2 * (k:Int)).toNat]? = _
 rw [aq1,List.getElem?_drop,show (((min d its.length:Nat):Int) + 2 * (k:Int)).toNat = d + 2 * k by lia]
 simp
section
variable {X:Cx}
def aH4 (K:PySem.W.Frag) (te ts:TE):TE:=fun σ H Q=>te σ H fun x H1=>ts σ H1 fun y H2=>∃ a xs,y = .int 2 ∧ x = .ref a ∧ SqL K H2 a xs ∧ ∀ p,H2 p = none → Q (.ref p) (upd H2 p (.lst (h8 xs)))
theorem av4 {e st:Expr} {te ts:TE} {pos p2:Pos} (K:PySem.W.Frag) (he:PE X e te) (hs:PE X st ts) (h:X.K = K:=by rfl):PE X (.Subscript e (.Slice none none (some st) p2) pos) (aH4 K te ts):=by
 subst h
 intro pins s σ H Q I h
 refine Subscript_ (thn (he pins s σ H _ I h) fun v s1 ⟨x,H1,I1,r1,q1⟩=>?_)
 refine wpAny_Slice ?_
 rw [evalPart_none]
 refine wpAny_pure (wpAny_pure ?_)
 rw [evalPart_some]
 refine thn (hs pins s1 σ H1 _ I1 q1) fun u s2 ⟨y,H2,I2,r2,q2⟩=>?_
 obtain ⟨a,xs,rfl,rfl,hx,q⟩:=q2
 obtain ⟨t,rfl⟩:=r2
 cases r1
 have I3:Inv X pins σ H2 { s2 with heap:=s2.heap.push { cls:=.type "slice",data:=.fields #[.none,.none,.int 2 t] } }:=I2.kept (t':=s2.toks) fun b ob q=>Heap.get?_push_of_some _ q
 obtain ⟨its,r,ht,hz⟩:=I3.list hx
 have hlen:=r.length
 show wpAny (model X.prog X.w) X.A (subscriptTail e (.Slice none none (some st) p2) (.ref a) (.ref s2.heap.objs.size)) (EP X pins σ Q) X.xe { s2 with heap:=s2.heap.push { cls:=.type "slice",data:=.fields #[.none,.none,.int 2 t] } }
 refine tail_any (ops:=[.ref a,.ref s2.heap.objs.size]) ht.isList.typeIs slot_list_getitem.lookup ?_ (by with_unfolding_all rfl)
 refine wpAny_getItem_list_slice ht.isList (Heap.IsSliceOf.new ..) .none .none (.int 2 t) (by decide) ?_ (by rw [List.size_toArray] <;> lia)
 rw [Y9 its 0 none (by simp [sliceBounds]),List.drop_zero]
 refine ⟨.ref _,_,I3.laid (t':=s2.toks) (o:=.lst (h8 xs)) (fun b ob q=>Heap.get?_push_of_some _ q) (Nat.le_refl _) ?_,rfl,q _ (I3.hok.fresh (Nat.le_refl _))⟩
 exact ⟨by rw [E2]; lia,_,0,W2 r,Heap.get?_push_size _ rfl⟩
def aC9 (K:PySem.W.Frag) (te tl ts:TE):TE:=fun σ H Q=>te σ H fun x H1=>tl σ H1 fun z H2=>ts σ H2 fun y H3=>∃ a xs,z = .int 1 ∧ y = .int 2 ∧ x = .ref a ∧ SqL K H3 a xs ∧ ∀ p,H3 p = none → Q (.ref p) (upd H3 p (.lst (h8 (xs.drop 1))))
theorem ar8 {e lo st:Expr} {te tl ts:TE} {pos p2:Pos} (K:PySem.W.Frag) (he:PE X e te) (hlo:PE X lo tl) (hs:PE X st ts) (h:X.K = K:=by rfl):PE X (.Subscript e (.Slice (some lo) none (some st) p2) pos) (aC9 K te tl ts):=by
 subst h
 intro pins s σ H Q I h
 refine Subscript_ (thn (he pins s σ H _ I h) fun v s1 ⟨x,H1,I1,r1,q1⟩=>?_)
 refine wpAny_Slice ?_
 rw [evalPart_some]
 refine thn (hlo pins s1 σ H1 _ I1 q1) fun u1 s2 ⟨z,H2,I2,r3,q3⟩=>?_
 rw [evalPart_none]
 refine wpAny_pure ?_
 rw [evalPart_some]
 refine thn (hs pins s2 σ H2 _ I2 q3) fun u s3 ⟨y,H3,I3',r2,q2⟩=>?_
 obtain ⟨a,xs,rfl,rfl,rfl,hx,q⟩:=q2
 obtain ⟨t,rfl⟩:=r2
 obtain ⟨t1,rfl⟩:=r3
 cases r1
 have I3:Inv X pins σ H3 { s3 with heap:=s3.heap.push { cls:=.type "slice",data:=.fields #[.int 1 t1,.none,.int 2 t] } }:=I3'.kept (t':=s3.toks) fun b ob q=>Heap.get?_push_of_some _ q
 obtain ⟨its,r,ht,hz⟩:=I3.list hx
 have hlen:=r.length
 show wpAny (model X.prog X.w) X.A (subscriptTail e (.Slice (some lo) none (some st) p2) (.ref a) (.ref s3.heap.objs.size)) (EP X pins σ Q) X.xe { s3 with heap:=s3.heap.push { cls:=.type "slice",data:=.fields #[.int 1 t1,.none,.int 2 t] } }
 refine tail_any (ops:=[.ref a,.ref s3.heap.objs.size]) ht.isList.typeIs slot_list_getitem.lookup ?_ (by with_unfolding_all rfl)
 refine wpAny_getItem_list_slice ht.isList (Heap.IsSliceOf.new ..) (.int 1 t1) .none (.int 2 t) (by decide) ?_ (by rw [List.size_toArray] <;> lia)
 rw [Y9 its 1 (some 1) (by simp [sliceBounds]; lia)]
 refine ⟨.ref _,_,I3.laid (t':=s3.toks) (o:=.lst (h8 (xs.drop 1))) (fun b ob q=>Heap.get?_push_of_some _ q) (Nat.le_refl _) ?_,rfl,q _ (I3.hok.fresh (Nat.le_refl _))⟩
 exact ⟨by rw [E2,List.length_drop]; lia,_,0,W2 (U1 1 r),Heap.get?_push_size _ rfl⟩
theorem ag2:MtR X "list.clear" ak9:=ao6
theorem U8:MtR X "list.pop" ap1:=ao0
end
end L2
namespace L2
open PySem PySem.Spec PyProof.Rows
section
variable {X:Cx}
def ao9:V → Bool
 | .int _ | .bl _ | .non | .ref _=>true
 | _=>false
def ax0 (K:PySem.W.Frag):R2:=fun x y H Q=>∃ (a b:Addr) (xs:List V),x = .ref a ∧ y = .ref b ∧ SqL K H a (xs) ∧ SqL K H b xs ∧ xs.all ao9 = true ∧ Q (.bl false) H
theorem au5 {A:Around} {s:Shared} {x:V} {u v:Value} (h:ao9 x = true) (ru:i9 x u) (rv:i9 x v):SeqAt.EqAt A s u v true:=by
 cases x with
 | int i =>
  obtain ⟨t,rfl⟩:=ru
  obtain ⟨t',rfl⟩:=rv
  have:=SeqAt.EqAt.int_int (A:=A) (s:=s) i t i t'
  rwa [beq_self_eq_true] at this
 | bl b=>cases ru; cases rv; exact SeqAt.EqAt.same _
 | non=>cases ru; cases rv; exact SeqAt.EqAt.same _
 | ref a=>cases ru; cases rv; exact SeqAt.EqAt.same _
 | _=>cases h
theorem ab3 (K:PySem.W.Frag) (hu:X.A.units < cLine) (h:X.K = K:=by rfl):OpR X (compareOp .NotEq) (ax0 K):=by
 subst h
 intro pins s σ H x y v u Q I rx ry h
 obtain ⟨a,b,xs,rfl,rfl,ha,hb,hr,q⟩:=h
 cases rx
 cases ry
 obtain ⟨us,r1,p1,_⟩:=I.list ha
 obtain ⟨vs,r2,p2,_⟩:=I.list hb
 have l1:=r1.length
 have l2:=r2.length
 refine SeqAt.RcNeAt.lists (e:=fun j=>true) p1.isList p2.isList (by simp only [List.size_toArray]; lia) (by lia) (fun j h1 h2=>?_) X.prog X.w X.xe _ ?_
 ·rw [List.size_toArray] at h1 h2
  have e1:xs[j]? = some (xs[j]'(by lia)):=List.getElem?_eq_getElem _
  obtain ⟨u,w1,s1⟩:=r1.get e1
  obtain ⟨v,w2,s2⟩:=r2.get e1
  have z1:us.toArray[j] = u:=by rw [List.getElem?_eq_getElem h1] at w1; simpa using w1
  have z2:vs.toArray[j] = v:=by rw [List.getElem?_eq_getElem h2] at w2; simpa using w2
  rw [z1,z2]
  exact au5 (List.all_eq_true.mp hr _ (List.getElem_mem _)) s1 s2
 ·have:((List.range us.toArray.size).all fun _=>true) = true:=by simp
  rw [this]
  exact ⟨.bl false,H,I,rfl,q⟩
end
end L2
def PySem.W.Fast.tw15725082189945588978:Nat:=0
def PySem.W.Fast.tw12075576050288053680:Nat:=0
def PySem.W.Fast.tw7582754051246440266:Nat:=0
def PySem.W.Fast.tw10406899882565991912:Nat:=0
def PySem.W.Fast.tw5553941572405643861:Nat:=0
def PySem.W.Fast.tw12286651551310691457:Nat:=0
def PySem.W.Fast.tw8314913887117204524:Nat:=0
def PySem.W.Fast.tw7267002940586990002:Nat:=0
def PySem.W.Fast.tw3224011118806161899:Nat:=0
def PySem.W.Fast.tw14262247487632495887:Nat:=0
def PySem.W.Fast.tw17540308750419277145:Nat:=0
def PySem.W.Fast.tw7662932800720484326:Nat:=0
def PySem.W.Fast.tw8570138254655975830:Nat:=0
def PySem.W.Fast.tw1998873557570534473:Nat:=0
def PySem.W.Fast.tw5404673915205881296:Nat:=0
def PySem.W.Fast.tw8464212974701997189:Nat:=0
def PySem.W.Fast.tw1036003374666339582:Nat:=0
def PySem.W.Fast.tw13527270861571643577:Nat:=0
def PySem.W.Fast.tw15354824679491987079:Nat:=0
def PySem.W.Fast.tw14180769645687971132:Nat:=0
def PySem.W.Fast.tw9401167734978053002:Nat:=0
def PySem.W.Fast.tw14681986261707074829:Nat:=0
def PySem.W.Fast.tw14755320321905143842:Nat:=0
def PySem.W.Fast.tw15326371448067284528:Nat:=0
def PySem.W.Fast.tw17963478480585530504:Nat:=0
def PySem.W.Fast.tw12879568857335786906:Nat:=0
def PySem.W.Fast.tw11307106845674412402:Nat:=0
def PySem.W.Fast.tw14152832362476412334:Nat:=0
def PySem.W.Fast.tw9957073652067233489:Nat:=0
def PySem.W.Fast.tw8899042454911690324:Nat:=0
def PySem.W.Fast.tw819334956210797653:Nat:=0
def PySem.W.Fast.tw465808789266941156:Nat:=0
def PySem.W.Fast.tw6013508558275348921:Nat:=0
def PySem.W.Fast.tw2673808709979170885:Nat:=0
def PySem.W.Fast.tw11340958558669371415:Nat:=0
def PySem.W.Fast.tw18107804286710113875:Nat:=0
def PySem.W.Fast.tw6568159749564731421:Nat:=0
def PySem.W.Fast.tw3796463748404555609:Nat:=0
def PySem.W.Fast.tw2306444692781748955:Nat:=0
def PySem.W.Fast.tw5378132360564459737:Nat:=0
def PySem.W.Fast.tw1535491983051637647:Nat:=0
def PySem.W.Fast.tw5259954073395814271:Nat:=0
def PySem.W.Fast.tw17447320935171051684:Nat:=0
def PySem.W.Fast.tw2782697154839276438:Nat:=0
def PySem.W.Fast.tw16893466329800206545:Nat:=0
def PySem.W.Fast.tw3431468669183462316:Nat:=0
def PySem.W.Fast.tw3212265693019186852:Nat:=0
def PySem.W.Fast.tw13290828794123716441:Nat:=0
def PySem.W.Fast.tw5657692381040839067:Nat:=0
def PySem.W.Fast.tw2407814059302637988:Nat:=0
def PySem.W.Fast.tw14704562534434714092:Nat:=0
def PySem.W.Fast.tw2960695396668233161:Nat:=0
def PySem.W.Fast.tw8788530087547884962:Nat:=0
def PySem.W.Fast.tw10807574896348899262:Nat:=0
def PySem.W.Fast.tw12233120441557045025:Nat:=0
def PySem.W.Fast.tw2833893610395029917:Nat:=0
def PySem.W.Fast.tw11710685237012622410:Nat:=0
def PySem.W.Fast.tw16720083126394663431:Nat:=0
def PySem.W.Fast.tw15311523849993641159:Nat:=0
def PySem.W.Fast.tw3185828281662293083:Nat:=0
def PySem.W.Fast.tw14230612538732243755:Nat:=0
def PySem.W.Fast.tw9694302028451646041:Nat:=0
def PySem.W.Fast.tw6491301716037228563:Nat:=0
def PySem.W.Fast.tw4808691634065884901:Nat:=0
def PySem.W.Fast.tw15117148170534910573:Nat:=0
def PySem.W.Fast.tw13490335315833424294:Nat:=0
def PySem.W.Fast.tw1048031036951092882:Nat:=0
def PySem.W.Fast.tw7235661714007873554:Nat:=0
def PySem.W.Fast.tw13515267146908475443:Nat:=0
def PySem.W.Fast.tw5655916624088993819:Nat:=0
def PySem.W.Fast.tw16875498983425533107:Nat:=0
def PySem.W.Fast.tw13356182339604874880:Nat:=0
def PySem.W.Fast.tw6168401241766269316:Nat:=0
def PySem.W.Fast.tw18012546728106609997:Nat:=0
def PySem.W.Fast.tw11295686987898761122:Nat:=0
def PySem.W.Fast.tw9185451128651286836:Nat:=0
def PySem.W.Fast.tw18356735967710594492:Nat:=0
def PySem.W.Fast.tw12361382735393625401:Nat:=0
def PySem.W.Fast.tw9789278626577565870:Nat:=0
def PySem.W.Fast.tw16110320581644348661:Nat:=0
def PySem.W.Fast.tw1191860689301093115:Nat:=0
def PySem.W.Fast.tw9299244003185511781:Nat:=0
def PySem.W.Fast.tw4386949896350755989:Nat:=0
def PySem.W.Fast.tw5656644947026794553:Nat:=0
def PySem.W.Fast.tw514935131103107759:Nat:=0
def PySem.W.Fast.tw5891380573979525511:Nat:=0
def PySem.W.Fast.tw3525814136683728012:Nat:=0
def PySem.W.Fast.tw16101991530791966809:Nat:=0
def PySem.W.Fast.tw8575456394349147300:Nat:=0
def PySem.W.Fast.tw17828140531162260699:Nat:=0
def PySem.W.Fast.tw11907491368951147376:Nat:=0
def PySem.W.Fast.tw16422453457974503065:Nat:=0
def PySem.W.Fast.tw17372824652674691534:Nat:=0
def PySem.W.Fast.tw18420461227088589594:Nat:=0
def PySem.W.Fast.tw2457990979534425492:Nat:=0
def PySem.W.Fast.tw11857522312440574318:Nat:=0
def PySem.W.Fast.tw16032562457657661870:Nat:=0
def PySem.W.Fast.tw5149523097256943973:Nat:=0
def PySem.W.Fast.tw7337544885110604693:Nat:=0
def PySem.W.Fast.tw1546440063316026446:Nat:=0
def PySem.W.Fast.tw12229537200386974695:Nat:=0
def PySem.W.Fast.tw3947432919384006414:Nat:=0
def PySem.W.Fast.tw11620945136814362259:Nat:=0
def PySem.W.Fast.tw6745703611578583853:Nat:=0
def PySem.W.Fast.tw12759326541650915460:Nat:=0
def PySem.W.Fast.tw2327407152952897252:Nat:=0
def PySem.W.Fast.tw7567194700957427226:Nat:=0
def PySem.W.Fast.tw149504285658717078:Nat:=0
def PySem.W.Fast.tw1535160824312325440:Nat:=0
def PySem.W.Fast.tw6551438937028716928:Nat:=0
def PySem.W.Fast.tw4487136147264317249:Nat:=0
def PySem.W.Fast.tw3560521177107675668:Nat:=0
def PySem.W.Fast.tw3113265800862807960:Nat:=0
def PySem.W.Fast.tw10104707777908043334:Nat:=0
def PySem.W.Fast.tw7855652000130339896:Nat:=0
def PySem.W.Fast.tw10601215081935830894:Nat:=0
def PySem.W.Fast.tw15399514735532271286:Nat:=0
def PySem.W.Fast.tw3713119034040875123:Nat:=0
def PySem.W.Fast.tw11923024285279096902:Nat:=0
def PySem.W.Fast.tw11681583831670879219:Nat:=0
def PySem.W.Fast.tw13082768061918298156:Nat:=0
def PySem.W.Fast.tw8679541852242118336:Nat:=0
def PySem.W.Fast.tw303934296844659507:Nat:=0
def PySem.W.Fast.tw3952060764269282540:Nat:=0
def PySem.W.Fast.tw4313117546619545966:Nat:=0
def PySem.W.Fast.tw1620671338624329107:Nat:=0
def PySem.W.Fast.tw287539180116931497:Nat:=0
def PySem.W.Fast.tw13255766354171412766:Nat:=0
def PySem.W.Fast.tw12386003209785131039:Nat:=0
def PySem.W.Fast.tw9129867906693462378:Nat:=0
def PySem.W.Fast.tw2699677892458606131:Nat:=0
def PySem.W.Fast.tw4582031223618267150:Nat:=0
def PySem.W.Fast.tw4107573184182483757:Nat:=0
def PySem.W.Fast.tw7853166499676810177:Nat:=0
def PySem.W.Fast.tw4330756314007688881:Nat:=0
def PySem.W.Fast.tw17267758366095657211:Nat:=0
def PySem.W.Fast.tw375311527286324972:Nat:=0
def PySem.W.Fast.tw5331619666285784565:Nat:=0
def PySem.W.Fast.tw5195338766280858277:Nat:=0
def PySem.W.Fast.tw13564344044764000992:Nat:=0
def PySem.W.Fast.tw5007313060695040555:Nat:=0
def PySem.W.Fast.tw7247642018130064201:Nat:=0
def PySem.W.Fast.tw15411654970192333443:Nat:=0
def PySem.W.Fast.tw12590605058666181221:Nat:=0
def PySem.W.Fast.tw16466144840715472478:Nat:=0
def PySem.W.Fast.tw13575495892811910046:Nat:=0
def PySem.W.Fast.tw9704199744812637849:Nat:=0
def PySem.W.Fast.tw3196378504297451706:Nat:=0
def PySem.W.Fast.tw8214719013097211927:Nat:=0
def PySem.W.Fast.tw15752305806794498620:Nat:=0
def PySem.W.Fast.tw10836869381055108580:Nat:=0
def PySem.W.Fast.tw2418616756760094619:Nat:=0
def PySem.W.Fast.tw18347222637768055659:Nat:=0
def PySem.W.Fast.tw6780060364774311217:Nat:=0
def PySem.W.Fast.tw12865937517856847682:Nat:=0
def PySem.W.Fast.tw8689720709532746335:Nat:=0
def PySem.W.Fast.tw15552331744016113136:Nat:=0
def PySem.W.Fast.tw7771117560223281717:Nat:=0
def PySem.W.Fast.tw6708560414068764477:Nat:=0
def PySem.W.Fast.tw12072056748104388208:Nat:=0
def PySem.W.Fast.tw16551265759304831213:Nat:=0
def PySem.W.Fast.tw10056739134001940187:Nat:=0
def PySem.W.Fast.tw15207574533538278851:Nat:=0
def PySem.W.Fast.tw13933180512401120383:Nat:=0
def PySem.W.Fast.tw14178038261730481968:Nat:=0
def PySem.W.Fast.tw6545321131089069079:Nat:=0
def PySem.W.Fast.tw13156184904052543791:Nat:=0
def PySem.W.Fast.tw9602892941813842292:Nat:=0
def PySem.W.Fast.tw8889909718229912874:Nat:=0
def PySem.W.Fast.tw6390675309294793501:Nat:=0
def PySem.W.Fast.tw15322495617021994653:Nat:=0
def PySem.W.Fast.tw2261478641979538563:Nat:=0
def PySem.W.Fast.tw4839038961758528840:Nat:=0
def PySem.W.Fast.tw2839830827676642692:Nat:=0
def PySem.W.Fast.tw10839848782072917159:Nat:=0
def PySem.W.Fast.tw4357664745555166695:Nat:=0
def PySem.W.Fast.tw15216528413711335591:Nat:=0
def PySem.W.Fast.tw7444379377427905863:Nat:=0
def PySem.W.Fast.tw12262777532895428635:Nat:=0
def PySem.W.Fast.tw10897622571513024419:Nat:=0
def PySem.W.Fast.tw5838692777045099404:Nat:=0
def PySem.W.Fast.tw16600600261743546493:Nat:=0
def PySem.W.Fast.tw848903398122403603:Nat:=0
def PySem.W.Fast.tw11569158695423117509:Nat:=0
def PySem.W.Fast.tw15696290673301099804:Nat:=0
def PySem.W.Fast.tw570256494723915382:Nat:=0
def PySem.W.Fast.tw1330922060210481134:Nat:=0
def PySem.W.Fast.tw3615273547997516515:Nat:=0
def PySem.W.Fast.tw16388409389971017258:Nat:=0
def PySem.W.Fast.tw10028161996480633590:Nat:=0
def PySem.W.Fast.tw8346949274900801423:Nat:=0
def PySem.W.Fast.tw3450368361350926007:Nat:=0
def PySem.W.Fast.tw9067484961665309935:Nat:=0
def PySem.W.Fast.tw6476999672407038106:Nat:=0
def PySem.W.Fast.tw10081305176717321864:Nat:=0
def PySem.W.Fast.tw1894873731326199648:Nat:=0
def PySem.W.Fast.tw1395275331726600901:Nat:=0
def PySem.W.Fast.tw290832462310569997:Nat:=0
def PySem.W.Fast.tw6524506658711800296:Nat:=0
def PySem.W.Fast.tw1383781180308128499:Nat:=0
def PySem.W.Fast.tw10095049420530898150:Nat:=0
def PySem.W.Fast.tw484338028648542599:Nat:=0
def PySem.W.Fast.tw9996832325380753770:Nat:=0
def PySem.W.Fast.tw18284733536451255752:Nat:=0
def PySem.W.Fast.tw17696729657834709041:Nat:=0
def PySem.W.Fast.tw65880076694838621:Nat:=0
def PySem.W.Fast.tw6987080376763882923:Nat:=0
def PySem.W.Fast.tw11150747624368602813:Nat:=0
def PySem.W.Fast.tw8789950409363075546:Nat:=0
def PySem.W.Fast.tw9575617172501074615:Nat:=0
def PySem.W.Fast.tw12739566403979583621:Nat:=0
def PySem.W.Fast.tw8776531972844827392:Nat:=0
def PySem.W.Fast.tw10716635375805336717:Nat:=0
def PySem.W.Fast.tw13228054466193349973:Nat:=0
def PySem.W.Fast.tw8418945985908593859:Nat:=0
def PySem.W.Fast.tw18339499736563816083:Nat:=0
def PySem.W.Fast.tw16680733535123851324:Nat:=0
def PySem.W.Fast.tw17152077665130612217:Nat:=0
def PySem.W.Fast.tw793137194202913215:Nat:=0
def PySem.W.Fast.tw6840193095975305737:Nat:=0
def PySem.W.Fast.tw16565575533005307664:Nat:=0
def PySem.W.Fast.tw7759246604748347717:Nat:=0
def PySem.W.Fast.tw12838270282107818008:Nat:=0
def PySem.W.Fast.tw11680617494628868829:Nat:=0
def PySem.W.Fast.tw8386651575439119682:Nat:=0
def PySem.W.Fast.tw2988904827596557573:Nat:=0
def PySem.W.Fast.tw10072354328030622323:Nat:=0
def PySem.W.Fast.tw7731946251874384598:Nat:=0
def PySem.W.Fast.tw12930850956234377755:Nat:=0
def PySem.W.Fast.tw12361400420558167388:Nat:=0
def PySem.W.Fast.tw10290263415812014994:Nat:=0
def PySem.W.Fast.tw5299260778670445167:Nat:=0
def PySem.W.Fast.tw15646133033429571312:Nat:=0
def PySem.W.Fast.tw10507435770355999114:Nat:=0
def PySem.W.Fast.tw16074212139261118037:Nat:=0
def PySem.W.Fast.tw4896934452619898800:Nat:=0
def PySem.W.Fast.tw8633863110864880250:Nat:=0
def PySem.W.Fast.tw11424066209385107507:Nat:=0
def PySem.W.Fast.tw17827763685396898476:Nat:=0
def PySem.W.Fast.tw10995410342196553573:Nat:=0
def PySem.W.Fast.tw8025436168170172965:Nat:=0
def PySem.W.Fast.tw13256037131105877254:Nat:=0
def PySem.W.Fast.tw4356022392161955837:Nat:=0
def PySem.W.Fast.tw4260480124962876470:Nat:=0
def PySem.W.Fast.tw10565492325122159477:Nat:=0
def PySem.W.Fast.tw9241760988495203072:Nat:=0
def PySem.W.Fast.tw9246414995136981796:Nat:=0
def PySem.W.Fast.tw13998563328949813948:Nat:=0
def PySem.W.Fast.tw10831436505844040326:Nat:=0
def PySem.W.Fast.tw4075124757654763012:Nat:=0
namespace My
open PySem L2 PyProof.Rows
seal PE PT PW PA PS PSs PG PI aj4 PO OpR UnR y3 aH5 IxR SlR MtR MtM aD0 aB1 PIp PC
def top (i:Nat):Stmt:=PySem.Challenge.pw_crossracks_k21_rules_choose.main.body.getD i (.Pass ⟨0,0,0,0⟩)
structure Txt (K:PySem.W.Frag) (mg:Str → Option Value):Prop where
 m_len:mg "len" = none
 m_isinstance:mg "isinstance" = none
 m_int:mg "int" = none
 m_bool:mg "bool" = none
 m_tuple:mg "tuple" = none
 m_list:mg "list" = none
 m_sorted:mg "sorted" = none
 m_range:mg "range" = none
 m_abs:mg "abs" = none
 m_min:mg "min" = none
 m_max:mg "max" = none
 m_str:mg "str" = none
 m_ValueError:mg "ValueError" = none
structure TxtC (K:PySem.W.Frag) (mg:Str → Option Value) (C_Rule:Addr) (C_Fullest:Addr) (C_Emptiest:Addr) (C_Told:Addr) (C_HallError:Addr) (C_NoHall:Addr) (C_NoCalls:Addr) (C_NoLine:Addr) (C_NoRule:Addr) (C_Idle:Addr) (C_Busy:Addr) (C_Engaged:Addr) (C_NoMove:Addr):Prop where
 mg_Rule:mg "Rule" = some (.ref C_Rule)
 M_Rule:Made K mg "Rule" C_Rule
 cl_Rule:Cls K C_Rule
 p_Rule:PySem.W.findIn K (.ref C_Rule) "__init__" = some (some (.builtin "object.__init__"))
 ty_Rule:∀ (H:Hp) (a dx:Addr) (fs:List (Str × V)),H a = some (.ins C_Rule dx fs) → TyOf K H (.ref a) (.ref C_Rule)
 mg_Fullest:mg "Fullest" = some (.ref C_Fullest)
 M_Fullest:Made K mg "Fullest" C_Fullest
 cl_Fullest:Cls K C_Fullest
 p_Fullest:PySem.W.findIn K (.ref C_Fullest) "__init__" = some (some (.builtin "object.__init__"))
 ty_Fullest:∀ (H:Hp) (a dx:Addr) (fs:List (Str × V)),H a = some (.ins C_Fullest dx fs) → TyOf K H (.ref a) (.ref C_Fullest)
 mg_Emptiest:mg "Emptiest" = some (.ref C_Emptiest)
 M_Emptiest:Made K mg "Emptiest" C_Emptiest
 cl_Emptiest:Cls K C_Emptiest
 p_Emptiest:PySem.W.findIn K (.ref C_Emptiest) "__init__" = some (some (.builtin "object.__init__"))
 ty_Emptiest:∀ (H:Hp) (a dx:Addr) (fs:List (Str × V)),H a = some (.ins C_Emptiest dx fs) → TyOf K H (.ref a) (.ref C_Emptiest)
 mg_Told:mg "Told" = some (.ref C_Told)
 M_Told:Made K mg "Told" C_Told
 cl_Told:Cls K C_Told
 n_Told_racks:G9 K C_Told "racks"
 ty_Told:∀ (H:Hp) (a dx:Addr) (fs:List (Str × V)),H a = some (.ins C_Told dx fs) → TyOf K H (.ref a) (.ref C_Told)
 mg_HallError:mg "HallError" = some (.ref C_HallError)
 mg_NoHall:mg "NoHall" = some (.ref C_NoHall)
 mg_NoCalls:mg "NoCalls" = some (.ref C_NoCalls)
 mg_NoLine:mg "NoLine" = some (.ref C_NoLine)
 mg_NoRule:mg "NoRule" = some (.ref C_NoRule)
 mg_Idle:mg "Idle" = some (.ref C_Idle)
 mg_Busy:mg "Busy" = some (.ref C_Busy)
 mg_Engaged:mg "Engaged" = some (.ref C_Engaged)
 mg_NoMove:mg "NoMove" = some (.ref C_NoMove)
 e_NoRule:ExcC K mg "NoRule" C_NoRule
 x_NoRule:ExcX K C_NoRule
 kv_NoRule:PySem.W.kitOne K (.ref C_NoRule) (.type "ValueError") = some true
 kh_NoRule:PySem.W.exmOne K (.ref C_NoRule) (.ref C_HallError) = some true
 kx_NoRule_HallError:PySem.W.kitOne K (.ref C_NoRule) (.ref C_HallError) = some true
 kx_NoRule_NoHall:PySem.W.kitOne K (.ref C_NoRule) (.ref C_NoHall) = some false
 kx_NoRule_NoCalls:PySem.W.kitOne K (.ref C_NoRule) (.ref C_NoCalls) = some false
 kx_NoRule_NoLine:PySem.W.kitOne K (.ref C_NoRule) (.ref C_NoLine) = some false
 kx_NoRule_NoRule:PySem.W.kitOne K (.ref C_NoRule) (.ref C_NoRule) = some true
 kx_NoRule_Idle:PySem.W.kitOne K (.ref C_NoRule) (.ref C_Idle) = some false
 kx_NoRule_Busy:PySem.W.kitOne K (.ref C_NoRule) (.ref C_Busy) = some false
 kx_NoRule_Engaged:PySem.W.kitOne K (.ref C_NoRule) (.ref C_Engaged) = some false
 kx_NoRule_NoMove:PySem.W.kitOne K (.ref C_NoRule) (.ref C_NoMove) = some false
def cell (ns:List Int) (k:Nat):Int:=ns.getD k 0
theorem ad2 {ns:List Int} {k:Nat} (h:k < ns.length):atI (ns.map V.int) (k:Int) = some (.int (cell ns k)):=B5 (by
 rw [List.getElem?_map,List.getElem?_eq_getElem h]
 simp [cell,List.getD,h])
theorem g9 {H:Hp} {p:Addr} (h:H p = none) (o:HO):j0 H (upd H p o):=fun b u q=>by rw [h9 (i6 q h)]; exact q
theorem j0.put {H H':Hp} {l:Addr} {o:HO} (s:j0 H H') (hl:H l = none):j0 H (upd H' l o):=fun b u q=>by
 rw [h9 (i6 q hl)]
 exact s b u q
def ak4 (K:PySem.W.Frag):Sp:=fun vs H Q _=>∃ (a:Addr) (ns:List Int) (k:Nat),vs = [.ref a,.int k] ∧ SqL K H a (ns.map V.int) ∧ Q (.int (cell ns k)) H
structure Hall where
 i:Int
 c:Int
 m:Int
 o:Int
 e:Int
def Hall.row (h:Hall):List Int:=[h.i,h.c,h.m,h.o,h.e]
structure Hall.Ok (h:Hall):Prop where
 i:1 ≤ h.i ∧ h.i ≤ 12
 c:1 ≤ h.c ∧ h.c ≤ 12
 m:1 ≤ h.m ∧ h.m ≤ 24
 o:1 ≤ h.o ∧ h.o ≤ 12
 e:1 ≤ h.e ∧ h.e ≤ 12
theorem aq7 {a b:Int} (ha:1 ≤ a ∧ a ≤ 12) (hb:1 ≤ b ∧ b ≤ 12):1 ≤ a * b ∧ a * b ≤ 144:=by
 have h1:1 * 1 ≤ a * b:=Int.mul_le_mul ha.1 hb.1 (by decide) (by lia)
 have h2:a * b ≤ 12 * 12:=Int.mul_le_mul ha.2 hb.2 (by lia) (by decide)
 lia
theorem Hall.Ok.ic {h:Hall} (k:h.Ok):1 ≤ h.i * h.c ∧ h.i * h.c ≤ 144:=aq7 k.i k.c
theorem Hall.Ok.oe {h:Hall} (k:h.Ok):1 ≤ h.o * h.e ∧ h.o * h.e ≤ 144:=aq7 k.o k.e
def ao2 (K:PySem.W.Frag):Sp:=fun vs H Q _=>∃ (a:Addr) (ns:List Int),vs = [.ref a] ∧ SqL K H a (ns.map V.int) ∧ ∀ (p:Addr) (h:Hall) (H':Hp),h.Ok → j0 H H' → H' p = some (.tup (h.row.map V.int)) → Q (.ref p) H'
def R7 (j:Nat):Int:=if j = 2 then 24 else 12
theorem aw4 {i:Nat} (hi:i < 5):(∃ m:Int,atI ([4,4,6,4,4].map V.int) (i:Int) = some (.int m) ∧ 1 ≤ m ∧ m ≤ R7 i) ∧ ∃ m:Int,atI ([12,12,24,12,12].map V.int) (i:Int) = some (.int m) ∧ 1 ≤ m ∧ m ≤ R7 i:=by
 match i,hi with
 | 0,_=>exact ⟨⟨_,rfl,by decide,by decide⟩,_,rfl,by decide,by decide⟩
 | 1,_=>exact ⟨⟨_,rfl,by decide,by decide⟩,_,rfl,by decide,by decide⟩
 | 2,_=>exact ⟨⟨_,rfl,by decide,by decide⟩,_,rfl,by decide,by decide⟩
 | 3,_=>exact ⟨⟨_,rfl,by decide,by decide⟩,_,rfl,by decide,by decide⟩
 | 4,_=>exact ⟨⟨_,rfl,by decide,by decide⟩,_,rfl,by decide,by decide⟩
section
variable {P:Program} {w:World} {K:PySem.W.Frag} {mg:Str → Option Value} {base:Heap}
theorem j0.seqT {H H':Hp} {a:Addr} {xs:List V} (e:j0 H H') (h:SqT K H a xs):SqT K H' a xs:=by
 rcases h with (h | ⟨o,h⟩) | h
 ·exact .inl (.inl (e _ _ h))
 ·exact .inl (.inr ⟨o,e _ _ h⟩)
 ·exact .inr h
theorem P1:FnScope ["_law_script","_law_k"] ["_law_script","_law_k"] (g6 (top 20)):=⟨rfl,rfl,rfl,by decide +kernel,rfl,by decide +kernel,by decide +kernel⟩
theorem au0 (T:Txt K mg) (D:Def K mg "_law_cell_at" (top 20) ["_law_script","_law_k"]):Callee P w K mg base 1 "_law_cell_at" ["_law_script","_law_k"] (ak4 K):=by
 refine D.ok P1 (fun vs H Q E h=>?_) (fun f cdv A outer s H vs Q E hr h=>?_)
 ·obtain ⟨a,ns,k,rfl,_⟩:=h
  rfl
 obtain ⟨a,ns,k,rfl,hS,q⟩:=h
 refine ⟨_,(e6 (q0 (m3 aH1 (pv 1) (j2 (z7 K) rfl T.m_len boot_len (b8 (pv 0) g7 b9)) (o5 _)) (h7 (j8 (m4 (m8 K) (pv 0) (pv 1) (fun _ _=>rfl)))) m7)
  (h7 (j8 e7))),?_⟩
 refine ⟨_,rfl,_,rfl,a,_,rfl,.inl hS,_,_,rfl,rfl,_,rfl,?_⟩
 refine E3 (fun c=>?_) (fun c=>?_)
 ·have c':(k:Int) < (((ns.map V.int).length:Nat):Int):=of_decide_eq_true c
  rw [List.length_map] at c'
  exact ⟨_,rfl,_,rfl,a,_,_,_,rfl,rfl,hS,ad2 (by lia),q⟩
 ·have c':¬ (k:Int) < (((ns.map V.int).length:Nat):Int):=of_decide_eq_false (Bool.eq_false_iff.mpr c)
  rw [List.length_map] at c'
  have e:cell ns k = 0:=by simp [cell,List.getD,List.getElem?_eq_none (show ns.length ≤ k by lia)]
  rw [e] at q
  exact q
theorem u7:FnScope ["_law_script","_law_sizes","_law_k","_law_number_here","_law_most"] ["_law_script"] (g6 (top 21)):=⟨rfl,rfl,rfl,by decide +kernel,rfl,by decide +kernel,by decide +kernel⟩
theorem as5 (T:Txt K mg) (C__law_cell_at:Callee P w K mg base 1 "_law_cell_at" ["_law_script","_law_k"] (ak4 K)) (D:Def K mg "_law_hall" (top 21) ["_law_script"]):Callee P w K mg base 2 "_law_hall" ["_law_script"] (ao2 K):=by
 refine D.ok u7 (fun vs H Q E h=>?_) (fun f cdv A outer s H vs Q E hr h=>?_)
 ·obtain ⟨a,ns,rfl,_⟩:=h
  rfl
 obtain ⟨a,ns,rfl,hS,q⟩:=h
 refine ⟨_,(e6 (i4 (i:=1) u7.nd rfl (Or.inl rfl) (o9 g7))
  (e6 (y9 PassesOwn.never rfl (y4 rfl T.m_range (b8 e7 g7 i5)) (n5 (i:=2) u7.nd rfl (Or.inl rfl))
  (e6 (i4 (i:=3) u7.nd rfl (Or.inl rfl) (i3 z8 (i3 n9 (i3 n4 (y1 C__law_cell_at hr rfl (b8 (pv 0) (b8 (pv 2) g7 b9) b9)) (i3 V5 e7 e7)) (i3 z8 (i3 n9 e7 (pv 2)) e7)) (i3 n9 e7 (pv 2))))
  (e6 (i4 (i:=4) u7.nd rfl (Or.inl rfl) (m4 (m8 K) (o9 (b8 e7 (b8 e7 (b8 e7 (b8 e7 (b8 e7 g7 i5) i5) i5) i5) i5)) (pv 2) (fun _ _=>rfl)))
  (e6 (q0 (m3 D4 (i3 n4 (y1 C__law_cell_at hr rfl (b8 (pv 0) (b8 e7 g7 i5) b9)) e7) e7 (o5 _)) (h7 (i4 (i:=4) u7.nd rfl (Or.inl rfl) (m4 (m8 K) (o9 (b8 e7 (b8 e7 (b8 e7 (b8 e7 (b8 e7 g7 i5) i5) i5) i5) i5)) (pv 2) (fun _ _=>rfl)))) m7)
  (h7 (A0 (A2 K PySem.F.plainAttrs_list PySem.F.slot_list_append PySem.F.type_list_append q9 (pv 1) (b8 (i3 z8 e7 (i3 n4 (i3 n4 (pv 3) e7) (pv 4))) g7 E6))))))))
  (h7 (j8 (z9 (O2 K) rfl T.m_tuple boot_tuple (b8 (pv 1) g7 b9)))))),?_⟩
 refine ⟨(by show 0 ≤ sizeLine; decide),fun l hl=>?_⟩
 have el:=d9 (H:=H) (a:=l) (o:=.lst [])
 have s1:=g9 hl (.lst [])
 generalize upd H l (.lst []) = H1 at el s1 ⊢
 refine ⟨_,rfl,by decide,by decide,?_⟩
 refine z4 (lo:=0) (n:=5) (fun i σ H'=>j0 H H' ∧ ∃ xs:List Int,xs.length = i ∧ (∀ j x,xs[j]? = some x → 1 ≤ x ∧ x ≤ R7 j) ∧ H' l = some (.lst (xs.map V.int)) ∧ ∃ v2 v3 v4,σ = [some (.ref a),some (.ref l),v2,v3,v4])
  ⟨s1,[],rfl,(fun j x hx=>by simp at hx),el,none,none,none,rfl⟩ ?_ ?_
 ·rintro i σ H' hi ⟨s2,xs,hlen,hx,el2,v2,v3,v4,rfl⟩
  rw [Int.zero_add]
  obtain ⟨⟨m1,a1,b1,c1⟩,m2,a2,b2,c2⟩:=aw4 hi
  have fin:∀ (H3:Hp),j0 H' H3 → ∀ n m:Int,1 ≤ m → m ≤ R7 i → H3 l = some (.lst (xs.map V.int)) ∧ (xs.map V.int).length < sizeLine ∧ (∃ xs':List Int,xs'.length = i + 1 ∧ (∀ j x,xs'[j]? = some x → 1 ≤ x ∧ x ≤ R7 j) ∧ upd H3 l (.lst (xs.map V.int ++ [.int (1 + n % 999983 % m)])) l = some (.lst (xs'.map V.int))) ∧ j0 H (upd H3 l (.lst (xs.map V.int ++ [.int (1 + n % 999983 % m)]))):=fun H3 s3 n m hm1 hm2=>by
   refine ⟨s3 _ _ el2,j4 (by rw [List.length_map]; lia),⟨xs ++ [1 + n % 999983 % m],by rw [List.length_append,hlen]; rfl,fun j x hj=>?_,by rw [d9,List.map_append]; rfl⟩,j0.put (s2.trans s3) hl⟩
   rcases Nat.lt_trichotomy j xs.length with c | c | c
   ·rw [List.getElem?_append_left c] at hj
    exact hx j x hj
   ·rw [c,List.getElem?_concat_length] at hj
    cases hj
    rw [c,hlen]
    have h1:=Int.emod_nonneg (n % 999983) (show m ≠ 0 by lia)
    have h2:=Int.emod_lt_of_pos (n % 999983) (show 0 < m by lia)
    lia
   ·rw [List.getElem?_eq_none (by rw [List.length_append,List.length_singleton]; lia)] at hj
    cases hj
  refine ⟨_,rfl,_,rfl,a,ns,i,rfl,s2.seq hS,_,_,rfl,rfl,⟨by decide,by decide,by decide⟩,_,_,rfl,rfl,(by show (0:Int) < 10 ^ 18; decide),_,rfl,_,_,rfl,rfl,.inl ⟨by decide,by decide⟩,_,_,rfl,rfl,_,_,rfl,rfl,.inr ⟨by lia,by lia⟩,_,rfl,_,_,rfl,rfl,.inl ⟨by decide,by decide⟩,_,_,rfl,rfl,?_⟩
  refine ⟨(by show 5 ≤ sizeLine; decide),fun l1 hl1=>?_⟩
  have el1:=d9 (H:=H') (a:=l1) (o:=.lst [.int 4,.int 4,.int 6,.int 4,.int 4])
  have s3:=g9 hl1 (.lst [.int 4,.int 4,.int 6,.int 4,.int 4])
  refine ⟨_,rfl,l1,_,_,_,rfl,rfl,SqL.of el1,a1,?_⟩
  generalize upd H' l1 (.lst [.int 4,.int 4,.int 6,.int 4,.int 4]) = H3 at s3 ⊢
  have s23:=s2.trans s3
  refine ⟨_,rfl,a,ns,5,rfl,s23.seq hS,_,_,rfl,rfl,(by show (0:Int) < 5; decide),rfl,_,rfl,?_⟩
  refine E3 (fun _=>?_) (fun _=>?_)
  ·refine ⟨(by show 5 ≤ sizeLine; decide),fun l2 hl2=>?_⟩
   have el3:=d9 (H:=H3) (a:=l2) (o:=.lst [.int 12,.int 12,.int 24,.int 12,.int 12])
   have s4:=s3.trans (g9 hl2 (.lst [.int 12,.int 12,.int 24,.int 12,.int 12]))
   refine ⟨_,rfl,l2,_,_,_,rfl,rfl,SqL.of el3,a2,?_⟩
   obtain ⟨f1,f2,⟨xs',g1,g2,g3⟩,f4⟩:=fin _ s4 (cell ns i % 10 ^ Int.toNat 18 * (2 * (i:Int) + 48271) + 7 * (i:Int)) m2 b2 c2
   exact ⟨_,rfl,.inl ⟨rfl,_,SqL.of f1⟩,_,rfl,_,_,rfl,rfl,(by show (0:Int) < 999983; decide),_,rfl,_,_,rfl,rfl,(by show (0:Int) < m2; lia),_,_,rfl,rfl,l,xs.map V.int,_,rfl,rfl,f1,f2,f4,xs',g1,g2,g3,_,_,_,rfl⟩
  ·obtain ⟨f1,f2,⟨xs',g1,g2,g3⟩,f4⟩:=fin _ s3 (cell ns i % 10 ^ Int.toNat 18 * (2 * (i:Int) + 48271) + 7 * (i:Int)) m1 b1 c1
   exact ⟨_,rfl,.inl ⟨rfl,_,SqL.of f1⟩,_,rfl,_,_,rfl,rfl,(by show (0:Int) < 999983; decide),_,rfl,_,_,rfl,rfl,(by show (0:Int) < m1; lia),_,_,rfl,rfl,l,xs.map V.int,_,rfl,rfl,f1,f2,f4,xs',g1,g2,g3,_,_,_,rfl⟩
 ·rintro σ H' ⟨s2,xs,hlen,hx,el2,v2,v3,v4,rfl⟩
  match xs,hlen with
  | [x0,x1,x2,x3,x4],_ =>
   refine ⟨_,rfl,l,_,rfl,.inl ⟨SqL.of el2,fun p hp=>?_⟩⟩
   refine q p ⟨x0,x1,x2,x3,x4⟩ _ ?_ (s2.trans (g9 hp _)) d9
   exact ⟨hx 0 x0 rfl,hx 1 x1 rfl,hx 2 x2 rfl,hx 3 x3 rfl,hx 4 x4 rfl⟩
end
theorem Q0 (es:List Int):(es.map V.int).all L8 = true:=by
 rw [List.all_eq_true]
 intro x hx
 obtain ⟨p,_,rfl⟩:=List.mem_map.mp hx
 rfl
theorem M5 (e:Int) (es:List Int):inV (.int e) (es.map V.int) = decide (e ∈ es):=by
 unfold inV
 rw [List.any_map]
 rw [Bool.eq_iff_iff,List.any_eq_true,decide_eq_true_iff]
 constructor
 ·rintro ⟨q,hq,e'⟩
  have e':(q == e) = true:=e'
  exact eq_of_beq e' ▸ hq
 ·intro h
  exact ⟨e,h,beq_self_eq_true e⟩
structure EndsOk (h:Hall) (xs:List Int):Prop where
 nd:xs.Nodup
 es:∀ e ∈ xs,0 ≤ e ∧ e < h.o * h.e
 some:xs ≠ []
 few:xs.length ≤ 12
theorem ac0 {x d:Int} (h:0 < d):0 ≤ x % d ∧ x % d < d:=⟨Int.emod_nonneg _ (by lia),Int.emod_lt_of_pos _ h⟩
def ap2 (K:PySem.W.Frag):Sp:=fun vs H Q _=>∃ (a:Addr) (h:Hall) (n:Int),vs = [.ref a,.int n] ∧ SqT K H a (h.row.map V.int) ∧ h.Ok ∧ ∀ (l:Addr) (es:List Int) (H':Hp),j0 H H' → H l = none → H' l = some (.lst (es.map V.int)) → EndsOk h es → Q (.ref l) H'
section
variable {P:Program} {w:World} {K:PySem.W.Frag} {mg:Str → Option Value} {base:Heap}
theorem o4:FnScope ["_law_hall_here","_law_number_here","_law_ends_here","_law_left","_law_many","_law_k","_law_end"] ["_law_hall_here","_law_number_here"] (g6 (top 22)):=⟨rfl,rfl,rfl,by decide +kernel,rfl,by decide +kernel,by decide +kernel⟩
theorem av8 (T:Txt K mg) (D:Def K mg "_law_ends" (top 22) ["_law_hall_here","_law_number_here"]):Callee P w K mg base 1 "_law_ends" ["_law_hall_here","_law_number_here"] (ap2 K):=by
 refine D.ok o4 (fun vs H Q E h=>?_) (fun f cdv A outer s H vs Q E hr h=>?_)
 ·obtain ⟨a,h,n,rfl,_⟩:=h
  rfl
 obtain ⟨a,h,n,rfl,hH,ok,q⟩:=h
 have b1:=ok.oe
 have b2:=ok.o
 have b3:=ok.e
 refine ⟨_,(e6 (i4 (i:=2) o4.nd rfl (Or.inl rfl) (o9 g7))
  (e6 (i4 (i:=3) o4.nd rfl (Or.inl rfl) (i3 Y4 (pv 1) (i3 V5 e7 e7)))
  (e6 (i4 (i:=4) o4.nd rfl (Or.inl rfl) (i3 z8 e7 (i3 n4 (i3 n4 (i3 n9 (pv 1) e7) e7) e7)))
  (e6 (q0 (m3 D4 (i3 n4 (i3 n4 (i3 n9 (pv 1) e7) e7) e7) e7 (o5 _)) (h7 (i4 (i:=4) o4.nd rfl (Or.inl rfl) (i3 z8 e7 (i3 n4 (i3 n4 (i3 n9 (pv 1) e7) e7) e7)))) m7)
  (e6 (y9 PassesOwn.never rfl (y4 rfl T.m_range (b8 (pv 4) g7 b9)) (n5 (i:=5) o4.nd rfl (Or.inl rfl))
  (e6 (i4 (i:=6) o4.nd rfl (Or.inl rfl) (i3 n4 (i3 n4 (i3 n9 (pv 1) (i3 z8 e7 (i3 n9 (i3 n9 e7 (pv 5)) (pv 5)))) e7) (i3 n9 (m4 (m6 K) (pv 0) e7 (fun _ _=>rfl)) (m4 (m6 K) (pv 0) e7 (fun _ _=>rfl)))))
  (e6 (q0 (m3 aH6 (pv 1) (i3 V5 e7 e7) (o5 _)) (e6 (i4 (i:=6) o4.nd rfl (Or.inl rfl) (i3 n4 (pv 3) (i3 n9 (m4 (m6 K) (pv 0) e7 (fun _ _=>rfl)) (m4 (m6 K) (pv 0) e7 (fun _ _=>rfl)))))
  (h7 (i4 (i:=3) o4.nd rfl (Or.inl rfl) (i3 F1 (pv 3) (i3 n9 (m4 (m6 K) (pv 0) e7 (fun _ _=>rfl)) (m4 (m6 K) (pv 0) e7 (fun _ _=>rfl))))))) m7)
  (h7 (q0 (m3 (aj0 K) (pv 6) (pv 2) (by with_unfolding_all rfl)) (h7 (A0 (A2 K PySem.F.plainAttrs_list PySem.F.slot_list_append PySem.F.type_list_append q9 (pv 2) (b8 (pv 6) g7 b9)))) m7)))))
  (h7 (j8 (pv 2)))))))),?_⟩
 refine ⟨(by show 0 ≤ sizeLine; decide),fun l hl=>?_⟩
 have el:=d9 (H:=H) (a:=l) (o:=.lst [])
 have s1:=g9 hl (.lst [])
 generalize upd H l (.lst []) = H1 at el s1 ⊢
 refine ⟨_,rfl,_,_,rfl,rfl,⟨by decide,by decide,by decide⟩,_,_,rfl,rfl,⟨by show (0:Int) < 10 ^ 18; decide,by show (10:Int) ^ 18 < 18446744073709551616; decide⟩,?_⟩
 refine ⟨_,rfl,_,_,rfl,rfl,.inr ⟨by decide,by decide⟩,_,_,rfl,rfl,(by show (0:Int) < 999961; decide),_,_,rfl,rfl,(by show (0:Int) < 3; decide),_,_,rfl,rfl,?_⟩
 refine ⟨_,rfl,_,_,rfl,rfl,.inr ⟨by decide,by decide⟩,_,_,rfl,rfl,(by show (0:Int) < 999863; decide),_,_,rfl,rfl,(by show (0:Int) < 6; decide),rfl,_,rfl,?_⟩
 refine E3 (fun _=>⟨_,rfl,_,_,rfl,rfl,.inr ⟨by decide,by decide⟩,_,_,rfl,rfl,(by show (0:Int) < 999961; decide),_,_,rfl,rfl,(by show (0:Int) < 12; decide),_,_,rfl,rfl,_,rfl,_,rfl,by show -(2 ^ 62) ≤ 1 + n * 16807 % 999961 % 12; omega,by show 1 + n * 16807 % 999961 % 12 < 2 ^ 62; omega,?_⟩) (fun _=>⟨_,rfl,_,rfl,by show -(2 ^ 62) ≤ 1 + n * 16807 % 999961 % 3; omega,by show 1 + n * 16807 % 999961 % 3 < 2 ^ 62; omega,?_⟩)
 all_goals
  refine z4 (fun i σ H'=>j0 H H' ∧ ∃ es:List Int,es.Nodup ∧ (∀ e ∈ es,0 ≤ e ∧ e < h.o * h.e) ∧ (i = 0 ∨ es ≠ []) ∧ es.length ≤ i ∧ H' l = some (.lst (es.map V.int)) ∧ ∃ v3 v4 v5 v6,σ = [some (.ref a),some (.int n),some (.ref l),some (.int v3),v4,v5,v6])
   ⟨s1,[],List.nodup_nil,(fun e he=>nomatch he),.inl rfl,Nat.le_refl _,el,_,_,none,none,rfl⟩ ?_ ?_
  ·rintro i σ H' hi ⟨s2,es,d1,d2,d3,d4,el2,v3,v4,v5,v6,rfl⟩
   have hi:i < 12:=by omega
   rw [Int.zero_add]
   have hk2:0 ≤ 2 * (i:Int) * (i:Int) ∧ 2 * (i:Int) * (i:Int) ≤ 24 * 12:=⟨Int.mul_nonneg (by omega) (by omega),Int.mul_le_mul (by omega) (by omega) (by omega) (by omega)⟩
   have hH2:=j0.seqT s2 hH
   refine ⟨_,rfl,_,rfl,_,_,rfl,rfl,.inl ⟨by decide,by decide⟩,_,rfl,_,_,rfl,rfl,.inr ⟨by omega,by omega⟩,_,_,rfl,rfl,_,_,rfl,rfl,.inr ⟨by omega,by omega⟩,_,_,rfl,rfl,(by show (0:Int) < 999983; decide),_,rfl,a,_,_,_,rfl,rfl,hH2,rfl,_,rfl,a,_,_,_,rfl,rfl,hH2,rfl,_,_,rfl,rfl,.inl ⟨by omega,by omega⟩,_,_,rfl,rfl,(by show 0 < h.o * h.e; omega),?_⟩
   refine ⟨_,rfl,_,_,rfl,rfl,⟨by decide,by decide,by decide⟩,_,_,rfl,rfl,_,rfl,?_⟩
   have key:∀ x:Int,(!inV (.int x) (es.map V.int)) = true → ¬ x ∈ es:=fun x c=>by rw [M5] at c; simpa using c
   have key2:∀ x:Int,¬ (!inV (.int x) (es.map V.int)) = true → x ∈ es:=fun x c=>by rw [M5] at c; simpa using c
   have fin:∀ x:Int,0 ≤ x ∧ x < h.o * h.e → ¬ x ∈ es → (j0 H (upd H' l (.lst (es.map V.int ++ [.int x])))) ∧ ∃ es':List Int,es'.Nodup ∧ (∀ e ∈ es',0 ≤ e ∧ e < h.o * h.e) ∧ (i + 1 = 0 ∨ es' ≠ []) ∧ es'.length ≤ i + 1 ∧ upd H' l (.lst (es.map V.int ++ [.int x])) l = some (.lst (es'.map V.int)):=fun x hx hn=>by
    refine ⟨j0.put s2 hl,es ++ [x],List.nodup_append.mpr ⟨d1,by simp,fun y hy z hz=>?_⟩,fun e he=>?_,.inr (by simp),by rw [List.length_append,List.length_singleton]; omega,by rw [d9,List.map_append]; rfl⟩
    ·rw [List.mem_singleton] at hz
     exact fun e=>hn (by rw [← hz,← e]; exact hy)
    ·rcases List.mem_append.mp he with c | c
     ·exact d2 e c
     ·rw [List.mem_singleton] at c
      rw [c]; exact hx
   refine E3 (fun _=>⟨_,rfl,_,rfl,a,_,_,_,rfl,rfl,hH2,rfl,_,rfl,a,_,_,_,rfl,rfl,hH2,rfl,_,_,rfl,rfl,.inl ⟨by omega,by omega⟩,_,_,rfl,rfl,(by show 0 < h.o * h.e; omega),_,rfl,_,rfl,a,_,_,_,rfl,rfl,hH2,rfl,_,rfl,a,_,_,_,rfl,rfl,hH2,rfl,_,_,rfl,rfl,.inl ⟨by omega,by omega⟩,_,_,rfl,rfl,⟨by show 0 < h.o * h.e; omega,by show h.o * h.e < 1073741824; omega⟩,?_⟩) (fun _=>?_)
   all_goals
    refine ⟨_,rfl,_,rfl,l,_,rfl,.inl (SqL.of el2),rfl,Q0 es,_,rfl,?_⟩
    refine E3 (fun c=>?_) (fun c=>?_)
    ·have c':=key _ c
     obtain ⟨g0,es',g1,g2,g3,g4,g5⟩:=fin _ (ac0 (by omega)) c'
     exact ⟨_,rfl,.inl ⟨rfl,_,SqL.of el2⟩,_,rfl,l,_,_,rfl,rfl,el2,j4 (by rw [List.length_map]; omega),g0,es',g1,g2,g3,g4,g5,_,_,_,_,rfl⟩
    ·have c':=key2 _ c
     exact ⟨s2,es,d1,d2,.inr (List.ne_nil_of_mem c'),by omega,el2,_,_,_,_,rfl⟩
  ·rintro σ H' ⟨s2,es,d1,d2,d3,d4,el2,v3,v4,v5,v6,rfl⟩
   exact ⟨_,rfl,q l es H' s2 hl el2 ⟨d1,d2,d3.resolve_left (by omega),by omega⟩⟩
end
def nIn (r k:Int):List Key:=[.inr "in",.inl r,.inl k]
def G0 (r k:Int):List Key:=[.inr "out",.inl r,.inl k]
def j7 (h:Hall) (k:Int) (acc:List (List Key)) (e:Int):List (List Key):=if inD acc (G0 (e / h.e) k) then acc else acc ++ [G0 (e / h.e) k]
def M9 (h:Hall) (c:Int) (es:List Int) (k:Int):List (List Key):=es.foldl (j7 h k) [nIn (c / h.c) k]
theorem D8 (h:Hall) (k:Int) (d:List Key):∀ (es:List Int) (acc:List (List Key)),d ∈ es.foldl (j7 h k) acc ↔ d ∈ acc ∨ ∃ e ∈ es,d = G0 (e / h.e) k
 | [],acc=>by simp
 | e :: t,acc=>by
  rw [List.foldl_cons,D8 h k d t]
  have st:d ∈ j7 h k acc e ↔ d ∈ acc ∨ d = G0 (e / h.e) k:=by
   unfold j7
   by_cases c:inD acc (G0 (e / h.e) k) = true
   ·rw [if_pos c]
    have c':=af6.mp c
    constructor
    ·exact .inl
    ·rintro (g | g)
     ·exact g
     ·rw [g]; exact c'
   ·rw [if_neg c,List.mem_append,List.mem_singleton]
  rw [st]
  constructor
  ·rintro ((g | g) | ⟨x,hx,g⟩)
   ·exact .inl g
   ·exact .inr ⟨e,List.mem_cons_self ..,g⟩
   ·exact .inr ⟨x,List.mem_cons_of_mem _ hx,g⟩
  ·rintro (g | ⟨x,hx,g⟩)
   ·exact .inl (.inl g)
   ·rcases List.mem_cons.mp hx with rfl | hx
    ·exact .inl (.inr g)
    ·exact .inr ⟨x,hx,g⟩
theorem ag3 {h:Hall} {c:Int} {es:List Int} {k:Int} {d:List Key}:d ∈ M9 h c es k ↔ d = nIn (c / h.c) k ∨ ∃ e ∈ es,d = G0 (e / h.e) k:=by
 unfold M9
 rw [D8,List.mem_singleton]
theorem z3 (h:Hall) (k:Int):∀ (es:List Int) (acc:List (List Key)),(es.foldl (j7 h k) acc).length ≤ acc.length + es.length
 | [],acc=>by simp
 | e :: t,acc=>by
  have ih:=z3 h k t (j7 h k acc e)
  have:(j7 h k acc e).length ≤ acc.length + 1:=by
   unfold j7
   split <;> simp
  rw [List.foldl_cons,List.length_cons]
  lia
theorem T4 (h:Hall) (c:Int) (es:List Int) (k:Int):(M9 h c es k).length ≤ 1 + es.length:=z3 h k es _
def x6 (H:Hp) (as:List Addr) (ds:List (List Key)):Prop:=Paired (fun a d=>H a = some (.tup (d.map kV))) as ds
def Z3 (H:Hp) (l:Addr) (ds:List (List Key)):Prop:=∃ as:List Addr,H l = some (.lst (as.map V.ref)) ∧ x6 H as ds
theorem x6.same {H H':Hp} {as:List Addr} {ds:List (List Key)} (s:∀ b xs,H b = some (.tup xs) → H' b = some (.tup xs)) (h:x6 H as ds):x6 H' as ds:=by
 unfold x6 at h ⊢
 exact A8 h fun a d _ e=>s _ _ e
theorem Z3.push {H:Hp} {l p:Addr} {as:List Addr} {ds:List (List Key)} {d:List Key} (e:H l = some (.lst (as.map V.ref))) (h:x6 H as ds) (hp:H p = some (.tup (d.map kV))) :
  Z3 (upd H l (.lst (as.map V.ref ++ [.ref p]))) l (ds ++ [d]):=by
 have hpl:p ≠ l:=fun z=>by rw [z,e] at hp; cases hp
 refine ⟨as ++ [p],by rw [d9,List.map_append]; rfl,Paired.snoc (x6.same (fun b xs hb=>?_) h) ?_⟩
 ·have hbl:b ≠ l:=fun z=>by rw [z,e] at hb; cases hb
  rw [h9 hbl]
  exact hb
 ·show upd _ l _ p = _
  rw [h9 hpl]
  exact hp
def af5 (K:PySem.W.Frag):Sp:=fun vs H Q _=>∃ (a e:Addr) (h:Hall) (c k:Int) (es:List Int),vs = [.ref a,.int c,.ref e,.int k] ∧ SqT K H a (h.row.map V.int) ∧ h.Ok ∧ (SqT K H e (es.map V.int) ∨ SqL K H e (es.map V.int)) ∧ es.length ≤ 12 ∧
 ∀ (l:Addr) (as:List Addr) (H':Hp),j0 H H' → H l = none → H' l = some (.lst (as.map V.ref)) → x6 H' as (M9 h c es k) → Q (.ref l) H'
section
variable {P:Program} {w:World} {K:PySem.W.Frag} {mg:Str → Option Value} {base:Heap}
theorem p0:FnScope ["_law_hall_here","_law_caller","_law_ends_here","_law_k","_law_lines_here","_law_end","_law_line"] ["_law_hall_here","_law_caller","_law_ends_here","_law_k"] (g6 (top 23)):=⟨rfl,rfl,rfl,by decide +kernel,rfl,by decide +kernel,by decide +kernel⟩
theorem al5 (T:Txt K mg) (D:Def K mg "_law_lines" (top 23) ["_law_hall_here","_law_caller","_law_ends_here","_law_k"]):Callee P w K mg base 1 "_law_lines" ["_law_hall_here","_law_caller","_law_ends_here","_law_k"] (af5 K):=by
 refine D.ok p0 (fun vs H Q E h=>?_) (fun f cdv A outer s H vs Q E hr h=>?_)
 ·obtain ⟨a,e,h,c,k,es,rfl,_⟩:=h
  rfl
 obtain ⟨a,e,h,c,k,es,rfl,hH,ok,hE,few,q⟩:=h
 have o2:=ok.c
 have o3:=ok.e
 rcases hE with hE | hE
 ·refine ⟨_,(e6 (i4 (i:=4) p0.nd rfl (Or.inl rfl) (o9 (b8 (J7 (b8 p6 (b8 (i3 F1 (pv 1) (m4 (m6 K) (pv 0) e7 (fun _ _=>rfl))) (b8 (pv 3) g7 b9) E6) i5)) g7 ac7)))
  (e6 (y9 PassesOwn.never rfl (as9 K (pv 2)) (n5 (i:=5) p0.nd rfl (Or.inl rfl))
  (e6 (i4 (i:=6) p0.nd rfl (Or.inl rfl) (J7 (b8 p6 (b8 (i3 F1 (pv 5) (m4 (m6 K) (pv 0) e7 (fun _ _=>rfl))) (b8 (pv 3) g7 b9) E6) i5)))
  (h7 (q0 (m3 (Q9 K (Room.unitsT hr)) (pv 6) (pv 4) (by with_unfolding_all rfl)) (h7 (A0 (A2 K PySem.F.plainAttrs_list PySem.F.slot_list_append PySem.F.type_list_append q9 (pv 4) (b8 (pv 6) g7 b9)))) m7))))
  (h7 (j8 (pv 4))))),?_⟩
  refine ⟨_,rfl,_,rfl,a,_,_,_,rfl,rfl,hH,rfl,_,_,rfl,rfl,⟨by lia,by lia⟩,_,rfl,(by show 3 ≤ sizeLine; decide),fun t1 ht1=>?_⟩
  have e1:=d9 (H:=H) (a:=t1) (o:=.tup [.str "in",.int (c / h.c),.int k])
  have s1:=g9 ht1 (.tup [.str "in",.int (c / h.c),.int k])
  generalize upd H t1 (.tup [.str "in",.int (c / h.c),.int k]) = H1 at e1 s1 ⊢
  refine ⟨(by show 1 ≤ sizeLine; decide),fun l hl=>?_⟩
  have bag0:Z3 (upd H1 l (.lst [.ref t1])) l [nIn (c / h.c) k]:=⟨[t1],d9,.cons (g9 hl _ _ _ e1) .nil⟩
  have sl:=g9 hl (.lst [.ref t1])
  generalize upd H1 l (.lst [.ref t1]) = H3 at bag0 sl ⊢
  have s3:=s1.trans sl
  refine ⟨_,rfl,e,rfl,⟨_,j0.seqT s3 hE⟩,?_⟩
  refine at5 (xs:=es.map V.int) (fun i σ H'=>j0 H1 H' ∧ Z3 H' l ((es.take i).foldl (j7 h k) [nIn (c / h.c) k]) ∧ ∃ v5 v6,σ = [some (.ref a),some (.int c),some (.ref e),some (.int k),some (.ref l),v5,v6])
   ⟨sl,bag0,none,none,rfl⟩ (fun i σ H' _ g=>j0.seqT (s1.trans g.1) hE) ?_ ?_
  ·rintro i x σ H' hx ⟨s5,⟨as,b1,b2⟩,v5,v6,rfl⟩
   rw [List.getElem?_map] at hx
   obtain ⟨y,hy,rfl⟩:=Option.map_eq_some_iff.mp hx
   have hlen:=z3 h k (es.take i) [nIn (c / h.c) k]
   have hlt:(es.take i).length ≤ 12:=by rw [List.length_take]; lia
   rw [List.length_singleton] at hlen
   have step:(es.take (i + 1)).foldl (j7 h k) [nIn (c / h.c) k] = j7 h k ((es.take i).foldl (j7 h k) [nIn (c / h.c) k]) y:=by
    rw [List.take_succ,hy,List.foldl_append]
    rfl
   rw [step]
   generalize (es.take i).foldl (j7 h k) [nIn (c / h.c) k] = ds at b2 hlen
   have hn:=Paired.length b2
   have hH5:=j0.seqT (s1.trans s5) hH
   refine ⟨_,rfl,_,rfl,a,_,_,_,rfl,rfl,hH5,rfl,_,_,rfl,rfl,⟨by lia,by lia⟩,_,rfl,(by show 3 ≤ sizeLine; decide),fun u hu=>?_⟩
   have eu:=d9 (H:=H') (a:=u) (o:=.tup [.str "out",.int (y / h.e),.int k])
   have s6:=g9 hu (.tup [.str "out",.int (y / h.e),.int k])
   generalize upd H' u (.tup [.str "out",.int (y / h.e),.int k]) = H6 at eu s6 ⊢
   have c1:=s6 _ _ b1
   have c2:=x6.same (fun b xs hb=>s6 _ _ hb) b2
   refine ⟨_,rfl,_,rfl,l,u,as,G0 (y / h.e) k,ds,rfl,rfl,SqL.of c1,SqT.of eu,A8 c2 (fun _ _ _ z=>SqT.of z),_,rfl,?_⟩
   refine E3 (fun cc=>?_) (fun cc=>?_)
   ·have cc':inD ds (G0 (y / h.e) k) = false:=by simpa using cc
    refine ⟨_,rfl,.inl ⟨rfl,_,SqL.of c1⟩,_,rfl,l,as.map V.ref,.ref u,rfl,rfl,c1,j4 (by rw [List.length_map,hn]; lia),?_⟩
    refine ⟨j0.put (s5.trans s6) hl,?_,_,_,rfl⟩
    unfold j7
    rw [if_neg (by rw [cc']; exact Bool.false_ne_true)]
    exact Z3.push (d:=G0 (y / h.e) k) c1 c2 eu
   ·have cc':inD ds (G0 (y / h.e) k) = true:=by simpa using cc
    refine ⟨s5.trans s6,?_,_,_,rfl⟩
    unfold j7
    rw [if_pos cc']
    exact ⟨as,c1,c2⟩
  ·rintro σ H' ⟨s5,⟨as,b1,b2⟩,v5,v6,rfl⟩
   rw [List.length_map,List.take_length] at b2
   exact ⟨_,rfl,q l as H' (s1.trans s5) (s1.free hl) b1 b2⟩
 ·refine ⟨_,(e6 (i4 (i:=4) p0.nd rfl (Or.inl rfl) (o9 (b8 (J7 (b8 p6 (b8 (i3 F1 (pv 1) (m4 (m6 K) (pv 0) e7 (fun _ _=>rfl))) (b8 (pv 3) g7 b9) E6) i5)) g7 ac7)))
  (e6 (y9 PassesOwn.never rfl (t4 K (pv 2)) (n5 (i:=5) p0.nd rfl (Or.inl rfl))
  (e6 (i4 (i:=6) p0.nd rfl (Or.inl rfl) (J7 (b8 p6 (b8 (i3 F1 (pv 5) (m4 (m6 K) (pv 0) e7 (fun _ _=>rfl))) (b8 (pv 3) g7 b9) E6) i5)))
  (h7 (q0 (m3 (Q9 K (Room.unitsT hr)) (pv 6) (pv 4) (by with_unfolding_all rfl)) (h7 (A0 (A2 K PySem.F.plainAttrs_list PySem.F.slot_list_append PySem.F.type_list_append q9 (pv 4) (b8 (pv 6) g7 b9)))) m7))))
  (h7 (j8 (pv 4))))),?_⟩
  refine ⟨_,rfl,_,rfl,a,_,_,_,rfl,rfl,hH,rfl,_,_,rfl,rfl,⟨by lia,by lia⟩,_,rfl,(by show 3 ≤ sizeLine; decide),fun t1 ht1=>?_⟩
  have e1:=d9 (H:=H) (a:=t1) (o:=.tup [.str "in",.int (c / h.c),.int k])
  have s1:=g9 ht1 (.tup [.str "in",.int (c / h.c),.int k])
  generalize upd H t1 (.tup [.str "in",.int (c / h.c),.int k]) = H1 at e1 s1 ⊢
  refine ⟨(by show 1 ≤ sizeLine; decide),fun l hl=>?_⟩
  have bag0:Z3 (upd H1 l (.lst [.ref t1])) l [nIn (c / h.c) k]:=⟨[t1],d9,.cons (g9 hl _ _ _ e1) .nil⟩
  have sl:=g9 hl (.lst [.ref t1])
  generalize upd H1 l (.lst [.ref t1]) = H3 at bag0 sl ⊢
  have s3:=s1.trans sl
  refine ⟨_,rfl,e,rfl,⟨_,j0.seq s3 hE⟩,?_⟩
  refine C1 (xs:=es.map V.int) (fun i σ H'=>j0 H1 H' ∧ Z3 H' l ((es.take i).foldl (j7 h k) [nIn (c / h.c) k]) ∧ ∃ v5 v6,σ = [some (.ref a),some (.int c),some (.ref e),some (.int k),some (.ref l),v5,v6])
   ⟨sl,bag0,none,none,rfl⟩ (fun i σ H' _ g=>j0.seq (s1.trans g.1) hE) ?_ ?_
  ·rintro i x σ H' hx ⟨s5,⟨as,b1,b2⟩,v5,v6,rfl⟩
   rw [List.getElem?_map] at hx
   obtain ⟨y,hy,rfl⟩:=Option.map_eq_some_iff.mp hx
   have hlen:=z3 h k (es.take i) [nIn (c / h.c) k]
   have hlt:(es.take i).length ≤ 12:=by rw [List.length_take]; lia
   rw [List.length_singleton] at hlen
   have step:(es.take (i + 1)).foldl (j7 h k) [nIn (c / h.c) k] = j7 h k ((es.take i).foldl (j7 h k) [nIn (c / h.c) k]) y:=by
    rw [List.take_succ,hy,List.foldl_append]
    rfl
   rw [step]
   generalize (es.take i).foldl (j7 h k) [nIn (c / h.c) k] = ds at b2 hlen
   have hn:=Paired.length b2
   have hH5:=j0.seqT (s1.trans s5) hH
   refine ⟨_,rfl,_,rfl,a,_,_,_,rfl,rfl,hH5,rfl,_,_,rfl,rfl,⟨by lia,by lia⟩,_,rfl,(by show 3 ≤ sizeLine; decide),fun u hu=>?_⟩
   have eu:=d9 (H:=H') (a:=u) (o:=.tup [.str "out",.int (y / h.e),.int k])
   have s6:=g9 hu (.tup [.str "out",.int (y / h.e),.int k])
   generalize upd H' u (.tup [.str "out",.int (y / h.e),.int k]) = H6 at eu s6 ⊢
   have c1:=s6 _ _ b1
   have c2:=x6.same (fun b xs hb=>s6 _ _ hb) b2
   refine ⟨_,rfl,_,rfl,l,u,as,G0 (y / h.e) k,ds,rfl,rfl,SqL.of c1,SqT.of eu,A8 c2 (fun _ _ _ z=>SqT.of z),_,rfl,?_⟩
   refine E3 (fun cc=>?_) (fun cc=>?_)
   ·have cc':inD ds (G0 (y / h.e) k) = false:=by simpa using cc
    refine ⟨_,rfl,.inl ⟨rfl,_,SqL.of c1⟩,_,rfl,l,as.map V.ref,.ref u,rfl,rfl,c1,j4 (by rw [List.length_map,hn]; lia),?_⟩
    refine ⟨j0.put (s5.trans s6) hl,?_,_,_,rfl⟩
    unfold j7
    rw [if_neg (by rw [cc']; exact Bool.false_ne_true)]
    exact Z3.push (d:=G0 (y / h.e) k) c1 c2 eu
   ·have cc':inD ds (G0 (y / h.e) k) = true:=by simpa using cc
    refine ⟨s5.trans s6,?_,_,_,rfl⟩
    unfold j7
    rw [if_pos cc']
    exact ⟨as,c1,c2⟩
  ·rintro σ H' ⟨s5,⟨as,b1,b2⟩,v5,v6,rfl⟩
   rw [List.length_map,List.take_length] at b2
   exact ⟨_,rfl,q l as H' (s1.trans s5) (s1.free hl) b1 b2⟩
end
structure Call where
 c:Int
 es:List Int
 k:Int
structure Call.In (k:Call) (h:Hall):Prop where
 c:0 ≤ k.c ∧ k.c < h.i * h.c
 rise:k.es.Pairwise (· < ·)
 es:∀ e ∈ k.es,0 ≤ e ∧ e < h.o * h.e
 some:k.es ≠ []
 few:k.es.length ≤ 12
 k:0 ≤ k.k ∧ k.k < h.m
def P7 (c:Int):List Key:=[.inr "caller",.inl c]
def ao4 (e:Int):List Key:=[.inr "end",.inl e]
def A1 (h:Hall) (k:Call):List (List Key):=M9 h k.c k.es k.k ++ [P7 k.c] ++ k.es.map ao4
theorem V2 {h:Hall} {k:Call} {d:List Key}:d ∈ A1 h k ↔ d = nIn (k.c / h.c) k.k ∨ (∃ e ∈ k.es,d = G0 (e / h.e) k.k) ∨ d = P7 k.c ∨ ∃ e ∈ k.es,d = ao4 e:=by
 unfold A1
 rw [List.mem_append,List.mem_append,ag3,List.mem_singleton,List.mem_map,or_assoc,or_assoc]
 have:(∃ a,a ∈ k.es ∧ ao4 a = d) ↔ ∃ e ∈ k.es,d = ao4 e:=⟨fun ⟨a,h1,h2⟩=>⟨a,h1,h2.symm⟩,fun ⟨a,h1,h2⟩=>⟨a,h1,h2.symm⟩⟩
 rw [this]
theorem ai4 {h:Hall} {k:Call} (few:k.es.length ≤ 12):(A1 h k).length ≤ 26:=by
 unfold A1
 have:=T4 h k.c k.es k.k
 rw [List.length_append,List.length_append,List.length_singleton,List.length_map]
 lia
def J5 (H:Hp) (p:Addr) (k:Call):Prop:=∃ e:Addr,H e = some (.tup (k.es.map V.int)) ∧ H p = some (.tup [.int k.c,.ref e,.int k.k])
theorem J5.same {H H':Hp} {p:Addr} {k:Call} (s:∀ b xs,H b = some (.tup xs) → H' b = some (.tup xs)) (h:J5 H p k):J5 H' p k:=by
 obtain ⟨e,h1,h2⟩:=h
 exact ⟨e,s _ _ h1,s _ _ h2⟩
def ay8 (t:Addr) (H H':Hp):Prop:=∀ b u,b ≠ t → H b = some u → H' b = some u
theorem M2 {K:PySem.W.Frag} {H:Hp}:∀ {as:List Addr} {ds:List (List Key)},x6 H as ds → Paired (aG5 K aA7 H) (as.map V.ref) ds
 | _,_,.nil=>.nil
 | _,_,.cons h t=>.cons ⟨_,_,rfl,SqT.of h,y6 _⟩ (M2 t)
theorem F9 {α β:Type} {R:α → β → Prop} {as':List α} {ds':List β} (h':Paired R as' ds'):∀ {as:List α} {ds:List β},Paired R as ds → Paired R (as ++ as') (ds ++ ds')
 | _,_,.nil=>h'
 | _,_,.cons h t=>.cons h (F9 h' t)
theorem av1 {es es':List Int} (p:es'.Perm es) (s:es'.Pairwise (· ≤ ·)) (nd:es.Nodup):es'.Pairwise (· < ·):=by
 have nd':es'.Nodup:=p.nodup_iff.mpr nd
 exact (s.and nd').imp fun {a b} ⟨h1,h2⟩=>by lia
def aq8:Sp:=fun vs H Q _=>∃ (c:Int) (i:Nat),vs = [.int c,.int i] ∧ i < 64 ∧ ∀ n:Int,0 ≤ n → Q (.int n) H
def az1 (K:PySem.W.Frag):Sp:=fun vs H Q _=>∃ (a t:Addr) (h:Hall) (n:Int) (kvs:List (List Key × V)),vs = [.ref a,.ref t,.int n] ∧ SqT K H a (h.row.map V.int) ∧ h.Ok ∧ H t = some (.dT kvs) ∧ kvs.length ≤ 10000 ∧
 (∀ H',j0 H H' → Q .non H') ∧
 ∀ (p:Addr) (k:Call) (kvs':List (List Key × V)) (H':Hp),ay8 t H H' → H' t = some (.dT kvs') → J5 H' p k → k.In h → (∀ d ∈ A1 h k,¬ (w5 kvs d).isSome = true) → (∀ d,(w5 kvs' d).isSome = true ↔ (w5 kvs d).isSome = true ∨ d ∈ A1 h k) → kvs'.length ≤ kvs.length + 26 → Q (.ref p) H'
section
variable {P:Program} {w:World} {K:PySem.W.Frag} {mg:Str → Option Value} {base:Heap}
theorem P9:FnScope ["_law_cell","_law_at"] ["_law_cell","_law_at"] (g6 (top 24)):=⟨rfl,rfl,rfl,by decide +kernel,rfl,by decide +kernel,by decide +kernel⟩
theorem aj1 (T:Txt K mg) (D:Def K mg "_law_number" (top 24) ["_law_cell","_law_at"]):Callee P w K mg base 1 "_law_number" ["_law_cell","_law_at"] aq8:=by
 refine D.ok P9 (fun vs H Q E h=>?_) (fun f cdv A outer s H vs Q E hr h=>?_)
 ·obtain ⟨c,i,rfl,_⟩:=h
  rfl
 obtain ⟨c,i,rfl,hi,q⟩:=h
 refine ⟨_,(h7 (j8 (i3 z8 (i3 n9 (j2 an0 rfl T.m_abs boot_abs (b8 (pv 0) g7 b9)) (i3 z8 (i3 n9 e7 (pv 1)) e7)) (i3 n9 (pv 1) (pv 1))))),?_⟩
 refine ⟨_,rfl,_,rfl,_,rfl,_,_,rfl,rfl,.inl ⟨by decide,by decide⟩,_,_,rfl,rfl,_,_,rfl,rfl,.inr ⟨by lia,by lia⟩,_,rfl,_,rfl,_,_,rfl,rfl,.inl ⟨by lia,by lia⟩,_,_,rfl,rfl,?_⟩
 refine q _ (Int.add_nonneg (Int.mul_nonneg ?_ (by lia)) (Int.mul_nonneg (by lia) (by lia)))
 split <;> lia
theorem t5:FnScope ["_law_hall_here","_law_taken","_law_number_here","_law_caller","_law_ends_here","_law_step","_law_k","_law_need","_law_one"] ["_law_hall_here","_law_taken","_law_number_here"] (g6 (top 25)):=⟨rfl,rfl,rfl,by decide +kernel,rfl,by decide +kernel,by decide +kernel⟩
theorem az8 (T:Txt K mg) (C__law_ends:Callee P w K mg base 1 "_law_ends" ["_law_hall_here","_law_number_here"] (ap2 K)) (C__law_lines:Callee P w K mg base 1 "_law_lines" ["_law_hall_here","_law_caller","_law_ends_here","_law_k"] (af5 K)) (D:Def K mg "_law_try" (top 25) ["_law_hall_here","_law_taken","_law_number_here"]):Callee P w K mg base 2 "_law_try" ["_law_hall_here","_law_taken","_law_number_here"] (az1 K):=by
 refine D.ok t5 (fun vs H Q E h=>?_) (fun f cdv A outer s H vs Q E hr h=>?_)
 ·obtain ⟨a,t,h,n,kvs,rfl,_⟩:=h
  rfl
 obtain ⟨a,t,h,n,kvs,rfl,hH,ok,ht,hk,qN,q⟩:=h
 have b1:=ok.ic
 have b2:=ok.i
 have b3:=ok.m
 have b4:=ok.c
 refine ⟨_,(e6 (i4 (i:=3) t5.nd rfl (Or.inl rfl) (i3 n4 (i3 n4 (i3 n9 (pv 2) e7) e7) (i3 n9 (m4 (m6 K) (pv 0) e7 (fun _ _=>rfl)) (m4 (m6 K) (pv 0) e7 (fun _ _=>rfl)))))
  (e6 (i4 (i:=4) t5.nd rfl (Or.inl rfl) (j2 (W7 K) rfl T.m_sorted boot_sorted (b8 (y1 C__law_ends hr rfl (b8 (pv 0) (b8 (pv 2) g7 b9) b9)) g7 j6)))
  (e6 (y9 PassesOwn.never rfl (y4 rfl T.m_range (b8 (j2 (T8 rfl) rfl T.m_min boot_min (b8 (m4 (m6 K) (pv 0) e7 (fun _ _=>rfl)) (b8 e7 g7 i5) C9)) g7 j6)) (n5 (i:=5) t5.nd rfl (Or.inl rfl))
  (e6 (i4 (i:=6) t5.nd rfl (Or.inl rfl) (i3 n4 (i3 z8 (i3 n4 (i3 n9 (pv 2) e7) e7) (pv 5)) (m4 (m6 K) (pv 0) e7 (fun _ _=>rfl))))
  (e6 (i4 (i:=7) t5.nd rfl (Or.inl rfl) (i3 D2 (i3 D2 (y1 C__law_lines hr rfl (b8 (pv 0) (b8 (pv 3) (b8 (pv 4) (b8 (pv 6) g7 b9) b9) b9) b9)) (o9 (b8 (J7 (b8 p6 (b8 (pv 3) g7 b9) i5)) g7 ac7))) (P6 (own:=["_law_end"]) (fr:=[]) rfl (show CompScope ["_law_hall_here","_law_taken","_law_number_here","_law_caller","_law_ends_here","_law_step","_law_k","_law_need","_law_one"] (g6 (top 25)) _ _ _ from ⟨rfl,by decide +kernel,by decide +kernel,by decide +kernel,by decide +kernel⟩) (t4 K (pv 4)) (fun cl C s H ex=>⟨(n5 (i:=0) (show (["_law_end"]:List Str).Nodup from by decide +kernel) rfl (Or.inl rfl) (Or.inr rfl)),ax6,(J7 (b8 p6 (b8 (pv 0) g7 b9) i5))⟩))))
  (h7 (q0 (m3 (aw2 K (ar7 ak2) (Room.units2 hr)) (P6 (own:=["_law_one"]) (fr:=[(1,"_law_taken")]) rfl (show CompScope ["_law_hall_here","_law_taken","_law_number_here","_law_caller","_law_ends_here","_law_step","_law_k","_law_need","_law_one"] (g6 (top 25)) _ _ _ from ⟨rfl,by decide +kernel,by decide +kernel,by decide +kernel,by decide +kernel⟩) (t4 K (pv 7)) (fun cl C s H ex=>⟨(n5 (i:=0) (show (["_law_one","_law_taken"]:List Str).Nodup from by decide +kernel) rfl (Or.inl rfl) (Or.inr rfl)),(L9 (aA0 (aE3 (ay7 hr) (pv 0) (pv 1)))),(pv 0)⟩)) (o9 g7) (o5 _)) (e6 (y9 PassesOwn.never rfl (t4 K (pv 7)) (n5 (i:=8) t5.nd rfl (Or.inl rfl))
  (h7 (au6 (ay7 hr) (pv 1) (pv 8) O3 rfl)))
  (h7 (j8 (J7 (b8 (pv 3) (b8 (z9 (O2 K) rfl T.m_tuple boot_tuple (b8 (pv 4) g7 b9)) (b8 (pv 6) g7 b9) j6) b9))))) m7)))))
  (h7 (j8 S0))))),?_⟩
 refine ⟨_,rfl,_,_,rfl,rfl,.inr ⟨by decide,by decide⟩,_,_,rfl,rfl,(by show (0:Int) < 1000003; decide),_,rfl,a,_,_,_,rfl,rfl,hH,rfl,_,rfl,a,_,_,_,rfl,rfl,hH,rfl,_,_,rfl,rfl,.inl ⟨by lia,by lia⟩,_,_,rfl,rfl,(by show 0 < h.i * h.c; lia),?_⟩
 have hc:0 ≤ n * 48271 % 1000003 % (h.i * h.c) ∧ n * 48271 % 1000003 % (h.i * h.c) < h.i * h.c:=ac0 (by lia)
 refine ⟨_,rfl,_,rfl,a,h,n,rfl,hH,ok,fun l0 es0 H0 s0 _ el0 eo=>?_⟩
 have few:=eo.few
 refine ⟨l0,es0,rfl,SqL.of el0,by lia,fun es pm up le hle=>?_⟩
 have ee:=d9 (H:=H0) (a:=le) (o:=.lst (es.map V.int))
 have s1:=s0.trans (g9 hle (.lst (es.map V.int)))
 generalize upd H0 le (.lst (es.map V.int)) = H1 at ee s1 ⊢
 have hes:∀ e ∈ es,0 ≤ e ∧ e < h.o * h.e:=fun e he=>eo.es e (pm.mem_iff.mp he)
 have hlen:es.length ≤ 12:=by rw [pm.length_eq]; exact few
 have hne:es ≠ []:=fun z=>eo.some (by rw [z] at pm; exact pm.symm.eq_nil)
 have hri:=av1 pm up eo.nd
 refine ⟨_,rfl,a,_,_,_,rfl,rfl,j0.seqT s1 hH,rfl,_,_,rfl,_,rfl,?_,?_,?_⟩
 ·show -(2 ^ 62) ≤ (if (6:Int) < h.m then 6 else h.m)
  split <;> lia
 ·show (if (6:Int) < h.m then 6 else h.m) < 2 ^ 62
  split <;> lia
 refine z4 (fun i σ H'=>j0 H H' ∧ H' le = some (.lst (es.map V.int)) ∧ ∃ c v5 v6 v7 v8,(0 ≤ c ∧ c < h.i * h.c) ∧ σ = [some (.ref a),some (.ref t),some (.int n),some (.int c),some (.ref le),v5,v6,v7,v8])
  ⟨s1,ee,_,none,none,none,none,hc,rfl⟩ ?_ ?_
 ·rintro i σ H' hi ⟨s2,ee2,c,v5,v6,v7,v8,hc,rfl⟩
  have hH2:=j0.seqT s2 hH
  refine ⟨_,rfl,_,_,rfl,rfl,.inr ⟨by decide,by decide⟩,_,_,rfl,rfl,(by show (0:Int) < 999979; decide),_,rfl,_,_,rfl,rfl,_,rfl,a,_,_,_,rfl,rfl,hH2,rfl,_,_,rfl,rfl,(by show 0 < h.m; lia),?_⟩
  have hkk:0 ≤ (n * 40692 % 999979 + (0 + (i:Int))) % h.m ∧ (n * 40692 % 999979 + (0 + (i:Int))) % h.m < h.m:=ac0 (by lia)
  refine ⟨_,rfl,_,rfl,_,rfl,_,rfl,a,le,h,c,(n * 40692 % 999979 + (0 + (i:Int))) % h.m,es,rfl,hH2,ok,.inr (SqL.of ee2),hlen,fun l1 as1 H3 s3 _ el1 tk1=>?_⟩
  refine ⟨_,rfl,(by show 2 ≤ sizeLine; decide),fun t2 ht2=>?_⟩
  have et2:=d9 (H:=H3) (a:=t2) (o:=.tup [.str "caller",.int c])
  have s4:=g9 ht2 (.tup [.str "caller",.int c])
  generalize upd H3 t2 (.tup [.str "caller",.int c]) = H4 at et2 s4 ⊢
  refine ⟨(by show 1 ≤ sizeLine; decide),fun l2 hl2=>?_⟩
  have el2:=d9 (H:=H4) (a:=l2) (o:=.lst [.ref t2])
  have s5:=g9 hl2 (.lst [.ref t2])
  generalize upd H4 l2 (.lst [.ref t2]) = H5 at el2 s5 ⊢
  have ln1:=Paired.length tk1
  have ln2:=T4 h c es ((n * 40692 % 999979 + (0 + (i:Int))) % h.m)
  refine ⟨l1,l2,as1.map V.ref,[.ref t2],rfl,rfl,s5 _ _ (s4 _ _ el1),el2,Nat.le_of_lt (j4 (by rw [List.length_map,List.length_singleton]; lia)),fun l3 hl3=>?_⟩
  have el3:=d9 (H:=H5) (a:=l3) (o:=.lst (as1.map V.ref ++ [.ref t2]))
  have s6:=g9 hl3 (.lst (as1.map V.ref ++ [.ref t2]))
  generalize upd H5 l3 (.lst (as1.map V.ref ++ [.ref t2])) = H6 at el3 s6 ⊢
  have s46:=(s4.trans s5).trans s6
  have tk3:x6 H6 (as1 ++ [t2]) (M9 h c es ((n * 40692 % 999979 + (0 + (i:Int))) % h.m) ++ [P7 c]):=Paired.snoc (x6.same (fun b xs z=>s46 _ _ z) tk1) (s6 _ _ (s5 _ _ et2))
  have el3':H6 l3 = some (.lst ((as1 ++ [t2]).map V.ref)):=by rw [el3,List.map_append]; rfl
  have ee6:=s46 _ _ (s3 _ _ ee2)
  refine ⟨_,rfl,le,rfl,⟨_,SqL.of ee6⟩,?_⟩
  refine B8 (xs:=es.map V.int) (fun j acc σ H''=>j0 H6 H'' ∧ (∃ bs,acc = bs.map V.ref ∧ x6 H'' bs ((es.take j).map ao4)) ∧ ∃ v,σ = [v])
   ⟨j0.refl H6,⟨[],rfl,.nil⟩,none,rfl⟩ (Nat.le_of_lt (j4 (by rw [List.length_map]; lia))) (fun j acc σ H'' g=>?_) (fun j acc σ H'' _ g=>SqL.of (g.1 _ _ ee6)) ?_ ?_
  ·obtain ⟨_,⟨bs,rfl,hb⟩,_⟩:=g
   have:=Paired.length hb
   rw [List.length_map,this,List.length_map,List.length_take]
   lia
  ·rintro j y acc σ H'' hy ⟨g1,⟨bs,rfl,hb⟩,v,rfl⟩
   rw [List.getElem?_map] at hy
   obtain ⟨e,he,rfl⟩:=Option.map_eq_some_iff.mp hy
   refine ⟨_,rfl,(by show 2 ≤ sizeLine; decide),fun u hu=>⟨g1.trans (g9 hu _),⟨bs ++ [u],by rw [List.map_append]; rfl,?_⟩,_,rfl⟩⟩
   rw [List.take_succ,he,List.map_append]
   exact Paired.snoc (x6.same (fun b xs z=>g9 hu _ _ _ z) hb) d9
  rintro acc σ H7 ⟨s7,⟨bs,rfl,hb⟩,v,rfl⟩ l4 hl4
  rw [List.length_map,List.take_length] at hb
  have el4:=d9 (H:=H7) (a:=l4) (o:=.lst (bs.map V.ref))
  have s8:=g9 hl4 (.lst (bs.map V.ref))
  generalize upd H7 l4 (.lst (bs.map V.ref)) = H8 at el4 s8 ⊢
  have lb:=Paired.length hb
  rw [List.length_map] at lb
  refine ⟨l3,l4,(as1 ++ [t2]).map V.ref,bs.map V.ref,rfl,rfl,s8 _ _ (s7 _ _ el3'),el4,Nat.le_of_lt (j4 (by rw [List.length_map,List.length_map,List.length_append,List.length_singleton]; lia)),fun nl hnl=>?_⟩
  have en:=d9 (H:=H8) (a:=nl) (o:=.lst ((as1 ++ [t2]).map V.ref ++ bs.map V.ref))
  have s9:=g9 hnl (.lst ((as1 ++ [t2]).map V.ref ++ bs.map V.ref))
  generalize upd H8 nl (.lst ((as1 ++ [t2]).map V.ref ++ bs.map V.ref)) = H9 at en s9 ⊢
  rw [← List.map_append] at en
  have s79:=(s7.trans s8).trans s9
  have tn:x6 H9 ((as1 ++ [t2]) ++ bs) (A1 h ⟨c,es,((n * 40692 % 999979 + (0 + (i:Int))) % h.m)⟩):=F9 (x6.same (fun b xs z=>s9 _ _ (s8 _ _ z)) hb) (x6.same (fun b xs z=>s79 _ _ z) tk3)
  generalize (as1 ++ [t2]) ++ bs = nas at en tn
  have hIn:Call.In ⟨c,es,((n * 40692 % 999979 + (0 + (i:Int))) % h.m)⟩ h:=⟨hc,hri,hes,hne,hlen,hkk⟩
  have nl26:(A1 h ⟨c,es,((n * 40692 % 999979 + (0 + (i:Int))) % h.m)⟩).length ≤ 26:=ai4 hlen
  have nn:=Paired.length tn
  have s29:j0 H H9:=s2.trans ((s3.trans s46).trans s79)
  have ht9:=s29 _ _ ht
  have ee9:H9 le = some (.lst (es.map V.int)):=s79 _ _ ee6
  generalize hds:A1 h ⟨c,es,((n * 40692 % 999979 + (0 + (i:Int))) % h.m)⟩ = ds at tn nl26 nn
  refine ⟨_,rfl,nl,rfl,⟨_,SqL.of en⟩,?_⟩
  refine B8 (xs:=nas.map V.ref) (fun j acc σ H''=>H'' = H9 ∧ (∃ bs,acc = bs.map V.ref ∧ x6 H9 bs ((ds.take j).filter fun d=>(w5 kvs d).isSome)) ∧ ∃ v,σ = [v,some (.ref t)])
   ⟨rfl,⟨[],rfl,.nil⟩,none,rfl⟩ (Nat.le_of_lt (j4 (by rw [List.length_map]; lia))) (fun j acc σ H'' g=>?_) (fun j acc σ H'' _ g=>by rw [g.1]; exact SqL.of en) ?_ ?_
  ·obtain ⟨_,⟨bs,rfl,hb⟩,_⟩:=g
   have:=Paired.length hb
   rw [List.length_map,this]
   exact Nat.le_trans (List.length_filter_le _ _) (by rw [List.length_take]; lia)
  ·rintro j y acc σ H'' hy ⟨rfl,⟨bs,rfl,hb⟩,v,rfl⟩
   rw [List.getElem?_map] at hy
   obtain ⟨x,hx,rfl⟩:=Option.map_eq_some_iff.mp hy
   obtain ⟨d,hd1,hd2⟩:=o7 tn j x hx
   have step:(ds.take (j + 1)).filter (fun d=>(w5 kvs d).isSome) = (ds.take j).filter (fun d=>(w5 kvs d).isSome) ++ (if (w5 kvs d).isSome = true then [d] else []):=by
    rw [List.take_succ,hd1,List.filter_append]
    by_cases c:(w5 kvs d).isSome = true
    ·rw [if_pos c]
     simp [c]
    ·rw [if_neg c]
     simp [c]
   refine ⟨_,rfl,_,rfl,t,_,rfl,am8.t ht9 hd2,_,rfl,?_⟩
   refine E3 (fun c=>?_) (fun c=>?_)
   ·refine ⟨_,rfl,rfl,⟨bs ++ [_],by rw [List.map_append]; rfl,?_⟩,_,rfl⟩
    rw [step,if_pos c]
    exact Paired.snoc hb hd2
   ·refine ⟨rfl,⟨bs,rfl,?_⟩,_,rfl⟩
    rw [step,if_neg c,List.append_nil]
    exact hb
  rintro acc σ H'' ⟨rfl,⟨bs,rfl,hb⟩,v,rfl⟩ l5 hl5
  rw [List.length_map,nn,List.take_length] at hb
  have el5:=d9 (H:=H'') (a:=l5) (o:=.lst (bs.map V.ref))
  have s10:=g9 hl5 (.lst (bs.map V.ref))
  generalize upd H'' l5 (.lst (bs.map V.ref)) = H10 at el5 s10 ⊢
  refine ⟨(by show 0 ≤ sizeLine; decide),fun o ho=>?_⟩
  have eo:=d9 (H:=H10) (a:=o) (o:=.lst [])
  have s11:=g9 ho (.lst [])
  generalize upd H10 o (.lst []) = H11 at eo s11 ⊢
  have sA:=s10.trans s11
  refine ⟨_,[],⟨l5,_,rfl,SqL.of (s11 _ _ el5),M2 (x6.same (fun b xs q=>sA _ _ q) hb)⟩,⟨o,[],rfl,SqL.of eo,.nil⟩,_,rfl,?_⟩
  have htA:=sA _ _ ht9
  have enA:=sA _ _ en
  have eeA:=sA _ _ ee9
  have tnA:=x6.same (fun b xs q=>sA _ _ q) tn
  have sB:j0 H H11:=s29.trans sA
  have hnt:nl ≠ t:=fun z=>by rw [z,htA] at enA; cases enA
  have hlt:le ≠ t:=fun z=>by rw [z,htA] at eeA; cases eeA
  refine E3 (fun cc=>?_) (fun cc=>?_)
  ·have c0:ds.filter (fun d=>(w5 kvs d).isSome) = []:=of_decide_eq_true cc
   have fr:∀ d ∈ ds,¬ (w5 kvs d).isSome = true:=fun d hd z=>List.filter_eq_nil_iff.mp c0 d hd z
   refine ⟨_,rfl,nl,rfl,⟨_,SqL.of enA⟩,?_⟩
   refine C1 (xs:=nas.map V.ref) (fun j σ H'=>ay8 t H11 H' ∧ ∃ kvs',H' t = some (.dT kvs') ∧ kvs'.length ≤ kvs.length + j ∧ (∀ d,(w5 kvs' d).isSome = true ↔ (w5 kvs d).isSome = true ∨ d ∈ ds.take j) ∧ ∃ v8,σ = [some (.ref a),some (.ref t),some (.int n),some (.int c),some (.ref le),some (.int (0 + (i:Int))),some (.int ((n * 40692 % 999979 + (0 + (i:Int))) % h.m)),some (.ref nl),v8])
    ⟨fun _ _ _ z=>z,kvs,htA,Nat.le_refl _,(fun d=>by simp),_,rfl⟩ (fun j σ H' _ g=>SqL.of (g.1 _ _ hnt enA)) ?_ ?_
   ·rintro j y σ H' hy ⟨t1,kvs',t2,t7,t9,v8,rfl⟩
    rw [List.getElem?_map] at hy
    obtain ⟨x,hx,rfl⟩:=Option.map_eq_some_iff.mp hy
    obtain ⟨d,hd1,hd2⟩:=o7 tnA j x hx
    have hj:j < 26:=by
     have:=(List.getElem?_eq_some_iff.mp hd1).1
     lia
    replace hd2:H11 x = some (.tup (d.map kV)):=hd2
    have hxt:x ≠ t:=fun z=>by rw [z,htA] at hd2; cases hd2
    refine ⟨_,rfl,_,rfl,t,_,rfl,am9.t t2 (t1 _ _ hxt hd2) (by show kvs'.length < 16777216; lia),?_⟩
    refine ⟨fun b u hb z=>by rw [h9 hb]; exact t1 b u hb z,_,d9,?_,fun d'=>?_,_,rfl⟩
    ·have:=E4 kvs' d (.bl true)
     lia
    ·rw [al9,List.take_succ,hd1,List.mem_append]
     by_cases c:d' = d
     ·rw [if_pos c]
      simp [c]
     ·rw [if_neg c,t9]
      simp [c]
   ·rintro σ H' ⟨t1,kvs',t2,t7,t9,v8,rfl⟩
    rw [List.length_map,nn] at t7 t9
    rw [List.take_length] at t9
    refine ⟨_,rfl,_,rfl,le,_,rfl,.inl ⟨SqL.of (t1 _ _ hlt eeA),fun e he=>?_⟩⟩
    refine ⟨_,rfl,(by show 3 ≤ sizeLine; decide),fun p hp=>?_⟩
    refine q p ⟨c,es,(n * 40692 % 999979 + (0 + (i:Int))) % h.m⟩ kvs' _ (fun b u hb z=>?_) ?_ ⟨e,?_,d9⟩ hIn (by rw [hds]; exact fr) (by rw [hds]; exact t9) (by lia)
    ·have h1:=t1 b u hb (sB _ _ z)
     exact g9 hp _ _ _ (g9 he _ _ _ h1)
    ·exact g9 hp _ _ _ (g9 he _ _ _ t2)
    ·exact g9 hp _ _ _ d9
  ·exact ⟨sB,eeA,c,_,_,_,_,hc,rfl⟩
 ·rintro σ H' ⟨s2,ee2,c,v5,v6,v7,v8,hc,rfl⟩
  exact qN H' s2
end
def W5 (h:Hall) (k k':Call):Prop:=∀ d ∈ A1 h k,¬ d ∈ A1 h k'
theorem W5.symm {h:Hall} {k k':Call} (f:W5 h k k'):W5 h k' k:=fun d h1 h2=>f d h2 h1
theorem W5.caller {h:Hall} {k k':Call} (f:W5 h k k'):k.c ≠ k'.c:=fun z=>f (P7 k.c) (V2.mpr (.inr (.inr (.inl rfl)))) (V2.mpr (.inr (.inr (.inl (by rw [z])))))
def n6 (H:Hp) (as:List Addr) (ks:List Call):Prop:=Paired (J5 H) as ks
theorem n6.same {H H':Hp} {as:List Addr} {ks:List Call} (s:∀ b xs,H b = some (.tup xs) → H' b = some (.tup xs)) (h:n6 H as ks):n6 H' as ks:=by
 unfold n6 at h ⊢
 exact A8 h fun a d _ e=>J5.same s e
theorem O1 {α β:Type} {R:α → β → Prop} {as:List α} {ds:List β} (a0:α) (d0:β) (h:Paired R as ds):∀ (is:List Nat),(∀ i ∈ is,i < ds.length) → Paired R (is.map fun i=>as.getD i a0) (is.map fun i=>ds.getD i d0)
 | [],_=>.nil
 | i :: t,hin=>by
  refine .cons ?_ (O1 a0 d0 h t fun j hj=>hin j (List.mem_cons_of_mem _ hj))
  have hi:=hin i (List.mem_cons_self ..)
  have hl:as.length = ds.length:=Paired.length h
  have ea:as[i]? = some (as[i]'(by lia)):=List.getElem?_eq_getElem (by lia)
  obtain ⟨d,e2,hs⟩:=o7 h i _ ea
  show R (as.getD i a0) (ds.getD i d0)
  rw [show as.getD i a0 = as[i]'(by lia) by rw [List.getD,ea]; rfl,show ds.getD i d0 = d by rw [List.getD,e2]; rfl]
  exact hs
theorem O7 {K:PySem.W.Frag} {H:Hp}:∀ {as:List Addr} {ks:List Call},n6 H as ks → ∃ its:List (List V),N9 K H as its ∧ Paired (fun k xs=>∃ e,xs = [V.int k.c,V.ref e,V.int k.k]) ks its
 | _,_,.nil=>⟨[],.nil,.nil⟩
 | _,_,.cons (b:=k) ⟨e,h1,h2⟩ t=>by
  obtain ⟨its,q1,q2⟩:=O7 t
  exact ⟨[V.int k.c,V.ref e,V.int k.k] :: its,.cons ⟨SqT.of h2,_,_,rfl⟩ q1,.cons ⟨e,rfl⟩ q2⟩
def ad9 (K:PySem.W.Frag):Sp:=fun vs H Q _=>∃ (a b:Addr) (h:Hall) (ns:List Int),vs = [.ref a,.ref b] ∧ SqT K H a (h.row.map V.int) ∧ h.Ok ∧ SqL K H b (ns.map V.int) ∧ ns.length ≤ 63 ∧
 ∀ (l:Addr) (as:List Addr) (ks:List Call) (H':Hp),j0 H H' → H' l = some (.lst (as.map V.ref)) → n6 H' as ks → (∀ k ∈ ks,k.In h) → ks.Pairwise (fun k k'=>k.c < k'.c) → ks.Pairwise (W5 h) → ks.length ≤ 63 → Q (.ref l) H'
section
variable {P:Program} {w:World} {K:PySem.W.Frag} {mg:Str → Option Value} {base:Heap}
theorem w6:FnScope ["_law_hall_here","_law_cells","_law_taken","_law_calls_here","_law_at","_law_call"] ["_law_hall_here","_law_cells"] (g6 (top 26)):=⟨rfl,rfl,rfl,by decide +kernel,rfl,by decide +kernel,by decide +kernel⟩
theorem aq5 (T:Txt K mg) (C__law_number:Callee P w K mg base 1 "_law_number" ["_law_cell","_law_at"] aq8) (C__law_try:Callee P w K mg base 2 "_law_try" ["_law_hall_here","_law_taken","_law_number_here"] (az1 K)) (D:Def K mg "_law_calls" (top 26) ["_law_hall_here","_law_cells"]):Callee P w K mg base 3 "_law_calls" ["_law_hall_here","_law_cells"] (ad9 K):=by
 refine D.ok w6 (fun vs H Q E h=>?_) (fun f cdv A outer s H vs Q E hr h=>?_)
 ·obtain ⟨a,b,h,ns,rfl,_⟩:=h
  rfl
 obtain ⟨a,b,h,ns,rfl,hH,ok,hB,h63,q⟩:=h
 refine ⟨_,(e6 (i4 (i:=2) w6.nd rfl (Or.inl rfl) ao3)
  (e6 (i4 (i:=3) w6.nd rfl (Or.inl rfl) (o9 g7))
  (e6 (y9 PassesOwn.never rfl (y4 rfl T.m_range (b8 (j2 (z7 K) rfl T.m_len boot_len (b8 (pv 1) g7 b9)) g7 j6)) (n5 (i:=4) w6.nd rfl (Or.inl rfl))
  (e6 (i4 (i:=5) w6.nd rfl (Or.inl rfl) (y1 C__law_try hr rfl (b8 (pv 0) (b8 (pv 2) (b8 (y1 C__law_number hr rfl (b8 (m4 (m8 K) (pv 1) (pv 4) (fun _ _=>rfl)) (b8 (pv 4) g7 b9) C9)) g7 j6) b9) b9)))
  (h7 (q0 (m3 ad5 (pv 5) S0 (o5 _)) (h7 (A0 (A2 K PySem.F.plainAttrs_list PySem.F.slot_list_append PySem.F.type_list_append q9 (pv 3) (b8 (pv 5) g7 b9)))) m7))))
  (h7 (j8 (j2 (S5 K) rfl T.m_sorted boot_sorted (b8 (pv 3) g7 b9))))))),?_⟩
 refine fun hd hhd=>?_
 have ed:=d9 (H:=H) (a:=hd) (o:=.dT [])
 have s1:=g9 hhd (.dT [])
 generalize upd H hd (.dT []) = H1 at ed s1 ⊢
 refine ⟨(by show 0 ≤ sizeLine; decide),fun l hl=>?_⟩
 have el:=d9 (H:=H1) (a:=l) (o:=.lst [])
 have s2:=s1.trans (g9 hl (.lst []))
 have ed2:=g9 hl (.lst []) _ _ ed
 generalize upd H1 l (.lst []) = H2 at el s2 ed2 ⊢
 have hlH:H l = none:=s1.free hl
 have ln:(ns.map V.int).length = ns.length:=List.length_map _
 refine ⟨_,rfl,b,_,rfl,.inl (s2.seq hB),_,rfl,by lia,by lia,?_⟩
 rw [Int.toNat_natCast,ln]
 refine z4 (fun i σ H'=>j0 H H' ∧ ∃ kvs as ks,H' hd = some (.dT kvs) ∧ H' l = some (.lst (as.map V.ref)) ∧ n6 H' as ks ∧ (∀ k ∈ ks,k.In h) ∧ ks.Pairwise (W5 h) ∧ ks.length ≤ i ∧ kvs.length ≤ 26 * i ∧ (∀ d,(w5 kvs d).isSome = true ↔ ∃ k ∈ ks,d ∈ A1 h k) ∧
   ∃ v4 v5,σ = [some (.ref a),some (.ref b),some (.ref hd),some (.ref l),v4,v5])
  ⟨s2,[],[],[],ed2,el,.nil,(fun k hk=>nomatch hk),List.Pairwise.nil,Nat.le_refl _,Nat.le_refl _,(fun d=>by constructor <;> intro z <;> first | (obtain ⟨k,hk,_⟩:=z; cases hk) | cases z),none,none,rfl⟩ ?_ ?_
 ·rintro i σ H' hi ⟨s3,kvs,as,ks,d1,d2,d3,d4,d5,d6,d7,d8,v4,v5,rfl⟩
  rw [Int.zero_add]
  refine ⟨_,rfl,_,rfl,_,rfl,_,rfl,b,_,_,_,rfl,rfl,s3.seq hB,ad2 hi,_,rfl,_,i,rfl,by lia,fun n hn=>?_⟩
  have hl2:l ≠ hd:=fun q=>by rw [q,d1] at d2; cases d2
  refine ⟨a,hd,h,n,kvs,rfl,j0.seqT s3 hH,ok,d1,by lia,fun H4 s4=>?_,fun p k kvs' H4 s4 d1' hc hk fr t9 t7=>?_⟩
  ·refine ⟨_,rfl,rfl,_,rfl,V9 ?_⟩
   exact ⟨s3.trans s4,kvs,as,ks,s4 _ _ d1,s4 _ _ d2,n6.same (fun b xs q=>s4 _ _ q) d3,d4,d5,by lia,by lia,d8,_,_,rfl⟩
  ·have tp:∀ b xs,H' b = some (.tup xs) → H4 b = some (.tup xs):=fun b xs z=>s4 _ _ (fun y=>by rw [y,d1] at z; cases z) z
   have el4:=s4 _ _ hl2 d2
   refine ⟨_,rfl,rfl,_,rfl,R1 ?_⟩
   refine ⟨_,rfl,.inl ⟨rfl,_,SqL.of el4⟩,_,rfl,l,as.map V.ref,.ref p,rfl,rfl,el4,j4 (by
    have:=Paired.length d3
    rw [List.length_map,this]; lia),?_⟩
   have t8:∀ b xs,H4 b = some (.tup xs) → upd H4 l (.lst (as.map V.ref ++ [.ref p])) b = some (.tup xs):=fun b xs q=>by
    have:b ≠ l:=fun z=>by rw [z,el4] at q; cases q
    rw [h9 this]; exact q
   refine ⟨fun b u z=>?_,kvs',as ++ [p],ks ++ [k],by rw [h9 (Ne.symm hl2)]; exact d1',by rw [d9,List.map_append]; rfl,Paired.snoc (n6.same (fun b xs q=>t8 _ _ (tp _ _ q)) d3) (J5.same t8 hc),fun k' hk'=>?_,?_,by rw [List.length_append,List.length_singleton]; lia,by lia,fun d=>?_,_,_,rfl⟩
   ·have h1:b ≠ l:=i6 z hlH
    have h2:b ≠ hd:=i6 z hhd
    rw [h9 h1]
    exact s4 _ _ h2 (s3 _ _ z)
   ·rcases List.mem_append.mp hk' with q | q
    ·exact d4 k' q
    ·rw [List.mem_singleton] at q
     rw [q]; exact hk
   ·rw [List.pairwise_append]
    refine ⟨d5,List.pairwise_singleton _ _,fun k1 hk1 k2 hk2=>?_⟩
    rw [List.mem_singleton] at hk2
    subst hk2
    intro d g1 g2
    exact fr d g2 ((d8 d).mpr ⟨k1,hk1,g1⟩)
   ·rw [t9,d8]
    constructor
    ·rintro (⟨k1,g1,g2⟩ | g)
     ·exact ⟨k1,List.mem_append_left _ g1,g2⟩
     ·exact ⟨k,List.mem_append_right _ (List.mem_singleton.mpr rfl),g⟩
    ·rintro ⟨k1,g1,g2⟩
     rcases List.mem_append.mp g1 with g | g
     ·exact .inl ⟨k1,g,g2⟩
     ·rw [List.mem_singleton] at g
      rw [g] at g2
      exact .inr g2
 ·rintro σ H' ⟨s3,kvs,as,ks,d1,d2,d3,d4,d5,d6,d7,d8,v4,v5,rfl⟩
  obtain ⟨its,t1,t2⟩:=O7 (K:=K) d3
  have la:=Paired.length d3
  have lk:=Paired.length t2
  have gd:∀ (i:Nat) k,ks[i]? = some k → ks.getD i ⟨0,[],0⟩ = k:=fun i k e=>by rw [List.getD,e]; rfl
  have uniq:∀ (i j:Nat) k k',ks[i]? = some k → ks[j]? = some k' → k.c = k'.c → i = j:=fun i j k k' e1 e2 hc=>by
   rcases Nat.lt_trichotomy i j with hij | hij | hij
   ·obtain ⟨q1,z1⟩:=List.getElem?_eq_some_iff.mp e1
    obtain ⟨q2,z2⟩:=List.getElem?_eq_some_iff.mp e2
    have:=(List.pairwise_iff_getElem.mp d5) i j q1 q2 hij
    rw [z1,z2] at this
    exact absurd hc this.caller
   ·exact hij
   ·obtain ⟨q1,z1⟩:=List.getElem?_eq_some_iff.mp e1
    obtain ⟨q2,z2⟩:=List.getElem?_eq_some_iff.mp e2
    have:=(List.pairwise_iff_getElem.mp d5) j i q2 q1 hij
    rw [z1,z2] at this
    exact absurd hc.symm this.caller
  have back:∀ (i:Nat) x,its[i]? = some x → ∃ k e,ks[i]? = some k ∧ x = [V.int k.c,V.ref e,V.int k.k]:=fun i x hx=>by
   have hi:=(List.getElem?_eq_some_iff.mp hx).1
   have ek:ks[i]? = some (ks[i]'(by lia)):=List.getElem?_eq_getElem (by lia)
   obtain ⟨x',e1,e,e2⟩:=o7 t2 i _ ek
   rw [hx] at e1
   cases e1
   exact ⟨_,e,ek,e2⟩
  refine ⟨_,rfl,l,as,its,fun i=>(ks.getD i ⟨0,[],0⟩).c,rfl,SqL.of d2,t1,by lia,fun i j x y hx hy=>?_,fun pq pm up l2 hl2=>?_⟩
  ·obtain ⟨k,e,e1,rfl⟩:=back i x hx
   obtain ⟨k',e',e2,rfl⟩:=back j y hy
   show (if k.c = k'.c then D0 [V.ref e,V.int k.k] [V.ref e',V.int k'.k] else some (decide (k.c < k'.c))) = some (decide ((ks.getD i ⟨0,[],0⟩).c < (ks.getD j ⟨0,[],0⟩).c))
   rw [gd i k e1,gd j k' e2]
   by_cases c:k.c = k'.c
   ·obtain rfl:=uniq i j k k' e1 e2 c
    rw [hx] at hy
    rw [e1] at e2
    cases e2
    cases hy
    rw [if_pos rfl]
    show (if e = e then (if k.k = k.k then D0 [] [] else some (decide (k.k < k.k))) else none) = _
    rw [if_pos rfl,if_pos rfl,decide_eq_false (Int.lt_irrefl _)]
    rfl
   ·rw [if_neg c]
  ·rw [la] at pm up
   obtain ⟨g1,g2⟩:=ap0 (xs:=ks) pm up ⟨0,[],0⟩ Call.c fun i _=>rfl
   have hin:∀ i ∈ pq.toList,i < ks.length:=fun i hi=>by
    have:=(Array.Perm.mem_iff pm (a:=i)).mp (by simpa using hi)
    simpa using this
   have cs:=O1 0 ⟨0,[],0⟩ d3 pq.toList hin
   generalize (pq.toList.map fun i=>ks.getD i ⟨0,[],0⟩) = ks' at g1 g2 cs
   have fr':ks'.Pairwise (W5 h):=(List.Perm.pairwise_iff (fun q=>W5.symm q) g1).mpr d5
   refine q l2 _ ks' _ (s3.trans (g9 hl2 _)) d9 (n6.same (fun b xs q=>g9 hl2 _ _ _ q) cs) (fun k hk=>d4 k (g1.mem_iff.mp hk)) ?_ fr' (by rw [g1.length_eq]; lia)
   exact (g2.and fr').imp fun {k k'} ⟨q1,q2⟩=>by
    have:=q2.caller
    lia
end
theorem aC6 {n:Nat} {i:Int} (h0:0 ≤ i) (h1:i < n):ixN n i = some i.toNat:=by
 unfold ixN
 rw [if_pos h0,if_pos h1]
theorem ag7 {α:Type} {n j:Nat} {v:α} {f:Nat → α}:((List.range n).map f).set j v = (List.range n).map fun r=>if r = j then v else f r:=by
 refine List.ext_getElem? fun r=>?_
 rw [List.getElem?_set,List.getElem?_map,List.getElem?_map]
 by_cases c:j = r
 ·subst c
  rw [if_pos rfl]
  rw [List.length_map,List.length_range]
  by_cases d:j < n
  ·rw [if_pos d,List.getElem?_range d]
   simp
  ·rw [if_neg d,List.getElem?_eq_none (by rw [List.length_range]; lia)]
   rfl
 ·rw [if_neg c]
  by_cases d:r < n
  ·rw [List.getElem?_range d]
   simp [Ne.symm c]
  ·rw [List.getElem?_eq_none (by rw [List.length_range]; lia)]
   rfl
def M3 (ks:List Call) (r:Nat):Nat:=(ks.filter fun k=>decide (k.k = (r:Int))).length
def z5 (h:Hall) (ks:List Call):List Int:=(List.range h.m.toNat).map fun r=>((M3 ks r:Nat):Int)
theorem T5 (ks:List Call) (k:Call) (r:Nat):M3 (ks ++ [k]) r = M3 ks r + (if k.k = (r:Int) then 1 else 0):=by
 unfold M3
 rw [List.filter_append,List.length_append]
 by_cases c:k.k = (r:Int)
 ·rw [if_pos c]
  simp [c]
 ·rw [if_neg c]
  simp [c]
theorem ah9 (h:Hall) (ks:List Call):(z5 h ks).length = h.m.toNat:=by unfold z5; rw [List.length_map,List.length_range]
def W4 (K:PySem.W.Frag):Sp:=fun vs H Q _=>∃ (a b:Addr) (h:Hall) (as:List Addr) (ks:List Call),vs = [.ref a,.ref b] ∧ SqT K H a (h.row.map V.int) ∧ h.Ok ∧ SqL K H b (as.map V.ref) ∧ n6 H as ks ∧ (∀ k ∈ ks,k.In h) ∧ ks.length ≤ 63 ∧
 ∀ (l:Addr) (H':Hp),j0 H H' → H l = none → H' l = some (.lst ((z5 h ks).map V.int)) → Q (.ref l) H'
theorem am6 (n:Nat):(List.replicate n [V.int 0]).flatten = (List.range n).map fun (_:Nat)=>V.int 0:=by
 induction n with
 | zero=>rfl
 | succ n ih =>
  rw [List.range_succ,List.map_append,List.replicate_succ',List.flatten_append,ih]
  rfl
section
variable {P:Program} {w:World} {K:PySem.W.Frag} {mg:Str → Option Value} {base:Heap}
theorem Q3:FnScope ["hall","calls","found","call"] ["hall","calls"] (g6 (top 11)):=⟨rfl,rfl,rfl,by decide +kernel,rfl,by decide +kernel,by decide +kernel⟩
theorem ak1 (T:Txt K mg) (D:Def K mg "loads" (top 11) ["hall","calls"]):Callee P w K mg base 1 "loads" ["hall","calls"] (W4 K):=by
 refine D.ok Q3 (fun vs H Q E h=>?_) (fun f cdv A outer s H vs Q E hr h=>?_)
 ·obtain ⟨a,b,h,as,ks,rfl,_⟩:=h
  rfl
 obtain ⟨a,b,h,as,ks,rfl,hH,ok,hB,hC,hin,h63,q⟩:=h
 have o3:=ok.m
 refine ⟨_,(e6 (i4 (i:=2) Q3.nd rfl (Or.inl rfl) (i3 aA5 (o9 (b8 e7 g7 i5)) (m4 (m6 K) (pv 0) e7 (fun _ _=>rfl))))
  (e6 (y9 PassesOwn.never rfl (t4 K (pv 1)) (n5 (i:=3) Q3.nd rfl (Or.inl rfl))
  (h7 (at3 (pv 2) (m4 (m6 K) (pv 3) e7 (fun _ _=>rfl)) (ai0 K) e7 aw9 al7)))
  (h7 (j8 (pv 2))))),?_⟩
 refine ⟨(by show 1 ≤ sizeLine; decide),fun l0 hl0=>?_⟩
 have s0:=g9 hl0 (.lst [.int 0])
 have e0:=d9 (H:=H) (a:=l0) (o:=.lst [.int 0])
 generalize upd H l0 (.lst [.int 0]) = H0 at s0 e0 ⊢
 refine ⟨_,rfl,a,_,_,_,rfl,rfl,j0.seqT s0 hH,rfl,l0,h.m,_,rfl,rfl,e0,by lia,by lia,Nat.le_of_lt (j4 (by show 1 * h.m.toNat ≤ 1000; lia)),fun l hl=>?_⟩
 have B6:(List.replicate h.m.toNat [V.int 0]).flatten = (z5 h (ks.take 0)).map V.int:=by
  rw [List.take_zero,am6]
  unfold z5
  rw [List.map_map]
  rfl
 rw [B6]
 have hlH:H l = none:=s0.free hl
 refine ⟨_,rfl,b,rfl,⟨_,(s0.trans (g9 hl _)).seq hB⟩,?_⟩
 refine C1 (xs:=as.map V.ref) (fun i σ H'=>j0 H H' ∧ H' l = some (.lst ((z5 h (ks.take i)).map V.int)) ∧ ∃ v3,σ = [some (.ref a),some (.ref b),some (.ref l),v3]) ⟨s0.trans (g9 hl _),d9,none,rfl⟩ (fun i σ H' _ g=>g.1.seq hB) ?_ ?_
 ·rintro i x σ H' hx ⟨s1,e1,v3,rfl⟩
  rw [List.getElem?_map] at hx
  obtain ⟨p,hp,rfl⟩:=Option.map_eq_some_iff.mp hx
  obtain ⟨k,hk,e,ee,ep⟩:=o7 hC i p hp
  have hkI:=hin k (List.mem_of_getElem? hk)
  have ep1:=s1 _ _ ep
  have k2:=hkI.k
  obtain ⟨n,hn⟩:∃ n:Nat,k.k = (n:Int):=⟨k.k.toNat,by lia⟩
  have hn1:n < h.m.toNat:=by lia
  have at1:((z5 h (ks.take i)).map V.int)[k.k.toNat]? = some (V.int ((M3 (ks.take i) n:Nat):Int)):=by
   unfold z5
   rw [hn,Int.toNat_natCast,List.getElem?_map,List.getElem?_map,List.getElem?_range hn1]
   rfl
  refine ⟨_,rfl,_,rfl,p,_,_,_,rfl,rfl,SqT.of ep1,rfl,l,_,k.k,_,rfl,rfl,SqL.of e1,k2.1,at1,?_⟩
  refine ⟨_,_,rfl,rfl,l,_,k.k,_,rfl,rfl,e1,aC6 k2.1 (by rw [List.length_map,ah9]; lia),?_⟩
  refine ⟨j0.put s1 hlH,?_,_,rfl⟩
  rw [d9]
  congr 2
  have tk:ks.take (i + 1) = ks.take i ++ [k]:=by rw [List.take_succ,hk]; rfl
  dsimp only
  unfold z5
  rw [List.map_map,List.map_map,ag7]
  refine List.map_congr_left fun r hr=>?_
  rw [hn,Int.toNat_natCast]
  show (if r = n then _ else V.int ((M3 (ks.take i) r:Nat):Int)) = V.int ((M3 (ks.take (i + 1)) r:Nat):Int)
  rw [tk,T5]
  by_cases c:r = n
  ·subst c
   rw [if_pos rfl,if_pos hn]
   rfl
  ·rw [if_neg c,if_neg (fun z=>c (by lia)),Nat.add_zero]
 ·rintro σ H' ⟨s1,e1,v3,rfl⟩
  have hl2:ks.take (as.map V.ref).length = ks:=by rw [List.length_map,Paired.length hC,List.take_length]
  rw [hl2] at e1
  exact ⟨_,rfl,q l H' s1 hlH e1⟩
end
def ag8 (x:Str):Str:=x ++ ".<locals>." ++ "<lambda>"
theorem C2 {H H':Hp} {P:Addr} {pos:Pos} {q:Str} (s:j0 H H') (h:D3 H P pos q):D3 H' P pos q:=by
 rcases h with h | ⟨c,h1,h2⟩
 ·exact .inl (s _ _ h)
 ·exact .inr ⟨c,s _ _ h1,s _ _ h2⟩
theorem af0 {H H':Hp} {P P':Addr} {pos:Pos} {q:Str} (s:Y7 P' H H') (n:P ≠ P') (h':∃ ps,H P' = some (.tbl ps)) (h:D3 H P pos q):D3 H' P pos q:=by
 rcases h with h | ⟨c,h1,h2⟩
 ·exact .inl (s _ _ n h)
 ·refine .inr ⟨c,s _ _ n h1,s _ _ (fun z=>?_) h2⟩
  obtain ⟨ps,h'⟩:=h'
  rw [z,h'] at h2
  cases h2
theorem E7 {H:Hp} {P:Addr} {pos:Pos} {q:Str} (h:D3 H P pos q):∃ ps,H P = some (.tbl ps):=by
 rcases h with h | ⟨c,h1,_⟩
 ·exact ⟨_,h⟩
 ·exact ⟨_,h1⟩
def B0 (ks:List Call) (x:Int):Int:=((M3 ks x.toNat:Nat):Int)
def aE1:Pos:=(⟨40,29,40,46⟩:Pos)
def aD3:Pos:=(⟨45,29,45,46⟩:Pos)
def F0 (K:PySem.W.Frag) (T:Addr) (best:(Nat → Int) → Nat → Nat → Prop) (pos:Pos) (q:Str):Sp:=fun vs H Q _=>∃ (v0:V) (a b fl:Addr) (h:Hall) (as:List Addr) (ks:List Call) (xs:List Int),vs = [v0,.ref a,.ref b,.ref fl] ∧ SqT K H a (h.row.map V.int) ∧ h.Ok ∧ SqL K H b (as.map V.ref) ∧ n6 H as ks ∧ (∀ k ∈ ks,k.In h) ∧ ks.length ≤ 63 ∧ H fl = some (.lst (xs.map V.int)) ∧ xs ≠ [] ∧ (∀ x ∈ xs,0 ≤ x ∧ x < h.m) ∧ D3 H T pos q ∧
 ∀ (i:Nat) (x:Int) (H':Hp),xs[i]? = some x → best (fun j=>B0 ks (xs.getD j 0)) xs.length i → Y7 T H H' → D3 H' T pos q → Q (.int x) H'
theorem aa0 {P:Addr} {H H1 H2:Hp} (s:j0 H H1) (b:Y7 P H1 H2):Y7 P H H2:=fun x u n e=>b x u n (s _ _ e)
section
variable {P:Program} {w:World} {K:PySem.W.Frag} {mg:Str → Option Value} {base:Heap} {C_Rule C_Fullest C_Emptiest C_Told C_HallError C_NoHall C_NoCalls C_NoLine C_NoRule C_Idle C_Busy C_Engaged C_NoMove:Addr} {T_Fullest_choose T_Emptiest_choose:Addr}
theorem B7:FnScope ["self","hall","calls","free","load"] ["self","hall","calls","free"] (g6 (j1 (top 14) 0)):=⟨rfl,rfl,rfl,by decide +kernel,rfl,by decide +kernel,by decide +kernel⟩
theorem ad3 (T:Txt K mg) (hB:D9 mg base) (C_loads:Callee P w K mg base 1 "loads" ["hall","calls"] (W4 K)) (D:DefMT K C_Fullest "choose" "Fullest.choose" (j1 (top 14) 0) ["self","hall","calls","free"] T_Fullest_choose):CalleeM P w K mg base 2 C_Fullest "choose" ["self","hall","calls","free"] [] noKw (F0 K T_Fullest_choose A7 aE1 (ag8 "Fullest.choose")):=by
 refine D.ok B7 (fun vs H Q E h=>?_) (fun f c A outer s H vs Q E hC hr h=>?_)
 ·obtain ⟨v0,a,b,fl,h,as,ks,xs,rfl,_⟩:=h
  rfl
 obtain ⟨v0,a,b,fl,h,as,ks,xs,rfl,hH,ok,hB',hCa,hin,h63,hfl,ne,hx,tab,q⟩:=h
 have om:=ok.m
 refine ⟨_,(e6 (i4 (i:=4) B7.nd rfl (Or.inr rfl) (y1 C_loads hr rfl (b8 (pv 1) (b8 (pv 2) g7 b9) b9)))
  (h7 (j8 (ai9 K [(4,"load")] hr rfl rfl T.m_max rfl hC hB (show LamScope ["self","hall","calls","free","load"] (g6 (j1 (top 14) 0)) _ "k" [(4,"load")] from ⟨rfl,rfl,rfl,by decide +kernel,rfl,by decide +kernel,by decide +kernel⟩) (b8 (pv 3) g7 b9) (fun q cl f c A s H=>(m4 (m8 K) (pv 1) (pv 0) (fun _ _=>rfl))))))),?_⟩
 refine ⟨_,rfl,_,rfl,a,b,h,as,ks,rfl,hH,ok,hB',hCa,hin,h63,fun l H1 s1 hl0 el=>?_⟩
 refine ⟨_,rfl,fl,xs.map V.int,rfl,fun z=>ne (List.map_eq_nil_iff.mp z),C2 s1 tab,fun H2 c' but has=>?_⟩
 have nt:∀ b xs,H1 b = some (.lst xs) → H2 b = some (.lst xs):=fun b xs e=>but _ _ (fun z=>by
  obtain ⟨ps,e'⟩:=E7 (C2 s1 tab)
  rw [z,e'] at e
  cases e) e
 refine ⟨SqL.of (nt _ _ (s1 _ _ hfl)),fun j=>B0 ks (xs.getD j 0),fun i x hxi=>?_,fun i x hxi best=>?_⟩
 ·rw [List.getElem?_map] at hxi
  obtain ⟨n,hn,rfl⟩:=Option.map_eq_some_iff.mp hxi
  have hb:=hx n (List.mem_of_getElem? hn)
  have e1:xs.getD i 0 = n:=by rw [List.getD,hn]; rfl
  obtain ⟨m,rfl⟩:=Int.eq_ofNat_of_zero_le hb.1
  have at1:atI ((z5 h ks).map V.int) ((m:Nat):Int) = some (.int (B0 ks ((m:Nat):Int))):=B5 (by
   unfold z5 B0
   rw [List.getElem?_map,List.getElem?_map,List.getElem?_range (by lia)]
   rfl)
  refine ⟨_,rfl,_,rfl,l,_,_,_,rfl,rfl,SqL.of (nt _ _ el),at1,rfl,?_⟩
  show V.int _ = V.int (B0 ks (xs.getD i 0))
  rw [e1]
 ·rw [List.getElem?_map] at hxi
  obtain ⟨n,hn,rfl⟩:=Option.map_eq_some_iff.mp hxi
  rw [List.length_map] at best
  exact q i n H2 hn best (aa0 s1 but) (.inr ⟨c',has⟩)
theorem B2:FnScope ["self","hall","calls","free","load"] ["self","hall","calls","free"] (g6 (j1 (top 15) 0)):=⟨rfl,rfl,rfl,by decide +kernel,rfl,by decide +kernel,by decide +kernel⟩
theorem aa1 (T:Txt K mg) (hB:D9 mg base) (C_loads:Callee P w K mg base 1 "loads" ["hall","calls"] (W4 K)) (D:DefMT K C_Emptiest "choose" "Emptiest.choose" (j1 (top 15) 0) ["self","hall","calls","free"] T_Emptiest_choose):CalleeM P w K mg base 2 C_Emptiest "choose" ["self","hall","calls","free"] [] noKw (F0 K T_Emptiest_choose A6 aD3 (ag8 "Emptiest.choose")):=by
 refine D.ok B2 (fun vs H Q E h=>?_) (fun f c A outer s H vs Q E hC hr h=>?_)
 ·obtain ⟨v0,a,b,fl,h,as,ks,xs,rfl,_⟩:=h
  rfl
 obtain ⟨v0,a,b,fl,h,as,ks,xs,rfl,hH,ok,hB',hCa,hin,h63,hfl,ne,hx,tab,q⟩:=h
 have om:=ok.m
 refine ⟨_,(e6 (i4 (i:=4) B2.nd rfl (Or.inr rfl) (y1 C_loads hr rfl (b8 (pv 1) (b8 (pv 2) g7 b9) b9)))
  (h7 (j8 (ai6 K [(4,"load")] hr rfl rfl T.m_min rfl hC hB (show LamScope ["self","hall","calls","free","load"] (g6 (j1 (top 15) 0)) _ "k" [(4,"load")] from ⟨rfl,rfl,rfl,by decide +kernel,rfl,by decide +kernel,by decide +kernel⟩) (b8 (pv 3) g7 b9) (fun q cl f c A s H=>(m4 (m8 K) (pv 1) (pv 0) (fun _ _=>rfl))))))),?_⟩
 refine ⟨_,rfl,_,rfl,a,b,h,as,ks,rfl,hH,ok,hB',hCa,hin,h63,fun l H1 s1 hl0 el=>?_⟩
 refine ⟨_,rfl,fl,xs.map V.int,rfl,fun z=>ne (List.map_eq_nil_iff.mp z),C2 s1 tab,fun H2 c' but has=>?_⟩
 have nt:∀ b xs,H1 b = some (.lst xs) → H2 b = some (.lst xs):=fun b xs e=>but _ _ (fun z=>by
  obtain ⟨ps,e'⟩:=E7 (C2 s1 tab)
  rw [z,e'] at e
  cases e) e
 refine ⟨SqL.of (nt _ _ (s1 _ _ hfl)),fun j=>B0 ks (xs.getD j 0),fun i x hxi=>?_,fun i x hxi best=>?_⟩
 ·rw [List.getElem?_map] at hxi
  obtain ⟨n,hn,rfl⟩:=Option.map_eq_some_iff.mp hxi
  have hb:=hx n (List.mem_of_getElem? hn)
  have e1:xs.getD i 0 = n:=by rw [List.getD,hn]; rfl
  obtain ⟨m,rfl⟩:=Int.eq_ofNat_of_zero_le hb.1
  have at1:atI ((z5 h ks).map V.int) ((m:Nat):Int) = some (.int (B0 ks ((m:Nat):Int))):=B5 (by
   unfold z5 B0
   rw [List.getElem?_map,List.getElem?_map,List.getElem?_range (by lia)]
   rfl)
  refine ⟨_,rfl,_,rfl,l,_,_,_,rfl,rfl,SqL.of (nt _ _ el),at1,rfl,?_⟩
  show V.int _ = V.int (B0 ks (xs.getD i 0))
  rw [e1]
 ·rw [List.getElem?_map] at hxi
  obtain ⟨n,hn,rfl⟩:=Option.map_eq_some_iff.mp hxi
  rw [List.length_map] at best
  exact q i n H2 hn best (aa0 s1 but) (.inr ⟨c',has⟩)
end
def ak5 (K:PySem.W.Frag):Sp:=fun vs H Q _=>∃ (a:Addr) (h:Hall) (n:Int),vs = [.ref a,.int n] ∧ SqT K H a (h.row.map V.int) ∧ h.Ok ∧ ∀ (l:Addr) (xs:List Int) (H':Hp),j0 H H' → H' l = some (.lst (xs.map V.int)) → xs ≠ [] → xs.length ≤ 24 → (∀ x ∈ xs,0 ≤ x ∧ x < h.m) → Q (.ref l) H'
def af1:Sp:=fun vs H Q _=>∃ i:Int,vs = [.int i,.int i] ∧ Q (.bl true) H
section
variable {P:Program} {w:World} {K:PySem.W.Frag} {mg:Str → Option Value} {base:Heap} {C_Rule C_Fullest C_Emptiest C_Told C_HallError C_NoHall C_NoCalls C_NoLine C_NoRule C_Idle C_Busy C_Engaged C_NoMove:Addr}
theorem S4:FnScope ["_law_found","_law_due"] ["_law_found","_law_due"] (g6 (top 31)):=⟨rfl,rfl,rfl,by decide +kernel,rfl,by decide +kernel,by decide +kernel⟩
theorem ar1 (T:Txt K mg) (D:Def K mg "_law_tells" (top 31) ["_law_found","_law_due"]):Callee P w K mg base 1 "_law_tells" ["_law_found","_law_due"] af1:=by
 refine D.ok S4 (fun vs H Q E h=>?_) (fun f cdv A outer s H vs Q E hr h=>?_)
 ·obtain ⟨i,rfl,_⟩:=h
  rfl
 obtain ⟨i,rfl,q⟩:=h
 refine ⟨_,(h7 (j8 (ab9 (j2 (C8 K) rfl T.m_isinstance boot_isinstance (b8 (pv 0) (b8 (P8 (v:=.ty "int") rfl T.m_int boot_int rfl) g7 b9) b9)) (ab9 (aA6 (j2 (C8 K) rfl T.m_isinstance boot_isinstance (b8 (pv 0) (b8 (P8 (v:=.ty "bool") rfl T.m_bool boot_bool rfl) g7 b9) b9))) (aq3 (W6 D4 (pv 0) (pv 1) (o5 _))))))),?_⟩
 refine ⟨_,rfl,_,_,_,true,rfl,.int i,Y2,_,rfl,R1 ?_⟩
 refine ⟨_,rfl,_,_,_,false,rfl,.int i,X3,_,rfl,_,rfl,R1 ?_⟩
 refine ⟨_,rfl,_,rfl,rfl,?_⟩
 rw [decide_eq_true rfl]
 exact q
theorem A3:FnScope ["_law_hall_here","_law_number_here","_law_bits","_law_free_here"] ["_law_hall_here","_law_number_here"] (g6 (top 28)):=⟨rfl,rfl,rfl,by decide +kernel,rfl,by decide +kernel,by decide +kernel⟩
theorem aw7 (T:Txt K mg) (D:Def K mg "_law_free" (top 28) ["_law_hall_here","_law_number_here"]):Callee P w K mg base 1 "_law_free" ["_law_hall_here","_law_number_here"] (ak5 K):=by
 refine D.ok A3 (fun vs H Q E h=>?_) (fun f cdv A outer s H vs Q E hr h=>?_)
 ·obtain ⟨a,h,n,rfl,_⟩:=h
  rfl
 obtain ⟨a,h,n,rfl,hH,ok,q⟩:=h
 have b3:=ok.m
 refine ⟨_,(e6 (i4 (i:=2) A3.nd rfl (Or.inr rfl) (i3 n4 (i3 n4 (i3 n9 (pv 1) e7) e7) (i3 aD1 e7 (m4 (m6 K) (pv 0) e7 (fun _ _=>rfl)))))
  (e6 (ae7 (i:=3) (own:=["_law_k"]) (fr:=[(2,"_law_bits")]) rfl A3.nd rfl rfl (show CompScope ["_law_hall_here","_law_number_here","_law_bits","_law_free_here"] (g6 (top 28)) _ _ _ from ⟨rfl,by decide +kernel,by decide +kernel,by decide +kernel,by decide +kernel⟩) (y4 rfl T.m_range (b8 (m4 (m6 K) (pv 0) e7 (fun _ _=>rfl)) g7 C9)) (fun cl C s H ex=>⟨(n5 (i:=0) (show (["_law_k","_law_bits"]:List Str).Nodup from by decide +kernel) rfl (Or.inl rfl) (Or.inr rfl)),(L9 (m3 D4 (i3 aB4 (i3 aE0 (pv 1) (pv 0)) e7) e7 (o5 _))),(pv 0)⟩) rfl)
  (e6 (q0 (m3 (ay2 K (Room.units0 hr)) (pv 3) (o9 g7) (o5 _)) (h7 (i4 (i:=3) A3.nd rfl (Or.inl rfl) (o9 (b8 (i3 n4 (pv 1) (m4 (m6 K) (pv 0) e7 (fun _ _=>rfl))) g7 E6)))) m7)
  (h7 (j8 (pv 3)))))),?_⟩
 refine ⟨_,rfl,_,_,rfl,rfl,.inr ⟨by decide,by decide⟩,_,_,rfl,rfl,(by show (0:Int) < 16777213; decide),_,rfl,a,_,_,_,rfl,rfl,hH,rfl,_,_,rfl,rfl,⟨by show 0 ≤ h.m; lia,by show h.m ≤ 1000000; lia,by decide⟩,_,_,rfl,rfl,(by show (0:Int) < 1 * 2 ^ h.m.toNat; rw [Int.one_mul]; exact Int.pow_pos (by decide)),?_⟩
 refine ⟨_,rfl,a,_,_,_,rfl,rfl,hH,rfl,_,rfl,by show -(2 ^ 62) ≤ h.m; lia,by show h.m < 2 ^ 62; lia,?_⟩
 refine ac4 (fun i acc σ H'=>H' = H ∧ (∃ xs:List Int,acc = xs.map V.int ∧ xs.length ≤ i ∧ ∀ x ∈ xs,0 ≤ x ∧ x < h.m) ∧ ∃ v z,σ = [v,some (.int z)])
  ⟨rfl,⟨[],rfl,Nat.le_refl _,fun x hx=>nomatch hx⟩,none,_,rfl⟩ (by show h.m.toNat ≤ 16777216; lia) (fun i acc σ H' g=>?_) ?_ ?_
 ·obtain ⟨_,⟨xs,rfl,hx,_⟩,_⟩:=g
  rw [List.length_map]
  exact hx
 ·rintro i acc σ H' hi ⟨rfl,⟨xs,rfl,hx,hb⟩,v,z,rfl⟩
  rw [Int.zero_add]
  refine ⟨_,rfl,_,rfl,_,_,rfl,rfl,by lia,_,_,rfl,rfl,rfl,_,rfl,?_⟩
  refine E3 (fun c=>?_) (fun c=>?_)
  ·exact ⟨_,rfl,rfl,⟨xs ++ [(i:Int)],by rw [List.map_append]; rfl,by rw [List.length_append]; exact Nat.succ_le_succ hx,fun x hx=>by
    have hi:i < h.m.toNat:=hi
    rcases List.mem_append.mp hx with z | z
    ·exact hb x z
    ·rw [List.mem_singleton.mp z]
     lia⟩,_,_,rfl⟩
  ·exact ⟨rfl,⟨xs,rfl,by lia,hb⟩,_,_,rfl⟩
 ·rintro acc σ H' ⟨rfl,⟨xs,rfl,hx,hb⟩,v,z,rfl⟩ l hl
  have el:=d9 (H:=H') (a:=l) (o:=.lst (xs.map V.int))
  have s1:=g9 hl (.lst (xs.map V.int))
  generalize upd H' l (.lst (xs.map V.int)) = H1 at el s1 ⊢
  refine ⟨_,rfl,(by show 0 ≤ sizeLine; decide),fun o ho=>?_⟩
  have s2:=g9 ho (.lst [])
  refine ⟨l,o,xs,[],rfl,rfl,SqL.of (s2 _ _ el),SqL.of d9,_,rfl,?_⟩
  generalize upd H1 o (.lst []) = H2 at s2 ⊢
  refine E3 (fun c=>?_) (fun c=>?_)
  ·refine ⟨_,rfl,_,rfl,a,_,_,_,rfl,rfl,j0.seqT (s1.trans s2) hH,rfl,_,_,rfl,rfl,(by show 0 < h.m; lia),(by show 1 ≤ sizeLine; decide),fun l3 hl3=>?_⟩
   exact ⟨_,rfl,q l3 [n % h.m] _ ((s1.trans s2).trans (g9 hl3 _)) d9 (by simp) (by show 1 ≤ 24; decide) (fun x hx=>by
    rw [List.mem_singleton.mp hx]
    exact ⟨Int.emod_nonneg _ (by lia),Int.emod_lt_of_pos _ (by lia)⟩)⟩
  ·have c':xs ≠ []:=by simpa using c
   exact ⟨_,rfl,q l xs _ (s1.trans s2) (s2 _ _ el) c' (by lia) hb⟩
end
theorem at4 {b:Bool} {H:Hp} {tt:TS} {D:Ends} {σ:L2.St} (R:L2.St → Hp → Prop) (hr:∀ σ' G,R σ' G → D.nx σ' G) (h1:b = true → (∀ σ' G,R σ' G → D.nx σ' G) → tt D σ H) (h2:b = false → R σ H):(fun (b:Bool) H1=>if b = true then tt D σ H1 else ak8 D σ H1) b H:=by
 cases b
 ·exact hr _ _ (h2 rfl)
 ·exact h1 rfl hr
def Y3 (K:PySem.W.Frag):Sp:=fun vs H Q _=>∃ (a:Addr) (h:Hall) (n:Int),vs = [.ref a,.int n] ∧ SqT K H a (h.row.map V.int) ∧ h.Ok ∧ 0 ≤ n ∧ ∀ (l:Addr) (xs:List Int) (H':Hp),j0 H H' → H l = none → H' l = some (.lst (xs.map V.int)) → xs.length ≤ 24 → Q (.ref l) H'
theorem aC0 (xs:List V) (a:Nat):(z6 xs (some (a:Int)) none ++ z6 xs none (some (a:Int))).length = xs.length ∧ ∀ ys:List Int,xs = ys.map V.int → z6 xs (some (a:Int)) none ++ z6 xs none (some (a:Int)) = (ys.drop a ++ ys.take a).map V.int:=by
 have e1:z6 xs (some (a:Int)) none = xs.drop a:=by
  unfold z6
  rw [HT.sIx_none,show HT.sIx xs.length 0 (some (a:Int)) = min a xs.length from HT.sIx_nat _ _ a]
  rcases Nat.le_total a xs.length with h | h
  ·rw [Nat.min_eq_left h]
   exact List.take_of_length_le (by rw [List.length_drop]; lia)
  ·rw [Nat.min_eq_right h,List.drop_length,List.drop_eq_nil_of_le h,List.take_nil]
 have e2:z6 xs none (some (a:Int)) = xs.take a:=by
  unfold z6
  rw [HT.sIx_none,show HT.sIx xs.length xs.length (some (a:Int)) = min a xs.length from HT.sIx_nat _ _ a,List.drop_zero,Nat.sub_zero]
  exact List.take_eq_take_iff.mpr (by lia)
 rw [e1,e2]
 refine ⟨by rw [List.length_append,List.length_drop,List.length_take]; lia,fun ys z=>?_⟩
 rw [z,List.map_append,List.map_drop,List.map_take]
theorem ap4 {bs:List Int} {i:Nat} (hi:i < bs.length):seqIndex? (i:Int) (bs.map V.int).length = some i ∧ (bs.map V.int)[i]? = some (.int (bs[i]'hi)) ∧ (bs.map V.int).eraseIdx i = (bs.eraseIdx i).map V.int:=by
 refine ⟨?_,by rw [List.getElem?_map,List.getElem?_eq_getElem hi]; rfl,?_⟩
 ·unfold seqIndex?
  rw [List.length_map]
  simp
  lia
 ·rw [List.eraseIdx_eq_take_drop_succ,List.eraseIdx_eq_take_drop_succ,List.map_append,List.map_take,List.map_drop]
section
variable {P:Program} {w:World} {K:PySem.W.Frag} {mg:Str → Option Value} {base:Heap} {C_Rule C_Fullest C_Emptiest C_Told C_HallError C_NoHall C_NoCalls C_NoLine C_NoRule C_Idle C_Busy C_Engaged C_NoMove:Addr}
theorem j9:FnScope ["_law_hall_here","_law_number_here","_law_base","_law_at","_law_left","_law_found","_law_k"] ["_law_hall_here","_law_number_here"] (g6 (top 29)):=⟨rfl,rfl,rfl,by decide +kernel,rfl,by decide +kernel,by decide +kernel⟩
set_option maxHeartbeats 4000000 in
theorem ag5 (T:Txt K mg) (D:Def K mg "_law_listed" (top 29) ["_law_hall_here","_law_number_here"]):Callee P w K mg base 1 "_law_listed" ["_law_hall_here","_law_number_here"] (Y3 K):=by
 refine D.ok j9 (fun vs H Q E h=>?_) (fun f cdv A outer s H vs Q E hr h=>?_)
 ·obtain ⟨a,h,n,rfl,_⟩:=h
  rfl
 obtain ⟨a,h,n,rfl,hH,ok,n0,q⟩:=h
 have om:=ok.m
 refine ⟨_,(e6 (i4 (i:=2) j9.nd rfl (Or.inl rfl) (z9 (S9 rfl) rfl T.m_list boot_list (b8 (z9 R9 rfl T.m_range boot_range (b8 (m4 (m6 K) (pv 0) e7 (fun _ _=>rfl)) g7 C9)) g7 j6)))
  (e6 (i4 (i:=3) j9.nd rfl (Or.inl rfl) (i3 n4 (i3 n4 (i3 n9 (pv 1) e7) e7) (m4 (m6 K) (pv 0) e7 (fun _ _=>rfl))))
  (e6 (i4 (i:=2) j9.nd rfl (Or.inl rfl) (i3 D2 (S2 (R5 K) (pv 2) (P5 (pv 3)) ae0) (S2 (R5 K) (pv 2) ae0 (P5 (pv 3)))))
  (e6 (q0 (m3 D4 (i3 n4 (pv 1) e7) e7 (o5 _)) (h7 (i4 (i:=2) j9.nd rfl (Or.inl rfl) (aA3 K (pv 2) (al4 ac8 e7)))) m7)
  (e6 (i4 (i:=2) j9.nd rfl (Or.inl rfl) (i3 D2 (av4 K (pv 2) e7) (ar8 K (pv 2) e7 e7)))
  (e6 (i4 (i:=4) j9.nd rfl (Or.inl rfl) (i3 Y4 (pv 1) (i3 V5 e7 e7)))
  (e6 (i4 (i:=5) j9.nd rfl (Or.inl rfl) (o9 g7))
  (e6 (y9 PassesOwn.never rfl (y4 rfl T.m_range (b8 (i3 n4 (i3 n4 (i3 n9 (pv 1) e7) e7) (i3 z8 (m4 (m6 K) (pv 0) e7 (fun _ _=>rfl)) e7)) g7 E6)) (n5 (i:=6) j9.nd rfl (Or.inl rfl))
  (h7 (q0 (m3 az6 (pv 4) e7 (o5 _)) (e6 (A0 (A2 K PySem.F.plainAttrs_list PySem.F.slot_list_append PySem.F.type_list_append q9 (pv 5) (b8 (A2 K PySem.F.plainAttrs_list PySem.F.slot_list_pop PySem.F.type_list_pop U8 (pv 2) (b8 (i3 n4 (pv 4) (j2 (z7 K) rfl T.m_len boot_len (b8 (pv 2) g7 b9))) g7 E6)) g7 j6)))
  (h7 (i4 (i:=4) j9.nd rfl (Or.inl rfl) (i3 F1 (pv 4) (i3 z8 (j2 (z7 K) rfl T.m_len boot_len (b8 (pv 2) g7 b9)) e7))))) (h7 (A0 (A2 K PySem.F.plainAttrs_list PySem.F.slot_list_append PySem.F.type_list_append q9 (pv 5) (b8 (A2 K PySem.F.plainAttrs_list PySem.F.slot_list_pop PySem.F.type_list_pop U8 (pv 2) (b8 e7 g7 i5)) g7 j6)))))))
  (h7 (j8 (pv 5))))))))))),?_⟩
 refine ⟨_,rfl,a,_,_,_,rfl,rfl,hH,rfl,_,rfl,fun r hr1=>?_⟩
 have s1:=g9 hr1 (P2 r h.m)
 have er:upd H r (P2 r h.m) r = some (P2 r (h.m.toNat:Nat)):=by rw [d9,Int.toNat_of_nonneg (by lia)]
 change upd H r (P2 r h.m) r = _ at er
 refine ⟨r,h.m.toNat,rfl,er,by lia,fun l0 hl0=>?_⟩
 have s2:=s1.trans (g9 hl0 (.lst ((List.range h.m.toNat).map fun (k:Nat)=>V.int k)))
 have e2:=d9 (H:=upd H r (P2 r h.m)) (a:=l0) (o:=.lst ((List.range h.m.toNat).map fun (k:Nat)=>V.int k))
 change j0 H (upd (upd H r (P2 r h.m)) l0 (.lst ((List.range h.m.toNat).map fun (k:Nat)=>V.int k))) at s2
 generalize upd (upd H r (P2 r h.m)) l0 (.lst ((List.range h.m.toNat).map fun (k:Nat)=>V.int k)) = H2 at s2 e2 ⊢
 have e2':H2 l0 = some (.lst (((List.range h.m.toNat).map fun (k:Nat)=>(k:Int)).map V.int)):=by rw [e2,List.map_map]; rfl
 have b0:((List.range h.m.toNat).map fun (k:Nat)=>(k:Int)).length = h.m.toNat:=by rw [List.length_map,List.length_range]
 generalize ((List.range h.m.toNat).map fun (k:Nat)=>(k:Int)) = ys0 at e2' b0
 clear e2
 refine ⟨_,rfl,_,_,rfl,rfl,.inr ⟨by decide,by decide⟩,_,_,rfl,rfl,(by show (0:Int) < 999953; decide),_,rfl,a,_,_,_,rfl,rfl,j0.seqT s2 hH,rfl,_,_,rfl,rfl,(by show 0 < h.m; lia),?_⟩
 obtain ⟨at1,hat1⟩:∃ at1:Nat,n * 39373 % 999953 % h.m = (at1:Int):=⟨_,(Int.toNat_of_nonneg (Int.emod_nonneg _ (by lia))).symm⟩
 dsimp only
 rw [show n * 39373 % 999953 % h.m = (at1:Int) from hat1]
 refine ⟨_,rfl,_,rfl,_,rfl,l0,_,rfl,SqL.of e2',fun la hla=>?_⟩
 have s3:=s2.trans (g9 hla (.lst (z6 (ys0.map V.int) (some (at1:Int)) none)))
 have ea:=d9 (H:=H2) (a:=la) (o:=.lst (z6 (ys0.map V.int) (some (at1:Int)) none))
 have e3:=g9 hla (.lst (z6 (ys0.map V.int) (some (at1:Int)) none)) _ _ e2'
 generalize upd H2 la (.lst (z6 (ys0.map V.int) (some (at1:Int)) none)) = H3 at s3 ea e3 ⊢
 refine ⟨_,rfl,_,rfl,_,rfl,l0,_,rfl,SqL.of e3,fun lb hlb=>?_⟩
 have s4':=g9 hlb (.lst (z6 (ys0.map V.int) none (some (at1:Int))))
 have s4:=s3.trans s4'
 have eb:=d9 (H:=H3) (a:=lb) (o:=.lst (z6 (ys0.map V.int) none (some (at1:Int))))
 have ea4:=s4' _ _ ea
 generalize upd H3 lb (.lst (z6 (ys0.map V.int) none (some (at1:Int)))) = H4 at s4 eb ea4 ⊢
 obtain ⟨c1,c2⟩:=aC0 (ys0.map V.int) at1
 rw [List.length_append,List.length_map,b0] at c1
 refine ⟨la,lb,_,_,rfl,rfl,ea4,eb,Nat.le_of_lt (j4 (by rw [c1]; lia)),fun lc hlc=>?_⟩
 have s5:=s4.trans (g9 hlc (.lst (z6 (ys0.map V.int) (some (at1:Int)) none ++ z6 (ys0.map V.int) none (some (at1:Int)))))
 have ec:=d9 (H:=H4) (a:=lc) (o:=.lst (z6 (ys0.map V.int) (some (at1:Int)) none ++ z6 (ys0.map V.int) none (some (at1:Int))))
 generalize upd H4 lc (.lst (z6 (ys0.map V.int) (some (at1:Int)) none ++ z6 (ys0.map V.int) none (some (at1:Int)))) = H5 at s5 ec ⊢
 rw [c2 ys0 rfl] at ec
 have b1:(ys0.drop at1 ++ ys0.take at1).length = h.m.toNat:=by rw [List.length_append,List.length_drop,List.length_take]; lia
 generalize ys0.drop at1 ++ ys0.take at1 = ys1 at ec b1
 clear ea4 eb e3 ea c1 c2 e2' hlb hla hlc
 refine ⟨_,rfl,_,_,rfl,rfl,(by show (0:Int) < 2; decide),rfl,_,rfl,?_⟩
 refine at4 (fun σ' G=>j0 H G ∧ ∃ (lc:Addr) (ys:List Int),G lc = some (.lst (ys.map V.int)) ∧ ys.length = h.m.toNat ∧ σ' = [some (.ref a),some (.int n),some (.ref lc),some (.int (at1:Int)),none,none,none]) ?_ ?_ ?_
 rotate_left
 ·intro _ last
  refine ⟨_,rfl,_,rfl,lc,_,rfl,rfl,SqL.of ec,fun ld hld=>last _ _ ⟨s5.trans (g9 hld _),ld,ys1.reverse,by rw [d9,List.map_reverse],by rw [List.length_reverse,b1],rfl⟩⟩
 ·intro _
  exact ⟨s5,lc,ys1,ec,b1,rfl⟩
 rintro σ' G ⟨s6,lc,ys,el,bl,rfl⟩
 refine ⟨_,rfl,lc,_,rfl,rfl,SqL.of el,fun ld hld=>?_⟩
 have s7':=g9 hld (.lst (h8 (ys.map V.int)))
 have s7:=s6.trans s7'
 have ed:=d9 (H:=G) (a:=ld) (o:=.lst (h8 (ys.map V.int)))
 have el7:=s7' _ _ el
 generalize upd G ld (.lst (h8 (ys.map V.int))) = G1 at s7 ed el7 ⊢
 refine ⟨_,rfl,lc,_,rfl,rfl,rfl,SqL.of el7,fun le hle=>?_⟩
 have s8':=g9 hle (.lst (h8 ((ys.map V.int).drop 1)))
 have s8:=s7.trans s8'
 have ee:=d9 (H:=G1) (a:=le) (o:=.lst (h8 ((ys.map V.int).drop 1)))
 have ed8:=s8' _ _ ed
 generalize upd G1 le (.lst (h8 ((ys.map V.int).drop 1))) = G2 at s8 ee ed8 ⊢
 refine ⟨ld,le,_,_,rfl,rfl,ed8,ee,Nat.le_of_lt (j4 (by rw [E2,E2,List.length_drop,List.length_map]; lia)),fun lf hlf=>?_⟩
 have hlf0:H lf = none:=s8.free hlf
 have s9:=s8.trans (g9 hlf (.lst (h8 (ys.map V.int) ++ h8 ((ys.map V.int).drop 1))))
 have ef:=d9 (H:=G2) (a:=lf) (o:=.lst (h8 (ys.map V.int) ++ h8 ((ys.map V.int).drop 1)))
 generalize upd G2 lf (.lst (h8 (ys.map V.int) ++ h8 ((ys.map V.int).drop 1))) = G3 at s9 ef ⊢
 have ef':G3 lf = some (.lst ((h8 ys ++ h8 (ys.drop 1)).map V.int)):=by rw [ef,List.map_append,aa8,← List.map_drop,aa8]
 have b2:(h8 ys ++ h8 (ys.drop 1)).length = h.m.toNat:=by rw [List.length_append,E2,E2,List.length_drop]; lia
 generalize h8 ys ++ h8 (ys.drop 1) = zs at ef' b2
 clear ef ed8 ee el7 ed el
 refine ⟨_,rfl,_,_,rfl,rfl,⟨by decide,by decide,by decide⟩,_,_,rfl,rfl,⟨by show (0:Int) < 10 ^ 18; decide,by show (10:Int) ^ 18 < 18446744073709551616; decide⟩,?_⟩
 dsimp only
 generalize n / 10 ^ Int.toNat 18 = left0
 refine ⟨(by show 0 ≤ sizeLine; decide),fun lg hlg=>?_⟩
 have hlg0:H lg = none:=s9.free hlg
 have nfg:lf ≠ lg:=fun z=>by rw [z,hlg] at ef'; cases ef'
 have s10:=s9.trans (g9 hlg (.lst []))
 have eg:=d9 (H:=G3) (a:=lg) (o:=.lst [])
 have ef10:=g9 hlg (.lst []) _ _ ef'
 generalize upd G3 lg (.lst []) = G4 at s10 eg ef10 ⊢
 refine ⟨_,rfl,_,_,rfl,rfl,.inr ⟨by decide,by decide⟩,_,_,rfl,rfl,(by show (0:Int) < 999931; decide),_,rfl,a,_,_,_,rfl,rfl,j0.seqT s10 hH,rfl,_,_,rfl,rfl,_,_,rfl,rfl,(by show 0 < h.m + 1; lia),?_⟩
 have k1:=Int.emod_nonneg (n * 62089911 % 999931) (show h.m + 1 ≠ 0 by lia)
 have k2:=Int.emod_lt_of_pos (n * 62089911 % 999931) (show 0 < h.m + 1 by lia)
 refine ⟨_,rfl,by show -(2 ^ 62) ≤ n * 62089911 % 999931 % (h.m + 1); lia,by show n * 62089911 % 999931 % (h.m + 1) < 2 ^ 62; lia,?_⟩
 refine z4 (lo:=0) (n:=(n * 62089911 % 999931 % (h.m + 1)).toNat) (fun i σ G=>j0 H G ∧ (∃ bs:List Int,G lf = some (.lst (bs.map V.int)) ∧ bs.length = h.m.toNat - i) ∧ (∃ fs:List Int,G lg = some (.lst (fs.map V.int)) ∧ fs.length = i) ∧ ∃ (lft:Int) (v6:Option V),σ = [some (.ref a),some (.int n),some (.ref lf),some (.int (at1:Int)),some (.int lft),some (.ref lg),v6])
  ⟨s10,⟨zs,ef10,b2⟩,⟨[],eg,rfl⟩,left0,none,rfl⟩ ?_ ?_
 ·rintro i σ G5 hi ⟨t1,⟨bs,eb,lb⟩,⟨fs,ef,lfs⟩,lft,v6,rfl⟩
  have hpos:0 < bs.length:=by lia
  have go:∀ (j:Nat) (hj:j < bs.length) (lft:Int) (v6:Option V),(j0 H (upd (upd G5 lf (.lst ((bs.eraseIdx j).map V.int))) lg (.lst (fs.map V.int ++ [.int (bs[j]'hj)]))) ∧ (∃ bs':List Int,upd (upd G5 lf (.lst ((bs.eraseIdx j).map V.int))) lg (.lst (fs.map V.int ++ [.int (bs[j]'hj)])) lf = some (.lst (bs'.map V.int)) ∧ bs'.length = h.m.toNat - (i + 1)) ∧ (∃ fs':List Int,upd (upd G5 lf (.lst ((bs.eraseIdx j).map V.int))) lg (.lst (fs.map V.int ++ [.int (bs[j]'hj)])) lg = some (.lst (fs'.map V.int)) ∧ fs'.length = i + 1)):=fun j hj lft v6=>by
   refine ⟨fun b u z=>?_,⟨bs.eraseIdx j,?_,?_⟩,⟨fs ++ [bs[j]'hj],?_,?_⟩⟩
   ·rw [h9 (i6 z hlg0),h9 (i6 z hlf0)]
    exact t1 _ _ z
   ·rw [h9 nfg,d9]
   ·rw [List.length_eraseIdx_of_lt hj]
    lia
   ·rw [d9,List.map_append]
    rfl
   ·rw [List.length_append,lfs]
    rfl
  refine ⟨_,rfl,_,_,rfl,rfl,_,rfl,?_⟩
  refine E3 (fun c=>?_) (fun c=>?_)
  ·obtain ⟨j,hj⟩:∃ j:Nat,lft % (((bs.map V.int).length:Nat):Int) = (j:Int):=⟨_,(Int.toNat_of_nonneg (Int.emod_nonneg _ (by rw [List.length_map]; lia))).symm⟩
   have hj2:j < bs.length:=by
    have:=Int.emod_lt_of_pos lft (show (0:Int) < (((bs.map V.int).length:Nat):Int) by rw [List.length_map]; lia)
    rw [List.length_map] at this hj
    lia
   obtain ⟨p1,p2,p3⟩:=ap4 hj2
   refine ⟨_,rfl,.inl ⟨rfl,_,SqL.of ef⟩,_,rfl,.inl ⟨rfl,_,SqL.of eb⟩,_,rfl,_,rfl,lf,_,rfl,.inl (SqL.of eb),_,_,rfl,rfl,(by show (0:Int) < (((bs.map V.int).length:Nat):Int); rw [List.length_map]; lia),lf,_,_,j,_,rfl,(by rw [← hj]),eb,by lia,by lia,p1,p2,?_⟩
   rw [p3]
   refine ⟨lg,fs.map V.int,_,rfl,rfl,by rw [h9 (Ne.symm nfg)]; exact ef,j4 (by rw [List.length_map]; lia),?_⟩
   obtain ⟨g1,⟨bs',g2,g3⟩,g4⟩:=go j hj2 lft v6
   refine ⟨_,rfl,_,rfl,lf,_,rfl,.inl (SqL.of g2),_,_,rfl,rfl,_,_,rfl,rfl,⟨by rw [List.length_map]; lia,by rw [List.length_map]; lia⟩,g1,⟨bs',g2,g3⟩,g4,_,_,rfl⟩
  ·obtain ⟨p1,p2,p3⟩:=ap4 hpos
   refine ⟨_,rfl,.inl ⟨rfl,_,SqL.of ef⟩,_,rfl,.inl ⟨rfl,_,SqL.of eb⟩,lf,_,_,0,_,rfl,rfl,eb,by decide,by decide,p1,p2,?_⟩
   rw [p3]
   refine ⟨lg,fs.map V.int,_,rfl,rfl,by rw [h9 (Ne.symm nfg)]; exact ef,j4 (by rw [List.length_map]; lia),?_⟩
   obtain ⟨g1,g2,g4⟩:=go 0 hpos lft v6
   exact ⟨g1,g2,g4,_,_,rfl⟩
 ·rintro σ G5 ⟨t1,_,⟨fs,ef,lfs⟩,lft,v6,rfl⟩
  exact ⟨_,rfl,q lg fs _ t1 hlg0 ef (by lia)⟩
end
def kfL (ks:List Call) (xs:List Int) (j:Nat):Int:=B0 ks (xs.getD j 0)
theorem X9 {kf:Nat → Int} {n i j:Nat} (hi:i < n) (hj:j < n) (a:A7 kf n i) (b:A7 kf n j):i = j:=by
 rcases Nat.lt_trichotomy i j with z | z | z
 ·have h1:=(b i hi).2 z
  have h2:=(a j hj).1
  lia
 ·exact z
 ·have h1:=(a j hj).2 z
  have h2:=(b i hi).1
  lia
theorem aa6 {kf:Nat → Int} {n i j:Nat} (hi:i < n) (hj:j < n) (a:A6 kf n i) (b:A6 kf n j):i = j:=by
 rcases Nat.lt_trichotomy i j with z | z | z
 ·have h1:=(b i hi).2 z
  have h2:=(a j hj).1
  lia
 ·exact z
 ·have h1:=(a j hj).2 z
  have h2:=(b i hi).1
  lia
def ae6 (sg:Int) (kf:Nat → Int) (n i:Nat):Prop:=∀ j,j < n → sg * kf j ≤ sg * kf i ∧ (j < i → sg * kf j < sg * kf i)
theorem ai7 {kf:Nat → Int} {n i:Nat} (h:ae6 1 kf n i):A7 kf n i:=fun j hj=>by
 have:=h j hj
 rw [Int.one_mul,Int.one_mul] at this
 exact ⟨this.1,this.2⟩
theorem ah4 {kf:Nat → Int} {n i:Nat} (h:ae6 (-1) kf n i):A6 kf n i:=fun j hj=>by
 have:=h j hj
 exact ⟨by lia,fun z=>by have:=this.2 z; lia⟩
theorem E8 {ks:List Call} {i:Nat} {k:Call} (hk:ks[i]? = some k) (r:Nat):M3 (ks.take (i + 1)) r = M3 (ks.take i) r + (if k.k = (r:Int) then 1 else 0):=by
 rw [List.take_add_one,hk]
 exact T5 _ _ _
def Y6 (K:PySem.W.Frag):Sp:=fun vs H Q _=>∃ (b fl:Addr) (h:Hall) (as:List Addr) (ks:List Call) (xs:List Int) (sg:Int),vs = [.ref b,.ref fl,.int sg] ∧ SqL K H b (as.map V.ref) ∧ n6 H as ks ∧ (∀ k ∈ ks,k.In h) ∧ ks.length ≤ 63 ∧ H fl = some (.lst (xs.map V.int)) ∧ xs ≠ [] ∧ (∀ x ∈ xs,0 ≤ x ∧ x < h.m) ∧ (sg = 1 ∨ sg = -1) ∧
 ∀ (i:Nat) (x:Int) (H':Hp),j0 H H' → xs[i]? = some x → ae6 sg (kfL ks xs) xs.length i → Q (.int x) H'
def w9 (ws xs:List Int):Int:=(ws.filter (fun k=>decide (k ∈ xs)) ++ xs).headD 0
def ae8 (K:PySem.W.Frag) (C:Addr):Sp:=fun vs H Q _=>∃ (p dx wl:Addr) (ws:List Int),vs = [.ref p,.ref wl] ∧ H p = some (.ins C dx []) ∧ H wl = some (.lst (ws.map V.int)) ∧ ∀ (rl:Addr) (H':Hp),H rl = none → (∀ b u,b ≠ p → H b = some u → H' b = some u) → H' rl = some (.lst (ws.map V.int)) → H' p = some (.ins C dx [("racks",.ref rl)]) → Q .non H'
def ae5 (K:PySem.W.Frag) (C:Addr):Sp:=fun vs H Q _=>∃ (p dx rl fl:Addr) (v1 v2:V) (ws xs:List Int),vs = [.ref p,v1,v2,.ref fl] ∧ H p = some (.ins C dx [("racks",.ref rl)]) ∧ H rl = some (.lst (ws.map V.int)) ∧ H fl = some (.lst (xs.map V.int)) ∧ xs ≠ [] ∧ Q (.int (w9 ws xs)) H
def U0:Sp:=fun vs H Q _=>∃ (v0 v1 v2:V) (fl:Addr) (xs:List Int),vs = [v0,v1,v2,.ref fl] ∧ H fl = some (.lst (xs.map V.int)) ∧ xs ≠ [] ∧ Q (.int (xs.headD 0)) H
section
variable {P:Program} {w:World} {K:PySem.W.Frag} {mg:Str → Option Value} {base:Heap} {C_Rule C_Fullest C_Emptiest C_Told C_HallError C_NoHall C_NoCalls C_NoLine C_NoRule C_Idle C_Busy C_Engaged C_NoMove:Addr}
theorem u9:FnScope ["_law_calls_here","_law_free_here","_law_sign","_law_best_here","_law_k","_law_one","_law_other"] ["_law_calls_here","_law_free_here","_law_sign"] (g6 (top 30)):=⟨rfl,rfl,rfl,by decide +kernel,rfl,by decide +kernel,by decide +kernel⟩
set_option maxHeartbeats 4000000 in
theorem ag0 (T:Txt K mg) (D:Def K mg "_law_best" (top 30) ["_law_calls_here","_law_free_here","_law_sign"]):Callee P w K mg base 1 "_law_best" ["_law_calls_here","_law_free_here","_law_sign"] (Y6 K):=by
 refine D.ok u9 (fun vs H Q E h=>?_) (fun f cdv A outer s H vs Q E hr h=>?_)
 ·obtain ⟨b,fl,h,as,ks,xs,sg,rfl,_⟩:=h
  rfl
 obtain ⟨b,fl,h,as,ks,xs,sg,rfl,hB,hC,hin,h63,hfl,ne,hx,hsg,q⟩:=h
 have hpos:0 < xs.length:=List.length_pos_iff.mpr ne
 have ln:as.length = ks.length:=Paired.length hC
 refine ⟨_,(e6 (i4 (i:=3) u9.nd rfl (Or.inr rfl) (m4 (m8 K) (pv 1) e7 (fun _ _=>rfl)))
  (e6 (y9 PassesOwn.never rfl (t4 K (pv 1)) (n5 (i:=4) u9.nd rfl (Or.inr rfl))
  (e6 (i4 (i:=5) u9.nd rfl (Or.inl rfl) (j2 (z7 K) rfl T.m_len boot_len (b8 (P6 (own:=["_law_call"]) (fr:=[(4,"_law_k")]) rfl (show CompScope ["_law_calls_here","_law_free_here","_law_sign","_law_best_here","_law_k","_law_one","_law_other"] (g6 (top 30)) _ _ _ from ⟨rfl,by decide +kernel,by decide +kernel,by decide +kernel,by decide +kernel⟩) (t4 K (pv 0)) (fun cl C s H ex=>⟨(n5 (i:=0) (show (["_law_call","_law_k"]:List Str).Nodup from by decide +kernel) rfl (Or.inl rfl) (Or.inr rfl)),(L9 (m3 D4 (m4 (m6 K) (pv 0) e7 (fun _ _=>rfl)) (pv 1) (o5 _))),(pv 0)⟩)) g7 af2)))
  (e6 (i4 (i:=6) u9.nd rfl (Or.inl rfl) (j2 (z7 K) rfl T.m_len boot_len (b8 (P6 (own:=["_law_call"]) (fr:=[(3,"_law_best_here")]) rfl (show CompScope ["_law_calls_here","_law_free_here","_law_sign","_law_best_here","_law_k","_law_one","_law_other"] (g6 (top 30)) _ _ _ from ⟨rfl,by decide +kernel,by decide +kernel,by decide +kernel,by decide +kernel⟩) (t4 K (pv 0)) (fun cl C s H ex=>⟨(n5 (i:=0) (show (["_law_call","_law_best_here"]:List Str).Nodup from by decide +kernel) rfl (Or.inl rfl) (Or.inr rfl)),(L9 (m3 D4 (m4 (m6 K) (pv 0) e7 (fun _ _=>rfl)) (pv 1) (o5 _))),(pv 0)⟩)) g7 af2)))
  (h7 (q0 (m3 az6 (i3 n9 (pv 2) (pv 5)) (i3 n9 (pv 2) (pv 6)) (o5 _)) (h7 (i4 (i:=3) u9.nd rfl (Or.inr rfl) (pv 4))) m7)))))
  (h7 (j8 (pv 3))))),?_⟩
 have at0:atI (xs.map V.int) 0 = some (.int (xs[0]'hpos)):=B5 (j:=0) (by rw [List.getElem?_map,List.getElem?_eq_getElem hpos]; rfl)
 refine ⟨_,rfl,fl,_,_,_,rfl,rfl,SqL.of hfl,at0,?_⟩
 refine ⟨_,rfl,fl,rfl,⟨_,SqL.of hfl⟩,?_⟩
 refine C1 (xs:=xs.map V.int) (fun i σ G=>j0 H G ∧ ∃ (j:Nat) (v4 v5 v6:Option V),j < xs.length ∧ (j < i ∨ j = 0) ∧ ae6 sg (kfL ks xs) i j ∧ σ = [some (.ref b),some (.ref fl),some (.int sg),some (.int (xs.getD j 0)),v4,v5,v6])
  ⟨fun b u z=>z,0,none,none,none,hpos,.inr rfl,(fun j hj=>absurd hj (Nat.not_lt_zero _)),by rw [List.getD,List.getElem?_eq_getElem hpos]; rfl⟩ (fun i σ G _ g=>SqL.of (g.1 _ _ hfl)) ?_ ?_
 ·rintro i y σ G hy ⟨s0,j,v4,v5,v6,hj,hji,bs,rfl⟩
  rw [List.getElem?_map] at hy
  obtain ⟨x,hxi,rfl⟩:=Option.map_eq_some_iff.mp hy
  have xi:=(List.getElem?_eq_some_iff.mp hxi).1
  have e1:xs.getD i 0 = x:=by rw [List.getD,hxi]; rfl
  have bx:=hx x (List.mem_of_getElem? hxi)
  have bj:=hx (xs.getD j 0) (by rw [List.getD,List.getElem?_eq_getElem hj]; exact List.getElem_mem hj)
  refine ⟨_,rfl,b,rfl,⟨_,s0.seq hB⟩,?_⟩
  refine B8 (xs:=as.map V.ref) (fun i acc σ G'=>G' = G ∧ acc.length = M3 (ks.take i) x.toNat ∧ ∃ v,σ = [v,some (.int x)]) ⟨rfl,rfl,none,rfl⟩ (Nat.le_of_lt (j4 (by rw [List.length_map]; lia))) (fun i acc σ G' g=>?_) (fun i acc σ G' _ g=>by rw [g.1]; exact s0.seq hB) ?_ ?_
  ·rw [g.2.1]
   unfold M3
   exact Nat.le_trans (List.length_filter_le _ _) (by rw [List.length_take]; lia)
  ·rintro i y acc σ G' hy ⟨rfl,hl,v,rfl⟩
   rw [List.getElem?_map] at hy
   obtain ⟨p,hp,rfl⟩:=Option.map_eq_some_iff.mp hy
   obtain ⟨k,hk,ce,e1,e2⟩:=o7 hC i p hp
   refine ⟨_,rfl,p,_,_,_,rfl,rfl,SqT.of (s0 _ _ e2),rfl,_,rfl,rfl,_,rfl,?_⟩
   refine E3 (fun c=>?_) (fun c=>?_)
   ·have c':k.k = ((x.toNat:Nat):Int):=(V.int.inj (of_decide_eq_true c)).trans (by lia)
    refine ⟨_,rfl,rfl,?_,_,rfl⟩
    rw [List.length_append,hl,E8 hk,if_pos c']
    rfl
   ·have c':¬ k.k = ((x.toNat:Nat):Int):=fun z=>c (decide_eq_true (by rw [z]; exact congrArg V.int (by lia)))
    refine ⟨rfl,?_,_,rfl⟩
    rw [hl,E8 hk,if_neg c']
    rfl
  rintro vs1 σ G' ⟨rfl,hl,v,rfl⟩ l1 hl0
  rw [List.length_map,ln,List.take_length] at hl
  have t1:=s0.trans (g9 hl0 (.lst vs1))
  have w1:=d9 (H:=G') (a:=l1) (o:=.lst vs1)
  generalize upd G' l1 (.lst vs1) = G1 at t1 w1 ⊢
  have z1:=hl
  clear hl
  refine ⟨l1,_,rfl,.inl (SqL.of w1),?_⟩
  refine ⟨_,rfl,b,rfl,⟨_,t1.seq hB⟩,?_⟩
  refine B8 (xs:=as.map V.ref) (fun i acc σ G'=>G' = G1 ∧ acc.length = M3 (ks.take i) (xs.getD j 0).toNat ∧ ∃ v,σ = [v,some (.int (xs.getD j 0))]) ⟨rfl,rfl,none,rfl⟩ (Nat.le_of_lt (j4 (by rw [List.length_map]; lia))) (fun i acc σ G' g=>?_) (fun i acc σ G' _ g=>by rw [g.1]; exact t1.seq hB) ?_ ?_
  ·rw [g.2.1]
   unfold M3
   exact Nat.le_trans (List.length_filter_le _ _) (by rw [List.length_take]; lia)
  ·rintro i y acc σ G' hy ⟨rfl,hl,v,rfl⟩
   rw [List.getElem?_map] at hy
   obtain ⟨p,hp,rfl⟩:=Option.map_eq_some_iff.mp hy
   obtain ⟨k,hk,ce,e1,e2⟩:=o7 hC i p hp
   refine ⟨_,rfl,p,_,_,_,rfl,rfl,SqT.of (t1 _ _ e2),rfl,_,rfl,rfl,_,rfl,?_⟩
   refine E3 (fun c=>?_) (fun c=>?_)
   ·have c':k.k = (((xs.getD j 0).toNat:Nat):Int):=(V.int.inj (of_decide_eq_true c)).trans (by lia)
    refine ⟨_,rfl,rfl,?_,_,rfl⟩
    rw [List.length_append,hl,E8 hk,if_pos c']
    rfl
   ·have c':¬ k.k = (((xs.getD j 0).toNat:Nat):Int):=fun z=>c (decide_eq_true (by rw [z]; exact congrArg V.int (by lia)))
    refine ⟨rfl,?_,_,rfl⟩
    rw [hl,E8 hk,if_neg c']
    rfl
  rintro vs2 σ G' ⟨rfl,hl,v,rfl⟩ l2 hl0
  rw [List.length_map,ln,List.take_length] at hl
  have t2:=t1.trans (g9 hl0 (.lst vs2))
  have w2:=d9 (H:=G') (a:=l2) (o:=.lst vs2)
  generalize upd G' l2 (.lst vs2) = G2 at t2 w2 ⊢
  have z2:=hl
  clear hl
  refine ⟨l2,_,rfl,.inl (SqL.of w2),?_⟩
  have k1:(((vs1.length:Nat):Int)) = kfL ks xs i:=by rw [z1]; unfold kfL B0; rw [e1]
  have k2:(((vs2.length:Nat):Int)) = kfL ks xs j:=by rw [z2]; rfl
  have sm:-(2 ^ 64) < sg ∧ sg < 2 ^ 64:=by rcases hsg with rfl | rfl <;> decide
  refine ⟨_,rfl,_,rfl,_,_,rfl,rfl,.inl sm,_,rfl,_,rfl,_,_,rfl,rfl,.inl sm,_,_,rfl,rfl,_,rfl,?_⟩
  rw [k1,k2]
  refine E3 (fun c=>?_) (fun c=>?_)
  ·have c':sg * kfL ks xs i > sg * kfL ks xs j:=of_decide_eq_true c
   refine ⟨_,rfl,t2,i,_,_,_,xi,.inl (Nat.lt_succ_self _),fun j' hj'=>?_,by rw [e1]; rfl⟩
   by_cases z:j' = i
   ·subst z
    exact ⟨Int.le_refl _,fun y=>absurd y (Nat.lt_irrefl _)⟩
   ·have:=(bs j' (by lia)).1
    exact ⟨by lia,fun _=>by lia⟩
  ·have c':¬ sg * kfL ks xs i > sg * kfL ks xs j:=fun z=>c (decide_eq_true z)
   refine ⟨t2,j,_,_,_,hj,hji.imp (fun z=>Nat.lt_succ_of_lt z) id,fun j' hj'=>?_,rfl⟩
   by_cases z:j' = i
   ·subst z
    refine ⟨by lia,fun y=>?_⟩
    rcases hji with z | z <;> lia
   ·exact bs j' (by lia)
 ·rintro σ G ⟨s0,j,v4,v5,v6,hj,hji,bs,rfl⟩
  rw [List.length_map] at bs
  exact ⟨_,rfl,q j (xs.getD j 0) G s0 (by rw [List.getD,List.getElem?_eq_getElem hj]; rfl) bs⟩
theorem R8:FnScope ["self","hall","calls","free"] ["self","hall","calls","free"] (g6 (j1 (top 13) 0)):=⟨rfl,rfl,rfl,by decide +kernel,rfl,by decide +kernel,by decide +kernel⟩
theorem ab2 (T:Txt K mg) (Z:TxtC K mg C_Rule C_Fullest C_Emptiest C_Told C_HallError C_NoHall C_NoCalls C_NoLine C_NoRule C_Idle C_Busy C_Engaged C_NoMove) (D:DefM K C_Rule "choose" "Rule.choose" (j1 (top 13) 0) ["self","hall","calls","free"] [] noKw):CalleeM P w K mg base 1 C_Rule "choose" ["self","hall","calls","free"] [] noKw U0:=by
 refine D.ok R8 (fun vs H Q E h=>?_) (fun f cdv A outer s H vs Q E hr h=>?_)
 ·obtain ⟨v0,v1,v2,fl,xs,rfl,_⟩:=h
  rfl
 obtain ⟨v0,v1,v2,fl,xs,rfl,hl,ne,q⟩:=h
 obtain ⟨x,t,rfl⟩:=List.exists_cons_of_ne_nil ne
 refine ⟨_,(h7 (j8 (m4 (m8 K) (pv 3) e7 (fun _ _=>rfl)))),?_⟩
 exact ⟨_,rfl,fl,_,_,_,rfl,rfl,SqL.of hl,(show atI _ ((0:Nat):Int) = _ from B5 rfl),q⟩
theorem N8:FnScope ["self","listed"] ["self","listed"] (g6 (j1 (top 17) 0)):=⟨rfl,rfl,rfl,by decide +kernel,rfl,by decide +kernel,by decide +kernel⟩
theorem ap7 (T:Txt K mg) (Z:TxtC K mg C_Rule C_Fullest C_Emptiest C_Told C_HallError C_NoHall C_NoCalls C_NoLine C_NoRule C_Idle C_Busy C_Engaged C_NoMove) (D:DefM K C_Told "__init__" "Told.__init__" (j1 (top 17) 0) ["self","listed"] [] noKw):CalleeM P w K mg base 1 C_Told "__init__" ["self","listed"] [] noKw (ae8 K C_Told):=by
 refine D.ok N8 (fun vs H Q E h=>?_) (fun f cdv A outer s H vs Q E hr h=>?_)
 ·obtain ⟨p,dx,wl,ws,rfl,_⟩:=h
  rfl
 obtain ⟨p,dx,wl,ws,rfl,hp,hw,q⟩:=h
 refine ⟨_,(h7 (aC3 (pv 0) (z9 (K8 K) rfl T.m_list boot_list (b8 (pv 1) g7 b9)) rfl)),?_⟩
 refine ⟨_,rfl,wl,_,rfl,.inl (SqL.of hw),fun rl hrl=>?_⟩
 have npr:p ≠ rl:=fun z=>by rw [← z,hp] at hrl; cases hrl
 refine ⟨_,rfl,p,C_Told,dx,_,rfl,by rw [h9 npr]; exact hp,Z.cl_Told,Z.n_Told_racks,(by show 0 < 1000; decide),?_⟩
 refine q rl _ hrl (fun b u nb z=>?_) ?_ d9
 ·rw [h9 nb,h9 (i6 z hrl)]
  exact z
 ·rw [h9 (Ne.symm npr),d9]
theorem E5:FnScope ["self","hall","calls","free","k"] ["self","hall","calls","free"] (g6 (j1 (top 17) 1)):=⟨rfl,rfl,rfl,by decide +kernel,rfl,by decide +kernel,by decide +kernel⟩
theorem aj9 (T:Txt K mg) (Z:TxtC K mg C_Rule C_Fullest C_Emptiest C_Told C_HallError C_NoHall C_NoCalls C_NoLine C_NoRule C_Idle C_Busy C_Engaged C_NoMove) (D:DefM K C_Told "choose" "Told.choose" (j1 (top 17) 1) ["self","hall","calls","free"] [] noKw):CalleeM P w K mg base 1 C_Told "choose" ["self","hall","calls","free"] [] noKw (ae5 K C_Told):=by
 refine D.ok E5 (fun vs H Q E h=>?_) (fun f cdv A outer s H vs Q E hr h=>?_)
 ·obtain ⟨p,dx,rl,fl,v1,v2,ws,xs,rfl,_⟩:=h
  rfl
 obtain ⟨p,dx,rl,fl,v1,v2,ws,xs,rfl,hp,hw,hf,ne,q⟩:=h
 refine ⟨_,(e6 (y9 PassesOwn.never rfl (t4 K (au3 K (pv 0))) (n5 (i:=4) E5.nd rfl (Or.inl rfl))
  (h7 (q0 (m3 (ak0 K) (pv 4) (pv 3) (by with_unfolding_all rfl)) (h7 (j8 (pv 4))) m7)))
  (h7 (j8 (m4 (m8 K) (pv 3) e7 (fun _ _=>rfl))))),?_⟩
 refine ⟨_,rfl,p,C_Told,dx,_,_,rfl,hp,Z.cl_Told,Z.n_Told_racks,rfl,rl,rfl,⟨_,SqL.of hw⟩,?_⟩
 refine C1 (xs:=ws.map V.int) (fun i σ G=>G = H ∧ (ws.take i).filter (fun k=>decide (k ∈ xs)) = [] ∧ ∃ v4,σ = [some (.ref p),some v1,some v2,some (.ref fl),v4])
  ⟨rfl,rfl,none,rfl⟩ (fun i σ G _ g=>by rw [g.1]; exact SqL.of hw) ?_ ?_
 ·rintro i y σ G hy ⟨rfl,no,v4,rfl⟩
  rw [List.getElem?_map] at hy
  obtain ⟨k,hk,rfl⟩:=Option.map_eq_some_iff.mp hy
  refine ⟨_,rfl,_,rfl,fl,_,rfl,.inl (SqL.of hf),rfl,Q0 xs,_,rfl,?_⟩
  refine E3 (fun c0=>?_) (fun c0=>?_)
  ·have c:inV (.int k) (xs.map V.int) = true:=c0
   rw [M5] at c
   have e:w9 ws xs = k:=by
    unfold w9
    have:ws = ws.take i ++ k :: ws.drop (i + 1):=by
     have h1:=(List.getElem?_eq_some_iff.mp hk)
     rw [← h1.2,← List.drop_eq_getElem_cons h1.1,List.take_append_drop]
    rw [this,List.filter_append,no,List.filter_cons,if_pos c]
    rfl
   rw [e] at q
   exact ⟨_,rfl,q⟩
  ·have c:¬ inV (.int k) (xs.map V.int) = true:=c0
   rw [M5] at c
   refine ⟨rfl,?_,_,rfl⟩
   rw [List.take_add_one,hk,List.filter_append,no,List.nil_append]
   show List.filter (fun k=>decide (k ∈ xs)) [k] = []
   rw [List.filter_cons,if_neg c]
   rfl
 ·rintro σ G ⟨rfl,no,v4,rfl⟩
  rw [List.length_map,List.take_length] at no
  obtain ⟨x,t,rfl⟩:=List.exists_cons_of_ne_nil ne
  have e:w9 ws (x :: t) = x:=by
   unfold w9
   rw [no]
   rfl
  rw [e] at q
  exact ⟨_,rfl,fl,_,_,_,rfl,rfl,SqL.of hf,(show atI _ ((0:Nat):Int) = _ from B5 rfl),q⟩
end
theorem B3 {K:PySem.W.Frag}:PySem.W.kitOne K (.type "str") (.type "str") = some true:=N7 (by decide +kernel)
structure KindOk (K:PySem.W.Frag) (C CH:Addr) (cs:List Addr) (bs:List Bool) (j:Nat):Prop where
 x:ExcX K C
 hall:PySem.W.kitOne K (.ref C) (.ref CH) = some true
 val:PySem.W.kitOne K (.ref C) (.type "ValueError") = some true
 each:Paired (fun D b=>PySem.W.kitOne K (.ref C) (.ref D) = some b) cs bs
 one:bs.count true = 1
 at_:bs[j]? = some true
 no:∀ m < j,bs[m]? = some (!true)
 few:j ≤ 1000
def aq4 (K:PySem.W.Frag) (CH:Addr) (cs:List Addr):Sp:=fun vs H Q _=>∃ (ea C:Addr) (bs:List Bool) (j:Nat),vs = [.ref ea] ∧ H ea = some (S3 ea C) ∧ KindOk K C CH cs bs j ∧ ∀ H',j0 H H' → Q (.int (j:Nat)) H'
section
variable {P:Program} {w:World} {K:PySem.W.Frag} {mg:Str → Option Value} {base:Heap} {C_Rule C_Fullest C_Emptiest C_Told C_HallError C_NoHall C_NoCalls C_NoLine C_NoRule C_Idle C_Busy C_Engaged C_NoMove:Addr}
theorem A4:FnScope ["_law_e","_law_some"] ["_law_e"] (g6 (top 27)):=⟨rfl,rfl,rfl,by decide +kernel,rfl,by decide +kernel,by decide +kernel⟩
theorem ay0 (T:Txt K mg) (Z:TxtC K mg C_Rule C_Fullest C_Emptiest C_Told C_HallError C_NoHall C_NoCalls C_NoLine C_NoRule C_Idle C_Busy C_Engaged C_NoMove) (D:Def K mg "_law_kind" (top 27) ["_law_e"]):Callee P w K mg base 1 "_law_kind" ["_law_e"] (aq4 K C_HallError [C_NoLine,C_Busy,C_Engaged,C_Idle,C_NoRule,C_NoMove,C_NoHall,C_NoCalls]):=by
 refine D.ok A4 (fun vs H Q E h=>?_) (fun f cdv A outer s H vs Q E hr h=>?_)
 ·obtain ⟨ea,C,bs,j,rfl,_⟩:=h
  rfl
 obtain ⟨ea,C,bs,j,rfl,he,ko,q⟩:=h
 obtain ⟨b0,b1,b2,b3,b4,b5,b6,b7,rfl,k0,k1,k2,k3,k4,k5,k6,k7⟩:∃ b0 b1 b2 b3 b4 b5 b6 b7,bs = [b0,b1,b2,b3,b4,b5,b6,b7] ∧ PySem.W.kitOne K (.ref C) (.ref C_NoLine) = some b0 ∧ PySem.W.kitOne K (.ref C) (.ref C_Busy) = some b1 ∧ PySem.W.kitOne K (.ref C) (.ref C_Engaged) = some b2 ∧ PySem.W.kitOne K (.ref C) (.ref C_Idle) = some b3 ∧
   PySem.W.kitOne K (.ref C) (.ref C_NoRule) = some b4 ∧ PySem.W.kitOne K (.ref C) (.ref C_NoMove) = some b5 ∧ PySem.W.kitOne K (.ref C) (.ref C_NoHall) = some b6 ∧ PySem.W.kitOne K (.ref C) (.ref C_NoCalls) = some b7:=by
  have:=ko.each
  match bs,this with
  | _,.cons a0 (.cons a1 (.cons a2 (.cons a3 (.cons a4 (.cons a5 (.cons a6 (.cons a7 .nil)))))))=>exact ⟨_,_,_,_,_,_,_,_,rfl,a0,a1,a2,a3,a4,a5,a6,a7⟩
 have rr:∀ {D:Addr} (u:Value),i9 (.ref D) u → u = .ref D:=fun {D} u h=>h
 refine ⟨_,(e6 (i4 (i:=1) A4.nd rfl (Or.inl rfl) (o9 (b8 (j2 (n3 K) rfl T.m_isinstance boot_isinstance (b8 (pv 0) (b8 (A5 (v:=.ref C_NoLine) rfl Z.mg_NoLine rfl) g7 b9) b9)) (b8 (j2 (n3 K) rfl T.m_isinstance boot_isinstance (b8 (pv 0) (b8 (A5 (v:=.ref C_Busy) rfl Z.mg_Busy rfl) g7 b9) b9)) (b8 (j2 (n3 K) rfl T.m_isinstance boot_isinstance (b8 (pv 0) (b8 (A5 (v:=.ref C_Engaged) rfl Z.mg_Engaged rfl) g7 b9) b9)) g7 j6) j6) j6)))
  (e6 (i4 (i:=1) A4.nd rfl (Or.inl rfl) (i3 D2 (pv 1) (o9 (b8 (j2 (n3 K) rfl T.m_isinstance boot_isinstance (b8 (pv 0) (b8 (A5 (v:=.ref C_Idle) rfl Z.mg_Idle rfl) g7 b9) b9)) (b8 (j2 (n3 K) rfl T.m_isinstance boot_isinstance (b8 (pv 0) (b8 (A5 (v:=.ref C_NoRule) rfl Z.mg_NoRule rfl) g7 b9) b9)) (b8 (j2 (n3 K) rfl T.m_isinstance boot_isinstance (b8 (pv 0) (b8 (A5 (v:=.ref C_NoMove) rfl Z.mg_NoMove rfl) g7 b9) b9)) g7 j6) j6) j6))))
  (e6 (i4 (i:=1) A4.nd rfl (Or.inl rfl) (i3 D2 (pv 1) (o9 (b8 (j2 (n3 K) rfl T.m_isinstance boot_isinstance (b8 (pv 0) (b8 (A5 (v:=.ref C_NoHall) rfl Z.mg_NoHall rfl) g7 b9) b9)) (b8 (j2 (n3 K) rfl T.m_isinstance boot_isinstance (b8 (pv 0) (b8 (A5 (v:=.ref C_NoCalls) rfl Z.mg_NoCalls rfl) g7 b9) b9)) g7 j6) j6))))
  (e6 (q0 (PW.pt (ap9 (R6 (F3 K (j2 (n3 K) rfl T.m_isinstance boot_isinstance (b8 (pv 0) (b8 (A5 (v:=.ref C_HallError) rfl Z.mg_HallError rfl) g7 b9) b9)) (fun _=>rfl))) (ap9 (R6 (F3 K (j2 (n3 K) rfl T.m_isinstance boot_isinstance (b8 (pv 0) (b8 (P8 (v:=.ty "ValueError") rfl T.m_ValueError P0 rfl) g7 b9) b9)) (fun _=>rfl))) (am2 (m3 aF6 (A2 K PySem.F.plainAttrs_list PySem.F.slot_list_count PySem.F.type_list_count ah2 (pv 1) (b8 O3 g7 i5)) e7 (o5 _)))))) (h7 (j8 (al4 ac8 e7))) m7)
  (h7 (j8 (A2 K PySem.F.plainAttrs_list PySem.F.slot_list_index PySem.F.type_list_index aj6 (pv 1) (b8 O3 g7 i5)))))))),?_⟩
 refine ⟨_,rfl,ea,C,_,_,b0,rfl,rr,he,ko.x,k0,?_⟩
 refine ⟨_,rfl,ea,C,_,_,b1,rfl,rr,he,ko.x,k1,?_⟩
 refine ⟨_,rfl,ea,C,_,_,b2,rfl,rr,he,ko.x,k2,?_⟩
 refine ⟨(by show 3 ≤ sizeLine; decide),fun p1 hp1=>?_⟩
 have s1:=g9 hp1 (.lst [.bl b0,.bl b1,.bl b2])
 have e1:=d9 (H:=H) (a:=p1) (o:=.lst [.bl b0,.bl b1,.bl b2])
 generalize upd H p1 (.lst [.bl b0,.bl b1,.bl b2]) = H1 at s1 e1 ⊢
 have he1:=s1 _ _ he
 refine ⟨_,rfl,?_⟩
 refine ⟨_,rfl,ea,C,_,_,b3,rfl,rr,he1,ko.x,k3,?_⟩
 refine ⟨_,rfl,ea,C,_,_,b4,rfl,rr,he1,ko.x,k4,?_⟩
 refine ⟨_,rfl,ea,C,_,_,b5,rfl,rr,he1,ko.x,k5,?_⟩
 refine ⟨(by show 3 ≤ sizeLine; decide),fun p2 hp2=>?_⟩
 have s2:=g9 hp2 (.lst [.bl b3,.bl b4,.bl b5])
 have e2:=d9 (H:=H1) (a:=p2) (o:=.lst [.bl b3,.bl b4,.bl b5])
 generalize upd H1 p2 (.lst [.bl b3,.bl b4,.bl b5]) = H2 at s2 e2 ⊢
 refine ⟨p1,p2,_,_,rfl,rfl,s2 _ _ e1,e2,(by show 6 ≤ sizeLine; decide),fun p3 hp3=>?_⟩
 have s3:=g9 hp3 (.lst ([.bl b0,.bl b1,.bl b2] ++ [.bl b3,.bl b4,.bl b5]))
 have e3:=d9 (H:=H2) (a:=p3) (o:=.lst ([.bl b0,.bl b1,.bl b2] ++ [.bl b3,.bl b4,.bl b5]))
 generalize upd H2 p3 (.lst ([.bl b0,.bl b1,.bl b2] ++ [.bl b3,.bl b4,.bl b5])) = H3 at s3 e3 ⊢
 have he3:=s3 _ _ (s2 _ _ he1)
 refine ⟨_,rfl,?_⟩
 refine ⟨_,rfl,ea,C,_,_,b6,rfl,rr,he3,ko.x,k6,?_⟩
 refine ⟨_,rfl,ea,C,_,_,b7,rfl,rr,he3,ko.x,k7,?_⟩
 refine ⟨(by show 2 ≤ sizeLine; decide),fun p4 hp4=>?_⟩
 have s4:=g9 hp4 (.lst [.bl b6,.bl b7])
 have e4:=d9 (H:=H3) (a:=p4) (o:=.lst [.bl b6,.bl b7])
 generalize upd H3 p4 (.lst [.bl b6,.bl b7]) = H4 at s4 e4 ⊢
 refine ⟨p3,p4,_,_,rfl,rfl,s4 _ _ e3,e4,(by show 8 ≤ sizeLine; decide),fun p5 hp5=>?_⟩
 have s5:=g9 hp5 (.lst (([.bl b0,.bl b1,.bl b2] ++ [.bl b3,.bl b4,.bl b5]) ++ [.bl b6,.bl b7]))
 have e5:=d9 (H:=H4) (a:=p5) (o:=.lst (([.bl b0,.bl b1,.bl b2] ++ [.bl b3,.bl b4,.bl b5]) ++ [.bl b6,.bl b7]))
 generalize upd H4 p5 (.lst (([.bl b0,.bl b1,.bl b2] ++ [.bl b3,.bl b4,.bl b5]) ++ [.bl b6,.bl b7])) = H5 at s5 e5 ⊢
 have he5:=s5 _ _ (s4 _ _ he3)
 have s15:=s1.trans (s2.trans (s3.trans (s4.trans s5)))
 have e5':H5 p5 = some (.lst ([b0,b1,b2,b3,b4,b5,b6,b7].map V.bl)):=e5
 refine ⟨_,rfl,ea,C,_,_,true,rfl,rr,he5,ko.x,ko.hall,_,rfl,V9 ?_⟩
 refine ⟨_,rfl,ea,C,_,_,true,rfl,(fun u h=>h),he5,ko.x,ko.val,_,rfl,V9 ?_⟩
 refine ⟨_,rfl,.inl ⟨rfl,_,SqL.of e5'⟩,p5,true,_,rfl,rfl,e5',rfl,_,rfl,aJ9 (by rw [ko.one]; decide) ?_⟩
 exact ⟨_,rfl,.inl ⟨rfl,_,SqL.of e5'⟩,p5,true,_,j,rfl,rfl,e5',ko.at_,ko.no,ko.few,q _ s15⟩
end
inductive NoWord (K:PySem.W.Frag) (H:Hp):V → Prop where
 | str (z:Str) (h1:z ≠ "first") (h2:z ≠ "fullest") (h3:z ≠ "emptiest") (h4:z ≠ "round"):NoWord K H (.str z)
 | odd {x:V} {t:Value} (ty:TyOf K H x t) (h:PySem.W.kitOne K t (.type "str") = some false):NoWord K H x
def K7 (K:PySem.W.Frag) (CR CF CE CN:Addr):Sp:=fun vs H Q E=>∃ x:V,vs = [x] ∧
 ((∃ C,((x = .str "first" ∧ C = CR) ∨ (x = .str "fullest" ∧ C = CF) ∨ (x = .str "emptiest" ∧ C = CE)) ∧ ∀ (r dx:Addr) (H':Hp),H r = none → j0 H H' → H' r = some (.ins C dx []) → Q (.ref r) H') ∨ (NoWord K H x ∧ E (.ref CN) none H))
def N6 (T1 T2:Addr) (H H':Hp):Prop:=∀ b u,b ≠ T1 → b ≠ T2 → H b = some u → H' b = some u
structure Tabs (T1 T2:Addr) (H:Hp):Prop where
 ne:T1 ≠ T2
 f:D3 H T1 aE1 (ag8 "Fullest.choose")
 e:D3 H T2 aD3 (ag8 "Emptiest.choose")
theorem Tabs.same {T1 T2:Addr} {H H':Hp} (t:Tabs T1 T2 H) (s:j0 H H'):Tabs T1 T2 H':=⟨t.ne,C2 s t.f,C2 s t.e⟩
theorem Tabs.no {T1 T2:Addr} {H:Hp} (t:Tabs T1 T2 H) {b:Addr} {u:HO} (e:H b = some u) (n:∀ ps,u ≠ .tbl ps):b ≠ T1 ∧ b ≠ T2:=by
 refine ⟨fun z=>?_,fun z=>?_⟩
 ·obtain ⟨ps,h⟩:=E7 t.f
  rw [z,h] at e
  cases e
  exact n _ rfl
 ·obtain ⟨ps,h⟩:=E7 t.e
  rw [z,h] at e
  cases e
  exact n _ rfl
theorem N6.keep {T1 T2:Addr} {H H':Hp} (t:Tabs T1 T2 H) (s:N6 T1 T2 H H') {b:Addr} {u:HO} (e:H b = some u) (n:∀ ps,u ≠ .tbl ps):H' b = some u:=s b u (t.no e n).1 (t.no e n).2 e
theorem V4 {T1 T2:Addr} {H H':Hp} (s:j0 H H'):N6 T1 T2 H H':=fun b u _ _ e=>s b u e
theorem N6.trans {T1 T2:Addr} {H H1 H2:Hp} (a:N6 T1 T2 H H1) (b:N6 T1 T2 H1 H2):N6 T1 T2 H H2:=fun x u n1 n2 e=>b x u n1 n2 (a x u n1 n2 e)
theorem N6.seqT {K:PySem.W.Frag} {T1 T2:Addr} {H H':Hp} (t:Tabs T1 T2 H) (s:N6 T1 T2 H H') {a:Addr} {xs:List V} (h:SqT K H a xs):SqT K H' a xs:=by
 rcases h with (h | ⟨o,h⟩) | h
 ·exact .inl (.inl (s.keep t h fun ps z=>nomatch z))
 ·exact .inl (.inr ⟨o,s.keep t h fun ps z=>nomatch z⟩)
 ·exact .inr h
def U7 (K:PySem.W.Frag) (T1 T2:Addr):Sp:=fun vs H Q _=>∃ (a l:Addr) (h:Hall) (as:List Addr) (ks:List Call) (n:Int),vs = [.ref a,.ref l,.int n] ∧ SqT K H a (h.row.map V.int) ∧ h.Ok ∧ H l = some (.lst (as.map V.ref)) ∧ n6 H as ks ∧ (∀ k ∈ ks,k.In h) ∧ ks.length ≤ 63 ∧ 0 ≤ n ∧ Tabs T1 T2 H ∧
 ∀ H',N6 T1 T2 H H' → Tabs T1 T2 H' → Q (.bl true) H'
def Y8 (K:PySem.W.Frag):Sp:=fun vs H Q _=>∃ x:V,vs = [x] ∧ NoWord K H x ∧ ∀ H',j0 H H' → Q (.bl true) H'
theorem ah5 (as:List Addr):(as.map V.ref).all ao9 = true:=by
 rw [List.all_eq_true]
 intro x hx
 obtain ⟨c,_,rfl⟩:=List.mem_map.mp hx
 rfl
theorem C4 {x y:Str} {A B:Prop} (h:x ≠ y) (b:B):if decide (V.str x = V.str y) = true then A else B:=by
 rw [if_neg fun z=>h (V.str.inj (of_decide_eq_true z))]
 exact b
theorem C6 {H:Hp} {C r dx:Addr} (hr:H r = none) (hd:H dx = none):j0 H (upd (upd H dx (.own r)) r (.ins C dx [])):=fun b u z=>by rw [h9 (i6 z hr),h9 (i6 z hd)]; exact z
def am3 (a b c d:Int):List V:=[.int a,.int b,.int c,.int a,.int b,.int c,.int d]
def aJ6 (r0 r1 r2 r3 r4 r5 to:Addr):List V:=[.ref r0,.ref r1,.ref r2,.ref r3,.ref r4,.ref r5,.ref to]
section
variable {P:Program} {w:World} {K:PySem.W.Frag} {mg:Str → Option Value} {base:Heap} {C_Rule C_Fullest C_Emptiest C_Told C_HallError C_NoHall C_NoCalls C_NoLine C_NoRule C_Idle C_Busy C_Engaged C_NoMove:Addr} {T_Fullest_choose T_Emptiest_choose:Addr}
theorem aa9:FnScope ["word"] ["word"] (g6 (top 18)):=⟨rfl,rfl,rfl,by decide +kernel,rfl,by decide +kernel,by decide +kernel⟩
theorem ah1 (T:Txt K mg) (Z:TxtC K mg C_Rule C_Fullest C_Emptiest C_Told C_HallError C_NoHall C_NoCalls C_NoLine C_NoRule C_Idle C_Busy C_Engaged C_NoMove) (D:Def K mg "rule_of" (top 18) ["word"]):CalleeE P w K mg base 2 "rule_of" ["word"] [] (K7 K C_Rule C_Fullest C_Emptiest C_NoRule):=by
 refine D.okE aa9 (fun vs H Q E h=>?_) (fun f cdv A outer s H vs Q E hr h=>?_)
 ·obtain ⟨x,rfl,_⟩:=h
  rfl
 obtain ⟨x,rfl,h⟩:=h
 refine ⟨_,(e6 (q0 (F3 K (j2 (C8 K) rfl T.m_isinstance boot_isinstance (b8 (pv 0) (b8 (P8 (v:=.ty "str") rfl T.m_str boot_str rfl) g7 b9) b9)) (fun _=>rfl)) (e6 (q0 (m3 D4 (pv 0) p6 (o5 _)) (h7 (j8 (C0 Z.M_Rule Z.p_Rule rfl))) m7)
  (e6 (q0 (m3 D4 (pv 0) p6 (o5 _)) (h7 (j8 (C0 Z.M_Fullest Z.p_Fullest rfl))) m7)
  (e6 (q0 (m3 D4 (pv 0) p6 (o5 _)) (h7 (j8 (C0 Z.M_Emptiest Z.p_Emptiest rfl))) m7)
  (h7 (q0 (m3 D4 (pv 0) p6 (o5 _)) (h7 (j8 ar4)) m7))))) m7)
  (h7 (aq6 ar9 Z.e_NoRule hr.hd rfl p6))),?_⟩
 have new:∀ {C:Addr} {Q:VK},(∀ (r dx:Addr) (H':Hp),H r = none → j0 H H' → H' r = some (.ins C dx []) → Q (.ref r) H') → ∀ r dx,H r = none → H dx = none → dx ≠ r → Q (.ref r) (upd (upd H dx (.own r)) r (.ins C dx [])):=fun q r dx h1 h2 _=>q r dx _ h1 (C6 h1 h2) d9
 rcases h with ⟨C,hx,q⟩ | ⟨nw,qE⟩
 ·rcases hx with ⟨rfl,rfl⟩ | ⟨rfl,rfl⟩ | ⟨rfl,rfl⟩
  ·refine ⟨_,rfl,_,_,_,true,rfl,.str _,B3,_,rfl,R1 ?_⟩
   exact ⟨_,rfl,rfl,_,rfl,R1 (new q)⟩
  ·refine ⟨_,rfl,_,_,_,true,rfl,.str _,B3,_,rfl,R1 ?_⟩
   refine ⟨_,rfl,rfl,_,rfl,C4 (by decide) ?_⟩
   exact ⟨_,rfl,rfl,_,rfl,R1 (new q)⟩
  ·refine ⟨_,rfl,_,_,_,true,rfl,.str _,B3,_,rfl,R1 ?_⟩
   refine ⟨_,rfl,rfl,_,rfl,C4 (by decide) ?_⟩
   refine ⟨_,rfl,rfl,_,rfl,C4 (by decide) ?_⟩
   exact ⟨_,rfl,rfl,_,rfl,R1 (new q)⟩
 ·cases nw with
  | str z h1 h2 h3 h4 =>
   refine ⟨_,rfl,_,_,_,true,rfl,.str _,B3,_,rfl,R1 ?_⟩
   refine ⟨_,rfl,rfl,_,rfl,C4 h1 ?_⟩
   refine ⟨_,rfl,rfl,_,rfl,C4 h2 ?_⟩
   refine ⟨_,rfl,rfl,_,rfl,C4 h3 ?_⟩
   exact ⟨_,rfl,rfl,_,rfl,C4 h4 qE⟩
  | odd ty h=>exact ⟨_,rfl,_,_,_,false,rfl,ty,h,_,rfl,V9 qE⟩
theorem x9:FnScope ["_law_thing","_law_refused","_law_e"] ["_law_thing"] (g6 (top 33)):=⟨rfl,rfl,rfl,by decide +kernel,rfl,by decide +kernel,by decide +kernel⟩
theorem ah0 (T:Txt K mg) (Z:TxtC K mg C_Rule C_Fullest C_Emptiest C_Told C_HallError C_NoHall C_NoCalls C_NoLine C_NoRule C_Idle C_Busy C_Engaged C_NoMove) (C_rule_of:CalleeE P w K mg base 2 "rule_of" ["word"] [] (K7 K C_Rule C_Fullest C_Emptiest C_NoRule)) (C__law_kind:Callee P w K mg base 1 "_law_kind" ["_law_e"] (aq4 K C_HallError [C_NoLine,C_Busy,C_Engaged,C_Idle,C_NoRule,C_NoMove,C_NoHall,C_NoCalls])) (D:Def K mg "_law_no_word" (top 33) ["_law_thing"]):Callee P w K mg base 3 "_law_no_word" ["_law_thing"] (Y8 K):=by
 refine D.ok x9 (fun vs H Q E h=>?_) (fun f cdv A outer s H vs Q E hr h=>?_)
 ·obtain ⟨x,rfl,_⟩:=h
  rfl
 obtain ⟨x,rfl,nw,q⟩:=h
 refine ⟨_,(e6 (i4 (i:=1) x9.nd rfl (Or.inl rfl) S0)
  (e6 (aE2 (c:=.ref C_HallError) (i:=2) rfl Z.mg_HallError x9.nd rfl rfl rfl rfl rfl (fun pn E =>
  (h7 (A0 (V7 0 C_rule_of ao5 hr rfl (b8 (pv 0) g7 b9))))) (fun ea =>
  (h7 (i4 (i:=1) x9.nd rfl (Or.inl rfl) (pv 2)))))
  (h7 (j8 (ab9 (W6 ad5 (pv 1) S0 (o5 _)) (aq3 (W6 D4 (y1 C__law_kind hr rfl (b8 (pv 1) g7 b9)) e7 (o5 _)))))))),?_⟩
 refine ⟨fun σ c0 _ H'=>σ = [some x,some .non,none] ∧ c0 = .ref C_NoRule ∧ H' = H,?_,fun σ' c0 d H' z=>?_⟩
 ·exact ⟨_,rfl,x,rfl,.inr ⟨nw,rfl,rfl,rfl⟩⟩
 obtain ⟨rfl,rfl,rfl⟩:=z
 refine ⟨rfl,Z.kh_NoRule,fun ea C eC hea=>?_⟩
 cases eC
 have s1:=g9 hea (S3 ea C_NoRule)
 have e1:=d9 (H:=H') (a:=ea) (o:=S3 ea C_NoRule)
 generalize upd H' ea (S3 ea C_NoRule) = H1 at s1 e1 ⊢
 refine ⟨_,rfl,_,rfl,rfl,_,rfl,R1 ?_⟩
 refine ⟨_,rfl,ea,C_NoRule,[false,false,false,false,true,false,false,false],4,rfl,e1,⟨Z.x_NoRule,Z.kx_NoRule_HallError,Z.kv_NoRule,?_,by decide,rfl,?_,by decide⟩,fun H2 s2=>?_⟩
 ·exact .cons Z.kx_NoRule_NoLine (.cons Z.kx_NoRule_Busy (.cons Z.kx_NoRule_Engaged (.cons Z.kx_NoRule_Idle (.cons Z.kx_NoRule_NoRule (.cons Z.kx_NoRule_NoMove (.cons Z.kx_NoRule_NoHall (.cons Z.kx_NoRule_NoCalls .nil)))))))
 ·intro m hm
  match m,hm with
  | 0,_=>rfl
  | 1,_=>rfl
  | 2,_=>rfl
  | 3,_=>rfl
 ·exact ⟨rfl,q _ (s1.trans s2)⟩
theorem j5:FnScope ["_law_hall_here","_law_calls_here","_law_number_here","_law_free_here","_law_wanted","_law_due","_law_there","_law_told","_law_rules","_law_k","_law_handed","_law_some","_law_found"] ["_law_hall_here","_law_calls_here","_law_number_here"] (g6 (top 32)):=⟨rfl,rfl,rfl,by decide +kernel,rfl,by decide +kernel,by decide +kernel⟩
set_option maxHeartbeats 16000000 in
theorem ab7 (T:Txt K mg) (Z:TxtC K mg C_Rule C_Fullest C_Emptiest C_Told C_HallError C_NoHall C_NoCalls C_NoLine C_NoRule C_Idle C_Busy C_Engaged C_NoMove) (C__law_free:Callee P w K mg base 1 "_law_free" ["_law_hall_here","_law_number_here"] (ak5 K)) (C__law_listed:Callee P w K mg base 1 "_law_listed" ["_law_hall_here","_law_number_here"] (Y3 K)) (C__law_best:Callee P w K mg base 1 "_law_best" ["_law_calls_here","_law_free_here","_law_sign"] (Y6 K)) (C__law_tells:Callee P w K mg base 1 "_law_tells" ["_law_found","_law_due"] af1) (C_rule_of:CalleeE P w K mg base 2 "rule_of" ["word"] [] (K7 K C_Rule C_Fullest C_Emptiest C_NoRule)) (C_Rule_choose:CalleeM P w K mg base 1 C_Rule "choose" ["self","hall","calls","free"] [] noKw U0) (C_Fullest_choose:CalleeM P w K mg base 2 C_Fullest "choose" ["self","hall","calls","free"] [] noKw (F0 K T_Fullest_choose A7 aE1 (ag8 "Fullest.choose"))) (C_Emptiest_choose:CalleeM P w K mg base 2 C_Emptiest "choose" ["self","hall","calls","free"] [] noKw (F0 K T_Emptiest_choose A6 aD3 (ag8 "Emptiest.choose"))) (C_Told___init__:CalleeM P w K mg base 1 C_Told "__init__" ["self","listed"] [] noKw (ae8 K C_Told)) (C_Told_choose:CalleeM P w K mg base 1 C_Told "choose" ["self","hall","calls","free"] [] noKw (ae5 K C_Told)) (D:Def K mg "_law_asked" (top 32) ["_law_hall_here","_law_calls_here","_law_number_here"]):Callee P w K mg base 3 "_law_asked" ["_law_hall_here","_law_calls_here","_law_number_here"] (U7 K T_Fullest_choose T_Emptiest_choose):=by
 refine D.ok j5 (fun vs H Q E h=>?_) (fun f cdv A outer s H vs Q E hr h=>?_)
 ·obtain ⟨a,l,h,as,ks,n,rfl,_⟩:=h
  rfl
 obtain ⟨a,l,h,as,ks,n,rfl,hH,ok,el,hC,hin,h63,n0,tabs,q⟩:=h
 have ln:as.length = ks.length:=Paired.length hC
 refine ⟨_,(e6 (i4 (i:=3) j5.nd rfl (Or.inr rfl) (y1 C__law_free hr rfl (b8 (pv 0) (b8 (pv 2) g7 b9) b9)))
  (e6 (i4 (i:=4) j5.nd rfl (Or.inl rfl) (y1 C__law_listed hr rfl (b8 (pv 0) (b8 (pv 2) g7 b9) b9)))
  (e6 (i4 (i:=5) j5.nd rfl (Or.inl rfl) (o9 (b8 (m4 (m8 K) (pv 3) e7 (fun _ _=>rfl)) (b8 (y1 C__law_best hr rfl (b8 (pv 1) (b8 (pv 3) (b8 e7 g7 i5) b9) b9)) g7 j6) C9)))
  (e6 (A0 (A2 K PySem.F.plainAttrs_list PySem.F.slot_list_append PySem.F.type_list_append q9 (pv 5) (b8 (y1 C__law_best hr rfl (b8 (pv 1) (b8 (pv 3) (b8 (al4 ac8 e7) g7 aF7) b9) b9)) g7 j6)))
  (e6 (ae7 (i:=6) (own:=["_law_k"]) (fr:=[(3,"_law_free_here")]) rfl j5.nd rfl rfl (show CompScope ["_law_hall_here","_law_calls_here","_law_number_here","_law_free_here","_law_wanted","_law_due","_law_there","_law_told","_law_rules","_law_k","_law_handed","_law_some","_law_found"] (g6 (top 32)) _ _ _ from ⟨rfl,by decide +kernel,by decide +kernel,by decide +kernel,by decide +kernel⟩) (t4 K (pv 4)) (fun cl C s H ex=>⟨(n5 (i:=0) (show (["_law_k","_law_free_here"]:List Str).Nodup from by decide +kernel) rfl (Or.inl rfl) (Or.inr rfl)),(L9 (m3 (ak0 K) (pv 0) (pv 1) (by with_unfolding_all rfl))),(pv 0)⟩) rfl)
  (e6 (i4 (i:=5) j5.nd rfl (Or.inl rfl) (i3 D2 (i3 D2 (pv 5) (pv 5)) (o9 (b8 (m4 (m8 K) (i3 D2 (pv 6) (pv 3)) e7 (fun _ _=>rfl)) g7 C9))))
  (e6 (i4 (i:=7) j5.nd rfl (Or.inl rfl) (ax7 C_Told___init__ Z.M_Told hr rfl (b8 (pv 4) g7 b9)))
  (e6 (A0 (az9 PySem.F.plainAttrs_list PySem.F.slot_list_clear PySem.F.type_list_clear ag2 (pv 4)))
  (e6 (i4 (i:=8) j5.nd rfl (Or.inl rfl) (o9 (b8 (C0 Z.M_Rule Z.p_Rule rfl) (b8 (C0 Z.M_Fullest Z.p_Fullest rfl) (b8 (C0 Z.M_Emptiest Z.p_Emptiest rfl) (b8 (V7 0 C_rule_of W8 hr rfl (b8 p6 g7 i5)) (b8 (V7 0 C_rule_of W8 hr rfl (b8 p6 g7 i5)) (b8 (V7 0 C_rule_of W8 hr rfl (b8 p6 g7 i5)) (b8 (pv 7) g7 b9) j6) j6) j6) j6) j6) j6)))
  (e6 (y9 PassesOwn.never rfl (y4 rfl T.m_range (b8 e7 g7 i5)) (n5 (i:=9) j5.nd rfl (Or.inl rfl))
  (e6 (i4 (i:=10) j5.nd rfl (Or.inl rfl) (z9 (K8 K) rfl T.m_list boot_list (b8 (pv 1) g7 b9)))
  (e6 (i4 (i:=11) j5.nd rfl (Or.inl rfl) (z9 (K8 K) rfl T.m_list boot_list (b8 (pv 3) g7 b9)))
  (e6 (i4 (i:=12) j5.nd rfl (Or.inl rfl) (N2 (am4 Z.cl_Rule C_Rule_choose hr (m4 (m8 K) (pv 8) (pv 9) (fun _ _=>rfl)) (b8 (pv 0) (b8 (pv 10) (b8 (pv 11) g7 b9) b9) b9)) (N2 (am4 Z.cl_Fullest C_Fullest_choose hr (m4 (m8 K) (pv 8) (pv 9) (fun _ _=>rfl)) (b8 (pv 0) (b8 (pv 10) (b8 (pv 11) g7 b9) b9) b9)) (N2 (am4 Z.cl_Emptiest C_Emptiest_choose hr (m4 (m8 K) (pv 8) (pv 9) (fun _ _=>rfl)) (b8 (pv 0) (b8 (pv 10) (b8 (pv 11) g7 b9) b9) b9)) (am4 Z.cl_Told C_Told_choose hr (m4 (m8 K) (pv 8) (pv 9) (fun _ _=>rfl)) (b8 (pv 0) (b8 (pv 10) (b8 (pv 11) g7 b9) b9) b9))))))
  (e6 (q0 (R6 (F3 K (y1 C__law_tells hr rfl (b8 (pv 12) (b8 (m4 (m8 K) (pv 5) (pv 9) (fun _ _=>rfl)) g7 C9) b9)) (fun _=>rfl))) (h7 (j8 O3)) m7)
  (h7 (q0 (PW.pt (ap9 (m3 (ab3 K (Room.units0 hr)) (pv 10) (pv 1) (o5 _)) (am2 (m3 (au8 K (Room.units0 hr)) (pv 11) (pv 3) (o5 _))))) (h7 (j8 O3)) m7)))))))
  (h7 (j8 (y1 C__law_tells hr rfl (b8 (am4 Z.cl_Told C_Told_choose hr (pv 7) (b8 (pv 0) (b8 (pv 1) (b8 (pv 3) g7 b9) b9) b9)) (b8 (m4 (m8 K) (pv 5) e7 (fun _ _=>rfl)) g7 C9) j6)))))))))))))),?_⟩
 refine ⟨_,rfl,_,rfl,a,h,n,rfl,hH,ok,fun fl xs H1 s1 efl ne h24 hx=>?_⟩
 refine ⟨_,rfl,_,rfl,a,h,n,rfl,j0.seqT s1 hH,ok,n0,fun wl ws H2 s2' hwl0 ewl w24=>?_⟩
 have s2:=s1.trans s2'
 have efl2:=s2' _ _ efl
 have hpos:0 < xs.length:=List.length_pos_iff.mpr ne
 have x0:xs.headD 0 = xs[0]'hpos:=by
  cases xs with
  | nil=>exact absurd rfl ne
  | cons x t=>rfl
 have at0:atI (xs.map V.int) 0 = some (.int (xs.headD 0)):=B5 (j:=0) (by rw [List.getElem?_map,List.getElem?_eq_getElem hpos,x0]; rfl)
 have hC':∀ {G:Hp},j0 H G → n6 G as ks:=fun s=>n6.same (fun b xs z=>s _ _ z) hC
 refine ⟨_,rfl,fl,_,_,_,rfl,rfl,SqL.of efl2,at0,?_⟩
 refine ⟨_,rfl,_,rfl,l,fl,h,as,ks,xs,1,rfl,SqL.of (s2 _ _ el),hC' s2,hin,h63,efl2,ne,hx,.inl rfl,fun i1 x1 H3 s3' hi1 b1=>?_⟩
 have s3:=s2.trans s3'
 refine ⟨(by show 2 ≤ sizeLine; decide),fun dl hdl=>?_⟩
 have s4':=g9 hdl (.lst [.int (xs.headD 0),.int x1])
 have s4:=s3.trans s4'
 have edl:=d9 (H:=H3) (a:=dl) (o:=.lst [.int (xs.headD 0),.int x1])
 have efl4:=s4' _ _ (s3' _ _ efl2)
 have ewl4:=s4' _ _ (s3' _ _ ewl)
 have hdl0:H2 dl = none:=s3'.free hdl
 generalize upd H3 dl (.lst [.int (xs.headD 0),.int x1]) = H4 at s4' s4 edl efl4 ewl4 ⊢
 refine ⟨_,rfl,.inl ⟨rfl,_,SqL.of edl⟩,_,rfl,_,rfl,_,rfl,l,fl,h,as,ks,xs,-1,rfl,SqL.of (s4 _ _ el),hC' s4,hin,h63,efl4,ne,hx,.inr rfl,fun i2 x2 H5 s5' hi2 b2=>?_⟩
 have s5:=s4.trans s5'
 have edl5:=s5' _ _ edl
 refine ⟨dl,_,_,rfl,rfl,edl5,j4 (by show 2 ≤ 1000; decide),?_⟩
 have ndf:fl ≠ dl:=fun z=>by rw [← z,efl2] at hdl0; cases hdl0
 have ndw:wl ≠ dl:=fun z=>by rw [← z,ewl] at hdl0; cases hdl0
 have up6:∀ b u,b ≠ dl → H5 b = some u → upd H5 dl (.lst ([.int (xs.headD 0),.int x1] ++ [.int x2])) b = some u:=fun b u nb z=>by rw [h9 nb]; exact z
 have edl6:=d9 (H:=H5) (a:=dl) (o:=.lst ([.int (xs.headD 0),.int x1] ++ [.int x2]))
 have efl6:=up6 _ _ ndf (s5' _ _ efl4)
 have ewl6:=up6 _ _ ndw (s5' _ _ ewl4)
 have s26:j0 H2 (upd H5 dl (.lst ([.int (xs.headD 0),.int x1] ++ [.int x2]))):=fun b u z=>up6 _ _ (i6 z hdl0) (s5' _ _ (s4' _ _ (s3' _ _ z)))
 generalize upd H5 dl (.lst ([.int (xs.headD 0),.int x1] ++ [.int x2])) = H6 at edl6 efl6 ewl6 s26 ⊢
 clear up6
 refine ⟨_,rfl,wl,rfl,⟨_,SqL.of ewl6⟩,?_⟩
 refine B8 (xs:=ws.map V.int) (fun i acc σ G=>G = H6 ∧ acc = ((ws.take i).filter fun k=>decide (k ∈ xs)).map V.int ∧ ∃ v,σ = [v,some (.ref fl)])
  ⟨rfl,rfl,none,rfl⟩ (Nat.le_of_lt (j4 (by rw [List.length_map]; lia))) (fun i acc σ G g=>?_) (fun i acc σ G _ g=>by rw [g.1]; exact SqL.of ewl6) ?_ ?_
 ·obtain ⟨_,rfl,_⟩:=g
  rw [List.length_map]
  exact Nat.le_trans (List.length_filter_le _ _) (by rw [List.length_take]; lia)
 ·rintro i y acc σ G hy ⟨rfl,rfl,v,rfl⟩
  rw [List.getElem?_map] at hy
  obtain ⟨k,hk,rfl⟩:=Option.map_eq_some_iff.mp hy
  refine ⟨_,rfl,_,rfl,fl,_,rfl,.inl (SqL.of efl6),rfl,Q0 xs,_,rfl,?_⟩
  have stp:(ws.take (i + 1)).filter (fun k=>decide (k ∈ xs)) = (ws.take i).filter (fun k=>decide (k ∈ xs)) ++ (if decide (k ∈ xs) = true then [k] else []):=by
   rw [List.take_add_one,hk,List.filter_append]
   congr 1
   show List.filter (fun k=>decide (k ∈ xs)) [k] = _
   rw [List.filter_cons]
   split <;> rfl
  refine E3 (fun c0=>?_) (fun c0=>?_)
  ·have c:inV (.int k) (xs.map V.int) = true:=c0
   rw [M5] at c
   exact ⟨_,rfl,rfl,by rw [stp,if_pos c,List.map_append]; rfl,_,rfl⟩
  ·have c:¬ inV (.int k) (xs.map V.int) = true:=c0
   rw [M5] at c
   exact ⟨rfl,by rw [stp,if_neg c,List.append_nil],_,rfl⟩
 rintro acc σ G ⟨rfl,rfl,v,rfl⟩ th hth
 rw [List.length_map,List.take_length]
 have thl:(ws.filter fun k=>decide (k ∈ xs)).length ≤ 24:=Nat.le_trans (List.length_filter_le _ _) w24
 have s7':=g9 hth (.lst ((ws.filter fun k=>decide (k ∈ xs)).map V.int))
 have s7:=s26.trans s7'
 have eth:=d9 (H:=G) (a:=th) (o:=.lst ((ws.filter fun k=>decide (k ∈ xs)).map V.int))
 have edl7:=s7' _ _ edl6
 have efl7:=s7' _ _ efl6
 generalize upd G th (.lst ((ws.filter fun k=>decide (k ∈ xs)).map V.int)) = H7 at s7 eth edl7 efl7 ⊢
 refine ⟨_,rfl,_,rfl,dl,dl,_,_,rfl,rfl,edl7,edl7,(by show 6 ≤ sizeLine; decide),fun p8 hp8=>?_⟩
 have s8':=g9 hp8 (.lst (([.int (xs.headD 0),.int x1] ++ [.int x2]) ++ ([.int (xs.headD 0),.int x1] ++ [.int x2])))
 have s8:=s7.trans s8'
 have e8:=d9 (H:=H7) (a:=p8) (o:=.lst (([.int (xs.headD 0),.int x1] ++ [.int x2]) ++ ([.int (xs.headD 0),.int x1] ++ [.int x2])))
 have eth8:=s8' _ _ eth
 have efl8:=s8' _ _ efl7
 generalize upd H7 p8 (.lst (([.int (xs.headD 0),.int x1] ++ [.int x2]) ++ ([.int (xs.headD 0),.int x1] ++ [.int x2]))) = H8 at s8 e8 eth8 efl8 ⊢
 refine ⟨_,rfl,_,rfl,th,fl,_,_,rfl,rfl,eth8,efl8,Nat.le_of_lt (j4 (by rw [List.length_map,List.length_map]; lia)),fun p9 hp9=>?_⟩
 have s9':=g9 hp9 (.lst ((ws.filter fun k=>decide (k ∈ xs)).map V.int ++ xs.map V.int))
 have s9:=s8.trans s9'
 have e9:=d9 (H:=H8) (a:=p9) (o:=.lst ((ws.filter fun k=>decide (k ∈ xs)).map V.int ++ xs.map V.int))
 have e89:=s9' _ _ e8
 generalize upd H8 p9 (.lst ((ws.filter fun k=>decide (k ∈ xs)).map V.int ++ xs.map V.int)) = H9 at s9 e9 e89 ⊢
 have at9:atI ((ws.filter fun k=>decide (k ∈ xs)).map V.int ++ xs.map V.int) 0 = some (.int (w9 ws xs)):=by
  unfold w9
  rw [← List.map_append]
  cases e:(ws.filter fun k=>decide (k ∈ xs)) ++ xs with
  | nil=>exact absurd (List.append_eq_nil_iff.mp e).2 ne
  | cons y t=>exact B5 (j:=0) rfl
 refine ⟨p9,_,_,_,rfl,rfl,SqL.of e9,at9,(by show 1 ≤ sizeLine; decide),fun p10 hp10=>?_⟩
 have s10':=g9 hp10 (.lst [.int (w9 ws xs)])
 have s10:=s9.trans s10'
 have e10:=d9 (H:=H9) (a:=p10) (o:=.lst [.int (w9 ws xs)])
 have e810:=s10' _ _ e89
 generalize upd H9 p10 (.lst [.int (w9 ws xs)]) = H10 at s10 e10 e810 ⊢
 refine ⟨p8,p10,_,_,rfl,rfl,e810,e10,(by show 7 ≤ sizeLine; decide),fun du hdu=>?_⟩
 have ndu:du ≠ wl:=fun z=>by rw [z,s10 _ _ ewl] at hdu; cases hdu
 have s11':=g9 hdu (.lst ([.int (xs.headD 0),.int x1,.int x2,.int (xs.headD 0),.int x1,.int x2,.int (w9 ws xs)]))
 have s11:=s10.trans s11'
 have edu:=d9 (H:=H10) (a:=du) (o:=.lst ([.int (xs.headD 0),.int x1,.int x2,.int (xs.headD 0),.int x1,.int x2,.int (w9 ws xs)]))
 change j0 H2 (upd H10 du (.lst ((([.int (xs.headD 0),.int x1] ++ [.int x2]) ++ ([.int (xs.headD 0),.int x1] ++ [.int x2])) ++ [.int (w9 ws xs)]))) at s11
 change upd H10 du (.lst ((([.int (xs.headD 0),.int x1] ++ [.int x2]) ++ ([.int (xs.headD 0),.int x1] ++ [.int x2])) ++ [.int (w9 ws xs)])) du = _ at edu
 generalize upd H10 du (.lst ((([.int (xs.headD 0),.int x1] ++ [.int x2]) ++ ([.int (xs.headD 0),.int x1] ++ [.int x2])) ++ [.int (w9 ws xs)])) = H11 at s11 edu ⊢
 have ewl11:=s11 _ _ ewl
 refine ⟨_,rfl,fun to dto hto hdto nto=>⟨to,dto,wl,ws,rfl,d9,?_,fun tr H12 htr oth etr eto=>⟨rfl,?_⟩⟩⟩
 ·rw [h9 (i6 ewl11 hto),h9 (i6 ewl11 hdto)]
  exact ewl11
 have s12':j0 H11 H12:=fun b u z=>oth b u (i6 z hto) (by rw [h9 (i6 z hto),h9 (i6 z hdto)]; exact z)
 have htr0:H11 tr = none:=by
  have ntr:tr ≠ to:=fun z=>by rw [z,d9] at htr; cases htr
  rw [h9 ntr] at htr
  by_cases z:tr = dto
  ·rw [z,d9] at htr; cases htr
  ·rwa [h9 z] at htr
 have s12:=s11.trans s12'
 have edu12:=s12' _ _ edu
 have ewl12:=s12' _ _ ewl11
 clear oth
 refine ⟨_,rfl,.inl ⟨rfl,_,SqL.of ewl12⟩,wl,_,rfl,rfl,ewl12,?_⟩
 have nwl:∀ b u,b ≠ wl → H12 b = some u → upd H12 wl (.lst []) b = some u:=fun b u nb z=>by rw [h9 nb]; exact z
 have s13:j0 H1 (upd H12 wl (.lst [])):=fun b u z=>nwl b u (i6 z hwl0) (s12 _ _ (s2' _ _ z))
 have edu13:=nwl _ _ ndu edu12
 have eto13:=nwl _ _ (fun z=>by rw [z,ewl11] at hto; cases hto) eto
 have etr13:=nwl _ _ (fun z=>by rw [z,ewl11] at htr0; cases htr0) etr
 generalize upd H12 wl (.lst []) = H13 at s13 edu13 eto13 etr13 ⊢
 have sH13:j0 H H13:=s1.trans s13
 have efl13:=s13 _ _ efl
 refine fun r0 d0 hr0 hd0 _=>?_
 have u0:=C6 (C:=C_Rule) hr0 hd0
 have e0:=d9 (H:=upd H13 d0 (.own r0)) (a:=r0) (o:=.ins C_Rule d0 [])
 generalize upd (upd H13 d0 (.own r0)) r0 (.ins C_Rule d0 []) = K0 at u0 e0 ⊢
 refine fun r1 d1 hr1 hd1 _=>?_
 have u1:=C6 (C:=C_Fullest) hr1 hd1
 have e1:=d9 (H:=upd K0 d1 (.own r1)) (a:=r1) (o:=.ins C_Fullest d1 [])
 generalize upd (upd K0 d1 (.own r1)) r1 (.ins C_Fullest d1 []) = K1 at u1 e1 ⊢
 refine fun r2 d2 hr2 hd2 _=>?_
 have u2:=C6 (C:=C_Emptiest) hr2 hd2
 have e2:=d9 (H:=upd K1 d2 (.own r2)) (a:=r2) (o:=.ins C_Emptiest d2 [])
 generalize upd (upd K1 d2 (.own r2)) r2 (.ins C_Emptiest d2 []) = K2 at u2 e2 ⊢
 refine ⟨.str "first",rfl,.inl ⟨C_Rule,.inl ⟨rfl,rfl⟩,fun r3 d3 K3 _ u3 e3=>?_⟩⟩
 refine ⟨.str "fullest",rfl,.inl ⟨C_Fullest,.inr (.inl ⟨rfl,rfl⟩),fun r4 d4 K4 _ u4 e4=>?_⟩⟩
 refine ⟨.str "emptiest",rfl,.inl ⟨C_Emptiest,.inr (.inr ⟨rfl,rfl⟩),fun r5 d5 K5 _ u5 e5=>?_⟩⟩
 refine ⟨_,rfl,(by show 7 ≤ sizeLine; decide),fun rl hrl=>?_⟩
 have u6:=g9 hrl (.lst [.ref r0,.ref r1,.ref r2,.ref r3,.ref r4,.ref r5,.ref to])
 have erl:=d9 (H:=K5) (a:=rl) (o:=.lst [.ref r0,.ref r1,.ref r2,.ref r3,.ref r4,.ref r5,.ref to])
 generalize upd K5 rl (.lst [.ref r0,.ref r1,.ref r2,.ref r3,.ref r4,.ref r5,.ref to]) = K6 at u6 erl ⊢
 have u56:=u5.trans u6
 have u46:=u4.trans u56
 have u36:=u3.trans u46
 have u26:=u2.trans u36
 have u16:=u1.trans u26
 have u06:=u0.trans u16
 have sK:=sH13.trans u06
 have eto6:=u06 _ _ eto13
 have etr6:=u06 _ _ etr13
 have efl6:=u06 _ _ efl13
 have edu6:=u06 _ _ edu13
 have el6:=sK _ _ el
 have t6:Tabs T_Fullest_choose T_Emptiest_choose K6:=tabs.same sK
 have hC6:n6 K6 as ks:=hC' sK
 have hH6:=j0.seqT sK hH
 refine ⟨_,rfl,by decide,by decide,?_⟩
 refine z4 (lo:=0) (n:=7) (fun i σ G=>N6 T_Fullest_choose T_Emptiest_choose K6 G ∧ Tabs T_Fullest_choose T_Emptiest_choose G ∧ ∃ v9 v10 v11 v12,σ = [some (.ref a),some (.ref l),some (.int n),some (.ref fl),some (.ref wl),some (.ref du),some (.ref th),some (.ref to),some (.ref rl),v9,v10,v11,v12])
  ⟨fun b u _ _ e=>e,t6,none,none,none,none,rfl⟩ ?_ ?_
 ·rintro i σ G hi ⟨g1,g2,v9,v10,v11,v12,rfl⟩
  rw [Int.zero_add]
  have kp:∀ {b:Addr} {u:HO},K6 b = some u → (∀ ps,u ≠ .tbl ps) → G b = some u:=fun e n=>g1.keep t6 e n
  have elG:=kp el6 (fun _ z=>nomatch z)
  have eflG:=kp efl6 (fun _ z=>nomatch z)
  refine ⟨_,rfl,l,_,rfl,.inl (SqL.of elG),fun hd hhd=>?_⟩
  have w1:=g9 hhd (.lst (as.map V.ref))
  have ehd:=d9 (H:=G) (a:=hd) (o:=.lst (as.map V.ref))
  generalize upd G hd (.lst (as.map V.ref)) = G1 at w1 ehd ⊢
  refine ⟨_,rfl,fl,_,rfl,.inl (SqL.of (w1 _ _ eflG)),fun so hso=>?_⟩
  have w2':=g9 hso (.lst (xs.map V.int))
  have w2:=w1.trans w2'
  have eso:=d9 (H:=G1) (a:=so) (o:=.lst (xs.map V.int))
  have ehd2:=w2' _ _ ehd
  generalize upd G1 so (.lst (xs.map V.int)) = G2 at w2 eso ehd2 ⊢
  have t2:=g2.same w2
  have kp2:∀ {b:Addr} {u:HO},K6 b = some u → (∀ ps,u ≠ .tbl ps) → G2 b = some u:=fun e n=>w2 _ _ (kp e n)
  have hH2:SqT K G2 a (h.row.map V.int):=j0.seqT w2 (g1.seqT t6 hH6)
  have hC2:n6 G2 as ks:=n6.same (fun b xs z=>kp2 z (fun _ y=>nomatch y)) hC6
  have erl2:=kp2 erl (fun _ z=>nomatch z)
  dsimp only [Z1,ak8]
  refine av9 (fun σ' G'=>N6 T_Fullest_choose T_Emptiest_choose G2 G' ∧ Tabs T_Fullest_choose T_Emptiest_choose G' ∧ ∃ x:Int,atI (am3 (xs.headD 0) x1 x2 (w9 ws xs)) ((i:Nat):Int) = some (.int x) ∧ σ' = [some (.ref a),some (.ref l),some (.int n),some (.ref fl),some (.ref wl),some (.ref du),some (.ref th),some (.ref to),some (.ref rl),some (.int ((i:Nat):Int)),some (.ref hd),some (.ref so),some (.int x)]) (fun R rest=>?_) ?_
  ·obtain ⟨p,dx,fs,a1,a2⟩:∃ (p dx:Addr) (fs:List (Str × V)),atI (aJ6 r0 r1 r2 r3 r4 r5 to) ((i:Nat):Int) = some (.ref p) ∧
     ((G2 p = some (.ins C_Rule dx []) ∧ atI (am3 (xs.headD 0) x1 x2 (w9 ws xs)) ((i:Nat):Int) = some (.int (xs.headD 0))) ∨ (G2 p = some (.ins C_Fullest dx []) ∧ atI (am3 (xs.headD 0) x1 x2 (w9 ws xs)) ((i:Nat):Int) = some (.int x1)) ∨ (G2 p = some (.ins C_Emptiest dx []) ∧ atI (am3 (xs.headD 0) x1 x2 (w9 ws xs)) ((i:Nat):Int) = some (.int x2)) ∨ (G2 p = some (.ins C_Told dx [("racks",.ref tr)]) ∧ atI (am3 (xs.headD 0) x1 x2 (w9 ws xs)) ((i:Nat):Int) = some (.int (w9 ws xs)))):=by
    match i,hi with
    | 0,_=>exact ⟨r0,d0,[],rfl,.inl ⟨kp2 (u16 _ _ e0) (fun _ z=>nomatch z),rfl⟩⟩
    | 1,_=>exact ⟨r1,d1,[],rfl,.inr (.inl ⟨kp2 (u26 _ _ e1) (fun _ z=>nomatch z),rfl⟩)⟩
    | 2,_=>exact ⟨r2,d2,[],rfl,.inr (.inr (.inl ⟨kp2 (u36 _ _ e2) (fun _ z=>nomatch z),rfl⟩))⟩
    | 3,_=>exact ⟨r3,d3,[],rfl,.inl ⟨kp2 (u46 _ _ e3) (fun _ z=>nomatch z),rfl⟩⟩
    | 4,_=>exact ⟨r4,d4,[],rfl,.inr (.inl ⟨kp2 (u56 _ _ e4) (fun _ z=>nomatch z),rfl⟩)⟩
    | 5,_=>exact ⟨r5,d5,[],rfl,.inr (.inr (.inl ⟨kp2 (u6 _ _ e5) (fun _ z=>nomatch z),rfl⟩))⟩
    | 6,_=>exact ⟨to,dto,[],rfl,.inr (.inr (.inr ⟨kp2 eto6 (fun _ z=>nomatch z),rfl⟩))⟩
   rcases a2 with ⟨a2,a3⟩ | ⟨a2,a3⟩ | ⟨a2,a3⟩ | ⟨a2,a3⟩
   ·exact .inl ⟨_,rfl,_,rfl,rl,_,_,_,rfl,rfl,SqL.of erl2,a1,p,dx,[],rfl,a2,rfl,_,rfl,_,rfl,_,rfl,.ref p,.ref a,.ref hd,so,xs,rfl,eso,ne,rest _ _ ⟨fun b u _ _ z=>z,t2,_,a3,rfl⟩⟩
   ·refine .inr (.inl ⟨_,rfl,_,rfl,rl,_,_,_,rfl,rfl,SqL.of erl2,a1,p,dx,[],rfl,a2,rfl,_,rfl,_,rfl,_,rfl,.ref p,a,hd,so,h,as,ks,xs,rfl,hH2,ok,SqL.of ehd2,hC2,hin,h63,eso,ne,hx,t2.f,fun j x G' hj bst but tab=>rest _ _ ⟨fun b u n1 _ z=>but b u n1 z,⟨t2.ne,tab,af0 but (Ne.symm t2.ne) (E7 t2.f) t2.e⟩,x,?_,rfl⟩⟩)
    obtain rfl:=X9 (List.getElem?_eq_some_iff.mp hi1).1 (List.getElem?_eq_some_iff.mp hj).1 (ai7 b1) bst
    rw [hi1] at hj
    cases hj
    exact a3
   ·refine .inr (.inr (.inl ⟨_,rfl,_,rfl,rl,_,_,_,rfl,rfl,SqL.of erl2,a1,p,dx,[],rfl,a2,rfl,_,rfl,_,rfl,_,rfl,.ref p,a,hd,so,h,as,ks,xs,rfl,hH2,ok,SqL.of ehd2,hC2,hin,h63,eso,ne,hx,t2.e,fun j x G' hj bst but tab=>rest _ _ ⟨fun b u _ n2 z=>but b u n2 z,⟨t2.ne,af0 but t2.ne (E7 t2.e) t2.f,tab⟩,x,?_,rfl⟩⟩))
    obtain rfl:=aa6 (List.getElem?_eq_some_iff.mp hi2).1 (List.getElem?_eq_some_iff.mp hj).1 (ah4 b2) bst
    rw [hi2] at hj
    cases hj
    exact a3
   ·exact .inr (.inr (.inr ⟨_,rfl,_,rfl,rl,_,_,_,rfl,rfl,SqL.of erl2,a1,p,dx,_,rfl,a2,rfl,_,rfl,_,rfl,_,rfl,p,dx,tr,so,.ref a,.ref hd,ws,xs,rfl,a2,kp2 etr6 (fun _ z=>nomatch z),eso,ne,rest _ _ ⟨fun b u _ _ z=>z,t2,_,a3,rfl⟩⟩))
  ·rintro σ' G' ⟨k1,k2,x,hxx,rfl⟩
   have kp3:∀ {b:Addr} {u:HO},G2 b = some u → (∀ ps,u ≠ .tbl ps) → G' b = some u:=fun e n=>k1.keep t2 e n
   refine ⟨_,rfl,_,rfl,_,rfl,du,_,_,_,rfl,rfl,SqL.of (kp3 (kp2 edu6 (fun _ z=>nomatch z)) (fun _ z=>nomatch z)),hxx,x,rfl,_,rfl,V9 ?_⟩
   refine ⟨_,rfl,_,rfl,hd,l,_,rfl,rfl,SqL.of (kp3 ehd2 (fun _ z=>nomatch z)),SqL.of (kp3 (w2 _ _ elG) (fun _ z=>nomatch z)),ah5 as,_,rfl,V9 ?_⟩
   refine ⟨_,rfl,_,rfl,so,fl,_,_,rfl,rfl,SqL.of (kp3 eso (fun _ z=>nomatch z)),SqL.of (kp3 (w2 _ _ eflG) (fun _ z=>nomatch z)),_,rfl,?_⟩
   rw [decide_eq_true rfl]
   exact V9 ⟨g1.trans ((V4 w2).trans k1),k2,_,_,_,_,rfl⟩
 ·rintro σ G ⟨g1,g2,v9,v10,v11,v12,rfl⟩
  have kp:∀ {b:Addr} {u:HO},K6 b = some u → (∀ ps,u ≠ .tbl ps) → G b = some u:=fun e n=>g1.keep t6 e n
  refine ⟨_,rfl,to,dto,_,rfl,kp eto6 (fun _ z=>nomatch z),rfl,_,rfl,_,rfl,_,rfl,to,dto,tr,fl,.ref a,.ref l,ws,xs,rfl,kp eto6 (fun _ z=>nomatch z),kp etr6 (fun _ z=>nomatch z),kp efl6 (fun _ z=>nomatch z),ne,?_⟩
  exact ⟨_,rfl,du,_,_,_,rfl,rfl,SqL.of (kp edu6 (fun _ z=>nomatch z)),rfl,_,rfl,q G ((V4 sK).trans g1) g2⟩
end
theorem as4 {T1 T2:Addr} {H:Hp} {ts:List Addr} (n:(T1 == T2) = false) (h1:T1 ∈ ts) (h2:T2 ∈ ts) (h:∀ P ∈ ts,H P = some (.tbl #[])):Tabs T1 T2 H:=⟨fun z=>by rw [z] at n; simp at n,.inl (h _ h1),.inl (h _ h2)⟩
theorem Y0 {K:PySem.W.Frag}:PySem.W.kitOne K (.type "NoneType") (.type "str") = some false:=N7 (by decide +kernel)
theorem V8 {K:PySem.W.Frag}:PySem.W.kitOne K (.type "list") (.type "str") = some false:=N7 (by decide +kernel)
theorem V6 {K:PySem.W.Frag}:PySem.W.kitOne K (.type "int") (.type "str") = some false:=N7 (by decide +kernel)
def X5 (i:Addr):List V:=[.str "",.str "First",.str "round ",.str "told",.str "rule",.non,.int 1,.ref i]
section
variable {P:Program} {w:World} {K:PySem.W.Frag} {mg:Str → Option Value} {base:Heap} {C_Rule C_Fullest C_Emptiest C_Told C_HallError C_NoHall C_NoCalls C_NoLine C_NoRule C_Idle C_Busy C_Engaged C_NoMove:Addr} {T_Fullest_choose T_Emptiest_choose:Addr}
theorem G7:FnScope ["_law_script","_law_hall_here","_law_cells","_law_calls_here","_law_at","_law_number_here","_law_thing"] ["_law_script"] (g6 (top 34)):=⟨rfl,rfl,rfl,by decide +kernel,rfl,by decide +kernel,by decide +kernel⟩
theorem aC8 (T:Txt K mg) (Z:TxtC K mg C_Rule C_Fullest C_Emptiest C_Told C_HallError C_NoHall C_NoCalls C_NoLine C_NoRule C_Idle C_Busy C_Engaged C_NoMove) {ts:List Addr} (n12:(T_Fullest_choose == T_Emptiest_choose) = false) (hT1:T_Fullest_choose ∈ ts) (hT2:T_Emptiest_choose ∈ ts) (C__law_hall:Callee P w K mg base 2 "_law_hall" ["_law_script"] (ao2 K)) (C__law_calls:Callee P w K mg base 3 "_law_calls" ["_law_hall_here","_law_cells"] (ad9 K)) (C__law_number:Callee P w K mg base 1 "_law_number" ["_law_cell","_law_at"] aq8) (C__law_asked:Callee P w K mg base 3 "_law_asked" ["_law_hall_here","_law_calls_here","_law_number_here"] (U7 K T_Fullest_choose T_Emptiest_choose)) (C__law_no_word:Callee P w K mg base 3 "_law_no_word" ["_law_thing"] (Y8 K)) {f:Addr} {fd:FuncData} (F:Fun K "law" "law" (top 34) f fd):FnOk P w K mg base CX0 4 f fd ["_law_script"] (W9 K ts):=by
 refine F.ok G7 (fun vs H Q E h=>?_) (fun cdv A outer s H vs Q E hr h=>?_)
 ·obtain ⟨a,ns,rfl,_⟩:=h
  rfl
 obtain ⟨a,ns,rfl,hS,h63,hT,q⟩:=h
 have tabs:=as4 n12 hT1 hT2 hT
 refine ⟨_,(e6 (i4 (i:=1) G7.nd rfl (Or.inl rfl) (y1 C__law_hall hr rfl (b8 (pv 0) g7 b9)))
  (e6 (i4 (i:=2) G7.nd rfl (Or.inl rfl) (S2 (R5 K) (pv 0) (P5 e7) (P5 e7)))
  (e6 (i4 (i:=3) G7.nd rfl (Or.inl rfl) (y1 C__law_calls hr rfl (b8 (pv 1) (b8 (pv 2) g7 b9) b9)))
  (e6 (y9 PassesOwn.never rfl (y4 rfl T.m_range (b8 (j2 (T8 rfl) rfl T.m_min boot_min (b8 (j2 (z7 K) rfl T.m_len boot_len (b8 (pv 2) g7 b9)) (b8 e7 g7 i5) j6)) g7 j6)) (n5 (i:=4) G7.nd rfl (Or.inl rfl))
  (e6 (i4 (i:=5) G7.nd rfl (Or.inl rfl) (i3 z8 (i3 z8 (i3 n9 (y1 C__law_number hr rfl (b8 (m4 (m8 K) (pv 2) (pv 4) (fun _ _=>rfl)) (b8 (pv 4) g7 b9) C9)) e7) (i3 n9 e7 (pv 4))) e7))
  (h7 (q0 (R6 (F3 K (y1 C__law_asked hr rfl (b8 (pv 1) (b8 (pv 3) (b8 (pv 5) g7 b9) b9) b9)) (fun _=>rfl))) (h7 (j8 O3)) m7))))
  (e6 (y9 PassesOwn.never rfl (t4 K (o9 (b8 p6 (b8 p6 (b8 p6 (b8 p6 (b8 p6 (b8 S0 (b8 e7 (b8 (o9 (b8 p6 g7 i5)) g7 ax3) i5) i5) i5) i5) i5) i5) i5))) (n5 (i:=6) G7.nd rfl (Or.inl rfl))
  (h7 (q0 (R6 (F3 K (y1 C__law_no_word hr rfl (b8 (pv 6) g7 b9)) (fun _=>rfl))) (h7 (j8 O3)) m7)))
  (h7 (j8 O3))))))),?_⟩
 refine ⟨_,rfl,a,ns,rfl,hS,fun p h H1 ok s1 ep=>?_⟩
 refine ⟨_,rfl,_,rfl,_,rfl,a,_,rfl,s1.seq hS,fun l hl=>?_⟩
 obtain ⟨cs,hcs,hc57⟩:∃ cs:List Int,z6 (ns.map V.int) (some 6) (some 70) = cs.map V.int ∧ cs.length ≤ 57:=by
  refine ⟨(ns.drop (HT.sIx (ns.map V.int).length 0 (some 6))).take (HT.sIx (ns.map V.int).length (ns.map V.int).length (some 70) - HT.sIx (ns.map V.int).length 0 (some 6)),?_,?_⟩
  ·unfold z6
   rw [List.map_take,List.map_drop]
  ·rw [List.length_take,List.length_drop,show HT.sIx (ns.map V.int).length 0 (some 6) = min 6 (ns.map V.int).length from HT.sIx_nat _ _ 6,List.length_map]
   lia
 rw [hcs]
 have el:=d9 (H:=H1) (a:=l) (o:=.lst (cs.map V.int))
 have s2:=g9 hl (.lst (cs.map V.int))
 generalize upd H1 l (.lst (cs.map V.int)) = H2 at el s2 ⊢
 refine ⟨_,rfl,_,rfl,p,l,h,cs,rfl,SqT.of (s2 _ _ ep),ok,SqL.of el,by lia,fun lc as ks H3 s3 ec hC hin hlt hfr hkl=>?_⟩
 have ep3:=s3 _ _ (s2 _ _ ep)
 have el3:=s3 _ _ el
 have t3:=tabs.same (s1.trans (s2.trans s3))
 refine ⟨_,rfl,l,_,rfl,.inl (SqL.of el3),_,_,rfl,_,rfl,?_,?_,?_⟩
 ·show -(2 ^ 62) ≤ (if (16:Int) < (((cs.map V.int).length:Nat):Int) then 16 else (((cs.map V.int).length:Nat):Int))
  split <;> lia
 ·rw [List.length_map]
  show (if (16:Int) < ((cs.length:Nat):Int) then 16 else ((cs.length:Nat):Int)) < 2 ^ 62
  split <;> lia
 rw [List.length_map]
 have bnd:∀ i:Nat,i < (if (16:Int) < ((cs.length:Nat):Int) then (16:Int) else ((cs.length:Nat):Int)).toNat → i < cs.length ∧ i < 17:=fun i hi=>by
  split at hi <;> lia
 refine z4 (fun i σ G=>N6 T_Fullest_choose T_Emptiest_choose H3 G ∧ Tabs T_Fullest_choose T_Emptiest_choose G ∧ ∃ v5 v6 v7,σ = [some (.ref a),some (.ref p),some (.ref l),some (.ref lc),v5,v6,v7])
  ⟨fun b u _ _ e=>e,t3,_,_,_,rfl⟩ ?_ ?_
 ·rintro i σ G hi ⟨g1,g2,v5,v6,v7,rfl⟩
  obtain ⟨hi1,hi2⟩:=bnd i hi
  rw [Int.zero_add]
  have kp:∀ {b:Addr} {u:HO},H3 b = some u → (∀ ps,u ≠ .tbl ps) → G b = some u:=fun e n=>g1.keep t3 e n
  refine ⟨_,rfl,_,rfl,l,_,_,_,rfl,rfl,SqL.of (kp el3 (fun _ z=>nomatch z)),ad2 hi1,_,rfl,_,i,rfl,by lia,fun n0 hn0=>?_⟩
  refine ⟨_,_,rfl,rfl,.inr ⟨by decide,by decide⟩,_,rfl,_,_,rfl,rfl,.inl ⟨by decide,by decide⟩,_,_,rfl,rfl,_,_,rfl,rfl,?_⟩
  refine ⟨_,rfl,_,rfl,_,rfl,p,lc,h,as,ks,_,rfl,SqT.of (kp ep3 (fun _ z=>nomatch z)),ok,kp ec (fun _ z=>nomatch z),n6.same (fun b xs z=>kp z (fun _ y=>nomatch y)) hC,hin,by lia,by lia,g2,fun G' k1 k2=>⟨_,rfl,V9 ?_⟩⟩
  exact ⟨g1.trans k1,k2,_,_,_,rfl⟩
 ·rintro σ G ⟨g1,g2,v5,v6,v7,rfl⟩
  refine ⟨(by show 1 ≤ sizeLine; decide),fun i0 hi0=>⟨(by show 8 ≤ sizeLine; decide),fun lw hlw=>?_⟩⟩
  have ei0:=d9 (H:=G) (a:=i0) (o:=.lst [.str "first"])
  generalize upd G i0 (.lst [.str "first"]) = G1 at ei0 hlw ⊢
  have s2:=g9 hlw (.lst (X5 i0))
  have elw:=d9 (H:=G1) (a:=lw) (o:=.lst (X5 i0))
  change ∃ _,_ at ⊢
  have ei2:=s2 _ _ ei0
  refine ⟨lw,rfl,⟨_,SqL.of elw⟩,?_⟩
  refine C1 (K:=K) (a:=lw) (xs:=X5 i0) (fun i σ G'=>j0 (upd G1 lw (.lst (X5 i0))) G' ∧ ∃ v7,σ = [some (.ref a),some (.ref p),some (.ref l),some (.ref lc),v5,v6,v7])
   ⟨fun _ _ z=>z,_,rfl⟩ (fun i σ G' _ g=>SqL.of (g.1 _ _ elw)) ?_ ?_
  ·rintro i x σ G' hx ⟨s3,v7,rfl⟩
   have nw:NoWord K G' x:=by
    match i,hx with
    | 0,hx=>cases hx; exact .str _ (by decide) (by decide) (by decide) (by decide)
    | 1,hx=>cases hx; exact .str _ (by decide) (by decide) (by decide) (by decide)
    | 2,hx=>cases hx; exact .str _ (by decide) (by decide) (by decide) (by decide)
    | 3,hx=>cases hx; exact .str _ (by decide) (by decide) (by decide) (by decide)
    | 4,hx=>cases hx; exact .str _ (by decide) (by decide) (by decide) (by decide)
    | 5,hx=>cases hx; exact .odd .non Y0
    | 6,hx=>cases hx; exact .odd (.int _) V6
    | 7,hx=>cases hx; exact .odd (.lst (s3 _ _ ei2)) V8
    | n + 8,hx=>exact nomatch hx
   exact ⟨_,rfl,x,rfl,nw,fun G2 s4=>⟨_,rfl,V9 ⟨s3.trans s4,_,rfl⟩⟩⟩
  ·rintro σ G' ⟨s3,v7,rfl⟩
   exact q G'
end
section
variable {l:PySem.W.OpenLaw} {w:World} {K:PySem.W.Frag} {h:Heap} {mg:Str → Option Value}
theorem w4 {x:Str} {st:Stmt} {ps:List Str} {f:Addr} {oc:Value} {od an:Option Addr} {sl:Array (Option Value)} {kV dc pm cd ct:Value} (X:K.In h) (G:h.Ns mainGlobals mg) (a:PySem.W.nsIn K mainGlobals x = some (some (.ref f)))
  (l:K.lookup f = some ⟨oc,od,.func (PySem.W.fnOf x x (j3 st) (i8 st) (g6 st) .none kV dc pm an cd ct),sl⟩) (c:PySem.W.codeIn K cd x = true) (k:PySem.W.keepIn K (.ref f) = true)
  (b:∀ us:List Value,us.length = ps.length → bindArgs (PySem.W.fnOf x x (j3 st) (i8 st) (g6 st) .none kV dc pm an cd ct) ⟨us,[]⟩ = pure (ps.zip us)):Def K mg x st ps :=
 ⟨f,_,am5 l c k,.all b,PySem.W.mg_of X G a⟩
theorem aB2 {ts:List Addr} {fa f1 f2 f3 f4 f5 f6 f7 f8 f9 f10 f11 f12 f13 f14 f15 f16 f17  C_Rule C_Fullest C_Emptiest C_Told C_HallError C_NoHall C_NoCalls C_NoLine C_NoRule C_Idle C_Busy C_Engaged C_NoMove fm_Rule_choose fm_Fullest_choose fm_Emptiest_choose fm_Told___init__ fm_Told_choose:Addr} (X:K.In h) (G:h.Ns mainGlobals mg) (hfa:mg "law" = some (.ref fa))
  {od1 an1 od2 an2 od3 an3 od4 an4 od5 an5 od6 an6 od7 an7 od8 an8 od9 an9 od10 an10 od11 an11 od12 an12 od13 an13 od14 an14 od15 an15 od16 an16 od17 an17:Option Addr} {sl1 sl2 sl3 sl4 sl5 sl6 sl7 sl8 sl9 sl10 sl11 sl12 sl13 sl14 sl15 sl16 sl17:Array (Option Value)} {oc1 kV1 dc1 pm1 cd1 ct1 oc2 kV2 dc2 pm2 cd2 ct2 oc3 kV3 dc3 pm3 cd3 ct3 oc4 kV4 dc4 pm4 cd4 ct4 oc5 kV5 dc5 pm5 cd5 ct5 oc6 kV6 dc6 pm6 cd6 ct6 oc7 kV7 dc7 pm7 cd7 ct7 oc8 kV8 dc8 pm8 cd8 ct8 oc9 kV9 dc9 pm9 cd9 ct9 oc10 kV10 dc10 pm10 cd10 ct10 oc11 kV11 dc11 pm11 cd11 ct11 oc12 kV12 dc12 pm12 cd12 ct12 oc13 kV13 dc13 pm13 cd13 ct13 oc14 kV14 dc14 pm14 cd14 ct14 oc15 kV15 dc15 pm15 cd15 ct15 oc16 kV16 dc16 pm16 cd16 ct16 oc17 kV17 dc17 pm17 cd17 ct17:Value}
  (a1:PySem.W.nsIn K mainGlobals "loads" = some (some (.ref f1))) (l1:K.lookup f1 = some ⟨oc1,od1,.func (PySem.W.fnOf "loads" "loads" (j3 (top 11)) (i8 (top 11)) (g6 (top 11)) .none kV1 dc1 pm1 an1 cd1 ct1),sl1⟩) (c1:PySem.W.codeIn K cd1 "loads" = true) (k1:PySem.W.keepIn K (.ref f1) = true)
  (a2:PySem.W.nsIn K mainGlobals "rule_of" = some (some (.ref f2))) (l2:K.lookup f2 = some ⟨oc2,od2,.func (PySem.W.fnOf "rule_of" "rule_of" (j3 (top 18)) (i8 (top 18)) (g6 (top 18)) .none kV2 dc2 pm2 an2 cd2 ct2),sl2⟩) (c2:PySem.W.codeIn K cd2 "rule_of" = true) (k2:PySem.W.keepIn K (.ref f2) = true)
  (a3:PySem.W.nsIn K mainGlobals "_law_cell_at" = some (some (.ref f3))) (l3:K.lookup f3 = some ⟨oc3,od3,.func (PySem.W.fnOf "_law_cell_at" "_law_cell_at" (j3 (top 20)) (i8 (top 20)) (g6 (top 20)) .none kV3 dc3 pm3 an3 cd3 ct3),sl3⟩) (c3:PySem.W.codeIn K cd3 "_law_cell_at" = true) (k3:PySem.W.keepIn K (.ref f3) = true)
  (a4:PySem.W.nsIn K mainGlobals "_law_hall" = some (some (.ref f4))) (l4:K.lookup f4 = some ⟨oc4,od4,.func (PySem.W.fnOf "_law_hall" "_law_hall" (j3 (top 21)) (i8 (top 21)) (g6 (top 21)) .none kV4 dc4 pm4 an4 cd4 ct4),sl4⟩) (c4:PySem.W.codeIn K cd4 "_law_hall" = true) (k4:PySem.W.keepIn K (.ref f4) = true)
  (a5:PySem.W.nsIn K mainGlobals "_law_ends" = some (some (.ref f5))) (l5:K.lookup f5 = some ⟨oc5,od5,.func (PySem.W.fnOf "_law_ends" "_law_ends" (j3 (top 22)) (i8 (top 22)) (g6 (top 22)) .none kV5 dc5 pm5 an5 cd5 ct5),sl5⟩) (c5:PySem.W.codeIn K cd5 "_law_ends" = true) (k5:PySem.W.keepIn K (.ref f5) = true)
  (a6:PySem.W.nsIn K mainGlobals "_law_lines" = some (some (.ref f6))) (l6:K.lookup f6 = some ⟨oc6,od6,.func (PySem.W.fnOf "_law_lines" "_law_lines" (j3 (top 23)) (i8 (top 23)) (g6 (top 23)) .none kV6 dc6 pm6 an6 cd6 ct6),sl6⟩) (c6:PySem.W.codeIn K cd6 "_law_lines" = true) (k6:PySem.W.keepIn K (.ref f6) = true)
  (a7:PySem.W.nsIn K mainGlobals "_law_number" = some (some (.ref f7))) (l7:K.lookup f7 = some ⟨oc7,od7,.func (PySem.W.fnOf "_law_number" "_law_number" (j3 (top 24)) (i8 (top 24)) (g6 (top 24)) .none kV7 dc7 pm7 an7 cd7 ct7),sl7⟩) (c7:PySem.W.codeIn K cd7 "_law_number" = true) (k7:PySem.W.keepIn K (.ref f7) = true)
  (a8:PySem.W.nsIn K mainGlobals "_law_try" = some (some (.ref f8))) (l8:K.lookup f8 = some ⟨oc8,od8,.func (PySem.W.fnOf "_law_try" "_law_try" (j3 (top 25)) (i8 (top 25)) (g6 (top 25)) .none kV8 dc8 pm8 an8 cd8 ct8),sl8⟩) (c8:PySem.W.codeIn K cd8 "_law_try" = true) (k8:PySem.W.keepIn K (.ref f8) = true)
  (a9:PySem.W.nsIn K mainGlobals "_law_calls" = some (some (.ref f9))) (l9:K.lookup f9 = some ⟨oc9,od9,.func (PySem.W.fnOf "_law_calls" "_law_calls" (j3 (top 26)) (i8 (top 26)) (g6 (top 26)) .none kV9 dc9 pm9 an9 cd9 ct9),sl9⟩) (c9:PySem.W.codeIn K cd9 "_law_calls" = true) (k9:PySem.W.keepIn K (.ref f9) = true)
  (a10:PySem.W.nsIn K mainGlobals "_law_kind" = some (some (.ref f10))) (l10:K.lookup f10 = some ⟨oc10,od10,.func (PySem.W.fnOf "_law_kind" "_law_kind" (j3 (top 27)) (i8 (top 27)) (g6 (top 27)) .none kV10 dc10 pm10 an10 cd10 ct10),sl10⟩) (c10:PySem.W.codeIn K cd10 "_law_kind" = true) (k10:PySem.W.keepIn K (.ref f10) = true)
  (a11:PySem.W.nsIn K mainGlobals "_law_free" = some (some (.ref f11))) (l11:K.lookup f11 = some ⟨oc11,od11,.func (PySem.W.fnOf "_law_free" "_law_free" (j3 (top 28)) (i8 (top 28)) (g6 (top 28)) .none kV11 dc11 pm11 an11 cd11 ct11),sl11⟩) (c11:PySem.W.codeIn K cd11 "_law_free" = true) (k11:PySem.W.keepIn K (.ref f11) = true)
  (a12:PySem.W.nsIn K mainGlobals "_law_listed" = some (some (.ref f12))) (l12:K.lookup f12 = some ⟨oc12,od12,.func (PySem.W.fnOf "_law_listed" "_law_listed" (j3 (top 29)) (i8 (top 29)) (g6 (top 29)) .none kV12 dc12 pm12 an12 cd12 ct12),sl12⟩) (c12:PySem.W.codeIn K cd12 "_law_listed" = true) (k12:PySem.W.keepIn K (.ref f12) = true)
  (a13:PySem.W.nsIn K mainGlobals "_law_best" = some (some (.ref f13))) (l13:K.lookup f13 = some ⟨oc13,od13,.func (PySem.W.fnOf "_law_best" "_law_best" (j3 (top 30)) (i8 (top 30)) (g6 (top 30)) .none kV13 dc13 pm13 an13 cd13 ct13),sl13⟩) (c13:PySem.W.codeIn K cd13 "_law_best" = true) (k13:PySem.W.keepIn K (.ref f13) = true)
  (a14:PySem.W.nsIn K mainGlobals "_law_tells" = some (some (.ref f14))) (l14:K.lookup f14 = some ⟨oc14,od14,.func (PySem.W.fnOf "_law_tells" "_law_tells" (j3 (top 31)) (i8 (top 31)) (g6 (top 31)) .none kV14 dc14 pm14 an14 cd14 ct14),sl14⟩) (c14:PySem.W.codeIn K cd14 "_law_tells" = true) (k14:PySem.W.keepIn K (.ref f14) = true)
  (a15:PySem.W.nsIn K mainGlobals "_law_asked" = some (some (.ref f15))) (l15:K.lookup f15 = some ⟨oc15,od15,.func (PySem.W.fnOf "_law_asked" "_law_asked" (j3 (top 32)) (i8 (top 32)) (g6 (top 32)) .none kV15 dc15 pm15 an15 cd15 ct15),sl15⟩) (c15:PySem.W.codeIn K cd15 "_law_asked" = true) (k15:PySem.W.keepIn K (.ref f15) = true)
  (a16:PySem.W.nsIn K mainGlobals "_law_no_word" = some (some (.ref f16))) (l16:K.lookup f16 = some ⟨oc16,od16,.func (PySem.W.fnOf "_law_no_word" "_law_no_word" (j3 (top 33)) (i8 (top 33)) (g6 (top 33)) .none kV16 dc16 pm16 an16 cd16 ct16),sl16⟩) (c16:PySem.W.codeIn K cd16 "_law_no_word" = true) (k16:PySem.W.keepIn K (.ref f16) = true)
  (a17:PySem.W.nsIn K mainGlobals "law" = some (some (.ref f17))) (l17:K.lookup f17 = some ⟨oc17,od17,.func (PySem.W.fnOf "law" "law" (j3 (top 34)) (i8 (top 34)) (g6 (top 34)) .none kV17 dc17 pm17 an17 cd17 ct17),sl17⟩) (c17:PySem.W.codeIn K cd17 "law" = true) (k17:PySem.W.keepIn K (.ref f17) = true)
  (q_Rule_at:PySem.W.nsIn K mainGlobals "Rule" = some (some (.ref C_Rule)))
  (q_Rule_pg:PySem.W.plainGet K C_Rule Str.empty = true) (q_Rule_hd:PySem.W.hasDictIn K C_Rule = true) (q_Rule_po:PySem.W.plainOver K C_Rule = true) (q_Rule_sa:PySem.W.findIn K (.ref C_Rule) "__setattr__" = some (some (.builtin "object.__setattr__"))) (q_Rule_mk:PySem.W.makesIn K C_Rule = true) (q_Rule_kc:PySem.W.keepIn K (.ref C_Rule) = true)
  (q_Rule_ha:PySem.W.findIn K (.ref C_Rule) "__class__" = some (some (.builtin "object.__class__"))) (q_Rule_hn:PySem.W.specialIn K (.builtin "object.__class__") "__get__" = some (some (.builtin "getset_descriptor.__get__"))) (q_Rule_ht:PySem.W.takesIn K (.builtin "object.__class__") = some true) (q_Rule_hm:PySem.W.mroIn K C_Rule (.type "object") = some true)
  (q_Rule_pi:PySem.W.findIn K (.ref C_Rule) "__init__" = some (some (.builtin "object.__init__")))
  (q_Fullest_at:PySem.W.nsIn K mainGlobals "Fullest" = some (some (.ref C_Fullest)))
  (q_Fullest_pg:PySem.W.plainGet K C_Fullest Str.empty = true) (q_Fullest_hd:PySem.W.hasDictIn K C_Fullest = true) (q_Fullest_po:PySem.W.plainOver K C_Fullest = true) (q_Fullest_sa:PySem.W.findIn K (.ref C_Fullest) "__setattr__" = some (some (.builtin "object.__setattr__"))) (q_Fullest_mk:PySem.W.makesIn K C_Fullest = true) (q_Fullest_kc:PySem.W.keepIn K (.ref C_Fullest) = true)
  (q_Fullest_ha:PySem.W.findIn K (.ref C_Fullest) "__class__" = some (some (.builtin "object.__class__"))) (q_Fullest_hn:PySem.W.specialIn K (.builtin "object.__class__") "__get__" = some (some (.builtin "getset_descriptor.__get__"))) (q_Fullest_ht:PySem.W.takesIn K (.builtin "object.__class__") = some true) (q_Fullest_hm:PySem.W.mroIn K C_Fullest (.type "object") = some true)
  (q_Fullest_pi:PySem.W.findIn K (.ref C_Fullest) "__init__" = some (some (.builtin "object.__init__")))
  (q_Emptiest_at:PySem.W.nsIn K mainGlobals "Emptiest" = some (some (.ref C_Emptiest)))
  (q_Emptiest_pg:PySem.W.plainGet K C_Emptiest Str.empty = true) (q_Emptiest_hd:PySem.W.hasDictIn K C_Emptiest = true) (q_Emptiest_po:PySem.W.plainOver K C_Emptiest = true) (q_Emptiest_sa:PySem.W.findIn K (.ref C_Emptiest) "__setattr__" = some (some (.builtin "object.__setattr__"))) (q_Emptiest_mk:PySem.W.makesIn K C_Emptiest = true) (q_Emptiest_kc:PySem.W.keepIn K (.ref C_Emptiest) = true)
  (q_Emptiest_ha:PySem.W.findIn K (.ref C_Emptiest) "__class__" = some (some (.builtin "object.__class__"))) (q_Emptiest_hn:PySem.W.specialIn K (.builtin "object.__class__") "__get__" = some (some (.builtin "getset_descriptor.__get__"))) (q_Emptiest_ht:PySem.W.takesIn K (.builtin "object.__class__") = some true) (q_Emptiest_hm:PySem.W.mroIn K C_Emptiest (.type "object") = some true)
  (q_Emptiest_pi:PySem.W.findIn K (.ref C_Emptiest) "__init__" = some (some (.builtin "object.__init__")))
  (q_Told_at:PySem.W.nsIn K mainGlobals "Told" = some (some (.ref C_Told)))
  (q_Told_pg:PySem.W.plainGet K C_Told Str.empty = true) (q_Told_hd:PySem.W.hasDictIn K C_Told = true) (q_Told_po:PySem.W.plainOver K C_Told = true) (q_Told_sa:PySem.W.findIn K (.ref C_Told) "__setattr__" = some (some (.builtin "object.__setattr__"))) (q_Told_mk:PySem.W.makesIn K C_Told = true) (q_Told_kc:PySem.W.keepIn K (.ref C_Told) = true)
  (q_Told_ha:PySem.W.findIn K (.ref C_Told) "__class__" = some (some (.builtin "object.__class__"))) (q_Told_hn:PySem.W.specialIn K (.builtin "object.__class__") "__get__" = some (some (.builtin "getset_descriptor.__get__"))) (q_Told_ht:PySem.W.takesIn K (.builtin "object.__class__") = some true) (q_Told_hm:PySem.W.mroIn K C_Told (.type "object") = some true)
  (q_Told_n_racks:PySem.W.findIn K (.ref C_Told) "racks" = some none)
  (q_HallError_at:PySem.W.nsIn K mainGlobals "HallError" = some (some (.ref C_HallError)))
  (q_NoHall_at:PySem.W.nsIn K mainGlobals "NoHall" = some (some (.ref C_NoHall)))
  (q_NoCalls_at:PySem.W.nsIn K mainGlobals "NoCalls" = some (some (.ref C_NoCalls)))
  (q_NoLine_at:PySem.W.nsIn K mainGlobals "NoLine" = some (some (.ref C_NoLine)))
  (q_NoRule_at:PySem.W.nsIn K mainGlobals "NoRule" = some (some (.ref C_NoRule)))
  (q_Idle_at:PySem.W.nsIn K mainGlobals "Idle" = some (some (.ref C_Idle)))
  (q_Busy_at:PySem.W.nsIn K mainGlobals "Busy" = some (some (.ref C_Busy)))
  (q_Engaged_at:PySem.W.nsIn K mainGlobals "Engaged" = some (some (.ref C_Engaged)))
  (q_NoMove_at:PySem.W.nsIn K mainGlobals "NoMove" = some (some (.ref C_NoMove)))
  (q_HallError_ic:PySem.W.isClsIn K C_HallError = true) (q_HallError_ty:PySem.W.typeIn K (.ref C_HallError) = some (.type "type"))
  (q_NoHall_ic:PySem.W.isClsIn K C_NoHall = true) (q_NoHall_ty:PySem.W.typeIn K (.ref C_NoHall) = some (.type "type"))
  (q_NoCalls_ic:PySem.W.isClsIn K C_NoCalls = true) (q_NoCalls_ty:PySem.W.typeIn K (.ref C_NoCalls) = some (.type "type"))
  (q_NoLine_ic:PySem.W.isClsIn K C_NoLine = true) (q_NoLine_ty:PySem.W.typeIn K (.ref C_NoLine) = some (.type "type"))
  (q_NoRule_ic:PySem.W.isClsIn K C_NoRule = true) (q_NoRule_ty:PySem.W.typeIn K (.ref C_NoRule) = some (.type "type"))
  (q_Idle_ic:PySem.W.isClsIn K C_Idle = true) (q_Idle_ty:PySem.W.typeIn K (.ref C_Idle) = some (.type "type"))
  (q_Busy_ic:PySem.W.isClsIn K C_Busy = true) (q_Busy_ty:PySem.W.typeIn K (.ref C_Busy) = some (.type "type"))
  (q_Engaged_ic:PySem.W.isClsIn K C_Engaged = true) (q_Engaged_ty:PySem.W.typeIn K (.ref C_Engaged) = some (.type "type"))
  (q_NoMove_ic:PySem.W.isClsIn K C_NoMove = true) (q_NoMove_ty:PySem.W.typeIn K (.ref C_NoMove) = some (.type "type"))
  (q_hb:PySem.W.subIn K (.ref C_HallError) (.type "BaseException") = some true) (q_gt:PySem.W.specialIn K (.builtin "object.__class__") "__get__" = some (some (.builtin "getset_descriptor.__get__"))) (q_tk:PySem.W.takesIn K (.builtin "object.__class__") = some true)
  (q_NoRule_ex:PySem.W.excIn K C_NoRule [.type "ValueError",.type "Exception",.type "BaseException",.type "object"] "ValueError.__new__" = true)
  (q_NoRule_ga:PySem.W.findIn K (.ref C_NoRule) "__getattribute__" = some (some (.builtin "BaseException.__getattribute__"))) (q_NoRule_gn:PySem.W.findIn K (.ref C_NoRule) "__getattr__" = some none) (q_NoRule_cl:PySem.W.findIn K (.ref C_NoRule) "__class__" = some (some (.builtin "object.__class__"))) (q_NoRule_mo:PySem.W.mroIn K C_NoRule (.type "object") = some true) (q_NoRule_mb:PySem.W.mroIn K C_NoRule (.type "BaseException") = some true) (q_NoRule_sv:PySem.W.subIn K (.ref C_NoRule) (.type "ValueError") = some true)
  (q_NoRule_s_HallError:PySem.W.subIn K (.ref C_NoRule) (.ref C_HallError) = some true)
  (q_NoRule_s_NoHall:PySem.W.subIn K (.ref C_NoRule) (.ref C_NoHall) = some false)
  (q_NoRule_s_NoCalls:PySem.W.subIn K (.ref C_NoRule) (.ref C_NoCalls) = some false)
  (q_NoRule_s_NoLine:PySem.W.subIn K (.ref C_NoRule) (.ref C_NoLine) = some false)
  (q_NoRule_s_NoRule:PySem.W.subIn K (.ref C_NoRule) (.ref C_NoRule) = some true)
  (q_NoRule_s_Idle:PySem.W.subIn K (.ref C_NoRule) (.ref C_Idle) = some false)
  (q_NoRule_s_Busy:PySem.W.subIn K (.ref C_NoRule) (.ref C_Busy) = some false)
  (q_NoRule_s_Engaged:PySem.W.subIn K (.ref C_NoRule) (.ref C_Engaged) = some false)
  (q_NoRule_s_NoMove:PySem.W.subIn K (.ref C_NoRule) (.ref C_NoMove) = some false)
  {odm_Rule_choose anm_Rule_choose:Option Addr} {slm_Rule_choose:Array (Option Value)} {ocm_Rule_choose kvm_Rule_choose dcm_Rule_choose pmm_Rule_choose ctm_Rule_choose cdm_Rule_choose:Value}
  (q_Rule_choose_a:PySem.W.findIn K (.ref C_Rule) "choose" = some (some (.ref fm_Rule_choose))) (q_Rule_choose_i:PySem.W.isFn K (.ref fm_Rule_choose) = true) (q_Rule_choose_l:K.lookup fm_Rule_choose = some ⟨ocm_Rule_choose,odm_Rule_choose,.func (PySem.W.fnOf "choose" "Rule.choose" (j3 (j1 (top 13) 0)) (i8 (j1 (top 13) 0)) (g6 (j1 (top 13) 0)) .none kvm_Rule_choose dcm_Rule_choose pmm_Rule_choose anm_Rule_choose cdm_Rule_choose ctm_Rule_choose),slm_Rule_choose⟩) (q_Rule_choose_c:PySem.W.codeIn K cdm_Rule_choose "Rule.choose" = true) (q_Rule_choose_k:PySem.W.keepIn K (.ref fm_Rule_choose) = true)
  {odm_Fullest_choose anm_Fullest_choose:Option Addr} {slm_Fullest_choose:Array (Option Value)} {ocm_Fullest_choose kvm_Fullest_choose dcm_Fullest_choose pmm_Fullest_choose ctm_Fullest_choose:Value} {cdm_Fullest_choose:Addr}
  (q_Fullest_choose_a:PySem.W.findIn K (.ref C_Fullest) "choose" = some (some (.ref fm_Fullest_choose))) (q_Fullest_choose_i:PySem.W.isFn K (.ref fm_Fullest_choose) = true) (q_Fullest_choose_l:K.lookup fm_Fullest_choose = some ⟨ocm_Fullest_choose,odm_Fullest_choose,.func (PySem.W.fnOf "choose" "Fullest.choose" (j3 (j1 (top 14) 0)) (i8 (j1 (top 14) 0)) (g6 (j1 (top 14) 0)) .none kvm_Fullest_choose dcm_Fullest_choose pmm_Fullest_choose anm_Fullest_choose (.ref cdm_Fullest_choose) ctm_Fullest_choose),slm_Fullest_choose⟩) (q_Fullest_choose_c:PySem.W.codeIn K (.ref cdm_Fullest_choose) "Fullest.choose" = true) (q_Fullest_choose_k:PySem.W.keepIn K (.ref fm_Fullest_choose) = true)
  (q_Fullest_choose_xh:PySem.W.codeHdIn K cdm_Fullest_choose (F8 K cdm_Fullest_choose) = true) (q_Fullest_choose_xm:ts.contains (F8 K cdm_Fullest_choose) = true)
  {odm_Emptiest_choose anm_Emptiest_choose:Option Addr} {slm_Emptiest_choose:Array (Option Value)} {ocm_Emptiest_choose kvm_Emptiest_choose dcm_Emptiest_choose pmm_Emptiest_choose ctm_Emptiest_choose:Value} {cdm_Emptiest_choose:Addr}
  (q_Emptiest_choose_a:PySem.W.findIn K (.ref C_Emptiest) "choose" = some (some (.ref fm_Emptiest_choose))) (q_Emptiest_choose_i:PySem.W.isFn K (.ref fm_Emptiest_choose) = true) (q_Emptiest_choose_l:K.lookup fm_Emptiest_choose = some ⟨ocm_Emptiest_choose,odm_Emptiest_choose,.func (PySem.W.fnOf "choose" "Emptiest.choose" (j3 (j1 (top 15) 0)) (i8 (j1 (top 15) 0)) (g6 (j1 (top 15) 0)) .none kvm_Emptiest_choose dcm_Emptiest_choose pmm_Emptiest_choose anm_Emptiest_choose (.ref cdm_Emptiest_choose) ctm_Emptiest_choose),slm_Emptiest_choose⟩) (q_Emptiest_choose_c:PySem.W.codeIn K (.ref cdm_Emptiest_choose) "Emptiest.choose" = true) (q_Emptiest_choose_k:PySem.W.keepIn K (.ref fm_Emptiest_choose) = true)
  (q_Emptiest_choose_xh:PySem.W.codeHdIn K cdm_Emptiest_choose (F8 K cdm_Emptiest_choose) = true) (q_Emptiest_choose_xm:ts.contains (F8 K cdm_Emptiest_choose) = true)
  {odm_Told___init__ anm_Told___init__:Option Addr} {slm_Told___init__:Array (Option Value)} {ocm_Told___init__ kvm_Told___init__ dcm_Told___init__ pmm_Told___init__ ctm_Told___init__ cdm_Told___init__:Value}
  (q_Told___init___a:PySem.W.findIn K (.ref C_Told) "__init__" = some (some (.ref fm_Told___init__))) (q_Told___init___i:PySem.W.isFn K (.ref fm_Told___init__) = true) (q_Told___init___l:K.lookup fm_Told___init__ = some ⟨ocm_Told___init__,odm_Told___init__,.func (PySem.W.fnOf "__init__" "Told.__init__" (j3 (j1 (top 17) 0)) (i8 (j1 (top 17) 0)) (g6 (j1 (top 17) 0)) .none kvm_Told___init__ dcm_Told___init__ pmm_Told___init__ anm_Told___init__ cdm_Told___init__ ctm_Told___init__),slm_Told___init__⟩) (q_Told___init___c:PySem.W.codeIn K cdm_Told___init__ "Told.__init__" = true) (q_Told___init___k:PySem.W.keepIn K (.ref fm_Told___init__) = true)
  {odm_Told_choose anm_Told_choose:Option Addr} {slm_Told_choose:Array (Option Value)} {ocm_Told_choose kvm_Told_choose dcm_Told_choose pmm_Told_choose ctm_Told_choose cdm_Told_choose:Value}
  (q_Told_choose_a:PySem.W.findIn K (.ref C_Told) "choose" = some (some (.ref fm_Told_choose))) (q_Told_choose_i:PySem.W.isFn K (.ref fm_Told_choose) = true) (q_Told_choose_l:K.lookup fm_Told_choose = some ⟨ocm_Told_choose,odm_Told_choose,.func (PySem.W.fnOf "choose" "Told.choose" (j3 (j1 (top 17) 1)) (i8 (j1 (top 17) 1)) (g6 (j1 (top 17) 1)) .none kvm_Told_choose dcm_Told_choose pmm_Told_choose anm_Told_choose cdm_Told_choose ctm_Told_choose),slm_Told_choose⟩) (q_Told_choose_c:PySem.W.codeIn K cdm_Told_choose "Told.choose" = true) (q_Told_choose_k:PySem.W.keepIn K (.ref fm_Told_choose) = true)
  (q_Fullest_choose_Emptiest_choose_xn:(F8 K cdm_Fullest_choose == F8 K cdm_Emptiest_choose) = false)
  (z_len:PySem.W.nsIn K mainGlobals "len" = some none) (z_isinstance:PySem.W.nsIn K mainGlobals "isinstance" = some none) (z_int:PySem.W.nsIn K mainGlobals "int" = some none) (z_bool:PySem.W.nsIn K mainGlobals "bool" = some none) (z_tuple:PySem.W.nsIn K mainGlobals "tuple" = some none) (z_list:PySem.W.nsIn K mainGlobals "list" = some none) (z_sorted:PySem.W.nsIn K mainGlobals "sorted" = some none) (z_range:PySem.W.nsIn K mainGlobals "range" = some none) (z_abs:PySem.W.nsIn K mainGlobals "abs" = some none) (z_min:PySem.W.nsIn K mainGlobals "min" = some none) (z_max:PySem.W.nsIn K mainGlobals "max" = some none) (z_str:PySem.W.nsIn K mainGlobals "str" = some none) (z_ValueError:PySem.W.nsIn K mainGlobals "ValueError" = some none) :
  ∃ fd:FuncData,(∀ (s:Shared) (v:Value),BindsTo s fd ⟨[v],[]⟩ [("_law_script",v)]) ∧ ∀ base:Heap,K.In base → base.Ns mainGlobals mg → D9 mg base → FnOk l.prog w K mg base CX0 4 fa fd ["_law_script"] (W9 K ts):=by
 have e:=hfa.symm.trans (PySem.W.mg_of X G a17)
 cases e
 have T:Txt K mg:=⟨PySem.W.mg_none_of X G z_len,PySem.W.mg_none_of X G z_isinstance,PySem.W.mg_none_of X G z_int,PySem.W.mg_none_of X G z_bool,PySem.W.mg_none_of X G z_tuple,PySem.W.mg_none_of X G z_list,PySem.W.mg_none_of X G z_sorted,PySem.W.mg_none_of X G z_range,PySem.W.mg_none_of X G z_abs,PySem.W.mg_none_of X G z_min,PySem.W.mg_none_of X G z_max,PySem.W.mg_none_of X G z_str,PySem.W.mg_none_of X G z_ValueError⟩
 have Z:TxtC K mg C_Rule C_Fullest C_Emptiest C_Told C_HallError C_NoHall C_NoCalls C_NoLine C_NoRule C_Idle C_Busy C_Engaged C_NoMove:=⟨PySem.W.mg_of X G q_Rule_at,⟨q_Rule_mk,q_Rule_kc,PySem.W.mg_of X G q_Rule_at⟩,⟨q_Rule_pg,q_Rule_hd,q_Rule_po,q_Rule_sa⟩,q_Rule_pi,fun H a dx fs e=>.ins e ⟨q_Rule_pg,q_Rule_hd,q_Rule_po,q_Rule_sa⟩ q_Rule_ha q_Rule_hn q_Rule_ht q_Rule_hm,PySem.W.mg_of X G q_Fullest_at,⟨q_Fullest_mk,q_Fullest_kc,PySem.W.mg_of X G q_Fullest_at⟩,⟨q_Fullest_pg,q_Fullest_hd,q_Fullest_po,q_Fullest_sa⟩,q_Fullest_pi,fun H a dx fs e=>.ins e ⟨q_Fullest_pg,q_Fullest_hd,q_Fullest_po,q_Fullest_sa⟩ q_Fullest_ha q_Fullest_hn q_Fullest_ht q_Fullest_hm,PySem.W.mg_of X G q_Emptiest_at,⟨q_Emptiest_mk,q_Emptiest_kc,PySem.W.mg_of X G q_Emptiest_at⟩,⟨q_Emptiest_pg,q_Emptiest_hd,q_Emptiest_po,q_Emptiest_sa⟩,q_Emptiest_pi,fun H a dx fs e=>.ins e ⟨q_Emptiest_pg,q_Emptiest_hd,q_Emptiest_po,q_Emptiest_sa⟩ q_Emptiest_ha q_Emptiest_hn q_Emptiest_ht q_Emptiest_hm,PySem.W.mg_of X G q_Told_at,⟨q_Told_mk,q_Told_kc,PySem.W.mg_of X G q_Told_at⟩,⟨q_Told_pg,q_Told_hd,q_Told_po,q_Told_sa⟩,q_Told_n_racks,fun H a dx fs e=>.ins e ⟨q_Told_pg,q_Told_hd,q_Told_po,q_Told_sa⟩ q_Told_ha q_Told_hn q_Told_ht q_Told_hm,PySem.W.mg_of X G q_HallError_at,PySem.W.mg_of X G q_NoHall_at,PySem.W.mg_of X G q_NoCalls_at,PySem.W.mg_of X G q_NoLine_at,PySem.W.mg_of X G q_NoRule_at,PySem.W.mg_of X G q_Idle_at,PySem.W.mg_of X G q_Busy_at,PySem.W.mg_of X G q_Engaged_at,PySem.W.mg_of X G q_NoMove_at,⟨PySem.W.mg_of X G q_NoRule_at,q_NoRule_ex⟩,⟨q_NoRule_ga,q_NoRule_gn,q_NoRule_cl,q_gt,q_tk,q_NoRule_mo,q_NoRule_mb,q_NoRule_ic⟩,as3 q_NoRule_sv,aw0 q_HallError_ic q_HallError_ty q_NoRule_s_HallError q_hb,ae2 q_HallError_ic q_HallError_ty q_NoRule_s_HallError,C3 q_NoHall_ic q_NoHall_ty q_NoRule_s_NoHall q_NoRule_s_NoRule,C3 q_NoCalls_ic q_NoCalls_ty q_NoRule_s_NoCalls q_NoRule_s_NoRule,C3 q_NoLine_ic q_NoLine_ty q_NoRule_s_NoLine q_NoRule_s_NoRule,ae2 q_NoRule_ic q_NoRule_ty q_NoRule_s_NoRule,C3 q_Idle_ic q_Idle_ty q_NoRule_s_Idle q_NoRule_s_NoRule,C3 q_Busy_ic q_Busy_ty q_NoRule_s_Busy q_NoRule_s_NoRule,C3 q_Engaged_ic q_Engaged_ty q_NoRule_s_Engaged q_NoRule_s_NoRule,C3 q_NoMove_ic q_NoMove_ty q_NoRule_s_NoMove q_NoRule_s_NoRule⟩
 have D_Rule_choose:DefM K C_Rule "choose" "Rule.choose" (j1 (top 13) 0) ["self","hall","calls","free"] [] noKw:=⟨fm_Rule_choose,_,⟨⟨_,_,_,_,_,_,_,_,_,_,rfl,q_Rule_choose_l,q_Rule_choose_c⟩⟩,⟨q_Rule_choose_a,q_Rule_choose_i,q_Rule_choose_k⟩,trivial,fun m hm=>match m,hm with | 0,_=>⟨[],.nil,.all fun us hl=>match us,hl with | [_,_,_,_],_=>rfl⟩ | _ + 1,h=>absurd h (by simp)⟩
 have D_Fullest_choose:DefMT K C_Fullest "choose" "Fullest.choose" (j1 (top 14) 0) ["self","hall","calls","free"] (F8 K cdm_Fullest_choose):=⟨fm_Fullest_choose,cdm_Fullest_choose,_,⟨_,_,_,_,_,_,_,_,_,rfl,q_Fullest_choose_l,q_Fullest_choose_c⟩,q_Fullest_choose_xh,⟨q_Fullest_choose_a,q_Fullest_choose_i,q_Fullest_choose_k⟩,.all fun us hl=>match us,hl with | [_,_,_,_],_=>rfl⟩
 have H_Fullest_choose:F8 K cdm_Fullest_choose ∈ ts:=by simpa using q_Fullest_choose_xm
 have D_Emptiest_choose:DefMT K C_Emptiest "choose" "Emptiest.choose" (j1 (top 15) 0) ["self","hall","calls","free"] (F8 K cdm_Emptiest_choose):=⟨fm_Emptiest_choose,cdm_Emptiest_choose,_,⟨_,_,_,_,_,_,_,_,_,rfl,q_Emptiest_choose_l,q_Emptiest_choose_c⟩,q_Emptiest_choose_xh,⟨q_Emptiest_choose_a,q_Emptiest_choose_i,q_Emptiest_choose_k⟩,.all fun us hl=>match us,hl with | [_,_,_,_],_=>rfl⟩
 have H_Emptiest_choose:F8 K cdm_Emptiest_choose ∈ ts:=by simpa using q_Emptiest_choose_xm
 have D_Told___init__:DefM K C_Told "__init__" "Told.__init__" (j1 (top 17) 0) ["self","listed"] [] noKw:=⟨fm_Told___init__,_,⟨⟨_,_,_,_,_,_,_,_,_,_,rfl,q_Told___init___l,q_Told___init___c⟩⟩,⟨q_Told___init___a,q_Told___init___i,q_Told___init___k⟩,trivial,fun m hm=>match m,hm with | 0,_=>⟨[],.nil,.all fun us hl=>match us,hl with | [_,_],_=>rfl⟩ | _ + 1,h=>absurd h (by simp)⟩
 have D_Told_choose:DefM K C_Told "choose" "Told.choose" (j1 (top 17) 1) ["self","hall","calls","free"] [] noKw:=⟨fm_Told_choose,_,⟨⟨_,_,_,_,_,_,_,_,_,_,rfl,q_Told_choose_l,q_Told_choose_c⟩⟩,⟨q_Told_choose_a,q_Told_choose_i,q_Told_choose_k⟩,trivial,fun m hm=>match m,hm with | 0,_=>⟨[],.nil,.all fun us hl=>match us,hl with | [_,_,_,_],_=>rfl⟩ | _ + 1,h=>absurd h (by simp)⟩
 have D_loads:Def K mg "loads" (top 11) ["hall","calls"]:=w4 X G a1 l1 c1 k1 fun us hl=>match us,hl with | [_,_],_=>rfl
 have D_rule_of:Def K mg "rule_of" (top 18) ["word"]:=w4 X G a2 l2 c2 k2 fun us hl=>match us,hl with | [_],_=>rfl
 have D__law_cell_at:Def K mg "_law_cell_at" (top 20) ["_law_script","_law_k"]:=w4 X G a3 l3 c3 k3 fun us hl=>match us,hl with | [_,_],_=>rfl
 have D__law_hall:Def K mg "_law_hall" (top 21) ["_law_script"]:=w4 X G a4 l4 c4 k4 fun us hl=>match us,hl with | [_],_=>rfl
 have D__law_ends:Def K mg "_law_ends" (top 22) ["_law_hall_here","_law_number_here"]:=w4 X G a5 l5 c5 k5 fun us hl=>match us,hl with | [_,_],_=>rfl
 have D__law_lines:Def K mg "_law_lines" (top 23) ["_law_hall_here","_law_caller","_law_ends_here","_law_k"]:=w4 X G a6 l6 c6 k6 fun us hl=>match us,hl with | [_,_,_,_],_=>rfl
 have D__law_number:Def K mg "_law_number" (top 24) ["_law_cell","_law_at"]:=w4 X G a7 l7 c7 k7 fun us hl=>match us,hl with | [_,_],_=>rfl
 have D__law_try:Def K mg "_law_try" (top 25) ["_law_hall_here","_law_taken","_law_number_here"]:=w4 X G a8 l8 c8 k8 fun us hl=>match us,hl with | [_,_,_],_=>rfl
 have D__law_calls:Def K mg "_law_calls" (top 26) ["_law_hall_here","_law_cells"]:=w4 X G a9 l9 c9 k9 fun us hl=>match us,hl with | [_,_],_=>rfl
 have D__law_kind:Def K mg "_law_kind" (top 27) ["_law_e"]:=w4 X G a10 l10 c10 k10 fun us hl=>match us,hl with | [_],_=>rfl
 have D__law_free:Def K mg "_law_free" (top 28) ["_law_hall_here","_law_number_here"]:=w4 X G a11 l11 c11 k11 fun us hl=>match us,hl with | [_,_],_=>rfl
 have D__law_listed:Def K mg "_law_listed" (top 29) ["_law_hall_here","_law_number_here"]:=w4 X G a12 l12 c12 k12 fun us hl=>match us,hl with | [_,_],_=>rfl
 have D__law_best:Def K mg "_law_best" (top 30) ["_law_calls_here","_law_free_here","_law_sign"]:=w4 X G a13 l13 c13 k13 fun us hl=>match us,hl with | [_,_,_],_=>rfl
 have D__law_tells:Def K mg "_law_tells" (top 31) ["_law_found","_law_due"]:=w4 X G a14 l14 c14 k14 fun us hl=>match us,hl with | [_,_],_=>rfl
 have D__law_asked:Def K mg "_law_asked" (top 32) ["_law_hall_here","_law_calls_here","_law_number_here"]:=w4 X G a15 l15 c15 k15 fun us hl=>match us,hl with | [_,_,_],_=>rfl
 have D__law_no_word:Def K mg "_law_no_word" (top 33) ["_law_thing"]:=w4 X G a16 l16 c16 k16 fun us hl=>match us,hl with | [_],_=>rfl
 have F:=am5 (st:=top 34) l17 c17 k17
 refine ⟨PySem.W.fnOf "law" "law" (j3 (top 34)) (i8 (top 34)) (g6 (top 34)) .none kV17 dc17 pm17 an17 cd17 ct17,fun s v=>.of_eq rfl,fun base _ _ hB=>?_⟩
 have C_cell:=au0 (P:=l.prog) (w:=w) (base:=base) T D__law_cell_at
 have C_lines:=al5 (P:=l.prog) (w:=w) (base:=base) T D__law_lines
 have C_ends:=av8 (P:=l.prog) (w:=w) (base:=base) T D__law_ends
 have C_num:=aj1 (P:=l.prog) (w:=w) (base:=base) T D__law_number
 have C_loads:=ak1 (P:=l.prog) (w:=w) (base:=base) T D_loads
 have C_full:=ad3 T hB C_loads D_Fullest_choose
 have C_emp:=aa1 T hB C_loads D_Emptiest_choose
 have C_ro:=ah1 (P:=l.prog) (w:=w) (base:=base) T Z D_rule_of
 have C_ask:=ab7 T Z (aw7 T D__law_free) (ag5 T D__law_listed) (ag0 T D__law_best) (ar1 T D__law_tells) C_ro (ab2 T Z D_Rule_choose) C_full C_emp (ap7 T Z D_Told___init__) (aj9 T Z D_Told_choose) D__law_asked
 have C_nw:=ah0 T Z C_ro (ay0 T Z D__law_kind) D__law_no_word
 exact aC8 T Z q_Fullest_choose_Emptiest_choose_xn H_Fullest_choose H_Emptiest_choose (as5 T C_cell D__law_hall) (aq5 T C_num (az8 T C_ends C_lines D__law_try) D__law_calls) C_num C_ask C_nw F
end
theorem walk {l:PySem.W.OpenLaw} {q:Program} {loose:List Str} {XP:(Str → Option Value) → Heap → Prop} {YP:World → Heap → Prop} {d:DefRec} {K:Params → PySem.W.Frag} {ts:List Addr} (hn:l.most = some 63) (hdf:d.params.defaults = [])
  (hY:∀ (w:World) (h:Heap),YP w h → (K w.params).In h) (hYT:∀ (w:World) (h:Heap),YP w h → ∀ P ∈ ts,h.get? P = some (PySem.W.tabObj #[])) (htf:∀ p:Params,Q6 (K p) ts = true)
  (F:∀ (w:World) (mg:Str → Option Value) (fa:Addr) (h:Heap),(K w.params).In h → h.Ns mainGlobals mg → mg d.name = some (.ref fa) →
   ∃ fd:FuncData,(∀ (s:Shared) (u:Value),BindsTo s fd ⟨[u],[]⟩ [("_law_script",u)]) ∧ ∀ base:Heap,(K w.params).In base → base.Ns mainGlobals mg → D9 mg base → FnOk l.prog w (K w.params) mg base CX0 4 fa fd ["_law_script"] (W9 (K w.params) ts)) :
  PySem.W.WalkO q loose XP YP l.row.toRowW d [] (fun f vs=>PySem.call f vs) :=
 L2.aq0 (n:=63) (k:=4) (x:="_law_script") (CX:=fun _=>CX0) (sp:=fun w=>W9 (K w.params) ts) hn (by decide) hdf ⟨rfl,by decide,by decide⟩ hY hYT htf F (fun _ _ a ns hl hT hS=>⟨a,ns,rfl,hS,hl,hT,fun _=>rfl⟩) fun _ _ _ _ _ z=>z
end My
open PySem PySem.W PyProof.Rows
set_option maxRecDepth 100000 in
set_option maxHeartbeats 0 in
theorem PySem.Challenge.cw_crossracks_k21_rules_choose_holds : PySem.Challenge.rw_crossracks_k21_rules_choose.Holds := by
 w_on; o_law; k_head; (case hw=>w_witness2)
 k_fill
 refine My.walk (l:=PySem.Challenge.rw_crossracks_k21_rules_choose) rfl rfl (fun w h Y=>PySem.W.km_in_of Y) (fun w h Y=>PySem.W.km_tabs_of Y) (fun p=>by kernel_rfl) ?F
 case F =>
  intro w mg fa h KX G hmg
  refine' My.aB2 KX G hmg ?a1 ?l1 ?c1 ?k1 ?a2 ?l2 ?c2 ?k2 ?a3 ?l3 ?c3 ?k3 ?a4 ?l4 ?c4 ?k4 ?a5 ?l5 ?c5 ?k5 ?a6 ?l6 ?c6 ?k6 ?a7 ?l7 ?c7 ?k7 ?a8 ?l8 ?c8 ?k8 ?a9 ?l9 ?c9 ?k9 ?a10 ?l10 ?c10 ?k10 ?a11 ?l11 ?c11 ?k11 ?a12 ?l12 ?c12 ?k12 ?a13 ?l13 ?c13 ?k13 ?a14 ?l14 ?c14 ?k14 ?a15 ?l15 ?c15 ?k15 ?a16 ?l16 ?c16 ?k16 ?a17 ?l17 ?c17 ?k17   ?q_Rule_at ?q_Rule_pg ?q_Rule_hd ?q_Rule_po ?q_Rule_sa ?q_Rule_mk ?q_Rule_kc ?q_Rule_ha ?q_Rule_hn ?q_Rule_ht ?q_Rule_hm ?q_Rule_pi ?q_Fullest_at ?q_Fullest_pg ?q_Fullest_hd ?q_Fullest_po ?q_Fullest_sa ?q_Fullest_mk ?q_Fullest_kc ?q_Fullest_ha ?q_Fullest_hn ?q_Fullest_ht ?q_Fullest_hm ?q_Fullest_pi ?q_Emptiest_at ?q_Emptiest_pg ?q_Emptiest_hd ?q_Emptiest_po ?q_Emptiest_sa ?q_Emptiest_mk ?q_Emptiest_kc ?q_Emptiest_ha ?q_Emptiest_hn ?q_Emptiest_ht ?q_Emptiest_hm ?q_Emptiest_pi ?q_Told_at ?q_Told_pg ?q_Told_hd ?q_Told_po ?q_Told_sa ?q_Told_mk ?q_Told_kc ?q_Told_ha ?q_Told_hn ?q_Told_ht ?q_Told_hm ?q_Told_n_racks ?q_HallError_at ?q_NoHall_at ?q_NoCalls_at ?q_NoLine_at ?q_NoRule_at ?q_Idle_at ?q_Busy_at ?q_Engaged_at ?q_NoMove_at ?q_HallError_ic ?q_HallError_ty ?q_NoHall_ic ?q_NoHall_ty ?q_NoCalls_ic ?q_NoCalls_ty ?q_NoLine_ic ?q_NoLine_ty ?q_NoRule_ic ?q_NoRule_ty ?q_Idle_ic ?q_Idle_ty ?q_Busy_ic ?q_Busy_ty ?q_Engaged_ic ?q_Engaged_ty ?q_NoMove_ic ?q_NoMove_ty ?q_hb ?q_gt ?q_tk ?q_NoRule_ex ?q_NoRule_ga ?q_NoRule_gn ?q_NoRule_cl ?q_NoRule_mo ?q_NoRule_mb ?q_NoRule_sv ?q_NoRule_s_HallError ?q_NoRule_s_NoHall ?q_NoRule_s_NoCalls ?q_NoRule_s_NoLine ?q_NoRule_s_NoRule ?q_NoRule_s_Idle ?q_NoRule_s_Busy ?q_NoRule_s_Engaged ?q_NoRule_s_NoMove ?q_Rule_choose_a ?q_Rule_choose_i ?q_Rule_choose_l ?q_Rule_choose_c ?q_Rule_choose_k ?q_Fullest_choose_a ?q_Fullest_choose_i ?q_Fullest_choose_l ?q_Fullest_choose_c ?q_Fullest_choose_k ?q_Fullest_choose_xh ?q_Fullest_choose_xm ?q_Emptiest_choose_a ?q_Emptiest_choose_i ?q_Emptiest_choose_l ?q_Emptiest_choose_c ?q_Emptiest_choose_k ?q_Emptiest_choose_xh ?q_Emptiest_choose_xm ?q_Told___init___a ?q_Told___init___i ?q_Told___init___l ?q_Told___init___c ?q_Told___init___k ?q_Told_choose_a ?q_Told_choose_i ?q_Told_choose_l ?q_Told_choose_c ?q_Told_choose_k ?q_Fullest_choose_Emptiest_choose_xn ?z_len ?z_isinstance ?z_int ?z_bool ?z_tuple ?z_list ?z_sorted ?z_range ?z_abs ?z_min ?z_max ?z_str ?z_ValueError
  (case a1=>k_is); (case l1=>k_is); (case c1=>k_is); (case k1=>k_is)
  (case a2=>k_is); (case l2=>k_is); (case c2=>k_is); (case k2=>k_is)
  (case a3=>k_is); (case l3=>k_is); (case c3=>k_is); (case k3=>k_is)
  (case a4=>k_is); (case l4=>k_is); (case c4=>k_is); (case k4=>k_is)
  (case a5=>k_is); (case l5=>k_is); (case c5=>k_is); (case k5=>k_is)
  (case a6=>k_is); (case l6=>k_is); (case c6=>k_is); (case k6=>k_is)
  (case a7=>k_is); (case l7=>k_is); (case c7=>k_is); (case k7=>k_is)
  (case a8=>k_is); (case l8=>k_is); (case c8=>k_is); (case k8=>k_is)
  (case a9=>k_is); (case l9=>k_is); (case c9=>k_is); (case k9=>k_is)
  (case a10=>k_is); (case l10=>k_is); (case c10=>k_is); (case k10=>k_is)
  (case a11=>k_is); (case l11=>k_is); (case c11=>k_is); (case k11=>k_is)
  (case a12=>k_is); (case l12=>k_is); (case c12=>k_is); (case k12=>k_is)
  (case a13=>k_is); (case l13=>k_is); (case c13=>k_is); (case k13=>k_is)
  (case a14=>k_is); (case l14=>k_is); (case c14=>k_is); (case k14=>k_is)
  (case a15=>k_is); (case l15=>k_is); (case c15=>k_is); (case k15=>k_is)
  (case a16=>k_is); (case l16=>k_is); (case c16=>k_is); (case k16=>k_is)
  (case a17=>k_is); (case l17=>k_is); (case c17=>k_is); (case k17=>k_is)
  (case q_Rule_at=>k_is)
  (case q_Rule_pg=>k_is)
  (case q_Rule_hd=>k_is)
  (case q_Rule_po=>k_is)
  (case q_Rule_sa=>k_is)
  (case q_Rule_mk=>k_is)
  (case q_Rule_kc=>k_is)
  (case q_Rule_ha=>k_is)
  (case q_Rule_hn=>k_is)
  (case q_Rule_ht=>k_is)
  (case q_Rule_hm=>k_is)
  (case q_Rule_pi=>k_is)
  (case q_Fullest_at=>k_is)
  (case q_Fullest_pg=>k_is)
  (case q_Fullest_hd=>k_is)
  (case q_Fullest_po=>k_is)
  (case q_Fullest_sa=>k_is)
  (case q_Fullest_mk=>k_is)
  (case q_Fullest_kc=>k_is)
  (case q_Fullest_ha=>k_is)
  (case q_Fullest_hn=>k_is)
  (case q_Fullest_ht=>k_is)
  (case q_Fullest_hm=>k_is)
  (case q_Fullest_pi=>k_is)
  (case q_Emptiest_at=>k_is)
  (case q_Emptiest_pg=>k_is)
  (case q_Emptiest_hd=>k_is)
  (case q_Emptiest_po=>k_is)
  (case q_Emptiest_sa=>k_is)
  (case q_Emptiest_mk=>k_is)
  (case q_Emptiest_kc=>k_is)
  (case q_Emptiest_ha=>k_is)
  (case q_Emptiest_hn=>k_is)
  (case q_Emptiest_ht=>k_is)
  (case q_Emptiest_hm=>k_is)
  (case q_Emptiest_pi=>k_is)
  (case q_Told_at=>k_is)
  (case q_Told_pg=>k_is)
  (case q_Told_hd=>k_is)
  (case q_Told_po=>k_is)
  (case q_Told_sa=>k_is)
  (case q_Told_mk=>k_is)
  (case q_Told_kc=>k_is)
  (case q_Told_ha=>k_is)
  (case q_Told_hn=>k_is)
  (case q_Told_ht=>k_is)
  (case q_Told_hm=>k_is)
  (case q_Told_n_racks=>k_is)
  (case q_HallError_at=>k_is)
  (case q_NoHall_at=>k_is)
  (case q_NoCalls_at=>k_is)
  (case q_NoLine_at=>k_is)
  (case q_NoRule_at=>k_is)
  (case q_Idle_at=>k_is)
  (case q_Busy_at=>k_is)
  (case q_Engaged_at=>k_is)
  (case q_NoMove_at=>k_is)
  (case q_HallError_ic=>k_is)
  (case q_HallError_ty=>k_is)
  (case q_NoHall_ic=>k_is)
  (case q_NoHall_ty=>k_is)
  (case q_NoCalls_ic=>k_is)
  (case q_NoCalls_ty=>k_is)
  (case q_NoLine_ic=>k_is)
  (case q_NoLine_ty=>k_is)
  (case q_NoRule_ic=>k_is)
  (case q_NoRule_ty=>k_is)
  (case q_Idle_ic=>k_is)
  (case q_Idle_ty=>k_is)
  (case q_Busy_ic=>k_is)
  (case q_Busy_ty=>k_is)
  (case q_Engaged_ic=>k_is)
  (case q_Engaged_ty=>k_is)
  (case q_NoMove_ic=>k_is)
  (case q_NoMove_ty=>k_is)
  (case q_hb=>k_is)
  (case q_gt=>k_is)
  (case q_tk=>k_is)
  (case q_NoRule_ex=>k_exc)
  (case q_NoRule_ga=>k_is)
  (case q_NoRule_gn=>k_is)
  (case q_NoRule_cl=>k_is)
  (case q_NoRule_mo=>k_is)
  (case q_NoRule_mb=>k_is)
  (case q_NoRule_sv=>k_is)
  (case q_NoRule_s_HallError=>k_is)
  (case q_NoRule_s_NoHall=>k_is)
  (case q_NoRule_s_NoCalls=>k_is)
  (case q_NoRule_s_NoLine=>k_is)
  (case q_NoRule_s_NoRule=>k_is)
  (case q_NoRule_s_Idle=>k_is)
  (case q_NoRule_s_Busy=>k_is)
  (case q_NoRule_s_Engaged=>k_is)
  (case q_NoRule_s_NoMove=>k_is)
  (case q_Rule_choose_a=>k_is)
  (case q_Rule_choose_i=>k_is)
  (case q_Rule_choose_l=>k_is)
  (case q_Rule_choose_c=>k_is)
  (case q_Rule_choose_k=>k_is)
  (case q_Fullest_choose_a=>k_is)
  (case q_Fullest_choose_i=>k_is)
  (case q_Fullest_choose_l=>k_is)
  (case q_Fullest_choose_c=>k_is)
  (case q_Fullest_choose_k=>k_is)
  (case q_Fullest_choose_xh=>kernel_rfl)
  (case q_Fullest_choose_xm=>kernel_rfl)
  (case q_Emptiest_choose_a=>k_is)
  (case q_Emptiest_choose_i=>k_is)
  (case q_Emptiest_choose_l=>k_is)
  (case q_Emptiest_choose_c=>k_is)
  (case q_Emptiest_choose_k=>k_is)
  (case q_Emptiest_choose_xh=>kernel_rfl)
  (case q_Emptiest_choose_xm=>kernel_rfl)
  (case q_Told___init___a=>k_is)
  (case q_Told___init___i=>k_is)
  (case q_Told___init___l=>k_is)
  (case q_Told___init___c=>k_is)
  (case q_Told___init___k=>k_is)
  (case q_Told_choose_a=>k_is)
  (case q_Told_choose_i=>k_is)
  (case q_Told_choose_l=>k_is)
  (case q_Told_choose_c=>k_is)
  (case q_Told_choose_k=>k_is)
  (case q_Fullest_choose_Emptiest_choose_xn=>kernel_rfl)
  (case z_len=>k_is)
  (case z_isinstance=>k_is)
  (case z_int=>k_is)
  (case z_bool=>k_is)
  (case z_tuple=>k_is)
  (case z_list=>k_is)
  (case z_sorted=>k_is)
  (case z_range=>k_is)
  (case z_abs=>k_is)
  (case z_min=>k_is)
  (case z_max=>k_is)
  (case z_str=>k_is)
  (case z_ValueError=>k_is)
