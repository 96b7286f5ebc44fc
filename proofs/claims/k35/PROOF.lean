import PyProof.Rows.All
import Wide.All
import OpenK.AllK
import Wide.FinOn
import Lean
import PyProof.EqAt
import PyProof.EqKinds
import PyProof.TupleCall
import PySem.SetOps
import PyProof.SetKind
import PyProof.CollectWalk
import PyProof.FactsAll.set
import PyProof.ForAny
import PyProof.Rows.SortWalk
import PyProof.Rows.SetFrom
import KE.KSortAsk
import KE.KSortTup
import KE.KDictList
import KE.KMinBuiltin
import PyProof.EnumMake
import PyProof.NsDelKeeps
import PyProof.ExcInit
import PyProof.ExcClass2
import PyProof.WalksMore
import PyProof.TupleOfSeq
import PyProof.TupleKey
import PyProof.IsRules
import KE.KRevIter
import PyProof.AttrMissHeap
import KE.KDictOf
import PyProof.Rows.MinMaxN
import PySem.Challenge.RW_crossracks_k35_whole_joined_by_turning
set_option Elab.async false
set_option linter.all false
set_option maxRecDepth 100000
namespace L2
open PySem PySem.Spec PyProof.Rows
abbrev Key:=Sum Int Str
def ao5:Key → Value → Bool
 | .inl k,v=>Value.isInt k v
 | .inr x,v=>Value.isStrOf x v
def bp3 (w:World):Key → Int
 | .inl k=>hashInt k
 | .inr x=>hashStr w x
theorem B3:∀ {k:Key} {v:Value},ao5 k v = true → (∃ i t,k = Sum.inl i ∧ v = Value.int i t) ∨ (∃ x t,k = Sum.inr x ∧ v = Value.str x t)
 | .inl i,v,h=>by
  obtain ⟨t,e⟩:=Value.isInt_shape (k:=i) (v:=v) h
  exact .inl ⟨i,t,rfl,e⟩
 | .inr x,v,h=>by
  obtain ⟨t,e⟩:=Value.isStrOf_shape (x:=x) (v:=v) h
  exact .inr ⟨x,t,rfl,e⟩
theorem aQ3 (i:Int) (t:Tok):ao5 (.inl i) (.int i t) = true:=by simp [ao5,Value.isInt]
theorem aP9 (x:Str) (t:Tok):ao5 (.inr x) (.str x t) = true:=by simp [ao5,Value.isStrOf]
theorem bg4 (a b:Int):decide ((Sum.inl a:Key) = Sum.inl b) = (a == b):=by
 by_cases e:a = b
 ·subst e; simp
 ·have h:¬ (Sum.inl a:Key) = Sum.inl b:=fun q=>e (Sum.inl.inj q)
  rw [decide_eq_false h]
  exact (beq_eq_false_iff_ne.mpr e).symm
theorem bh7 (a b:Str):decide ((Sum.inr a:Key) = Sum.inr b) = decide (a = b):=by
 by_cases e:a = b
 ·subst e; simp
 ·have h:¬ (Sum.inr a:Key) = Sum.inr b:=fun q=>e (Sum.inr.inj q)
  rw [decide_eq_false h,decide_eq_false e]
theorem bg5 (a:Int) (b:Str):decide ((Sum.inl a:Key) = Sum.inr b) = false:=decide_eq_false (fun q=>nomatch q)
theorem bg7 (a:Str) (b:Int):decide ((Sum.inr a:Key) = Sum.inl b) = false:=decide_eq_false (fun q=>nomatch q)
def u7 (prog:Program) (w:World):PySem.KeyKind prog w Key where
 is:=ao5
 hash:=bp3 w
 inj:=fun v a b ha hb=>by
  rcases B3 ha with ⟨i,t,rfl,rfl⟩ | ⟨x,t,rfl,rfl⟩
  ·rcases B3 hb with ⟨j,u,rfl,e⟩ | ⟨y,u,rfl,e⟩
   ·injection e with e1 _; rw [e1]
   ·exact nomatch e
  ·rcases B3 hb with ⟨j,u,rfl,e⟩ | ⟨y,u,rfl,e⟩
   ·exact nomatch e
   ·injection e with e1 _; rw [e1]
 byValue:=fun k v h=>by
  rcases B3 h with ⟨i,t,rfl,rfl⟩ | ⟨x,t,rfl,rfl⟩ <;> rfl
 pyHash:=fun hv h=>by
  rcases B3 hv with ⟨i,t,rfl,rfl⟩ | ⟨x,t,rfl,rfl⟩
  ·exact wpAny_pyHash_int h
  ·exact wpAny_pyHash_str h
 eqBool:=fun hu hv h=>by
  rcases B3 hu with ⟨i,t,rfl,rfl⟩ | ⟨x,t,rfl,rfl⟩
  ·rcases B3 hv with ⟨j,u,rfl,rfl⟩ | ⟨y,u,rfl,rfl⟩
   ·rw [bg4] at h; exact wpAny_eqBool_int h
   ·rw [bg5] at h; exact SeqAt.EqAt.int_str i t y u _ _ _ _ h
  ·rcases B3 hv with ⟨j,u,rfl,rfl⟩ | ⟨y,u,rfl,rfl⟩
   ·rw [bg7] at h; exact SeqAt.EqAt.str_int x t j u _ _ _ _ h
   ·rw [bh7] at h; exact wpAny_eqBool_str h
 «strs»:=fun k x t v h=>by
  rcases B3 h with ⟨i,u,rfl,e⟩ | ⟨y,u,rfl,e⟩
  ·exact nomatch e
  ·injection e with e1 _
   subst e1
   cases v <;> rfl
theorem aF9 (prog:Program) (w:World) (i:Int) (t:Tok):(u7 prog w).is (.inl i) (.int i t) = true:=aQ3 i t
theorem aw9 (prog:Program) (w:World) (x:Str) (t:Tok):(u7 prog w).is (.inr x) (.str x t) = true:=aP9 x t
end L2
namespace L2
open PySem PySem.Spec PyProof.Rows
inductive V where
 | non | bl (b:Bool) | int (i:Int) | str (x:Str) | byt (b:Array UInt8) | flt (b:UInt64) | ref (a:Addr) | ty (n:String)
 deriving DecidableEq
def t6:V → Value → Prop
 | .non,u=>u = Value.none
 | .bl b,u=>u = Value.bool b
 | .int i,u=>∃ t,u = Value.int i t
 | .str x,u=>∃ t,u = Value.str x t
 | .byt b,u=>∃ t,u = Value.bytes b t
 | .flt b,u=>∃ t,u = Value.float b t
 | .ref a,u=>u = Value.ref a
 | .ty n,u=>u = Value.type n
abbrev r6:List V → List Value → Prop:=Paired t6
theorem r6.length {xs:List V} {us:List Value} (r:r6 xs us):xs.length = us.length:=Paired.length r
theorem r6.get:∀ {xs:List V} {us:List Value} {i:Nat} {x:V},r6 xs us → xs[i]? = some x → ∃ u,us[i]? = some u ∧ t6 x u
 | _,_,_,_,.nil,e=>by simp at e
 | _,_,0,_,.cons r _,e=>by simp at e; subst e; exact ⟨_,rfl,r⟩
 | _,_,i + 1,x,.cons _ t,e=>by
  obtain ⟨u,h1,h2⟩:=r6.get (i:=i) (x:=x) t (by simpa using e)
  exact ⟨u,by simpa using h1,h2⟩
theorem r6.set {x:V} {u:Value} (r:t6 x u):∀ {xs:List V} {us:List Value} (i:Nat),r6 xs us → r6 (xs.set i x) (us.set i u)
 | _,_,_,.nil=>.nil
 | _,_,0,.cons _ t=>.cons r t
 | _,_,i + 1,.cons q t=>.cons q (r6.set r i t)
theorem r6.append:∀ {xs ys:List V} {us ws:List Value},r6 xs us → r6 ys ws → r6 (xs ++ ys) (us ++ ws)
 | _,_,_,_,.nil,s=>s
 | _,_,_,_,.cons r t,s=>.cons r (r6.append t s)
theorem r6.take:∀ {xs:List V} {us:List Value} (n:Nat),r6 xs us → r6 (xs.take n) (us.take n)
 | _,_,0,_=>.nil
 | _,_,_ + 1,.nil=>.nil
 | _,_,n + 1,.cons r t=>.cons r (r6.take n t)
theorem r6.drop:∀ {xs:List V} {us:List Value} (n:Nat),r6 xs us → r6 (xs.drop n) (us.drop n)
 | _,_,0,r=>r
 | _,_,_ + 1,.nil=>.nil
 | _,_,n + 1,.cons _ t=>r6.drop n t
def aw2:Option V → Option Value → Prop
 | some v,some u=>t6 v u
 | none,none=>True
 | _,_=>False
def KV {κ:Type}:List (κ × V) → List (κ × Value) → Prop:=Paired fun (p:κ × V) (q:κ × Value)=>p.1 = q.1 ∧ t6 p.2 q.2
def kV:Key → V
 | .inl i=>.int i
 | .inr x=>.str x
inductive HO where
 /-- a list -/
 | lst (xs:List V)
 /-- a tuple (never changes) -/
 | tup (xs:List V)
 /-- a dict whose keys are ints and texts; one whose keys are tuples of ints and texts (the empty one is both) -/
 | dK (kvs:List (Key × V)) | dT (kvs:List (List Key × V))
 /-- a set of ints: its members,its size -/
 | set (S:Int → Bool) (n:Nat)
 /-- an instance of the class at C,its dict at dx,its attributes -/
 | ins (C dx:Addr) (fs:List (Str × V))
 /-- the dict of the instance at x -/
 | own (x:Addr)
 /-- the dict of an exception -/
 | xd (fs:List (Str × V))
 /-- a bound method,f of x -/
 | met (f x:Addr)
 /-- a range object lo,lo + 1,.. below hi -/
 | rng (lo hi:Int)
 /-- a thing that is known to the object (the script; a dict while a loop walks it): read,never written while it is so -/
 | frz (o:Obj) (u:HO)
 /-- a code object's table -/
 | tbl (ps:Array Value)
 /-- any other thing,by what is true of its one object (a def of one's own: ax7 a S n:=HO.ext fun h=>..) -/
 | ext (φ:Heap → Prop)
abbrev Hp:=Addr → Option HO
def upd (H:Hp) (a:Addr) (o:HO):Hp:=fun b=>if b = a then some o else H b
theorem d6 {H:Hp} {a:Addr} {o:HO}:upd H a o a = some o:=by unfold upd; rw [if_pos rfl]
theorem n5 {H:Hp} {a b:Addr} {o:HO} (h:b ≠ a):upd H a o b = H b:=by unfold upd; rw [if_neg h]
theorem bm9 {H:Hp} {a b:Addr} {o u:HO} (h:H a = some o) (h':H b = some u) (d:o ≠ u):a ≠ b:=by
 intro e; subst e; rw [h] at h'; exact d (Option.some.inj h')
theorem q9 {H:Hp} {a b:Addr} {o:HO} (h:H a = some o) (h':H b = none):a ≠ b:=by
 intro e; subst e; rw [h] at h'; cases h'
section
variable (P:Program) (w:World)
def x6 (H:Hp) (h:Heap) (a:Addr):HO → Prop
 | .lst xs=>xs.length ≤ sizeLine ∧ ∃ (its:List Value) (n:Nat),r6 xs its ∧ h.get? a = some { cls:=.type "list",data:=.seq its.toArray n }
 | .tup xs=>xs.length ≤ sizeLine ∧ ∃ its:List Value,r6 xs its ∧ IsTup h a its.toArray
 | .dK kvs=>kvs.length ≤ sizeLine ∧ (a == sysModules) = false ∧ ∃ vs,KV kvs vs ∧ h.DictOf (u7 P w) a vs
 | .dT kvs=>kvs.length ≤ sizeLine ∧ (a == sysModules) = false ∧ ∃ xs:List (List Key × Addr × Value),
   Paired (fun (p:List Key × V) (q:List Key × Addr × Value)=>p.1 = q.1 ∧ H q.2.1 = some (.tup (p.1.map kV)) ∧ t6 p.2 q.2.2) kvs xs ∧
   ∃ o es ep,h.get? a = some o ∧ o.ExactDict ∧ o.data = .dict es ep ∧ es.toList = xs.map (entryOfKey (tupleKind (u7 P w))) ∧ (xs.map (·.1)).Nodup
 | .set S n=>h.SetOf (intKind P w) a S n
 | .ins C dx fs=>H dx = some (.own a) ∧ fs.length ≤ 1000 ∧ dx ≠ a ∧ h.get? a = some (PySem.W.instObj C dx) ∧
   ∃ mA,h.Ns1 dx mA ∧ (∀ f,aw2 (fs.lookup f) (mA f)) ∧ PySem.Within mA (fs.map (·.1))
 | .own _=>∃ o,h.get? a = some o
 | .xd fs=>∃ mA,h.Ns1 a mA ∧ ∀ f,aw2 (fs.lookup f) (mA f)
 | .rng lo hi=>∃ t u v,h.get? a = some { cls:=.type "range",data:=.fields #[.int lo t,.int hi u,.int 1 v] }
 | .frz o u=>h.get? a = some o ∧ x6 H h a u
 | .tbl ps=>h.get? a = some { cls:=.none,data:=.fields ps }
 | .met f x=>h.get? a = some (PySem.W.methodObj (.ref f) (.ref x))
 | .ext φ=>φ h ∧ (∃ o,h.get? a = some o) ∧ ∀ h1 h2:Heap,φ h1 → (∀ o,h1.get? a = some o → h2.get? a = some o) → φ h2
def HOk (H:Hp) (h:Heap):Prop:=∀ a o,H a = some o → x6 P w H h a o
end
section
variable {P:Program} {w:World} {H H':Hp} {h h':Heap} {a:Addr} {o:HO}
theorem x6.lt (x:x6 P w H h a o):a < h.objs.size:=by
 cases o with
 | lst xs=>obtain ⟨_,_,_,_,e⟩:=x; exact Heap.lt_size e
 | tup xs=>obtain ⟨_,_,_,p⟩:=x; exact p.lt
 | dK kvs=>obtain ⟨_,_,_,_,o,_,_,e,_⟩:=x; exact Heap.lt_size e
 | dT kvs=>obtain ⟨_,_,_,_,o,_,_,e,_⟩:=x; exact Heap.lt_size e
 | set S n=>obtain ⟨o,_,_,_,e,_⟩:=x; exact Heap.lt_size e
 | ins C dx fs=>obtain ⟨_,_,_,e,_⟩:=x; exact Heap.lt_size e
 | own y=>obtain ⟨_,e⟩:=x; exact Heap.lt_size e
 | xd fs=>obtain ⟨_,⟨_,_,_,e,_⟩,_⟩:=x; exact Heap.lt_size e
 | rng lo hi=>obtain ⟨_,_,_,e⟩:=x; exact Heap.lt_size e
 | frz ob u=>obtain ⟨e,_⟩:=x; exact Heap.lt_size e
 | tbl ps=>exact Heap.lt_size (show h.get? a = some _ from x)
 | met f y=>exact Heap.lt_size (show h.get? a = some _ from x)
 | ext φ=>obtain ⟨_,⟨_,e⟩,_⟩:=x; exact Heap.lt_size e
theorem Paired.mapP {α β:Type} {F G:α → β → Prop}:∀ {l₁:List α} {l₂:List β},Paired F l₁ l₂ → (∀ a b,F a b → G a b) → Paired G l₁ l₂
 | _,_,.nil,_=>.nil
 | _,_,.cons r t,f=>.cons (f _ _ r) (Paired.mapP t f)
theorem x6.stay (x:x6 P w H h a o) (k:∀ b u,(b = a ∨ H b = some (.own a)) → h.get? b = some u → h'.get? b = some u)
  (ho:∀ b,H b = some (.own a) → H' b = some (.own a)) (ht:∀ b xs,H b = some (.tup xs) → H' b = some (.tup xs)):x6 P w H' h' a o:=by
 induction o with
 | lst xs=>obtain ⟨z,its,n,r,e⟩:=x; exact ⟨z,its,n,r,k _ _ (.inl rfl) e⟩
 | tup xs=>obtain ⟨z,its,r,ob,e,c⟩:=x; exact ⟨z,its,r,ob,k _ _ (.inl rfl) e,c⟩
 | dK kvs=>obtain ⟨z,y,vs,r,ob,es,ep,e,c⟩:=x; exact ⟨z,y,vs,r,ob,es,ep,k _ _ (.inl rfl) e,c⟩
 | dT kvs =>
  obtain ⟨z,y,xs,r,ob,es,ep,e,c⟩:=x
  exact ⟨z,y,xs,Paired.mapP r fun p q z=>⟨z.1,ht _ _ z.2.1,z.2.2⟩,ob,es,ep,k _ _ (.inl rfl) e,c⟩
 | set S n=>obtain ⟨ob,es,ep,t,e,c⟩:=x; exact ⟨ob,es,ep,t,k _ _ (.inl rfl) e,c⟩
 | ins C dx fs =>
  obtain ⟨d,z,ne,e,mA,⟨od,es,ep,e2,c⟩,r⟩:=x
  exact ⟨ho _ d,z,ne,k _ _ (.inl rfl) e,mA,⟨od,es,ep,k _ _ (.inr d) e2,c⟩,r⟩
 | own y=>obtain ⟨ob,e⟩:=x; exact ⟨ob,k _ _ (.inl rfl) e⟩
 | xd fs=>obtain ⟨mA,⟨od,es,ep,e,c⟩,r⟩:=x; exact ⟨mA,⟨od,es,ep,k _ _ (.inl rfl) e,c⟩,r⟩
 | rng lo hi=>obtain ⟨t,u,v,e⟩:=x; exact ⟨t,u,v,k _ _ (.inl rfl) e⟩
 | frz ob u ih=>obtain ⟨e,q⟩:=x; exact ⟨k _ _ (.inl rfl) e,ih q⟩
 | tbl ps =>
  have e:h.get? a = some { cls:=.none,data:=.fields ps }:=x
  show h'.get? a = some { cls:=.none,data:=.fields ps }
  exact k a _ (.inl rfl) e
 | met f y =>
  have e:h.get? a = some (PySem.W.methodObj (.ref f) (.ref y)):=x
  show h'.get? a = some (PySem.W.methodObj (.ref f) (.ref y))
  exact k a _ (.inl rfl) e
 | ext φ=>obtain ⟨p,⟨o,e⟩,st⟩:=x; exact ⟨st _ _ p fun o q=>k _ _ (.inl rfl) q,⟨o,k _ _ (.inl rfl) e⟩,st⟩
theorem HOk.lt (x:HOk P w H h) (e:H a = some o):a < h.objs.size:=(x a o e).lt
theorem HOk.fresh (x:HOk P w H h) (e:h.objs.size ≤ a):H a = none:=by
 cases q:H a with
 | none=>rfl
 | some u=>exact absurd (Nat.lt_of_lt_of_le (x.lt q) e) (Nat.lt_irrefl _)
theorem HOk.kept (x:HOk P w H h) (k:∀ b u,h.get? b = some u → h'.get? b = some u):HOk P w H h':=fun a o e =>
 (x a o e).stay (fun b u _ q=>k b u q) (fun _ q=>q) fun _ _ q=>q
theorem HOk.laid (x:HOk P w H h) (k:∀ b u,h.get? b = some u → h'.get? b = some u) (hp:h.objs.size ≤ a) (new:x6 P w (upd H a o) h' a o):HOk P w (upd H a o) h':=fun b u e=>by
 have hn:=x.fresh hp
 by_cases hb:b = a
 ·subst hb; rw [d6] at e; cases e; exact new
 ·rw [n5 hb] at e
  exact (x b u e).stay (fun c v _ q=>k c v q) (fun c q=>by rw [n5 (q9 q hn)]; exact q) fun c xs q=>by rw [n5 (q9 q hn)]; exact q
end
def Rd (H:Hp) (a:Addr) (u:HO):Prop:=H a = some u ∨ ∃ o,H a = some (.frz o u)
theorem Rd.ok {P:Program} {w:World} {H:Hp} {h:Heap} {a:Addr} {u:HO} (r:Rd H a u) (x:HOk P w H h):x6 P w H h a u:=by
 rcases r with r | ⟨o,r⟩
 ·exact x a u r
 ·obtain ⟨_,q⟩:=x a _ r
  exact q
def Mut:Option HO → Prop
 | some (.lst _)=>True
 | some (.dK _)=>True
 | some (.dT _)=>True
 | some (.set _ _)=>True
 | some (.ins _ _ _)=>True
 | some (.ext _)=>True
 | _=>False
section
variable {P:Program} {w:World} {H:Hp} {h h':Heap} {x e:Addr} {o':HO}
theorem HOk.write (ok:HOk P w H h) (mu:Mut (H x)) (he:e = x ∨ H e = some (.own x)) (k:∀ b u,b ≠ e → h.get? b = some u → h'.get? b = some u) (heo:∃ u,h'.get? e = some u)
  (new:x6 P w (upd H x o') h' x o'):HOk P w (upd H x o') h':=fun b u q=>by
 have nown:∀ c y,H c = some (.own y) → c ≠ x:=fun c y r z=>by subst z; rw [r] at mu; exact mu
 have ntup:∀ c xs,H c = some (.tup xs) → c ≠ x:=fun c xs r z=>by subst z; rw [r] at mu; exact mu
 by_cases hb:b = x
 ·subst hb; rw [d6] at q; cases q; exact new
 ·rw [n5 hb] at q
  by_cases hbe:b = e
  ·have q':H b = some (.own x):=by
    rcases he with z | z
    ·exact absurd (hbe.trans z) hb
    ·rw [hbe]; exact z
   rw [q] at q'; cases q'
   obtain ⟨v,hv⟩:=heo
   exact ⟨v,by rw [hbe]; exact hv⟩
  ·refine (ok b u q).stay (fun c v hc r=>k c v ?_ r) (fun c r=>by rw [n5 (nown c b r)]; exact r) fun c xs r=>by rw [n5 (ntup c xs r)]; exact r
   rcases hc with rfl | hc
   ·exact hbe
   ·rintro rfl
    rcases he with z | z
    ·exact nown c b hc z
    ·rw [hc] at z; cases z; exact hb rfl
end
structure Un (fs ex:List Addr) (H H':Hp) (h h':Heap):Prop where
 keep:∀ b o,h.get? b = some o → H b = none → b ∉ fs → b ∉ ex → h'.get? b = some o
 slot:∀ b o,h.get? b = some o → H b = none → b ∈ fs → b ∉ ex → ∃ sl,h'.get? b = some { o with slots:=sl }
 free:∀ b o,h.get? b = some o → H b = none → b ∉ ex → H' b = none
 there:∀ b o,h.get? b = some o → b ∉ ex → ∃ o',h'.get? b = some o'
 tups:∀ b xs,H b = some (.tup xs) → H' b = some (.tup xs)
 frzs:∀ b o u,H b = some (.frz o u) → H' b = some (.frz o u)
 tbls:∀ b ps,H b = some (.tbl ps) → ∃ more,H' b = some (.tbl (ps ++ more))
section
variable {fs fs' ex ex':List Addr} {H H1 H2:Hp} {h h1 h2 h':Heap} {a x e:Addr} {o:HO}
theorem Un.any (u:Un fs ex H H1 h h1) {b:Addr} {ob:Obj} (q:h.get? b = some ob) (n:H b = none) (hx:b ∉ ex):∃ sl,h1.get? b = some { ob with slots:=sl }:=by
 by_cases hb:b ∈ fs
 ·exact u.slot b ob q n hb hx
 ·exact ⟨ob.slots,u.keep b ob q n hb hx⟩
theorem Un.kept (k:∀ b u,h.get? b = some u → h'.get? b = some u):Un fs ex H H h h' :=
 ⟨fun b ob q _ _ _=>k b ob q,fun b ob q _ _ _=>⟨ob.slots,k b ob q⟩,fun _ _ _ n _=>n,fun b ob q _=>⟨ob,k b ob q⟩,fun _ _ q=>q,fun _ _ _ q=>q,fun _ ps q=>⟨#[],by rw [q]; simp⟩⟩
theorem Un.refl:Un fs ex H H h h:=Un.kept fun _ _ q=>q
theorem Un.laid (k:∀ b u,h.get? b = some u → h'.get? b = some u) (hp:h.objs.size ≤ a) (hn:H a = none):Un fs ex H (upd H a o) h h' where
 keep:=fun b u q _ _ _=>k b u q
 slot:=fun b u q _ _ _=>⟨u.slots,k b u q⟩
 free:=fun b u q n _=>by rw [n5 (Nat.ne_of_lt (Nat.lt_of_lt_of_le (Heap.lt_size q) hp))]; exact n
 there:=fun b u q _=>⟨u,k b u q⟩
 tups:=fun b xs q=>by rw [n5 (q9 q hn)]; exact q
 frzs:=fun b u xs q=>by rw [n5 (q9 q hn)]; exact q
 tbls:=fun b ps q=>⟨#[],by rw [n5 (q9 q hn),q]; simp⟩
theorem Un.write (mu:Mut (H x)) (he:e = x ∨ H e = some (.own x)) (k:∀ b u,b ≠ e → h.get? b = some u → h'.get? b = some u) (heo:∃ u,h'.get? e = some u):Un fs ex H (upd H x o) h h':=by
 have hx:∀ b,H b = none → b ≠ x:=fun b n z=>by subst z; rw [n] at mu; exact mu
 have hb:∀ b,H b = none → b ≠ e:=fun b n z=>by
  subst z
  rcases he with r | r
  ·exact hx b n r
  ·rw [n] at r; cases r
 have hm:∀ b u,H b = some u → ¬ Mut (some u) → b ≠ x:=fun b u q nm z=>by subst z; rw [q] at mu; exact nm mu
 refine ⟨fun b u q n _ _=>k b u (hb b n) q,fun b u q n _ _=>⟨u.slots,k b u (hb b n) q⟩,fun b u q n _=>by rw [n5 (hx b n)]; exact n,fun b u q _=>?_,
  fun b xs q=>by rw [n5 (hm b _ q fun z=>z)]; exact q,fun b u xs q=>by rw [n5 (hm b _ q fun z=>z)]; exact q,fun b ps q=>⟨#[],by rw [n5 (hm b _ q fun z=>z),q]; simp⟩⟩
 by_cases hbe:b = e
 ·subst hbe; exact heo
 ·exact ⟨u,k b u hbe q⟩
end
def trk (h:Heap) (H:Hp):List Addr:=(List.range h.objs.size).filter fun a=>(H a).isSome
def as9 (h:Heap) (H:Hp):Heap:=PySem.W.hideAll h (trk h H)
theorem aU1 (h:Heap) (H:Hp):(as9 h H).objs.size = h.objs.size:=PySem.W.hideAll_size _ _
theorem a63 {h:Heap} {H:Hp} {b:Addr} {o:Obj} (e:h.get? b = some o) (n:H b = none):(as9 h H).get? b = some o :=
 PySem.W.hideAll_get _ e fun hm=>by
  have q:(H b).isSome = true:=(List.mem_filter.mp hm).2
  rw [n] at q; simp at q
theorem bc8 {h:Heap} {H:Hp} {b:Addr} {o:Obj} (e:(as9 h H).get? b = some o):h.get? b = some o ∧ H b = none:=by
 have e':h.get? b = some o:=PySem.W.of_hideAll (trk h H) e
 refine ⟨e',?_⟩
 cases q:H b with
 | none=>rfl
 | some x =>
  have hm:b ∈ trk h H:=List.mem_filter.mpr ⟨List.mem_range.mpr (Heap.lt_size e'),by simp [q]⟩
  have z:(as9 h H).get? b = none:=PySem.W.hideAll_none (trk h H) hm
  rw [z] at e; cases e
end L2
namespace L2
open PySem PySem.Spec PyProof.Rows
structure Mod (K:PySem.W.Frag) (mg:Str → Option Value) (base:Heap):Prop where
 kin:K.In base
 glob:base.Ns mainGlobals mg
 blt:∃ mb,base.Ns builtinsNs mb ∧ ∀ x:Str,x ≠ "__name__" → mb x = bootBuiltins x
 nolimit:base.NoLimit
structure Cx where
 prog:Program
 w:World
 K:PySem.W.Frag
 mg:Str → Option Value
 base:Heap
 A:Around
 N:List Str
 s₀:Shared
 H₀:Hp
 env:Env
 outer:List Env
 stack:List Env
 ex:List Addr
 fn:Str → Bool
 calm:Bool
 pn:List (Addr × Obj)
 xe:Value → Shared → Prop
def frs (l:List Env):List Addr:=l.filterMap (·.frame)
abbrev Cx.fs (X:Cx):List Addr:=frs X.outer
def Vis (sc:Scope) (x:Str):Prop:=sc.names.lookup x = some .local ∨ sc.names.lookup x = some .cell ∨ sc.names.lookup x = some .free
def Loc (sc:Scope) (x:Str):Prop:=sc.names.lookup x = some .local ∨ sc.names.lookup x = some .cell
def bp1 (env:Env) (h:Heap) (m:Str → Option Value) (x:Str) (u:Value):Prop :=
 (env.kindOf x = some .local ∧ m x = some u) ∨ ((env.kindOf x = some .cell ∨ env.kindOf x = some .free) ∧ ∃ c,env.cells.lookup x = some c ∧ h.IsCell c (some u))
structure Cx.Ok (X:Cx):Prop where
 mod:Mod X.K X.mg X.base
 kind:X.env.scope.kind = .function
 glob:X.env.globals = mainGlobals
 blt:X.env.builtins = builtinsNs
 above:X.s₀.heap.objs.size ≤ X.env.locals
 inj:∀ x y c,X.env.cells.lookup x = some c → X.env.cells.lookup y = some c → x = y
 has:∀ x,(X.env.kindOf x = some .cell ∨ X.env.kindOf x = some .free) → ∃ c,X.env.cells.lookup x = some c
 cab:∀ x c,X.fn x = true → X.env.cells.lookup x = some c → X.s₀.heap.objs.size ≤ c
 hd:X.calm = true → X.A.handled = none
 frames:X.A.frames = some X.stack
 stk:X.stack = X.outer ∨ (X.stack = X.env :: X.outer ∧ X.env.frame = some X.env.locals)
 exf:∀ b ∈ X.ex,b ≠ X.env.locals ∧ ∀ x c,X.env.cells.lookup x = some c → c ≠ b
 bs:∀ b o,X.base.get? b = some o → X.s₀.heap.get? b = some o ∧ X.H₀ b = none
 bsz:X.base.objs.size ≤ X.s₀.heap.objs.size
 noex:∀ b o,X.base.get? b = some o → b ∉ X.ex
 exfs:∀ b ∈ X.ex,b ∉ X.fs
 funs:X.s₀.heap.FunFrames X.base X.outer
 frf:∀ b ∈ X.fs,X.H₀ b = none
structure Inv (X:Cx) (pins:List (Addr × Obj)) (σ:List (Option V)) (H:Hp) (s:Shared):Prop where
 ok:X.Ok
 os:s.os = X.s₀.os
 bare:AllBare s.gens
 base:Un X.fs X.ex X.H₀ H X.s₀.heap s.heap
 loc:∃ m,s.heap.Ns X.env.locals m ∧ ∀ (i:Nat) (x:Str) (v:V),X.N[i]? = some x → σ[i]? = some (some v) → Vis X.env.scope x → ∃ u,t6 v u ∧ bp1 X.env s.heap m x u
 cell:∀ x c,X.env.cells.lookup x = some c → ∃ v,s.heap.IsCell c v
 free:H X.env.locals = none
 freeC:∀ x c,X.env.cells.lookup x = some c → H c = none
 pin:∀ p ∈ X.pn ++ pins,s.heap.get? p.1 = some p.2 ∧ H p.1 = none ∧ p.1 ≠ X.env.locals ∧ p.1 ∉ X.fs ∧ ∀ v,p.2.data ≠ .cell v
 hok:HOk X.prog X.w H s.heap
 len:σ.length = X.N.length
section
variable {X:Cx} {pins:List (Addr × Obj)} {σ:List (Option V)} {H H':Hp} {s:Shared} {h':Heap}
theorem Cx.Ok.nofr (ok:X.Ok) {b:Addr} {o:Obj} (e:X.base.get? b = some o):b ∉ X.fs:=fun hb=>by
 have:=(ok.funs.mem hb).1
 rw [e] at this; cases this
theorem Inv.bs (I:Inv X pins σ H s):∀ b o,X.base.get? b = some o → s.heap.get? b = some o ∧ H b = none:=fun b o e =>
 ⟨I.base.keep b o (I.ok.bs b o e).1 (I.ok.bs b o e).2 (I.ok.nofr e) (I.ok.noex b o e),I.base.free b o (I.ok.bs b o e).1 (I.ok.bs b o e).2 (I.ok.noex b o e)⟩
theorem Inv.bk (I:Inv X pins σ H s):∀ b o,X.base.get? b = some o → s.heap.get? b = some o:=fun b o e=>(I.bs b o e).1
theorem Inv.mod (I:Inv X pins σ H s):Mod X.K X.mg X.base:=I.ok.mod
theorem Inv.kIn (I:Inv X pins σ H s):X.K.In s.heap:=I.ok.mod.kin.keeps I.bk
theorem Inv.lt (I:Inv X pins σ H s):X.env.locals < s.heap.objs.size:=let ⟨_,hn,_⟩:=I.loc; hn.lt
theorem Inv.sz (I:Inv X pins σ H s):X.s₀.heap.objs.size ≤ s.heap.objs.size:=Nat.le_trans I.ok.above (Nat.le_of_lt I.lt)
theorem Inv.nofs (I:Inv X pins σ H s) {a:Addr} (h:s.heap.objs.size ≤ a):a ∉ X.fs:=fun hb=>by
 obtain ⟨_,o,ho,_⟩:=I.ok.funs.mem hb
 exact absurd (Nat.lt_of_lt_of_le (Heap.lt_size ho) (Nat.le_trans I.sz h)) (Nat.lt_irrefl _)
theorem Inv.cne (I:Inv X pins σ H s):∀ x c,X.env.cells.lookup x = some c → c ≠ X.env.locals:=fun x c e z=>by
 obtain ⟨v,o,ho,hd⟩:=I.cell x c e
 obtain ⟨m,⟨o',es,ep,ho',hd',_⟩,_⟩:=I.loc
 rw [z,ho'] at ho; cases ho; rw [hd'] at hd; cases hd
theorem Inv.funs (I:Inv X pins σ H s):s.heap.FunFrames X.base X.outer:=by
 have all:∀ (l:List Env),(∀ b ∈ frs l,b ∈ X.fs) → X.s₀.heap.FunFrames X.base l → s.heap.FunFrames X.base l:=by
  intro l
  induction l with
  | nil=>intro _ _; trivial
  | cons env r ih =>
   intro hs hl
   obtain ⟨hk,⟨L,o,hf,hn,ho,hd⟩,hr⟩:=hl
   have hL:L ∈ X.fs:=hs L (by unfold frs; rw [List.filterMap_cons,hf]; exact List.mem_cons_self)
   obtain ⟨sl,e⟩:=I.base.slot L o ho (I.ok.frf L hL) hL fun z=>I.ok.exfs L z hL
   exact ⟨hk,⟨L,_,hf,hn,e,hd⟩,ih (fun b hb=>hs b (by unfold frs; rw [List.filterMap_cons,hf]; exact List.mem_cons_of_mem _ hb)) hr⟩
 exact all X.outer (fun _ hb=>hb) I.ok.funs
theorem Inv.stack (I:Inv X pins σ H s):s.heap.FunFrames X.base X.stack:=by
 rcases I.ok.stk with e | ⟨e,hf⟩
 ·rw [e]; exact I.funs
 ·rw [e]
  obtain ⟨m,hn,_⟩:=I.loc
  refine .cons (by rw [I.ok.kind]; decide) hf hn ?_ I.funs
  exact Heap.get?_none_of_le (Nat.le_trans I.ok.bsz I.ok.above)
theorem Inv.stkSub (I:Inv X pins σ H s):∀ b ∈ frs X.stack,b ∈ X.env.locals :: X.fs:=fun b hb=>by
 rcases I.ok.stk with e | ⟨e,hf⟩
 ·rw [e] at hb; exact List.mem_cons_of_mem _ hb
 ·rw [e] at hb
  unfold frs at hb
  rw [List.filterMap_cons,hf] at hb
  exact hb
theorem Inv.stkFree (I:Inv X pins σ H s):∀ b ∈ frs X.stack,H b = none:=fun b hb=>by
 rcases List.mem_cons.mp (I.stkSub b hb) with e | hb
 ·rw [e]; exact I.free
 ·obtain ⟨_,o,ho,_⟩:=I.ok.funs.mem hb
  exact I.base.free b o ho (I.ok.frf b hb) fun z=>I.ok.exfs b z hb
theorem Inv.step {g':Array GenState} {t':Nat} {d':Drawn} {ch:List Addr} (I:Inv X pins σ H s)
  (hch:∀ b ∈ ch,(b ∈ X.ex ∨ X.s₀.heap.objs.size ≤ b) ∧ b ≠ X.env.locals ∧ (∀ x c,X.env.cells.lookup x = some c → c ≠ b) ∧ ∀ p ∈ X.pn ++ pins,p.1 ≠ b)
  (keep:∀ b o,b ≠ X.env.locals → b ∉ X.fs → b ∉ ch → s.heap.get? b = some o → H b = none → h'.get? b = some o)
  (slot:∀ b o,b ≠ X.env.locals → b ∈ X.fs → b ∉ ch → s.heap.get? b = some o → H b = none → ∃ sl,h'.get? b = some { o with slots:=sl }) (free:∀ b o,b ∉ ch → s.heap.get? b = some o → H b = none → H' b = none)
  (there:∀ b o,b ∉ ch → s.heap.get? b = some o → ∃ o',h'.get? b = some o')
  (tups:∀ b xs,H b = some (.tup xs) → H' b = some (.tup xs)) (frzs:∀ b o u,H b = some (.frz o u) → H' b = some (.frz o u)) (tbls:∀ b ps,H b = some (.tbl ps) → ∃ more,H' b = some (.tbl (ps ++ more)))
  (ns:∀ m,s.heap.Ns X.env.locals m → h'.Ns X.env.locals m) (hok:HOk X.prog X.w H' h') (hg:AllBare g') :
  Inv X pins σ H' { s with heap:=h',gens:=g',drawn:=d',toks:=t' }:=by
 have neL:∀ b o,X.s₀.heap.get? b = some o → b ≠ X.env.locals:=fun b o e=>Nat.ne_of_lt (Nat.lt_of_lt_of_le (Heap.lt_size e) I.ok.above)
 have neC:∀ b o,X.s₀.heap.get? b = some o → b ∉ X.ex → b ∉ ch:=fun b o e hx hb=>by
  rcases (hch b hb).1 with z | z
  ·exact hx z
  ·exact absurd (Nat.lt_of_lt_of_le (Heap.lt_size e) z) (Nat.lt_irrefl _)
 have cellK:∀ x c,X.env.cells.lookup x = some c → ∀ v,s.heap.IsCell c v → h'.IsCell c v:=fun x c e v ⟨o,ho,hd⟩=>by
  have nch:c ∉ ch:=fun z=>(hch c z).2.2.1 x c e rfl
  by_cases hc:c ∈ X.fs
  ·obtain ⟨sl,q⟩:=slot c o (I.cne x c e) hc nch ho (I.freeC x c e)
   exact ⟨_,q,hd⟩
  ·exact ⟨o,keep c o (I.cne x c e) hc nch ho (I.freeC x c e),hd⟩
 refine ⟨I.ok,I.os,hg,⟨fun b o e n hb hx=>?_,fun b o e n hb hx=>?_,fun b o e n hx=>?_,fun b o e hx=>?_,fun b xs e=>tups b xs (I.base.tups b xs e),fun b o xs e=>frzs b o xs (I.base.frzs b o xs e),fun b ps e=>?_⟩,?_,fun x c e=>?_,?_,fun x c e=>?_,fun p hp=>?_,hok,I.len⟩
 ·exact keep b o (neL b o e) hb (neC b o e hx) (I.base.keep b o e n hb hx) (I.base.free b o e n hx)
 ·obtain ⟨sl,e1⟩:=I.base.slot b o e n hb hx
  obtain ⟨sl',e2⟩:=slot b _ (neL b o e) hb (neC b o e hx) e1 (I.base.free b o e n hx)
  exact ⟨sl',e2⟩
 ·obtain ⟨o',e1⟩:=I.base.there b o e hx
  exact free b o' (neC b o e hx) e1 (I.base.free b o e n hx)
 ·obtain ⟨o',e1⟩:=I.base.there b o e hx
  exact there b o' (neC b o e hx) e1
 ·obtain ⟨m1,e1⟩:=I.base.tbls b ps e
  obtain ⟨m2,e2⟩:=tbls b _ e1
  exact ⟨m1 ++ m2,by rw [e2,Array.append_assoc]⟩
 ·obtain ⟨m,hn,hl⟩:=I.loc
  refine ⟨m,ns m hn,fun i x v e1 e2 e3=>?_⟩
  obtain ⟨u,r,l⟩:=hl i x v e1 e2 e3
  refine ⟨u,r,?_⟩
  rcases l with l | ⟨k,c,e,z⟩
  ·exact .inl l
  ·exact .inr ⟨k,c,e,cellK x c e _ z⟩
 ·obtain ⟨v,z⟩:=I.cell x c e
  exact ⟨v,cellK x c e v z⟩
 ·obtain ⟨m,⟨o,_,_,ho,_⟩,_⟩:=I.loc
  exact free _ o (fun z=>(hch _ z).2.1 rfl) ho I.free
 ·obtain ⟨v,o,ho,hd⟩:=I.cell x c e
  exact free c o (fun z=>(hch c z).2.2.1 x c e rfl) ho (I.freeC x c e)
 ·obtain ⟨e,n,ne,nf,d⟩:=I.pin p hp
  have nch:p.1 ∉ ch:=fun z=>(hch p.1 z).2.2.2 p hp rfl
  exact ⟨keep p.1 p.2 ne nf nch e n,free p.1 p.2 nch e n,ne,nf,d⟩
theorem Inv.un {t':Nat} (I:Inv X pins σ H s) (u:Un X.fs [] H H' s.heap h') (hok:HOk X.prog X.w H' h'):Inv X pins σ H' { s with heap:=h',toks:=t' }:=by
 obtain ⟨m,⟨o,es,ep,ho,r⟩,_⟩:=id I.loc
 obtain ⟨sl,hL⟩:=u.any ho I.free (by simp)
 exact I.step (g':=s.gens) (d':=s.drawn) (ch:=[]) (fun _ z=>nomatch z) (fun b o _ hb _ e n=>u.keep b o e n hb (by simp)) (fun b o _ hb _ e n=>u.slot b o e n hb (by simp)) (fun b o _ e n=>u.free b o e n (by simp)) (fun b o _ e=>u.there b o e (by simp)) u.tups u.frzs u.tbls (fun m' hm=>by
  obtain ⟨o',es',ep',ho',r'⟩:=hm
  rw [ho] at ho'; cases ho'
  exact ⟨_,es',ep',hL,r'⟩) hok I.bare
theorem Inv.call {g':Array GenState} {t':Nat} {d':Drawn} {ch:List Addr} (I:Inv X pins σ H s) (u:Un (frs X.stack) ch H H' s.heap h') (hok:HOk X.prog X.w H' h') (hg:AllBare g')
  (hch:∀ b ∈ ch,(b ∈ X.ex ∨ X.s₀.heap.objs.size ≤ b) ∧ b ≠ X.env.locals ∧ (∀ x c,X.env.cells.lookup x = some c → c ≠ b) ∧ ∀ p ∈ X.pn ++ pins,p.1 ≠ b) :
  Inv X pins σ H' { s with heap:=h',gens:=g',drawn:=d',toks:=t' }:=by
 obtain ⟨m,⟨o,es,ep,ho,r⟩,_⟩:=id I.loc
 obtain ⟨sl,hL⟩:=u.any ho I.free fun z=>(hch _ z).2.1 rfl
 exact I.step (ch:=ch) hch (fun b o hL hb hc e n=>u.keep b o e n (fun z=>(List.mem_cons.mp (I.stkSub b z)).elim hL hb) hc) (fun b o _ _ hc e n=>u.any e n hc) (fun b o hc e n=>u.free b o e n hc) (fun b o hc e=>u.there b o e hc) u.tups u.frzs u.tbls (fun m' hm=>by
  obtain ⟨o',es',ep',ho',r'⟩:=hm
  rw [ho] at ho'; cases ho'
  exact ⟨_,es',ep',hL,r'⟩) hok hg
theorem Inv.turned {t':Nat} {it:Addr} (I:Inv X pins σ H s) (k:∀ b o,b ≠ it → s.heap.get? b = some o → h'.get? b = some o) (hn:H it = none) (hL:it ≠ X.env.locals)
  (h1:it ∈ X.ex ∨ X.s₀.heap.objs.size ≤ it) (h2:∀ x c,X.env.cells.lookup x = some c → c ≠ it) (h3:∀ p ∈ X.pn ++ pins,p.1 ≠ it):Inv X pins σ H { s with heap:=h',toks:=t' }:=by
 have nit:∀ b u,H b = some u → b ≠ it:=fun b u e z=>by rw [z,hn] at e; cases e
 refine I.step (g':=s.gens) (d':=s.drawn) (ch:=[it]) (fun b hb=>?_) (fun b o _ _ hc e _=>k b o (fun z=>hc (by simp [z])) e) (fun b o _ _ hc e _=>⟨o.slots,k b o (fun z=>hc (by simp [z])) e⟩) (fun _ _ _ _ n=>n)
  (fun b o hc e=>⟨o,k b o (fun z=>hc (by simp [z])) e⟩) (fun _ _ e=>e) (fun _ _ _ e=>e) (fun b ps e=>⟨#[],by rw [e]; simp⟩) (fun m hm=>?_) (fun b u e=>?_) I.bare
 ·have e:b = it:=by simpa using hb
  subst e
  exact ⟨h1,hL,h2,h3⟩
 ·obtain ⟨o,es,ep,ho,r⟩:=hm
  exact ⟨o,es,ep,k _ o (Ne.symm hL) ho,r⟩
 ·refine (I.hok b u e).stay (fun c v hc q=>k c v ?_ q) (fun _ q=>q) fun _ _ q=>q
  rcases hc with z | z
  ·rw [z]; exact nit b u e
  ·exact nit c _ z
theorem Inv.tok (I:Inv X pins σ H s) (t:Nat):Inv X pins σ H { s with toks:=t }:=I.un (h':=s.heap) (t':=t) Un.refl I.hok
theorem Inv.kept {t':Nat} (I:Inv X pins σ H s) (k:∀ b u,s.heap.get? b = some u → h'.get? b = some u):Inv X pins σ H { s with heap:=h',toks:=t' }:=I.un (Un.kept k) (I.hok.kept k)
theorem Inv.laid {a:Addr} {o:HO} {t':Nat} (I:Inv X pins σ H s) (k:∀ b u,s.heap.get? b = some u → h'.get? b = some u) (hp:s.heap.objs.size ≤ a) (new:x6 X.prog X.w (upd H a o) h' a o) :
  Inv X pins σ (upd H a o) { s with heap:=h',toks:=t' }:=I.un (Un.laid k hp (I.hok.fresh hp)) (I.hok.laid k hp new)
theorem Inv.write {x e:Addr} {o:HO} {t':Nat} (I:Inv X pins σ H s) (mu:Mut (H x)) (he:e = x ∨ H e = some (.own x)) (k:∀ b u,b ≠ e → s.heap.get? b = some u → h'.get? b = some u) (heo:∃ u,h'.get? e = some u)
  (new:x6 X.prog X.w (upd H x o) h' x o):Inv X pins σ (upd H x o) { s with heap:=h',toks:=t' }:=I.un (Un.write mu he k heo) (I.hok.write mu he k heo new)
theorem Inv.pins_of {pins':List (Addr × Obj)} (I:Inv X pins σ H s) (h:∀ p ∈ pins',s.heap.get? p.1 = some p.2 ∧ H p.1 = none ∧ p.1 ≠ X.env.locals ∧ p.1 ∉ X.fs ∧ ∀ v,p.2.data ≠ .cell v):Inv X pins' σ H s :=
 ⟨I.ok,I.os,I.bare,I.base,I.loc,I.cell,I.free,I.freeC,fun p hp=>(List.mem_append.mp hp).elim (fun z=>I.pin p (List.mem_append_left _ z)) (h p),I.hok,I.len⟩
theorem aB6 {N:List Str} (hN:N.Nodup) {i j:Nat} {x:Str} (a:N[i]? = some x) (b:N[j]? = some x):i = j:=by
 obtain ⟨h1,e1⟩:=List.getElem?_eq_some_iff.mp a
 obtain ⟨h2,e2⟩:=List.getElem?_eq_some_iff.mp b
 exact (List.getElem_inj hN).mp (e1.trans e2.symm)
theorem ap4 {M:Model} {A:Around} {E:Value → Shared → Prop} {i:Nat} {x:Str} {v:V} {u:Value} {Q:Unit → Shared → Prop} (I:Inv X pins σ H s) (hN:X.N.Nodup) (hi:X.N[i]? = some x) (hx:Loc X.env.scope x) (r:t6 v u)
  (h:∀ s',Inv X pins (σ.set i (some v)) H s' → (∃ a,Heap.SameBut a s.heap s'.heap ∧ (a = X.env.locals ∨ X.env.cells.lookup x = some a)) → Q () s') (hf:X.fn x = true ∨ X.env.scope.names.lookup x = some .local:=by first | exact .inl rfl | exact .inr rfl | assumption):wpAny M A (storeName X.env x u) Q E s:=by
 obtain ⟨m,hn,hl⟩:=id I.loc
 have hcls:(X.env.scope.kind == .class || (X.env.scope.kind == .module && X.env.locals != X.env.globals)) = false:=by rw [I.ok.kind]; rfl
 have hiσ:i < σ.length:=by rw [I.len]; exact (List.getElem?_eq_some_iff.mp hi).1
 have cne:=I.cne
 have tracked:∀ {a:Addr} {h':Heap},(∃ o,s.heap.get? a = some o ∧ H a = none) → Heap.SameBut a s.heap h' → HOk X.prog X.w H h':=fun {a h'} ha hs b ob e=>by
  obtain ⟨_,_,hfree⟩:=ha
  refine (I.hok b ob e).stay (fun c w' hc q=>(hs.2 c ?_).trans q) (fun _ q=>q) fun _ _ q=>q
  rintro rfl
  rcases hc with rfl | hc
  ·rw [hfree] at e; cases e
  ·rw [hfree] at hc; cases hc
 rcases hx with hk | hk
 ·refine wpAny_storeName_local hk hn (fun h' hn' hs=>?_) hcls
  obtain ⟨oL,_,_,hoL,_⟩:=id hn
  refine h _ ⟨I.ok,I.os,I.bare,⟨fun b o e n hb hx=>?_,fun b o e n hb hx=>?_,I.base.free,fun b o e hx=>?_,I.base.tups,I.base.frzs,I.base.tbls⟩,⟨_,hn',fun j y v' e1 e2 e3=>?_⟩,fun y c e=>?_,I.free,I.freeC,fun p hp=>?_,tracked ⟨oL,hoL,I.free⟩ hs,by simpa using I.len⟩ ⟨_,hs,.inl rfl⟩
  ·exact (hs.2 b (Nat.ne_of_lt (Nat.lt_of_lt_of_le (Heap.lt_size e) I.ok.above))).trans (I.base.keep b o e n hb hx)
  ·obtain ⟨sl,e1⟩:=I.base.slot b o e n hb hx
   exact ⟨sl,(hs.2 b (Nat.ne_of_lt (Nat.lt_of_lt_of_le (Heap.lt_size e) I.ok.above))).trans e1⟩
  ·obtain ⟨o',e1⟩:=I.base.there b o e hx
   exact ⟨o',(hs.2 b (Nat.ne_of_lt (Nat.lt_of_lt_of_le (Heap.lt_size e) I.ok.above))).trans e1⟩
  ·by_cases hj:j = i
   ·subst hj
    rw [hi] at e1; cases e1
    rw [List.getElem?_set_self hiσ] at e2
    cases e2
    exact ⟨u,r,.inl ⟨hk,by simp⟩⟩
   ·rw [List.getElem?_set_ne (Ne.symm hj)] at e2
    obtain ⟨u',r',q⟩:=hl j y v' e1 e2 e3
    refine ⟨u',r',?_⟩
    rcases q with ⟨k,e⟩ | ⟨k,c,e,z⟩
    ·refine .inl ⟨k,?_⟩
     have:y ≠ x:=fun e=>hj (aB6 hN e1 (e ▸ hi))
     simp [this,e]
    ·exact .inr ⟨k,c,e,z.sameBut hs (cne y c e)⟩
  ·obtain ⟨w',z⟩:=I.cell y c e
   exact ⟨w',z.sameBut hs (cne y c e)⟩
  ·obtain ⟨e,n,ne,nf,d⟩:=I.pin p hp
   exact ⟨(hs.2 p.1 ne).trans e,n,ne,nf,d⟩
 ·have hfn:X.fn x = true:=by
   rcases hf with z | z
   ·exact z
   ·rw [z] at hk; cases hk
  obtain ⟨c,hc⟩:=I.ok.has x (.inl hk)
  obtain ⟨w',z⟩:=I.cell x c hc
  refine wpAny_storeName_cell I.ok.kind hk hc z (fun h' hc' hs=>?_)
  obtain ⟨oc,hoc,hocd⟩:=id z
  refine h { s with heap:=h' } ⟨I.ok,I.os,I.bare,⟨fun b o e n hb hx=>?_,fun b o e n hb hx=>?_,I.base.free,fun b o e hx=>?_,I.base.tups,I.base.frzs,I.base.tbls⟩,⟨m,hn.sameBut hs (Ne.symm (cne x c hc)),fun j y v' e1 e2 e3=>?_⟩,fun y c' e=>?_,I.free,I.freeC,fun p hp=>?_,tracked ⟨oc,hoc,I.freeC x c hc⟩ hs,by simpa using I.len⟩ ⟨c,hs,.inr hc⟩
  ·exact (hs.2 b (Nat.ne_of_lt (Nat.lt_of_lt_of_le (Heap.lt_size e) (I.ok.cab x c hfn hc)))).trans (I.base.keep b o e n hb hx)
  ·obtain ⟨sl,e1⟩:=I.base.slot b o e n hb hx
   exact ⟨sl,(hs.2 b (Nat.ne_of_lt (Nat.lt_of_lt_of_le (Heap.lt_size e) (I.ok.cab x c hfn hc)))).trans e1⟩
  ·obtain ⟨o',e1⟩:=I.base.there b o e hx
   exact ⟨o',(hs.2 b (Nat.ne_of_lt (Nat.lt_of_lt_of_le (Heap.lt_size e) (I.ok.cab x c hfn hc)))).trans e1⟩
  ·by_cases hj:j = i
   ·subst hj
    rw [hi] at e1; cases e1
    rw [List.getElem?_set_self hiσ] at e2
    cases e2
    exact ⟨u,r,.inr ⟨.inl hk,c,hc,hc'⟩⟩
   ·rw [List.getElem?_set_ne (Ne.symm hj)] at e2
    obtain ⟨u',r',q⟩:=hl j y v' e1 e2 e3
    refine ⟨u',r',?_⟩
    rcases q with q | ⟨k,c',e,z'⟩
    ·exact .inl q
    ·refine .inr ⟨k,c',e,z'.sameBut hs ?_⟩
     rintro rfl
     exact hj (aB6 hN e1 (I.ok.inj _ _ _ e hc ▸ hi))
  ·by_cases hcc:c' = c
   ·subst hcc; exact ⟨_,hc'⟩
   ·obtain ⟨w2,z2⟩:=I.cell y c' e
    exact ⟨w2,z2.sameBut hs hcc⟩
  ·obtain ⟨e,n,ne,nf,d⟩:=I.pin p hp
   refine ⟨(hs.2 p.1 ?_).trans e,n,ne,nf,d⟩
   intro q
   rw [q,hoc] at e
   have q':oc = p.2:=Option.some.inj e
   exact d w' (by rw [← q']; exact hocd)
theorem ay1 {M:Model} {A:Around} {E:Value → Shared → Prop} {i:Nat} {x:Str} {v:V} {u:Value} {Q:Unit → Shared → Prop} (I:Inv X pins σ H s) (hN:X.N.Nodup) (hi:X.N[i]? = some x) (hx:Loc X.env.scope x) (r:t6 v u)
  (h:∀ s',Inv X pins (σ.set i (some v)) H s' → Q () s') (hf:X.fn x = true ∨ X.env.scope.names.lookup x = some .local:=by first | exact .inl rfl | exact .inr rfl | assumption):wpAny M A (storeName X.env x u) Q E s :=
 ap4 I hN hi hx r (fun s' I' _=>h s' I') hf
theorem Inv.call' {s':Shared} {ch:List Addr} (I:Inv X pins σ H s) (ho:s'.os = s.os) (u:Un (frs X.stack) ch H H' s.heap s'.heap) (hok:HOk X.prog X.w H' s'.heap) (hg:AllBare s'.gens)
  (hch:∀ b ∈ ch,(b ∈ X.ex ∨ X.s₀.heap.objs.size ≤ b) ∧ b ≠ X.env.locals ∧ (∀ x c,X.env.cells.lookup x = some c → c ≠ b) ∧ ∀ p ∈ X.pn ++ pins,p.1 ≠ b):Inv X pins σ H' s':=by
 obtain ⟨h',g',d',t',o'⟩:=s'
 have e:o' = s.os:=ho
 subst e
 exact I.call (g':=g') (t':=t') (d':=d') u hok hg hch
end
abbrev XK:=Value → Option Addr → Hp → Prop
abbrev St:=List (Option V)
abbrev VK:=V → Hp → Prop
abbrev TE:=St → Hp → VK → Prop
abbrev TT:=St → Hp → (Bool → Hp → Prop) → Prop
abbrev TA:=St → Hp → (List V → Hp → Prop) → Prop
structure Ends where
 nx:St → Hp → Prop
 rt:VK
 bk:St → Hp → Prop:=fun _ _=>False
 ct:St → Hp → Prop:=fun _ _=>False
abbrev TS:=Ends → St → Hp → Prop
def EP (X:Cx) (pins:List (Addr × Obj)) (σ:St) (Q:VK) (u:Value) (s':Shared):Prop:=∃ v H',Inv X pins σ H' s' ∧ t6 v u ∧ Q v H'
def TP (X:Cx) (pins:List (Addr × Obj)) (σ:St) (Q:Bool → Hp → Prop) (b:Bool) (s':Shared):Prop:=∃ H',Inv X pins σ H' s' ∧ Q b H'
def AP (X:Cx) (pins:List (Addr × Obj)) (σ:St) (Q:List V → Hp → Prop) (us:List Value) (s':Shared):Prop:=∃ vs H',Inv X pins σ H' s' ∧ r6 vs us ∧ Q vs H'
def SP (X:Cx) (pins:List (Addr × Obj)) (D:Ends) (f:Flow) (s':Shared):Prop :=
 match f with
 | .next=>∃ σ' H',Inv X pins σ' H' s' ∧ D.nx σ' H'
 | .brk=>∃ σ' H',Inv X pins σ' H' s' ∧ D.bk σ' H'
 | .cont=>∃ σ' H',Inv X pins σ' H' s' ∧ D.ct σ' H'
 | .ret u=>∃ v σ' H',Inv X pins σ' H' s' ∧ t6 v u ∧ D.rt v H'
def PE (X:Cx) (e:Expr) (t:TE):Prop :=
 ∀ (pins:List (Addr × Obj)) (s:Shared) (σ:St) (H:Hp) (Q:VK),Inv X pins σ H s → t σ H Q → wpAny (model X.prog X.w) X.A (eval e X.env) (EP X pins σ Q) X.xe s
def PT (X:Cx) (e:Expr) (t:TT):Prop :=
 ∀ (pins:List (Addr × Obj)) (s:Shared) (σ:St) (H:Hp) (Q:Bool → Hp → Prop),Inv X pins σ H s → t σ H Q → wpAny (model X.prog X.w) X.A (isTrue e X.env (eval e X.env)) (TP X pins σ Q) X.xe s
def PW (X:Cx) (e:Expr) (t:TT):Prop :=
 ∀ (whole:Sem Value) (pins:List (Addr × Obj)) (s:Shared) (σ:St) (H:Hp) (Q:Bool → Hp → Prop),Inv X pins σ H s → t σ H Q → wpAny (model X.prog X.w) X.A (isTrue e X.env whole) (TP X pins σ Q) X.xe s
theorem PW.pt {X:Cx} {e:Expr} {t:TT} (h:PW X e t):PT X e t:=h _
def PA (X:Cx) (es:List Expr) (t:TA):Prop :=
 ∀ (pos:Pos) (pins:List (Addr × Obj)) (s:Shared) (σ:St) (H:Hp) (Q:List V → Hp → Prop),Inv X pins σ H s → t σ H Q → wpAny (model X.prog X.w) X.A (spliced (backTo pos (starEach es X.env))) (AP X pins σ Q) X.xe s
def PS (X:Cx) (st:Stmt) (t:TS):Prop :=
 ∀ (pins:List (Addr × Obj)) (s:Shared) (σ:St) (H:Hp) (D:Ends),Inv X pins σ H s → t D σ H → wpAny (model X.prog X.w) X.A (exec st X.env) (SP X pins D) X.xe s
def PSs (X:Cx) (st:List Stmt) (t:TS):Prop :=
 ∀ (pins:List (Addr × Obj)) (s:Shared) (σ:St) (H:Hp) (D:Ends),Inv X pins σ H s → t D σ H → wpAny (model X.prog X.w) X.A (execs st X.env) (SP X pins D) X.xe s
theorem thn {α:Type} {t:Sem α} {Q Q':α → Shared → Prop} {M:Model} {A:Around} {E:Value → Shared → Prop} {s:Shared} (h:wpAny M A t Q E s) (hQ:∀ a s,Q a s → Q' a s):wpAny M A t Q' E s:=wpAny_mono h hQ fun _ _ x=>x
end L2
namespace L2
open PySem PySem.Spec PyProof.Rows
section
variable {X:Cx}
theorem bin {a b:Expr} {ta tb:TE} (ha:PE X a ta) (hb:PE X b tb) {pins:List (Addr × Obj)} {s:Shared} {σ:St} {H:Hp} {R:V → V → Hp → Prop} (I:Inv X pins σ H s) (h:ta σ H fun x H1=>tb σ H1 fun y H2=>R x y H2)
  {α:Type} {Q:α → Shared → Prop} {f:Value → Value → Sem α}
  (hf:∀ v u s2 x y H2,Inv X pins σ H2 s2 → t6 x v → t6 y u → R x y H2 → wpAny (model X.prog X.w) X.A (f v u) Q X.xe s2) :
  wpAny (model X.prog X.w) X.A (eval a X.env) (fun v s₁=>wpAny (model X.prog X.w) X.A (eval b X.env) (fun u s₂=>wpAny (model X.prog X.w) X.A (f v u) Q X.xe s₂) X.xe s₁) X.xe s:=by
 refine thn (ha pins s σ H _ I h) fun v s1 ⟨x,H1,I1,r1,q1⟩=>?_
 refine thn (hb pins s1 σ H1 _ I1 q1) fun u s2 ⟨y,H2,I2,r2,q2⟩=>?_
 exact hf v u s2 x y H2 I2 r1 r2 q2
def bj9 (i:Nat):TE:=fun σ H Q=>∃ v,σ[i]? = some (some v) ∧ Q v H
def tC (v:V):TE:=fun _ H Q=>Q v H
theorem bg8 {i:Nat} {x:Str} {pos:Pos} (hN:X.N[i]? = some x) (hv:Vis X.env.scope x) (hd:(x == ("__debug__":Str)) = false:=by decide) (hcd:(x == ("__classdict__":Str)) = false:=by decide):PE X (.Name x pos) (bj9 i):=by
 intro pins s σ H Q I h
 obtain ⟨v,e,h⟩:=h
 obtain ⟨m,hn,hl⟩:=I.loc
 obtain ⟨u,r,l⟩:=hl i x v hN e hv
 have fin:EP X pins σ Q u s:=⟨v,H,I,r,h⟩
 rcases l with ⟨hk,hm⟩ | ⟨hk,c,hc,hcell⟩
 ·exact wpAny_Name (wpAny_loadName_local I.ok.kind hk hn hm fin) hd
 ·rcases hk with hk | hk
  ·exact wpAny_Name (wpAny_loadName_cell I.ok.kind hk hc hcell fin) hd
  ·exact wpAny_Name (wpAny_loadName_free I.ok.kind hk hc hcell fin hcd) hd
theorem d7 {i j pos}:PE X (.Constant (.int i) j pos) (tC (.int i)):=fun _ _ _ H _ I h=>wpAny_Constant_int ⟨.int i,H,I.tok _,⟨_,rfl⟩,h⟩
theorem K9 {b j pos}:PE X (.Constant (.bool b) j pos) (tC (.bl b)):=fun _ _ _ H _ I h=>Constant_bool ⟨.bl b,H,I,rfl,h⟩
theorem y7 {j pos}:PE X (.Constant .none j pos) (tC .non):=fun _ _ _ H _ I h=>Constant_none ⟨.non,H,I,rfl,h⟩
theorem au6 {x j pos}:PE X (.Constant (.str x) j pos) (tC (.str x)):=fun _ _ _ H _ I h=>Calls.Constant_str ⟨.str x,H,I.tok _,⟨_,rfl⟩,h⟩
def Gl (X:Cx) (x:Str):Prop:=X.env.kindOf x = some .globalImplicit
theorem ba9 {E:Value → Shared → Prop} {pins:List (Addr × Obj)} {s:Shared} {σ:St} {H:Hp} {x:Str} {u:Value} {pos:Pos} {Q:Value → Shared → Prop} (I:Inv X pins σ H s) (hg:Gl X x) (hm:X.mg x = some u) (h:Q u s)
  (hd:(x == ("__debug__":Str)) = false:=by decide):wpAny (model X.prog X.w) X.A (eval (.Name x pos) X.env) Q E s :=
 Calls.Name_function_global I.ok.kind hg (Calls.loadGlobal_global (by rw [I.ok.glob]; exact I.mod.glob.keeps I.bk) hm h) hd
theorem aa3 {E:Value → Shared → Prop} {pins:List (Addr × Obj)} {s:Shared} {σ:St} {H:Hp} {x:Str} {u:Value} {pos:Pos} {Q:Value → Shared → Prop} (I:Inv X pins σ H s) (hg:Gl X x) (hm:X.mg x = none) (hv:bootBuiltins x = some u) (h:Q u s)
  (hn:x ≠ "__name__":=by decide) (hd:(x == ("__debug__":Str)) = false:=by decide):wpAny (model X.prog X.w) X.A (eval (.Name x pos) X.env) Q E s:=by
 obtain ⟨mb,h1,h2⟩:=I.mod.blt
 exact Calls.Name_function_global I.ok.kind hg (Calls.loadGlobal_builtin (by rw [I.ok.glob]; exact I.mod.glob.keeps I.bk) hm (by rw [I.ok.blt]; exact h1.keeps I.bk) ((h2 x hn).trans hv) h) hd
theorem B9 {x:Str} {v:V} {u:Value} {pos:Pos} (hg:Gl X x) (hm:X.mg x = none) (hv:bootBuiltins x = some u) (r:t6 v u) (hn:x ≠ "__name__":=by decide) (hd:(x == ("__debug__":Str)) = false:=by decide):PE X (.Name x pos) (tC v) :=
 fun _ _ _ H _ I h=>aa3 I hg hm hv ⟨v,H,I,r,h⟩ hn hd
variable {a b:Expr} {ta tb:TE} {pos:Pos}
def PC (X:Cx) (op:CmpOp) (a b:Expr) (t:TE):Prop :=
 ∀ (pins:List (Addr × Obj)) (s:Shared) (σ:St) (H:Hp) (Q:VK),Inv X pins σ H s → t σ H Q →
  wpAny (model X.prog X.w) X.A (eval a X.env) (fun v s₁=>wpAny (model X.prog X.w) X.A (eval b X.env) (fun u s₂=>wpAny (model X.prog X.w) X.A (compareOp op v u) (EP X pins σ Q) X.xe s₂) X.xe s₁) X.xe s
def tB (t:TE):TT:=fun σ H Q=>t σ H fun x H1=>∃ c,x = .bl c ∧ Q c H1
theorem aH9 {op:CmpOp} {t:TE} (h:PC X op a b t) (h1:behindInMarks op b = false:=by first | exact nobehind _ (by decide) (by decide) | rfl):PT X (.Compare a [op] [b] pos) (tB t):=by
 intro pins s σ H Q I hw
 refine wpAny_isTrue_Compare1 (thn (h pins s σ H _ I hw) fun v s1 h1=>thn h1 fun u s2 h2=>thn h2 fun c s3 ⟨x,H1,I1,r1,q1⟩=>?_) h1
 obtain ⟨d,rfl,q⟩:=q1
 cases r1
 exact wpAny_truthy_bool ⟨H1,I1,q⟩
variable {tA tB':TT} {rest:List Expr}
def bp4 (t u:TT):TT:=fun σ H Q=>t σ H fun c H1=>if c = true then u σ H1 Q else Q false H1
def tOr (t u:TT):TT:=fun σ H Q=>t σ H fun c H1=>if c = true then Q true H1 else u σ H1 Q
def bo5 (t:TT):TT:=fun σ H Q=>t σ H fun c H1=>Q (!c) H1
theorem ae0 (ha:PT X a tA):PW X (.BoolOp .And [a] pos) tA:=by
 intro wh pins s σ H Q I h
 refine isTrue_and (thn (ha pins s σ H Q I h) fun c s1 e=>?_)
 cases c with
 | true=>exact isTrue_and_nil e
 | false=>exact e
theorem N5 (ha:PT X a tA):PW X (.BoolOp .Or [a] pos) tA:=by
 intro wh pins s σ H Q I h
 refine isTrue_or (thn (ha pins s σ H Q I h) fun c s1 e=>?_)
 cases c with
 | false=>exact isTrue_or_nil e
 | true=>exact e
theorem ah3 (ha:PT X a tA) (hb:PW X (.BoolOp .And (b :: rest) pos) tB'):PW X (.BoolOp .And (a :: b :: rest) pos) (bp4 tA tB'):=by
 intro wh pins s σ H Q I h
 refine isTrue_and (thn (ha pins s σ H _ I h) fun c s1 ⟨H1,I1,q1⟩=>?_)
 cases c with
 | true=>exact hb wh pins s1 σ H1 Q I1 q1
 | false=>exact ⟨H1,I1,q1⟩
theorem N9 (ha:PT X a tA) (hb:PW X (.BoolOp .Or (b :: rest) pos) tB'):PW X (.BoolOp .Or (a :: b :: rest) pos) (tOr tA tB'):=by
 intro wh pins s σ H Q I h
 refine isTrue_or (thn (ha pins s σ H _ I h) fun c s1 ⟨H1,I1,q1⟩=>?_)
 cases c with
 | true=>exact ⟨H1,I1,q1⟩
 | false=>exact hb wh pins s1 σ H1 Q I1 q1
theorem C9 (ha:PT X a tA):PT X (.UnaryOp .Not a pos) (bo5 tA):=by
 intro pins s σ H Q I h
 exact isTrue_not (ha pins s σ H (fun c H1=>Q (!c) H1) I h)
def bl9 (ta tb:TE):TE:=fun σ H Q=>ta σ H fun x H1=>∃ c,x = .bl c ∧ if c = true then tb σ H1 Q else Q (.bl false) H1
def bl2 (ta:TE):TE:=fun σ H Q=>ta σ H fun x H1=>∃ c,x = .bl c ∧ Q (.bl (!c)) H1
theorem ab1 {op} {t:TE} (h:PE X a t):PE X (.BoolOp op [a] pos) t:=fun pins s σ H Q I hw=>BoolOp_one (h pins s σ H Q I hw)
theorem S1 (ha:PE X a ta) (hb:PE X (.BoolOp .And (b :: rest) pos) tb):PE X (.BoolOp .And (a :: b :: rest) pos) (bl9 ta tb):=by
 intro pins s σ H Q I h
 refine BoolOp_and (thn (ha pins s σ H _ I h) fun v s1 ⟨x,H1,I1,r1,q1⟩=>?_)
 obtain ⟨c,rfl,q1⟩:=q1
 cases r1
 refine wpAny_truthy_bool ?_
 cases c with
 | true=>exact hb pins s1 σ H1 Q I1 q1
 | false=>exact ⟨.bl false,H1,I1,rfl,q1⟩
theorem a83 (ha:PE X a ta):PE X (.UnaryOp .Not a pos) (bl2 ta):=by
 intro pins s σ H Q I h
 refine UnaryOp_ (thn (ha pins s σ H _ I h) fun v s1 ⟨x,H1,I1,r1,q1⟩=>?_)
 obtain ⟨c,rfl,q1⟩:=q1
 cases r1
 exact not_of (wpAny_truthy_bool ⟨.bl (!c),H1,I1,rfl,q1⟩)
def tIf (t:TT) (ta tb:TE):TE:=fun σ H Q=>t σ H fun c H1=>if c = true then ta σ H1 Q else tb σ H1 Q
theorem a81 {c:Expr} (hc:PT X c tA) (ha:PE X a ta) (hb:PE X b tb):PE X (.IfExp c a b pos) (tIf tA ta tb):=by
 intro pins s σ H Q I h
 refine wpAny_IfExp (thn (hc pins s σ H _ I h) fun d s1 ⟨H1,I1,q1⟩=>?_)
 cases d with
 | true=>exact ha pins s1 σ H1 Q I1 q1
 | false=>exact hb pins s1 σ H1 Q I1 q1
end
end L2
namespace L2
open PySem PySem.Spec PyProof.Rows
def SqL (K:PySem.W.Frag) (H:Hp) (a:Addr) (xs:List V):Prop :=
 Rd H a (.lst xs) ∨
  ∃ (o:Obj) (its:Array Value) (n:Nat),K.lookup a = some o ∧ o.cls = .type "list" ∧ o.dict = none ∧ o.data = .seq its n ∧ its.size ≤ sizeLine ∧ r6 xs its.toList
def SqT (K:PySem.W.Frag) (H:Hp) (a:Addr) (xs:List V):Prop :=
 Rd H a (.tup xs) ∨
  ∃ (o:Obj) (its:Array Value) (n:Nat),K.lookup a = some o ∧ o.cls = .type "tuple" ∧ o.data = .seq its n ∧ its.size ≤ sizeLine ∧ r6 xs its.toList
def bo2:Value → Option V
 | .none=>some .non
 | .bool b=>some (.bl b)
 | .int i _=>some (.int i)
 | .str x _=>some (.str x)
 | .bytes b _=>some (.byt b)
 | .float b _=>some (.flt b)
 | .ref a=>some (.ref a)
 | .type n=>some (.ty n)
 | _=>none
theorem t6.abs {x:V} {u:Value} (r:t6 x u):bo2 u = some x:=by
 cases x with
 | non=>cases r; rfl
 | bl _=>cases r; rfl
 | int _=>obtain ⟨t,rfl⟩:=r; rfl
 | str _=>obtain ⟨t,rfl⟩:=r; rfl
 | byt _=>obtain ⟨t,rfl⟩:=r; rfl
 | flt _=>obtain ⟨t,rfl⟩:=r; rfl
 | ref _=>cases r; rfl
 | ty _=>cases r; rfl
theorem t6.inj {x y:V} {u:Value} (r:t6 x u) (q:t6 y u):x = y:=Option.some.inj (r.abs.symm.trans q.abs)
theorem r6.inj:∀ {xs ys:List V} {us:List Value},r6 xs us → r6 ys us → xs = ys
 | _,_,_,.nil,.nil=>rfl
 | _,_,_,.cons r t,.cons r' t'=>by rw [r.inj r',r6.inj t t']
section
variable {X:Cx} {pins:List (Addr × Obj)} {σ:St} {H:Hp} {s:Shared} {a:Addr} {xs ys:List V}
theorem SqL.of {K:PySem.W.Frag} (h:H a = some (.lst xs)):SqL K H a xs:=.inl (.inl h)
theorem SqT.of {K:PySem.W.Frag} (h:H a = some (.tup xs)):SqT K H a xs:=.inl (.inl h)
theorem Inv.list (I:Inv X pins σ H s) (h:SqL X.K H a xs):∃ its:List Value,r6 xs its ∧ PlainL s.heap a its.toArray ∧ xs.length ≤ sizeLine:=by
 rcases h with h | ⟨o,its,n,hk,hc,hd,hs,hz,r⟩
 ·obtain ⟨z,its,n,r,e⟩:=h.ok I.hok
  exact ⟨its,r,⟨_,n,e,rfl,rfl,rfl⟩,z⟩
 ·refine ⟨its.toList,r,⟨o,n,I.kIn a o hk,hc,hd,by simpa using hs⟩,?_⟩
  have e:=r.length
  simp only [Array.length_toList] at e
  lia
theorem Inv.tuple (I:Inv X pins σ H s) (h:SqT X.K H a xs):∃ its:List Value,r6 xs its ∧ IsTup s.heap a its.toArray ∧ xs.length ≤ sizeLine:=by
 rcases h with h | ⟨o,its,n,hk,hc,hs,hz,r⟩
 ·obtain ⟨z,its,r,p⟩:=h.ok I.hok
  exact ⟨its,r,p,z⟩
 ·refine ⟨its.toList,r,⟨o,I.kIn a o hk,hc,n,by simpa using hs⟩,?_⟩
  have e:=r.length
  simp only [Array.length_toList] at e
  lia
theorem Inv.list_inj (I:Inv X pins σ H s) (h:SqL X.K H a xs) (h':SqL X.K H a ys):xs = ys:=by
 obtain ⟨its,r,⟨o,n,e,_,_,d⟩,_⟩:=I.list h
 obtain ⟨its',r',⟨o',n',e',_,_,d'⟩,_⟩:=I.list h'
 rw [e] at e'; cases e'
 rw [d] at d'
 injection d' with d1 _
 have:its = its':=by simpa using congrArg Array.toList d1
 subst this
 exact r.inj r'
theorem Inv.tuple_inj (I:Inv X pins σ H s) (h:SqT X.K H a xs) (h':SqT X.K H a ys):xs = ys:=by
 obtain ⟨its,r,⟨o,e,_,n,d⟩,_⟩:=I.tuple h
 obtain ⟨its',r',⟨o',e',_,n',d'⟩,_⟩:=I.tuple h'
 rw [e] at e'; cases e'
 rw [d] at d'
 injection d' with d1 _
 have:its = its':=by simpa using congrArg Array.toList d1
 subst this
 exact r.inj r'
end
abbrev Cx.wish (X:Cx) (E:Value → Shared → Prop):Cx:={ X with xe:=E }
abbrev Cx.nox (X:Cx):Cx:=X.wish fun _ _=>False
theorem Cx.Ok.wish {X:Cx} (ok:X.Ok) (E:Value → Shared → Prop):(X.wish E).Ok :=
 ⟨ok.mod,ok.kind,ok.glob,ok.blt,ok.above,ok.inj,ok.has,ok.cab,ok.hd,ok.frames,ok.stk,ok.exf,ok.bs,ok.bsz,ok.noex,ok.exfs,ok.funs,ok.frf⟩
theorem Cx.Ok.unwish {X:Cx} {E:Value → Shared → Prop} (ok:(X.wish E).Ok):X.Ok :=
 ⟨ok.mod,ok.kind,ok.glob,ok.blt,ok.above,ok.inj,ok.has,ok.cab,ok.hd,ok.frames,ok.stk,ok.exf,ok.bs,ok.bsz,ok.noex,ok.exfs,ok.funs,ok.frf⟩
section
variable {X:Cx} {pins:List (Addr × Obj)} {σ:St} {H:Hp} {s:Shared} {E:Value → Shared → Prop}
theorem Inv.wish (I:Inv X pins σ H s) (E:Value → Shared → Prop):Inv (X.wish E) pins σ H s:=⟨I.ok.wish E,I.os,I.bare,I.base,I.loc,I.cell,I.free,I.freeC,I.pin,I.hok,I.len⟩
theorem Inv.unwish (I:Inv (X.wish E) pins σ H s):Inv X pins σ H s:=⟨I.ok.unwish,I.os,I.bare,I.base,I.loc,I.cell,I.free,I.freeC,I.pin,I.hok,I.len⟩
theorem SP.unwish {D:Ends} {f:Flow} {s':Shared} (h:SP (X.wish E) pins D f s'):SP X pins D f s':=by
 cases f with
 | next=>obtain ⟨σ',H',I,q⟩:=h; exact ⟨σ',H',I.unwish,q⟩
 | brk=>obtain ⟨σ',H',I,q⟩:=h; exact ⟨σ',H',I.unwish,q⟩
 | cont=>obtain ⟨σ',H',I,q⟩:=h; exact ⟨σ',H',I.unwish,q⟩
 | ret u=>obtain ⟨v,σ',H',I,r,q⟩:=h; exact ⟨v,σ',H',I.unwish,r,q⟩
theorem PSs.nox {st:List Stmt} {t:TS} (h:PSs X.nox st t):PSs X st t:=fun pins s σ H D I hw =>
 wpAny_mono (h pins s σ H D (I.wish _) hw) (fun _ _ q=>q.unwish) fun _ _ z=>False.elim z
end
section
variable {X:Cx} {st:Stmt} {rest:List Stmt} {t u:TS} {e:Expr} {te:TE} {pos:Pos}
def aM3:TS:=fun D σ H=>D.nx σ H
def bg6 (t u:TS):TS:=fun D σ H=>t { D with nx:=u D } σ H
theorem m8:PSs X [] aM3:=fun _ _ σ H _ I h=>wpAny_execs_nil ⟨σ,H,I,h⟩
theorem d8 (h1:PS X st t) (h2:PSs X rest u):PSs X (st :: rest) (bg6 t u):=by
 intro pins s σ H D I h
 refine wpAny_execs_cons (thn (h1 pins s σ H { D with nx:=u D } I h) fun f s1 q=>?_)
 cases f with
 | next =>
  obtain ⟨σ',H',I',q⟩:=q
  exact h2 pins s1 σ' H' D I' q
 | ret v=>exact q
 | brk=>exact q
 | cont=>exact q
theorem e7 (h1:PS X st t):PSs X [st] t:=by
 intro pins s σ H D I h
 refine wpAny_execs_cons (thn (h1 pins s σ H D I h) fun f s1 q=>?_)
 cases f with
 | next=>exact wpAny_execs_nil q
 | ret v=>exact q
 | brk=>exact q
 | cont=>exact q
theorem Inv.quiet {pins:List (Addr × Obj)} {σ:St} {H:Hp} {s:Shared} (I:Inv X pins σ H s):interactive X.env = false:=by simp [interactive,I.ok.kind]
def bk0 (te:TE):TS:=fun D σ H=>te σ H fun _ H1=>D.nx σ H1
theorem D6 (he:PE X e te) (hs:swapsWith e none pos.line X.env = pure false:=by rfl):PS X (.Expr e pos) (bk0 te):=by
 intro pins s σ H D I h
 exact wpAny_Expr_any (thn (he pins s σ H _ I h) fun v s1 ⟨x,H1,I1,r1,q1⟩=>⟨σ,H1,I1,q1⟩) I.quiet hs
def bo0 (te:TE):TS:=fun D σ H=>te σ H D.rt
theorem i8 (he:PE X e te):PS X (.Return (some e) pos) (bo0 te):=by
 intro pins s σ H D I h
 exact wpAny_Return_some (thn (he pins s σ H _ I h) fun v s1 ⟨x,H1,I1,r1,q1⟩=>⟨x,σ,H1,I1,r1,q1⟩)
def bm3 (c:TT) (t u:TS):TS:=fun D σ H=>c σ H fun b H1=>if b = true then t D σ H1 else u D σ H1
theorem u3 {c:Expr} {a b:List Stmt} {tc:TT} (hc:PT X c tc) (ha:PSs X a t) (hb:PSs X b u):PS X (.If c a b pos) (bm3 tc t u):=by
 intro pins s σ H D I h
 refine wpAny_If (thn (hc pins s σ H _ I h) fun d s1 ⟨H1,I1,q1⟩=>?_)
 cases d with
 | true=>exact ha pins s1 σ H1 D I1 q1
 | false=>exact hb pins s1 σ H1 D I1 q1
def bf6:TS:=fun _ _ _=>False
theorem F6:PS X st bf6:=fun _ _ _ _ _ _ h=>h.elim
end
abbrev TG:=V → St → Hp → (St → Hp → Prop) → Prop
abbrev TGs:=List V → St → Hp → (St → Hp → Prop) → Prop
def PG (X:Cx) (target:Expr) (t:TG):Prop :=
 ∀ (pins:List (Addr × Obj)) (s:Shared) (σ:St) (H:Hp) (v:V) (u:Value) (Q:St → Hp → Prop),Inv X pins σ H s → t6 v u → t v σ H Q →
  wpAny (model X.prog X.w) X.A (assign target X.env u) (fun _ s'=>∃ σ' H',Inv X pins σ' H' s' ∧ Q σ' H') X.xe s
def PGs (X:Cx) (ts:List Expr) (t:TGs):Prop :=
 ∀ (pins:List (Addr × Obj)) (s:Shared) (σ:St) (H:Hp) (vs:List V) (us:List Value) (Q:St → Hp → Prop),Inv X pins σ H s → r6 vs us → t vs σ H Q →
  wpAny (model X.prog X.w) X.A (assignInOrder ((assignEach ts X.env).map (·.2)) us) (fun _ s'=>∃ σ' H',Inv X pins σ' H' s' ∧ Q σ' H') X.xe s
abbrev be2:=V → V → V → Hp → (Hp → Prop) → Prop
def bh8 (X:Cx) (t:be2):Prop :=
 ∀ (pins:List (Addr × Obj)) (s:Shared) (σ:St) (H:Hp) (o i v:V) (ov iv u:Value) (Q:Hp → Prop),Inv X pins σ H s → t6 o ov → t6 i iv → t6 v u → t o i v H Q →
  wpAny (model X.prog X.w) X.A (setItem ov iv u) (fun _ s'=>∃ H',Inv X pins σ H' s' ∧ Q H') X.xe s
abbrev TIp:=V → V → Hp → VK → Prop
def PIp (X:Cx) (op:Operator) (t:TIp):Prop :=
 ∀ (pins:List (Addr × Obj)) (s:Shared) (σ:St) (H:Hp) (x y:V) (v u:Value) (Q:VK),Inv X pins σ H s → t6 x v → t6 y u → t x y H Q →
  wpAny (model X.prog X.w) X.A (inplaceOp op v u) (EP X pins σ Q) X.xe s
section
variable {X:Cx} {pos:Pos}
def G0 (i:Nat):TG:=fun v σ H Q=>Q (σ.set i (some v)) H
theorem m9 {i:Nat} {x:Str} (hN:X.N.Nodup) (hi:X.N[i]? = some x) (hx:Loc X.env.scope x) (hf:X.fn x = true ∨ X.env.scope.names.lookup x = some .local:=by first | exact .inl rfl | exact .inr rfl | assumption):PG X (.Name x pos) (G0 i):=by
 intro pins s σ H v u Q I r h
 exact wpAny_assign_Name (ay1 I hN hi hx r (fun s' I'=>⟨_,H,I',h⟩) hf)
def aX5:TGs:=fun vs σ H Q=>vs = [] ∧ Q σ H
def R9 (t:TG) (u:TGs):TGs:=fun vs σ H Q=>∃ v r,vs = v :: r ∧ t v σ H fun σ' H'=>u r σ' H' Q
theorem aO9:PGs X [] aX5:=by
 intro pins s σ H vs us Q I r h
 obtain ⟨e,h⟩:=h
 subst e
 cases r
 exact assignInOrder_nil ⟨σ,H,I,h⟩
theorem S4 {e:Expr} {es:List Expr} {t:TG} {u:TGs} (h1:PG X e t) (h2:PGs X es u)
  (hs:(assignEach (e :: es) X.env).map (·.2) = assign e X.env :: (assignEach es X.env).map (·.2):=by rfl):PGs X (e :: es) (R9 t u):=by
 intro pins s σ H vs us Q I r h
 obtain ⟨v,vr,e1,h⟩:=h
 subst e1
 cases r with
 | cons r rr =>
  rw [hs]
  refine assignInOrder_cons (thn (h1 pins s σ H _ _ _ I r h) fun _ s1 ⟨σ1,H1,I1,q1⟩=>?_)
  exact h2 pins s1 σ1 H1 _ _ Q I1 rr q1
def aY3 (K:PySem.W.Frag) (n:Nat) (t:TGs):TG:=fun v σ H Q=>∃ a xs,v = .ref a ∧ SqT K H a xs ∧ xs.length = n ∧ t xs σ H Q
theorem a64 {es:List Expr} {k:Nat} {t:TGs} {n:Nat} (hc:X.calm = true) (h:PGs X es t)
  (hn:(assignEach es X.env).length = n:=by rfl) (hst:(assignEach es X.env).findIdx? (·.1) = none:=by rfl):PG X (.Tuple es k pos) (aY3 X.K n t):=by
 intro pins s σ H v u Q I r hw
 obtain ⟨a,xs,e1,hq,hl,hw⟩:=hw
 subst e1
 cases r
 obtain ⟨its,rv,ht,hz⟩:=I.tuple hq
 refine assign_Tuple_tuple (I.ok.hd hc) ht (by simp [hn,← hl,rv.length]) hst fun h' hx=>?_
 have I1:Inv X pins σ H { s with heap:=h' }:=I.kept (t':=s.toks) fun b o e=>hx b o (Nat.ne_of_lt (Heap.lt_size e)) e
 exact h pins _ σ H xs _ Q I1 (by simpa using rv) hw
def bg1 (te:TE) (g:TG):TS:=fun D σ H=>te σ H fun x H1=>g x σ H1 D.nx
theorem bj5 {tg e:Expr} {te:TE} {g:TG} (he:PE X e te) (hg:PG X tg g) (hs:swapsWithSole [tg] e pos.line X.env = pure false:=by rfl) (hw:swappedStores [tg] e X.env = pure none:=by rfl)
  (h1:(assignEach [tg] X.env).map (·.2) = [assign tg X.env]:=by rfl):PS X (.Assign [tg] e pos) (bg1 te g):=by
 intro pins s σ H D I h
 refine wpAny_Assign_stores (thn (he pins s σ H _ I h) fun v s1 ⟨x,H1,I1,r1,q1⟩=>?_) hs hw
 rw [h1]
 exact thn (hg pins s1 σ H1 x v _ I1 r1 q1) fun _ s2 q=>q
theorem j8 {i:Nat} {x:Str} {e:Expr} {te:TE} {pos':Pos} (hN:X.N.Nodup) (hi:X.N[i]? = some x) (hx:Loc X.env.scope x) (he:PE X e te) (hs:swapsWith e (some (.Name x pos')) pos.line X.env = pure false:=by rfl) (hf:X.fn x = true ∨ X.env.scope.names.lookup x = some .local:=by first | exact .inl rfl | exact .inr rfl | assumption) :
  PS X (.Assign [.Name x pos'] e pos) (bg1 te (G0 i)):=by
 intro pins s σ H D I h
 refine wpAny_Assign_Name (thn (he pins s σ H _ I h) fun v s1 ⟨y,H1,I1,r1,q1⟩=>?_) hs
 exact ay1 I1 hN hi hx r1 (fun s2 I2=>⟨_,H1,I2,q1⟩) hf
def bk9 (to ti te:TE) (tget:V → V → Hp → VK → Prop) (tip:TIp) (tset:be2):TS:=fun D σ H=>to σ H fun o H1=>ti σ H1 fun i H2=>tget o i H2 fun x H3=>te σ H3 fun y H4=>tip x y H4 fun z H5=>tset o i z H5 fun H6=>D.nx σ H6
def bh3 (X:Cx) (t:V → V → Hp → VK → Prop):Prop :=
 ∀ (pins:List (Addr × Obj)) (s:Shared) (σ:St) (H:Hp) (o i:V) (ov iv:Value) (Q:VK),Inv X pins σ H s → t6 o ov → t6 i iv → t o i H Q →
  wpAny (model X.prog X.w) X.A (getItem ov iv) (EP X pins σ Q) X.xe s
theorem aM4 {o i e:Expr} {to ti te:TE} {tget:V → V → Hp → VK → Prop} {tip:TIp} {tset:be2} {op:Operator} {tpos:Pos} (ho:PE X o to) (hi:PE X i ti) (hg:bh3 X tget) (he:PE X e te) (hp:PIp X op tip) (hs:bh8 X tset)
  (ha:∀ ov iv new,augStore i ov iv new = (do holding [new,ov,iv] (setItem ov iv new); release [new,ov,iv] []; pure .next):=by intros; rfl):PS X (.AugAssign (.Subscript o i tpos) op e pos) (bk9 to ti te tget tip tset):=by
 intro pins s σ H D I h
 refine wpAny_AugAssign_SubscriptAny (thn (ho pins s σ H _ I h) fun ov s1 ⟨x1,H1,I1,r1,q1⟩=>?_) ha
 refine thn (hi pins s1 σ H1 _ I1 q1) fun iv s2 ⟨x2,H2,I2,r2,q2⟩=>?_
 refine thn (hg pins s2 σ H2 x1 x2 ov iv _ I2 r1 r2 q2) fun old s3 ⟨x3,H3,I3,r3,q3⟩=>?_
 refine thn (he pins s3 σ H3 _ I3 q3) fun v s4 ⟨x4,H4,I4,r4,q4⟩=>?_
 refine thn (hp pins s4 σ H4 x3 x4 old v _ I4 r3 r4 q4) fun new s5 ⟨x5,H5,I5,r5,q5⟩=>?_
 exact thn (hs pins s5 σ H5 x1 x2 x5 ov iv new _ I5 r1 r2 r5 q5) fun _ s6 ⟨H6,I6,q6⟩=>⟨σ,H6,I6,q6⟩
end
section
variable {X:Cx} {pos:Pos}
def bj1 (c:TT) (tb:TS):TS:=fun D σ H=>∃ W:Nat → St → Hp → Prop,(∃ m,W m σ H) ∧ ∀ m σ H,W m σ H →
 c σ H fun b H1=>if b = true then ∃ N:St → Hp → Prop,(∀ σ' H',N σ' H' → ∃ m',m' < m ∧ W m' σ' H') ∧ tb { D with nx:=N,ct:=N,bk:=D.nx } σ H1 else D.nx σ H1
theorem a79 {c:Expr} {body:List Stmt} {tc:TT} {tb:TS} (hp:PassesOwn (model X.prog X.w) X.A X.env X.xe) (hc:PT X c tc) (hb:PSs X body tb):PS X (.While c body [] pos) (bj1 tc tb):=by
 intro pins s σ H D I h
 obtain ⟨W,⟨m0,w0⟩,turn⟩:=h
 refine wpAny_While (codeAny_whileLoop (fun n s'=>∃ σ' H',Inv X pins σ' H' s' ∧ W n σ' H') ?_ m0 ⟨σ,H,I,w0⟩)
 rintro n s1 ⟨σ1,H1,I1,w1⟩
 refine wpAny_passesOwn hp (thn (hc pins s1 σ1 H1 _ I1 (turn n σ1 H1 w1)) fun b s2 ⟨H2,I2,q2⟩=>?_)
 cases b with
 | true =>
  obtain ⟨N,hN,q2⟩:=q2
  rw [if_pos rfl]
  refine wpAny_passesOwn hp (thn (hb pins s2 σ1 H2 _ I2 q2) fun f s3 q3=>?_)
  cases f with
  | next =>
   obtain ⟨σ3,H3,I3,n3⟩:=q3
   obtain ⟨m',hm,w3⟩:=hN σ3 H3 n3
   exact ⟨m',hm,σ3,H3,I3,w3⟩
  | cont =>
   obtain ⟨σ3,H3,I3,n3⟩:=q3
   obtain ⟨m',hm,w3⟩:=hN σ3 H3 n3
   exact ⟨m',hm,σ3,H3,I3,w3⟩
  | brk=>exact q3
  | ret v=>exact q3
 | false =>
  rw [if_neg Bool.false_ne_true]
  exact wpAny_execs_nil ⟨σ1,H2,I2,q2⟩
end
structure It where
 go:Nat → Hp → Prop
 yld:Nat → Hp → V → Hp → Prop
 stop:Nat → Hp → Prop
def af6 (X:Cx) (pins:List (Addr × Obj)) (H:Hp) (b:Addr):Prop :=
 H b = none ∧ b ≠ X.env.locals ∧ b ∉ X.fs ∧ (b ∈ X.ex ∨ X.s₀.heap.objs.size ≤ b) ∧ (∀ x c,X.env.cells.lookup x = some c → c ≠ b) ∧ ∀ p ∈ X.pn ++ pins,p.1 ≠ b
theorem Inv.fpOk {X:Cx} {pins:List (Addr × Obj)} {σ:St} {H H':Hp} {s:Shared} {b:Addr} (I:Inv X pins σ H s) (hb:s.heap.objs.size ≤ b) (hn:H' b = none):af6 X pins H' b:=by
 refine ⟨hn,Nat.ne_of_gt (Nat.lt_of_lt_of_le I.lt hb),I.nofs hb,.inr (Nat.le_trans I.sz hb),fun x c e z=>?_,fun p hp z=>?_⟩
 ·obtain ⟨v,q⟩:=I.cell x c e
  exact absurd (Nat.lt_of_lt_of_le q.lt (by rw [z]; exact hb)) (Nat.lt_irrefl _)
 ·exact absurd (Nat.lt_of_lt_of_le (Heap.lt_size (I.pin p hp).1) (by rw [z]; exact hb)) (Nat.lt_irrefl _)
structure Turn (P:Program) (w:World) (K:PySem.W.Frag) (tg:Expr) (J:It) (fp:List Addr) (it:Addr) (tn:Nat → Heap → Prop):Prop where
 mem:it ∈ fp
 obj:∀ i h,tn i h → ∀ b ∈ fp,∃ o,h.get? b = some o ∧ ∀ v,o.data ≠ .cell v
 keep:∀ i h h',tn i h → (∀ b ∈ fp,∀ o,h.get? b = some o → h'.get? b = some o) → tn i h'
 item:∀ (X:Cx),X.prog = P → X.w = w → X.K = K → X.calm = true → ∀ (i:Nat) (pins:List (Addr × Obj)) (s:Shared) (σ:St) (H:Hp) (E:Value → Shared → Prop),Inv X pins σ H s → (∀ b ∈ fp,af6 X pins H b) → tn i s.heap → J.go i H →
  wpAny (model P w) X.A (pyNext (.ref it)) (fun r s1=>∃ u,r = some u ∧
   wpAny (model P w) X.A (letOwnedTupleGo tg (.ref it) u) (fun _ s2=>∃ x H',Inv X pins σ H' s2 ∧ t6 x u ∧ J.yld i H x H' ∧ tn (i + 1) s2.heap ∧ ∀ b ∈ fp,H' b = none) E s1) E s
 done:∀ (X:Cx),X.prog = P → X.w = w → X.K = K → X.calm = true → ∀ (i:Nat) (pins:List (Addr × Obj)) (s:Shared) (σ:St) (H:Hp) (E:Value → Shared → Prop),Inv X pins σ H s → (∀ b ∈ fp,af6 X pins H b) → tn i s.heap → J.stop i H →
  wpAny (model P w) X.A (pyNext (.ref it)) (fun r s1=>r = none ∧ Inv X pins σ H s1) E s
 self:∀ (A:Around) (i:Nat) (s:Shared) (Q:Value → Shared → Prop) (E:Value → Shared → Prop),tn i s.heap → Q (.ref it) s → wpAny (model P w) A (pyIter (.ref it)) Q E s
abbrev TI:=St → Hp → (It → Hp → Prop) → Prop
def PIE (X:Cx) (pins:List (Addr × Obj)) (σ:St) (tg:Expr) (R:It → Hp → Prop) (itv:Value) (s2:Shared):Prop :=
 ∃ (it:Addr) (fp:List Addr) (tn:Nat → Heap → Prop) (J:It) (H':Hp),itv = .ref it ∧ Inv X pins σ H' s2 ∧ Turn X.prog X.w X.K tg J fp it tn ∧ tn 0 s2.heap ∧ (∀ b ∈ fp,af6 X pins H' b) ∧ R J H'
def PI (X:Cx) (tg iter:Expr) (wi:TI):Prop :=
 ∀ (pins:List (Addr × Obj)) (s:Shared) (σ:St) (H:Hp) (R:It → Hp → Prop),Inv X pins σ H s → wi σ H R →
  wpAny (model X.prog X.w) X.A (eval iter X.env) (fun v s1=>wpAny (model X.prog X.w) X.A (pyIter v) (PIE X pins σ tg R) X.xe s1) X.xe s
theorem aZ0 {M:Model} {A:Around} {E:Value → Shared → Prop} {s:Shared} {tg:Expr} {it:Addr} {u:Value} {o:Obj} {n:String} {vs:Array Value} {Q:Unit → Shared → Prop} (ho:s.heap.get? it = some o) (hc:o.cls = .type n) (hd:o.data = .fields vs)
    (hn:["enumerate","zip","dict_itemiterator","dict_reverseitemiterator","odict_iterator","itertools.zip_longest","itertools.pairwise"].contains n = false) (hQ:Q () s):wpAny M A (letOwnedTupleGo tg (.ref it) u) Q E s:=by
  unfold letOwnedTupleGo
  cases tg <;> first
    | exact wpAny_pure hQ
    | (cases u <;> first
        | exact wpAny_pure hQ
        | (refine wpAny_bind (wpAny_load ho ?_)
           rw [hc,hd]
           show wpAny M A (if (["enumerate","zip","dict_itemiterator","dict_reverseitemiterator","odict_iterator","itertools.zip_longest","itertools.pairwise"].contains n && vs[0]? == some (rawInt _)) = true then _ else _) Q E s
           rw [if_neg (by intro h; rw [hn,Bool.false_and] at h; cases h)]
           exact wpAny_pure hQ))
def Itl (K:PySem.W.Frag) (a:Addr):It :=
 ⟨fun i H=>∃ xs x,SqL K H a xs ∧ xs[i]? = some x,fun i H x H'=>H' = H ∧ ∀ xs,SqL K H a xs → xs[i]? = some x,fun i H=>∃ xs,SqL K H a xs ∧ xs.length ≤ i⟩
def Itt (K:PySem.W.Frag) (a:Addr):It :=
 ⟨fun i H=>∃ xs x,SqT K H a xs ∧ xs[i]? = some x,fun i H x H'=>H' = H ∧ ∀ xs,SqT K H a xs → xs[i]? = some x,fun i H=>∃ xs,SqT K H a xs ∧ xs.length ≤ i⟩
def Itr (lo:Int) (n:Nat):It:=⟨fun i _=>i < n,fun i H x H'=>H' = H ∧ x = .int (lo + i),fun i _=>n ≤ i⟩
theorem aS8 {P:Program} {w:World} {K:PySem.W.Frag} {tg:Expr} (a it:Addr):Turn P w K tg (Itl K a) [it] it (fun i h=>h.IsListIter it a i) where
 mem:=by simp
 obj:=fun i h st b hb=>by
  have e:b = it:=by simpa using hb
  subst e
  obtain ⟨o,e,c,d⟩:=st
  exact ⟨o,e,fun v z=>by rw [d] at z; cases z⟩
 keep:=fun i h h' st k=>st.at fun o e=>k it (by simp) o e
 item:=by
  intro X hP hw hK hc i pins s σ H E I hf st hg
  subst hP hw hK
  obtain ⟨xs,x,hq,hx⟩:=hg
  obtain ⟨its,rv,p,hz⟩:=I.list hq
  obtain ⟨u,hu,ru⟩:=rv.get hx
  obtain ⟨f0,f1,f2,f3,f4,f5⟩:=hf it (by simp)
  refine wpAny_pyNext_list_item st p.isList (x:=u) (by simpa using hu) fun h' st' sb=>?_
  have I1:Inv X pins σ H { s with heap:=h' }:=I.turned (t':=s.toks) (fun b o hb e=>(sb.2 b hb).trans e) f0 f1 f3 f4 f5
  obtain ⟨o,e,c,d⟩:=id st'
  exact ⟨u,rfl,aZ0 (s:={ s with heap:=h' }) e c d (by decide) ⟨x,H,I1,ru,⟨rfl,fun ys hy=>by rw [I.list_inj hy hq]; exact hx⟩,st',fun b hb=>(hf b hb).1⟩⟩
 done:=by
  intro X hP hw hK hc i pins s σ H E I hf st hg
  subst hP hw hK
  obtain ⟨xs,hq,hx⟩:=hg
  obtain ⟨its,rv,p,hz⟩:=I.list hq
  obtain ⟨f0,f1,f2,f3,f4,f5⟩:=hf it (by simp)
  have hl:=rv.length
  exact wpAny_pyNext_list_end (I.ok.hd hc) st p.isList (by simp; lia) fun h' eb=>⟨rfl,I.turned (t':=s.toks) (fun b o hb e=>eb b o hb e) f0 f1 f3 f4 f5⟩
 self:=fun _ _ _ _ _ st h=>wpAny_pyIter_listiter st h
theorem aJ5 {P:Program} {w:World} {K:PySem.W.Frag} {tg:Expr} (a it:Addr):Turn P w K tg (Itt K a) [it] it (fun i h=>h.IsTupleIter it a i) where
 mem:=by simp
 obj:=fun i h st b hb=>by
  have e:b = it:=by simpa using hb
  subst e
  obtain ⟨o,e,c,d⟩:=st
  exact ⟨o,e,fun v z=>by rw [d] at z; cases z⟩
 keep:=fun i h h' st k=>st.at fun o e=>k it (by simp) o e
 item:=by
  intro X hP hw hK hc i pins s σ H E I hf st hg
  subst hP hw hK
  obtain ⟨xs,x,hq,hx⟩:=hg
  obtain ⟨its,rv,p,hz⟩:=I.tuple hq
  obtain ⟨u,hu,ru⟩:=rv.get hx
  obtain ⟨f0,f1,f2,f3,f4,f5⟩:=hf it (by simp)
  refine wpAny_pyNext_tuple_item st (show s.heap.IsTuple a its.toArray from p) (x:=u) (by simpa using hu) fun h' st' sb=>?_
  have I1:Inv X pins σ H { s with heap:=h' }:=I.turned (t':=s.toks) (fun b o hb e=>(sb.2 b hb).trans e) f0 f1 f3 f4 f5
  obtain ⟨o,e,c,d⟩:=id st'
  exact ⟨u,rfl,aZ0 (s:={ s with heap:=h' }) e c d (by decide) ⟨x,H,I1,ru,⟨rfl,fun ys hy=>by rw [I.tuple_inj hy hq]; exact hx⟩,st',fun b hb=>(hf b hb).1⟩⟩
 done:=by
  intro X hP hw hK hc i pins s σ H E I hf st hg
  subst hP hw hK
  obtain ⟨xs,hq,hx⟩:=hg
  obtain ⟨its,rv,p,hz⟩:=I.tuple hq
  obtain ⟨f0,f1,f2,f3,f4,f5⟩:=hf it (by simp)
  have hl:=rv.length
  exact wpAny_pyNext_tuple_end (I.ok.hd hc) st (show s.heap.IsTuple a its.toArray from p) (by simp; lia) fun h' eb=>⟨rfl,I.turned (t':=s.toks) (fun b o hb e=>eb b o hb e) f0 f1 f3 f4 f5⟩
 self:=fun _ _ _ _ _ st h=>wpAny_pyIter_tupleiter st h
theorem aJ0 {P:Program} {w:World} {K:PySem.W.Frag} {tg:Expr} (it:Addr) (lo:Int) (n:Nat):Turn P w K tg (Itr lo n) [it] it (fun i h=>IsRangeIter h it (lo + (i:Nat) * 1) ((n:Int) - (i:Nat)) 1) where
 mem:=by simp
 obj:=fun i h st b hb=>by
  have e:b = it:=by simpa using hb
  subst e
  exact ⟨_,st,fun v z=>by
   have z':Data.fields _ = Data.cell v:=z
   cases z'⟩
 keep:=fun i h h' st k=>k it (by simp) _ st
 item:=by
  intro X hP hw hK hc i pins s σ H E I hf st hg
  subst hP hw hK
  obtain ⟨f0,f1,f2,f3,f4,f5⟩:=hf it (by simp)
  have W:=Walks.range (prog:=X.prog) (w:=X.w) (I.ok.hd hc) it lo 1 n
  refine W.item i s _ _ hg st fun v h' tk hv st' kk=>?_
  obtain ⟨t,rfl⟩:=hv
  have I1:Inv X pins σ H { s with heap:=h',toks:=tk }:=I.turned (fun b o hb e=>kk b o (by simpa using hb) e) f0 f1 f3 f4 f5
  refine ⟨_,rfl,aZ0 (s:={ s with heap:=h',toks:=tk }) (n:="range_iterator") st' rfl rfl (by decide) ⟨.int (lo + i),H,I1,⟨t,?_⟩,⟨rfl,rfl⟩,st',fun b hb=>(hf b hb).1⟩⟩
  rw [Int.mul_one]
 done:=by
  intro X hP hw hK hc i pins s σ H E I hf st hg
  subst hP hw hK
  obtain ⟨f0,f1,f2,f3,f4,f5⟩:=hf it (by simp)
  exact wpAny_pyNext_range_end (I.ok.hd hc) st (by have:n ≤ i:=hg; lia) fun h' eb=>⟨rfl,I.turned (t':=s.toks) (fun b o hb e=>eb b o hb e) f0 f1 f3 f4 f5⟩
 self:=fun _ _ _ _ _ st h=>wpAny_pyIter_rangeiter st h
end L2
namespace L2
open PySem PySem.Spec PyProof.Rows
section
variable {X:Cx} {tg:Expr}
def be0 (K:PySem.W.Frag) (tl:TE):TI:=fun σ H R=>tl σ H fun x H1=>∃ a,x = .ref a ∧ (∃ xs,SqL K H1 a xs) ∧ R (Itl K a) H1
def bm7 (K:PySem.W.Frag) (tl:TE):TI:=fun σ H R=>tl σ H fun x H1=>∃ a,x = .ref a ∧ (∃ xs,SqT K H1 a xs) ∧ R (Itt K a) H1
theorem ba8 {l:Expr} {tl:TE} (hl:PE X l tl):PI X tg l (be0 X.K tl):=by
 intro pins s σ H R I h
 refine thn (hl pins s σ H _ I h) fun v s1 ⟨x,H1,I1,r1,q1⟩=>?_
 obtain ⟨a,e,⟨xs,hq⟩,q⟩:=q1
 subst e
 cases r1
 obtain ⟨its,rv,p,hz⟩:=I1.list hq
 refine wpAny_pyIter_list p.isList ?_
 refine ⟨s1.heap.objs.size,[s1.heap.objs.size],_,_,H1,rfl,I1.kept (t':=s1.toks) fun b o e=>Heap.get?_push_of_some _ e,aS8 a _,⟨_,Heap.get?_push_size _ rfl,rfl,rfl⟩,fun b hb=>?_,q⟩
 have e:b = s1.heap.objs.size:=by simpa using hb
 subst e
 exact I1.fpOk (Nat.le_refl _) (I1.hok.fresh (Nat.le_refl _))
theorem be8 {l:Expr} {tl:TE} (hl:PE X l tl):PI X tg l (bm7 X.K tl):=by
 intro pins s σ H R I h
 refine thn (hl pins s σ H _ I h) fun v s1 ⟨x,H1,I1,r1,q1⟩=>?_
 obtain ⟨a,e,⟨xs,hq⟩,q⟩:=q1
 subst e
 cases r1
 obtain ⟨its,rv,p,hz⟩:=I1.tuple hq
 refine wpAny_pyIter_tuple (show s1.heap.IsTuple a its.toArray from p) ?_
 refine ⟨s1.heap.objs.size,[s1.heap.objs.size],_,_,H1,rfl,I1.kept (t':=s1.toks) fun b o e=>Heap.get?_push_of_some _ e,aJ5 a _,⟨_,Heap.get?_push_size _ rfl,rfl,rfl⟩,fun b hb=>?_,q⟩
 have e:b = s1.heap.objs.size:=by simpa using hb
 subst e
 exact I1.fpOk (Nat.le_refl _) (I1.hok.fresh (Nat.le_refl _))
theorem aD2 {pins:List (Addr × Obj)} {σ:St} {H:Hp} {s:Shared} {R:It → Hp → Prop} {E:Value → Shared → Prop} {lo hi:Int} {t u v:Tok} {tk:Nat} (I:Inv X pins σ H s) (h1:-(2 ^ 62) ≤ lo) (h2:lo < 2 ^ 62) (h3:-(2 ^ 62) ≤ hi) (h4:hi < 2 ^ 62)
  (q:R (Itr lo (hi - lo).toNat) H):wpAny (model X.prog X.w) X.A (pyIter (.ref s.heap.objs.size)) (PIE X pins σ tg R) E { s with heap:=s.heap.push { cls:=.type "range",data:=.fields #[.int lo t,.int hi u,.int 1 v] },toks:=tk }:=by
 refine wpAny_pyIter_range (IsRange.new ..) (small_one h1 h2 h3 h4) ?_
 have I1:Inv X pins σ H { s with heap:=s.heap.push { cls:=.type "range",data:=.fields #[.int lo t,.int hi u,.int 1 v] },toks:=tk }:=I.kept fun b o e=>Heap.get?_push_of_some _ e
 refine ⟨(s.heap.push { cls:=.type "range",data:=.fields #[.int lo t,.int hi u,.int 1 v] }).objs.size,[(s.heap.push { cls:=.type "range",data:=.fields #[.int lo t,.int hi u,.int 1 v] }).objs.size],_,_,H,rfl,
  I1.kept (t':=tk) fun b o e=>Heap.get?_push_of_some _ e,aJ0 _ lo (hi - lo).toNat,?_,fun b hb=>?_,q⟩
 ·have e1:lo + ((0:Nat):Int) * 1 = lo:=by simp
  have e2:(((hi - lo).toNat:Nat):Int) - ((0:Nat):Int) = Builtin.Range.rangeSize lo hi 1:=by rw [rangeSize_one]; split <;> lia
  show IsRangeIter _ _ (lo + ((0:Nat):Int) * 1) ((((hi - lo).toNat:Nat):Int) - ((0:Nat):Int)) 1
  rw [e1,e2]
  exact Heap.get?_push_size _ rfl
 ·have e:b = (s.heap.push { cls:=.type "range",data:=.fields #[.int lo t,.int hi u,.int 1 v] }).objs.size:=by simpa using hb
  subst e
  exact I1.fpOk (Nat.le_refl _) (I1.hok.fresh (Nat.le_refl _))
def bl0 (ta:TA):TI:=fun σ H R=>ta σ H fun vs H1=>∃ j:Int,vs = [.int j] ∧ -(2 ^ 62) ≤ j ∧ j < 2 ^ 62 ∧ R (Itr 0 j.toNat) H1
def bj8 (ta:TA):TI:=fun σ H R=>ta σ H fun vs H1=>∃ i j:Int,vs = [.int i,.int j] ∧ (-(2 ^ 62) ≤ i ∧ i < 2 ^ 62 ∧ -(2 ^ 62) ≤ j ∧ j < 2 ^ 62) ∧ R (Itr i (j - i).toNat) H1
theorem J7 {a:Expr} {ta:TA} {p pos:Pos} (hg:Gl X "range") (hm:X.mg "range" = none) (ha:PA X [a] ta) (hs:starEach [a] X.env = [(false,eval a X.env)]:=by rfl):PI X tg (.Call (.Name "range" p) [a] [] pos) (bl0 ta):=by
 intro pins s σ H R I h
 refine Call_ (aa3 I hg hm boot_range (PyProof.Rows.callWith_type1 (thn (ha pos pins s σ H _ I h) fun us s1 ⟨vs,H1,I1,r1,q1⟩=>?_) hs rfl))
 obtain ⟨j,e,q1,q2,q⟩:=q1
 subst e
 cases r1 with
 | cons r rr =>
  cases rr
  obtain ⟨t,rfl⟩:=r
  exact call_range_1 (aD2 I1 (by lia) (by lia) q1 q2 (by simpa using q))
theorem aU3 {a b:Expr} {ta:TA} {p pos:Pos} (hg:Gl X "range") (hm:X.mg "range" = none) (ha:PA X [a,b] ta) (hs:starEach [a,b] X.env = [(false,eval a X.env),(false,eval b X.env)]:=by rfl) (hs2:starEach [b] X.env = [(false,eval b X.env)]:=by rfl) :
  PI X tg (.Call (.Name "range" p) [a,b] [] pos) (bj8 ta):=by
 intro pins s σ H R I h
 refine Call_ (aa3 I hg hm boot_range (PyProof.Rows.callWith_type1 (thn (ha pos pins s σ H _ I h) fun us s1 ⟨vs,H1,I1,r1,q1⟩=>?_) (by rw [hs,hs2]) (by rw [hs2]; rfl)))
 obtain ⟨i,j,e,⟨q1,q2,q3,q4⟩,q⟩:=q1
 subst e
 cases r1 with
 | cons r rr =>
  cases rr with
  | cons r' rr =>
   cases rr
   obtain ⟨t,rfl⟩:=r
   obtain ⟨t',rfl⟩:=r'
   exact call_range_2 (aD2 I1 q1 q2 q3 q4 q)
def bo4 (wi:TI) (g:TG) (tb:TS):TS:=fun D σ H=>wi σ H fun J H1=>∃ W:Nat → Nat → St → Hp → Prop,(∃ m,W 0 m σ H1) ∧ ∀ i m σ H,W i m σ H →
 (J.stop i H ∧ D.nx σ H) ∨ (J.go i H ∧ ∃ N:St → Hp → Prop,(∀ σ' H',N σ' H' → ∃ m',m' < m ∧ W (i + 1) m' σ' H') ∧ ∀ x H',J.yld i H x H' → g x σ H' fun σ2 H2=>tb { D with nx:=N,ct:=N,bk:=D.nx } σ2 H2)
def Q9 (fp:List Addr) (h:Heap):List (Addr × Obj):=fp.filterMap fun b=>(h.get? b).map fun o=>(b,o)
theorem P2 {fp:List Addr} {h:Heap} {b:Addr} {o:Obj} (hb:b ∈ fp) (e:h.get? b = some o):(b,o) ∈ Q9 fp h:=List.mem_filterMap.mpr ⟨b,hb,by rw [e]; rfl⟩
theorem ao6 {fp:List Addr} {h:Heap} {p:Addr × Obj} (hp:p ∈ Q9 fp h):p.1 ∈ fp ∧ h.get? p.1 = some p.2:=by
 obtain ⟨b,hb,e⟩:=List.mem_filterMap.mp hp
 cases q:h.get? b with
 | none=>rw [q] at e; cases e
 | some o =>
  rw [q] at e
  have e':(b,o) = p:=Option.some.inj e
  subst e'
  exact ⟨hb,q⟩
theorem Inv.pinned {pins:List (Addr × Obj)} {σ:St} {H:Hp} {s:Shared} {fp:List Addr} (I:Inv X pins σ H s) (hf:∀ b ∈ fp,af6 X pins H b) (ho:∀ b ∈ fp,∃ o,s.heap.get? b = some o ∧ ∀ v,o.data ≠ .cell v):Inv X (pins ++ Q9 fp s.heap) σ H s :=
 I.pins_of fun p hp=>(List.mem_append.mp hp).elim (fun z=>I.pin p (List.mem_append_right _ z)) fun z=>by
  obtain ⟨hb,e⟩:=ao6 z
  obtain ⟨f0,f1,f2,_⟩:=hf p.1 hb
  obtain ⟨o,e',d⟩:=ho p.1 hb
  rw [e] at e'; cases e'
  exact ⟨e,f0,f1,f2,d⟩
theorem Inv.unpinned {pins pl:List (Addr × Obj)} {σ:St} {H:Hp} {s:Shared} (I:Inv X (pins ++ pl) σ H s):Inv X pins σ H s:=I.pins_of fun p hp=>I.pin p (List.mem_append_right _ (List.mem_append_left _ hp))
theorem y8 {iter:Expr} {body:List Stmt} {wi:TI} {g:TG} {tb:TS} {pos:Pos} (hp:PassesOwn (model X.prog X.w) X.A X.env X.xe) (hc:X.calm = true) (hi:PI X tg iter wi) (hg:PG X tg g) (hb:PSs X body tb)
  (hs:∀ x,foldedSetIterable iter X.env x = pure x:=by intro _; rfl):PS X (.For tg iter body [] pos) (bo4 wi g tb):=by
 intro pins s σ H D I h
 refine wpAny_For (thn (hi pins s σ H _ I h) fun v s1 h1=>thn h1 fun itv s2 h2=>?_) hs
 obtain ⟨it,fp,tn,J,H2,e,I2,T,st2,f2,W,⟨m0,w0⟩,turn⟩:=h2
 subst e
 have stat:∀ {H':Hp},(∀ b ∈ fp,H' b = none) → ∀ b ∈ fp,af6 X pins H' b:=fun hn b hb=>⟨hn b hb,(f2 b hb).2⟩
 refine codeAny_forLoop_any (fun n s'=>∃ i σ' H',Inv X pins σ' H' s' ∧ tn i s'.heap ∧ (∀ b ∈ fp,H' b = none) ∧ W i n σ' H') ?_ m0 ⟨0,σ,H2,I2,st2,fun b hb=>(f2 b hb).1,w0⟩
 rintro n s3 ⟨i,σ3,H3,I3,st3,fr3,w3⟩
 rcases turn i n σ3 H3 w3 with ⟨stop,qn⟩ | ⟨go,N,hN,step⟩
 ·refine wpAny_passesOwn hp (thn (T.done X rfl rfl rfl hc i pins s3 σ3 H3 X.xe I3 (stat fr3) st3 stop) fun r s4 ⟨hr,I4⟩=>?_)
  subst hr
  exact wpAny_execs_nil ⟨σ3,H3,I4,qn⟩
 ·refine wpAny_passesOwn hp (thn (T.item X rfl rfl rfl hc i pins s3 σ3 H3 X.xe I3 (stat fr3) st3 go) fun r s4 ⟨u,hr,h4⟩=>?_)
  subst hr
  refine wpAny_passesOwn hp (thn h4 fun _ s5 ⟨x,H5,I5,r5,y5,st5,fr5⟩=>?_)
  have I5':=I5.pinned (stat fr5) (T.obj _ _ st5)
  refine wpAny_passesOwn hp (thn (hg _ s5 σ3 H5 x u _ I5' r5 (step x H5 y5)) fun _ s6 ⟨σ6,H6,I6,q6⟩=>?_)
  refine wpAny_passesOwn hp (thn (hb _ s6 σ6 H6 _ I6 q6) fun f s7 q7=>?_)
  have again:∀ {σ7:St} {H7:Hp},Inv X (pins ++ Q9 fp s5.heap) σ7 H7 s7 → N σ7 H7 → ∃ m,m < n ∧ ∃ i σ' H',Inv X pins σ' H' s7 ∧ tn i s7.heap ∧ (∀ b ∈ fp,H' b = none) ∧ W i m σ' H':=fun {σ7 H7} I7 n7=>by
   obtain ⟨m',hm,w7⟩:=hN σ7 H7 n7
   refine ⟨m',hm,i + 1,σ7,H7,I7.unpinned,T.keep _ _ _ st5 fun b hb o e=>(I7.pin (b,o) (List.mem_append_right _ (List.mem_append_right _ (P2 hb e)))).1,fun b hb=>?_,w7⟩
   obtain ⟨o,e,d⟩:=T.obj _ _ st5 b hb
   exact (I7.pin (b,o) (List.mem_append_right _ (List.mem_append_right _ (P2 hb e)))).2.1
  cases f with
  | next=>obtain ⟨σ7,H7,I7,n7⟩:=q7; exact again I7 n7
  | cont=>obtain ⟨σ7,H7,I7,n7⟩:=q7; exact again I7 n7
  | brk=>obtain ⟨σ7,H7,I7,q7⟩:=q7; exact ⟨σ7,H7,I7.unpinned,q7⟩
  | ret v=>obtain ⟨x7,σ7,H7,I7,r7,q7⟩:=q7; exact ⟨x7,σ7,H7,I7.unpinned,r7,q7⟩
end
theorem w6 {K:PySem.W.Frag} {a:Addr} {xs:List V} {g:TG} {tb:TS} {D:Ends} {σ:St} {H:Hp} (Pv:Nat → St → Hp → Prop) (h0:Pv 0 σ H) (hl:∀ i σ H,i ≤ xs.length → Pv i σ H → SqL K H a xs)
  (hs:∀ i x σ H,xs[i]? = some x → Pv i σ H → g x σ H fun σ2 H2=>tb { D with nx:=Pv (i + 1),ct:=Pv (i + 1),bk:=D.nx } σ2 H2) (hd:∀ σ H,Pv xs.length σ H → D.nx σ H) :
  ∃ W:Nat → Nat → St → Hp → Prop,(∃ m,W 0 m σ H) ∧ ∀ i m σ H,W i m σ H →
   ((Itl K a).stop i H ∧ D.nx σ H) ∨ ((Itl K a).go i H ∧ ∃ N:St → Hp → Prop,(∀ σ' H',N σ' H' → ∃ m',m' < m ∧ W (i + 1) m' σ' H') ∧ ∀ x H',(Itl K a).yld i H x H' → g x σ H' fun σ2 H2=>tb { D with nx:=N,ct:=N,bk:=D.nx } σ2 H2):=by
 refine ⟨fun i m σ H=>m = xs.length - i ∧ i ≤ xs.length ∧ Pv i σ H,⟨xs.length,by simp,Nat.zero_le _,h0⟩,?_⟩
 rintro i m σ H ⟨rfl,hi,p⟩
 have q:=hl i σ H hi p
 by_cases hlt:i < xs.length
 ·refine .inr ⟨⟨xs,xs[i],q,by simp [hlt]⟩,Pv (i + 1),fun σ' H' p'=>⟨xs.length - (i + 1),by lia,rfl,hlt,p'⟩,fun x H' y=>?_⟩
  obtain ⟨e,y⟩:=y
  subst e
  exact hs i x σ _ (y xs q) p
 ·have e:i = xs.length:=by lia
  subst e
  exact .inl ⟨⟨xs,q,Nat.le_refl _⟩,hd σ H p⟩
theorem aM7 {K:PySem.W.Frag} {a:Addr} {xs:List V} {g:TG} {tb:TS} {D:Ends} {σ:St} {H:Hp} (Pv:Nat → St → Hp → Prop) (h0:Pv 0 σ H) (hl:∀ i σ H,i ≤ xs.length → Pv i σ H → SqT K H a xs)
  (hs:∀ i x σ H,xs[i]? = some x → Pv i σ H → g x σ H fun σ2 H2=>tb { D with nx:=Pv (i + 1),ct:=Pv (i + 1),bk:=D.nx } σ2 H2) (hd:∀ σ H,Pv xs.length σ H → D.nx σ H) :
  ∃ W:Nat → Nat → St → Hp → Prop,(∃ m,W 0 m σ H) ∧ ∀ i m σ H,W i m σ H →
   ((Itt K a).stop i H ∧ D.nx σ H) ∨ ((Itt K a).go i H ∧ ∃ N:St → Hp → Prop,(∀ σ' H',N σ' H' → ∃ m',m' < m ∧ W (i + 1) m' σ' H') ∧ ∀ x H',(Itt K a).yld i H x H' → g x σ H' fun σ2 H2=>tb { D with nx:=N,ct:=N,bk:=D.nx } σ2 H2):=by
 refine ⟨fun i m σ H=>m = xs.length - i ∧ i ≤ xs.length ∧ Pv i σ H,⟨xs.length,by simp,Nat.zero_le _,h0⟩,?_⟩
 rintro i m σ H ⟨rfl,hi,p⟩
 have q:=hl i σ H hi p
 by_cases hlt:i < xs.length
 ·refine .inr ⟨⟨xs,xs[i],q,by simp [hlt]⟩,Pv (i + 1),fun σ' H' p'=>⟨xs.length - (i + 1),by lia,rfl,hlt,p'⟩,fun x H' y=>?_⟩
  obtain ⟨e,y⟩:=y
  subst e
  exact hs i x σ _ (y xs q) p
 ·have e:i = xs.length:=by lia
  subst e
  exact .inl ⟨⟨xs,q,Nat.le_refl _⟩,hd σ H p⟩
theorem O2 {lo:Int} {n:Nat} {g:TG} {tb:TS} {D:Ends} {σ:St} {H:Hp} (Pv:Nat → St → Hp → Prop) (h0:Pv 0 σ H)
  (hs:∀ i σ H,i < n → Pv i σ H → g (.int (lo + i)) σ H fun σ2 H2=>tb { D with nx:=Pv (i + 1),ct:=Pv (i + 1),bk:=D.nx } σ2 H2) (hd:∀ σ H,Pv n σ H → D.nx σ H) :
  ∃ W:Nat → Nat → St → Hp → Prop,(∃ m,W 0 m σ H) ∧ ∀ i m σ H,W i m σ H →
   ((Itr lo n).stop i H ∧ D.nx σ H) ∨ ((Itr lo n).go i H ∧ ∃ N:St → Hp → Prop,(∀ σ' H',N σ' H' → ∃ m',m' < m ∧ W (i + 1) m' σ' H') ∧ ∀ x H',(Itr lo n).yld i H x H' → g x σ H' fun σ2 H2=>tb { D with nx:=N,ct:=N,bk:=D.nx } σ2 H2):=by
 refine ⟨fun i m σ H=>m = n - i ∧ i ≤ n ∧ Pv i σ H,⟨n,by simp,Nat.zero_le _,h0⟩,?_⟩
 rintro i m σ H ⟨rfl,hi,p⟩
 by_cases hlt:i < n
 ·refine .inr ⟨hlt,Pv (i + 1),fun σ' H' p'=>⟨n - (i + 1),by lia,rfl,hlt,p'⟩,fun x H' y=>?_⟩
  obtain ⟨e,y⟩:=y
  subst e y
  exact hs i σ _ hlt p
 ·have e:i = n:=by lia
  subst e
  exact .inl ⟨Nat.le_refl _,hd σ H p⟩
end L2
namespace L2
open PySem PySem.Spec PyProof.Rows
abbrev R2:=V → V → Hp → VK → Prop
def OpR (X:Cx) (f:Value → Value → Sem Value) (r:R2):Prop :=
 ∀ (pins:List (Addr × Obj)) (s:Shared) (σ:St) (H:Hp) (x y:V) (v u:Value) (Q:VK),Inv X pins σ H s → t6 x v → t6 y u → r x y H Q →
  wpAny (model X.prog X.w) X.A (f v u) (EP X pins σ Q) X.xe s
def y4 (X:Cx) (f:Value) (r:List V → Hp → VK → Prop):Prop :=
 ∀ (pins:List (Addr × Obj)) (s:Shared) (σ:St) (H:Hp) (xs:List V) (us:List Value) (Q:VK),Inv X pins σ H s → r6 xs us → r xs H Q →
  wpAny (model X.prog X.w) X.A (call f us) (EP X pins σ Q) X.xe s
def bk3 (X:Cx) (r:V → Hp → (Bool → Hp → Prop) → Prop):Prop :=
 ∀ (pins:List (Addr × Obj)) (s:Shared) (σ:St) (H:Hp) (x:V) (v:Value) (Q:Bool → Hp → Prop),Inv X pins σ H s → t6 x v → r x H Q →
  wpAny (model X.prog X.w) X.A (truthy v) (TP X pins σ Q) X.xe s
def tOp (r:R2) (ta tb:TE):TE:=fun σ H Q=>ta σ H fun x H1=>tb σ H1 fun y H2=>r x y H2 Q
def rI (C:Int → Int → Prop) (g:Int → Int → V):R2:=fun x y H Q=>∃ i j,x = .int i ∧ y = .int j ∧ C i j ∧ Q (g i j) H
def rI0 (g:Int → Int → V):R2:=fun x y H Q=>∃ i j,x = .int i ∧ y = .int j ∧ Q (g i j) H
section
variable {X:Cx} {a b c:Expr} {ta tb tc:TE} {pos:Pos}
theorem bf5 (ha:PE X a ta) (hb:PE X b tb) {pins:List (Addr × Obj)} {s:Shared} {σ:St} {H:Hp} {R:V → V → Hp → Prop} (I:Inv X pins σ H s)
  (h:ta σ H fun x H1=>tb σ H1 fun y H2=>R x y H2) {Q:Value → Shared → Prop} {f:Value → Value → Sem Value}
  (hf:∀ v u s2 x y H2,Inv X pins σ H2 s2 → t6 x v → t6 y u → R x y H2 → wpAny (model X.prog X.w) X.A (f v u) Q X.xe s2) :
  wpAny (model X.prog X.w) X.A (eval a X.env) (fun v s₁=>wpAny (model X.prog X.w) X.A (eval b X.env) (fun u s₂=>wpAny (model X.prog X.w) X.A (f v u) Q X.xe s₂) X.xe s₁) X.xe s:=by
 refine thn (ha pins s σ H _ I h) fun v s1 ⟨x,H1,I1,r1,q1⟩=>?_
 refine thn (hb pins s1 σ H1 _ I1 q1) fun u s2 ⟨y,H2,I2,r2,q2⟩=>?_
 exact hf v u s2 x y H2 I2 r1 r2 q2
theorem m6 {op:Operator} {r:R2} (ho:OpR X (binaryOp op) r) (ha:PE X a ta) (hb:PE X b tb):PE X (.BinOp a op b pos) (tOp r ta tb):=by
 intro pins s σ H Q I h
 exact wpAny_BinOp (bf5 ha hb I h fun v u s2 x y H2 I2 rx ry q=>ho pins s2 σ H2 x y v u Q I2 rx ry q)
theorem opI {f:Value → Value → Sem Value} {C:Int → Int → Prop} {g:Int → Int → Int}
  (rule:∀ (i j:Int) (t u:Tok) (s:Shared) (Q:Value → Shared → Prop) (E:Value → Shared → Prop),C i j → Q (.int (g i j) s.toks) { s with toks:=s.toks + 1 } → wpAny (model X.prog X.w) X.A (f (.int i t) (.int j u)) Q E s) :
  OpR X f (rI C fun i j=>.int (g i j)):=by
 intro pins s σ H x y v u Q I rx ry h
 obtain ⟨i,j,rfl,rfl,hc,q⟩:=h
 obtain ⟨t,rfl⟩:=rx
 obtain ⟨t',rfl⟩:=ry
 exact rule i j t t' s _ _ hc ⟨.int (g i j),H,I.tok _,⟨_,rfl⟩,q⟩
theorem aW0 {f:Value → Value → Sem Value} {g:Int → Int → Int}
  (rule:∀ (i j:Int) (t u:Tok) (s:Shared) (Q:Value → Shared → Prop) (E:Value → Shared → Prop),Q (.int (g i j) s.toks) { s with toks:=s.toks + 1 } → wpAny (model X.prog X.w) X.A (f (.int i t) (.int j u)) Q E s) :
  OpR X f (rI0 fun i j=>.int (g i j)):=by
 intro pins s σ H x y v u Q I rx ry h
 obtain ⟨i,j,rfl,rfl,q⟩:=h
 obtain ⟨t,rfl⟩:=rx
 obtain ⟨t',rfl⟩:=ry
 exact rule i j t t' s _ _ ⟨.int (g i j),H,I.tok _,⟨_,rfl⟩,q⟩
theorem be7 {f:Value → Value → Sem Value} {g:Int → Int → Bool}
  (rule:∀ (i j:Int) (t u:Tok) (s:Shared) (Q:Value → Shared → Prop) (E:Value → Shared → Prop),Q (.bool (g i j)) s → wpAny (model X.prog X.w) X.A (f (.int i t) (.int j u)) Q E s) :
  OpR X f (rI0 fun i j=>.bl (g i j)):=by
 intro pins s σ H x y v u Q I rx ry h
 obtain ⟨i,j,rfl,rfl,q⟩:=h
 obtain ⟨t,rfl⟩:=rx
 obtain ⟨t',rfl⟩:=ry
 exact rule i j t t' s _ _ ⟨.bl (g i j),H,I,rfl,q⟩
def bm5 (i j:Int):Prop:=0 < j ∧ j < 1073741824
def bm0 (i j:Int):Prop:=0 ≤ j ∧ j ≤ 1000000 ∧ i.natAbs < 2 ^ 64
def be1 (i j:Int):Prop:=(-(2 ^ 64) < i ∧ i < 2 ^ 64) ∨ (-(2 ^ 64) < j ∧ j < 2 ^ 64)
theorem be1.ok {i j:Int} (h:be1 i j):IntMulOk i j:=by
 rcases h with ⟨h1,h2⟩ | ⟨h1,h2⟩
 ·exact .of_left (intBits_le_64 h1 h2)
 ·exact .of_right (intBits_le_64 h1 h2)
theorem aG9 (k:Nat):(0:Int) ≤ 2 ^ k:=by
 rw [two_pow_cast]
 exact Int.natCast_nonneg _
theorem J9:OpR X (binaryOp .Add) (rI0 fun i j=>.int (i + j)):=aW0 fun _ _ _ _ _ _ _ q=>add_int q
theorem Z3:OpR X (binaryOp .Sub) (rI0 fun i j=>.int (i - j)):=aW0 fun _ _ _ _ _ _ _ q=>sub_int q
theorem C6:OpR X (binaryOp .Mult) (rI be1 fun i j=>.int (i * j)):=opI fun _ _ _ _ _ _ _ hc q=>mul_int q hc.ok
theorem T6:OpR X (binaryOp .FloorDiv) (rI bm5 fun i j=>.int (i / j)):=opI fun i j _ _ _ _ _ hc q=>by
 have h1:(0:Int) < j:=hc.1
 have h2:j < 1073741824:=hc.2
 exact floordiv_int (by lia) (by rw [Int.fdiv_eq_ediv_of_nonneg i (by lia)]; exact q) (.inl (PyProof.noPylong_small (by lia)))
theorem E8:OpR X (binaryOp .Mod) (rI (fun _ j=>0 < j) fun i j=>.int (i % j)):=opI fun i j _ _ _ _ _ hc q=>by
 have h1:(0:Int) < j:=hc
 exact mod_int' (by lia) (by rw [Int.fmod_eq_emod_of_nonneg i (by lia)]; exact q)
theorem bh4:OpR X (binaryOp .Pow) (rI bm0 fun i j=>.int (i ^ j.toNat)):=opI fun _ _ _ _ _ _ _ hc q=>pow_int_small hc.1 hc.2.1 hc.2.2 q
theorem aH7:OpR X (binaryOp .LShift) (rI bm0 fun i j=>.int (i * 2 ^ j.toNat)):=opI fun _ _ _ _ _ _ _ hc q=>lshift_int_small hc.1 hc.2.1 hc.2.2 q
theorem ai2:OpR X (binaryOp .RShift) (rI (fun _ j=>0 ≤ j) fun i j=>.int (i / 2 ^ j.toNat)):=opI fun i j _ _ _ _ _ hc q =>
 rshift_int hc (by rw [Int.fdiv_eq_ediv_of_nonneg i (aG9 _)]; exact q)
theorem ai9:OpR X (binaryOp .BitAnd) (rI0 fun i j=>.int (Builtin.bitAnd i j)):=aW0 fun _ _ _ _ _ _ _ q=>and_int q
theorem bn0:OpR X (binaryOp .BitOr) (rI0 fun i j=>.int (Builtin.bitOr i j)):=aW0 fun _ _ _ _ _ _ _ q=>or_int q
theorem bj4:OpR X (inplaceOp .BitOr) (rI0 fun i j=>.int (Builtin.bitOr i j)):=aW0 fun _ _ _ _ _ _ _ q=>ior_int q
end
def bl7:V → V → Bool
 | .non,.non=>true | .non,.int _=>true | .int _,.non=>true | .non,.bl _=>true | .bl _,.non=>true | .non,.str _=>true | .str _,.non=>true
 | .int _,.int _=>true | .bl _,.bl _=>true | .str _,.str _=>true | .byt _,.byt _=>true
 | .int _,.str _=>true | .str _,.int _=>true | .bl _,.str _=>true | .str _,.bl _=>true
 | _,_=>false
def rEq:R2:=fun x y H Q=>bl7 x y = true ∧ Q (.bl (decide (x = y))) H
def rNe:R2:=fun x y H Q=>bl7 x y = true ∧ Q (.bl (!decide (x = y))) H
theorem aP6 {i j:Int}:decide (V.int i = V.int j) = (i == j):=by
 rw [Bool.eq_iff_iff]
 simp
theorem a75 {i j:Bool}:decide (V.bl i = V.bl j) = (i == j):=by
 rw [Bool.eq_iff_iff]
 simp
theorem aM8 {i j:Str}:decide (V.str i = V.str j) = (i == j):=by
 rw [Bool.eq_iff_iff]
 simp
theorem aO6 {i j:Array UInt8}:decide (V.byt i = V.byt j) = (i.toList == j.toList):=by
 rw [Bool.eq_iff_iff]
 cases i
 cases j
 simp
section
variable {X:Cx} {a b c:Expr} {ta tb tc:TE} {pos:Pos}
theorem u9 {pins:List (Addr × Obj)} {σ:St} {H:Hp} {s:Shared} {Q:VK} {k k':Bool} (I:Inv X pins σ H s) (q:Q (.bl k) H) (e:k = k'):EP X pins σ Q (.bool k') s:=by
 subst e
 exact ⟨.bl k,H,I,rfl,q⟩
theorem D1:OpR X (compareOp .Eq) rEq:=by
 intro pins s σ H x y v u Q I rx ry h
 obtain ⟨hs,q⟩:=h
 cases x with
 | non =>
  cases rx
  cases y with
  | non=>cases ry; exact PySem.EqNone.eq_none_none (u9 I q (by simp))
  | bl j=>cases ry; exact PySem.EqNone.eq_none_bool (u9 I q (by simp))
  | int j=>obtain ⟨t',rfl⟩:=ry; exact PySem.EqNone.eq_none_int (u9 I q (by simp))
  | str j=>obtain ⟨t',rfl⟩:=ry; exact PySem.EqNone.eq_none_str (u9 I q (by simp))
  | _=>exact absurd (show false = true from hs) Bool.false_ne_true
 | bl i =>
  cases rx
  cases y with
  | non=>cases ry; exact PySem.EqNone.eq_bool_none (u9 I q (by simp))
  | bl j=>cases ry; exact eq_bool (u9 I q a75)
  | str j=>obtain ⟨t',rfl⟩:=ry; exact PySem.EqMixed.eq_bool_str (u9 I q (by simp))
  | _=>exact absurd (show false = true from hs) Bool.false_ne_true
 | int i =>
  obtain ⟨t,rfl⟩:=rx
  cases y with
  | non=>cases ry; exact PySem.EqNone.eq_int_none (u9 I q (by simp))
  | int j=>obtain ⟨t',rfl⟩:=ry; exact eq_int (u9 I q aP6)
  | str j=>obtain ⟨t',rfl⟩:=ry; exact PySem.EqMixed.eq_int_str (u9 I q (by simp))
  | _=>exact absurd (show false = true from hs) Bool.false_ne_true
 | str i =>
  obtain ⟨t,rfl⟩:=rx
  cases y with
  | non=>cases ry; exact PySem.EqNone.eq_str_none (u9 I q (by simp))
  | bl j=>cases ry; exact PySem.EqMixed.eq_str_bool (u9 I q (by simp))
  | int j=>obtain ⟨t',rfl⟩:=ry; exact PySem.EqMixed.eq_str_int (u9 I q (by simp))
  | str j=>obtain ⟨t',rfl⟩:=ry; exact eq_str (u9 I q aM8)
  | _=>exact absurd (show false = true from hs) Bool.false_ne_true
 | byt i =>
  obtain ⟨t,rfl⟩:=rx
  cases y with
  | byt j=>obtain ⟨t',rfl⟩:=ry; exact PySem.W.eq_bytes (u9 I q aO6)
  | _=>exact absurd (show false = true from hs) Bool.false_ne_true
 | _=>cases y <;> exact absurd (show false = true from hs) Bool.false_ne_true
theorem aO4:OpR X (compareOp .NotEq) rNe:=by
 intro pins s σ H x y v u Q I rx ry h
 obtain ⟨hs,q⟩:=h
 cases x with
 | non =>
  cases rx
  cases y with
  | non=>cases ry; exact PySem.EqNone.ne_none_none (u9 I q (by simp))
  | bl j=>cases ry; exact PySem.EqNone.ne_none_bool (u9 I q (by simp))
  | int j=>obtain ⟨t',rfl⟩:=ry; exact PySem.EqNone.ne_none_int (u9 I q (by simp))
  | str j=>obtain ⟨t',rfl⟩:=ry; exact PySem.EqNone.ne_none_str (u9 I q (by simp))
  | _=>exact absurd (show false = true from hs) Bool.false_ne_true
 | bl i =>
  cases rx
  cases y with
  | non=>cases ry; exact PySem.EqNone.ne_bool_none (u9 I q (by simp))
  | bl j=>cases ry; exact ne_bool (u9 I q (congrArg not a75))
  | str j=>obtain ⟨t',rfl⟩:=ry; exact PySem.EqMixed.ne_bool_str (u9 I q (by simp))
  | _=>exact absurd (show false = true from hs) Bool.false_ne_true
 | int i =>
  obtain ⟨t,rfl⟩:=rx
  cases y with
  | non=>cases ry; exact PySem.EqNone.ne_int_none (u9 I q (by simp))
  | int j=>obtain ⟨t',rfl⟩:=ry; exact ne_int (u9 I q (congrArg not aP6))
  | str j=>obtain ⟨t',rfl⟩:=ry; exact PySem.EqMixed.ne_int_str (u9 I q (by simp))
  | _=>exact absurd (show false = true from hs) Bool.false_ne_true
 | str i =>
  obtain ⟨t,rfl⟩:=rx
  cases y with
  | non=>cases ry; exact PySem.EqNone.ne_str_none (u9 I q (by simp))
  | bl j=>cases ry; exact PySem.EqMixed.ne_str_bool (u9 I q (by simp))
  | int j=>obtain ⟨t',rfl⟩:=ry; exact PySem.EqMixed.ne_str_int (u9 I q (by simp))
  | str j=>obtain ⟨t',rfl⟩:=ry; exact ne_str (u9 I q (congrArg not aM8))
  | _=>exact absurd (show false = true from hs) Bool.false_ne_true
 | byt i =>
  obtain ⟨t,rfl⟩:=rx
  cases y with
  | byt j=>obtain ⟨t',rfl⟩:=ry; exact PySem.W.ne_bytes (u9 I q (congrArg not aO6))
  | _=>exact absurd (show false = true from hs) Bool.false_ne_true
 | _=>cases y <;> exact absurd (show false = true from hs) Bool.false_ne_true
theorem aO8:OpR X (compareOp .Lt) (rI0 fun i j=>.bl (decide (i < j))):=be7 fun _ _ _ _ _ _ _ q=>lt_int q
theorem ay8:OpR X (compareOp .LtE) (rI0 fun i j=>.bl (decide (i ≤ j))):=be7 fun _ _ _ _ _ _ _ q=>le_int q
theorem bd8:OpR X (compareOp .Gt) (rI0 fun i j=>.bl (decide (j < i))):=be7 fun _ _ _ _ _ _ _ q=>gt_int q
theorem W8:OpR X (compareOp .Is) (fun x y H Q=>y = .non ∧ Q (.bl (decide (x = .non))) H):=by
 intro pins s σ H x y v u Q I rx ry h
 obtain ⟨rfl,q⟩:=h
 cases ry
 refine is_none_gen (u9 I q ?_)
 cases x <;> first
  | (cases rx; rfl)
  | (obtain ⟨t,rfl⟩:=rx; rfl)
theorem U0:OpR X (compareOp .IsNot) (fun x y H Q=>y = .non ∧ Q (.bl (!decide (x = .non))) H):=by
 intro pins s σ H x y v u Q I rx ry h
 obtain ⟨rfl,q⟩:=h
 cases ry
 refine isnot_none_gen (u9 I q ?_)
 cases x <;> first
  | (cases rx; rfl)
  | (obtain ⟨t,rfl⟩:=rx; rfl)
theorem n9 (b:Expr) {op:CmpOp} (h:op ≠ .In:=by decide) (h2:op ≠ .NotIn:=by decide):behindInMarks op b = false:=by
 have e1:(op == CmpOp.In) = false:=by cases op <;> first | rfl | exact absurd rfl h
 have e2:(op == CmpOp.NotIn) = false:=by cases op <;> first | rfl | exact absurd rfl h2
 cases b <;> simp [behindInMarks,e1,e2]
theorem F4 {op:CmpOp} {r:R2} (ho:OpR X (compareOp op) r) (ha:PE X a ta) (hb:PE X b tb) (hm:behindInMarks op b = false):PE X (.Compare a [op] [b] pos) (tOp r ta tb):=by
 intro pins s σ H Q I h
 exact wpAny_Compare1 (bf5 ha hb I h fun v u s2 x y H2 I2 rx ry q=>ho pins s2 σ H2 x y v u Q I2 rx ry q) hm
def bd4 (t:TE):TT:=fun σ H Q=>t σ H fun x H'=>∃ k,x = .bl k ∧ Q k H'
theorem m5 {op:CmpOp} {r:R2} (ho:OpR X (compareOp op) r) (ha:PE X a ta) (hb:PE X b tb) (hm:behindInMarks op b = false):PT X (.Compare a [op] [b] pos) (bd4 (tOp r ta tb)):=by
 intro pins s σ H Q I h
 refine wpAny_isTrue_Compare1 (thn (ha pins s σ H _ I h) fun v s1 ⟨x,H1,I1,r1,q1⟩=>thn (hb pins s1 σ H1 _ I1 q1) fun u s2 ⟨y,H2,I2,r2,q2⟩ =>
  thn (ho pins s2 σ H2 x y v u _ I2 r1 r2 q2) fun c s3 ⟨z,H3,I3,r3,k,e,q3⟩=>?_) hm
 subst e
 cases r3
 exact wpAny_truthy_bool ⟨H3,I3,q3⟩
def a59 (r r':R2) (ta tb tc:TE):TE:=fun σ H Q=>ta σ H fun x H1=>tb σ H1 fun y H2=>r x y H2 fun z H3=>∃ k,z = .bl k ∧
 (if k = true then tc σ H3 fun w' H4=>r' y w' H4 Q else Q (.bl false) H3)
theorem a77 {op op':CmpOp} {r r':R2} (ho:OpR X (compareOp op) r) (ho':OpR X (compareOp op') r') (ha:PE X a ta) (hb:PE X b tb) (hc:PE X c tc)
  (hm:lastMarks [op,op'] [b,c] = false:=by with_unfolding_all rfl):PE X (.Compare a [op,op'] [b,c] pos) (a59 r r' ta tb tc):=by
 intro pins s σ H Q I h
 refine Compare_chain (thn (ha pins s σ H _ I h) fun v s1 ⟨x,H1,I1,r1,q1⟩=>chain_link (thn (hb pins s1 σ H1 _ I1 q1) fun u s2 ⟨y,H2,I2,r2,q2⟩ =>
  thn (ho pins s2 σ H2 x y v u _ I2 r1 r2 q2) fun d s3 ⟨z,H3,I3,r3,k,e,q3⟩=>?_)) hm
 subst e
 cases r3
 refine wpAny_truthy_bool ?_
 cases k with
 | false=>exact ite_ff ⟨.bl false,H3,I3,rfl,q3⟩
 | true=>exact ite_tt (chain_last (thn (hc pins s3 σ H3 _ I3 q3) fun w' s4 ⟨z',H4,I4,r4,q4⟩=>ho' pins s4 σ H4 y z' u w' Q I4 r2 r4 q4))
theorem aD1 {op op':CmpOp} {r r':R2} (ho:OpR X (compareOp op) r) (ho':OpR X (compareOp op') r') (ha:PE X a ta) (hb:PE X b tb) (hc:PE X c tc)
  (hm:lastMarks [op,op'] [b,c] = false:=by with_unfolding_all rfl):PT X (.Compare a [op,op'] [b,c] pos) (bd4 (a59 r r' ta tb tc)):=by
 intro pins s σ H Q I h
 refine isTrue_chain (thn (ha pins s σ H _ I h) fun v s1 ⟨x,H1,I1,r1,q1⟩=>test_link (thn (hb pins s1 σ H1 _ I1 q1) fun u s2 ⟨y,H2,I2,r2,q2⟩ =>
  thn (ho pins s2 σ H2 x y v u _ I2 r1 r2 q2) fun d s3 ⟨z,H3,I3,r3,k,e,q3⟩=>?_)) hm
 subst e
 cases r3
 refine wpAny_truthy_bool ?_
 cases k with
 | false =>
  obtain ⟨k',e',q'⟩:=q3
  cases e'
  exact ite_ff ⟨H3,I3,q'⟩
 | true =>
  refine ite_tt (test_last (thn (hc pins s3 σ H3 _ I3 q3) fun w' s4 ⟨z',H4,I4,r4,q4⟩=>thn (ho' pins s4 σ H4 y z' u w' _ I4 r2 r4 q4) fun d' s5 ⟨z2,H5,I5,r5,k2,e2,q5⟩=>?_))
  subst e2
  cases r5
  exact wpAny_truthy_bool ⟨H5,I5,q5⟩
def bj6 (K:PySem.W.Frag) (x:V) (H:Hp) (k:Bool):Prop :=
 match x with
 | .non=>k = false
 | .bl b=>k = b
 | .int i=>k = (i != 0)
 | .str y=>y.length ≤ sizeLine ∧ k = ((y.length:Int) != 0)
 | .byt y=>y.size ≤ sizeLine ∧ k = ((y.size:Int) != 0)
 | .ref p=>(∃ xs,SqL K H p xs ∧ k = !xs.isEmpty) ∨ (∃ xs,SqT K H p xs ∧ k = !xs.isEmpty) ∨ ∃ kvs,H p = some (.dK kvs) ∧ k = !kvs.isEmpty
 | _=>False
theorem aK3 {κ:Type} {kvs:List (κ × V)} {vs:List (κ × Value)} (r:KV kvs vs):(!vs.isEmpty) = !kvs.isEmpty:=by
 cases r <;> rfl
theorem aj8 {xs:List V} {its:List Value} (r:r6 xs its):(!its.toArray.isEmpty) = !xs.isEmpty:=by
 cases r <;> simp
theorem X0:(sizeLine:Nat) < 2 ^ 63:=by rw [sizeLine_eq]; decide
theorem bi7:bk3 X (fun x H Q=>∃ k,bj6 X.K x H k ∧ Q k H):=by
 intro pins s σ H x v Q I rx h
 obtain ⟨k,e,q⟩:=h
 have hl:=X0
 have hs:sizeLine = 16777216:=sizeLine_eq
 cases x with
 | non =>
  cases rx
  have e':k = false:=e
  subst e'
  exact truthy_none ⟨H,I,q⟩
 | bl b =>
  cases rx
  have e':k = b:=e
  subst e'
  exact wpAny_truthy_bool ⟨H,I,q⟩
 | int i =>
  obtain ⟨t,rfl⟩:=rx
  have e':k = (i != 0):=e
  subst e'
  exact PySem.P.truthy_int ⟨H,I,q⟩
 | str y =>
  obtain ⟨t,rfl⟩:=rx
  obtain ⟨hy,e'⟩:y.length ≤ sizeLine ∧ k = ((y.length:Int) != 0):=e
  subst e'
  exact PySem.P.truthy_str (by lia) ⟨H,I.tok _,q⟩
 | byt y =>
  obtain ⟨t,rfl⟩:=rx
  obtain ⟨hy,e'⟩:y.size ≤ sizeLine ∧ k = ((y.size:Int) != 0):=e
  subst e'
  exact PySem.W.truthy_bytes (by lia) ⟨H,I.tok _,q⟩
 | ref p =>
  cases rx
  have e':(∃ xs,SqL X.K H p xs ∧ k = !xs.isEmpty) ∨ (∃ xs,SqT X.K H p xs ∧ k = !xs.isEmpty) ∨ ∃ kvs,H p = some (.dK kvs) ∧ k = !kvs.isEmpty:=e
  rcases e' with ⟨xs,hx,e'⟩ | ⟨xs,hx,e'⟩ | ⟨kvs,hx,e'⟩
  ·subst e'
   obtain ⟨its,r,pl,hz⟩:=I.list hx
   have hlen:=r.length
   exact wpAny_truthy_list pl.isList (by simp only [List.size_toArray]; lia) ⟨H,I.tok _,by rw [aj8 r]; exact q⟩
  ·subst e'
   obtain ⟨its,r,pl,hz⟩:=I.tuple hx
   have hlen:=r.length
   exact truthy_tuple pl (by simp only [List.size_toArray]; lia) ⟨H,I.tok _,by rw [aj8 r]; exact q⟩
  ·subst e'
   obtain ⟨hz,hS,vs,r,m⟩:kvs.length ≤ sizeLine ∧ (p == sysModules) = false ∧ ∃ vs,KV kvs vs ∧ s.heap.DictOf (u7 X.prog X.w) p vs:=I.hok p _ hx
   have hlen:kvs.length = vs.length:=Paired.length r
   exact wpAny_truthy_dict hS m (by lia) ⟨H,I.tok _,by rw [aK3 r]; exact q⟩
 | _=>exact (show False from e).elim
theorem a56 (ha:PE X a ta) (he:∀ whole,isTrue a X.env whole = (do let v ← whole; standAt a.pos; holding [v] (truthy v))) :
  PT X a (fun σ H Q=>ta σ H fun x H'=>∃ k,bj6 X.K x H' k ∧ Q k H'):=by
 intro pins s σ H Q I h
 exact isTrue_plain (thn (ha pins s σ H _ I h) fun v s1 ⟨x,H1,I1,r1,q1⟩=>bi7 pins s1 σ H1 x v Q I1 r1 q1) (he _)
theorem J5 {x:V} {us:List Value} (r:r6 [x] us):∃ u,us = [u] ∧ t6 x u:=by
 cases r with
 | cons r1 r2=>cases r2; exact ⟨_,rfl,r1⟩
theorem ac5 {x y:V} {us:List Value} (r:r6 [x,y] us):∃ u w',us = [u,w'] ∧ t6 x u ∧ t6 y w':=by
 cases r with
 | cons r1 r2 =>
  cases r2 with
  | cons r3 r4=>cases r4; exact ⟨_,_,rfl,r1,r3⟩
theorem aW9:y4 X (.builtin "abs") (fun xs H Q=>∃ i,xs = [.int i] ∧ Q (.int (if i < 0 then -i else i)) H):=by
 intro pins s σ H xs us Q I r h
 obtain ⟨i,rfl,q⟩:=h
 obtain ⟨u,rfl,t,rfl⟩:=J5 r
 exact call_abs_int fun u tk=>⟨.int (if i < 0 then -i else i),H,I.tok _,⟨_,rfl⟩,q⟩
theorem aQ8 (hc:X.calm = true):y4 X (.builtin "max") (fun xs H Q=>∃ i j,xs = [.int i,.int j] ∧ Q (.int (if j > i then j else i)) H):=by
 intro pins s σ H xs us Q I r h
 obtain ⟨i,j,rfl,q⟩:=h
 obtain ⟨u,w',rfl,⟨t,rfl⟩,⟨t',rfl⟩⟩:=ac5 r
 refine max_two_ints (I.ok.hd hc) fun h' tk k=>⟨_,H,I.kept k,?_,q⟩
 by_cases hj:j > i
 ·rw [if_pos hj,if_pos hj]; exact ⟨_,rfl⟩
 ·rw [if_neg hj,if_neg hj]; exact ⟨_,rfl⟩
theorem aS4 (hc:X.calm = true):y4 X (.builtin "min") (fun xs H Q=>∃ i j,xs = [.int i,.int j] ∧ Q (.int (if j < i then j else i)) H):=by
 intro pins s σ H xs us Q I r h
 obtain ⟨i,j,rfl,q⟩:=h
 obtain ⟨u,w',rfl,⟨t,rfl⟩,⟨t',rfl⟩⟩:=ac5 r
 refine min_two_ints (I.ok.hd hc) fun h' tk k=>⟨_,H,I.kept k,?_,q⟩
 by_cases hj:j < i
 ·rw [if_pos hj,if_pos hj]; exact ⟨_,rfl⟩
 ·rw [if_neg hj,if_neg hj]; exact ⟨_,rfl⟩
theorem aS2:y4 X (.type "int") (fun xs H Q=>(∃ i,xs = [.int i] ∧ Q (.int i) H) ∨ ∃ k,xs = [.bl k] ∧ Q (.int (if k then 1 else 0)) H):=by
 intro pins s σ H xs us Q I r h
 rcases h with ⟨i,rfl,q⟩ | ⟨k,rfl,q⟩
 ·obtain ⟨u,rfl,t,rfl⟩:=J5 r
  exact call_int_int ⟨.int i,H,I,⟨_,rfl⟩,q⟩
 ·obtain ⟨u,rfl,r1⟩:=J5 r
  cases r1
  exact call_int_bool ⟨.int (if k then 1 else 0),H,I.tok _,⟨_,rfl⟩,q⟩
theorem ac2:y4 X (.builtin "divmod") (fun xs H Q=>∃ i j,xs = [.int i,.int j] ∧ bm5 i j ∧ ∀ p,H p = none → Q (.ref p) (upd H p (.tup [.int (i / j),.int (i % j)]))):=by
 intro pins s σ H xs us Q I r h
 obtain ⟨i,j,rfl,⟨h1,h2⟩,q⟩:=h
 obtain ⟨u,w',rfl,⟨t,rfl⟩,⟨t',rfl⟩⟩:=ac5 r
 refine divmod_int (by lia) ?_ (.inl (PyProof.noPylong_small (by lia)))
 rw [Int.fdiv_eq_ediv_of_nonneg i (by lia),Int.fmod_eq_emod_of_nonneg i (by lia)]
 have hn:H s.heap.objs.size = none:=I.hok.fresh (Nat.le_refl _)
 refine ⟨.ref s.heap.objs.size,_,?_,rfl,q _ hn⟩
 refine I.laid (fun b o e=>Heap.get?_push_of_some _ e) (Nat.le_refl _) ⟨by simp only [List.length_cons,List.length_nil]; rw [sizeLine_eq]; decide,[.int (i / j) s.toks,.int (i % j) (s.toks + 1)],.cons ⟨_,rfl⟩ (.cons ⟨_,rfl⟩ .nil),?_⟩
 exact ⟨_,Heap.get?_push_size s.heap rfl,rfl,0,rfl⟩
end
end L2
namespace L2
open PySem PySem.Spec PyProof.Rows
structure ObjM (h:Heap) (x dx C:Addr) (mA:Str → Option Value):Prop where
 obj:h.get? x = some (PySem.W.instObj C dx)
 ns:h.Ns1 dx mA
 ne:dx ≠ x
theorem aT4 {h:Heap} {dx:Addr} {mA:Str → Option Value} (n:h.Ns1 dx mA):∃ od,h.get? dx = some od ∧ ∀ name,PySem.W.lookIn name od = some (mA name):=by
 obtain ⟨o,es,ep,ho,hd,hk,_,hm⟩:=n
 refine ⟨o,ho,fun name=>?_⟩
 have e:=hm name
 unfold nsFind findBy at e
 rw [← Array.find?_toList] at e
 unfold PySem.W.lookIn
 rw [hd]
 dsimp only
 split
 ·rename_i y q
  rw [q] at e
  exact congrArg some e
 ·rename_i q
  rw [q] at e
  have a:es.toList.any (·.refKey) = false:=by
   rw [List.any_eq_false]
   intro y hy
   obtain ⟨z,t,hkey⟩:=hk y (Array.mem_toList_iff.mp hy)
   simp [DictEntry.refKey,hkey]
  have a':¬ es.toList.any (·.refKey) = true:=by rw [a]; exact Bool.false_ne_true
  rw [if_neg a']
  exact congrArg some e
theorem ObjM.look {h:Heap} {x dx C:Addr} {mA:Str → Option Value} (I:ObjM h x dx C mA):∃ od,PySem.W.InstAt h x (PySem.W.instObj C dx) C (some od) ∧ ∀ name,PySem.W.lookIn name od = some (mA name) :=
 let ⟨od,ho,hl⟩:=aT4 I.ns
 ⟨od,⟨I.obj,rfl,rfl,ho⟩,hl⟩
section
variable {P:Program} {w:World} {H H':Hp} {h h':Heap} {a C dx:Addr} {fs fs':List (Str × V)}
theorem aN0 (hok:HOk P w H h) (e:H a = some (.ins C dx fs)):∃ mA,ObjM h a dx C mA ∧ (∀ f,aw2 (fs.lookup f) (mA f)) ∧ PySem.Within mA (fs.map (·.1)) ∧ fs.length ≤ 1000 ∧ H dx = some (.own a):=by
 obtain ⟨d,z,ne,ob,mA,n,r,q⟩:=(show x6 P w H h a (.ins C dx fs) from hok a _ e)
 exact ⟨mA,⟨ob,n,ne⟩,r,q,z,d⟩
end
structure Cls (K:PySem.W.Frag) (C:Addr):Prop where
 pg:PySem.W.plainGet K C Str.empty = true
 hd:PySem.W.hasDictIn K C = true
 po:PySem.W.plainOver K C = true
 sa:PySem.W.findIn K (.ref C) "__setattr__" = some (some (.builtin "object.__setattr__"))
theorem Cls.get {K:PySem.W.Frag} {C:Addr} (c:Cls K C) (f:Str):PySem.W.plainGet K C f = true:=c.pg
section
variable {X:Cx} {pins:List (Addr × Obj)} {σ:St} {H:Hp} {s:Shared} {A:Around} {E:Value → Shared → Prop} {Q:Value → Shared → Prop} {c:Value} {b:Bool}
inductive TyOf (K:PySem.W.Frag) (H:Hp):V → Value → Prop where
 | non:TyOf K H .non (.type "NoneType")
 | bl (x:Bool):TyOf K H (.bl x) (.type "bool")
 | int (i:Int):TyOf K H (.int i) (.type "int")
 | str (x:Str):TyOf K H (.str x) (.type "str")
 | flt (x:UInt64):TyOf K H (.flt x) (.type "float")
 | lst {a:Addr} {xs:List V} (e:H a = some (.lst xs)):TyOf K H (.ref a) (.type "list")
 | frz {a:Addr} {o:Obj} {xs:List V} (e:H a = some (.frz o (.lst xs))):TyOf K H (.ref a) (.type "list")
 | tup {a:Addr} {xs:List V} (e:H a = some (.tup xs)):TyOf K H (.ref a) (.type "tuple")
 | dK {a:Addr} {kvs:List (Key × V)} (e:H a = some (.dK kvs)):TyOf K H (.ref a) (.type "dict")
 | dT {a:Addr} {kvs:List (List Key × V)} (e:H a = some (.dT kvs)):TyOf K H (.ref a) (.type "dict")
 | ins {a C dx:Addr} {fs:List (Str × V)} (e:H a = some (.ins C dx fs)) (cl:Cls K C) (ha:PySem.W.findIn K (.ref C) "__class__" = some (some (.builtin "object.__class__")))
   (hn:PySem.W.specialIn K (.builtin "object.__class__") "__get__" = some (some (.builtin "getset_descriptor.__get__"))) (htk:PySem.W.takesIn K (.builtin "object.__class__") = some true)
   (hm:PySem.W.mroIn K C (.type "object") = some true):TyOf K H (.ref a) (.ref C)
theorem aQ7 {x:V} {u t:Value} (I:Inv X pins σ H s) (rx:t6 x u) (ty:TyOf X.K H x t) (e:PySem.W.kitOne X.K t c = some b) (h:∀ tk,Q (.bool b) { s with toks:=tk }) :
  wpAny (model X.prog X.w) A (call (.builtin "isinstance") [u,c]) Q E s:=by
 cases ty with
 | non=>cases (show u = Value.none from rx); exact PySem.W.kia_one PySem.W.kitx_none I.kIn True.intro e (fun z=>nomatch z) h
 | bl y=>cases (show u = Value.bool y from rx); exact PySem.W.kia_one PySem.W.kitx_bool I.kIn True.intro e (fun z=>nomatch z) h
 | int i=>obtain ⟨t,q⟩:=(show ∃ t,u = Value.int i t from rx); cases q; exact PySem.W.kia_one PySem.W.kitx_int I.kIn True.intro e (fun z=>nomatch z) h
 | str y=>obtain ⟨t,q⟩:=(show ∃ t,u = Value.str y t from rx); cases q; exact PySem.W.kia_one PySem.W.kitx_str I.kIn True.intro e (fun z=>nomatch z) h
 | flt y=>obtain ⟨t,q⟩:=(show ∃ t,u = Value.float y t from rx); cases q; exact PySem.W.kia_one PySem.W.kitx_float I.kIn True.intro e (fun z=>nomatch z) h
 | @lst a xs ea =>
  cases (show u = Value.ref a from rx)
  obtain ⟨_,_,n,_,h1⟩:=(show x6 X.prog X.w H s.heap a (.lst xs) from I.hok a _ ea)
  exact PySem.W.kia_one PySem.W.kitx_list I.kIn ⟨_,h1,rfl⟩ e (fun z=>nomatch z) h
 | @frz a ob xs ea =>
  cases (show u = Value.ref a from rx)
  obtain ⟨_,_,_,n,_,h1⟩:=(show x6 X.prog X.w H s.heap a (.frz ob (.lst xs)) from I.hok a _ ea)
  exact PySem.W.kia_one PySem.W.kitx_list I.kIn ⟨_,h1,rfl⟩ e (fun z=>nomatch z) h
 | @tup a xs ea =>
  cases (show u = Value.ref a from rx)
  obtain ⟨_,_,_,p⟩:=(show x6 X.prog X.w H s.heap a (.tup xs) from I.hok a _ ea)
  obtain ⟨o,h1,h2,_⟩:=p
  exact PySem.W.kia_one PySem.W.kitx_tuple I.kIn ⟨o,h1,h2⟩ e (fun z=>nomatch z) h
 | @dK a kvs ea =>
  cases (show u = Value.ref a from rx)
  obtain ⟨_,_,vs,_,p⟩:=(show x6 X.prog X.w H s.heap a (.dK kvs) from I.hok a _ ea)
  obtain ⟨o,es,ep,h1,h2,_⟩:=p
  exact PySem.W.kia_one PySem.W.kitx_dict I.kIn ⟨o,h1,h2.1⟩ e (fun z=>nomatch z) h
 | @dT a kvs ea =>
  cases (show u = Value.ref a from rx)
  obtain ⟨_,_,xs,_,o,es,ep,h1,h2,_⟩:=(show x6 X.prog X.w H s.heap a (.dT kvs) from I.hok a _ ea)
  exact PySem.W.kia_one PySem.W.kitx_dict I.kIn ⟨o,h1,h2.1⟩ e (fun z=>nomatch z) h
 | @ins a C dx fs ea cl ha hn htk hm =>
  cases (show u = Value.ref a from rx)
  obtain ⟨mA,O,_⟩:=aN0 I.hok ea
  obtain ⟨od,J,_⟩:=O.look
  exact PySem.W.kia_one (PySem.W.kitx_own (cl.get _) cl.hd ha hn htk hm) I.kIn J e (fun z=>nomatch z) h
end
end L2
namespace L2
open PySem PySem.Spec PyProof.Rows
structure Room (k:Nat) (A:Around):Prop where
 hd:A.handled = none
 dp:A.depth + 3 * k + 5 < recursionLimit
 un:A.units + 16 * k + 200 < cLine
theorem Room.mono {j k:Nat} {A:Around} (r:Room k A) (h:j ≤ k):Room j A:=⟨r.hd,by have:=r.dp; lia,by have:=r.un; lia⟩
theorem Room.deeper {k:Nat} {A:Around} (r:Room (k + 1) A) (env:Env):Room k (A.deeper env) :=
 ⟨r.hd,by have:=r.dp; show A.depth + 1 + 3 * k + 5 < _; lia,by have:=r.un; show A.units + 3 + 16 * k + 200 < _; lia⟩
theorem Room.depth {k:Nat} {A:Around} (r:Room k A):A.depth < recursionLimit:=by have:=r.dp; lia
theorem Room.units {k:Nat} {A:Around} (r:Room k A):A.units + 64 < cLine:=by have:=r.un; lia
theorem Room.units0 {k:Nat} {A:Around} (r:Room k A):A.units < cLine:=by have:=r.un; lia
def bn3:TA:=fun _ H Q=>Q [] H
def bk8 (ta:TE) (tr:TA):TA:=fun σ H Q=>ta σ H fun x H1=>tr σ H1 fun xs H2=>Q (x :: xs) H2
section
variable {X:Cx} {e:Expr} {es:List Expr} {te:TE} {t:TA} {pos:Pos}
theorem d4:PA X [] bn3:=fun _ _ _ _ H Q I h=>Calls.spliced_nil ⟨[],H,I,.nil,h⟩
theorem b4 (ha:PE X e te) (hr:PA X es t) (hs:starEach (e :: es) X.env = (false,eval e X.env) :: starEach es X.env:=by rfl):PA X (e :: es) (bk8 te t):=by
 intro pos pins s σ H Q I h
 rw [hs]
 show wpAny _ _ (spliced ((false,eval e X.env) :: backTo pos (starEach es X.env))) _ _ s
 refine Calls.spliced_cons (thn (ha pins s σ H _ I h) fun u s1 ⟨x,H1,I1,r1,q1⟩=>?_)
 exact thn (hr pos pins s1 σ H1 _ I1 q1) fun us s2 ⟨xs,H2,I2,r2,q2⟩=>⟨x :: xs,H2,I2,.cons r1 r2,q2⟩
def bp6 (t:TA):TE:=fun σ H Q=>t σ H fun xs H1=>xs.length ≤ sizeLine ∧ ∀ p,H1 p = none → Q (.ref p) (upd H1 p (.tup xs))
def bn9 (t:TA):TE:=fun σ H Q=>t σ H fun xs H1=>xs.length ≤ sizeLine ∧ ∀ p,H1 p = none → Q (.ref p) (upd H1 p (.lst xs))
theorem A9 {x1} (h:PA X es t):PE X (.Tuple es x1 pos) (bp6 t):=by
 intro pins s σ H Q I hq
 refine wpAny_Tuple_spliced (thn (h pos pins s σ H _ I hq) fun us s1 ⟨xs,H1,I1,r,z,q⟩=>⟨by rw [← r.length]; exact z,?_⟩)
 have hf:H1 s1.heap.objs.size = none:=I1.hok.fresh (Nat.le_refl _)
 refine ⟨.ref s1.heap.objs.size,upd H1 s1.heap.objs.size (.tup xs),I1.laid (t':=s1.toks) (fun b u e=>Heap.get?_push_of_some _ e) (Nat.le_refl _) ?_,rfl,q _ hf⟩
 exact ⟨z,us,r,⟨_,Heap.get?_push_size _ rfl,rfl,_,rfl⟩⟩
theorem B0 (h:PA X es t):PE X (.List es pos) (bn9 t):=by
 intro pins s σ H Q I hq
 refine wpAny_List_spliced (thn (h pos pins s σ H _ I hq) fun us s1 ⟨xs,H1,I1,r,z,q⟩=>⟨by rw [← r.length]; exact z,?_⟩)
 have hf:H1 s1.heap.objs.size = none:=I1.hok.fresh (Nat.le_refl _)
 refine ⟨.ref s1.heap.objs.size,upd H1 s1.heap.objs.size (.lst xs),I1.laid (t':=s1.toks) (fun b u e=>Heap.get?_push_of_some _ e) (Nat.le_refl _) ?_,rfl,q _ hf⟩
 exact ⟨z,us,0,r,Heap.get?_push_size _ rfl⟩
end
abbrev Sp:=List V → Hp → VK → XK → Prop
abbrev CXT:=List Env → Hp → Shared → XK → Value → Shared → Prop
structure Env0 (P:Program) (w:World) (K:PySem.W.Frag) (mg:Str → Option Value) (base:Heap) (A:Around) (outer:List Env) (s:Shared) (H:Hp):Prop where
 frames:A.frames = some outer
 mod:Mod K mg base
 bs:∀ b o,base.get? b = some o → s.heap.get? b = some o ∧ H b = none
 bsz:base.objs.size ≤ s.heap.objs.size
 funs:s.heap.FunFrames base outer
 frf:∀ b ∈ frs outer,H b = none
 hok:HOk P w H s.heap
 bare:AllBare s.gens
def CE (outer:List Env) (P:Program) (w:World) (H:Hp) (s:Shared) (Q:VK) (u:Value) (s':Shared):Prop :=
 ∃ v H',s'.os = s.os ∧ AllBare s'.gens ∧ Un (frs outer) [] H H' s.heap s'.heap ∧ HOk P w H' s'.heap ∧ t6 v u ∧ Q v H'
def CR (CX:CXT) (outer:List Env) (P:Program) (w:World) (H:Hp) (s:Shared) (Q:VK) (E:XK) (r:Result) (s':Shared):Prop :=
 match r with
 | .ok (.ret u)=>CE outer P w H s Q u s'
 | .ok _=>False
 | .error e=>CX outer H s E e s'
structure FnOk (P:Program) (w:World) (K:PySem.W.Frag) (mg:Str → Option Value) (base:Heap) (CX:CXT) (k:Nat) (f:Addr) (fd:FuncData) (ps:List Str) (sp:Sp):Prop where
 len:∀ vs H Q E,sp vs H Q E → vs.length = ps.length
 run:∀ (A:Around) (outer:List Env) (s:Shared) (H:Hp) (args:Args) (us:List Value) (vs:List V) (Q:VK) (E:XK),Room k A → Env0 P w K mg base A outer s H → BindsTo s fd args (ps.zip us) → r6 vs us → sp vs H Q E →
  codeAny (model P w) A (.call (.ref f) args) (CR CX outer P w H s Q E) s
section
variable {X:Cx} {pins:List (Addr × Obj)} {σ:St} {H:Hp} {s s':Shared}
theorem Inv.env0 (I:Inv X pins σ H s):Env0 X.prog X.w X.K X.mg X.base X.A X.stack s H :=
 ⟨I.ok.frames,I.ok.mod,I.bs,Nat.le_trans I.ok.bsz I.sz,I.stack,I.stkFree,I.hok,I.bare⟩
theorem Inv.after {Q:VK} {u:Value} (I:Inv X pins σ H s) (h:CE X.stack X.prog X.w H s Q u s'):EP X pins σ Q u s':=by
 obtain ⟨v,H',os,bare,un,hok,r,q⟩:=h
 obtain ⟨hh,g,d,t,os'⟩:=s'
 obtain rfl:os' = s.os:=os
 exact ⟨v,H',I.call (h':=hh) (g':=g) (d':=d) (t':=t) (ch:=[]) un hok bare (fun b z=>absurd z (by simp)),r,q⟩
end
def a52 (sp:Sp) (dvs:List V) (E:XK) (t:TA):TE:=fun σ H Q=>t σ H fun vs H1=>sp (vs ++ dvs) H1 Q E
def ab6 (K:PySem.W.Frag) (fd:FuncData) (ps:List Str) (ds:List Value):Prop :=
 ∀ (s:Shared) (us:List Value),K.In s.heap → (us ++ ds).length = ps.length → BindsTo s fd ⟨us,[]⟩ (ps.zip (us ++ ds))
theorem ab6.all {K:PySem.W.Frag} {fd:FuncData} {ps:List Str} (h:∀ us:List Value,us.length = ps.length → bindArgs fd ⟨us,[]⟩ = pure (ps.zip us)):ab6 K fd ps []:=fun s us _ hl=>by
 rw [List.append_nil] at hl ⊢
 exact .of_eq (h us hl)
def aI6 (CX:CXT) (X:Cx) (E:XK):Prop:=∀ (pins:List (Addr × Obj)) (σ:St) (H:Hp) (s:Shared) (e:Value) (s':Shared),Inv X pins σ H s → CX X.stack H s E e s' → X.xe e s'
section
variable {X:Cx} {CX:CXT} {k:Nat} {f C:Addr} {fd:FuncData} {ps:List Str} {sp:Sp} {dvs:List V} {ds:List Value} {E:XK} {x m:Str} {p pos apos:Pos} {e o:Expr} {es:List Expr} {ta:TE} {t:TA}
theorem be3 {pins:List (Addr × Obj)} {σ:St} {H:Hp} {s:Shared} {Q:VK} {us:List Value} {vs:List V} (F:FnOk X.prog X.w X.K X.mg X.base CX k f fd ps sp) (hr:Room k X.A) (hb:ab6 X.K fd ps ds) (hd:r6 dvs ds) (hx:aI6 CX X E)
  (I:Inv X pins σ H s) (r:r6 vs us) (h:sp (vs ++ dvs) H Q E):wpAny (model X.prog X.w) X.A (call (.ref f) us) (EP X pins σ Q) X.xe s:=by
 have r2:r6 (vs ++ dvs) (us ++ ds):=r.append hd
 have hl:(us ++ ds).length = ps.length:=by rw [← r2.length]; exact F.len _ _ _ _ h
 refine wpAny_call (codeAny_mono (F.run X.A X.stack s H ⟨us,[]⟩ (us ++ ds) (vs ++ dvs) Q E hr I.env0 (hb s us I.kIn hl) r2 h) fun r s' hq=>?_)
 cases r with
 | error e=>exact hx pins σ H s e s' I hq
 | ok fl =>
  cases fl with
  | ret u=>exact I.after hq
  | next=>exact False.elim hq
  | brk=>exact False.elim hq
  | cont=>exact False.elim hq
theorem aO1 (F:FnOk X.prog X.w X.K X.mg X.base CX k f fd ps sp) (hr:Room k X.A) (hg:Gl X x) (hm:X.mg x = some (.ref f)) (hk:PySem.W.keepIn X.K (.ref f) = true) (hb:ab6 X.K fd ps ds) (hd:r6 dvs ds) (hx:aI6 CX X E)
  (ha:PA X (e :: es) t) (hdb:(x == ("__debug__":Str)) = false:=by decide) (he:starEach (e :: es) X.env = (false,eval e X.env) :: starEach es X.env:=by rfl) (hpl:(backTo pos (starEach es X.env)).any (·.1) = false:=by rfl) :
  PE X (.Call (.Name x p) (e :: es) [] pos) (a52 sp dvs E t):=by
 intro pins s σ H Q I h
 refine wpAny_Call_Name_kw (ba9 I hg hm ?_ hdb)
 refine PySem.W.callWith_K (h₀:=X.base) I.ok.mod.kin hk (thn (ha pos pins s σ H _ I h) fun us s1 ⟨vs,H1,I1,r,q⟩=>⟨I1.kIn,?_⟩) he hpl
 exact be3 F hr hb hd hx I1 r q
end
structure FnScope (N P:List Str) (sc:Scope):Prop where
 kind:sc.kind = .function
 co:sc.isCoroutine = false
 gen:sc.isGenerator = false
 nd:N.Nodup
 pre:N.take P.length = P
 par:∀ x ∈ P,sc.names.lookup x = some .local ∨ sc.names.lookup x = some .cell
 nofree:∀ y ∈ sc.names,y.2 ≠ .free
theorem am7 {kindOf:Str → Option NameKind} {x:Str}:∀ {binds:List (Str × Value)} {m:Str → Option Value},(∀ v,(x,v) ∉ binds) → bindL kindOf binds m x = m x
 | [],_,_=>rfl
 | (n,v) :: r,m,h=>by
  unfold bindL
  rw [am7 fun w hw=>h w (List.mem_cons_of_mem _ hw)]
  split
  ·have:x ≠ n:=by rintro rfl; exact h v List.mem_cons_self
   simp [this]
  ·rfl
theorem ar4 {kindOf:Str → Option NameKind} {x:Str}:∀ {binds:List (Str × Value)} {m:Str → Option Value},(∀ v,(x,v) ∉ binds) → bindC kindOf binds m x = m x
 | [],_,_=>rfl
 | (n,v) :: r,m,h=>by
  unfold bindC
  rw [ar4 fun w hw=>h w (List.mem_cons_of_mem _ hw)]
  split
  ·rfl
  ·have:x ≠ n:=by rintro rfl; exact h v List.mem_cons_self
   simp [this]
theorem ar0 {kindOf:Str → Option NameKind} {x:Str} {v:Value}:∀ {P:List Str} {vs:List Value} {i:Nat} {m:Str → Option Value},P.Nodup → P[i]? = some x → vs[i]? = some v → kindOf x = some .local →
  bindL kindOf (P.zip vs) m x = some v
 | [],_,_,_,_,h,_,_=>by simp at h
 | _ :: _,[],_,_,_,_,h,_=>by simp at h
 | p :: P,w :: vs,0,m,nd,h1,h2,hk=>by
  simp at h1 h2; subst h1; subst h2
  show bindL kindOf ((p,w) :: P.zip vs) m p = _
  unfold bindL
  rw [am7 fun v hv=>(List.nodup_cons.mp nd).1 (List.of_mem_zip hv).1,if_pos hk]
  simp
 | p :: P,w :: vs,i + 1,m,nd,h1,h2,hk=>by
  show bindL kindOf ((p,w) :: P.zip vs) m x = _
  unfold bindL
  exact ar0 (i:=i) (List.nodup_cons.mp nd).2 (by simpa using h1) (by simpa using h2) hk
theorem ap6 {kindOf:Str → Option NameKind} {x:Str} {v:Value}:∀ {P:List Str} {vs:List Value} {i:Nat} {m:Str → Option Value},P.Nodup → P[i]? = some x → vs[i]? = some v → kindOf x ≠ some .local →
  bindC kindOf (P.zip vs) m x = some v
 | [],_,_,_,_,h,_,_=>by simp at h
 | _ :: _,[],_,_,_,_,h,_=>by simp at h
 | p :: P,w :: vs,0,m,nd,h1,h2,hk=>by
  simp at h1 h2; subst h1; subst h2
  show bindC kindOf ((p,w) :: P.zip vs) m p = _
  unfold bindC
  rw [ar4 fun v hv=>(List.nodup_cons.mp nd).1 (List.of_mem_zip hv).1,if_neg hk]
  simp
 | p :: P,w :: vs,i + 1,m,nd,h1,h2,hk=>by
  show bindC kindOf ((p,w) :: P.zip vs) m x = _
  unfold bindC
  exact ap6 (i:=i) (List.nodup_cons.mp nd).2 (by simpa using h1) (by simpa using h2) hk
def start (N:List Str) (vs:List V):St:=vs.map some ++ List.replicate (N.length - vs.length) none
def az1 (CX:CXT) (P:Program) (w:World) (K:PySem.W.Frag) (mg:Str → Option Value) (base:Heap) (N:List Str) (qual:Str) (scope:Scope) (f:Addr) (cd:Value) (A:Around) (outer:List Env) (s:Shared) (H:Hp) (E:XK):Cx where
 prog:=P
 w:=w
 K:=K
 mg:=mg
 base:=base
 A:=A.deeper (envOfC qual scope s.heap.objs.size f cd)
 N:=N
 s₀:=s
 H₀:=H
 env:=envOfC qual scope s.heap.objs.size f cd
 outer:=outer
 stack:=envOfC qual scope s.heap.objs.size f cd :: outer
 ex:=[]
 calm:=true
 fn:=fun _=>true
 pn:=[]
 xe:=fun e s'=>wpAny (model P w) (A.deeper (envOfC qual scope s.heap.objs.size f cd)) (leaving (envOfC qual scope s.heap.objs.size f cd) e) (fun _ s''=>CX outer H s E e s'') (fun e' s''=>CX outer H s E e' s'') s'
theorem af9 {sc:Scope} {n:Nat} {x:Str} (h:sc.names.lookup x = some .cell):∃ c,(cellsFrom n sc.names []).lookup x = some c:=by
 have q:=PySem.W.cellsFrom_some sc.names n [] (.inl h)
 exact Option.isSome_iff_exists.mp q
theorem aU8 {CX:CXT} {P:Program} {w:World} {K:PySem.W.Frag} {mg:Str → Option Value} {base:Heap} {N ps:List Str} {qual:Str} {scope:Scope} {f:Addr} {cd:Value} {A:Around} {outer:List Env} {s s1:Shared} {H:Hp} {E:XK} {us:List Value} {vs:List V}
  (S:FnScope N ps scope) (hd:A.handled = none) (e0:Env0 P w K mg base A outer s H) (hl:vs.length = ps.length) (r:r6 vs us)
  (x:InCallC s s.heap.objs.size (bindL (envOfC qual scope s.heap.objs.size f cd).kindOf (ps.zip us) fun _=>none) (cellsFrom (s.heap.objs.size + 1) scope.names []) (bindC (envOfC qual scope s.heap.objs.size f cd).kindOf (ps.zip us) fun _=>none) s1) :
  Inv (az1 CX P w K mg base N qual scope f cd A outer s H E) [] (start N vs) H s1:=by
 have hpl:ps.length ≤ N.length:=by have:=congrArg List.length S.pre; rw [List.length_take] at this; lia
 obtain ⟨h1,tk,rfl,hk⟩:=x.done
 have noA:∀ b:Addr,b ∉ (az1 CX P w K mg base N qual scope f cd A outer s H E).ex:=fun b z=>absurd (show b ∈ ([]:List Addr) from z) (by simp)
 refine ⟨⟨e0.mod,S.kind,rfl,rfl,Nat.le_refl _,fun y z c h1 h2=>?_,fun y hy=>?_,fun y c _ h=>?_,fun _=>hd,Around.frames_deeper e0.frames,.inr ⟨rfl,rfl⟩,fun b z=>absurd z (noA b),e0.bs,e0.bsz,fun b _ _=>noA b,fun b z=>absurd z (noA b),e0.funs,e0.frf⟩,
  rfl,e0.bare,Un.kept hk,⟨_,x.toInCall.ns,fun i y v h1 h2 h3=>?_⟩,fun y c h=>⟨_,x.cell y c h⟩,e0.hok.fresh (Nat.le_refl _),fun y c h=>?_,fun p hp=>absurd (show p ∈ ([]:List (Addr × Obj)) from hp) (by simp),e0.hok.kept hk,?_⟩
 ·exact name_of_addr x.apart (PySem.mem_of_lookup h1) (PySem.mem_of_lookup h2)
 ·have hy:scope.names.lookup y = some .cell ∨ scope.names.lookup y = some .free:=hy
  rcases hy with hy | hy
  ·exact af9 hy
  ·exact absurd rfl (S.nofree _ (PySem.mem_of_lookup hy))
 ·exact Nat.le_of_lt (x.above y c (PySem.mem_of_lookup h))
 ·have hi:i < vs.length:=by
   unfold start at h2
   by_cases hi:i < vs.length
   ·exact hi
   ·rw [List.getElem?_append_right (by simpa using hi)] at h2
    rw [List.getElem?_replicate] at h2
    split at h2 <;> cases h2
  have ha:vs[i]? = some v:=by
   unfold start at h2
   rw [List.getElem?_append_left (by simpa using hi),List.getElem?_map] at h2
   cases e:vs[i]? with
   | none=>rw [e] at h2; cases h2
   | some a=>rw [e] at h2; cases h2; rfl
  obtain ⟨u,hu,rv⟩:=r.get ha
  have hp:ps[i]? = some y:=by
   rw [← S.pre,List.getElem?_take_of_lt (by lia)]; exact h1
  have ndP:ps.Nodup:=by rw [← S.pre]; exact S.nd.sublist (List.take_sublist _ _)
  refine ⟨u,rv,?_⟩
  rcases S.par y (List.mem_of_getElem? hp) with k | k
  ·exact .inl ⟨k,ar0 ndP hp hu k⟩
  ·obtain ⟨c,e⟩:=af9 (n:=s.heap.objs.size + 1) k
   refine .inr ⟨.inl k,c,e,?_⟩
   have q:=x.cell y c e
   rw [ap6 ndP hp hu (by show scope.names.lookup y ≠ _; rw [k]; decide)] at q
   exact q
 ·exact e0.hok.fresh (Nat.le_of_lt (x.above y c (PySem.mem_of_lookup h)))
 ·unfold start
  show _ = N.length
  rw [List.length_append,List.length_map,List.length_replicate]
  lia
theorem bd0 {CX:CXT} {P:Program} {w:World} {K:PySem.W.Frag} {mg:Str → Option Value} {base:Heap} {k:Nat} {f:Addr} {name qual:Str} {params:Arguments} {body:List Stmt} {scope:Scope} {dV kV doc pm cdv ct oc:Value} {an od:Option Addr}
  {osl:Array (Option Value)} {N ps:List Str} {sp:Sp} (lk:K.lookup f = some ⟨oc,od,.func (PySem.W.fnOf name qual params body scope dV kV doc pm an cdv ct),osl⟩) (hcd:PySem.W.codeIn K cdv qual = true) (S:FnScope N ps scope)
  (len:∀ vs H Q E,sp vs H Q E → vs.length = ps.length)
  (hbody:∀ (A:Around) (outer:List Env) (s:Shared) (H:Hp) (vs:List V) (Q:VK) (E:XK),Room k (A.deeper (envOfC qual scope s.heap.objs.size f cdv)) → sp vs H Q E →
   ∃ t,PSs (az1 CX P w K mg base N qual scope f cdv A outer s H E) body t ∧ t { nx:=fun _ H'=>Q .non H',rt:=Q } (start N vs) H) :
  FnOk P w K mg base CX (k + 1) f (PySem.W.fnOf name qual params body scope dV kV doc pm an cdv ct) ps sp:=by
 refine ⟨len,fun A outer s H args us vs Q E hr e0 hb r hsp=>?_⟩
 have hl:=len _ _ _ _ hsp
 have KX:K.In s.heap:=e0.mod.kin.keeps fun b o e=>(e0.bs b o e).1
 have lim:s.heap.NoLimit:=e0.mod.nolimit.keeps fun b o e=>(e0.bs b o e).1
 have hkind:∀ y ∈ ps.zip us,scope.names.lookup y.1 = some .local ∨ (scope.names.lookup y.1 = some .cell ∧ ((cellsFrom (s.heap.objs.size + 1) scope.names []).lookup y.1).isSome = true):=fun ⟨n,v⟩ hy=>by
  rcases S.par n (List.of_mem_zip hy).1 with q | q
  ·exact .inl q
  ·exact .inr ⟨q,PySem.W.cellsFrom_some _ _ _ (.inl q)⟩
 refine codeAny_call_function hr.depth (KX _ _ lk) rfl S.co S.gen rfl (PySem.W.codeRec_of KX hcd) (hb _ _ _ _ ?_)
 refine wpAny_newFunctionEnv_cells S.kind hkind fun env he s1 x=>?_
 subst he
 refine ⟨lim.keeps x.toInCall.keep,codeAny_func ?_⟩
 obtain ⟨t,ht,hq⟩:=hbody A outer s H vs Q E (hr.deeper _) hsp
 have I:Inv (az1 CX P w K mg base N qual scope f cdv A outer s H E) [] (start N vs) H s1:=aU8 S hr.hd e0 hl r x
 refine wpAny_mono (ht [] s1 (start N vs) H _ I hq) (fun fl s' hs=>?_) fun e s' hs=>hs
 have fin:∀ {σ':St} {H':Hp} {v:V} {u:Value},Inv (az1 CX P w K mg base N qual scope f cdv A outer s H E) [] σ' H' s' → t6 v u → Q v H' → CE outer P w H s Q u s' :=
  fun {σ' H' v u} J rv q=>⟨v,H',J.os,J.bare,J.base,J.hok,rv,q⟩
 cases fl with
 | ret u =>
  obtain ⟨v,σ',H',J,rv,q⟩:=hs
  exact fin J rv q
 | next =>
  obtain ⟨σ',H',J,q⟩:=hs
  exact fin (v:=V.non) (u:=Value.none) J rfl q
 | brk =>
  obtain ⟨_,_,_,q⟩:=hs
  exact False.elim q
 | cont =>
  obtain ⟨_,_,_,q⟩:=hs
  exact False.elim q
end L2
namespace L2
open PySem PySem.Spec PyProof.Rows
section
variable {X:Cx} {x:Str} {p pos:Pos} {e:Expr} {es:List Expr} {t:TA} {id T:String} {r:List V → Hp → VK → Prop}
def tCB (r:List V → Hp → VK → Prop) (t:TA):TE:=fun σ H Q=>t σ H fun vs H1=>r vs H1 Q
theorem i7 (hc:y4 X (.builtin id) r) (hg:Gl X x) (hm:X.mg x = none) (hv:bootBuiltins x = some (.builtin id)) (ha:PA X (e :: es) t) (hn:x ≠ "__name__":=by decide) (hdb:(x == ("__debug__":Str)) = false:=by decide)
  (he:starEach (e :: es) X.env = (false,eval e X.env) :: starEach es X.env:=by rfl) (hpl:(backTo pos (starEach es X.env)).any (·.1) = false:=by rfl):PE X (.Call (.Name x p) (e :: es) [] pos) (tCB r t):=by
 intro pins s σ H Q I h
 refine wpAny_Call_Name_kw (aa3 I hg hm hv ?_ hn hdb)
 exact PyProof.Rows.callWith_builtin1 (thn (ha pos pins s σ H _ I h) fun us s1 ⟨vs,H1,I1,r1,q1⟩=>hc pins s1 σ H1 vs us Q I1 r1 q1) he hpl
theorem z9 (hc:y4 X (.type T) r) (hg:Gl X x) (hm:X.mg x = none) (hv:bootBuiltins x = some (.type T)) (ha:PA X (e :: es) t) (hn:x ≠ "__name__":=by decide) (hdb:(x == ("__debug__":Str)) = false:=by decide)
  (he:starEach (e :: es) X.env = (false,eval e X.env) :: starEach es X.env:=by rfl) (hpl:(backTo pos (starEach es X.env)).any (·.1) = false:=by rfl):PE X (.Call (.Name x p) (e :: es) [] pos) (tCB r t):=by
 intro pins s σ H Q I h
 refine wpAny_Call_Name_kw (aa3 I hg hm hv ?_ hn hdb)
 exact PyProof.Rows.callWith_type1 (thn (ha pos pins s σ H _ I h) fun us s1 ⟨vs,H1,I1,r1,q1⟩=>hc pins s1 σ H1 vs us Q I1 r1 q1) he hpl
end
end L2
namespace HT
open PySem PyProof.Rows
section
variable {prog:Program} {w:World} {A:Around} {E:Value → Shared → Prop} {s:Shared}
def sIx (n d:Nat):Option Int → Nat
 | none=>d
 | some v=>if v < 0 then (v + (n:Int)).toNat else min v.toNat n
theorem sIx_none (n d:Nat):sIx n d none = d:=rfl
theorem sIx_nat (n d k:Nat):sIx n d (some (k:Int)) = min k n:=by
 show (if (k:Int) < 0 then ((k:Int) + (n:Int)).toNat else min (k:Int).toNat n) = min k n
 rw [if_neg (by lia),Int.toNat_natCast]
end
end HT
namespace L2
open PySem PySem.Spec PyProof.Rows
abbrev TO:=St → Hp → (Option Int → Hp → Prop) → Prop
def PO (X:Cx) (e:Option Expr) (t:TO):Prop :=
 ∀ (pins:List (Addr × Obj)) (s:Shared) (σ:St) (H:Hp) (Q:Option Int → Hp → Prop),Inv X pins σ H s → t σ H Q →
  wpAny (model X.prog X.w) X.A (evalPart e X.env) (fun u s'=>∃ o H',Inv X pins σ H' s' ∧ IsPart u o ∧ Q o H') X.xe s
def bb0:TO:=fun _ H Q=>Q none H
def bn4 (t:TE):TO:=fun σ H Q=>t σ H fun x H1=>∃ i,x = .int i ∧ Q (some i) H1
theorem K0 {ns:List Int}:∀ {us:List Value},r6 (ns.map V.int) us → IntsAre us ns:=by
 induction ns with
 | nil=>intro us r; rw [List.map_nil] at r; cases r; exact .nil
 | cons n ns ih =>
  intro us r
  rw [List.map_cons] at r
  cases r with
  | cons r1 r2 =>
   obtain ⟨t,e⟩:=r1
   subst e
   exact .cons n t (ih r2)
section
variable {X:Cx} {e:Expr} {te:TE} {lo hi:Option Expr} {tl th:TO} {pos p2:Pos}
theorem at2:PO X none bb0:=by
 intro pins s σ H Q I h
 rw [evalPart_none]
 exact wpAny_pure ⟨none,H,I,.none,h⟩
theorem au3 (h:PE X e te):PO X (some e) (bn4 te):=by
 intro pins s σ H Q I hw
 rw [evalPart_some]
 refine thn (h pins s σ H _ I hw) fun u s1 ⟨x,H1,I1,r1,q1⟩=>?_
 obtain ⟨i,rfl,q⟩:=q1
 obtain ⟨t,rfl⟩:=r1
 exact ⟨some i,H1,I1,.int i t,q⟩
def SlR (X:Cx) (r:V → Option Int → Option Int → Hp → VK → Prop):Prop :=
 ∀ (pins:List (Addr × Obj)) (s:Shared) (σ:St) (H:Hp) (x:V) (v vl vu:Value) (lo hi:Option Int) (sl:Addr) (Q:VK),Inv X pins σ H s → t6 x v → s.heap.IsSliceOf sl vl vu .none → IsPart vl lo → IsPart vu hi → r x lo hi H Q →
  ∃ T id,typeLookup (.type T) "__getitem__" = pure (some (.builtin id)) ∧ s.TypeIs v T ∧ wpAny (model X.prog X.w) X.A (getItem v (.ref sl)) (EP X pins σ Q) X.xe s
def tSl (r:V → Option Int → Option Int → Hp → VK → Prop) (te:TE) (tl th:TO):TE:=fun σ H Q=>te σ H fun x H1=>tl σ H1 fun l H2=>th σ H2 fun u H3=>r x l u H3 Q
theorem aj5 {r:V → Option Int → Option Int → Hp → VK → Prop} (hr:SlR X r) (he:PE X e te) (hl:PO X lo tl) (hu:PO X hi th):PE X (.Subscript e (.Slice lo hi none p2) pos) (tSl r te tl th):=by
 intro pins s σ H Q I h
 refine Subscript_ (thn (he pins s σ H _ I h) fun v s1 ⟨x,H1,I1,r1,q1⟩=>?_)
 refine wpAny_Slice (thn (hl pins s1 σ H1 _ I1 q1) fun vl s2 ⟨l,H2,I2,pl,q2⟩=>thn (hu pins s2 σ H2 _ I2 q2) fun vu s3 ⟨u,H3,I3,pu,q3⟩=>?_)
 rw [evalPart_none]
 refine wpAny_pure ?_
 have I4:Inv X pins σ H3 { s3 with heap:=s3.heap.push { cls:=.type "slice",data:=.fields #[vl,vu,.none] } }:=I3.kept (t':=s3.toks) fun b ob q=>Heap.get?_push_of_some _ q
 obtain ⟨T,id,hT,ht,hg⟩:=hr pins { s3 with heap:=s3.heap.push { cls:=.type "slice",data:=.fields #[vl,vu,.none] } } σ H3 x v vl vu l u s3.heap.objs.size Q I4 r1 (Heap.IsSliceOf.new ..) pl pu q3
 show wpAny (model X.prog X.w) X.A (subscriptTail e (.Slice lo hi none p2) v (.ref s3.heap.objs.size)) (EP X pins σ Q) X.xe { s3 with heap:=s3.heap.push { cls:=.type "slice",data:=.fields #[vl,vu,.none] } }
 exact tail_any (ops:=[.ref s3.heap.objs.size,v]) ht hT hg (by with_unfolding_all rfl)
def Y1 (xs:List V) (lo hi:Option Int):List V:=(xs.drop (HT.sIx xs.length 0 lo)).take (HT.sIx xs.length xs.length hi - HT.sIx xs.length 0 lo)
theorem aE5 (xs:List V) (lo hi:Option Int):(Y1 xs lo hi).length ≤ xs.length:=by
 unfold Y1
 rw [List.length_take,List.length_drop]
 lia
end
end L2
namespace L2
open PySem PySem.Spec PyProof.Rows
def ixN (n:Nat) (i:Int):Option Nat:=if 0 ≤ i then (if i < n then some i.toNat else none) else if -(n:Int) ≤ i then some (i + n).toNat else none
def atI {α:Type} (xs:List α) (i:Int):Option α:=(ixN xs.length i).bind fun j=>xs[j]?
theorem aM9 {n:Nat} {i:Int} {j:Nat} (h:ixN n i = some j):seqIndex? i n = some j ∧ j < n ∧ -(n:Int) ≤ i ∧ i < n:=by
 unfold ixN at h
 by_cases h0:0 ≤ i
 ·rw [if_pos h0] at h
  by_cases h1:i < n
  ·rw [if_pos h1] at h
   have e:i.toNat = j:=Option.some.inj h
   exact ⟨by rw [seqIndex_of h0 h1,e],by lia,by lia,h1⟩
  ·rw [if_neg h1] at h; cases h
 ·rw [if_neg h0] at h
  by_cases h1:-(n:Int) ≤ i
  ·rw [if_pos h1] at h
   have e:(i + n).toNat = j:=Option.some.inj h
   exact ⟨by rw [seqIndex_neg (by lia) h1,e],by lia,h1,by lia⟩
  ·rw [if_neg h1] at h; cases h
theorem aw6 {α:Type} {xs:List α} {i:Int} {v:α} (h:atI xs i = some v):∃ j,seqIndex? i xs.length = some j ∧ xs[j]? = some v ∧ j < xs.length ∧ -(xs.length:Int) ≤ i ∧ i < xs.length:=by
 unfold atI at h
 cases e:ixN xs.length i with
 | none=>rw [e] at h; cases h
 | some j =>
  rw [e] at h
  obtain ⟨h1,h2,h3,h4⟩:=aM9 e
  exact ⟨j,h1,h,h2,h3,h4⟩
theorem E7 {α:Type} {xs:List α} {j:Nat} {v:α} (h:xs[j]? = some v):atI xs (j:Int) = some v:=by
 have hj:j < xs.length:=(List.getElem?_eq_some_iff.mp h).1
 have e:ixN xs.length (j:Int) = some j:=by
  unfold ixN
  rw [if_pos (by lia),if_pos (by lia)]; simp
 unfold atI; rw [e]; exact h
def a94 (b:Expr):Prop:=∀ o i,subscripted b false o i = operate [o,i] (getItem o i)
def IxR (X:Cx) (r:R2):Prop :=
 ∀ (value slice:Expr) (pins:List (Addr × Obj)) (s:Shared) (σ:St) (H:Hp) (x y:V) (v u:Value) (Q:VK),Inv X pins σ H s → t6 x v → t6 y u → r x y H Q →
  subscripted slice false v u = operate [v,u] (getItem v u) → wpAny (model X.prog X.w) X.A (subscriptTail value slice v u) (EP X pins σ Q) X.xe s
def MtR (X:Cx) (id:String) (r:V → List V → Hp → VK → Prop):Prop :=
 ∀ (pins:List (Addr × Obj)) (s:Shared) (σ:St) (H:Hp) (x:V) (xs:List V) (v:Value) (us:List Value) (Q:VK),Inv X pins σ H s → t6 x v → r6 xs us → r x xs H Q →
  wpAny (model X.prog X.w) X.A (call (.builtin id) (v :: us)) (EP X pins σ Q) X.xe s
section
variable {X:Cx} {a b:Expr} {ta tb:TE} {pos:Pos}
theorem IxR.or {r r':R2} (h:IxR X r) (h':IxR X r'):IxR X (fun x y H Q=>r x y H Q ∨ r' x y H Q):=by
 intro value slice pins s σ H x y v u Q I rx ry q hs
 rcases q with q | q
 ·exact h value slice pins s σ H x y v u Q I rx ry q hs
 ·exact h' value slice pins s σ H x y v u Q I rx ry q hs
theorem i6 {r:R2} (hr:IxR X r) (ha:PE X a ta) (hb:PE X b tb) (hs:a94 b):PE X (.Subscript a b pos) (tOp r ta tb):=by
 intro pins s σ H Q I h
 exact Subscript_ (bf5 ha hb I h fun v u s2 x y H2 I2 rx ry q=>hr a b pins s2 σ H2 x y v u Q I2 rx ry q (hs _ _))
def bg2 (K:PySem.W.Frag):R2:=fun x y H Q=>∃ p xs i v,x = .ref p ∧ y = .int i ∧ SqL K H p xs ∧ atI xs i = some v ∧ Q v H
def bf3 (K:PySem.W.Frag):R2:=fun x y H Q=>∃ p xs i v,x = .ref p ∧ y = .int i ∧ SqT K H p xs ∧ atI xs i = some v ∧ Q v H
def bm1:R2:=fun x y H Q=>∃ z i c,x = .str z ∧ y = .int i ∧ z.length ≤ sizeLine ∧ atI z.cps.toList i = some c ∧ Q (.str ⟨#[c]⟩) H
theorem aO7:IxR X (bg2 X.K):=by
 intro value slice pins s σ H x y v u Q I rx ry h hs
 obtain ⟨p,xs,i,z,rfl,rfl,hq,he,q⟩:=h
 cases rx
 obtain ⟨t,rfl⟩:=ry
 obtain ⟨its,r,pl,hz⟩:=I.list hq
 obtain ⟨j,h1,h2,h3,h4,h5⟩:=aw6 he
 obtain ⟨w,ew,rw'⟩:=r.get h2
 have hl:=r.length
 have hn:=X0
 have fin:EP X pins σ Q w s:=⟨z,H,I,rw',q⟩
 by_cases h0:0 ≤ i
 ·have hj:i.toNat = j:=by
   rw [seqIndex_of h0 h5] at h1
   exact Option.some.inj h1
  exact item_listR pl.isList h0 (by lia) (by rw [hj]; simpa using ew) fin hs
 ·have hj:(i + (its.toArray.size:Int)).toNat = j:=by
   rw [seqIndex_neg (by lia) h4] at h1
   rw [List.size_toArray,← hl]
   exact Option.some.inj h1
  exact subscriptTail_builtinR (x:=w) pl.isList.typeIs slot_list_getitem.lookup
   (wpAny_getItem_list_neg (Q:=fun r s'=>r = w ∧ EP X pins σ Q r s') pl.isList (by lia) (by rw [List.size_toArray] <;> lia) (by lia) (by rw [hj]; simpa using ew) ⟨rfl,fin⟩) hs
theorem aZ2:IxR X (bf3 X.K):=by
 intro value slice pins s σ H x y v u Q I rx ry h hs
 obtain ⟨p,xs,i,z,rfl,rfl,hq,he,q⟩:=h
 cases rx
 obtain ⟨t,rfl⟩:=ry
 obtain ⟨its,r,pl,hz⟩:=I.tuple hq
 obtain ⟨j,h1,h2,h3,h4,h5⟩:=aw6 he
 obtain ⟨w,ew,rw'⟩:=r.get h2
 have hl:=r.length
 have hn:=X0
 have fin:EP X pins σ Q w s:=⟨z,H,I,rw',q⟩
 exact subscriptTail_builtinR (x:=w) pl.typeIs slot_tuple_getitem.lookup
  (getItem_tuple (j:=j) (Q:=fun r s'=>r = w ∧ EP X pins σ Q r s') pl (by lia) (by lia) (by rw [List.size_toArray,← hl]; exact h1) (by simpa using ew) ⟨rfl,fin⟩) hs
theorem bh2:IxR X bm1:=by
 intro value slice pins s σ H x y v u Q I rx ry h hs
 obtain ⟨z,i,c,rfl,rfl,hz,he,q⟩:=h
 obtain ⟨t,rfl⟩:=rx
 obtain ⟨t',rfl⟩:=ry
 obtain ⟨j,h1,h2,h3,h4,h5⟩:=aw6 he
 have hl:z.cps.toList.length = z.length:=by simp [Str.length]
 rw [hl] at h1 h4 h5
 have hn:=X0
 exact tail_any (typeIs_str s z t) slot_str_getitem.lookup (getItem_str (c:=c) (by
  have e1:decide (i < -(2 ^ 63:Int)) = false:=decide_eq_false (by lia)
  have e2:decide (i ≥ 2 ^ 63) = false:=decide_eq_false (by lia)
  rw [e1,e2,Bool.or_false]) (by rw [h1]; simpa using h2) ⟨.str ⟨#[c]⟩,H,I.tok _,⟨_,rfl⟩,q⟩) hs
def rIx (K:PySem.W.Frag):R2:=fun x y H Q=>bg2 K x y H Q ∨ bf3 K x y H Q ∨ bm1 x y H Q
theorem a84:IxR X (rIx X.K):=aO7.or (aZ2.or bh2)
theorem aG4 (its:List Value) (n j:Nat) (u:Value):Obj.mapSeq (·.setIfInBounds j u) { cls:=.type "list",data:=.seq its.toArray n } = { cls:=.type "list",data:=.seq (its.set j u).toArray n }:=by
 simp [Obj.mapSeq]
theorem Inv.lst {pins:List (Addr × Obj)} {σ:St} {H:Hp} {s:Shared} {p:Addr} {xs:List V} (I:Inv X pins σ H s) (h:H p = some (.lst xs)) :
  ∃ (its:List Value) (n:Nat),r6 xs its ∧ s.heap.get? p = some { cls:=.type "list",data:=.seq its.toArray n } ∧ xs.length ≤ sizeLine:=by
 obtain ⟨z,its,n,r,e⟩:=I.hok p _ h
 exact ⟨its,n,r,e,z⟩
theorem Inv.lstUpd {pins:List (Addr × Obj)} {σ:St} {H:Hp} {s:Shared} {p:Addr} {xs ys:List V} {its its':List Value} {n n':Nat} {f:Obj → Obj} (I:Inv X pins σ H s) (h:H p = some (.lst xs))
  (ho:s.heap.get? p = some { cls:=.type "list",data:=.seq its.toArray n }) (hf:f { cls:=.type "list",data:=.seq its.toArray n } = { cls:=.type "list",data:=.seq its'.toArray n' }) (r:r6 ys its') (hz:ys.length ≤ sizeLine) (t:Nat) :
  Inv X pins σ (upd H p (.lst ys)) { s with heap:=s.heap.update p f,toks:=t }:=by
 have e:(s.heap.update p f).get? p = some { cls:=.type "list",data:=.seq its'.toArray n' }:=by
  rw [Heap.get?_update_self f ho (by rw [hf] <;> rfl),hf]
 refine I.write (x:=p) (e:=p) (by rw [h]; trivial) (.inl rfl) (fun b u hb q=>(Heap.get?_update_other _ _ (Ne.symm hb)).trans q) ⟨_,e⟩ ?_
 exact ⟨hz,its',n',r,e⟩
def bk5:V → V → V → Hp → (Hp → Prop) → Prop:=fun o i v H Q=>∃ p xs k j,o = .ref p ∧ i = .int k ∧ H p = some (.lst xs) ∧ ixN xs.length k = some j ∧ Q (upd H p (.lst (xs.set j v)))
theorem ax9:bh8 X bk5:=by
 intro pins s σ H o i v ov iv u Q I ro ri rv h
 obtain ⟨p,xs,k,j,rfl,rfl,hp,hj,q⟩:=h
 cases ro
 obtain ⟨t,rfl⟩:=ri
 obtain ⟨its,n,r,ho,hz⟩:=I.lst hp
 obtain ⟨h1,h2,h3,h4⟩:=aM9 hj
 have hl:=r.length
 have hn:=X0
 have I':Inv X pins σ (upd H p (.lst (xs.set j v))) { s with heap:=s.heap.update p (Obj.mapSeq (·.setIfInBounds j u)) } :=
  I.lstUpd hp ho (aG4 its n j u) (r.set rv j) (by rw [List.length_set]; exact hz) s.toks
 by_cases h0:0 ≤ k
 ·have hk:k.toNat = j:=by
   rw [seqIndex_of h0 h4] at h1
   exact Option.some.inj h1
  exact PySem.W.ki_setAt ho h0 (by lia) (by rw [List.size_toArray,← hl]; exact h4) (by rw [hk]; exact ⟨_,I',q⟩)
 ·have hk:(k + (its.toArray.size:Int)).toNat = j:=by
   rw [seqIndex_neg (by lia) h3] at h1
   rw [List.size_toArray,← hl]
   exact Option.some.inj h1
  exact PySem.W.ki_setBack ho (by lia) (by rw [List.size_toArray,← hl]; exact h3) (by lia) (by rw [hk]; exact ⟨_,I',q⟩)
theorem av6 (lo hi:Option Int) (n:Nat):(sliceBounds lo hi none n).1 = ((HT.sIx n 0 lo:Nat):Int) ∧ (sliceBounds lo hi none n).2.1 = ((HT.sIx n n hi:Nat):Int) ∧ (sliceBounds lo hi none n).2.2 = 1:=by
 refine ⟨?_,?_,rfl⟩
 ·cases lo with
  | none=>simp [sliceBounds,HT.sIx]
  | some i =>
   simp only [sliceBounds,HT.sIx,Option.getD_none,show (1:Int) > 0 by decide,if_true]
   by_cases h:i < 0
   ·simp only [h,if_true] <;> lia
   ·simp only [h,if_false] <;> lia
 ·cases hi with
  | none=>simp [sliceBounds,HT.sIx]
  | some i =>
   simp only [sliceBounds,HT.sIx,Option.getD_none,show (1:Int) > 0 by decide,if_true]
   by_cases h:i < 0
   ·simp only [h,if_true] <;> lia
   ·simp only [h,if_false] <;> lia
theorem al9 (its:List Value) (lo hi:Option Int):slicePick its.toArray lo hi none = ((its.drop (HT.sIx its.length 0 lo)).take (HT.sIx its.length its.length hi - HT.sIx its.length 0 lo)).toArray:=by
 obtain ⟨h1,h2,h3⟩:=av6 lo hi its.toArray.size
 unfold slicePick
 rw [h1,h2,h3]
 simp only [sliceRange_one,pick_run,List.size_toArray] <;> rfl
def bl3 (K:PySem.W.Frag):V → Option Int → Option Int → Hp → VK → Prop:=fun x lo hi H Q=>∃ a xs,x = .ref a ∧ SqL K H a xs ∧ ∀ p,H p = none → Q (.ref p) (upd H p (.lst (Y1 xs lo hi)))
theorem bc5:SlR X (bl3 X.K):=by
 intro pins s σ H x v vl vu lo hi sl Q I rx hs pl pu h
 obtain ⟨a,xs,rfl,hx,q⟩:=h
 cases rx
 obtain ⟨its,r,ht,hz⟩:=I.list hx
 have hlen:=r.length
 refine ⟨"list",_,slot_list_getitem.lookup,ht.isList.typeIs,?_⟩
 refine wpAny_getItem_list_slice ht.isList hs pl pu .none (by simp) ?_ (by rw [List.size_toArray] <;> lia)
 rw [al9,← hlen]
 refine ⟨.ref s.heap.objs.size,_,I.laid (t':=s.toks) (o:=.lst (Y1 xs lo hi)) (fun b ob q=>Heap.get?_push_of_some _ q) (Nat.le_refl _) ?_,rfl,q _ (I.hok.fresh (Nat.le_refl _))⟩
 exact ⟨Nat.le_trans (aE5 xs lo hi) hz,_,0,(r.drop (HT.sIx xs.length 0 lo)).take (HT.sIx xs.length xs.length hi - HT.sIx xs.length 0 lo),Heap.get?_push_size _ rfl⟩
def Y7:V → Bool
 | .non=>true
 | .bl _=>true
 | .int _=>true
 | .str _=>true
 | _=>false
def eqV:V → V → Bool
 | .non,.non=>true
 | .bl a,.bl b=>a == b
 | .bl a,.int b=>(if a then 1 else 0) == b
 | .int a,.bl b=>a == (if b then 1 else 0)
 | .int a,.int b=>a == b
 | .str a,.str b=>a == b
 | _,_=>false
theorem bg9 {A:Around} {s:Shared} {y x:V} {u v:Value} (ry:t6 y u) (rx:t6 x v) (fy:Y7 y = true) (fx:Y7 x = true):SeqAt.EqAt A s u v (eqV y x):=by
 cases y with
 | non =>
  cases ry
  cases x with
  | non=>cases rx; exact SeqAt.EqAt.same _
  | bl b=>cases rx; exact SeqAt.EqAt.none_bool b
  | int b=>obtain ⟨t,rfl⟩:=rx; exact SeqAt.EqAt.none_int b t
  | str b=>obtain ⟨t,rfl⟩:=rx; exact SeqAt.EqAt.none_str b t
  | _=>exact absurd (show false = true from fx) Bool.false_ne_true
 | bl a =>
  cases ry
  cases x with
  | non=>cases rx; exact SeqAt.EqAt.bool_none a
  | bl b=>cases rx; exact SeqAt.EqAt.bool_bool a b
  | int b=>obtain ⟨t,rfl⟩:=rx; exact SeqAt.EqAt.bool_int a b t
  | str b=>obtain ⟨t,rfl⟩:=rx; exact SeqAt.EqAt.bool_str a b t
  | _=>exact absurd (show false = true from fx) Bool.false_ne_true
 | int a =>
  obtain ⟨t',rfl⟩:=ry
  cases x with
  | non=>cases rx; exact SeqAt.EqAt.int_none a t'
  | bl b=>cases rx; exact SeqAt.EqAt.int_bool a t' b
  | int b=>obtain ⟨t,rfl⟩:=rx; exact SeqAt.EqAt.int_int a t' b t
  | str b=>obtain ⟨t,rfl⟩:=rx; exact SeqAt.EqAt.int_str a t' b t
  | _=>exact absurd (show false = true from fx) Bool.false_ne_true
 | str a =>
  obtain ⟨t',rfl⟩:=ry
  cases x with
  | non=>cases rx; exact SeqAt.EqAt.str_none a t'
  | bl b=>cases rx; exact SeqAt.EqAt.str_bool a t' b
  | int b=>obtain ⟨t,rfl⟩:=rx; exact SeqAt.EqAt.str_int a t' b t
  | str b=>obtain ⟨t,rfl⟩:=rx; exact SeqAt.EqAt.str_str a t' b t
  | _=>exact absurd (show false = true from fx) Bool.false_ne_true
 | _=>exact absurd (show false = true from fy) Bool.false_ne_true
def eqU (x:V) (u:Value):Bool:=match u with
 | .none=>eqV .non x
 | .bool b=>eqV (.bl b) x
 | .int i _=>eqV (.int i) x
 | .str z _=>eqV (.str z) x
 | _=>false
theorem a66 {x y:V} {u:Value} (r:t6 y u) (f:Y7 y = true):eqU x u = eqV y x:=by
 cases y with
 | non=>cases r; rfl
 | bl b=>cases r; rfl
 | int i=>obtain ⟨t,rfl⟩:=r; rfl
 | str z=>obtain ⟨t,rfl⟩:=r; rfl
 | _=>exact absurd (show false = true from f) Bool.false_ne_true
theorem X2 {x:V}:∀ {xs:List V} {us:List Value},r6 xs us → xs.all Y7 = true → us.any (eqU x) = xs.any fun y=>eqV y x
 | _,_,.nil,_=>rfl
 | y :: xs,u :: us,.cons r t,f=>by
  rw [List.all_cons,Bool.and_eq_true] at f
  rw [List.any_cons,List.any_cons,a66 r f.1,X2 t f.2]
theorem S3 {A:Around} {s:Shared} {x:V} {v:Value} (rx:t6 x v) (fx:Y7 x = true):∀ {xs:List V} {us:List Value},r6 xs us → xs.all Y7 = true → ∀ u ∈ us,SeqAt.EqAt A s u v (eqU x u)
 | _,_,.nil,_=>fun u hu=>by cases hu
 | y :: xs,u :: us,.cons r t,f=>fun u' hu=>by
  rw [List.all_cons,Bool.and_eq_true] at f
  rcases List.mem_cons.mp hu with rfl | hu
  ·rw [a66 r f.1]; exact bg9 r rx f.1 fx
  ·exact S3 rx fx t f.2 u' hu
def inV (x:V) (xs:List V):Bool:=xs.any fun y=>eqV y x
def rIn (K:PySem.W.Frag) (neg:Bool):R2:=fun x y H Q=>∃ p xs,y = .ref p ∧ (SqL K H p xs ∨ SqT K H p xs) ∧ Y7 x = true ∧ xs.all Y7 = true ∧ Q (.bl (if neg then !inV x xs else inV x xs)) H
theorem aT0:OpR X (compareOp .In) (rIn X.K false):=by
 intro pins s σ H x y v u Q I rx ry h
 obtain ⟨p,xs,rfl,hq,fx,fs,q⟩:=h
 cases ry
 rcases hq with hq | hq
 ·obtain ⟨its,r,pl,hz⟩:=I.list hq
  refine SeqAt.in_listAt (eqU x) pl.isList (fun w hw=>S3 rx fx r fs w (by simpa using hw)) ⟨.bl _,H,I,rfl,?_⟩
  rw [show its.toArray.any (eqU x) = its.any (eqU x) by simp,X2 r fs]
  exact q
 ·obtain ⟨its,r,pl,hz⟩:=I.tuple hq
  refine SeqAt.in_tupleAt (eqU x) pl (fun w hw=>S3 rx fx r fs w (by simpa using hw)) ⟨.bl _,H,I,rfl,?_⟩
  rw [show its.toArray.any (eqU x) = its.any (eqU x) by simp,X2 r fs]
  exact q
theorem as5:OpR X (compareOp .NotIn) (rIn X.K true):=by
 intro pins s σ H x y v u Q I rx ry h
 obtain ⟨p,xs,rfl,hq,fx,fs,q⟩:=h
 cases ry
 rcases hq with hq | hq
 ·obtain ⟨its,r,pl,hz⟩:=I.list hq
  refine SeqAt.notIn_listAt (eqU x) pl.isList (fun w hw=>S3 rx fx r fs w (by simpa using hw)) ⟨.bl _,H,I,rfl,?_⟩
  rw [show its.toArray.any (eqU x) = its.any (eqU x) by simp,X2 r fs]
  exact q
 ·obtain ⟨its,r,pl,hz⟩:=I.tuple hq
  refine SeqAt.notIn_tupleAt (eqU x) pl (fun w hw=>S3 rx fx r fs w (by simpa using hw)) ⟨.bl _,H,I,rfl,?_⟩
  rw [show its.toArray.any (eqU x) = its.any (eqU x) by simp,X2 r fs]
  exact q
theorem at5:y4 X (.builtin "len") (fun xs H Q=>∃ p ys,xs = [.ref p] ∧ (SqL X.K H p ys ∨ SqT X.K H p ys) ∧ Q (.int ys.length) H):=by
 intro pins s σ H xs us Q I r h
 obtain ⟨p,ys,rfl,hq,q⟩:=h
 obtain ⟨u,rfl,rx⟩:=J5 r
 cases rx
 have hn:=X0
 rcases hq with hq | hq
 ·obtain ⟨its,r',pl,hz⟩:=I.list hq
  have hlen:=r'.length
  exact Calls.call_len_list pl.isList (by simp only [List.size_toArray] <;> lia) ⟨.int ys.length,H,I.tok _,⟨s.toks + 1,by rw [List.size_toArray,hlen]⟩,q⟩
 ·obtain ⟨its,r',pl,hz⟩:=I.tuple hq
  have hlen:=r'.length
  exact len_tuple pl (by simp only [List.size_toArray] <;> lia) ⟨.int ys.length,H,I.tok _,⟨s.toks + 1,by rw [List.size_toArray,hlen]⟩,q⟩
theorem au9:y4 X (.type "list") (fun xs H Q=>∃ p ys,xs = [.ref p] ∧ (SqL X.K H p ys ∨ SqT X.K H p ys) ∧ ∀ l,H l = none → Q (.ref l) (upd H l (.lst ys))):=by
 intro pins s σ H xs us Q I r h
 obtain ⟨p,ys,rfl,hq,q⟩:=h
 obtain ⟨u,rfl,rx⟩:=J5 r
 cases rx
 have fin:∀ (its:List Value),r6 ys its → ys.length ≤ sizeLine → ∀ (h':Heap) (c':Nat),(∀ b o',s.heap.get? b = some o' → h'.get? b = some o') →
   h'.get? s.heap.objs.size = some { cls:=.type "list",dict:=none,data:=.seq its.toArray c',slots:=#[] } → EP X pins σ Q (.ref s.heap.objs.size) { s with heap:=h' }:=fun its r' hz h' c' kp e =>
  ⟨.ref s.heap.objs.size,_,I.laid (t':=s.toks) kp (Nat.le_refl _) (show x6 X.prog X.w _ h' _ (.lst ys) from ⟨hz,its,c',r',e⟩),rfl,q _ (I.hok.fresh (Nat.le_refl _))⟩
 rcases hq with hq | hq
 ·obtain ⟨its,r',pl,hz⟩:=I.list hq
  have hlen:=r'.length
  obtain ⟨o,ho,hc,n,hd⟩:=pl.isList
  exact call_list_seq p (.inl rfl) ho hc hd (fun h' c' kp e=>fin its r' hz h' c' kp e) (by simp only [List.size_toArray] <;> lia)
 ·obtain ⟨its,r',pl,hz⟩:=I.tuple hq
  have hlen:=r'.length
  obtain ⟨o,ho,hc,n,hd⟩:=pl
  exact call_list_seq p (.inr rfl) ho hc hd (fun h' c' kp e=>fin its r' hz h' c' kp e) (by simp only [List.size_toArray] <;> lia)
theorem am3:y4 X (.type "tuple") (fun xs H Q=>∃ p ys,xs = [.ref p] ∧ ((SqL X.K H p ys ∧ ∀ l,H l = none → Q (.ref l) (upd H l (.tup ys))) ∨ (SqT X.K H p ys ∧ Q (.ref p) H))):=by
 intro pins s σ H xs us Q I r h
 obtain ⟨p,ys,rfl,h⟩:=h
 obtain ⟨u,rfl,rx⟩:=J5 r
 cases rx
 rcases h with ⟨hq,q⟩ | ⟨hq,q⟩
 ·obtain ⟨its,r',pl,hz⟩:=I.list hq
  have hlen:=r'.length
  refine call_tuple_list pl.isList (fun h' kp=>?_) (by simp only [List.size_toArray] <;> lia)
  have I1:Inv X pins σ H { s with heap:=h' }:=I.kept (t':=s.toks) kp
  have I2:Inv X pins σ (upd H h'.objs.size (.tup ys)) { s with heap:=h'.push { cls:=.type "tuple",data:=.seq its.toArray } } :=
   I1.laid (t':=s.toks) (fun b o e=>Heap.get?_push_of_some _ e) (Nat.le_refl _) (show x6 X.prog X.w _ _ _ (.tup ys) from ⟨hz,its,r',IsTup.new _ _⟩)
  exact ⟨.ref h'.objs.size,_,I2,rfl,q _ (I1.hok.fresh (Nat.le_refl _))⟩
 ·obtain ⟨its,r',pl,hz⟩:=I.tuple hq
  exact call_tuple_same pl ⟨.ref p,H,I,rfl,q⟩
def tyV (K:PySem.W.Frag) (T:String) (x:V) (H:Hp):Prop:=match x with
 | .str _=>T = "str"
 | .int _=>T = "int"
 | .ref p=>(T = "list" ∧ ∃ xs,SqL K H p xs) ∨ (T = "tuple" ∧ ∃ o,K.lookup p = some o ∧ o.cls = .type "tuple" ∧ o.dict = none) ∨
   (T = "dict" ∧ ((∃ kvs,H p = some (.dK kvs)) ∨ ∃ kvs,H p = some (.dT kvs))) ∨ (T = "set" ∧ ∃ S n,H p = some (.set S n))
 | _=>False
theorem bj2 {pins:List (Addr × Obj)} {σ:St} {H:Hp} {s:Shared} {T:String} {x:V} {v:Value} (I:Inv X pins σ H s) (r:t6 x v) (ty:tyV X.K T x H) :
  s.TypeIs v T ∧ ∀ a,v = .ref a → ∃ ob,s.heap.get? a = some ob ∧ ob.dict = none:=by
 cases x with
 | str z =>
  obtain ⟨t,rfl⟩:=r
  cases (show T = "str" from ty)
  exact ⟨typeIs_str s z t,fun _ e=>nomatch e⟩
 | int i =>
  obtain ⟨t,rfl⟩:=r
  cases (show T = "int" from ty)
  exact ⟨typeIs_int s i t,fun _ e=>nomatch e⟩
 | ref p =>
  cases r
  rcases ty with ⟨rfl,xs,hq⟩ | ⟨rfl,o,hk,hc,hd⟩ | ⟨rfl,hk⟩ | ⟨rfl,S,n,hk⟩
  ·obtain ⟨its,_,pl,_⟩:=I.list hq
   refine ⟨pl.isList.typeIs,fun a e=>?_⟩
   cases e
   obtain ⟨o,n,e,c,hd,_⟩:=pl
   exact ⟨o,e,hd⟩
  ·refine ⟨⟨o,I.kIn p o hk,hc⟩,fun a e=>?_⟩
   cases e
   exact ⟨o,I.kIn _ o hk,hd⟩
  ·have z:∃ o,s.heap.get? p = some o ∧ o.ExactDict:=by
    rcases hk with ⟨kvs,hk⟩ | ⟨kvs,hk⟩
    ·obtain ⟨_,_,_,_,o,_,_,e,ex,_⟩:=I.hok p _ hk
     exact ⟨o,e,ex⟩
    ·obtain ⟨_,_,_,_,o,_,_,e,ex,_⟩:=I.hok p _ hk
     exact ⟨o,e,ex⟩
   obtain ⟨o,e,ex⟩:=z
   refine ⟨⟨o,e,ex.1⟩,fun a e2=>?_⟩
   cases e2
   exact ⟨o,e,ex.2.1⟩
  ·obtain ⟨o,_,_,_,e,ex,_⟩:=I.hok p _ hk
   refine ⟨⟨o,e,ex.1⟩,fun a e2=>?_⟩
   cases e2
   exact ⟨o,e,ex.2.1⟩
 | _=>exact False.elim ty
def tBM (K:PySem.W.Frag) (T:String) (r:V → List V → Hp → VK → Prop) (to:TE) (t:TA):TE:=fun σ H Q=>to σ H fun x H1=>tyV K T x H1 ∧ t σ H1 fun xs H2=>r x xs H2 Q
variable {o e:Expr} {es:List Expr} {to:TE} {t:TA} {name:Str} {apos cpos:Pos} {T id:String} {r:V → List V → Hp → VK → Prop}
theorem bn1 (pa:PlainAttrs T) (slot:Slot T name id) (hty:typeOf (.builtin id) = pure (.type "method_descriptor")) (hm:MtR X id r) (ho:PE X o to) (ha:PA X (e :: es) t)
  (hbase:attributeBase o name X.env (eval o X.env) = eval o X.env:=by rfl)
  (hfew:((backTo cpos (starEach (e :: es) X.env)).all (fun x=>!x.1) && (backToKw cpos (keywordEach [] X.env)).all (fun x=>x.1.isSome)
   && decide ((e :: es).length + ([]:List Keyword).length + (if ([]:List Keyword).isEmpty then 0 else 1) < 30)) = true:=by rfl)
  (hline:(apos.endLine == cpos.line) = true:=by rfl) (hs:starEach (e :: es) X.env = (false,eval e X.env) :: starEach es X.env:=by rfl) (hplain:(backTo cpos (starEach es X.env)).any (·.1) = false:=by rfl) :
  PE X (.Call (.Attribute o name apos) (e :: es) [] cpos) (tBM X.K T r to t):=by
 intro pins s σ H Q I h
 refine wpAny_Call_method_late hbase hfew hline rfl (thn (ho pins s σ H _ I h) fun v s1 ⟨x,H1,I1,r1,ty,q1⟩=>?_)
 obtain ⟨h1,h2⟩:=bj2 I1 r1 ty
 refine ⟨T,id,pa,slot,hty,h1,h2,?_⟩
 have hA:=ha cpos pins s1 σ H1 _ I1 q1
 rw [hs] at hA ⊢
 refine Calls.callWith_builtin (by show (false || (backTo cpos (starEach es X.env)).any (·.1)) = false; rw [hplain] <;> rfl) (Calls.evalArgs_plain ?_)
 exact thn hA fun us s2 ⟨vs,H2,I2,r2,q2⟩=>hm pins s2 σ H2 x vs v us Q I2 r1 r2 q2
end
end L2
namespace L2
open PySem PySem.Spec PyProof.Rows
def MtM (X:Cx) (id:String) (r:V → List V → Hp → VK → Prop):Prop :=
 ∀ (pins:List (Addr × Obj)) (s:Shared) (σ:St) (H:Hp) (x:V) (xs:List V) (v:Value) (us:List Value) (Q:VK),Inv X pins σ H s → t6 x v → r6 xs us → r x xs H Q →
  wpAny (model X.prog X.w) X.A (call (.builtin id) (v :: us)) (EP X pins σ Q) X.xe s
theorem r6.one:∀ {x:V} {us:List Value},r6 [x] us → ∃ u,us = [u] ∧ t6 x u
 | _,_,.cons r .nil=>⟨_,rfl,r⟩
theorem r6.rep {xs:List V} {us:List Value} (h:r6 xs us):∀ k:Nat,r6 (List.replicate k xs).flatten (List.replicate k us).flatten
 | 0=>.nil
 | k + 1=>by
  rw [List.replicate_succ,List.replicate_succ,List.flatten_cons,List.flatten_cons]
  exact r6.append h (r6.rep h k)
theorem ap1 (its:List Value):∀ (k:Nat) (acc:List Value),
  List.foldl (fun x1 x2=>x1 ++ x2) acc.toArray (List.replicate k its.toArray) = (acc ++ (List.replicate k its).flatten).toArray
 | 0,acc=>by simp
 | k + 1,acc=>by
  have e:acc.toArray ++ its.toArray = (acc ++ its).toArray:=by simp
  have e2:(acc ++ its) ++ (List.replicate k its).flatten = acc ++ (List.replicate (k + 1) its).flatten:=by
   rw [List.replicate_succ,List.flatten_cons,List.append_assoc]
  rw [← e2,← ap1 its k (acc ++ its),← e,List.replicate_succ,List.foldl_cons]
section
variable {X:Cx} {pins:List (Addr × Obj)} {σ:St} {H:Hp} {s:Shared} {l b:Addr} {xs ys zs:List V}
theorem Inv.lset {its its':List Value} {n:Nat} {f:Array Value → Array Value} {t':Nat} (I:Inv X pins σ H s) (hH:H l = some (.lst xs))
  (e:s.heap.get? l = some { cls:=.type "list",data:=.seq its.toArray n }) (hf:f its.toArray = its'.toArray) (hv:r6 ys its') (hz:ys.length ≤ sizeLine) :
  Inv X pins σ (upd H l (.lst ys)) { s with heap:=s.heap.update l (Obj.mapSeq f),toks:=t' }:=by
 have q:=PySem.IsL.update e f
 rw [hf] at q
 refine I.write (x:=l) (e:=l) (by rw [hH]; exact trivial) (.inl rfl) (fun b' u hb hu=>(Heap.get?_update_other s.heap (Obj.mapSeq f) (Ne.symm hb)).trans hu) ⟨_,q⟩ ?_
 exact ⟨hz,its',_,hv,q⟩
theorem Inv.lnew {its:List Value} {t':Nat} (I:Inv X pins σ H s) (hv:r6 ys its) (hz:ys.length ≤ sizeLine) :
  Inv X pins σ (upd H s.heap.objs.size (.lst ys)) { s with heap:=s.heap.push { cls:=.type "list",data:=.seq its.toArray },toks:=t' } :=
 I.laid (fun _ _ q=>Heap.get?_push_of_some _ q) (Nat.le_refl _) ⟨hz,its,0,hv,Heap.get?_push_size _ rfl⟩
theorem Inv.fresh (I:Inv X pins σ H s):H s.heap.objs.size = none:=I.hok.fresh (Nat.le_refl _)
theorem Inv.lstM (I:Inv X pins σ H s) (hH:H l = some (.lst xs)):xs.length ≤ sizeLine ∧ ∃ (its:List Value) (n:Nat),r6 xs its ∧ xs.length = its.length ∧ s.heap.get? l = some { cls:=.type "list",data:=.seq its.toArray n }:=by
 obtain ⟨z,its,n,r,e⟩:=I.hok l _ hH
 exact ⟨z,its,n,r,r.length,e⟩
theorem af1 {n:Nat} (h:n ≤ sizeLine):Builtin.List.listTooLong n = false:=by
 unfold Builtin.List.listTooLong
 exact decide_eq_false (by lia)
end
section
variable {X:Cx}
def aP4:V → List V → Hp → VK → Prop:=fun x vs H Q=>∃ l xs y,x = .ref l ∧ vs = [y] ∧ H l = some (.lst xs) ∧ xs.length < sizeLine ∧ Q .non (upd H l (.lst (xs ++ [y])))
theorem aS6:MtM X "list.append" aP4:=by
 intro pins s σ H x vs v us Q I rx rv h
 obtain ⟨l,xs,y,rfl,rfl,hH,hz,q⟩:=h
 cases rx
 obtain ⟨u,rfl,ru⟩:=rv.one
 obtain ⟨z,its,n,r,hl,e⟩:=I.lstM hH
 refine call_meets F.slot_list_append ⟨_,e,rfl⟩ F.entry_list_append (F.args_list_append_2 _ _) (PySem.list_append l its.toArray n u (by rw [List.size_toArray]; lia)) ⟨e,?_⟩
 refine ⟨.non,_,I.lset (its':=its ++ [u]) hH e (by simp) (r.append (.cons ru .nil)) ?_,rfl,q⟩
 rw [List.length_append,List.length_singleton]
 lia
def aP5:V → List V → Hp → VK → Prop:=fun x vs H Q=>∃ l b xs zs,x = .ref l ∧ vs = [.ref b] ∧ H l = some (.lst xs) ∧ H b = some (.lst zs) ∧ xs.length + zs.length ≤ sizeLine ∧ Q .non (upd H l (.lst (xs ++ zs)))
theorem aV5:MtM X "list.extend" aP5:=by
 intro pins s σ H x vs v us Q I rx rv h
 obtain ⟨l,b,xs,zs,rfl,rfl,hH,hB,hz,q⟩:=h
 cases rx
 obtain ⟨u,rfl,ru⟩:=rv.one
 cases ru
 obtain ⟨z,its,n,r,hl,e⟩:=I.lstM hH
 obtain ⟨z2,its2,n2,r2,hl2,e2⟩:=I.lstM hB
 have hsz:its.toArray.size + its2.toArray.size ≤ sizeLine:=by rw [List.size_toArray,List.size_toArray]; lia
 have hlong:¬ (!its.toArray.isEmpty && Builtin.List.listTooLong (its.toArray.size + its2.toArray.size)) = true:=by
  rw [af1 hsz,Bool.and_false]
  exact Bool.false_ne_true
 refine call_meets F.slot_list_extend ⟨_,e,rfl⟩ F.entry_list_extend (F.args_list_extend_2 _ _)
  (AutoSeq1.list_extend_list_list_0 l its.toArray n b its2.toArray n2 hlong (by rw [List.size_toArray]; lia) (by lia)) ⟨e,e2,?_⟩
 refine ⟨.non,_,I.lset (its':=its ++ its2) hH e (by simp) (r.append r2) ?_,rfl,q⟩
 rw [List.length_append]
 lia
def bo7:R2:=fun x y H Q=>∃ l b xs zs,x = .ref l ∧ y = .ref b ∧ H l = some (.lst xs) ∧ H b = some (.lst zs) ∧ xs.length + zs.length ≤ sizeLine ∧ ∀ p,H p = none → Q (.ref p) (upd H p (.lst (xs ++ zs)))
theorem av3:OpR X (binaryOp .Add) bo7:=by
 intro pins s σ H x y v u Q I rx ry h
 obtain ⟨l,b,xs,zs,rfl,rfl,hH,hB,hz,q⟩:=h
 cases rx
 cases ry
 obtain ⟨z,its,n,r,hl,e⟩:=I.lstM hH
 obtain ⟨z2,its2,n2,r2,hl2,e2⟩:=I.lstM hB
 refine PySem.P.add_list e e2 ?_ (by rw [List.size_toArray,List.size_toArray]; lia)
 have ea:its.toArray ++ its2.toArray = (its ++ its2).toArray:=by simp
 rw [ea]
 exact ⟨.ref _,_,I.lnew (t':=s.toks) (r.append r2) (by rw [List.length_append]; lia),rfl,q _ I.fresh⟩
def bn7:R2:=fun x y H Q=>∃ l k xs,x = .ref l ∧ y = .int k ∧ H l = some (.lst xs) ∧ -(2 ^ 63) ≤ k ∧ k < 2 ^ 63 ∧ xs.length * k.toNat ≤ sizeLine ∧
 ∀ p,H p = none → Q (.ref p) (upd H p (.lst (List.replicate k.toNat xs).flatten))
theorem ba5 {α:Type} (xs:List α) (k:Nat):(List.replicate k xs).flatten.length = k * xs.length:=by
 induction k with
 | zero=>simp
 | succ k ih=>rw [List.replicate_succ,List.flatten_cons,List.length_append,ih,Nat.succ_mul,Nat.add_comm]
theorem aX6:OpR X (binaryOp .Mult) bn7:=by
 intro pins s σ H x y v u Q I rx ry h
 obtain ⟨l,k,xs,rfl,rfl,hH,h1,h2,hz,q⟩:=h
 cases rx
 obtain ⟨t,rfl⟩:=ry
 obtain ⟨z,its,n,r,hl,e⟩:=I.lstM hH
 have hlen:its.toArray.size * k.toNat ≤ sizeLine:=by rw [List.size_toArray,← hl]; exact hz
 have hcap:¬ its.toArray.size * k.toNat > (2 ^ 63 - 1) / 8:=by
  have:(sizeLine:Nat) ≤ (2 ^ 63 - 1) / 8:=by decide
  lia
 have hfit:¬ (!Builtin.List.listFitsIndex k) = true:=by
  rw [fitsIndex_both h1 h2]
  exact Bool.false_ne_true
 have hlong:¬ Builtin.List.listTooLong (its.toArray.size * k.toNat) = true:=by
  rw [af1 hlen]
  exact Bool.false_ne_true
 have hnew:List.foldl (fun x1 x2=>x1 ++ x2) #[] (List.replicate (if its.toArray.isEmpty = true then 0 else k.toNat) its.toArray) = (List.replicate k.toNat its).flatten.toArray:=by
  have f0:∀ m:Nat,List.foldl (fun x1 x2=>x1 ++ x2) #[] (List.replicate m its.toArray) = (List.replicate m its).flatten.toArray:=fun m=>by
   have:=ap1 its m []
   rw [List.nil_append] at this
   exact this
  rw [f0]
  cases its with
  | nil=>simp
  | cons a r'=>rw [if_neg (by simp)]
 refine wpAny_binaryOp_repeat_ref (T:="list") (U:="int") (by decide) ⟨_,e,rfl⟩ (fun s'=>typeIs_int s' k t) noFill_list_mul F.fills_int_mul F.slot_int_rmul repeat_list F.slot_int_index.lookup
  (call_meets F.slot_int_rmul (typeIs_int s k t) F.entry_int_rmul (F.args_int_rmul_2 _ _) (int___rmul___int_list k t l its.toArray n)
   ⟨e,rfl,⟨_,e,rfl⟩,call_meets F.slot_list_mul ⟨_,e,rfl⟩ F.entry_list_mul (F.args_list_mul_2 _ _) (AutoListH.list___mul___list_int_3 l its.toArray n k t hfit hcap hlong) ⟨e,?_⟩⟩)
 rw [hnew]
 exact ⟨.ref _,_,I.lnew (t':=s.toks) (r.rep k.toNat) (by rw [ba5,Nat.mul_comm]; exact hz),rfl,q _ I.fresh⟩
end
end L2
namespace Att
open PySem PySem.W PySem.Calls PyProof.Rows
theorem ad8 {P:Params} {h:Heap}:∀ (ns:List Int) (vs:List Value),WellAll P h vs (ns.map WData.int) → IntsAre vs ns:=by
 intro ns
 induction ns with
 | nil =>
  intro vs w
  rw [List.map_nil] at w
  cases w
  exact .nil
 | cons n ns ih =>
  intro vs w
  rw [List.map_cons] at w
  cases w with
  | cons a b =>
   cases a
   exact .cons _ _ (ih _ b)
theorem aS7 {l:OpenLaw} {n:Nat} (hn:l.most = some n) {P:Params} {h:Heap} {args:List WData} {vals:List Value}
  (hpre:l.row.toRowW.claim.pre args = true) (hwl:WellAll P h vals args) :
  ∃ a vs ns,vals = [Value.ref a] ∧ args = [WData.list (ns.map WData.int)] ∧ h.get? a = some { cls:=.type "list",data:=.seq vs.toArray } ∧ IntsAre vs ns ∧ ns.length ≤ n:=by
 have hsh:WShape.hasAll [] args [.list .int] = true:=(pre_splitW hpre).1
 have hc:l.pre.holds [] { args:=args } = true:=(pre_splitW hpre).2
 obtain ⟨d,r,rfl,h1,h2⟩:=hasAllW_cons hsh
 obtain rfl:=hasAllW_nil h2
 obtain ⟨xs,rfl,h3⟩:=hasW_list h1
 obtain ⟨ns,rfl⟩:=items_int h3
 have hlen:ns.length ≤ n:=by
  unfold OpenLaw.pre at hc
  have h4:(WTm.not (.lt (.lit (.int (n:Int))) (.len (.arg 0)))).holds [] { args:=[.list (ns.map .int)] } = true:=by
   have h4:=(holds_andW hc).1
   rw [hn] at h4
   exact h4
  have h5:=condW_of h4 (w_not (w_lt w_lit (w_len_list (w_arg rfl))))
  rw [List.length_map] at h5
  refine Nat.le_of_not_lt fun q=>?_
  have q':(n:Int) < ((ns.length:Nat):Int):=by lia
  first
   | (rw [decide_eq_true q'] at h5; exact absurd h5 (by decide))
   | (simp at h5; lia)
 cases hwl with
 | cons w1 w2 =>
  cases w2
  cases w1 with
  | list ho hall=>exact ⟨_,_,ns,rfl,rfl,ho,ad8 ns _ hall,hlen⟩
theorem aT3 (l:OpenLaw) (args:List WData):l.row.toRowW.claim.post args (.bool true) args = true :=
 postW_of (r:=l.row.toRowW) (X:=(true == true))
  (show WShape.has [] (.bool true) .bool = true by first | rfl | decide | simp [WShape.has,WShape.arms,WShape.armsAll])
  (show (WTm.eq .res (.lit (.bool true))).value [] { args:=args,res:=some (.bool true),after:=args } = some (.bool (true == true)) from w_eq_bool (w_res rfl) w_lit) rfl
theorem attach_call {l:OpenLaw} {n:Nat} {q:Program} {loose:List Str} {XP:(Str → Option Value) → Heap → Prop} {YP:World → Heap → Prop} {d:DefRec}
  (hn:l.most = some n) (hdf:d.params.defaults = [])
  (call:∀ (w:World) (s₀ s₁:Shared) (mg mb:Str → Option Value) (fa:Addr) (o:Obj) (pm cd doc:Value) (a:Addr) (vs:List Value) (ns:List Int),
   Ground q loose [] XP w s₀ mg mb s₁.heap → YP w s₁.heap →
   s₁.heap.get? fa = some o → o.data = .func (docDef d.name d.params d.body d.scope pm cd doc) → s₁.heap.CodeRec cd d.name → mg d.name = some (.ref fa) →
   s₁.heap.get? a = some { cls:=.type "list",data:=.seq vs.toArray } → IntsAre vs ns → ns.length ≤ n → s₁.gens = #[] →
   codeAny (model l.prog w) callerA (.call (.ref fa) ⟨[.ref a],[]⟩) (fun r s'=>r = .ok (.ret (.bool true)) ∧ OldK s₁.heap s'.heap ∧ s'.os = s₁.os ∧ AllBare s'.gens) s₁) :
  WalkO q loose XP YP l.row.toRowW d [] (fun f vs=>PySem.call f vs):=by
 intro w s₀ s₁ mg mb G Y fa o pm cd doc dV kV ho hd hcd hD hmg hg args vals as hpre hlay hrd hwl hlo
 obtain rfl:dV = .none:=Dflts.none hD hdf
 obtain rfl:kV = .none:=Dflts.noKw hD
 obtain ⟨a,vs,ns,rfl,rfl,hobj,hints,hlen⟩:=aS7 hn hpre hwl
 refine enter_call (codeAny_mono (call w s₀ s₁ mg mb fa o pm cd doc a vs ns G Y ho (fd_plain hd) hcd hmg hobj hints hlen hg) fun r s' hq=>?_)
 obtain ⟨rfl,h2,h3,h4⟩:=hq
 exact ⟨.inl ⟨.bool true,.bool true,[],rfl,fun _=>rfl,.bool true,aT3 l _,fun _=>⟨List.Pairwise.nil,fun _ hm=>(nomatch hm)⟩⟩,h2,h3,h4⟩
end Att
namespace L2
open PySem PySem.Spec PyProof.Rows
theorem N8:∀ {vs:List Value} {ns:List Int},IntsAre vs ns → r6 (ns.map V.int) vs
 | _,_,.nil=>.nil
 | _,_,.cons n t h=>.cons ⟨t,rfl⟩ (N8 h)
def bf8 (H:Hp):Prop:=∀ b,H b = none ∨ ∃ o xs,H b = some (.frz o (.lst xs))
theorem a85 {P:Program} {w:World} {K:PySem.W.Frag} {mg mb:Str → Option Value} {CX:CXT} {k:Nat} {fa a:Addr} {fd:FuncData} {x:Str} {sp:Sp} {s₁:Shared} {vs:List Value} {ns:List Int}
  (KX:K.In s₁.heap) (hns:s₁.heap.Ns mainGlobals mg) (hb:s₁.heap.Ns builtinsNs mb) (hbb:∀ x:Str,x ≠ "__name__" → mb x = bootBuiltins x) (hlim:s₁.heap.NoLimit) (hg:s₁.gens = #[])
  (ha:s₁.heap.get? a = some { cls:=.type "list",data:=.seq vs.toArray }) (hi:IntsAre vs ns) (hl:ns.length ≤ sizeLine) (hr:Room k callerA)
  (F:∀ base:Heap,K.In base → base.Ns mainGlobals mg → FnOk P w K mg base CX k fa fd [x] sp) (hbind:∀ (s:Shared) (u:Value),BindsTo s fd ⟨[u],[]⟩ [(x,u)])
  (hsp:∀ H:Hp,bf8 H → SqL K H a (ns.map V.int) → sp [.ref a] H (fun v _=>v = .bl true) fun _ _ _=>False)
  (hCX:∀ H e s',CX [] H s₁ (fun _ _ _=>False) e s' → False) :
  codeAny (model P w) callerA (.call (.ref fa) ⟨[.ref a],[]⟩) (fun r s'=>r = .ok (.ret (.bool true)) ∧ OldK s₁.heap s'.heap ∧ s'.os = s₁.os ∧ AllBare s'.gens) s₁:=by
 have rv:=N8 hi
 have lenV:=hi.length
 have core:∀ H:Hp,bf8 H → SqL K H a (ns.map V.int) → HOk P w H s₁.heap → (∀ b,H b ≠ none → b = a) → (H a ≠ none → K.lookup a = none) →
   codeAny (model P w) callerA (.call (.ref fa) ⟨[.ref a],[]⟩) (fun r s'=>r = .ok (.ret (.bool true)) ∧ OldK s₁.heap s'.heap ∧ s'.os = s₁.os ∧ AllBare s'.gens) s₁:=by
  intro H hO hS hok hA hK
  have base_of:∀ {b:Addr} {o:Obj},s₁.heap.get? b = some o → H b = none → (as9 s₁.heap H).get? b = some o:=fun e n=>a63 e n
  have noA:∀ {b:Addr} {o:Obj} {es:Array DictEntry} {ep:Nat},s₁.heap.get? b = some o → o.data = .dict es ep → H b = none:=fun {b o es ep} e d=>by
   cases q:H b with
   | none=>rfl
   | some u =>
    have e':b = a:=hA b (by rw [q]; simp)
    subst e'
    rw [ha] at e; cases e
    have d':Data.seq vs.toArray _ = Data.dict es ep:=d
    cases d'
  have nsK:∀ {b:Addr} {m:Str → Option Value},s₁.heap.Ns b m → (as9 s₁.heap H).Ns b m:=fun {b m} ⟨o,es,ep,e,d,r⟩=>⟨o,es,ep,base_of e (noA e d),d,r⟩
  have hKb:K.In (as9 s₁.heap H):=fun b o e=>base_of (KX b o e) (by
   cases q:H b with
   | none=>rfl
   | some u =>
    have e':b = a:=hA b (by rw [q]; simp)
    subst e'
    rw [hK (by rw [q]; simp)] at e; cases e)
  have hM:Mod K mg (as9 s₁.heap H):=⟨hKb,nsK hns,⟨mb,nsK hb,hbb⟩,let ⟨mc,h1,h2⟩:=hlim; ⟨mc,nsK h1,h2⟩⟩
  have e0:Env0 P w K mg (as9 s₁.heap H) callerA [] s₁ H:=⟨rfl,hM,fun b o e=>bc8 e,Nat.le_of_eq (aU1 _ _),trivial,fun b hb=>absurd (show b ∈ ([]:List Addr) from hb) (by simp),hok,.of_eq hg⟩
  refine codeAny_mono ((F _ hKb (nsK hns)).run callerA [] s₁ H ⟨[.ref a],[]⟩ [.ref a] [.ref a] _ _ hr e0 (hbind s₁ (.ref a)) (.cons rfl .nil) (hsp H hO hS)) fun r s' h=>?_
  cases r with
  | error e=>exact (hCX H e s' h).elim
  | ok fl =>
   cases fl with
   | next=>exact False.elim h
   | brk=>exact False.elim h
   | cont=>exact False.elim h
   | ret u =>
    obtain ⟨v,H',os,bare,un,hok',r',q⟩:=h
    have q':v = .bl true:=q
    subst q'
    obtain rfl:u = Value.bool true:=r'
    refine ⟨rfl,OldK.of_keep fun b o e=>?_,os,bare⟩
    cases q:H b with
    | none=>exact un.keep b o e q (by intro z; exact absurd (show b ∈ ([]:List Addr) from z) (by simp)) (by simp)
    | some u =>
     rcases hO b with z | ⟨ob,xs,z⟩
     ·rw [q] at z; cases z
     ·have z2:=un.frzs b ob _ z
      obtain ⟨e1,_⟩:=hok b _ z
      obtain ⟨e2,_⟩:=hok' b _ z2
      rw [e] at e1; cases e1
      exact e2
 cases hk:K.lookup a with
 | some o =>
  have e:=KX a o hk
  rw [ha] at e
  cases e
  refine core (fun _=>none) (fun _=>.inl rfl) (.inr ⟨_,vs.toArray,_,hk,rfl,rfl,rfl,by rw [List.size_toArray,lenV]; exact hl,by simpa using rv⟩) (fun b u z=>by have z':(none:Option HO) = some u:=z; cases z') (fun b z=>absurd rfl z) fun z=>absurd rfl z
 | none =>
  refine core (fun b=>if b = a then some (.frz { cls:=.type "list",data:=.seq vs.toArray } (.lst (ns.map V.int))) else none) (fun b=>?_) (.inl (.inr ⟨{ cls:=.type "list",data:=.seq vs.toArray },if_pos rfl⟩)) (fun b u z=>?_) (fun b z=>?_) fun _=>hk
  ·by_cases hb:b = a
   ·exact .inr ⟨_,_,if_pos hb⟩
   ·exact .inl (if_neg hb)
  ·by_cases hb:b = a
   ·have z':=(if_pos hb).symm.trans z
    cases z'
    subst hb
    exact ⟨ha,by rw [List.length_map]; exact hl,vs,_,rv,ha⟩
   ·have z':=(if_neg hb).symm.trans z
    cases z'
  ·by_cases hb:b = a
   ·exact hb
   ·exact absurd (if_neg hb) z
end L2
namespace L2
open PySem PySem.Spec PyProof.Rows
theorem a_2 {l:PySem.W.OpenLaw} {n k:Nat} {q:Program} {loose:List Str} {XP:(Str → Option Value) → Heap → Prop} {YP:World → Heap → Prop} {d:DefRec} {K:Params → PySem.W.Frag} {CX:World → CXT} {sp:World → Sp} {x:Str}
  (hn:l.most = some n) (hn2:n ≤ sizeLine) (hdf:d.params.defaults = []) (hr:Room k callerA)
  (hY:∀ (w:World) (h:Heap),YP w h → (K w.params).In h)
  (F:∀ (w:World) (mg:Str → Option Value) (fa:Addr) (h:Heap),(K w.params).In h → h.Ns mainGlobals mg → mg d.name = some (.ref fa) →
   ∃ fd:FuncData,(∀ (s:Shared) (u:Value),BindsTo s fd ⟨[u],[]⟩ [(x,u)]) ∧
    ∀ base:Heap,(K w.params).In base → base.Ns mainGlobals mg → FnOk l.prog w (K w.params) mg base (CX w) k fa fd [x] (sp w))
  (hsp:∀ (w:World) (H:Hp) (a:Addr) (ns:List Int),ns.length ≤ n → bf8 H → SqL (K w.params) H a (ns.map V.int) → sp w [.ref a] H (fun v _=>v = .bl true) fun _ _ _=>False)
  (hCX:∀ (w:World) (H:Hp) (s:Shared) (e:Value) (s':Shared),CX w [] H s (fun _ _ _=>False) e s' → False) :
  PySem.W.WalkO q loose XP YP l.row.toRowW d [] (fun f vs=>PySem.call f vs):=by
 refine Att.attach_call hn hdf fun w s₀ s₁ mg mb fa o pm cd doc a vs ns G Y ho hd hcd hmg hobj hints hlen hg=>?_
 have KX:=hY w _ Y
 obtain ⟨fd,hb,hF⟩:=F w mg fa _ KX G.T.g hmg
 exact a85 KX G.T.g G.T.b G.T.builtins G.T.nolimit hg hobj hints (Nat.le_trans hlen hn2) hr hF hb (fun H hO hS=>hsp w H a ns hlen hO hS) fun H e s'=>hCX w H s₁ e s'
end L2
namespace L2
open PySem PySem.Spec PyProof.Rows
def j6 (s:Stmt):Arguments:=match s with
 | .FunctionDef _ a _ _ _ _ _ _ _ _=>a
 | _=>{ posonlyargs:=[],args:=[],vararg:=none,kwonlyargs:=[],kw_defaults:=[],kwarg:=none,defaults:=[] }
def i9 (s:Stmt):List Stmt:=match s with
 | .FunctionDef _ _ b _ _ _ _ _ _ _=>b
 | _=>[]
def d5 (s:Stmt):Scope:=match s with
 | .FunctionDef _ _ _ _ _ _ sc _ _ _=>sc
 | _=>{ kind:=.function,names:=[],isGenerator:=false,isCoroutine:=false }
abbrev CX0:CXT:=fun _ _ _ _ _ _=>False
abbrev E0:XK:=fun _ _ _=>False
theorem bd2 {X:Cx}:aI6 CX0 X E0:=fun _ _ _ _ _ _ _ h=>h.elim
structure Fun (K:PySem.W.Frag) (x qual:Str) (st:Stmt) (f:Addr) (fd:FuncData):Prop where
 ex:∃ (oc:Value) (od:Option Addr) (kV doc pm:Value) (an:Option Addr) (cdv ct:Value) (osl:Array (Option Value)),
  fd = PySem.W.fnOf x qual (j6 st) (i9 st) (d5 st) .none kV doc pm an cdv ct ∧ K.lookup f = some ⟨oc,od,.func fd,osl⟩ ∧ PySem.W.codeIn K cdv qual = true
 kp:PySem.W.keepIn K (.ref f) = true
section
variable {P:Program} {w:World} {K:PySem.W.Frag} {mg:Str → Option Value} {base:Heap}
theorem Fun.ok {x qual:Str} {st:Stmt} {f:Addr} {fd:FuncData} {N ps:List Str} {k:Nat} {sp:Sp} (F:Fun K x qual st f fd) (S:FnScope N ps (d5 st)) (len:∀ vs H Q E,sp vs H Q E → vs.length = ps.length)
  (hbody:∀ (cdv:Value) (A:Around) (outer:List Env) (s:Shared) (H:Hp) (vs:List V) (Q:VK) (E:XK),Room k (A.deeper (envOfC qual (d5 st) s.heap.objs.size f cdv)) → sp vs H Q E →
   ∃ t,PSs (az1 CX0 P w K mg base N qual (d5 st) f cdv A outer s H E).nox (i9 st) t ∧ t { nx:=fun _ H'=>Q .non H',rt:=Q } (start N vs) H):FnOk P w K mg base CX0 (k + 1) f fd ps sp:=by
 obtain ⟨oc,od,kV,doc,pm,an,cdv,ct,osl,rfl,lk,hcd⟩:=F.ex
 refine bd0 lk hcd S len fun A outer s H vs Q E hr hsp=>?_
 obtain ⟨t,h,q⟩:=hbody cdv A outer s H vs Q E hr hsp
 exact ⟨t,h.nox,q⟩
theorem a60 {x qual:Str} {st:Stmt} {f:Addr} {oc:Value} {od an:Option Addr} {osl:Array (Option Value)} {kV doc pm cdv ct:Value} (l:K.lookup f = some ⟨oc,od,.func (PySem.W.fnOf x qual (j6 st) (i9 st) (d5 st) .none kV doc pm an cdv ct),osl⟩)
  (c:PySem.W.codeIn K cdv qual = true) (k:PySem.W.keepIn K (.ref f) = true):Fun K x qual st f (PySem.W.fnOf x qual (j6 st) (i9 st) (d5 st) .none kV doc pm an cdv ct):=⟨⟨oc,od,kV,doc,pm,an,cdv,ct,osl,rfl,l,c⟩,k⟩
end
theorem Q4 {A:Around} {k:Nat} (hr:Room k A):A.units + 1 < cLine:=Nat.lt_of_le_of_lt (Nat.add_le_add_left (by decide:1 ≤ 64) _) hr.units
theorem j9 {n:Nat} (h:n ≤ 1000):n < sizeLine:=Nat.lt_of_le_of_lt h (by decide)
section
variable {X:Cx}
theorem pv (i:Nat) {x:Str} {pos:Pos} (hN:X.N[i]? = some x:=by rfl) (hv:Vis X.env.scope x:=by first | exact Or.inl rfl | exact Or.inr (Or.inl rfl) | exact Or.inr (Or.inr rfl)) (hd:(x == ("__debug__":Str)) = false:=by decide)
  (hcd:(x == ("__classdict__":Str)) = false:=by decide):PE X (.Name x pos) (bj9 i):=bg8 hN hv hd hcd
end
theorem C1 {A B:Prop} (h:B):if false = true then A else B:=by
 rw [if_neg Bool.false_ne_true]
 exact h
theorem N7 {A B:Prop} (h:A):if true = true then A else B:=by
 rw [if_pos rfl]
 exact h
theorem C3 {c A B:Prop} [Decidable c] (h1:c → A) (h2:¬ c → B):if c then A else B:=by
 by_cases h:c
 ·rw [if_pos h]
  exact h1 h
 ·rw [if_neg h]
  exact h2 h
def i4 (H H':Hp):Prop:=∀ b o,H b = some o → H' b = some o
theorem i4.refl (H:Hp):i4 H H:=fun _ _ h=>h
theorem i4.trans {H H1 H2:Hp} (a:i4 H H1) (b:i4 H1 H2):i4 H H2:=fun c o h=>b c o (a c o h)
theorem i4.free {H H':Hp} (e:i4 H H') {l:Addr} (h:H' l = Option.none):H l = Option.none:=by
 cases q:H l with
 | none=>rfl
 | some o =>
  rw [e l o q] at h
  cases h
theorem i4.seq {K:PySem.W.Frag} {H H':Hp} {a:Addr} {xs:List V} (e:i4 H H') (h:SqL K H a xs):SqL K H' a xs:=by
 rcases h with (h | ⟨o,h⟩) | h
 ·exact .inl (.inl (e _ _ h))
 ·exact .inl (.inr ⟨o,e _ _ h⟩)
 ·exact .inr h
end L2
namespace L2
open PySem PySem.Spec PyProof.Rows
section
variable {κ:Type} [DecidableEq κ]
def D4 (kvs:List (κ × V)) (k:κ):Option V:=(kvs.find? fun kv=>decide (kv.1 = k)).map (·.2)
def U9 (kvs:List (κ × V)) (k:κ) (v:V):List (κ × V) :=
 if (kvs.any fun kv=>decide (kv.1 = k)) = true then kvs.map (fun kv=>if kv.1 = k then (kv.1,v) else kv) else kvs ++ [(k,v)]
theorem D2 {p:κ × V} {r:List (κ × V)} {k:κ} (e:p.1 = k):D4 (p :: r) k = some p.2:=by simp [D4,List.find?_cons,e]
theorem D3 {p:κ × V} {r:List (κ × V)} {k:κ} (e:¬ p.1 = k):D4 (p :: r) k = D4 r k:=by simp [D4,List.find?_cons,e]
theorem Y4 (k:κ):∀ kvs:List (κ × V),(kvs.any fun kv=>decide (kv.1 = k)) = (D4 kvs k).isSome
 | []=>rfl
 | p :: r=>by
  rw [List.any_cons]
  by_cases e:p.1 = k
  ·simp only [D2 e,decide_eq_true e,Bool.true_or,Option.isSome_some]
  ·rw [D3 e,decide_eq_false e,Bool.false_or]; exact Y4 k r
theorem aE7 (k j:κ) (y:V):∀ kvs:List (κ × V),D4 (kvs.map fun kv=>if kv.1 = k then (kv.1,y) else kv) j = (D4 kvs j).map fun x=>if j = k then y else x
 | []=>rfl
 | p :: r=>by
  have ih:=aE7 k j y r
  rw [List.map_cons]
  by_cases h:p.1 = k
  ·rw [if_pos h]
   by_cases e:p.1 = j
   ·rw [D2 (p:=(p.1,y)) e,D2 e,Option.map_some,if_pos (e.symm.trans h)]
   ·rw [D3 (p:=(p.1,y)) e,D3 e,ih]
  ·rw [if_neg h]
   by_cases e:p.1 = j
   ·rw [D2 (p:=p) e,D2 e,Option.map_some,if_neg (fun z=>h (e.trans z))]
   ·rw [D3 (p:=p) e,D3 e,ih]
theorem ao1 (k j:κ) (y:V):∀ kvs:List (κ × V),D4 kvs k = none → D4 (kvs ++ [(k,y)]) j = if j = k then some y else D4 kvs j
 | [],_=>by
  by_cases e:k = j
  ·rw [if_pos e.symm]; exact D2 (p:=(k,y)) e
  ·rw [if_neg (fun z=>e z.symm)]; exact D3 (p:=(k,y)) e
 | p :: r,hn=>by
  rw [List.cons_append]
  have hk:¬ p.1 = k:=fun z=>by rw [D2 z] at hn; cases hn
  rw [D3 hk] at hn
  have ih:=ao1 k j y r hn
  by_cases e:p.1 = j
  ·rw [D2 e,D2 e,if_neg (fun z=>hk (e.trans z))]
  ·rw [D3 e,D3 e,ih]
theorem Q3 (kvs:List (κ × V)) (k j:κ) (y:V):D4 (U9 kvs k y) j = if j = k then some y else D4 kvs j:=by
 unfold U9
 by_cases a:(kvs.any fun kv=>decide (kv.1 = k)) = true
 ·rw [if_pos a,aE7]
  rw [Y4] at a
  by_cases e:j = k
  ·obtain ⟨x,hx⟩:=Option.isSome_iff_exists.mp a
   rw [if_pos e,e,hx,Option.map_some,if_pos rfl]
  ·rw [if_neg e]
   cases D4 kvs j with
   | none=>rfl
   | some x=>rw [Option.map_some,if_neg e]
 ·rw [if_neg a]
  refine ao1 k j y kvs ?_
  rw [Y4] at a
  cases q:D4 kvs k with
  | none=>rfl
  | some x=>rw [q] at a; exact (a rfl).elim
theorem F2 (kvs:List (κ × V)) (k:κ) (v:V):(U9 kvs k v).length ≤ kvs.length + 1:=by
 unfold U9
 split
 ·rw [List.length_map]; lia
 ·rw [List.length_append,List.length_cons,List.length_nil]; lia
theorem aw2.isSome_eq {o:Option V} {u:Option Value} (r:aw2 o u):o.isSome = u.isSome:=by
 cases o with
 | none=>cases u with
  | none=>rfl
  | some _=>exact (show False from r).elim
 | some _=>cases u with
  | none=>exact (show False from r).elim
  | some _=>rfl
theorem aw2.getD {o:Option V} {u:Option Value} {d:V} {d':Value} (r:aw2 o u) (rd:t6 d d'):t6 (o.getD d) (u.getD d'):=by
 cases o with
 | none=>cases u with
  | none=>exact rd
  | some _=>exact (show False from r).elim
 | some _=>cases u with
  | none=>exact (show False from r).elim
  | some _=>exact r
theorem KV.val {kvs:List (κ × V)} {vs:List (κ × Value)} (r:KV kvs vs) (k:κ):aw2 (D4 kvs k) (valueAt vs k):=by
 unfold KV at r
 induction r with
 | nil=>exact True.intro
 | @cons p q ps qs h t ih =>
  obtain ⟨h1,h2⟩:=h
  by_cases e:p.1 = k
  ·have e':q.1 = k:=h1.symm.trans e
   have b:valueAt (q :: qs) k = some q.2:=by simp [valueAt,List.find?_cons,e']
   rw [D2 e,b]; exact h2
  ·have e':¬ q.1 = k:=fun z=>e (h1.trans z)
   have b:valueAt (q :: qs) k = valueAt qs k:=by simp [valueAt,List.find?_cons,e']
   rw [D3 e,b]; exact ih
theorem KV.any {kvs:List (κ × V)} {vs:List (κ × Value)} (r:KV kvs vs) (k:κ):(kvs.any fun kv=>decide (kv.1 = k)) = vs.any fun kv=>decide (kv.1 = k):=by
 unfold KV at r
 induction r with
 | nil=>rfl
 | cons h t ih=>rw [List.any_cons,List.any_cons,ih,h.1]
theorem KV.repl {kvs:List (κ × V)} {vs:List (κ × Value)} (r:KV kvs vs) (k:κ) {y:V} {u:Value} (ry:t6 y u) :
  KV (kvs.map fun kv=>if kv.1 = k then (kv.1,y) else kv) (vs.map fun kv=>if kv.1 = k then (kv.1,u) else kv):=by
 unfold KV at r ⊢
 induction r with
 | nil=>exact .nil
 | @cons p q ps qs h t ih =>
  rw [List.map_cons,List.map_cons]
  refine .cons ?_ ih
  obtain ⟨h1,h2⟩:=h
  by_cases e:p.1 = k
  ·rw [if_pos e,if_pos (h1.symm.trans e)]; exact ⟨h1,ry⟩
  ·rw [if_neg e,if_neg (fun z=>e (h1.trans z))]; exact ⟨h1,h2⟩
theorem KV.put {kvs:List (κ × V)} {vs:List (κ × Value)} (r:KV kvs vs) (k:κ) {y:V} {u:Value} (ry:t6 y u):KV (U9 kvs k y) (stored vs k u):=by
 unfold U9 stored
 rw [r.any k]
 by_cases e:(vs.any fun kv=>decide (kv.1 = k)) = true
 ·rw [if_pos e,if_pos e]; exact r.repl k ry
 ·rw [if_neg e,if_neg e]; exact Paired.snoc r ⟨rfl,ry⟩
theorem KV.length {kvs:List (κ × V)} {vs:List (κ × Value)} (r:KV kvs vs):kvs.length = vs.length:=Paired.length r
end
theorem ar7 {P:Program} {w:World} {k:Key} {u:Value} (r:t6 (kV k) u):(u7 P w).is k u = true:=by
 cases k with
 | inl i=>obtain ⟨t,e⟩:=(show ∃ t,u = Value.int i t from r); subst e; exact aF9 P w i t
 | inr x=>obtain ⟨t,e⟩:=(show ∃ t,u = Value.str x t from r); subst e; exact aw9 P w x t
theorem bh6 {a b:Key} (e:kV a = kV b):a = b:=by
 cases a with
 | inl i=>cases b with
  | inl j=>have e':V.int i = V.int j:=e; injection e' with e'; rw [e']
  | inr y=>exact nomatch (show V.int i = V.str y from e)
 | inr x=>cases b with
  | inl j=>exact nomatch (show V.str x = V.int j from e)
  | inr y=>have e':V.str x = V.str y:=e; injection e' with e'; rw [e']
theorem ap3 {P:Program} {w:World}:∀ {ks:List Key} {us:List Value},r6 (ks.map kV) us → ItemsAre (u7 P w) ks us
 | [],_,r=>by rw [List.map_nil] at r; cases r; exact .nil
 | k :: ks,_,r=>by
  rw [List.map_cons] at r
  cases r with
  | cons h t=>exact .cons (ar7 h) (ap3 t)
abbrev KT (H:Hp):List (List Key × V) → List (List Key × Addr × Value) → Prop:=Paired fun p q=>p.1 = q.1 ∧ H q.2.1 = some (.tup (p.1.map kV)) ∧ t6 p.2 q.2.2
theorem KT.val {H:Hp} {kvs:List (List Key × V)} {xs:List (List Key × Addr × Value)} (r:KT H kvs xs) (k:List Key):aw2 (D4 kvs k) ((atKey xs k).map (·.2)):=by
 induction r with
 | nil=>exact True.intro
 | @cons p q ps qs h t ih =>
  obtain ⟨h1,_,h2⟩:=h
  by_cases e:p.1 = k
  ·have e':q.1 = k:=h1.symm.trans e
   have b:atKey (q :: qs) k = some q.2:=by simp [atKey,List.find?_cons,e']
   rw [D2 e,b]; exact h2
  ·have e':¬ q.1 = k:=fun z=>e (h1.trans z)
   have b:atKey (q :: qs) k = atKey qs k:=by simp [atKey,List.find?_cons,e']
   rw [D3 e,b]; exact ih
theorem KT.repl {H:Hp} {kvs:List (List Key × V)} {xs:List (List Key × Addr × Value)} (r:KT H kvs xs) (k:List Key) {y:V} {u:Value} (ry:t6 y u) :
  KT H (kvs.map fun kv=>if kv.1 = k then (kv.1,y) else kv) (xs.map (putAt k u)):=by
 induction r with
 | nil=>exact .nil
 | @cons p q ps qs h t ih =>
  rw [List.map_cons,List.map_cons]
  refine .cons ?_ ih
  obtain ⟨h1,h2,h3⟩:=h
  unfold putAt
  by_cases e:p.1 = k
  ·rw [if_pos e,if_pos (h1.symm.trans e)]; exact ⟨h1,h2,ry⟩
  ·rw [if_neg e,if_neg (fun z=>e (h1.trans z))]; exact ⟨h1,h2,h3⟩
theorem KT.put {H:Hp} {kvs:List (List Key × V)} {xs:List (List Key × Addr × Value)} (r:KT H kvs xs) (k:List Key) {b:Addr} {y:V} {u:Value} (hb:H b = some (.tup (k.map kV))) (ry:t6 y u) :
  KT H (U9 kvs k y) (storedH xs k b u):=by
 have e:(kvs.any fun kv=>decide (kv.1 = k)) = (atKey xs k).isSome:=by
  rw [Y4,(r.val k).isSome_eq,Option.isSome_map]
 unfold U9 storedH
 rw [e]
 by_cases q:(atKey xs k).isSome = true
 ·rw [if_pos q,if_pos q]; exact r.repl k ry
 ·rw [if_neg q,if_neg q]; exact Paired.snoc r ⟨rfl,hb,ry⟩
theorem KT.keeps {H H':Hp} {kvs:List (List Key × V)} {xs:List (List Key × Addr × Value)} (r:KT H kvs xs) (ht:∀ b ys,H b = some (.tup ys) → H' b = some (.tup ys)):KT H' kvs xs :=
 Paired.mapP r fun _ _ z=>⟨z.1,ht _ _ z.2.1,z.2.2⟩
section
variable {P:Program} {w:World} {H:Hp} {h:Heap} {a:Addr}
theorem bd3 {u:HO} (ok:HOk P w H h) (e:Rd H a u):x6 P w H h a u:=e.ok ok
theorem aA4 {kvs:List (Key × V)} (ok:HOk P w H h) (e:Rd H a (.dK kvs)):kvs.length ≤ sizeLine ∧ (a == sysModules) = false ∧ ∃ vs,KV kvs vs ∧ h.DictOf (u7 P w) a vs :=
 show x6 P w H h a (.dK kvs) from bd3 ok e
theorem bn2 {kvs:List (Key × V)} (ok:HOk P w H h) (e:H a = some (.dK kvs)):kvs.length ≤ sizeLine ∧ (a == sysModules) = false ∧ ∃ vs,KV kvs vs ∧ h.DictOf (u7 P w) a vs:=aA4 ok (.inl e)
theorem ag4 {ks:List Key} (ok:HOk P w H h) (e:H a = some (.tup (ks.map kV))):(tupleKind (u7 P w)).is h ks a:=by
 obtain ⟨_,its,r,o,h1,h2,n,h3⟩:=(show x6 P w H h a (.tup (ks.map kV)) from ok a _ e)
 exact ⟨o,its.toArray,n,h1,h2,h3,by simpa using ap3 r⟩
theorem aG0 {kvs:List (List Key × V)} (ok:HOk P w H h) (e:Rd H a (.dT kvs)):kvs.length ≤ sizeLine ∧ (a == sysModules) = false ∧
  ∃ xs,KT H kvs xs ∧ h.DictOfH (tupleKind (u7 P w)) a xs:=by
 obtain ⟨z,y,xs,r,o,es,ep,h1,h2,h3,h4,h5⟩:=(show x6 P w H h a (.dT kvs) from bd3 ok e)
 refine ⟨z,y,xs,r,o,es,ep,h1,h2,h3,h4,fun x hx=>?_,h5⟩
 have all:∀ {l:List (List Key × V)} {m:List (List Key × Addr × Value)},KT H l m → ∀ x ∈ m,(tupleKind (u7 P w)).is h x.1 x.2.1:=by
  intro l m q
  induction q with
  | nil=>intro x hx; exact nomatch hx
  | @cons p q ps qs hq t ih =>
   intro x hx
   rcases List.mem_cons.mp hx with e | hx
   ·subst e
    exact ag4 ok (by rw [← hq.1]; exact hq.2.1)
   ·exact ih x hx
 exact all r x hx
theorem bl5 {kvs:List (List Key × V)} (ok:HOk P w H h) (e:H a = some (.dT kvs)):kvs.length ≤ sizeLine ∧ (a == sysModules) = false ∧
  ∃ xs,KT H kvs xs ∧ h.DictOfH (tupleKind (u7 P w)) a xs:=aG0 ok (.inl e)
end
def S5 (H:Hp) (a:Addr) (y:V) (r:Option V):Prop :=
 (∃ kvs k,Rd H a (.dK kvs) ∧ y = kV k ∧ r = D4 kvs k) ∨ ∃ kvs k b,Rd H a (.dT kvs) ∧ y = .ref b ∧ H b = some (.tup (k.map kV)) ∧ r = D4 kvs k
def al7 (H:Hp) (a:Addr) (y v:V) (H':Hp):Prop :=
 (∃ kvs k,H a = some (.dK kvs) ∧ y = kV k ∧ kvs.length < sizeLine ∧ H' = upd H a (.dK (U9 kvs k v))) ∨
 ∃ kvs k b,H a = some (.dT kvs) ∧ y = .ref b ∧ H b = some (.tup (k.map kV)) ∧ kvs.length < sizeLine ∧ H' = upd H a (.dT (U9 kvs k v))
theorem S5.k {H:Hp} {a:Addr} {kvs:List (Key × V)} {k:Key} (e:H a = some (.dK kvs)):S5 H a (kV k) (D4 kvs k):=.inl ⟨kvs,k,.inl e,rfl,rfl⟩
theorem S5.t {H:Hp} {a b:Addr} {kvs:List (List Key × V)} {k:List Key} (e:H a = some (.dT kvs)) (eb:H b = some (.tup (k.map kV))):S5 H a (.ref b) (D4 kvs k):=.inr ⟨kvs,k,b,.inl e,rfl,eb,rfl⟩
theorem al7.k {H:Hp} {a:Addr} {kvs:List (Key × V)} {k:Key} {v:V} (e:H a = some (.dK kvs)) (hl:kvs.length < sizeLine):al7 H a (kV k) v (upd H a (.dK (U9 kvs k v))):=.inl ⟨kvs,k,e,rfl,hl,rfl⟩
theorem al7.t {H:Hp} {a b:Addr} {kvs:List (List Key × V)} {k:List Key} {v:V} (e:H a = some (.dT kvs)) (eb:H b = some (.tup (k.map kV))) (hl:kvs.length < sizeLine) :
  al7 H a (.ref b) v (upd H a (.dT (U9 kvs k v))):=.inr ⟨kvs,k,b,e,rfl,eb,hl,rfl⟩
section
variable {X:Cx} {pins:List (Addr × Obj)} {σ:St} {H:Hp} {s:Shared} {a:Addr} {y v:V} {u r:Value} {o:Option V} {A:Around} {E:Value → Shared → Prop}
theorem Inv.big (I:Inv X pins σ H s):sysModules < s.heap.objs.size:=by
 have h:mainGlobals < s.heap.objs.size:=(I.mod.glob.keeps I.bk).lt
 exact Nat.lt_trans (by decide) h
theorem bq0 {Q:Value → Shared → Prop} (hu:A.units + 1 < cLine) (I:Inv X pins σ H s) (g:S5 H a y o) (ry:t6 y u) (h:∀ s',Inv X pins σ H s' → Q (.bool o.isSome) s') :
  wpAny (model X.prog X.w) A (compareOp .In u (.ref a)) Q E s:=by
 rcases g with ⟨kvs,k,e,ey,l⟩ | ⟨kvs,k,b,e,ey,eb,l⟩
 ·subst ey
  obtain ⟨z,hd,vs,rel,dd⟩:=aA4 I.hok e
  refine wpAny_in_of (ar7 ry) hd dd.mapOf ?_
  rw [← (rel.val k).isSome_eq,← l]
  exact h _ (I.tok _)
 ·subst ey
  cases (show u = Value.ref b from ry)
  obtain ⟨z,hd,xs,rel,dd⟩:=aG0 I.hok e
  refine wpAny_in_heap (tupleKind_room_in1 hu) (ag4 I.hok eb) hd dd ?_
  have q:=(rel.val k).isSome_eq
  rw [Option.isSome_map] at q
  rw [← q,← l]
  exact h _ (I.tok _)
theorem aN8 {h':Heap} {t':Nat} {ob:HO} (I:Inv X pins σ H s) (mu:Mut (H a)) (hs:Heap.SameBut a s.heap h') (he:∃ q,h'.get? a = some q) (new:x6 X.prog X.w (upd H a ob) h' a ob) :
  Inv X pins σ (upd H a ob) { s with heap:=h',toks:=t' } :=
 I.write (x:=a) (e:=a) mu (.inl rfl) (fun b q hb z=>(hs.2 b hb).trans z) he new
theorem a67 {P:Program} {w:World} {H':Hp} {h':Heap} {kvs:List (Key × V)} {vs:List (Key × Value)} (z:kvs.length ≤ sizeLine) (hd:(a == sysModules) = false) (rel:KV kvs vs) (dd:h'.DictOf (u7 P w) a vs) :
  x6 P w H' h' a (.dK kvs):=⟨z,hd,vs,rel,dd⟩
theorem aR8 {H':Hp} {Q:Unit → Shared → Prop} (hu:A.units + 1 < cLine) (I:Inv X pins σ H s) (g:al7 H a y v H') (ry:t6 y u) (rv:t6 v r) (h:∀ s',Inv X pins σ H' s' → Q () s') :
  wpAny (model X.prog X.w) A (setItem (.ref a) u r) Q E s:=by
 rcases g with ⟨kvs,k,e,ey,l,eH⟩ | ⟨kvs,k,b,e,ey,eb,l,eH⟩
 ·subst ey eH
  obtain ⟨z,hd,vs,rel,dd⟩:=bn2 I.hok e
  have hz:vs.length ≤ sizeLine:=by rw [← rel.length]; exact z
  have hl:(U9 kvs k v).length ≤ sizeLine:=by have:=F2 kvs k v; lia
  refine wpAny_setItem_pairs (hsz:=hz) (ar7 ry) dd fun h' dd' hs=>h _ ?_
  have he:∃ q,h'.get? a = some q:=let ⟨q,_,_,hq,_⟩:=dd'; ⟨q,hq⟩
  exact aN8 I (by rw [e]; exact True.intro) hs he (a67 hl hd (rel.put k rv) dd')
 ·subst ey eH
  cases (show u = Value.ref b from ry)
  obtain ⟨z,hd,xs,rel,dd⟩:=bl5 I.hok e
  have hz:xs.length ≤ sizeLine:=by rw [← Paired.length rel]; exact z
  have hl:(U9 kvs k v).length ≤ sizeLine:=by have:=F2 kvs k v; lia
  refine wpAny_setItem_heap (hsz:=hz) (tupleKind_room_in1 hu) (ag4 I.hok eb) dd fun h' dd' hs=>h _ ?_
  obtain ⟨q,es,ep,hq,h2,h3,h4,_,h5⟩:=dd'
  refine aN8 I (by rw [e]; exact True.intro) hs ⟨q,hq⟩ ⟨hl,hd,_,(rel.put k eb rv).keeps fun c ys ec=>?_,q,es,ep,hq,h2,h3,h4,h5⟩
  rw [n5 (bm9 ec e (fun z=>nomatch z))]
  exact ec
end
def bp2 (ty td:TE):TE:=fun σ H Q=>ty σ H fun y H1=>td σ H1 fun x H2=>∃ a o,x = .ref a ∧ S5 H2 a y o ∧ Q (.bl o.isSome) H2
def bk6 (td ty tv:TE):TS:=fun D σ H=>tv σ H fun v H1=>td σ H1 fun x H2=>ty σ H2 fun y H3=>∃ a H4,x = .ref a ∧ al7 H3 a y v H4 ∧ D.nx σ H4
section
variable {X:Cx} {o i e value:Expr} {pos pos' tpos:Pos} {td ty tv:TE}
theorem aI8 (hu:X.A.units + 1 < cLine) (hi:PE X i ty) (ho:PE X o td):PC X .In i o (bp2 ty td):=by
 intro pins s σ H Q I h
 refine thn (hi pins s σ H _ I h) fun iv s1 ⟨y,H1,I1,ry,q1⟩=>thn (ho pins s1 σ H1 _ I1 q1) fun u s2 ⟨x,H2,I2,rx,a,ov,ex,g,q2⟩=>?_
 subst ex
 obtain rfl:u = Value.ref a:=rx
 exact bq0 hu I2 g ry fun s3 I3=>⟨.bl ov.isSome,H2,I3,rfl,q2⟩
theorem ae4 (hu:X.A.units + 1 < cLine) (ho:PE X o td) (hi:PE X i ty) (hv:PE X value tv) (hs:swapsWith value (some (.Subscript o i pos')) pos.line X.env = pure false) :
  PS X (.Assign [.Subscript o i pos'] value pos) (bk6 td ty tv):=by
 intro pins s σ H D I h
 refine wpAny_Assign_Subscript (thn (hv pins s σ H _ I h) fun r s1 ⟨v,H1,I1,rv,q1⟩=>thn (ho pins s1 σ H1 _ I1 q1) fun u s2 ⟨x,H2,I2,rx,q2⟩=>thn (hi pins s2 σ H2 _ I2 q2) fun iv s3 ⟨y,H3,I3,ry,a,H4,ex,g,q3⟩=>?_) hs
 subst ex
 obtain rfl:u = Value.ref a:=rx
 exact aR8 hu I3 g ry rv fun s4 I4=>⟨σ,H4,I4,q3⟩
end
theorem aX3 {P:Program} {w:World} {H:Hp} (h:Heap) (hb:sysModules < h.objs.size):x6 P w H (h.push { cls:=.type "dict",data:=.dict #[] }) h.objs.size (.dK []) :=
 ⟨Nat.zero_le _,beq_eq_false_iff_ne.mpr (Ne.symm (Nat.ne_of_lt hb)),[],.nil,Heap.DictOf.new h⟩
theorem a68 {P:Program} {w:World} {H:Hp} (h:Heap) (hb:sysModules < h.objs.size):x6 P w H (h.push { cls:=.type "dict",data:=.dict #[] }) h.objs.size (.dT []) :=
 ⟨Nat.zero_le _,beq_eq_false_iff_ne.mpr (Ne.symm (Nat.ne_of_lt hb)),[],.nil,_,#[],0,Heap.get?_push_size _ rfl,⟨rfl,rfl,rfl⟩,rfl,rfl,List.nodup_nil⟩
def bf0:TE:=fun _ H Q=>∀ p,H p = none → Q (.ref p) (upd H p (.dK []))
def bf1:TE:=fun _ H Q=>∀ p,H p = none → Q (.ref p) (upd H p (.dT []))
section
variable {X:Cx} {pos:Pos}
theorem ak0:PE X (.Dict [] [] pos) bf0:=fun pins s σ H Q I h =>
 wpAny_Dict_empty ⟨.ref s.heap.objs.size,_,I.laid (a:=s.heap.objs.size) (o:=.dK []) (t':=s.toks) (fun _ _ q=>Heap.get?_push_of_some _ q) (Nat.le_refl _) (aX3 s.heap I.big),rfl,h _ (I.hok.fresh (Nat.le_refl _))⟩
theorem a78:PE X (.Dict [] [] pos) bf1:=fun pins s σ H Q I h =>
 wpAny_Dict_empty ⟨.ref s.heap.objs.size,_,I.laid (a:=s.heap.objs.size) (o:=.dT []) (t':=s.toks) (fun _ _ q=>Heap.get?_push_of_some _ q) (Nat.le_refl _) (a68 s.heap I.big),rfl,h _ (I.hok.fresh (Nat.le_refl _))⟩
end
structure M1 (X:Cx) (o:Expr) (m:Str) (apos:Pos) (e:Expr) (cpos:Pos):Prop where
 base:attributeBase o m X.env (eval o X.env) = eval o X.env
 few:((backTo cpos (starEach [e] X.env)).all (fun x=>!x.1) && (backToKw cpos (keywordEach [] X.env)).all (fun x=>x.1.isSome)
  && decide (([e]:List Expr).length + ([]:List Keyword).length + (if ([]:List Keyword).isEmpty then 0 else 1) < 30)) = true
 line:(apos.endLine == cpos.line) = true
 trees:backTo cpos (starEach [e] X.env) = [(false,eval e X.env)]
structure M2 (X:Cx) (o:Expr) (m:Str) (apos:Pos) (e f:Expr) (cpos:Pos):Prop where
 base:attributeBase o m X.env (eval o X.env) = eval o X.env
 few:((backTo cpos (starEach [e,f] X.env)).all (fun x=>!x.1) && (backToKw cpos (keywordEach [] X.env)).all (fun x=>x.1.isSome)
  && decide (([e,f]:List Expr).length + ([]:List Keyword).length + (if ([]:List Keyword).isEmpty then 0 else 1) < 30)) = true
 line:(apos.endLine == cpos.line) = true
 trees:backTo cpos (starEach [e,f] X.env) = [(false,eval e X.env),(false,eval f X.env)]
def IsD (H:Hp) (a:Addr):Prop:=(∃ kvs,Rd H a (.dK kvs)) ∨ ∃ kvs,Rd H a (.dT kvs)
theorem aZ9 {X:Cx} {pins:List (Addr × Obj)} {σ:St} {H:Hp} {s:Shared} {a:Addr} (I:Inv X pins σ H s) (d:IsD H a) :
  s.TypeIs (.ref a) "dict" ∧ (∀ b,Value.ref a = .ref b → ∃ ob,s.heap.get? b = some ob ∧ ob.dict = none) ∧ (a == sysModules) = false:=by
 rcases d with ⟨kvs,e⟩ | ⟨kvs,e⟩
 ·obtain ⟨_,hd,vs,_,dd⟩:=aA4 I.hok e
  refine ⟨dd.typeIs,fun b q=>?_,hd⟩
  cases q
  obtain ⟨ob,_,_,h1,h2,_⟩:=dd
  exact ⟨ob,h1,h2.2.1⟩
 ·obtain ⟨_,hd,xs,_,dd⟩:=aG0 I.hok e
  refine ⟨dd.typeIs,fun b q=>?_,hd⟩
  cases q
  obtain ⟨ob,_,_,h1,h2,_⟩:=dd
  exact ⟨ob,h1,h2.2.1⟩
section
variable {X:Cx} {pins:List (Addr × Obj)} {σ:St} {H:Hp} {s:Shared} {a:Addr} {y d:V} {u r:Value} {o:Option V} {A:Around} {E:Value → Shared → Prop}
theorem bi0 {Q:Value → Shared → Prop} (hu:A.units + 1 < cLine) (I:Inv X pins σ H s) (g:S5 H a y o) (ry:t6 y u) (h:∀ w' s',Inv X pins σ H s' → t6 (o.getD .non) w' → Q w' s') :
  wpAny (model X.prog X.w) A (call (.builtin "dict.get") [.ref a,u]) Q E s:=by
 rcases g with ⟨kvs,k,e,ey,l⟩ | ⟨kvs,k,b,e,ey,eb,l⟩
 ·subst ey
  obtain ⟨z,hd,vs,rel,dd⟩:=aA4 I.hok e
  refine call_meetsIn PySem.F.slot_dict_get dd.typeIs PySem.F.entry_dict_get (PySem.F.args_dict_get_2 _ _) (meets_dict_get (u7 X.prog X.w) a (ar7 ry) hd) ⟨_,dd.mapOf,h _ _ (I.tok _) ?_⟩
  rw [l]
  exact (rel.val k).getD rfl
 ·subst ey
  cases (show u = Value.ref b from ry)
  obtain ⟨z,hd,xs,rel,dd⟩:=aG0 I.hok e
  refine call_meetsIn PySem.F.slot_dict_get dd.typeIs PySem.F.entry_dict_get (PySem.F.args_dict_get_2 _ _) (meetsH_dict_get (tupleKind (u7 X.prog X.w)) a b hd) ⟨tupleKind_room_in1 hu,k,xs,ag4 I.hok eb,dd,h _ _ (I.tok _) ?_⟩
  rw [l]
  exact (rel.val k).getD rfl
theorem bf2 {Q:Value → Shared → Prop} (hu:A.units + 1 < cLine) (I:Inv X pins σ H s) (g:S5 H a y o) (ry:t6 y u) (rd:t6 d r) (h:∀ w' s',Inv X pins σ H s' → t6 (o.getD d) w' → Q w' s') :
  wpAny (model X.prog X.w) A (call (.builtin "dict.get") [.ref a,u,r]) Q E s:=by
 rcases g with ⟨kvs,k,e,ey,l⟩ | ⟨kvs,k,b,e,ey,eb,l⟩
 ·subst ey
  obtain ⟨z,hd,vs,rel,dd⟩:=aA4 I.hok e
  refine call_meetsIn PySem.F.slot_dict_get dd.typeIs PySem.F.entry_dict_get (PySem.F.args_dict_get_3 _ _ _) (meets_dict_get_default (u7 X.prog X.w) a (ar7 ry) hd r) ⟨_,dd.mapOf,h _ _ (I.tok _) ?_⟩
  rw [l]
  exact (rel.val k).getD rd
 ·subst ey
  cases (show u = Value.ref b from ry)
  obtain ⟨z,hd,xs,rel,dd⟩:=aG0 I.hok e
  refine call_meetsIn PySem.F.slot_dict_get dd.typeIs PySem.F.entry_dict_get (PySem.F.args_dict_get_3 _ _ _) (meetsH_dict_get_default (tupleKind (u7 X.prog X.w)) a b hd r) ⟨tupleKind_room_in1 hu,k,xs,ag4 I.hok eb,dd,h _ _ (I.tok _) ?_⟩
  rw [l]
  exact (rel.val k).getD rd
end
def bi3 (td ty:TE):TE:=fun σ H Q=>td σ H fun x H1=>∃ a,x = .ref a ∧ IsD H1 a ∧ ty σ H1 fun y H2=>∃ o,S5 H2 a y o ∧ Q (o.getD .non) H2
def bi9 (td ty tx:TE):TE:=fun σ H Q=>td σ H fun x H1=>∃ a,x = .ref a ∧ IsD H1 a ∧ ty σ H1 fun y H2=>tx σ H2 fun z H3=>∃ o,S5 H3 a y o ∧ Q (o.getD z) H3
section
variable {X:Cx} {o e f:Expr} {apos cpos:Pos} {td ty tx:TE}
theorem aC8 (hu:X.A.units + 1 < cLine) (ho:PE X o td) (he:PE X e ty) (m:M1 X o "get" apos e cpos):PE X (.Call (.Attribute o "get" apos) [e] [] cpos) (bi3 td ty):=by
 intro pins s σ H Q I h
 refine wpAny_Call_method m.base m.few m.line PySem.F.plainAttrs_dict PySem.F.slot_dict_get PySem.F.type_dict_get (thn (ho pins s σ H _ I h) fun u s1 ⟨x,H1,I1,rx,a,ex,d,q1⟩=>?_)
 subst ex
 obtain rfl:u = Value.ref a:=rx
 obtain ⟨t1,t2,_⟩:=aZ9 I1 d
 refine ⟨t1,t2,?_⟩
 rw [m.trees]
 refine Calls.callWith_builtin rfl (Calls.evalArgs_plain (Calls.spliced_cons (thn (he pins s1 σ H1 _ I1 q1) fun iv s2 ⟨y,H2,I2,ry,ov,g,q2⟩=>Calls.spliced_nil ?_)))
 exact bi0 hu I2 g ry fun w' s3 I3 rw'=>⟨_,H2,I3,rw',q2⟩
theorem ax6 (hu:X.A.units + 1 < cLine) (ho:PE X o td) (he:PE X e ty) (hf:PE X f tx) (m:M2 X o "get" apos e f cpos):PE X (.Call (.Attribute o "get" apos) [e,f] [] cpos) (bi9 td ty tx):=by
 intro pins s σ H Q I h
 refine wpAny_Call_method m.base m.few m.line PySem.F.plainAttrs_dict PySem.F.slot_dict_get PySem.F.type_dict_get (thn (ho pins s σ H _ I h) fun u s1 ⟨x,H1,I1,rx,a,ex,d,q1⟩=>?_)
 subst ex
 obtain rfl:u = Value.ref a:=rx
 obtain ⟨t1,t2,_⟩:=aZ9 I1 d
 refine ⟨t1,t2,?_⟩
 rw [m.trees]
 refine Calls.callWith_builtin rfl (Calls.evalArgs_plain (Calls.spliced_cons (thn (he pins s1 σ H1 _ I1 q1) fun iv s2 ⟨y,H2,I2,ry,q2⟩ =>
  Calls.spliced_cons (thn (hf pins s2 σ H2 _ I2 q2) fun fv s3 ⟨z,H3,I3,rz,ov,g,q3⟩=>Calls.spliced_nil ?_))))
 exact bf2 hu I3 g ry rz fun w' s4 I4 rw'=>⟨_,H3,I4,rw',q3⟩
end
end L2
set_option maxHeartbeats 1000000
namespace L2
open PySem PySem.Spec PyProof.Rows
theorem ai1 {scope:Scope} {env:Env} (h:∀ x,(x,NameKind.free) ∈ scope.names → ∃ c,env.cells.lookup x = some c) :
  ∃ cl,closureFor scope env = pure cl ∧ (∀ x c,cl.lookup x = some c → env.cells.lookup x = some c) ∧ ∀ x,(x,NameKind.free) ∈ scope.names → ∃ c,cl.lookup x = some c:=by
 have go:∀ (names:List (Str × NameKind)) (acc:List (Str × Addr)),(∀ x,(x,NameKind.free) ∈ names → ∃ c,env.cells.lookup x = some c) → (∀ x c,acc.lookup x = some c → env.cells.lookup x = some c) →
   ∃ cl,(forIn names acc fun (p:Str × NameKind) (r:List (Str × Addr))=>if p.2 == .free then (do let a ← cellOf env p.1; pure (ForInStep.yield ((p.1,a) :: r))) else pure (ForInStep.yield r):Sem (List (Str × Addr))) = pure cl ∧
    (∀ x c,cl.lookup x = some c → env.cells.lookup x = some c) ∧ (∀ x c,acc.lookup x = some c → ∃ c',cl.lookup x = some c') ∧ ∀ x,(x,NameKind.free) ∈ names → ∃ c,cl.lookup x = some c:=by
  intro names
  induction names with
  | nil=>intro acc _ ha; exact ⟨acc,rfl,ha,fun x c e=>⟨c,e⟩,fun x z=>nomatch z⟩
  | cons p r ih =>
   intro acc hn ha
   obtain ⟨n,k⟩:=p
   rw [List.forIn_cons]
   cases hk:(k == NameKind.free) with
   | false =>
    obtain ⟨cl,h1,h2,h3,h4⟩:=ih acc (fun x z=>hn x (List.mem_cons_of_mem _ z)) ha
    refine ⟨cl,?_,h2,h3,fun x z=>?_⟩
    ·simp only [hk,Bool.false_eq_true,if_false,pure_bind]
     exact h1
    ·rcases List.mem_cons.mp z with e | z
     ·injection e with e1 e2
      rw [← e2] at hk
      exact absurd hk (by decide)
     ·exact h4 x z
   | true =>
    have ek:k = .free:=by simpa using hk
    subst ek
    obtain ⟨c,hc⟩:=hn n List.mem_cons_self
    have hcell:cellOf env n = pure c:=by unfold cellOf; rw [hc]
    obtain ⟨cl,h1,h2,h3,h4⟩:=ih ((n,c) :: acc) (fun x z=>hn x (List.mem_cons_of_mem _ z)) (fun x c' e=>by
     rw [List.lookup_cons] at e
     cases hx:x == n with
     | true =>
      rw [hx] at e
      have e':c = c':=Option.some.inj e
      have ex:x = n:=by simpa using hx
      rw [ex,← e']; exact hc
     | false=>rw [hx] at e; exact ha x c' e)
    refine ⟨cl,?_,h2,fun x c' e=>?_,fun x z=>?_⟩
    ·simp only [beq_self_eq_true,if_true,hcell,pure_bind]
     exact h1
    ·cases hx:x == n with
     | true=>exact h3 x c (by rw [List.lookup_cons,hx])
     | false=>exact h3 x c' (by rw [List.lookup_cons,hx]; exact e)
    ·rcases List.mem_cons.mp z with e | z
     ·injection e with e1 e2
      exact h3 x c (by rw [e1,List.lookup_cons]; simp)
     ·exact h4 x z
 obtain ⟨cl,h1,h2,_,h4⟩:=go scope.names [] h (fun x c e=>nomatch e)
 refine ⟨cl,?_,h2,h4⟩
 rw [← h1]
 unfold closureFor
 simp only [bind_pure]
def A7 (X:Cx) (scope:Scope) (cl:List (Str × Addr)) (C:Addr) (N:List Str) (s:Shared) (H:Hp) (ex:List Addr):Cx where
 prog:=X.prog
 w:=X.w
 K:=X.K
 mg:=X.mg
 base:=X.base
 A:=X.A
 N:=N
 s₀:=s
 H₀:=H
 env:=compEnvC scope cl C X.env
 outer:=X.stack
 stack:=X.stack
 ex:=ex
 calm:=X.calm
 fn:=fun x=>match scope.names.lookup x with | some .cell=>true | _=>false
 pn:=[]
 xe:=fun _ _=>False
theorem F8 {env:Env}:∀ {names:List (Str × NameKind)} {x:Str} {k:NameKind},
  (names.map fun (n,k)=>if (k == NameKind.free && env.scope.kind == .function && env.kindOf n == some .cell) then (n,NameKind.cell) else (n,k)).lookup x = some k →
  ∃ k',names.lookup x = some k' ∧ (k' = k ∨ (k' = .free ∧ k = .cell))
 | [],_,_,h=>by simp at h
 | (n,kk) :: r,x,k,h=>by
  have ih:=@F8 env r x k
  have h':List.lookup x ((if (kk == NameKind.free && env.scope.kind == .function && env.kindOf n == some .cell) = true then (n,NameKind.cell) else (n,kk)) :: r.map fun (n,k)=>if (k == NameKind.free && env.scope.kind == .function && env.kindOf n == some .cell) then (n,NameKind.cell) else (n,k)) = some k:=h
  cases hx:x == n with
  | true =>
   by_cases hc:(kk == NameKind.free && env.scope.kind == .function && env.kindOf n == some .cell) = true
   ·rw [if_pos hc,List.lookup_cons,hx] at h'
    have e:NameKind.cell = k:=Option.some.inj h'
    have hf:kk = .free:=by
     rw [Bool.and_eq_true,Bool.and_eq_true] at hc
     simpa using hc.1.1
    exact ⟨kk,by rw [List.lookup_cons,hx],.inr ⟨hf,e.symm⟩⟩
   ·rw [if_neg hc,List.lookup_cons,hx] at h'
    exact ⟨kk,by rw [List.lookup_cons,hx],.inl (Option.some.inj h')⟩
  | false =>
   have h2:List.lookup x (r.map fun (n,k)=>if (k == NameKind.free && env.scope.kind == .function && env.kindOf n == some .cell) then (n,NameKind.cell) else (n,k)) = some k:=by
    by_cases hc:(kk == NameKind.free && env.scope.kind == .function && env.kindOf n == some .cell) = true
    ·rw [if_pos hc,List.lookup_cons,hx] at h'; exact h'
    ·rw [if_neg hc,List.lookup_cons,hx] at h'; exact h'
   obtain ⟨k',e1,e2⟩:=ih h2
   exact ⟨k',by rw [List.lookup_cons,hx]; exact e1,e2⟩
structure CompScope (N:List Str) (osc scope:Scope) (own:List Str) (fr:List (Nat × Str)):Prop where
 kind:scope.kind = .function
 cells:∀ y ∈ scope.names,y.2 = .cell → scope.names.lookup y.1 = some .cell
 locs:∀ y ∈ scope.names,y.2 = .local → scope.names.lookup y.1 = some .local
 free:∀ y ∈ scope.names,y.2 = .free → osc.names.lookup y.1 = some .cell ∨ osc.names.lookup y.1 = some .free
 slot:∀ p ∈ fr,N[p.1]? = some p.2 ∧ scope.names.lookup p.2 = some .free
theorem HOk.track {P:Program} {w:World} {H:Hp} {h:Heap} {a:Addr} {o:HO} (x:HOk P w H h) (hn:H a = none) (new:x6 P w (upd H a o) h a o):HOk P w (upd H a o) h:=fun b u e=>by
 by_cases hb:b = a
 ·subst hb; rw [d6] at e; cases e; exact new
 ·rw [n5 hb] at e
  exact (x b u e).stay (fun c v _ q=>q) (fun c q=>by rw [n5 (q9 q hn)]; exact q) fun c xs q=>by rw [n5 (q9 q hn)]; exact q
theorem HOk.but {P:Program} {w:World} {H:Hp} {h h':Heap} {a:Addr} (x:HOk P w H h) (hn:H a = none) (k:∀ b o,b ≠ a → h.get? b = some o → h'.get? b = some o):HOk P w H h':=fun b u e =>
 (x b u e).stay (fun c v hc q=>k c v (by
  rintro rfl
  rcases hc with rfl | hc
  ·rw [hn] at e; cases e
  ·rw [hn] at hc; cases hc) q) (fun _ q=>q) fun _ _ q=>q
theorem Un.track {fs ex:List Addr} {H H':Hp} {h h':Heap} {a:Addr} {o:HO} (u:Un fs ex H H' h h') (ha:h.objs.size ≤ a) (hn:H a = none):Un fs ex H (upd H' a o) h h' where
 keep:=u.keep
 slot:=u.slot
 free:=fun b ob q n hx=>by rw [n5 (Nat.ne_of_lt (Nat.lt_of_lt_of_le (Heap.lt_size q) ha))]; exact u.free b ob q n hx
 there:=u.there
 tups:=fun b xs q=>by rw [n5 (q9 q hn)]; exact u.tups b xs q
 frzs:=fun b ob v q=>by rw [n5 (q9 q hn)]; exact u.frzs b ob v q
 tbls:=fun b ps q=>by rw [n5 (q9 q hn)]; exact u.tbls b ps q
theorem Un.but {fs ex:List Addr} {H H':Hp} {h h' h'':Heap} {a:Addr} (u:Un fs ex H H' h h') (ha:h.objs.size ≤ a) (k:∀ b o,b ≠ a → h'.get? b = some o → h''.get? b = some o):Un fs ex H H' h h'' where
 keep:=fun b ob q n hb hx=>k b ob (Nat.ne_of_lt (Nat.lt_of_lt_of_le (Heap.lt_size q) ha)) (u.keep b ob q n hb hx)
 slot:=fun b ob q n hb hx=>let ⟨sl,e⟩:=u.slot b ob q n hb hx; ⟨sl,k b _ (Nat.ne_of_lt (Nat.lt_of_lt_of_le (Heap.lt_size q) ha)) e⟩
 free:=u.free
 there:=fun b ob q hx=>let ⟨o',e⟩:=u.there b ob q hx; ⟨o',k b _ (Nat.ne_of_lt (Nat.lt_of_lt_of_le (Heap.lt_size q) ha)) e⟩
 tups:=u.tups
 frzs:=u.frzs
 tbls:=u.tbls
structure NewCells (scope:Scope) (nw:List (Str × Addr)) (h1:Heap) (C:Addr):Prop where
 ok:∀ n c,(n,c) ∈ nw → h1.IsCell c none ∧ C < c
 apart:nw.Pairwise fun x y=>x.2 ≠ y.2
 has:∀ x,scope.names.lookup x = some .cell → ∃ c,nw.lookup x = some c
 of:∀ x c,nw.lookup x = some c → (x,NameKind.cell) ∈ scope.names
theorem E2:∀ (names:List (Str × NameKind)) (n:Nat) (acc:List (Str × Addr)),cellsFrom n names acc = cellsFrom n names [] ++ acc
 | [],_,_=>rfl
 | (x,k) :: r,n,acc=>by
  unfold cellsFrom
  split
  ·rw [E2 r (n + 1) ((x,n) :: acc),E2 r (n + 1) [(x,n)],List.append_assoc]
   rfl
  ·exact E2 r n acc
theorem P9:∀ (names:List (Str × NameKind)) (n:Nat) (x:Str) (c:Addr),(x,c) ∈ cellsFrom n names [] → (x,NameKind.cell) ∈ names
 | [],_,_,_,h=>nomatch h
 | (y,k) :: r,n,x,c,h=>by
  unfold cellsFrom at h
  split at h
  ·rename_i hk
   rw [E2] at h
   rcases List.mem_append.mp h with h | h
   ·exact List.mem_cons_of_mem _ (P9 r _ x c h)
   ·rw [List.mem_singleton] at h
    cases h
    have:k = .cell:=by simpa using hk
    rw [this]
    exact List.mem_cons_self ..
  ·exact List.mem_cons_of_mem _ (P9 r _ x c h)
theorem F0 {α:Type} {x:Str} {a b:List (Str × α)} {c:α} (h:(a ++ b).lookup x = some c):a.lookup x = some c ∨ (a.lookup x = none ∧ b.lookup x = some c):=by
 induction a with
 | nil=>exact .inr ⟨rfl,h⟩
 | cons p r ih =>
  rw [List.cons_append,List.lookup_cons] at h
  rw [List.lookup_cons]
  cases hx:x == p.1 with
  | true=>rw [hx] at h; exact .inl h
  | false=>rw [hx] at h; exact ih h
theorem P6 {α:Type} {x:Str} {a b:List (Str × α)} {c:α} (h:a.lookup x = some c):(a ++ b).lookup x = some c:=by
 induction a with
 | nil=>cases h
 | cons p r ih =>
  rw [List.lookup_cons] at h
  rw [List.cons_append,List.lookup_cons]
  cases hx:x == p.1 with
  | true=>rw [hx] at h; exact h
  | false=>rw [hx] at h; exact ih h
theorem X9 {α:Type} {x:Str} {a b:List (Str × α)} {c:α} (h:a.lookup x = none) (h2:b.lookup x = some c):(a ++ b).lookup x = some c:=by
 induction a with
 | nil=>exact h2
 | cons p r ih =>
  rw [List.lookup_cons] at h
  rw [List.cons_append,List.lookup_cons]
  cases hx:x == p.1 with
  | true=>rw [hx] at h; cases h
  | false=>rw [hx] at h; exact ih h
theorem am2 {M:Model} {A:Around} {E:Value → Shared → Prop} {s:Shared} {scope:Scope} {globals:Addr} {closure:List (Str × Addr)} {qual:Str} {outer:Env} {Q:Env → Shared → Prop}
  (hQ:∀ nw h1,NewCells scope nw h1 s.heap.objs.size → h1.Ns s.heap.objs.size (fun _=>none) → (∀ b o,s.heap.get? b = some o → h1.get? b = some o) →
   Q { scope,locals:=s.heap.objs.size,globals,cells:=nw ++ closure,qual,func:=none,code:=outer.code,frame:=outer.frame,builtins:=outer.builtins } { s with heap:=h1 }) :
  wpAny M A (newFunctionEnv scope globals closure [] qual none .none (some outer)) Q E s:=by
 simp only [newFunctionEnv,Option.isSome_some,if_true]
 refine wpAny_bind (wpAny_alloc ?_)
 refine wpAny_bind (wpAny_layCells _ (fun name kind cells=>by cases hkc:kind == NameKind.cell <;> simp [hkc]) _ _ _ _ ?_)
 have ok:=cellsFrom_ok scope.names (s.heap.push { cls:=.type "dict",data:=.dict #[] }) (s.heap.objs.size + 1) [] ⟨fun _ _ hm=>(nomatch hm),List.Pairwise.nil⟩ (by rw [Heap.size_push]; exact Nat.le_refl _)
 rw [Heap.size_push] at ok
 rw [show ({ s with heap:=s.heap.push { cls:=.type "dict",data:=.dict #[] } }:Shared).heap.objs.size = s.heap.objs.size + 1 from Heap.size_push ..]
 rw [List.forIn_nil]
 refine wpAny_bind (wpAny_pure (wpAny_pure ?_))
 rw [E2]
 exact hQ _ _ ⟨fun n c h=>⟨(ok.empty n c h).1,(ok.empty n c h).2⟩,ok.apart,fun x h=>af9 h,fun x c h=>P9 _ _ x c (PySem.mem_of_lookup h)⟩
  ((Heap.Ns.new s.heap (.type "dict")).keeps (pushCells_keeps _ _)) fun b o e=>pushCells_keeps _ _ b o (Heap.get?_push_of_some _ e)
def aV2 (X:Cx) (ifs:List Expr) (t:TT):Prop :=
 ∀ (pins:List (Addr × Obj)) (s:Shared) (σ:St) (H:Hp) (Q:Bool → Hp → Prop),Inv X pins σ H s → t σ H Q →
  wpAny (model X.prog X.w) X.A (forIn ifs true fun c r=>if r = true then do let ok ← isTrue c X.env (eval c X.env); pure (ForInStep.yield ok) else pure (ForInStep.yield r)) (TP X pins σ Q) X.xe s
def bp7:TT:=fun _ H Q=>Q true H
theorem E6 {X:Cx}:aV2 X [] bp7:=fun _ _ _ H Q I h=>wpAny_tests_nil ⟨H,I,h⟩
theorem P7 {X:Cx} {c:Expr} {t:TT} (h:PT X c t):aV2 X [c] t:=fun pins s σ H Q I q=>wpAny_tests_one (h pins s σ H Q I q)
def D5 (own:List Str) (fr:List (Nat × Str)) (σ:St):St:=own.map (fun _=>none) ++ fr.map fun p=>(σ[p.1]?).join
def aa1 (J:It) (g:TG) (tt:TT) (te:TE) (Q:VK) (σ₀:St) (H1:Hp):Prop :=
 ∃ W:Nat → Nat → List V → St → Hp → Prop,(∃ m,W 0 m [] σ₀ H1) ∧ ∀ i m acc σ' H',W i m acc σ' H' →
  (J.stop i H' ∧ acc.length ≤ sizeLine ∧ ∀ p,H' p = none → Q (.ref p) (upd H' p (.lst acc))) ∨
  (J.go i H' ∧ acc.length < sizeLine ∧ ∃ N:List V → St → Hp → Prop,(∀ acc σ' H',N acc σ' H' → ∃ m',m' < m ∧ W (i + 1) m' acc σ' H') ∧ ∀ x H'',J.yld i H' x H'' → g x σ' H'' fun σ2 H2=>tt σ2 H2 fun ok H3=>if ok = true then te σ2 H3 fun y H4=>N (acc ++ [y]) σ2 H4 else N acc σ2 H3)
def bd1 (own:List Str) (fr:List (Nat × Str)) (wi:TI) (g:TG) (tt:TT) (te:TE):TE:=fun σ H Q=>wi σ H fun J H1=>aa1 J g tt te Q (D5 own fr σ) H1
section
variable {X:Cx} {tg iter elt:Expr} {ifs:List Expr} {scope:Scope} {own:List Str} {fr:List (Nat × Str)} {pos:Pos}
theorem aZ4 {pins:List (Addr × Obj)} {σ:St} {H:Hp} {s:Shared} {cl:List (Str × Addr)} {ex:List Addr} {h1:Heap} {m:Str → Option Value} {C:Addr} {t':Nat} (S:CompScope X.N X.env.scope scope own fr) (I:Inv X pins σ H s)
  (hcl:∀ x c,cl.lookup x = some c → X.env.cells.lookup x = some c) (hcl2:∀ x,(x,NameKind.free) ∈ scope.names → ∃ c,cl.lookup x = some c) (hex:∀ b ∈ ex,af6 X pins H b ∧ b < s.heap.objs.size)
  (hC:s.heap.objs.size ≤ C) (k:∀ b o,s.heap.get? b = some o → h1.get? b = some o) (hn:h1.Ns C m) {nw:List (Str × Addr)} (nc:NewCells scope nw h1 C) :
  Inv (A7 X scope (nw ++ cl) C (own ++ fr.map (·.2)) s H ex) [] (D5 own fr σ) H { s with heap:=h1,toks:=t' }:=by
 have okX:=I.ok
 have isNew:∀ x c,nw.lookup x = some c → C < c:=fun x c e=>(nc.ok x c (PySem.mem_of_lookup e)).2
 have isOld:∀ x c,cl.lookup x = some c → c < C:=fun x c e=>by
  obtain ⟨v,o,ho,_⟩:=I.cell x c (hcl x c e)
  exact Nat.lt_of_lt_of_le (Heap.lt_size ho) hC
 have hinj:∀ x y c,(nw ++ cl).lookup x = some c → (nw ++ cl).lookup y = some c → x = y:=fun x y c e1 e2=>by
  rcases F0 e1 with a | ⟨_,a⟩ <;> rcases F0 e2 with b | ⟨_,b⟩
  ·exact name_of_addr nc.apart (PySem.mem_of_lookup a) (PySem.mem_of_lookup b)
  ·exact absurd (Nat.lt_trans (isNew x c a) (isOld y c b)) (Nat.lt_irrefl _)
  ·exact absurd (Nat.lt_trans (isNew y c b) (isOld x c a)) (Nat.lt_irrefl _)
  ·exact okX.inj x y c (hcl x c a) (hcl y c b)
 have hasF:∀ x,(x,NameKind.free) ∈ scope.names → ∃ c,(nw ++ cl).lookup x = some c:=fun x hx=>by
  obtain ⟨c,e⟩:=hcl2 x hx
  cases z:nw.lookup x with
  | none=>exact ⟨c,X9 z e⟩
  | some c'=>exact ⟨c',P6 z⟩
 refine ⟨⟨okX.mod,?_,okX.glob,okX.blt,hC,hinj,fun x hx=>?_,fun x c e1 e2=>?_,okX.hd,okX.frames,.inl rfl,fun b hb=>?_,I.bs,Nat.le_trans okX.bsz I.sz,fun b o e hb=>?_,fun b hb hf=>?_,I.stack,I.stkFree⟩,
  rfl,I.bare,Un.kept k,⟨m,hn,fun i x v e1 e2 e3=>?_⟩,fun x c e=>?_,I.hok.fresh hC,fun x c e=>?_,fun p hp=>absurd (show p ∈ ([]:List (Addr × Obj)) from hp) (by simp),I.hok.kept k,?_⟩
 ·exact S.kind
 ·-- a cell's or a free name
  have hx':(relabel scope X.env).names.lookup x = some .cell ∨ (relabel scope X.env).names.lookup x = some .free:=hx
  have hfree:scope.names.lookup x = some .cell ∨ scope.names.lookup x = some .free:=by
   rcases hx' with q | q
   ·obtain ⟨k',e1,e2⟩:=F8 q
    rcases e2 with e2 | ⟨e2,_⟩
    ·exact .inl (by rw [e1,e2])
    ·exact .inr (by rw [e1,e2])
   ·obtain ⟨k',e1,e2⟩:=F8 q
    rcases e2 with e2 | ⟨e2,e3⟩
    ·exact .inr (by rw [e1,e2])
    ·cases e3
  rcases hfree with hfree | hfree
  ·obtain ⟨c,e⟩:=nc.has x hfree
   exact ⟨c,P6 e⟩
  ·exact hasF x (PySem.mem_of_lookup hfree)
 ·-- an own cell is new
  have e1':(match scope.names.lookup x with | some .cell=>true | _=>false) = true:=e1
  have hce:scope.names.lookup x = some .cell:=by
   split at e1'
   ·assumption
   ·cases e1'
  obtain ⟨c',e⟩:=nc.has x hce
  have e2':(nw ++ cl).lookup x = some c:=e2
  rw [P6 e] at e2'
  cases e2'
  exact Nat.le_trans hC (Nat.le_of_lt (isNew x c e))
 ·obtain ⟨⟨f0,f1,f2,f3,f4,f5⟩,f6⟩:=hex b hb
  refine ⟨Nat.ne_of_lt (Nat.lt_of_lt_of_le f6 hC),fun x c e=>?_⟩
  rcases F0 (show (nw ++ cl).lookup x = some c from e) with a | ⟨_,a⟩
  ·exact Nat.ne_of_gt (Nat.lt_trans (Nat.lt_of_lt_of_le f6 hC) (isNew x c a))
  ·exact f4 x c (hcl x c a)
 ·obtain ⟨⟨f0,f1,f2,f3,f4,f5⟩,f6⟩:=hex b hb
  rcases f3 with f3 | f3
  ·exact okX.noex b o e f3
  ·exact absurd (Nat.lt_of_lt_of_le (Heap.lt_size e) (Nat.le_trans okX.bsz f3)) (Nat.lt_irrefl _)
 ·obtain ⟨⟨f0,f1,f2,f3,f4,f5⟩,f6⟩:=hex b hb
  rcases List.mem_cons.mp (I.stkSub b hf) with z | z
  ·exact f1 z
  ·exact f2 z
 ·-- the values of the free names
  have e1':(own ++ fr.map (·.2))[i]? = some x:=e1
  have hi:own.length ≤ i:=by
   by_cases h:i < own.length
   ·unfold D5 at e2
    rw [List.getElem?_append_left (by simpa using h),List.getElem?_map] at e2
    cases q:own[i]? with
    | none=>rw [q] at e2; cases e2
    | some z=>rw [q] at e2; cases e2
   ·lia
  unfold D5 at e2
  rw [List.getElem?_append_right (by simpa using hi),List.getElem?_map,List.length_map] at e2
  rw [List.getElem?_append_right hi,List.getElem?_map] at e1'
  cases q:fr[i - own.length]? with
  | none=>rw [q] at e2; cases e2
  | some p =>
   rw [q] at e2 e1'
   have e1':p.2 = x:=Option.some.inj e1'
   have e2':(σ[p.1]?).join = some v:=Option.some.inj e2
   obtain ⟨hs1,hs2⟩:=S.slot p (List.mem_of_getElem? q)
   rw [e1'] at hs1 hs2
   have e2'':σ[p.1]? = some (some v):=by
    cases z:σ[p.1]? with
    | none=>rw [z] at e2'; cases e2'
    | some y=>rw [z] at e2'; exact congrArg some e2'
   obtain ⟨mX,hnX,hlX⟩:=I.loc
   have hfr:=S.free (x,.free) (PySem.mem_of_lookup hs2) rfl
   have hvis:Vis X.env.scope x:=by
    rcases hfr with z | z
    ·exact .inr (.inl z)
    ·exact .inr (.inr z)
   obtain ⟨u,r,l⟩:=hlX p.1 x v hs1 e2'' hvis
   refine ⟨u,r,?_⟩
   have hkc:X.env.kindOf x = some .cell ∨ X.env.kindOf x = some .free:=hfr
   rcases l with ⟨kx,_⟩ | ⟨kx,c,hc,z⟩
   ·rcases hkc with w | w
    ·rw [w] at kx; cases kx
    ·rw [w] at kx; cases kx
   ·obtain ⟨c',hc'⟩:=hcl2 x (PySem.mem_of_lookup hs2)
    have hcc:=hcl x c' hc'
    rw [hc] at hcc
    cases hcc
    have e3':(relabel scope X.env).names.lookup x = some .local ∨ (relabel scope X.env).names.lookup x = some .cell ∨ (relabel scope X.env).names.lookup x = some .free:=e3
    have hnew:nw.lookup x = none:=by
     cases z:nw.lookup x with
     | none=>rfl
     | some c'' =>
      have:=S.cells _ (nc.of x c'' z) rfl
      rw [hs2] at this
      cases this
    refine .inr ⟨?_,c,X9 hnew hc',?_⟩
    ·rcases e3' with w | w | w
     ·obtain ⟨k',q1,q2⟩:=F8 w
      rw [hs2] at q1
      cases q1
      rcases q2 with q2 | ⟨_,q2⟩ <;> cases q2
     ·exact .inl w
     ·exact .inr w
    ·obtain ⟨o,ho,hd⟩:=z
     exact ⟨o,k _ _ ho,hd⟩
 ·rcases F0 (show (nw ++ cl).lookup x = some c from e) with a | ⟨_,a⟩
  ·exact ⟨none,(nc.ok x c (PySem.mem_of_lookup a)).1⟩
  ·obtain ⟨v,o,ho,hd⟩:=I.cell x c (hcl x c a)
   exact ⟨v,o,k _ _ ho,hd⟩
 ·rcases F0 (show (nw ++ cl).lookup x = some c from e) with a | ⟨_,a⟩
  ·exact I.hok.fresh (Nat.le_trans hC (Nat.le_of_lt (isNew x c a)))
  ·exact I.freeC x c (hcl x c a)
 ·show (D5 own fr σ).length = (own ++ fr.map (·.2)).length
  unfold D5
  rw [List.length_append,List.length_append,List.length_map,List.length_map,List.length_map]
theorem aj7 {pins:List (Addr × Obj)} {σ:St} {H2:Hp} {s2:Shared} {cl:List (Str × Addr)} {it:Addr} {fp:List Addr} {tn:Nat → Heap → Prop} {J:It} {g:TG} {tt:TT} {te:TE} {Q:VK} {E:Value → Shared → Prop}
  {RR:Value → Addr → Result → Shared → Prop} (hc:X.calm = true) (S:CompScope X.N X.env.scope scope own fr) (I:Inv X pins σ H2 s2) (hcl:∀ x c,cl.lookup x = some c → X.env.cells.lookup x = some c)
  (hcl2:∀ x,(x,NameKind.free) ∈ scope.names → ∃ c,cl.lookup x = some c) (T:Turn X.prog X.w X.K tg J fp it tn) (st:tn 0 s2.heap) (hfp:∀ b ∈ fp,af6 X pins H2 b)
  (hb:∀ (cl:List (Str × Addr)) (C:Addr) (s:Shared) (H:Hp) (ex:List Addr),PG (A7 X scope cl C (own ++ fr.map (·.2)) s H ex) tg g ∧ aV2 (A7 X scope cl C (own ++ fr.map (·.2)) s H ex) ifs tt ∧ PE (A7 X scope cl C (own ++ fr.map (·.2)) s H ex) elt te)
  (hq:aa1 J g tt te Q (D5 own fr σ) H2)
  (fin:∀ (D C:Addr) (s':Shared) (H':Hp),(∃ m,s'.heap.Ns C m) → s2.heap.objs.size ≤ C → C ≠ D → H' C = none → Q (.ref D) H' → (∀ h'',(∀ b o,b ≠ C → s'.heap.get? b = some o → h''.get? b = some o) → Inv X pins σ H' { s' with heap:=h'' }) → RR (.ref D) C (.ok .next) s') :
  wpAny (model X.prog X.w) X.A (newList []) (fun acc s₃=>wpAny (model X.prog X.w) X.A (newFunctionEnv scope X.env.globals cl [] X.env.qual none .none (some X.env)) (fun cenv s₄ =>
   codeAny (model X.prog X.w) X.A (.compStart (.ListComp elt [⟨tg,iter,ifs,0⟩] scope pos) 0 (.ref it) acc { cenv with scope:=relabel scope X.env }) (RR acc cenv.locals) s₄) E s₃) E s2:=by
 obtain ⟨W,⟨m0,w0⟩,turn⟩:=hq
 refine wpAny_newObj_type (am2 (fun nw h₁ nc hns₁ hsb₁=>?_))
 dsimp only at nc hns₁ hsb₁ ⊢
 generalize hH2:s2.heap.push { cls:=.type "list",dict:=none,data:=.seq ([]:List Value).toArray } = HH at nc hns₁ hsb₁ ⊢
 have hC:HH.objs.size = s2.heap.objs.size + 1:=by rw [← hH2,Heap.size_push]
 have hDC:s2.heap.objs.size ≠ HH.objs.size:=by rw [hC]; exact Nat.ne_of_lt (Nat.lt_succ_self _)
 have hCle:s2.heap.objs.size ≤ HH.objs.size:=by rw [hC]; exact Nat.le_succ _
 have old:∀ b o,s2.heap.get? b = some o → h₁.get? b = some o:=fun b o e =>
  hsb₁ b o (hH2 ▸ Heap.get?_push_of_some _ e)
 have hacc:h₁.get? s2.heap.objs.size = some { cls:=.type "list",data:=.seq ([]:List Value).toArray }:=hsb₁ _ _ (hH2 ▸ Heap.get?_push_size _ rfl)
 have flt:∀ b ∈ fp,b < s2.heap.objs.size:=fun b hb=>by
  obtain ⟨o,e,_⟩:=T.obj _ _ st b hb
  exact Heap.lt_size e
 have hlt:s2.heap.objs.size < HH.objs.size:=by rw [hC]; exact Nat.lt_succ_self _
 obtain ⟨D,hD⟩:∃ D:Nat,D = s2.heap.objs.size:=⟨_,rfl⟩
 obtain ⟨C,hCC⟩:∃ C:Nat,C = HH.objs.size:=⟨_,rfl⟩
 rw [← hD] at hacc ⊢
 rw [← hCC] at nc hns₁ ⊢
 have hDlt:D < C:=by rw [hD,hCC]; exact hlt
 have hDs:s2.heap.objs.size ≤ D:=Nat.le_of_eq hD.symm
 have hCs:s2.heap.objs.size ≤ C:=Nat.le_trans hDs (Nat.le_of_lt hDlt)
 have nDC:D ≠ C:=Nat.ne_of_lt hDlt
 have nfD:∀ b ∈ fp,b ≠ D:=fun b hb=>Nat.ne_of_lt (Nat.lt_of_lt_of_le (flt b hb) hDs)
 have nfC:∀ b ∈ fp,b ≠ C:=fun b hb=>Nat.ne_of_lt (Nat.lt_of_lt_of_le (flt b hb) hCs)
 have I0:Inv (A7 X scope (nw ++ cl) C (own ++ fr.map (·.2)) s2 H2 fp) [] (D5 own fr σ) H2 { s2 with heap:=h₁,toks:=s2.toks } :=
  aZ4 S I hcl hcl2 (fun b hb=>⟨hfp b hb,flt b hb⟩) hCs old hns₁ nc
 obtain ⟨pg,pt,pe⟩:=hb (nw ++ cl) C s2 H2 fp
 have Dcell:∀ x c,(nw ++ cl).lookup x = some c → c ≠ D:=fun x c e=>by
  rcases F0 e with a | ⟨_,a⟩
  ·exact Nat.ne_of_gt (Nat.lt_trans hDlt (nc.ok x c (PySem.mem_of_lookup a)).2)
  ·obtain ⟨v,q⟩:=I.cell x c (hcl x c a)
   exact Nat.ne_of_lt (Nat.lt_of_lt_of_le q.lt hDs)
 have Dstk:D ∉ frs X.stack:=fun hf=>by
  rcases List.mem_cons.mp (I.stkSub D hf) with z | z
  ·have h1:=I.lt
   rw [← z] at h1
   exact Nat.lt_irrefl _ (Nat.lt_of_lt_of_le h1 hDs)
  ·exact I.nofs hDs z
 have stat:∀ {H':Hp} {pl:List (Addr × Obj)},(∀ b ∈ fp,H' b = none) → (∀ p ∈ pl,p.1 = D) → ∀ b ∈ fp,af6 (A7 X scope (nw ++ cl) C (own ++ fr.map (·.2)) s2 H2 fp) pl H' b:=fun {H' pl} hn hpl b hb=>by
  obtain ⟨f0,f1,f2,f3,f4,f5⟩:=hfp b hb
  refine ⟨hn b hb,nfC b hb,fun hf=>?_,.inl hb,fun x c e=>(by
   rcases F0 (show (nw ++ cl).lookup x = some c from e) with a | ⟨_,a⟩
   ·exact Nat.ne_of_gt (Nat.lt_trans (Nat.lt_of_lt_of_le (flt b hb) hCs) (nc.ok x c (PySem.mem_of_lookup a)).2)
   ·exact f4 x c (hcl x c a)),fun p hp z=>?_⟩
  ·rcases List.mem_cons.mp (I.stkSub b hf) with z | z
   ·exact f1 z
   ·exact f2 z
  ·have h1:p.1 = D:=hpl p (by simpa [A7] using hp)
   exact nfD b hb (z.symm.trans h1)
 have loop:∀ s₃:Shared,s₃ = { s2 with heap:=h₁,toks:=s2.toks } →
   codeAny (model X.prog X.w) X.A (.compLoop (.ListComp elt [⟨tg,iter,ifs,0⟩] scope pos) 0 (.ref it) (.ref D) (compEnvC scope (nw ++ cl) C X.env)) (RR (.ref D) C) s₃:=by
  rintro s₃ rfl
  refine codeAny_loop rfl (fun n s'=>∃ i σ' H' acc its k,Inv (A7 X scope (nw ++ cl) C (own ++ fr.map (·.2)) s2 H2 fp) [] σ' H' s' ∧ tn i s'.heap ∧ (∀ b ∈ fp,H' b = none) ∧ H' D = none ∧
   s'.heap.get? D = some { cls:=.type "list",data:=.seq its.toArray k } ∧ r6 acc its ∧ W i n acc σ' H') ?_ m0
   ⟨0,_,H2,[],[],0,I0,T.keep _ _ _ st fun b hb o e=>old b o e,fun b hb=>(hfp b hb).1,I.hok.fresh hDs,hacc,.nil,w0⟩
  rintro n s' ⟨i,σ',H',acc,its,k,I1,st1,fr1,nD,gD,rv,w1⟩
  show wpAny _ X.A ((compTurn (.ListComp elt [⟨tg,iter,ifs,0⟩] scope pos) 0 (.ref it) (.ref D) (compEnvC scope (nw ++ cl) C X.env)).onRaise (fun x=>do noteFrame x (compEnvC scope (nw ++ cl) C X.env); theTreesLotGoes x)) _ _ s'
  refine wpAny_noted ?_
  rw [compTurn_list]
  have I1':Inv (A7 X scope (nw ++ cl) C (own ++ fr.map (·.2)) s2 H2 fp) [(D,{ cls:=.type "list",data:=.seq its.toArray k })] σ' H' s':=I1.pins_of fun p hp=>by
   have e:p = (D,{ cls:=.type "list",data:=.seq its.toArray k }):=by simpa using hp
   subst e
   exact ⟨gD,nD,nDC,Dstk,fun v z=>nomatch z⟩
  rcases turn i n acc σ' H' w1 with ⟨stop,hz,qq⟩ | ⟨go,hz,NN,hNN,step⟩
  ·refine wpAny_bind (wpAny_standAt (wpAny_bind (wpAny_mono (T.done (A7 X scope (nw ++ cl) C (own ++ fr.map (·.2)) s2 H2 fp) rfl rfl rfl hc i _ s' σ' H' (fun _ _=>False) I1' (stat fr1 (by simp)) st1 stop) (fun r s4 ⟨hr,I4⟩=>?_) fun _ _ z=>z.elim)))
   subst hr
   refine wpAny_pure ?_
   have gD4:=(I4.pin (D,_) (List.mem_append_right _ (List.mem_singleton.mpr rfl))).1
   have hC4:H' C = none:=I4.free
   have hC5:(upd H' D (.lst acc)) C = none:=by rw [n5 (Ne.symm nDC)]; exact hC4
   refine fin D C s4 (upd H' D (.lst acc)) ?_ hCs (Ne.symm nDC) hC5 (qq D nD) fun h'' kk=>?_
   ·obtain ⟨m,hn,_⟩:=I4.loc
    exact ⟨m,hn⟩
   ·have un:Un (frs X.stack) fp H2 (upd H' D (.lst acc)) s2.heap h'':=Un.but (a:=C) (Un.track (o:=.lst acc) I4.base hDs (I.hok.fresh hDs)) hCs kk
    have hok:HOk X.prog X.w (upd H' D (.lst acc)) s4.heap:=HOk.track I4.hok nD ⟨hz,its,k,rv,gD4⟩
    exact I.call' (s':={ s4 with heap:=h'' }) (ch:=fp) I4.os un (HOk.but hok hC5 kk) I4.bare fun b hb=>by
     obtain ⟨f0,f1,f2,f3,f4,f5⟩:=hfp b hb
     exact ⟨f3,f1,f4,f5⟩
  ·refine wpAny_bind (wpAny_standAt (wpAny_bind (wpAny_mono (T.item (A7 X scope (nw ++ cl) C (own ++ fr.map (·.2)) s2 H2 fp) rfl rfl rfl hc i _ s' σ' H' (fun _ _=>False) I1' (stat fr1 (by simp)) st1 go) (fun r s4 ⟨u,hr,h4⟩=>?_) fun _ _ z=>z.elim)))
   subst hr
   refine wpAny_bind (wpAny_mono h4 (fun _ s5 ⟨x,H5,I5,r5,y5,st5,fr5⟩=>?_) fun _ _ z=>z.elim)
   have I5':=I5.pinned (stat fr5 (by simp)) (T.obj _ _ st5)
   refine wpAny_bind (wpAny_mono (pg _ s5 σ' H5 x u _ I5' r5 (step x H5 y5)) (fun _ s6 ⟨σ6,H6,I6,q6⟩=>?_) fun _ _ z=>z.elim)
   refine wpAny_bind (wpAny_mono (pt _ s6 σ6 H6 _ I6 q6) (fun ok s7 ⟨H7,I7,q7⟩=>?_) fun _ _ z=>z.elim)
   have again:∀ {s8:Shared} {H8:Hp} {acc':List V} {its':List Value} {k' m':Nat},Inv (A7 X scope (nw ++ cl) C (own ++ fr.map (·.2)) s2 H2 fp) (Q9 fp s5.heap) σ6 H8 s8 → H8 D = none →
     s8.heap.get? D = some { cls:=.type "list",data:=.seq its'.toArray k' } → r6 acc' its' → m' < n → W (i + 1) m' acc' σ6 H8 →
     ∃ m,m < n ∧ ∃ i σ' H' acc its k,Inv (A7 X scope (nw ++ cl) C (own ++ fr.map (·.2)) s2 H2 fp) [] σ' H' s8 ∧ tn i s8.heap ∧ (∀ b ∈ fp,H' b = none) ∧ H' D = none ∧
      s8.heap.get? D = some { cls:=.type "list",data:=.seq its.toArray k } ∧ r6 acc its ∧ W i m acc σ' H':=fun {s8 H8 acc' its' k' m'} I8 n8 g8 rv8 hm w8=>by
    refine ⟨m',hm,i + 1,σ6,H8,acc',its',k',I8.pins_of (fun p hp=>nomatch hp),T.keep _ _ _ st5 fun b hb o e=>(I8.pin (b,o) (List.mem_append_right _ (P2 hb e))).1,fun b hb=>?_,n8,g8,rv8,w8⟩
    obtain ⟨o,e,d⟩:=T.obj _ _ st5 b hb
    exact (I8.pin (b,o) (List.mem_append_right _ (P2 hb e))).2.1
   have dropD:∀ {s8:Shared} {H8:Hp},Inv (A7 X scope (nw ++ cl) C (own ++ fr.map (·.2)) s2 H2 fp) ([(D,{ cls:=.type "list",data:=.seq its.toArray k })] ++ Q9 fp s5.heap) σ6 H8 s8 →
     Inv (A7 X scope (nw ++ cl) C (own ++ fr.map (·.2)) s2 H2 fp) (Q9 fp s5.heap) σ6 H8 s8:=fun I8=>I8.pins_of fun p hp=>I8.pin p (List.mem_append_right _ (List.mem_append_right _ hp))
   cases ok with
   | false =>
    rw [if_neg Bool.false_ne_true] at q7
    obtain ⟨m',hm,w7⟩:=hNN _ _ _ q7
    have pD:=I7.pin (D,_) (List.mem_append_right _ (List.mem_append_left _ (List.mem_singleton.mpr rfl)))
    simp only [Bool.false_eq_true,if_false]
    exact wpAny_pure ⟨rfl,again (dropD I7) pD.2.1 pD.1 rv hm w7⟩
   | true =>
    rw [if_pos rfl] at q7
    simp only [if_true]
    refine wpAny_bind (wpAny_bind (wpAny_mono (pe _ s7 σ6 H7 _ I7 q7) (fun u8 s8 ⟨y,H8,I8,r8,q8⟩=>?_) fun _ _ z=>z.elim))
    obtain ⟨m',hm,w8⟩:=hNN _ _ _ q8
    have pD:=I8.pin (D,_) (List.mem_append_right _ (List.mem_append_left _ (List.mem_singleton.mpr rfl)))
    obtain ⟨gD8,nD8,_⟩:=pD
    have hlen:=rv.length
    refine wpAny_bind (call_meets F.slot_list_append ⟨_,gD8,rfl⟩ F.entry_list_append (F.args_list_append_2 _ _) (PySem.list_append D its.toArray k u8 (by rw [List.size_toArray]; lia)) ⟨gD8,?_⟩)
    refine wpAny_pure (wpAny_pure ⟨rfl,?_⟩)
    have q:=PySem.IsL.update gD8 (·.push u8)
    have e9:its.toArray.push u8 = (its ++ [u8]).toArray:=by simp
    rw [e9] at q
    refine again (its':=its ++ [u8]) ((dropD I8).turned (it:=D) (t':=_) (fun b o hb e=>(Heap.get?_update_other s8.heap _ (Ne.symm hb)).trans e) nD8 nDC (.inr hDs) (fun x c e=>Dcell x c e) fun p hp z=>?_) nD8 q (rv.append (.cons r8 .nil)) hm w8
    have hp':p ∈ Q9 fp s5.heap:=by simpa [A7] using hp
    exact nfD p.1 (ao6 hp').1 z
 exact codeAny_compStart_list (loop _ rfl) (T.self _ 0 _ _ _ (T.keep _ _ _ st fun b hb o e=>old b o e) (loop _ rfl))
theorem D0 {wi:TI} {g:TG} {tt:TT} {te:TE} (hc:X.calm = true) (S:CompScope X.N X.env.scope scope own fr) (hi:PI X tg iter wi)
  (hb:∀ (cl:List (Str × Addr)) (C:Addr) (s:Shared) (H:Hp) (ex:List Addr),PG (A7 X scope cl C (own ++ fr.map (·.2)) s H ex) tg g ∧ aV2 (A7 X scope cl C (own ++ fr.map (·.2)) s H ex) ifs tt ∧ PE (A7 X scope cl C (own ++ fr.map (·.2)) s H ex) elt te)
  (hs:∀ x,foldedSetIterable iter X.env x = pure x:=by intro _; rfl):PE X (.ListComp elt [⟨tg,iter,ifs,0⟩] scope pos) (bd1 own fr wi g tt te):=by
 intro pins s σ H Q I h
 obtain ⟨cl,hclos,hcl,hcl2⟩:=ai1 (scope:=scope) (env:=X.env) fun x hx=>I.ok.has x (S.free (x,.free) hx rfl)
 rw [eval_ListComp]
 refine wpAny_comprehension_free (use:=none) rfl hs hclos S.kind S.locs (thn (hi pins s σ H _ I h) fun xv s₁ h₁=>thn h₁ fun itv s₂ h₂=>?_)
 obtain ⟨it,fp,tn,J,H2,e,I2,T,st2,f2,hq⟩:=h₂
 subst e
 refine aj7 hc S I2 hcl hcl2 T st2 f2 hb hq (RR:=fun acc C=>compPost (model X.prog X.w) X.A X.xe none (EP X pins σ Q) acc C) fun D C s' H' hn hC1 hCD hC2 q inv=>?_
 obtain ⟨m,hn⟩:=hn
 exact ⟨m,hn,fun h'' sb=>⟨.ref D,H',inv h'' fun b o hb e=>sb.extBut b o hb e,rfl,q⟩⟩
theorem Y6 {i:Nat} {x:Str} {px spos:Pos} {wi:TI} {g:TG} {tt:TT} {te:TE} (hc:X.calm = true) (hN:X.N.Nodup) (hix:X.N[i]? = some x) (hx:X.env.scope.names.lookup x = some .local) (S:CompScope X.N X.env.scope scope own fr) (hi:PI X tg iter wi)
  (hb:∀ (cl:List (Str × Addr)) (C:Addr) (s:Shared) (H:Hp) (ex:List Addr),PG (A7 X scope cl C (own ++ fr.map (·.2)) s H ex) tg g ∧ aV2 (A7 X scope cl C (own ++ fr.map (·.2)) s H ex) ifs tt ∧ PE (A7 X scope cl C (own ++ fr.map (·.2)) s H ex) elt te)
  (hsw:swapsWith (.ListComp elt [⟨tg,iter,ifs,0⟩] scope pos) (some (.Name x px)) spos.line X.env = pure true) (hs:∀ x,foldedSetIterable iter X.env x = pure x:=by intro _; rfl) :
  PS X (.Assign [.Name x px] (.ListComp elt [⟨tg,iter,ifs,0⟩] scope pos) spos) (bg1 (bd1 own fr wi g tt te) (G0 i)):=by
 intro pins s σ H D I h
 obtain ⟨cl,hclos,hcl,hcl2⟩:=ai1 (scope:=scope) (env:=X.env) fun x hx=>I.ok.has x (S.free (x,.free) hx rfl)
 rw [exec_Assign_Name_used _ _ _ _ hsw]
 refine wpAny_bind (wpAny_standAt (wpAny_bind ?_))
 show wpAny _ X.A (do let _ ← comprehension (.ListComp elt [⟨tg,iter,ifs,0⟩] scope pos) scope X.env _ (newList []) false (eval iter X.env) (some (assign (.Name x px) X.env))) _ _ s
 refine wpAny_bind (wpAny_mono (wpAny_comprehension_free (use:=some (assign (.Name x px) X.env)) (Q:=fun _ s'=>SP X pins D .next s') rfl hs hclos S.kind S.locs (thn (hi pins s σ H _ I h) fun xv s₁ h₁=>thn h₁ fun itv s₂ h₂=>?_)) (fun _ s' hq=>wpAny_pure (wpAny_pure hq)) fun _ _ e=>e)
 obtain ⟨it,fp,tn,J,H2,e,I2,T,st2,f2,hq⟩:=h₂
 subst e
 refine aj7 (Q:=fun x H1=>G0 i x σ H1 D.nx) hc S I2 hcl hcl2 T st2 f2 hb hq (RR:=fun acc C=>compPost (model X.prog X.w) X.A X.xe (some (assign (.Name x px) X.env)) (fun _ s'=>SP X pins D .next s') acc C) fun Da C s' H' hn hC1 hCD hC2 q inv=>?_
 obtain ⟨m,hn⟩:=hn
 have I3:Inv X pins σ H' { s' with heap:=s'.heap }:=inv s'.heap fun _ _ _ e=>e
 show wpAny _ X.A (assign (.Name x px) X.env (.ref Da)) _ _ s'
 refine wpAny_assign_Name (ap4 I3 hN hix (.inl hx) (v:=.ref Da) rfl (fun s4 I4 ⟨a,sb,ha⟩=>?_) (.inr hx))
 have hCL:C ≠ X.env.locals:=Nat.ne_of_gt (Nat.lt_of_lt_of_le I2.lt hC1)
 have hCc:∀ y c,X.env.cells.lookup y = some c → c ≠ C:=fun y c e=>by
  obtain ⟨v,w⟩:=I2.cell y c e
  exact Nat.ne_of_lt (Nat.lt_of_lt_of_le w.lt hC1)
 have haC:C ≠ a:=by
  rcases ha with ha | ha
  ·rw [ha]; exact hCL
  ·exact (hCc _ _ ha).symm
 refine ⟨m,hn.sameBut sb haC,fun h'' sb2=>⟨_,H',I4.turned (it:=C) (t':=s4.toks) (fun b o hb e=>sb2.extBut b o hb e) hC2 hCL (.inr (Nat.le_trans I2.sz hC1)) hCc fun p hp z=>?_,q⟩⟩
 exact Nat.ne_of_lt (Nat.lt_of_lt_of_le (Heap.lt_size (I2.pin p hp).1) hC1) z
end
theorem B2 {K:PySem.W.Frag} {a:Addr} {xs:List V} {g:TG} {tt:TT} {te:TE} {σ₀:St} {H:Hp} {Q:VK} (Pv:Nat → List V → St → Hp → Prop) (h0:Pv 0 [] σ₀ H) (hz:xs.length ≤ sizeLine) (hn:∀ i acc σ H,Pv i acc σ H → acc.length ≤ i)
  (hl:∀ i acc σ H,i ≤ xs.length → Pv i acc σ H → SqL K H a xs)
  (hs:∀ i x acc σ H,xs[i]? = some x → Pv i acc σ H → g x σ H fun σ2 H2=>tt σ2 H2 fun ok H3=>if ok = true then te σ2 H3 fun y H4=>Pv (i + 1) (acc ++ [y]) σ2 H4 else Pv (i + 1) acc σ2 H3)
  (hd:∀ acc σ H,Pv xs.length acc σ H → ∀ p,H p = none → Q (.ref p) (upd H p (.lst acc))) :
  aa1 (Itl K a) g tt te Q σ₀ H:=by
 refine ⟨fun i m acc σ H=>m = xs.length - i ∧ i ≤ xs.length ∧ Pv i acc σ H,⟨xs.length,by simp,Nat.zero_le _,h0⟩,?_⟩
 rintro i m acc σ H ⟨rfl,hi,p⟩
 have q:=hl i acc σ H hi p
 have hlen:=hn i acc σ H p
 by_cases hlt:i < xs.length
 ·refine .inr ⟨⟨xs,xs[i],q,by simp [hlt]⟩,by lia,Pv (i + 1),fun acc' σ' H' p'=>⟨xs.length - (i + 1),by lia,rfl,hlt,p'⟩,fun x H' y=>?_⟩
  obtain ⟨e,y⟩:=y
  subst e
  exact hs i x acc σ _ (y xs q) p
 ·have e:i = xs.length:=by lia
  subst e
  exact .inl ⟨⟨xs,q,Nat.le_refl _⟩,by lia,hd acc σ H p⟩
theorem aB0 {K:PySem.W.Frag} {a:Addr} {xs:List V} {g:TG} {tt:TT} {te:TE} {σ₀:St} {H:Hp} {Q:VK} (Pv:Nat → List V → St → Hp → Prop) (h0:Pv 0 [] σ₀ H) (hz:xs.length ≤ sizeLine) (hn:∀ i acc σ H,Pv i acc σ H → acc.length ≤ i)
  (hl:∀ i acc σ H,i ≤ xs.length → Pv i acc σ H → SqT K H a xs)
  (hs:∀ i x acc σ H,xs[i]? = some x → Pv i acc σ H → g x σ H fun σ2 H2=>tt σ2 H2 fun ok H3=>if ok = true then te σ2 H3 fun y H4=>Pv (i + 1) (acc ++ [y]) σ2 H4 else Pv (i + 1) acc σ2 H3)
  (hd:∀ acc σ H,Pv xs.length acc σ H → ∀ p,H p = none → Q (.ref p) (upd H p (.lst acc))) :
  aa1 (Itt K a) g tt te Q σ₀ H:=by
 refine ⟨fun i m acc σ H=>m = xs.length - i ∧ i ≤ xs.length ∧ Pv i acc σ H,⟨xs.length,by simp,Nat.zero_le _,h0⟩,?_⟩
 rintro i m acc σ H ⟨rfl,hi,p⟩
 have q:=hl i acc σ H hi p
 have hlen:=hn i acc σ H p
 by_cases hlt:i < xs.length
 ·refine .inr ⟨⟨xs,xs[i],q,by simp [hlt]⟩,by lia,Pv (i + 1),fun acc' σ' H' p'=>⟨xs.length - (i + 1),by lia,rfl,hlt,p'⟩,fun x H' y=>?_⟩
  obtain ⟨e,y⟩:=y
  subst e
  exact hs i x acc σ _ (y xs q) p
 ·have e:i = xs.length:=by lia
  subst e
  exact .inl ⟨⟨xs,q,Nat.le_refl _⟩,by lia,hd acc σ H p⟩
theorem O5 {lo:Int} {n:Nat} {g:TG} {tt:TT} {te:TE} {σ₀:St} {H:Hp} {Q:VK} (Pv:Nat → List V → St → Hp → Prop) (h0:Pv 0 [] σ₀ H) (hz:n ≤ sizeLine) (hn:∀ i acc σ H,Pv i acc σ H → acc.length ≤ i)
  (hs:∀ i acc σ H,i < n → Pv i acc σ H → g (.int (lo + i)) σ H fun σ2 H2=>tt σ2 H2 fun ok H3=>if ok = true then te σ2 H3 fun y H4=>Pv (i + 1) (acc ++ [y]) σ2 H4 else Pv (i + 1) acc σ2 H3)
  (hd:∀ acc σ H,Pv n acc σ H → ∀ p,H p = none → Q (.ref p) (upd H p (.lst acc))) :
  aa1 (Itr lo n) g tt te Q σ₀ H:=by
 refine ⟨fun i m acc σ H=>m = n - i ∧ i ≤ n ∧ Pv i acc σ H,⟨n,by simp,Nat.zero_le _,h0⟩,?_⟩
 rintro i m acc σ H ⟨rfl,hi,p⟩
 have hlen:=hn i acc σ H p
 by_cases hlt:i < n
 ·refine .inr ⟨hlt,by lia,Pv (i + 1),fun acc' σ' H' p'=>⟨n - (i + 1),by lia,rfl,hlt,p'⟩,fun x H' y=>?_⟩
  obtain ⟨e,y⟩:=y
  subst e y
  exact hs i acc σ _ hlt p
 ·have e:i = n:=by lia
  subst e
  exact .inl ⟨Nat.le_refl _,by lia,hd acc σ H p⟩
end L2
namespace L2
open PySem PySem.Spec PyProof.Rows
theorem aY0 {c A B:Prop} [Decidable c] (h:c) (a:A):if c then A else B:=by rw [if_pos h]; exact a
theorem au0 {c A B:Prop} [Decidable c] (h:¬ c) (b:B):if c then A else B:=by rw [if_neg h]; exact b
structure Callee (P:Program) (w:World) (K:PySem.W.Frag) (mg:Str → Option Value) (base:Heap) (k:Nat) (x:Str) (ps:List Str) (sp:Sp):Prop where
 ex:∃ (f:Addr) (fd:FuncData),FnOk P w K mg base CX0 k f fd ps sp ∧ ab6 K fd ps [] ∧ PySem.W.keepIn K (.ref f) = true ∧ mg x = some (.ref f)
structure Def (K:PySem.W.Frag) (mg:Str → Option Value) (x:Str) (st:Stmt) (ps:List Str):Prop where
 ex:∃ (f:Addr) (fd:FuncData),Fun K x x st f fd ∧ ab6 K fd ps [] ∧ mg x = some (.ref f)
section
variable {P:Program} {w:World} {K:PySem.W.Frag} {mg:Str → Option Value} {base:Heap}
theorem Def.ok {x:Str} {st:Stmt} {N ps:List Str} {k:Nat} {sp:Sp} (D:Def K mg x st ps) (S:FnScope N ps (d5 st)) (len:∀ vs H Q E,sp vs H Q E → vs.length = ps.length)
  (hbody:∀ (f:Addr) (cdv:Value) (A:Around) (outer:List Env) (s:Shared) (H:Hp) (vs:List V) (Q:VK) (E:XK),Room k (A.deeper (envOfC x (d5 st) s.heap.objs.size f cdv)) → sp vs H Q E →
   ∃ t,PSs (az1 CX0 P w K mg base N x (d5 st) f cdv A outer s H E).nox (i9 st) t ∧ t { nx:=fun _ H'=>Q .non H',rt:=Q } (start N vs) H):Callee P w K mg base (k + 1) x ps sp:=by
 obtain ⟨f,fd,F,b,m⟩:=D.ex
 exact ⟨f,fd,F.ok S len fun cdv A outer s H vs Q E hr h=>hbody f cdv A outer s H vs Q E hr h,b,F.kp,m⟩
end
section
variable {X:Cx} {k n:Nat} {ps:List Str} {sp:Sp} {x:Str} {p pos:Pos} {e:Expr} {es:List Expr} {t:TA}
theorem m7 (C:Callee X.prog X.w X.K X.mg X.base k x ps sp) (hr:Room n X.A) (hg:Gl X x) (ha:PA X (e :: es) t) (hk:k ≤ n:=by decide) (hdb:(x == ("__debug__":Str)) = false:=by decide)
  (he:starEach (e :: es) X.env = (false,eval e X.env) :: starEach es X.env:=by rfl) (hpl:(backTo pos (starEach es X.env)).any (·.1) = false:=by rfl) :
  PE X (.Call (.Name x p) (e :: es) [] pos) (a52 sp [] E0 t):=by
 obtain ⟨f,fd,F,b,kp,m⟩:=C.ex
 exact aO1 F (hr.mono hk) hg m kp b .nil bd2 ha hdb he hpl
theorem az2:y4 X (.builtin "isinstance") (fun xs H Q=>∃ v T t b,xs = [v,.ty T] ∧ TyOf X.K H v t ∧ PySem.W.kitOne X.K t (.type T) = some b ∧ Q (.bl b) H):=by
 intro pins s σ H xs us Q I r h
 obtain ⟨v,T,t,b,rfl,ty,e,q⟩:=h
 obtain ⟨u,u',rfl,r1,r2⟩:=ac5 r
 cases r2
 exact aQ7 I r1 ty e fun tk=>⟨.bl b,H,I.tok _,rfl,q⟩
def bo6 (S T:String):Option Bool:=if (Value.type S == Value.type T) = true then some true else if PySem.W.kitMeta T = true then (fastBuiltinMro S).map (·.contains (.type T)) else none
theorem T5 {K:PySem.W.Frag} {S T:String} {b:Bool} (h:bo6 S T = some b):PySem.W.kitOne K (.type S) (.type T) = some b:=h
section
variable {K:PySem.W.Frag}
theorem M7:PySem.W.kitOne K (.type "int") (.type "int") = some true:=T5 (by decide +kernel)
theorem P3:PySem.W.kitOne K (.type "int") (.type "bool") = some false:=T5 (by decide +kernel)
theorem K6:PySem.W.kitOne K (.type "tuple") (.type "tuple") = some true:=T5 (by decide +kernel)
theorem M5:PySem.W.kitOne K (.type "list") (.type "list") = some true:=T5 (by decide +kernel)
theorem ac1:PySem.W.kitOne K (.type "list") (.type "tuple") = some false:=T5 (by decide +kernel)
theorem aE2:PySem.W.kitOne K (.type "tuple") (.type "list") = some false:=T5 (by decide +kernel)
theorem aF4:PySem.W.kitOne K (.type "tuple") (.type "int") = some false:=T5 (by decide +kernel)
theorem ax1:PySem.W.kitOne K (.type "list") (.type "int") = some false:=T5 (by decide +kernel)
end
theorem aa6:y4 X (.builtin "sorted") (fun xs H Q=>∃ (p:Addr) (ns:List Int),xs = [.ref p] ∧ SqL X.K H p (ns.map V.int) ∧ ns.length < 64 ∧ ∀ ns':List Int,ns'.Perm ns → ns'.Pairwise (· ≤ ·) → ∀ l,H l = none → Q (.ref l) (upd H l (.lst (ns'.map V.int)))):=by
 intro pins s σ H xs us Q I r h
 obtain ⟨p,ns,rfl,hq,h64,q⟩:=h
 obtain ⟨u,rfl,rx⟩:=J5 r
 cases rx
 obtain ⟨its,r',pl,hz⟩:=I.list hq
 have hi:IntsAre its ns:=K0 r'
 have hlen:its.length = ns.length:=hi.length
 refine sorted_ints pl.isList hi (by lia) fun out ns' a1 a2 a3=>?_
 obtain ⟨e,he⟩:=sortedAll_at s.heap its out
 have hz':(ns'.map V.int).length ≤ sizeLine:=by
  rw [List.length_map,a2.length_eq]
  rw [List.length_map] at hz
  exact hz
 exact ⟨.ref (s.heap.objs.size + 1),_,I.laid (t':=s.toks) (o:=.lst (ns'.map V.int)) (fun b o e=>sortedAll_old e) (Nat.le_succ _) ⟨hz',out.toList,e,N8 a1,by simpa [seqObj] using he⟩,rfl,q ns' a2 a3 _ (I.hok.fresh (Nat.le_succ _))⟩
theorem aM6 {ns:List Int} {us:List Value} (h:IntsAre us ns):∀ (i:Nat) (v:Value),us[i]? = some v → ∃ t,v = .int (ns.getD i 0) t:=by
 induction h with
 | nil=>intro i v e; simp at e
 | cons n t h ih =>
  intro i v e
  cases i with
  | zero=>exact ⟨t,by simpa using e.symm⟩
  | succ i =>
   obtain ⟨t',e'⟩:=ih i v (by simpa using e)
   exact ⟨t',by simpa using e'⟩
theorem ay9 {bs:List Bool}:∀ {us:List Value},r6 (bs.map V.bl) us → ∀ (i:Nat) (v:Value),us[i]? = some v → v = .bool (bs.getD i false):=by
 induction bs with
 | nil=>intro us r i v e; rw [List.map_nil] at r; cases r; simp at e
 | cons b bs ih =>
  intro us r i v e
  rw [List.map_cons] at r
  cases r with
  | cons r1 r2 =>
   cases i with
   | zero =>
    have e':=Option.some.inj e
    rw [← e']
    exact r1
   | succ i=>exact ih r2 i v (by simpa using e)
theorem aT2 (bs:List Bool):(List.range bs.length).all (fun i=>bs.getD i false) = bs.all id:=by
 rw [Bool.eq_iff_iff,List.all_eq_true,List.all_eq_true]
 constructor
 ·intro h b hb
  obtain ⟨i,hi,e⟩:=List.getElem_of_mem hb
  have:=h i (by simpa using hi)
  simpa [List.getD,hi,e] using this
 ·intro h i hi
  have hi':i < bs.length:=by simpa using hi
  have:=h bs[i] (List.getElem_mem hi')
  simpa [List.getD,hi'] using this
theorem aR5 (bs:List Bool):(List.range bs.length).any (fun i=>bs.getD i false) = bs.any id:=by
 rw [Bool.eq_iff_iff,List.any_eq_true,List.any_eq_true]
 constructor
 ·rintro ⟨i,hi,e⟩
  have hi':i < bs.length:=by simpa using hi
  exact ⟨bs[i],List.getElem_mem hi',by simpa [List.getD,hi'] using e⟩
 ·rintro ⟨b,hb,e⟩
  obtain ⟨i,hi,z⟩:=List.getElem_of_mem hb
  exact ⟨i,by simpa using hi,by simpa [List.getD,hi,z] using e⟩
theorem ak3 (hc:X.calm = true):y4 X (.builtin "all") (fun xs H Q=>∃ (p:Addr) (bs:List Bool),xs = [.ref p] ∧ SqL X.K H p (bs.map V.bl) ∧ Q (.bl (bs.all id)) H):=by
 intro pins s σ H xs us Q I r h
 obtain ⟨p,bs,rfl,hq,q⟩:=h
 obtain ⟨u,rfl,rx⟩:=J5 r
 cases rx
 obtain ⟨its,r',pl,hz⟩:=I.list hq
 have hlen:its.length = bs.length:=by rw [← r'.length,List.length_map]
 obtain ⟨o,n,ho,_⟩:=id pl
 have hne:p ≠ s.heap.objs.size:=Nat.ne_of_lt (Heap.lt_size ho)
 refine call_all_walk (wpAny_pyIter_list pl.isList ?_)
 refine ⟨s.heap.objs.size,_,_,its.toArray.size,_,_,fun i=>bs.getD i false,rfl,Walks.list (A:=X.A.in1) (I.ok.hd hc) s.heap.objs.size p hne its.toArray,⟨⟨_,Heap.get?_push_size _ rfl,rfl,rfl⟩,pl.isList.at fun o e=>Heap.get?_push_of_some _ e⟩,fun i v s' Q' E' e hQ=>?_,fun h' tk kk=>?_⟩
 ·rw [ay9 r' i v (by simpa using e)]
  exact wpAny_truthy_bool hQ
 ·have kp:∀ b o,s.heap.get? b = some o → h'.get? b = some o:=fun b o e=>kk b o (by simpa using Nat.ne_of_lt (Heap.lt_size e)) (Heap.get?_push_of_some _ e)
  rw [List.size_toArray,hlen,aT2]
  exact ⟨.bl (bs.all id),H,I.kept kp,rfl,q⟩
theorem ai3 (hc:X.calm = true):y4 X (.builtin "any") (fun xs H Q=>∃ (p:Addr) (bs:List Bool),xs = [.ref p] ∧ SqL X.K H p (bs.map V.bl) ∧ Q (.bl (bs.any id)) H):=by
 intro pins s σ H xs us Q I r h
 obtain ⟨p,bs,rfl,hq,q⟩:=h
 obtain ⟨u,rfl,rx⟩:=J5 r
 cases rx
 obtain ⟨its,r',pl,hz⟩:=I.list hq
 have hlen:its.length = bs.length:=by rw [← r'.length,List.length_map]
 obtain ⟨o,n,ho,_⟩:=id pl
 have hne:p ≠ s.heap.objs.size:=Nat.ne_of_lt (Heap.lt_size ho)
 refine call_any_walk (wpAny_pyIter_list pl.isList ?_)
 refine ⟨s.heap.objs.size,_,_,its.toArray.size,_,_,fun i=>bs.getD i false,rfl,Walks.list (A:=X.A.in1) (I.ok.hd hc) s.heap.objs.size p hne its.toArray,⟨⟨_,Heap.get?_push_size _ rfl,rfl,rfl⟩,pl.isList.at fun o e=>Heap.get?_push_of_some _ e⟩,fun i v s' Q' E' e hQ=>?_,fun h' tk kk=>?_⟩
 ·rw [ay9 r' i v (by simpa using e)]
  exact wpAny_truthy_bool hQ
 ·have kp:∀ b o,s.heap.get? b = some o → h'.get? b = some o:=fun b o e=>kk b o (by simpa using Nat.ne_of_lt (Heap.lt_size e)) (Heap.get?_push_of_some _ e)
  rw [List.size_toArray,hlen,aR5]
  exact ⟨.bl (bs.any id),H,I.kept kp,rfl,q⟩
theorem a74 (ns ms:List Int) (h:ns.length = ms.length):((List.range ns.length).all fun j=>ns.getD j 0 == ms.getD j 0) = decide (ns = ms):=by
 rw [Bool.eq_iff_iff,List.all_eq_true,decide_eq_true_iff]
 constructor
 ·intro q
  apply List.ext_getElem h
  intro i h1 h2
  have:=q i (by simpa using h1)
  simpa [List.getD,h1,h2] using this
 ·rintro rfl i hi
  simp
theorem aR3 {A:Around} {s:Shared} {us vs:List Value} {ns ms:List Int} (h:IntsAre us ns) (h':IntsAre vs ms):∀ j (h1:j < us.toArray.size) (h2:j < vs.toArray.size),SeqAt.EqAt A s us.toArray[j] vs.toArray[j] (ns.getD j 0 == ms.getD j 0):=fun j h1 h2=>by
 obtain ⟨t,e⟩:=aM6 h j us.toArray[j] (by simp)
 obtain ⟨t',e'⟩:=aM6 h' j vs.toArray[j] (by simp)
 rw [e,e']
 exact SeqAt.EqAt.int_int _ _ _ _
theorem bb1 (hu:X.A.units < cLine):OpR X (compareOp .Eq) (fun x y H Q=>∃ (a b:Addr) (ns ms:List Int),x = .ref a ∧ y = .ref b ∧ SqL X.K H a (ns.map V.int) ∧ SqL X.K H b (ms.map V.int) ∧ Q (.bl (decide (ns = ms))) H):=by
 intro pins s σ H x y v u Q I rx ry h
 obtain ⟨a,b,ns,ms,rfl,rfl,ha,hb,q⟩:=h
 cases rx
 cases ry
 obtain ⟨its,r1,p1,_⟩:=I.list ha
 obtain ⟨its2,r2,p2,_⟩:=I.list hb
 have i1:IntsAre its ns:=K0 r1
 have i2:IntsAre its2 ms:=K0 r2
 have l1:=i1.length
 have l2:=i2.length
 by_cases hl:ns.length = ms.length
 ·refine SeqAt.RcAt.lists (e:=fun j=>ns.getD j 0 == ms.getD j 0) p1.isList p2.isList (by simp only [List.size_toArray]; lia) hu (aR3 i1 i2) X.prog X.w X.xe _ ?_
  rw [List.size_toArray,l1,a74 ns ms hl]
  exact ⟨.bl _,H,I,rfl,q⟩
 ·refine SeqAt.RcAt.lists_lengths p1.isList p2.isList (by simp only [List.size_toArray]; simpa using (by lia:its.length ≠ its2.length)) hu X.prog X.w X.xe _ ?_
  have e:decide (ns = ms) = false:=decide_eq_false (fun z=>hl (by rw [z]))
  rw [e] at q
  exact ⟨.bl false,H,I,rfl,q⟩
end
end L2
namespace L2
open PySem PySem.Spec PyProof.Rows
def J4 (b:Bool) (h:Heap) (l:Addr) (xs:Array Value):Prop:=match b with
 | true=>h.IsTuple l xs
 | false=>h.IsList l xs
def D9 (b:Bool) (h:Heap) (i l:Addr) (k:Nat):Prop:=match b with
 | true=>h.IsTupleIter i l k
 | false=>h.IsListIter i l k
theorem J4.kept {b:Bool} {h h':Heap} {l:Addr} {xs:Array Value} (x:J4 b h l xs) (k:∀ o,h.get? l = some o → h'.get? l = some o):J4 b h' l xs:=by
 cases b with
 | true=>obtain ⟨o,e,r⟩:=(show h.IsTuple l xs from x); exact ⟨o,k o e,r⟩
 | false=>obtain ⟨o,e,r⟩:=(show h.IsList l xs from x); exact ⟨o,k o e,r⟩
theorem D9.kept {b:Bool} {h h':Heap} {i l:Addr} {n:Nat} (x:D9 b h i l n) (k:∀ o,h.get? i = some o → h'.get? i = some o):D9 b h' i l n:=by
 cases b with
 | true=>obtain ⟨o,e,r⟩:=(show h.IsTupleIter i l n from x); exact ⟨o,k o e,r⟩
 | false=>obtain ⟨o,e,r⟩:=(show h.IsListIter i l n from x); exact ⟨o,k o e,r⟩
theorem D9.there {b:Bool} {h:Heap} {i l:Addr} {n:Nat} (x:D9 b h i l n):∃ o,h.get? i = some o ∧ ∀ v,o.data ≠ .cell v:=by
 cases b with
 | true=>obtain ⟨o,e,c,d⟩:=(show h.IsTupleIter i l n from x); exact ⟨o,e,fun v z=>by rw [d] at z; cases z⟩
 | false=>obtain ⟨o,e,c,d⟩:=(show h.IsListIter i l n from x); exact ⟨o,e,fun v z=>by rw [d] at z; cases z⟩
section
variable {prog:Program} {w:World} {A:Around} {E:Value → Shared → Prop} {s:Shared}
theorem bc3 {it t:Addr} {i:Nat} {items:Array Value} {x:Value} {Q:Value → Shared → Prop} (hit:s.heap.IsTupleIter it t i) (ht:s.heap.IsTuple t items) (hx:items[i]? = some x)
  (hQ:∀ h',h'.IsTupleIter it t (i + 1) → Heap.SameBut it s.heap h' → Q x { s with heap:=h' }):wpAny (model prog w) A (Builtin.SmallTypes.nextOf (.ref it)) Q E s:=by
 obtain ⟨oi,gi,ci,di⟩:=id hit
 obtain ⟨ot,gt,_,nt,dt⟩:=ht
 unfold Builtin.SmallTypes.nextOf
 refine wpAny_bind (wpAny_callSpecial?_slot (name:=Str.ofString "__next__") hit.typeIs F.slot_tuple_iterator_next (wpAny_call_entry F.slot_tuple_iterator_next hit.typeIs F.entry_tuple_iterator_next ?_ (F.args_tuple_iterator_next_1 _)))
 show wpAny _ _ (field (.ref it) 0 >>= _) _ _ s
 refine wpAny_bind (wpAny_field gi di (x:=.ref t) rfl ?_)
 show wpAny _ _ (if (Value.ref t == Value.none) = true then _ else _) _ _ s
 rw [if_neg (show ¬ ((Value.ref t == Value.none) = true) from Bool.false_ne_true)]
 show wpAny _ _ (field (.ref it) 1 >>= _) _ _ s
 refine wpAny_bind (wpAny_field gi di (x:=.int i 0) rfl ?_)
 show wpAny _ _ (seqItems? (.ref t) >>= _) _ _ s
 refine wpAny_bind (wpAny_seqItems gt dt ?_)
 simp only [Int.toNat_natCast,hx]
 refine wpAny_bind (wpAny_setField gi di (by simp) (wpAny_pure ⟨x,rfl,wpAny_pure (hQ _ ?_ (Heap.SameBut.update ..))⟩))
 exact ⟨_,Heap.get?_update_self _ gi (Obj.isFreed_of_fields (Obj.data_mapFields di _)),(Obj.cls_mapFields ..).trans ci,by rw [Obj.data_mapFields di]; simp [rawInt]⟩
theorem bb2 {it t:Addr} {i:Nat} {items:Array Value} {Q:Value → Shared → Prop} (hh:A.handled = none) (hit:s.heap.IsTupleIter it t i) (ht:s.heap.IsTuple t items) (hx:items[i]? = none)
  (hE:∀ h' e,Heap.ExtBut it s.heap h' → (∃ o,h'.get? e = some o ∧ o.cls = .type "StopIteration") → E (.ref e) { s with heap:=h' }):wpAny (model prog w) A (Builtin.SmallTypes.nextOf (.ref it)) Q E s:=by
 obtain ⟨oi,gi,ci,di⟩:=id hit
 obtain ⟨ot,gt,_,nt,dt⟩:=ht
 unfold Builtin.SmallTypes.nextOf
 refine wpAny_bind (wpAny_callSpecial?_slot (name:=Str.ofString "__next__") hit.typeIs F.slot_tuple_iterator_next (wpAny_call_entry F.slot_tuple_iterator_next hit.typeIs F.entry_tuple_iterator_next ?_ (F.args_tuple_iterator_next_1 _)))
 show wpAny _ _ (field (.ref it) 0 >>= _) _ _ s
 refine wpAny_bind (wpAny_field gi di (x:=.ref t) rfl ?_)
 show wpAny _ _ (if (Value.ref t == Value.none) = true then _ else _) _ _ s
 rw [if_neg (show ¬ ((Value.ref t == Value.none) = true) from Bool.false_ne_true)]
 show wpAny _ _ (field (.ref it) 1 >>= _) _ _ s
 refine wpAny_bind (wpAny_field gi di (x:=.int i 0) rfl ?_)
 show wpAny _ _ (seqItems? (.ref t) >>= _) _ _ s
 refine wpAny_bind (wpAny_seqItems gt dt ?_)
 simp only [Int.toNat_natCast,hx]
 refine wpAny_bind (wpAny_rule (wpAny_bind (wpAny_setField gi di (by simp) ?_)))
 show wpAny _ _ (newExc (.type "StopIteration") [] >>= _) _ _ _
 refine wpAny_bind ?_
 simp only [newExc,newTuple]
 refine wpAny_bind (wpAny_newObj_type ?_ (by size_fits))
 refine wpAny_bind (m:=firstArgMember _ _) (wpAny_of_eq (a:=Value.none) (by first | rfl | (simp only [firstArgMember]; rfl)) ?_)
 refine wpAny_newObj_type ?_ (by size_fits)
 simp only [raiseNew]
 refine wpAny_bind (wpAny_handled ?_)
 first | rw [show A.in1.handled = none from hh] | rw [hh]
 refine wpAny_bind (wpAny_pure (wpAny_throw ?_))
 exact hE _ _ (((Heap.SameBut.update ..).extBut.push _).push _) ⟨_,Heap.get?_push_size _ rfl,rfl⟩
theorem av2 {b:Bool} {it l:Addr} {i:Nat} {items:Array Value} {x:Value} {Q:Value → Shared → Prop} (hit:D9 b s.heap it l i) (hl:J4 b s.heap l items) (hx:items[i]? = some x)
  (hQ:∀ h',D9 b h' it l (i + 1) → Heap.SameBut it s.heap h' → Q x { s with heap:=h' }):wpAny (model prog w) A (Builtin.SmallTypes.nextOf (.ref it)) Q E s:=by
 cases b with
 | true=>exact bc3 hit hl hx hQ
 | false=>exact wpAny_nextOf_list_item hit hl hx hQ
theorem aN3 {b:Bool} {it l:Addr} {i:Nat} {items:Array Value} {Q:Value → Shared → Prop} (hh:A.handled = none) (hit:D9 b s.heap it l i) (hl:J4 b s.heap l items) (hx:items[i]? = none)
  (hE:∀ h' e,Heap.ExtBut it s.heap h' → (∃ o,h'.get? e = some o ∧ o.cls = .type "StopIteration") → E (.ref e) { s with heap:=h' }):wpAny (model prog w) A (Builtin.SmallTypes.nextOf (.ref it)) Q E s:=by
 cases b with
 | true=>exact bb2 hh hit hl hx hE
 | false=>exact wpAny_nextOf_list_end hh hit hl hx hE
structure ZAp (z t o i j l m:Addr):Prop where
 tz:t ≠ z
 oz:o ≠ z
 iz:i ≠ z
 jz:j ≠ z
 ot:o ≠ t
 it:i ≠ t
 jt:j ≠ t
 io:i ≠ o
 jo:j ≠ o
 ij:i ≠ j
 lz:l ≠ z
 lo:l ≠ o
 li:l ≠ i
 lj:l ≠ j
 mz:m ≠ z
 mo:m ≠ o
 mi:m ≠ i
 mj:m ≠ j
theorem ba3 {b:Bool} {z t o i j l m:Addr} {n:Nat} {xs ys:Array Value} {x y c d:Value} {Q:Option Value → Shared → Prop} (D:ZAp z t o i j l m) (hz:IsZip s.heap z t o .none) (ht:IsPair s.heap t (.ref i) (.ref j)) (ho:IsPair s.heap o c d)
  (hi:D9 b s.heap i l n) (hj:D9 b s.heap j m n) (hl:J4 b s.heap l xs) (hm:J4 b s.heap m ys) (hx:xs[n]? = some x) (hy:ys[n]? = some y)
  (hQ:∀ h',IsZip h' z t o (rawInt s.heap.objs.size) → IsPair h' o x y → D9 b h' i l (n + 1) → D9 b h' j m (n + 1) → IsPair h' s.heap.objs.size x y → h'.objs.size = s.heap.objs.size + 1 →
   (∀ a u,a ≠ z → a ≠ o → a ≠ i → a ≠ j → s.heap.get? a = some u → h'.get? a = some u) → Q (some (.ref s.heap.objs.size)) { s with heap:=h' }):wpAny (model prog w) A (pyNext (.ref z)) Q E s:=by
 have hT:s.TypeIs (.ref z) "zip":=⟨_,hz,rfl⟩
 unfold pyNext
 refine wpAny_bind (wpAny_attempt (wpAny_callSpecial?_slot (name:=Str.ofString "__next__") hT F.slot_zip_next (wpAny_call_entry F.slot_zip_next hT F.entry_zip_next ?_ (F.args_zip_next_1 _))))
 show wpAny _ _ (field (.ref z) 2 >>= _) _ _ _
 refine wpAny_bind (wpAny_field hz rfl (x:=.bool false) rfl ?_)
 show wpAny _ _ (field (.ref z) 3 >>= _) _ _ _
 refine wpAny_bind (wpAny_field hz rfl (x:=.ref t) rfl ?_)
 refine wpAny_bind (wpAny_seqItems ht rfl ?_)
 show wpAny _ _ (Builtin.SmallTypes.ownedTupleIsFree (.ref z) >>= _) _ _ _
 refine wpAny_bind ?_
 unfold Builtin.SmallTypes.ownedTupleIsFree
 refine wpAny_bind (wpAny_field hz rfl (x:=.none) rfl (wpAny_pure ?_))
 simp only [if_true]
 refine wpAny_bind (wpAny_rule ?_)
 refine wpAny_bind (wpAny_field hz rfl (x:=.ref o) rfl ?_)
 refine wpAny_bind (wpAny_setField_rec hz (by simp) fun h1 z1 s1=>?_)
 replace z1:IsZip h1 z t o .ellipsis:=z1
 refine wpAny_bind ?_
 simp only [List.zipIdx_cons,List.zipIdx_nil,List.forIn_cons,List.forIn_nil]
 refine wpAny_bind (wpAny_bind (wpAny_onRaise ?_))
 show wpAny _ _ (Builtin.SmallTypes.nextOf (.ref i) >>= _) _ _ _
 refine wpAny_bind (av2 (s:={ s with heap:=h1 }) (hi.kept fun u e=>s1.extBut _ u D.iz e) (hl.kept fun u e=>s1.extBut _ u D.lz e) hx fun h2 i2 s2=>wpAny_pure ?_)
 have o2:IsPair h2 o c d:=s2.extBut _ _ (Ne.symm D.io) (s1.extBut _ _ D.oz ho)
 refine wpAny_bind (wpAny_seqItems o2 rfl ?_)
 refine wpAny_bind (wpAny_updateSeq_pair o2 fun h3 o3 s3=>?_)
 replace o3:IsPair h3 o x d:=o3
 refine wpAny_bind (wpAny_letGo (wpAny_pure ?_))
 refine wpAny_bind (wpAny_bind (wpAny_onRaise ?_))
 show wpAny _ _ (Builtin.SmallTypes.nextOf (.ref j) >>= _) _ _ _
 refine wpAny_bind (av2 (s:={ s with heap:=h3 }) (hj.kept fun u e=>s3.extBut _ u D.jo (s2.extBut _ u (Ne.symm D.ij) (s1.extBut _ u D.jz e))) (hm.kept fun u e=>s3.extBut _ u D.mo (s2.extBut _ u D.mi (s1.extBut _ u D.mz e))) hy fun h4 j4 s4=>wpAny_pure ?_)
 have o4:IsPair h4 o x d:=s4.extBut _ _ (Ne.symm D.jo) o3
 refine wpAny_bind (wpAny_seqItems o4 rfl ?_)
 refine wpAny_bind (wpAny_updateSeq_pair o4 fun h5 o5 s5=>?_)
 replace o5:IsPair h5 o x y:=o5
 refine wpAny_bind (wpAny_letGo (wpAny_pure (wpAny_pure ?_)))
 refine wpAny_bind (wpAny_seqItems o5 rfl ?_)
 refine wpAny_bind (wpAny_newTuple ?_)
 have hsz:h5.objs.size = s.heap.objs.size:=by rw [s5.1,s4.1,s3.1,s2.1,s1.1]
 have z5:IsZip h5 z t o .ellipsis:=s5.extBut _ _ (Ne.symm D.oz) (s4.extBut _ _ (Ne.symm D.jz) (s3.extBut _ _ (Ne.symm D.oz) (s2.extBut _ _ (Ne.symm D.iz) z1)))
 have k5:∀ a u,a ≠ z → a ≠ o → a ≠ i → a ≠ j → s.heap.get? a = some u → h5.get? a = some u:=fun a u a1 a2 a3 a4 e=>s5.extBut _ _ a2 (s4.extBut _ _ a4 (s3.extBut _ _ a2 (s2.extBut _ _ a3 (s1.extBut _ _ a1 e))))
 have i5:D9 b h5 i l (n + 1):=i2.kept fun u e=>s5.extBut _ u D.io (s4.extBut _ u D.ij (s3.extBut _ u D.io e))
 have j5:D9 b h5 j m (n + 1):=j4.kept fun u e=>s5.extBut _ u D.jo e
 have hzlt:z < h5.objs.size:=Heap.lt_size z5
 show wpAny _ _ (Builtin.SmallTypes.ownedTupleHandOut (.ref z) (.ref h5.objs.size) >>= _) _ _ _
 refine wpAny_bind ?_
 unfold Builtin.SmallTypes.ownedTupleHandOut
 have z6:IsZip (h5.push { cls:=.type "tuple",data:=.seq #[x,y] }) z t o .ellipsis:=Heap.get?_push_of_some _ z5
 refine wpAny_bind (wpAny_setField_rec z6 (by simp) fun h7 z7 s7=>?_)
 replace z7:IsZip h7 z t o (rawInt h5.objs.size):=z7
 refine wpAny_setField_rec z7 (by simp) fun h8 z8 s8=>?_
 replace z8:IsZip h8 z t o (rawInt h5.objs.size):=z8
 have up:∀ a u,a ≠ z → h5.get? a = some u → h8.get? a = some u:=fun a u a1 e=>s8.extBut _ _ a1 (s7.extBut _ _ a1 (Heap.get?_push_of_some _ e))
 have t8:IsPair h8 h5.objs.size x y:=s8.extBut _ _ (Nat.ne_of_gt hzlt) (s7.extBut _ _ (Nat.ne_of_gt hzlt) (Heap.get?_push_size _ rfl))
 have n8:h8.objs.size = h5.objs.size + 1:=by rw [s8.1,s7.1,Heap.size_push]
 rw [hsz] at z8 t8 n8
 refine wpAny_pure ⟨_,rfl,wpAny_pure ?_⟩
 show Q (some (.ref h5.objs.size)) _
 rw [hsz]
 exact hQ h8 z8 (up _ _ D.oz o5) (i5.kept fun u e=>up _ u D.iz e) (j5.kept fun u e=>up _ u D.jz e) t8 n8 fun a u a1 a2 a3 a4 e=>up a u a1 (k5 a u a1 a2 a3 a4 e)
theorem ba0 {b:Bool} {z t o i j l m:Addr} {n:Nat} {xs ys:Array Value} {c d:Value} {Q:Option Value → Shared → Prop} (hh:A.handled = none) (D:ZAp z t o i j l m) (hz:IsZip s.heap z t o .none) (ht:IsPair s.heap t (.ref i) (.ref j)) (ho:IsPair s.heap o c d)
  (hi:D9 b s.heap i l n) (hj:D9 b s.heap j m n) (hl:J4 b s.heap l xs) (hm:J4 b s.heap m ys) (hend:xs[n]? = none ∨ ys[n]? = none)
  (hQ:∀ h',(∀ a u,a ≠ z → a ≠ o → a ≠ i → a ≠ j → s.heap.get? a = some u → h'.get? a = some u) → Q none { s with heap:=h' }):wpAny (model prog w) A (pyNext (.ref z)) Q E s:=by
 have hT:s.TypeIs (.ref z) "zip":=⟨_,hz,rfl⟩
 unfold pyNext
 have fin:∀ (h':Heap) (e:Addr),(∀ a u,a ≠ z → a ≠ o → a ≠ i → a ≠ j → s.heap.get? a = some u → h'.get? a = some u) → (∃ u,h'.get? e = some u ∧ u.cls = .type "StopIteration") →
   wpAny (model prog w) A (do if ← isInstance (.ref e) (.type "StopIteration") then pure none else throw (.ref e)) Q E { s with heap:=h' }:=fun h' e kk ⟨u,hu,hc⟩=>by
  refine wpAny_bind (wpAny_isInstance (T:="StopIteration") (b:=true) ⟨u,hu,hc⟩ isSubtype_stop ?_)
  exact wpAny_pure (hQ _ kk)
 refine wpAny_bind (wpAny_attempt (wpAny_callSpecial?_slot (name:=Str.ofString "__next__") hT F.slot_zip_next (wpAny_call_entry F.slot_zip_next hT F.entry_zip_next ?_ (F.args_zip_next_1 _))))
 show wpAny _ _ (field (.ref z) 2 >>= _) _ _ _
 refine wpAny_bind (wpAny_field hz rfl (x:=.bool false) rfl ?_)
 show wpAny _ _ (field (.ref z) 3 >>= _) _ _ _
 refine wpAny_bind (wpAny_field hz rfl (x:=.ref t) rfl ?_)
 refine wpAny_bind (wpAny_seqItems ht rfl ?_)
 show wpAny _ _ (Builtin.SmallTypes.ownedTupleIsFree (.ref z) >>= _) _ _ _
 refine wpAny_bind ?_
 unfold Builtin.SmallTypes.ownedTupleIsFree
 refine wpAny_bind (wpAny_field hz rfl (x:=.none) rfl (wpAny_pure ?_))
 simp only [if_true]
 refine wpAny_bind (wpAny_rule ?_)
 refine wpAny_bind (wpAny_field hz rfl (x:=.ref o) rfl ?_)
 refine wpAny_bind (wpAny_setField_rec hz (by simp) fun h1 z1 s1=>?_)
 replace z1:IsZip h1 z t o .ellipsis:=z1
 refine wpAny_bind ?_
 simp only [List.zipIdx_cons,List.zipIdx_nil,List.forIn_cons,List.forIn_nil]
 refine wpAny_bind (wpAny_bind (wpAny_onRaise ?_))
 show wpAny _ _ (Builtin.SmallTypes.nextOf (.ref i) >>= _) _ _ _
 cases hx:xs[n]? with
 | none =>
  refine wpAny_bind (aN3 (s:={ s with heap:=h1 }) hh (hi.kept fun u e=>s1.extBut _ u D.iz e) (hl.kept fun u e=>s1.extBut _ u D.lz e) hx fun h2 e s2 he=>?_)
  obtain ⟨oe,hoe,hce⟩:=he
  have z2:IsZip h2 z t o .ellipsis:=s2 _ _ (Ne.symm D.iz) z1
  have hez:e ≠ z:=fun q=>by subst q; rw [z2] at hoe; cases hoe; simp at hce
  refine wpAny_setField_rec z2 (by simp) fun h3 _ s3=>?_
  exact fin h3 e (fun a u a1 _ a3 _ q=>s3.extBut _ _ a1 (s2 _ _ a3 (s1.extBut _ _ a1 q))) ⟨oe,s3.extBut _ _ hez hoe,hce⟩
 | some x =>
  have hy:ys[n]? = none:=by
   rcases hend with q | q
   ·rw [hx] at q; cases q
   ·exact q
  refine wpAny_bind (av2 (s:={ s with heap:=h1 }) (hi.kept fun u e=>s1.extBut _ u D.iz e) (hl.kept fun u e=>s1.extBut _ u D.lz e) hx fun h2 i2 s2=>wpAny_pure ?_)
  have o2:IsPair h2 o c d:=s2.extBut _ _ (Ne.symm D.io) (s1.extBut _ _ D.oz ho)
  refine wpAny_bind (wpAny_seqItems o2 rfl ?_)
  refine wpAny_bind (wpAny_updateSeq_pair o2 fun h3 o3 s3=>?_)
  refine wpAny_bind (wpAny_letGo (wpAny_pure ?_))
  refine wpAny_bind (wpAny_bind (wpAny_onRaise ?_))
  show wpAny _ _ (Builtin.SmallTypes.nextOf (.ref j) >>= _) _ _ _
  refine wpAny_bind (aN3 (s:={ s with heap:=h3 }) hh (hj.kept fun u e=>s3.extBut _ u D.jo (s2.extBut _ u (Ne.symm D.ij) (s1.extBut _ u D.jz e))) (hm.kept fun u e=>s3.extBut _ u D.mo (s2.extBut _ u D.mi (s1.extBut _ u D.mz e))) hy fun h4 e s4 he=>?_)
  obtain ⟨oe,hoe,hce⟩:=he
  have z4:IsZip h4 z t o .ellipsis:=s4 _ _ (Ne.symm D.jz) (s3.extBut _ _ (Ne.symm D.oz) (s2.extBut _ _ (Ne.symm D.iz) z1))
  have hez:e ≠ z:=fun q=>by subst q; rw [z4] at hoe; cases hoe; simp at hce
  refine wpAny_setField_rec z4 (by simp) fun h5 _ s5=>?_
  exact fin h5 e (fun a u a1 a2 a3 a4 q=>s5.extBut _ _ a1 (s4 _ _ a4 (s3.extBut _ _ a2 (s2.extBut _ _ a3 (s1.extBut _ _ a1 q))))) ⟨oe,s5.extBut _ _ hez hoe,hce⟩
end
section
variable {prog:Program} {w:World} {A:Around} {E:Value → Shared → Prop} {s:Shared}
abbrev U8 (b:Bool) (l:Addr):Obj:={ cls:=.type (if b then "tuple_iterator" else "list_iterator"),data:=.fields #[.ref l,.int 0 0] }
theorem ah5 {b:Bool} {l:Addr} {items:Array Value} {Q:Value → Shared → Prop} (hl:J4 b s.heap l items) (hQ:Q (.ref s.heap.objs.size) { s with heap:=s.heap.push (U8 b l) }):wpAny (model prog w) A (pyIter (.ref l)) Q E s:=by
 cases b with
 | true=>exact wpAny_pyIter_tuple hl hQ
 | false=>exact wpAny_pyIter_list hl hQ
abbrev zH1 (b:Bool) (h:Heap) (l:Addr):Heap:=h.push (U8 b l)
abbrev zH2 (b:Bool) (h:Heap) (l m:Addr):Heap:=(zH1 b h l).push (U8 b m)
abbrev zH3 (b:Bool) (h:Heap) (l m:Addr):Heap:=(zH2 b h l m).push { cls:=.type "tuple",data:=.seq #[.ref h.objs.size,.ref (zH1 b h l).objs.size] }
abbrev zH4 (b:Bool) (h:Heap) (l m:Addr):Heap:=(zH3 b h l m).push { cls:=.type "tuple",data:=.seq #[.none,.none] }
abbrev zH5 (b:Bool) (h:Heap) (l m:Addr):Heap:=(zH4 b h l m).push { cls:=.type "zip",data:=.fields #[.none,.bool false,.bool false,.ref (zH2 b h l m).objs.size,.ref (zH3 b h l m).objs.size] }
theorem aX4 (b:Bool) (l m:Addr) (xs ys:Array Value):Meets (Builtin.«zip.__new__» ⟨[.type "zip",.ref l,.ref m],[]⟩) (fun _ R s=>J4 b s.heap l xs ∧ J4 b s.heap m ys ∧ R (.ok (.ret (.ref (zH4 b s.heap l m).objs.size))) { s with heap:=zH5 b s.heap l m }) :=
 .of_wp fun prog w A R s h=>by
  obtain ⟨hp,g,d,tk,os⟩:=s; obtain ⟨hl,hm,h⟩:=h
  have hsub:=sub_zip
  have hL:J4 b (Shared.heap ⟨hp,g,d,tk,os⟩) l xs:=hl
  have hM:J4 b (Shared.heap ⟨hp.push (U8 b l),g,d,tk,os⟩) m ys:=hm.kept fun o e=>Heap.get?_push_of_some _ e
  wp_walk using ah5 hL,ah5 hM
  exact ⟨_,rfl,h⟩
theorem am1 {b:Bool} {l m:Addr} {xs ys:Array Value} {Q:Value → Shared → Prop} (hl:J4 b s.heap l xs) (hm:J4 b s.heap m ys)
  (h:∀ h',IsZip h' (s.heap.objs.size + 4) (s.heap.objs.size + 2) (s.heap.objs.size + 3) .none → IsPair h' (s.heap.objs.size + 2) (.ref s.heap.objs.size) (.ref (s.heap.objs.size + 1)) → IsPair h' (s.heap.objs.size + 3) .none .none →
   D9 b h' s.heap.objs.size l 0 → D9 b h' (s.heap.objs.size + 1) m 0 → (∀ c o,s.heap.get? c = some o → h'.get? c = some o) → Q (.ref (s.heap.objs.size + 4)) { s with heap:=h' }) :
  wpAny (model prog w) A (call (.type "zip") [.ref l,.ref m]) Q E s:=by
 refine callType_new F.called_zip (by decide) (F.typeCall_zip_2 _ _) (F.newCall_zip_2 _ _) (fun obj=>F.args_object_init_3 obj _ _) F.entry_zip_new (aX4 b l m xs ys) ⟨hl,hm,?_⟩
 have z1:(zH1 b s.heap l).objs.size = s.heap.objs.size + 1:=Heap.size_push ..
 have z2:(zH2 b s.heap l m).objs.size = s.heap.objs.size + 2:=by rw [Heap.size_push,z1]
 have z3:(zH3 b s.heap l m).objs.size = s.heap.objs.size + 3:=by rw [Heap.size_push,z2]
 have z4:(zH4 b s.heap l m).objs.size = s.heap.objs.size + 4:=by rw [Heap.size_push,z3]
 have g5:(zH5 b s.heap l m).get? (zH4 b s.heap l m).objs.size = some _:=Heap.get?_push_size _ rfl
 have g4:(zH5 b s.heap l m).get? (zH3 b s.heap l m).objs.size = some _:=Heap.get?_push_of_some _ (Heap.get?_push_size _ rfl)
 have g3:(zH5 b s.heap l m).get? (zH2 b s.heap l m).objs.size = some _:=Heap.get?_push_of_some _ (Heap.get?_push_of_some _ (Heap.get?_push_size _ rfl))
 have g2:(zH5 b s.heap l m).get? (zH1 b s.heap l).objs.size = some (U8 b m):=Heap.get?_push_of_some _ (Heap.get?_push_of_some _ (Heap.get?_push_of_some _ (Heap.get?_push_size _ rfl)))
 have g1:(zH5 b s.heap l m).get? s.heap.objs.size = some (U8 b l):=Heap.get?_push_of_some _ (Heap.get?_push_of_some _ (Heap.get?_push_of_some _ (Heap.get?_push_of_some _ (Heap.get?_push_size _ rfl))))
 show _ ∧ _
 rw [z2,z3,z4] at g5
 rw [z1,z2] at g3
 rw [z3] at g4
 rw [z1] at g2
 rw [z4]
 have r1:D9 b (zH5 b s.heap l m) s.heap.objs.size l 0:=by cases b <;> exact ⟨_,g1,rfl,rfl⟩
 have r2:D9 b (zH5 b s.heap l m) (s.heap.objs.size + 1) m 0:=by cases b <;> exact ⟨_,g2,rfl,rfl⟩
 exact ⟨⟨_,g5,rfl⟩,h _ g5 g3 g4 r1 r2 fun c o x=>Heap.get?_push_of_some _ (Heap.get?_push_of_some _ (Heap.get?_push_of_some _ (Heap.get?_push_of_some _ (Heap.get?_push_of_some _ x))))⟩
end
def Sq (b:Bool) (K:PySem.W.Frag) (H:Hp) (a:Addr) (xs:List V):Prop:=match b with
 | true=>SqT K H a xs
 | false=>SqL K H a xs
section
variable {X:Cx} {pins:List (Addr × Obj)} {σ:St} {H:Hp} {s:Shared} {b:Bool} {a:Addr} {xs ys:List V}
theorem Inv.row (I:Inv X pins σ H s) (h:Sq b X.K H a xs):∃ its:List Value,r6 xs its ∧ J4 b s.heap a its.toArray ∧ xs.length ≤ sizeLine:=by
 cases b with
 | true =>
  obtain ⟨its,r,p,z⟩:=I.tuple h
  exact ⟨its,r,p,z⟩
 | false =>
  obtain ⟨its,r,p,z⟩:=I.list h
  exact ⟨its,r,p.isList,z⟩
theorem Inv.row_inj (I:Inv X pins σ H s) (h:Sq b X.K H a xs) (h':Sq b X.K H a ys):xs = ys:=by
 cases b with
 | true=>exact I.tuple_inj h h'
 | false=>exact I.list_inj h h'
end
theorem Sq.there {b:Bool} {h:Heap} {l:Addr} {xs:Array Value} (x:J4 b h l xs):l < h.objs.size:=by
 cases b with
 | true=>obtain ⟨o,e,_⟩:=(show h.IsTuple l xs from x); exact Heap.lt_size e
 | false=>obtain ⟨o,e,_⟩:=(show h.IsList l xs from x); exact Heap.lt_size e
def Itz (b:Bool) (K:PySem.W.Frag) (l m:Addr):It :=
  ⟨fun i H=>∃ xs ys x y,Sq b K H l xs ∧ Sq b K H m ys ∧ xs[i]? = some x ∧ ys[i]? = some y,
   fun i H v H'=>∃ p x y,H p = none ∧ v = .ref p ∧ H' = upd H p (.tup [x,y]) ∧ (∀ xs,Sq b K H l xs → xs[i]? = some x) ∧ ∀ ys,Sq b K H m ys → ys[i]? = some y,
   fun i H=>∃ xs ys,Sq b K H l xs ∧ Sq b K H m ys ∧ (xs.length ≤ i ∨ ys.length ≤ i)⟩
theorem aZ1 {P:Program} {w:World} {K:PySem.W.Frag} {es:List Expr} {kk:Nat} {pos:Pos} {b:Bool} {z t o i j l m:Addr} (D:ZAp z t o i j l m) :
  Turn P w K (.Tuple es kk pos) (Itz b K l m) [z,t,o,i,j] z (fun n h=>IsZip h z t o .none ∧ IsPair h t (.ref i) (.ref j) ∧ (∃ c d,IsPair h o c d) ∧ D9 b h i l n ∧ D9 b h j m n) where
 mem:=by simp
 obj:=fun n h ⟨hz,ht,⟨c,d,ho⟩,hi,hj⟩ a ha=>by
  simp only [List.mem_cons,List.not_mem_nil,or_false] at ha
  rcases ha with rfl | rfl | rfl | rfl | rfl
  ·exact ⟨_,hz,fun v q=>nomatch q⟩
  ·exact ⟨_,ht,fun v q=>nomatch q⟩
  ·exact ⟨_,ho,fun v q=>nomatch q⟩
  ·exact hi.there
  ·exact hj.there
 keep:=fun n h h' ⟨hz,ht,⟨c,d,ho⟩,hi,hj⟩ k=>⟨k z (by simp) _ hz,k t (by simp) _ ht,⟨c,d,k o (by simp) _ ho⟩,hi.kept fun u e=>k i (by simp) u e,hj.kept fun u e=>k j (by simp) u e⟩
 item:=by
  intro X hP hw hK hc n pins s σ H E I hf ⟨hz,ht,⟨c,d,ho⟩,hi,hj⟩ hg
  subst hP hw hK
  obtain ⟨xs,ys,x,y,hl,hm,hx,hy⟩:=hg
  obtain ⟨us,ru,hl',hzl⟩:=I.row hl
  obtain ⟨vs,rv,hm',hzm⟩:=I.row hm
  obtain ⟨u,hu,r1⟩:=ru.get hx
  obtain ⟨v,hv,r2⟩:=rv.get hy
  refine ba3 D hz ht ho hi hj hl' hm' (x:=u) (y:=v) (by simpa using hu) (by simpa using hv) fun h' z' o' i' j' t' n' kp=>⟨_,rfl,?_⟩
  refine wpAny_letOwnedTupleGo_zip (s:={ s with heap:=h' }) z' fun h'' z'' sb=>?_
  have fresh:H s.heap.objs.size = none:=I.hok.fresh (Nat.le_refl _)
  have kp2:∀ a q,a ≠ z → a ≠ o → a ≠ i → a ≠ j → s.heap.get? a = some q → h''.get? a = some q:=fun a q a1 a2 a3 a4 e=>sb.extBut _ _ a1 (kp a q a1 a2 a3 a4 e)
  have hT:s.heap.objs.size ≠ z:=Nat.ne_of_gt (Heap.lt_size hz)
  have pT:IsPair h'' s.heap.objs.size u v:=sb.extBut _ _ hT t'
  have notin:∀ a,a ∉ [z,o,i,j] → a ≠ z ∧ a ≠ o ∧ a ≠ i ∧ a ≠ j:=fun a ha=>by simpa using ha
  have fpn:∀ a ∈ [z,o,i,j],H a = none:=fun a ha=>by
   simp only [List.mem_cons,List.not_mem_nil,or_false] at ha
   rcases ha with rfl | rfl | rfl | rfl
   ·exact (hf _ (by simp)).1
   ·exact (hf _ (by simp)).1
   ·exact (hf _ (by simp)).1
   ·exact (hf _ (by simp)).1
  have trk:∀ a q,H a = some q → a ∉ [z,o,i,j]:=fun a q e ha=>by rw [fpn a ha] at e; cases e
  have hok:HOk X.prog X.w (upd H s.heap.objs.size (.tup [x,y])) h'':=fun a q e=>by
   by_cases ha:a = s.heap.objs.size
   ·subst ha
    rw [d6] at e
    cases e
    exact ⟨by show 2 ≤ sizeLine; decide,[u,v],.cons r1 (.cons r2 .nil),⟨_,pT,rfl,_,rfl⟩⟩
   ·rw [n5 ha] at e
    refine (I.hok a q e).stay (fun a' q' h1 h2=>?_) (fun a' q'=>by rw [n5 (q9 q' fresh)]; exact q') fun a' xs' q'=>by rw [n5 (q9 q' fresh)]; exact q'
    have ni:a' ∉ [z,o,i,j]:=by
     rcases h1 with rfl | h1
     ·exact trk _ _ e
     ·exact trk _ _ h1
    obtain ⟨n1,n2,n3,n4⟩:=notin a' ni
    exact kp2 a' q' n1 n2 n3 n4 h2
  have J:Inv X pins σ (upd H s.heap.objs.size (.tup [x,y])) { s with heap:=h'' }:=by
   refine I.step (g':=s.gens) (d':=s.drawn) (t':=s.toks) (ch:=[z,o,i,j]) (fun a ha=>?_) (fun a q _ _ hc' e _=>?_) (fun a q _ _ hc' e _=>?_) (fun a q _ e n2=>?_) (fun a q hc' e=>?_) (fun a xs' e=>?_) (fun a q u' e=>?_) (fun a ps e=>?_) (fun m' hm''=>?_) hok I.bare
   ·have ha':a ∈ [z,t,o,i,j]:=by
     simp only [List.mem_cons,List.not_mem_nil,or_false] at ha ⊢
     rcases ha with q | q | q | q
     ·exact .inl q
     ·exact .inr (.inr (.inl q))
     ·exact .inr (.inr (.inr (.inl q)))
     ·exact .inr (.inr (.inr (.inr q)))
    obtain ⟨_,f1,_,f3,f4,f5⟩:=hf a ha'
    exact ⟨f3,f1,f4,f5⟩
   ·obtain ⟨n1,n2,n3,n4⟩:=notin a hc'
    exact kp2 a q n1 n2 n3 n4 e
   ·obtain ⟨n1,n2,n3,n4⟩:=notin a hc'
    exact ⟨q.slots,kp2 a q n1 n2 n3 n4 e⟩
   ·rw [n5 (Nat.ne_of_lt (Heap.lt_size e))]
    exact n2
   ·obtain ⟨n1,n2,n3,n4⟩:=notin a hc'
    exact ⟨q,kp2 a q n1 n2 n3 n4 e⟩
   ·rw [n5 (q9 e fresh)]
    exact e
   ·rw [n5 (q9 e fresh)]
    exact e
   ·exact ⟨#[],by rw [n5 (q9 e fresh),e]; simp⟩
   ·obtain ⟨ob,es',ep,e1,r⟩:=hm''
    have f1:∀ a' ∈ [z,t,o,i,j],a' ≠ X.env.locals:=fun a' ha'=>(hf a' ha').2.1
    exact ⟨ob,es',ep,kp2 _ _ (Ne.symm (f1 z (by simp))) (Ne.symm (f1 o (by simp))) (Ne.symm (f1 i (by simp))) (Ne.symm (f1 j (by simp))) e1,r⟩
  refine ⟨.ref s.heap.objs.size,_,J,rfl,⟨s.heap.objs.size,x,y,fresh,rfl,rfl,fun xs' q=>?_,fun ys' q=>?_⟩,⟨z'',?_,⟨_,_,sb.extBut _ _ D.oz o'⟩,i'.kept fun q e=>sb.extBut _ q D.iz e,j'.kept fun q e=>sb.extBut _ q D.jz e⟩,fun a ha=>?_⟩
  ·rw [I.row_inj q hl]; exact hx
  ·rw [I.row_inj q hm]; exact hy
  ·exact kp2 t _ D.tz (Ne.symm D.ot) (Ne.symm D.it) (Ne.symm D.jt) ht
  ·have:a ≠ s.heap.objs.size:=by
    simp only [List.mem_cons,List.not_mem_nil,or_false] at ha
    rcases ha with rfl | rfl | rfl | rfl | rfl
    ·exact Ne.symm hT
    ·exact Nat.ne_of_lt (Heap.lt_size ht)
    ·exact Nat.ne_of_lt (Heap.lt_size ho)
    ·obtain ⟨q,e,_⟩:=hi.there; exact Nat.ne_of_lt (Heap.lt_size e)
    ·obtain ⟨q,e,_⟩:=hj.there; exact Nat.ne_of_lt (Heap.lt_size e)
   rw [n5 this]
   exact (hf a ha).1
 done:=by
  intro X hP hw hK hc n pins s σ H E I hf ⟨hz,ht,⟨c,d,ho⟩,hi,hj⟩ hg
  subst hP hw hK
  obtain ⟨xs,ys,hl,hm,hend⟩:=hg
  obtain ⟨us,ru,hl',hzl⟩:=I.row hl
  obtain ⟨vs,rv,hm',hzm⟩:=I.row hm
  have e1:=ru.length
  have e2:=rv.length
  have hend':us.toArray[n]? = none ∨ vs.toArray[n]? = none:=by
   rcases hend with q | q
   ·exact .inl (by simp; lia)
   ·exact .inr (by simp; lia)
  refine ba0 (I.ok.hd hc) D hz ht ho hi hj hl' hm' hend' fun h' kp=>⟨rfl,?_⟩
  have notin:∀ a,a ∉ [z,o,i,j] → a ≠ z ∧ a ≠ o ∧ a ≠ i ∧ a ≠ j:=fun a ha=>by simpa using ha
  have fpn:∀ a ∈ [z,o,i,j],af6 X pins H a:=fun a ha=>hf a (by
   simp only [List.mem_cons,List.not_mem_nil,or_false] at ha ⊢
   rcases ha with q | q | q | q
   ·exact .inl q
   ·exact .inr (.inr (.inl q))
   ·exact .inr (.inr (.inr (.inl q)))
   ·exact .inr (.inr (.inr (.inr q))))
  have trk:∀ a q,H a = some q → a ∉ [z,o,i,j]:=fun a q e ha=>by rw [(fpn a ha).1] at e; cases e
  have kp2:∀ a q,a ∉ [z,o,i,j] → s.heap.get? a = some q → h'.get? a = some q:=fun a q ha e=>by
   obtain ⟨n1,n2,n3,n4⟩:=notin a ha
   exact kp a q n1 n2 n3 n4 e
  refine I.step (g':=s.gens) (d':=s.drawn) (t':=s.toks) (ch:=[z,o,i,j]) (fun a ha=>?_) (fun a q _ _ hc' e _=>kp2 a q hc' e) (fun a q _ _ hc' e _=>⟨q.slots,kp2 a q hc' e⟩) (fun a q _ e n2=>n2) (fun a q hc' e=>⟨q,kp2 a q hc' e⟩) (fun a xs' e=>e) (fun a q u' e=>e) (fun a ps e=>⟨#[],by rw [e]; simp⟩) (fun m' hm''=>?_) (fun a q e=>?_) I.bare
  ·obtain ⟨_,f1,_,f3,f4,f5⟩:=fpn a ha
   exact ⟨f3,f1,f4,f5⟩
  ·obtain ⟨ob,es',ep,e1,r⟩:=hm''
   exact ⟨ob,es',ep,kp2 _ _ (fun ha=>(fpn _ ha).2.1 rfl) e1,r⟩
  ·refine (I.hok a q e).stay (fun a' q' h1 h2=>kp2 a' q' ?_ h2) (fun _ q'=>q') fun _ _ q'=>q'
   rcases h1 with rfl | h1
   ·exact trk _ _ e
   ·exact trk _ _ h1
 self:=fun _ _ _ _ _ st h=>wpAny_pyIter_zip st.1 h
section
variable {X:Cx}
def bm4 (b:Bool) (K:PySem.W.Frag) (ta:TA):TI:=fun σ H R=>ta σ H fun vs H1=>∃ l m xs ys,vs = [.ref l,.ref m] ∧ Sq b K H1 l xs ∧ Sq b K H1 m ys ∧ R (Itz b K l m) H1
theorem bj0 {b:Bool} {es:List Expr} {kk:Nat} {tpos:Pos} {e1 e2:Expr} {ta:TA} {p pos:Pos} (hg:Gl X "zip") (hm:X.mg "zip" = none) (ha:PA X [e1,e2] ta) (hs:starEach [e1,e2] X.env = [(false,eval e1 X.env),(false,eval e2 X.env)]:=by rfl) (hs2:starEach [e2] X.env = [(false,eval e2 X.env)]:=by rfl) :
  PI X (.Tuple es kk tpos) (.Call (.Name "zip" p) [e1,e2] [] pos) (bm4 b X.K ta):=by
 intro pins s σ H R I h
 refine Call_ (aa3 I hg hm boot_zip (PyProof.Rows.callWith_type1 (thn (ha pos pins s σ H _ I h) fun us s1 ⟨vs,H1,I1,r1,q1⟩=>?_) (by rw [hs,hs2]) (by rw [hs2]; rfl)))
 obtain ⟨l,m,xs,ys,e,hl,hm,q⟩:=q1
 subst e
 obtain ⟨u,u',rfl,ru,ru'⟩:=ac5 r1
 cases ru
 cases ru'
 obtain ⟨its,rv,hl',_⟩:=I1.row hl
 obtain ⟨its2,rv2,hm',_⟩:=I1.row hm
 refine am1 hl' hm' fun h' hz ht ho hi hj kp=>wpAny_pyIter_zip hz ?_
 have ll:=Sq.there hl'
 have lm:=Sq.there hm'
 have N:∀ n,l ≠ s1.heap.objs.size + n:=fun n=>Nat.ne_of_lt (Nat.lt_of_lt_of_le ll (Nat.le_add_right _ n))
 have M:∀ n,m ≠ s1.heap.objs.size + n:=fun n=>Nat.ne_of_lt (Nat.lt_of_lt_of_le lm (Nat.le_add_right _ n))
 have L:∀ n k,n < k → s1.heap.objs.size + n ≠ s1.heap.objs.size + k:=fun n k q=>Nat.ne_of_lt (Nat.add_lt_add_left q _)
 have G:∀ n k,k < n → s1.heap.objs.size + n ≠ s1.heap.objs.size + k:=fun n k q=>Nat.ne_of_gt (Nat.add_lt_add_left q _)
 have D:ZAp (s1.heap.objs.size + 4) (s1.heap.objs.size + 2) (s1.heap.objs.size + 3) s1.heap.objs.size (s1.heap.objs.size + 1) l m :=
  ⟨L 2 4 (by decide),L 3 4 (by decide),L 0 4 (by decide),L 1 4 (by decide),G 3 2 (by decide),L 0 2 (by decide),L 1 2 (by decide),L 0 3 (by decide),L 1 3 (by decide),L 0 1 (by decide),N 4,N 3,N 0,N 1,M 4,M 3,M 0,M 1⟩
 have fr:∀ n,af6 X pins H1 (s1.heap.objs.size + n):=fun n=>I1.fpOk (Nat.le_add_right _ n) (I1.hok.fresh (Nat.le_add_right _ n))
 refine ⟨s1.heap.objs.size + 4,[s1.heap.objs.size + 4,s1.heap.objs.size + 2,s1.heap.objs.size + 3,s1.heap.objs.size,s1.heap.objs.size + 1],_,_,H1,rfl,I1.kept (t':=s1.toks) kp,aZ1 (b:=b) D,⟨hz,ht,⟨_,_,ho⟩,hi,hj⟩,fun a ha=>?_,q⟩
 simp only [List.mem_cons,List.not_mem_nil,or_false] at ha
 rcases ha with rfl | rfl | rfl | rfl | rfl
 ·exact fr 4
 ·exact fr 2
 ·exact fr 3
 ·exact fr 0
 ·exact fr 1
end
theorem aY1 {b:Bool} {K:PySem.W.Frag} {l m:Addr} {xs ys:List V} {g:TG} {tt:TT} {te:TE} {σ₀:St} {H:Hp} {Q:VK} (Pv:Nat → List V → St → Hp → Prop) (h0:Pv 0 [] σ₀ H) (hz:xs.length ≤ sizeLine) (hn:∀ i acc σ H,Pv i acc σ H → acc.length ≤ i)
  (hl:∀ i acc σ H,i ≤ xs.length → i ≤ ys.length → Pv i acc σ H → Sq b K H l xs ∧ Sq b K H m ys)
  (hs:∀ i x y acc σ H p,xs[i]? = some x → ys[i]? = some y → Pv i acc σ H → H p = none → g (.ref p) σ (upd H p (.tup [x,y])) fun σ2 H2=>tt σ2 H2 fun ok H3=>if ok = true then te σ2 H3 fun z H4=>Pv (i + 1) (acc ++ [z]) σ2 H4 else Pv (i + 1) acc σ2 H3)
  (hd:∀ acc σ H,Pv (min xs.length ys.length) acc σ H → ∀ p,H p = none → Q (.ref p) (upd H p (.lst acc))) :
  aa1 (Itz b K l m) g tt te Q σ₀ H:=by
 refine ⟨fun i n acc σ H=>n = min xs.length ys.length - i ∧ i ≤ min xs.length ys.length ∧ Pv i acc σ H,⟨min xs.length ys.length,by simp,Nat.zero_le _,h0⟩,?_⟩
 rintro i n acc σ H ⟨rfl,hi,p⟩
 obtain ⟨q1,q2⟩:=hl i acc σ H (by lia) (by lia) p
 have hlen:=hn i acc σ H p
 by_cases hlt:i < min xs.length ys.length
 ·have h1:i < xs.length:=by lia
  have h2:i < ys.length:=by lia
  refine .inr ⟨⟨xs,ys,xs[i],ys[i],q1,q2,by simp [h1],by simp [h2]⟩,by lia,Pv (i + 1),fun acc' σ' H' p'=>⟨min xs.length ys.length - (i + 1),by lia,rfl,hlt,p'⟩,fun v H' y=>?_⟩
  obtain ⟨a,x,y,fr,rfl,rfl,k1,k2⟩:=y
  exact hs i x y acc σ H a (k1 xs q1) (k2 ys q2) p fr
 ·have e:i = min xs.length ys.length:=by lia
  subst e
  refine .inl ⟨⟨xs,ys,q1,q2,?_⟩,by lia,hd acc σ H p⟩
  lia
end L2
namespace L2
open PySem
theorem a71 (xs:Array Nat) (j:Nat) (mono:xs.toList.Pairwise (· < ·)):∀ fuel lo hi,hi - lo ≤ fuel → lo ≤ hi → hi ≤ xs.size → (∀ i,i < lo → xs.getD i j < j) → (∀ i,hi ≤ i → i < xs.size → j ≤ xs.getD i j) →
  SetTable.below.go xs j fuel lo hi ≤ xs.size ∧ (∀ i,i < SetTable.below.go xs j fuel lo hi → xs.getD i j < j) ∧ ∀ i,SetTable.below.go xs j fuel lo hi ≤ i → i < xs.size → j ≤ xs.getD i j:=by
 have le:∀ a b,a ≤ b → b < xs.size → xs.getD a j ≤ xs.getD b j:=fun a b h hb=>by
  rcases Nat.lt_or_eq_of_le h with h | h
  ·have:=List.pairwise_iff_getElem.mp mono a b (by simp; lia) (by simpa using hb) h
   simp only [Array.getElem_toList] at this
   simp only [Array.getD_eq_getD_getElem?,Array.getElem?_eq_getElem hb,Array.getElem?_eq_getElem (show a < xs.size by lia),Option.getD_some]
   lia
  ·rw [h]; exact Nat.le_refl _
 intro fuel
 induction fuel with
 | zero =>
  intro lo hi h1 h2 h3 h4 h5
  have e:lo = hi:=by lia
  subst e
  exact ⟨h3,h4,h5⟩
 | succ fuel ih =>
  intro lo hi h1 h2 h3 h4 h5
  unfold SetTable.below.go
  by_cases hl:lo < hi
  ·rw [if_pos hl]
   dsimp only
   by_cases hm:xs.getD ((lo + hi) / 2) j < j
   ·rw [if_pos hm]
    refine ih _ _ (by lia) (by lia) h3 (fun i hi'=>?_) h5
    exact Nat.lt_of_le_of_lt (le i ((lo + hi) / 2) (by lia) (by lia)) hm
   ·rw [if_neg hm]
    refine ih _ _ (by lia) (by lia) (by lia) h4 (fun i hi' hs=>?_)
    exact Nat.le_trans (by lia) (le ((lo + hi) / 2) i hi' hs)
  ·rw [if_neg hl]
   have e:lo = hi:=by lia
   subst e
   exact ⟨h3,h4,h5⟩
theorem Q0 (xs:Array Nat) (j:Nat) (mono:xs.toList.Pairwise (· < ·)):SetTable.below xs j ≤ xs.size ∧ (∀ i,i < SetTable.below xs j → xs.getD i j < j) ∧ ∀ i,SetTable.below xs j ≤ i → i < xs.size → j ≤ xs.getD i j :=
 a71 xs j mono xs.size 0 xs.size (by lia) (by lia) (Nat.le_refl _) (fun i h=>absurd h (by lia)) (fun i h h'=>absurd h' (by lia))
theorem X7 (xs:Array Nat) (j:Nat) (mono:xs.toList.Pairwise (· < ·)) (hn:xs[SetTable.below xs j]? ≠ some j):(SetTable.insertAt xs (SetTable.below xs j) j).toList.Pairwise (· < ·):=by
 obtain ⟨h1,h2,h3⟩:=Q0 xs j mono
 have e:(SetTable.insertAt xs (SetTable.below xs j) j).toList = xs.toList.take (SetTable.below xs j) ++ j :: xs.toList.drop (SetTable.below xs j):=by
  simp [SetTable.insertAt,List.extract_eq_take_drop,List.take_of_length_le]
 rw [e]
 generalize hp:SetTable.below xs j = p at *
 have gt:∀ i,p ≤ i → (h:i < xs.size) → j < xs[i]:=fun i hi h=>by
  have q:=h3 i hi h
  rw [Array.getD_eq_getD_getElem?,Array.getElem?_eq_getElem h,Option.getD_some] at q
  rcases Nat.lt_or_eq_of_le q with q | q
  ·exact q
  ·exfalso
   have hps:p < xs.size:=by lia
   have q2:=h3 p (Nat.le_refl _) hps
   rw [Array.getD_eq_getD_getElem?,Array.getElem?_eq_getElem hps,Option.getD_some] at q2
   rcases Nat.lt_or_eq_of_le hi with z | z
   ·have:=List.pairwise_iff_getElem.mp mono p i (by simpa using hps) (by simpa using h) z
    simp only [Array.getElem_toList] at this
    lia
   ·subst z
    exact hn (by rw [Array.getElem?_eq_getElem h,← q])
 rw [List.pairwise_append,List.pairwise_cons]
 refine ⟨mono.sublist (List.take_sublist _ _),⟨fun a ha=>?_,mono.sublist (List.drop_sublist _ _)⟩,fun a ha b hb=>?_⟩
 ·obtain ⟨i,hi,rfl⟩:=List.getElem_of_mem ha
  rw [List.getElem_drop]
  rw [List.length_drop,Array.length_toList] at hi
  have:=gt (p + i) (by lia) (by lia)
  simpa using this
 ·obtain ⟨i,hi,rfl⟩:=List.getElem_of_mem ha
  rw [List.length_take,Array.length_toList] at hi
  have q:=h2 i (by lia)
  rw [Array.getD_eq_getD_getElem?,Array.getElem?_eq_getElem (by lia),Option.getD_some] at q
  rw [List.getElem_take]
  rw [Array.getElem_toList]
  rcases List.mem_cons.mp hb with rfl | hb
  ·exact q
  ·obtain ⟨k,hk,rfl⟩:=List.getElem_of_mem hb
   rw [List.getElem_drop]
   rw [List.length_drop,Array.length_toList] at hk
   have:=gt (p + k) (by lia) (by lia)
   rw [Array.getElem_toList]
   lia
structure JT (L:Bool) (t:SetTable):Prop where
 led:t.led = L
 dum:t.dummies = #[]
 mono:t.place.toList.Pairwise (· < ·)
theorem au7 (j:Nat):SetTable.has #[] j = false:=by simp [SetTable.has]
theorem W2 (t:SetTable) (j:Nat) (h:t.dummies = #[]):(t.slot j = .empty ∧ t.place[SetTable.below t.place j]? ≠ some j) ∨ ∃ i,t.slot j = .live i:=by
 unfold SetTable.slot
 rw [h,au7]
 dsimp only
 by_cases e:(t.place[SetTable.below t.place j]? == some j) = true
 ·rw [if_pos e]; exact .inr ⟨_,rfl⟩
 ·rw [if_neg e]
  refine .inl ⟨by simp,fun q=>e ?_⟩
  rw [q]; simp
theorem az5 (t:SetTable) (hd:t.dummies = #[]) (f:Nat → Int) (h:Int):∀ (fuel:Nat) (p:SetTable.Probe) (j:Nat) (d:Option Nat),p.dummy = none → SetTable.probe.go t f h fuel p = some (.empty j d) →
  d = none ∧ t.place[SetTable.below t.place j]? ≠ some j:=by
 intro fuel
 induction fuel with
 | zero=>intro p j d _ e; simp [SetTable.probe.go] at e
 | succ fuel ih =>
  intro p j d hp e
  unfold SetTable.probe.go at e
  rcases W2 t p.j hd with ⟨q,q2⟩ | ⟨i,q⟩
  ·rw [q] at e
   injection e with e
   injection e with e1 e2
   subst e1
   exact ⟨e2 ▸ hp,q2⟩
  ·rw [q] at e
   dsimp only at e
   have ha:(t.advance p).dummy = none:=by
    unfold SetTable.advance
    split
    ·exact hp
    ·exact hp
   split at e
   ·cases e
   ·exact ih _ j d ha e
theorem O7 {L:Bool} {t:SetTable} (n:Nat) (h:JT L t):JT L (t.standIn n) where
 led:=h.led
 dum:=rfl
 mono:=by
  show (Array.range n).toList.Pairwise (· < ·)
  rw [Array.toList_range]
  exact List.pairwise_lt_range
theorem aV6 {L:Bool} {t:SetTable} (es:Array (Int × Value)) (h:Int) (x:Value) (J:JT L t):JT L (layNew t es h x).2.1:=by
 unfold layNew
 cases q:t.freeSlot h with
 | none=>exact O7 _ J
 | some r =>
  obtain ⟨slot,wasDummy⟩:=r
  dsimp only
  have hs:t.place[SetTable.below t.place slot]? ≠ some slot:=by
   unfold SetTable.freeSlot at q
   cases e:t.probe (fun _=>h + 1) h (t.probeStart h) with
   | none=>rw [e] at q; cases q
   | some m =>
    rw [e] at q
    cases m with
    | candidate _ _ _=>cases q
    | empty j d =>
     obtain ⟨rfl,z⟩:=az5 t J.dum _ h _ _ j d rfl e
     have q1:=Option.some.inj q
     injection q1 with q2 _
     subst q2
     exact z
  have Jp:JT L (t.put slot).1:=by
   refine ⟨J.led,?_,X7 t.place slot J.mono hs⟩
   show (if SetTable.has t.dummies slot = true then _ else t.dummies) = #[]
   rw [J.dum,au7]
   rfl
  unfold SetTable.orStandIn
  split
  ·exact Jp
  ·exact O7 _ Jp
theorem bc7 {L:Bool} {mask finger moves:Nat} {plain:Bool} {hs:Array Int} {t:SetTable} {o:Array Nat} (h:SetTable.laid mask finger moves L plain hs = some (t,o)):JT L t:=by
 unfold SetTable.laid at h
 cases q:SetTable.layClean mask hs with
 | none=>rw [q] at h; cases h
 | some owner =>
  rw [q] at h
  have e:=Option.some.inj h
  injection e with e1 _
  subst e1
  refine ⟨rfl,rfl,?_⟩
  show (List.map (fun x=>x.1) ((List.range (mask + 1)).filterMap fun j=>(owner.getD j none).map (j,·))).toArray.toList.Pairwise (· < ·)
  have:∀ l:List Nat,List.Sublist (List.map (fun x:Nat × Nat=>x.1) (l.filterMap fun j=>(owner.getD j none).map (j,·))) l:=by
   intro l
   induction l with
   | nil=>exact List.Sublist.refl _
   | cons a r ih =>
    rw [List.filterMap_cons]
    cases (owner.getD a none) with
    | none=>exact ih.cons _
    | some k=>exact ih.cons₂ _
  exact (List.pairwise_lt_range (n:=mask + 1)).sublist (by simpa using this (List.range (mask + 1)))
theorem aD0 {L:Bool} {t:SetTable} (es:Array (Int × Value)) (wanted:Nat) (J:JT L t):JT L (relayAll t es wanted).2.1:=by
 unfold relayAll
 cases q:t.relaid (es.map (·.1)) wanted with
 | none=>exact O7 _ J
 | some r =>
  obtain ⟨t',order⟩:=r
  dsimp only
  split
  ·unfold SetTable.relaid at q
   rw [J.led] at q
   exact bc7 q
  ·exact O7 _ J
theorem at0 {L:Bool} {t:SetTable} (J:JT L t):JT L { t with plain:=false }:=⟨J.led,J.dum,J.mono⟩
theorem aI9 {xs:Array Nat} (mono:xs.toList.Pairwise (· < ·)) (k:Nat) (hk:k < xs.size):SetTable.below xs (xs[k] + 1) = k + 1:=by
 obtain ⟨h1,h2,h3⟩:=Q0 xs (xs[k] + 1) mono
 have q1:¬ SetTable.below xs (xs[k] + 1) ≤ k:=fun q=>by
  have:=h3 k q hk
  rw [Array.getD_eq_getD_getElem?,Array.getElem?_eq_getElem hk,Option.getD_some] at this
  lia
 have q2:¬ k + 1 < SetTable.below xs (xs[k] + 1):=fun q=>by
  have hk1:k + 1 < xs.size:=by lia
  have:=h2 (k + 1) q
  rw [Array.getD_eq_getD_getElem?,Array.getElem?_eq_getElem hk1,Option.getD_some] at this
  have z:=List.pairwise_iff_getElem.mp mono k (k + 1) (by simpa using hk) (by simpa using hk1) (by lia)
  simp only [Array.getElem_toList] at z
  lia
 lia
theorem aF5 {xs:Array Nat} (mono:xs.toList.Pairwise (· < ·)):SetTable.below xs 0 = 0:=by
 obtain ⟨h1,h2,h3⟩:=Q0 xs 0 mono
 rcases Nat.eq_zero_or_pos (SetTable.below xs 0) with h | h
 ·exact h
 ·exact absurd (h2 0 h) (by lia)
theorem W3 {α:Type}:∀ (l:List α) (i:Nat) (h:i < l.length),List.Perm (l[i] :: l.eraseIdx i) l
 | a :: l,0,_=>List.Perm.refl _
 | a :: l,i + 1,h=>(List.Perm.swap _ _ _).trans ((W3 l i (by simpa using h)).cons a)
theorem ak5 {α:Type} (next:Nat → Nat) (xs:Array α):List.Perm (pickOrder next xs).toList xs.toList:=by
 have go:∀ (fuel k:Nat) (left:List α) (out:Array α),left.length = fuel → List.Perm (pickOrder.go next fuel k left out).toList (out.toList ++ left):=by
  intro fuel
  induction fuel with
  | zero =>
   intro k left out h
   have e:left = []:=List.eq_nil_of_length_eq_zero h
   subst e
   simp [pickOrder.go]
  | succ fuel ih =>
   intro k left out h
   unfold pickOrder.go
   have hlt:next k % left.length < left.length:=Nat.mod_lt _ (by lia)
   rw [List.getElem?_eq_getElem hlt]
   dsimp only
   refine (ih (k + 1) _ _ (by rw [List.length_eraseIdx_of_lt hlt]; lia)).trans ?_
   rw [Array.toList_push,List.append_assoc]
   exact List.Perm.append_left _ (W3 left _ hlt)
 exact (go xs.size 0 xs.toList #[] (by simp)).trans (by simp)
end L2
namespace L2
open PySem
section
variable {prog:Program} {w:World} {κ:Type} [DecidableEq κ]
def K5 (knd:KeyKind prog w κ) (h:Heap) (a:Addr) (S:κ → Bool) (n:Nat):Prop :=
 ∃ o es ep t,h.get? a = some o ∧ o.ExactSet ∧ o.data = .set es ep t ∧ (ElemsOf knd es.toList ∧ (∀ k,S k = true ↔ ∃ e ∈ es.toList,knd.is k e.2 = true) ∧ es.size < scanBound ∧ t.fits es.size = true ∧ es.size = n) ∧ JT (!w.params.followText "set-order") t
variable {knd:KeyKind prog w κ} {A:Around} {E:Value → Shared → Prop} {s:Shared}
theorem K5.of_get {h h':Heap} {a:Addr} {S:κ → Bool} {n:Nat} (x:K5 knd h a S n) (k:∀ o,h.get? a = some o → h'.get? a = some o):K5 knd h' a S n:=by
 obtain ⟨o,es,ep,t,e,r⟩:=x
 exact ⟨o,es,ep,t,k o e,r⟩
theorem K5.congr {h:Heap} {a:Addr} {S S':κ → Bool} {n n':Nat} (x:K5 knd h a S n) (e:∀ k,S k = S' k) (en:n = n'):K5 knd h a S' n':=by
 obtain rfl:S = S':=funext e
 subst en
 exact x
theorem K5.new (h:Heap) {l:Bool} (hl:l = !w.params.followText "set-order"):K5 knd (h.push { cls:=.type "set",dict:=none,data:=.set #[] 0 (.fresh 0 0 l) }) h.objs.size (fun _=>false) 0:=by
 refine ⟨_,#[],0,_,Heap.get?_push_size _ rfl,⟨rfl,rfl,rfl⟩,rfl,⟨fun e he=>absurd he (by simp),fun k=>by simp,by decide,by simp [SetTable.fits,SetTable.fresh,SetTable.fill],rfl⟩,hl,rfl,?_⟩
 exact List.Pairwise.nil
theorem K5.store {h:Heap} {a:Addr} {o:Obj} {es es':Array (Int × Value)} {ep:Nat} {t t':SetTable} {S:κ → Bool} (ho:h.get? a = some o) (hx:o.ExactSet) (hd:o.data = .set es ep t)
  (el:ElemsOf knd es'.toList) (mem:∀ k,S k = true ↔ ∃ e ∈ es'.toList,knd.is k e.2 = true) (hb:es'.size < scanBound) (hf:t'.fits es'.size = true) (J:JT (!w.params.followText "set-order") t') :
  (h.update a (Obj.putSet es' t')).get? a = some { o with data:=.set es' (ep + 1) t' } ∧ K5 knd (h.update a (Obj.putSet es' t')) a S es'.size:=by
 have g:(h.update a (Obj.putSet es' t')).get? a = some { o with data:=.set es' (ep + 1) t' }:=(SetOf_store (knd:=knd) (S':=S) ho hx hd el mem hb hf).1
 exact ⟨g,_,es',ep + 1,t',g,hx,rfl,⟨el,mem,hb,hf,rfl⟩,J⟩
theorem aW8 {g:Bool → Sem Unit} (hg:∀ (b:Bool) (s₁:Shared) (Q':Unit → Shared → Prop),Q' () s₁ → wpAny (model prog w) A (g b) Q' E s₁)
  {a:Addr} {o:Obj} {es es1:Array (Int × Value)} {ep:Nat} {t t2:SetTable} {S:κ → Bool} {wd:Bool} {R:Option Bool → Shared → Prop} (ho:s.heap.get? a = some o) (hx:o.ExactSet) (hd:o.data = .set es ep t)
  (el:ElemsOf knd es1.toList) (mem:∀ k,S k = true ↔ ∃ e ∈ es1.toList,knd.is k e.2 = true) (hb:es1.size < scanBound) (hf:t2.fits es1.size = true) (J:JT (!w.params.followText "set-order") t2)
  (fin:∀ h',Heap.SameBut a s.heap h' → K5 knd h' a S es1.size → R (some true) { s with heap:=h' }) :
  wpAny (model prog w) A (do
    storeSet a es1 t2
    if (!wd && t2.tooFull) = true then do
      g (relayAll t2 es1 (SetTable.grown es1.size)).2.2
      storeSet a (relayAll t2 es1 (SetTable.grown es1.size)).1 (relayAll t2 es1 (SetTable.grown es1.size)).2.1
      pure (some true)
     else pure (some true)) R E s:=by
 obtain ⟨g1,x1⟩:=K5.store (knd:=knd) ho hx hd el mem hb hf J
 have sb1:=Heap.SameBut.update s.heap a (Obj.putSet es1 t2)
 refine wpAny_bind (wpAny_storeSet_of ho hd ?_ (fits_of_scanBound hb))
 by_cases c:(!wd && t2.tooFull) = true
 ·rw [if_pos c]
  have pm:=relayAll_perm t2 es1 (SetTable.grown es1.size)
  have ft:=relayAll_fits t2 es1 (SetTable.grown es1.size)
  have J2:=aD0 (t:=t2) es1 (SetTable.grown es1.size) J
  generalize relayAll t2 es1 (SetTable.grown es1.size) = r at pm ft J2 ⊢
  obtain ⟨es2,t3,gave⟩:=r
  dsimp only at pm ft J2 ⊢
  have sz:es2.size = es1.size:=by simpa using pm.length_eq
  refine wpAny_bind (hg _ _ _ (wpAny_bind (wpAny_storeSet_of g1 rfl ?_ (by rw [sz]; exact fits_of_scanBound hb))))
  obtain ⟨_,x2⟩:=K5.store (knd:=knd) (S:=S) g1 hx rfl (el.perm pm) (fun k=>(mem k).trans ⟨fun ⟨e,he,q⟩=>⟨e,pm.mem_iff.mpr he,q⟩,fun ⟨e,he,q⟩=>⟨e,pm.mem_iff.mp he,q⟩⟩) (by rw [sz]; exact hb) ft J2
  rw [sz] at x2
  exact wpAny_pure (fin _ (sb1.trans (Heap.SameBut.update _ a _)) x2)
 ·rw [if_neg c]
  exact wpAny_pure (fin _ sb1 x1)
theorem bp5 {a:Addr} {S:κ → Bool} {n:Nat} {k:κ} {x:Value} {Q:Bool → Shared → Prop} (hk:knd.is k x = true) (hsc:x.scannable = true) (hS:K5 knd s.heap a S n) (room:n + 1 < scanBound)
  (fin:∀ h',Heap.SameBut a s.heap h' → K5 knd h' a (fun k'=>S k' || decide (k' = k)) (if S k then n else n + 1) → Q (!S k) { s with heap:=h' }) :
  wpAny (model prog w) A (setAddHashed a x (knd.hash k)) Q E s:=by
 obtain ⟨o,es,ep,t,ho,hx,hd,⟨el,mem,hb,hf,hn⟩,J⟩:=hS
 have quiet:∀ (b:Bool) (s₁:Shared) (Q':Unit → Shared → Prop),Q' () s₁ → wpAny (model prog w) A (match b with | true=>rule "set.scan.the-table-gave-way" | false=>pure ()) Q' E s₁:=fun b s₁ Q' z=>by
  cases b
  ·exact wpAny_pure z
  ·exact wpAny_rule z
 unfold setAddHashed setAddHashedIn
 refine wpAny_holding (wpAny_bind (wpAny_setState_of ho hd hf ?_))
 dsimp only
 rw [if_pos (byScan_of hsc hb el)]
 unfold setAddByScan
 refine wpAny_bind (wpAny_bind (wpAny_rule (wpAny_bind (wpAny_setScan_of hk ho hd hf el ?_))))
 cases found:List.findIdx? (fun e=>knd.is k e.2) es.toList with
 | some j =>
  obtain ⟨hj,pj,_⟩:=List.findIdx?_eq_some_iff_getElem.mp found
  have there:S k = true:=(mem k).mpr ⟨_,List.getElem_mem hj,pj⟩
  dsimp only
  refine wpAny_pure (wpAny_pure ?_)
  have z:=fin s.heap (Heap.SameBut.refl a s.heap) ⟨o,es,ep,t,ho,hx,hd,⟨el,fun k'=>?_,hb,hf,by rw [there]; exact hn⟩,J⟩
  ·rw [there] at z
   exact z
  ·rw [← mem k',Bool.or_eq_true,decide_eq_true_eq]
   exact ⟨fun q=>q.elim id fun e=>by rw [e]; exact there,.inl⟩
 | none =>
  have away:S k = false:=by
   cases q:S k with
   | false=>rfl
   | true =>
    obtain ⟨e,he,pe⟩:=(mem k).mp q
    exact absurd pe (by simpa using List.findIdx?_eq_none_iff.mp found e he)
  dsimp only
  have pm:=layNew_perm t es (knd.hash k) x
  have ft:=layNew_fits t es (knd.hash k) x
  have J1:=aV6 es (knd.hash k) x J
  generalize layNew t es (knd.hash k) x = r at pm ft J1 ⊢
  obtain ⟨es1,t1,wd,gave⟩:=r
  dsimp only at pm ft J1 ⊢
  rw [Array.toList_push] at pm
  have sz:es1.size = n + 1:=by
   have:=pm.length_eq
   rw [List.length_append] at this
   simp at this
   lia
  have last:∀ h',Heap.SameBut a s.heap h' → K5 knd h' a (fun k'=>S k' || decide (k' = k)) es1.size → Q true { s with heap:=h' }:=fun h' sb q=>by
   have z:=fin h' sb
   rw [away] at z
   rw [sz] at q
   exact z q
  have go:∀ t2:SetTable,t2.fits es1.size = true → JT (!w.params.followText "set-order") t2 → ∀ (R:Option Bool → Shared → Prop),(∀ h',Heap.SameBut a s.heap h' → K5 knd h' a (fun k'=>S k' || decide (k' = k)) es1.size → R (some true) { s with heap:=h' }) → wpAny (model prog w) A (do
    storeSet a es1 t2
    if (!wd && t2.tooFull) = true then do
      (match (relayAll t2 es1 (SetTable.grown es1.size)).2.2 with | true=>rule "set.scan.the-table-gave-way" | false=>pure ())
      storeSet a (relayAll t2 es1 (SetTable.grown es1.size)).1 (relayAll t2 es1 (SetTable.grown es1.size)).2.1
      pure (some true)
     else pure (some true)) R E s:=fun t2 f2 J2 R hR =>
   aW8 quiet ho hx hd ((el.push hk hsc).perm pm) (mem_push_iff hk mem pm) (by rw [sz]; exact room) f2 J2 hR
  refine wpAny_bind (quiet _ _ _ ?_)
  by_cases c:t1.plain = true
  ·rw [if_pos c]
   refine wpAny_bind ?_
   rw [hashByValue_scannable 8 hsc]
   refine wpAny_pure ?_
   refine go _ ?_ ?_ _ fun h' sb q=>wpAny_pure (last h' sb q)
   ·split
    ·exact ft
    ·exact SetTable.fits_plain_off ft
   ·split
    ·exact J1
    ·exact at0 J1
  ·rw [if_neg c]
   refine wpAny_bind (wpAny_pure ?_)
   rw [if_pos rfl]
   exact go _ ft J1 _ fun h' sb q=>wpAny_pure (last h' sb q)
end
end L2
namespace L2
open PySem
theorem r9:Slot "set_iterator" "__next__" "set_iterator.__next__" :=
 .of (owner:="set_iterator") (n:="__next__") (by rw [typeLookup_type,builtinLookup_eq_fast]; kernel_rfl)
  (by decide +kernel) (by decide +kernel) (by decide +kernel)
  (by first | exact .inl (by decide +kernel) | exact .inr (by decide +kernel)) (by rw [isSubtype_type]; kernel_rfl)
theorem Q2:Slot "set_iterator" "__iter__" "set_iterator.__iter__" :=
 .of (owner:="set_iterator") (n:="__iter__") (by rw [typeLookup_type,builtinLookup_eq_fast]; kernel_rfl)
  (by decide +kernel) (by decide +kernel) (by decide +kernel)
  (by first | exact .inl (by decide +kernel) | exact .inr (by decide +kernel)) (by rw [isSubtype_type]; kernel_rfl)
theorem D8:entryFor table "set_iterator.__next__" = some Builtin.«set_iterator.__next__»:=entryFor_of_fast (by kernel_rfl)
theorem aa8:entryFor table "set_iterator.__iter__" = some Builtin.«dict_keyiterator.__iter__» :=
 entryFor_alias (id':="dict_keyiterator.__iter__") (by kernel_rfl)
  (by first | rfl | decide +kernel | (unfold String.splitOn; simp +decide [String.splitOnAux])) (by decide +kernel) (by kernel_rfl)
theorem ad4:entryFor table "set.__iter__" = some Builtin.«frozenset.__iter__» :=
 entryFor_alias (id':="frozenset.__iter__") (by kernel_rfl)
  (by first | rfl | decide +kernel | (unfold String.splitOn; simp +decide [String.splitOnAux])) (by decide +kernel) (by kernel_rfl)
theorem E4 (a:Value):argsOk "set_iterator.__next__" ⟨[a],[]⟩:=by unfold argsOk; kernel_rfl
theorem ad5 (a:Value):argsOk "set_iterator.__iter__" ⟨[a],[]⟩:=by unfold argsOk; kernel_rfl
abbrev V3 (first:Value) (i:Nat) (a:Addr) (n ep:Nat):Obj:={ cls:=.type "set_iterator",dict:=none,data:=.fields #[first,.int i 0,.ref a,.int n 0,.int ep 0],slots:=#[] }
section
variable {prog:Program} {w:World} {A:Around} {E:Value → Shared → Prop} {s:Shared} {a I:Addr} {o:Obj} {es:Array (Int × Value)} {ep:Nat} {t:SetTable}
theorem ae1 {Q:Bool → Shared → Prop} (h:Q (w.params.followText "set-order") s):wpAny (model prog w) A setsByText Q E s:=wpAny_bind (wpAny_askSetting (wpAny_pure h))
theorem av4 {Q:Array (Int × Value) → Shared → Prop} (ht:w.params.followText "set-order" = true) (ho:s.heap.get? a = some o) (hd:o.data = .set es ep t) (hf:t.fits es.size = true)
  (h:Q (pickOrder (w.params.setOrder a ep) es) s):wpAny (model prog w) A (setWalk a) Q E s:=by
 unfold setWalk
 refine wpAny_bind (wpAny_setState_of ho hd hf ?_)
 dsimp only
 refine wpAny_bind (ae1 ?_)
 rw [ht]
 simp only [if_true]
 exact wpAny_bind (wpAny_askSetting (wpAny_pure h))
theorem au4 {sl k:Nat} {Q:Option (Value × Nat) → Shared → Prop} (ht:w.params.followText "set-order" = true) (ho:s.heap.get? a = some o) (hd:o.data = .set es ep t) (hf:t.fits es.size = true)
  (h:Q (((pickOrder (w.params.setOrder a ep) es)[k]?).map fun e=>(e.2,sl)) s):wpAny (model prog w) A (setNext a sl k ep) Q E s:=by
 unfold setNext
 refine wpAny_bind (wpAny_setState_of ho hd hf ?_)
 dsimp only
 refine wpAny_bind (ae1 ?_)
 rw [ht]
 simp only [if_true,bne_self_eq_false,Bool.false_eq_true,if_false]
 exact wpAny_bind (av4 ht ho hd hf (wpAny_pure h))
theorem al1 {sl k:Nat} {Q:Option (Value × Nat) → Shared → Prop} (ht:w.params.followText "set-order" = false) (ho:s.heap.get? a = some o) (hd:o.data = .set es ep t) (hf:t.fits es.size = true) (J:JT true t)
  (hp:(!t.plain && decide (es.size > 1)) = false) (hs:SetTable.below t.place sl = k)
  (h:Q (match es[k]?,t.place[k]? with | some (_,x),some j=>some (x,j + 1) | _,_=>none) s):wpAny (model prog w) A (setNext a sl k ep) Q E s:=by
 unfold setNext
 refine wpAny_bind (wpAny_setState_of ho hd hf ?_)
 dsimp only
 refine wpAny_bind (ae1 ?_)
 rw [ht]
 simp only [Bool.false_eq_true,if_false]
 show wpAny _ _ (if (!t.plain && decide (es.size > 1)) = true then unsupported _ else _) _ _ s
 rw [hp]
 simp only [Bool.false_eq_true,if_false]
 refine wpAny_bind ?_
 show wpAny _ _ (if (!t.led && !es.isEmpty) = true then unsupported _ else pure ()) _ _ s
 rw [J.led]
 simp only [Bool.not_true,Bool.false_and,Bool.false_eq_true,if_false]
 refine wpAny_pure ?_
 rw [hs]
 exact wpAny_pure h
theorem K3 {Q:Array (Int × Value) → Shared → Prop} (ho:s.heap.get? a = some o) (hd:o.data = .set es ep t) (hf:t.fits es.size = true) (h:Q es s):wpAny (model prog w) A (setEntries a) Q E s:=by
 unfold setEntries
 exact wpAny_bind (wpAny_setState_of ho hd hf (wpAny_pure h))
theorem aK9 {slot:Nat → Nat} {k n:Nat} {x:Value} {Q:Option Value → Shared → Prop} (hI:s.heap.get? I = some (V3 (.int (slot k:Nat) 0) k a n ep)) (ho:s.heap.get? a = some o) (hd:o.data = .set es ep t) (hf:t.fits es.size = true) (hn:es.size = n)
  (hnx:∀ (B:Around) (Q':Option (Value × Nat) → Shared → Prop) (E':Value → Shared → Prop),Q' (some (x,slot (k + 1))) s → wpAny (model prog w) B (setNext a (slot k) k ep) Q' E' s)
  (hQ:∀ h',h'.get? I = some (V3 (.int (slot (k + 1):Nat) 0) (k + 1) a n ep) → Heap.SameBut I s.heap h' → Q (some x) { s with heap:=h' }):wpAny (model prog w) A (pyNext (.ref I)) Q E s:=by
 have hT:s.TypeIs (.ref I) "set_iterator":=⟨_,hI,rfl⟩
 unfold pyNext
 refine wpAny_bind (wpAny_attempt (wpAny_callSpecial?_slot (name:=Str.ofString "__next__") hT r9
  (wpAny_call_entry r9 hT D8 ?_ (E4 _))))
 show wpAny _ _ (fieldsOf (.ref I) >>= _) _ _ s
 refine wpAny_bind (wpAny_fieldsOf hI rfl ?_)
 show wpAny _ _ (setEntries a >>= _) _ _ s
 refine wpAny_bind (K3 ho hd hf ?_)
 rw [hn]
 simp only [bne_self_eq_false,Bool.false_eq_true,if_false]
 show wpAny _ _ (setNext a ((slot k:Nat):Int).toNat ((k:Nat):Int).toNat ((ep:Nat):Int).toNat >>= _) _ _ s
 simp only [Int.toNat_natCast]
 refine wpAny_bind (hnx _ _ _ ?_)
 dsimp only
 refine wpAny_bind (wpAny_setField_rec hI (by simp) fun h1 g1 s1=>?_)
 refine wpAny_bind (wpAny_setField_rec g1 (by simp) fun h2 g2 s2=>wpAny_pure ⟨x,rfl,wpAny_pure (hQ h2 ?_ (s1.trans s2))⟩)
 rw [g2]
 simp [rawInt]
theorem ao4 {α:Type} {h1:Heap} {Q:Option Value → Shared → Prop} (hh:A.handled = none) (hQ:∀ h',(∀ b ob,h1.get? b = some ob → h'.get? b = some ob) → Q none { s with heap:=h' }) :
  wpAny (model prog w) A.in1 (newExc (.type "StopIteration") [] >>= fun e=>(raiseNew e:Sem α)) (fun _ _=>False)
   (fun e s'=>wpAny (model prog w) A (do if ← isInstance e (.type "StopIteration") then pure none else throw e) Q E s') { s with heap:=h1 }:=by
 refine wpAny_bind ?_
 simp only [newExc,newTuple]
 refine wpAny_bind (wpAny_newObj_type ?_ (by size_fits))
 refine wpAny_bind (m:=firstArgMember _ _) (wpAny_of_eq (a:=Value.none) (by first | rfl | (simp only [firstArgMember]; rfl)) ?_)
 refine wpAny_newObj_type ?_ (by size_fits)
 simp only [raiseNew]
 refine wpAny_bind (wpAny_handled ?_)
 rw [show A.in1.handled = none from hh]
 refine wpAny_bind (wpAny_pure (wpAny_throw ?_))
 refine wpAny_bind (wpAny_isInstance (T:="StopIteration") (b:=true) ⟨_,Heap.get?_push_size _ rfl,rfl⟩ isSubtype_stop ?_)
 exact wpAny_pure (hQ _ fun b ob e=>Heap.get?_push_of_some _ (Heap.get?_push_of_some _ e))
theorem aI0 {first:Nat} {k n:Nat} {Q:Option Value → Shared → Prop} (hh:A.handled = none) (hI:s.heap.get? I = some (V3 (.int (first:Nat) 0) k a n ep)) (ho:s.heap.get? a = some o) (hd:o.data = .set es ep t) (hf:t.fits es.size = true) (hn:es.size = n)
  (hnx:∀ (B:Around) (Q':Option (Value × Nat) → Shared → Prop) (E':Value → Shared → Prop),Q' none s → wpAny (model prog w) B (setNext a first k ep) Q' E' s)
  (hQ:∀ h',(∀ b ob,b ≠ I → s.heap.get? b = some ob → h'.get? b = some ob) → Q none { s with heap:=h' }):wpAny (model prog w) A (pyNext (.ref I)) Q E s:=by
 have hT:s.TypeIs (.ref I) "set_iterator":=⟨_,hI,rfl⟩
 unfold pyNext
 refine wpAny_bind (wpAny_attempt (wpAny_callSpecial?_slot (name:=Str.ofString "__next__") hT r9
  (wpAny_call_entry r9 hT D8 ?_ (E4 _))))
 show wpAny _ _ (fieldsOf (.ref I) >>= _) _ _ s
 refine wpAny_bind (wpAny_fieldsOf hI rfl ?_)
 show wpAny _ _ (setEntries a >>= _) _ _ s
 refine wpAny_bind (K3 ho hd hf ?_)
 rw [hn]
 simp only [bne_self_eq_false,Bool.false_eq_true,if_false]
 show wpAny _ _ (setNext a ((first:Nat):Int).toNat ((k:Nat):Int).toNat ((ep:Nat):Int).toNat >>= _) _ _ s
 simp only [Int.toNat_natCast]
 refine wpAny_bind (hnx _ _ _ ?_)
 dsimp only
 refine wpAny_bind (wpAny_setField_rec hI (by simp) fun h1 g1 s1=>?_)
 refine wpAny_mono (ao4 (Q:=Q) (E:=E) hh fun h' kp=>hQ h' fun b ob hb e=>kp b ob (s1.extBut b ob hb e)) (fun _ _ z=>z.elim) fun e s' z=>z
theorem a_1 {src:Source} {n:Nat} {Q:Nat → Shared → Prop} (hn:n ≠ 0) (h:∀ i d,i < n → Q i { s with drawn:=d }):wpAny (model prog w) A (choose src n) Q E s :=
 fun _ _ _=>⟨hn,h _ _ (Nat.mod_lt _ (Nat.pos_of_ne_zero hn))⟩
theorem aL3 {α:Type}:∀ (n:Nat) (xs:List α) (s:Shared) {Q:List α → Shared → Prop},xs.length = n → (∀ ys d,ys.Perm xs → Q ys { s with drawn:=d }) → wpAny (model prog w) A (drawOrder n xs) Q E s:=by
 intro n
 induction n with
 | zero =>
  intro xs s Q hn h
  obtain rfl:xs = []:=List.eq_nil_of_length_eq_zero hn
  exact wpAny_pure (h [] s.drawn (List.Perm.refl _))
 | succ n ih =>
  intro xs s Q hn h
  match xs,hn with
  | x :: r,hn =>
   show wpAny _ _ (choose .order (x :: r).length >>= _) _ _ s
   refine wpAny_bind (a_1 (by simp) fun i d hi=>?_)
   rw [List.getElem?_eq_getElem hi]
   dsimp only
   refine wpAny_bind (ih _ _ (by rw [List.length_eraseIdx_of_lt hi]; lia) fun ys d' pm=>wpAny_pure (h _ d' ((pm.cons _).trans (W3 (x :: r) i hi))))
theorem aR9 {Q:Bool → Shared → Prop} (ho:s.heap.get? a = some o) (hd:o.data = .set es ep t) (hf:t.fits es.size = true) (h:Q (!w.params.followText "set-order" && (!t.plain && decide (es.size > 1))) s):wpAny (model prog w) A (setDrawn a) Q E s:=by
 unfold setDrawn
 refine wpAny_bind (wpAny_setState_of ho hd hf ?_)
 dsimp only
 exact wpAny_bind (ae1 (wpAny_pure h))
theorem aB3 {T:Addr} {ps:List Nat} {k n p:Nat} {x:Value} {h0:Int} {Q:Option Value → Shared → Prop} (hI:s.heap.get? I = some (V3 (.ref T) k a n ep)) (hTu:s.heap.get? T = some { cls:=.type "tuple",data:=.seq (ps.map fun (i:Nat)=>rawInt i).toArray })
  (ho:s.heap.get? a = some o) (hd:o.data = .set es ep t) (hf:t.fits es.size = true) (hn:es.size = n) (hp:ps[k]? = some p) (hx:es[p]? = some (h0,x))
  (hQ:∀ h',h'.get? I = some (V3 (.ref T) (k + 1) a n ep) → Heap.SameBut I s.heap h' → Q (some x) { s with heap:=h' }):wpAny (model prog w) A (pyNext (.ref I)) Q E s:=by
 have hT:s.TypeIs (.ref I) "set_iterator":=⟨_,hI,rfl⟩
 unfold pyNext
 refine wpAny_bind (wpAny_attempt (wpAny_callSpecial?_slot (name:=Str.ofString "__next__") hT r9
  (wpAny_call_entry r9 hT D8 ?_ (E4 _))))
 show wpAny _ _ (fieldsOf (.ref I) >>= _) _ _ s
 refine wpAny_bind (wpAny_fieldsOf hI rfl ?_)
 show wpAny _ _ (setEntries a >>= _) _ _ s
 refine wpAny_bind (K3 ho hd hf ?_)
 rw [hn]
 simp only [bne_self_eq_false,Bool.false_eq_true,if_false]
 show wpAny _ _ (seqItems? (.ref T) >>= _) _ _ s
 refine wpAny_bind (wpAny_seqItems hTu rfl ?_)
 dsimp only
 have e:(ps.map fun (i:Nat)=>rawInt i).toArray[((k:Nat):Int).toNat]? = some (.int (p:Nat) 0):=by
  rw [Int.toNat_natCast,List.getElem?_toArray,List.getElem?_map,hp]
  rfl
 rw [e]
 dsimp only
 show wpAny _ _ (setNextDrawn a ((p:Nat):Int).toNat ((ep:Nat):Int).toNat >>= _) _ _ s
 simp only [Int.toNat_natCast]
 unfold setNextDrawn
 refine wpAny_bind (wpAny_bind (wpAny_setState_of ho hd hf ?_))
 dsimp only
 simp only [bne_self_eq_false,Bool.false_eq_true,if_false,hx]
 refine wpAny_pure ?_
 refine wpAny_bind (wpAny_setField_rec hI (by simp) fun h2 g2 s2=>wpAny_pure ⟨x,rfl,wpAny_pure (hQ h2 ?_ s2)⟩)
 rw [g2]
 simp [rawInt]
theorem aw8 {T:Addr} {ps:List Nat} {k n:Nat} {Q:Option Value → Shared → Prop} (hh:A.handled = none) (hI:s.heap.get? I = some (V3 (.ref T) k a n ep)) (hTu:s.heap.get? T = some { cls:=.type "tuple",data:=.seq (ps.map fun (i:Nat)=>rawInt i).toArray })
  (ho:s.heap.get? a = some o) (hd:o.data = .set es ep t) (hf:t.fits es.size = true) (hn:es.size = n) (hp:ps[k]? = none)
  (hQ:∀ h',(∀ b ob,b ≠ I → s.heap.get? b = some ob → h'.get? b = some ob) → Q none { s with heap:=h' }):wpAny (model prog w) A (pyNext (.ref I)) Q E s:=by
 have hT:s.TypeIs (.ref I) "set_iterator":=⟨_,hI,rfl⟩
 unfold pyNext
 refine wpAny_bind (wpAny_attempt (wpAny_callSpecial?_slot (name:=Str.ofString "__next__") hT r9
  (wpAny_call_entry r9 hT D8 ?_ (E4 _))))
 show wpAny _ _ (fieldsOf (.ref I) >>= _) _ _ s
 refine wpAny_bind (wpAny_fieldsOf hI rfl ?_)
 show wpAny _ _ (setEntries a >>= _) _ _ s
 refine wpAny_bind (K3 ho hd hf ?_)
 rw [hn]
 simp only [bne_self_eq_false,Bool.false_eq_true,if_false]
 show wpAny _ _ (seqItems? (.ref T) >>= _) _ _ s
 refine wpAny_bind (wpAny_seqItems hTu rfl ?_)
 dsimp only
 have e:(ps.map fun (i:Nat)=>rawInt i).toArray[((k:Nat):Int).toNat]? = none:=by
  rw [Int.toNat_natCast,List.getElem?_toArray,List.getElem?_map,hp]
  rfl
 rw [e]
 dsimp only
 refine wpAny_bind (wpAny_setField_rec hI (by simp) fun h1 g1 s1=>?_)
 refine wpAny_bind (wpAny_setField_rec g1 (by simp) fun h2 g2 s2=>?_)
 refine wpAny_mono (ao4 (Q:=Q) (E:=E) hh fun h' kp=>hQ h' fun b ob hb e=>kp b ob (s2.extBut b ob hb (s1.extBut b ob hb e))) (fun _ _ z=>z.elim) fun e s' z=>z
theorem af0 {first:Value} {k n:Nat} {Q:Value → Shared → Prop} (hI:s.heap.get? I = some (V3 first k a n ep)) (h:Q (.ref I) s):wpAny (model prog w) A (pyIter (.ref I)) Q E s:=by
 have hT:s.TypeIs (.ref I) "set_iterator":=⟨_,hI,rfl⟩
 refine wpAny_pyIter_slot hT Q2 (wpAny_call_entry Q2 hT aa8 ?_ (ad5 _))
 show wpAny _ _ (ret (.ref I)) _ _ s
 exact wpAny_pure ⟨_,rfl,"set_iterator",_,hT,r9.lookup,h⟩
def aY9 (prog:Program) (w:World) (A:Around) (a I N:Addr) (n:Nat) (xs:List Value) (s:Shared):Prop :=
 ∃ (fp:List Addr) (St:Nat → Shared → Prop),WalksS prog w A I fp [I] (fun a b=>b = a) n (fun i v=>xs[i]? = some v) St ∧ St 0 s ∧ (∀ b ∈ fp,(b = a ∨ N ≤ b) ∧ b < s.heap.objs.size) ∧ I ∈ fp
theorem aQ1 {slot:Nat → Nat} {n:Nat} {xs:List Value} (hh:A.handled = none) (hne:a ≠ I) (hd:o.data = .set es ep t) (hf:t.fits es.size = true) (hn:es.size = n) (hxs:xs.length = n)
  (step:∀ (k:Nat) (s:Shared) (B:Around) (Q':Option (Value × Nat) → Shared → Prop) (E':Value → Shared → Prop),k ≤ n → s.heap.get? a = some o → Q' ((xs[k]?).map fun x=>(x,slot (k + 1))) s → wpAny (model prog w) B (setNext a (slot k) k ep) Q' E' s) :
  WalksS prog w A I [I,a] [I] (fun a b=>b = a) n (fun i v=>xs[i]? = some v) (fun k s=>s.heap.get? I = some (V3 (.int (slot k:Nat) 0) k a n ep) ∧ s.heap.get? a = some o) where
 sub:=fun b hb=>by simp at hb; simp [hb]
 grefl:=fun _=>rfl
 gtrans:=fun _ _ _ p q=>q.trans p
 frame:=fun i s h' tk st _ kp=>⟨kp I (by simp) _ st.1,kp a (by simp) _ st.2⟩
 item:=fun i s Q E hi st hQ=>by
  have hx:xs[i]? = some (xs[i]'(by lia)):=List.getElem?_eq_getElem (by lia)
  refine aK9 (x:=xs[i]'(by lia)) st.1 st.2 hd hf hn (fun B Q' E' q=>step i s B Q' E' (by lia) st.2 (by rw [hx]; exact q)) fun h' g sb=>?_
  exact hQ _ _ hx ⟨g,sb.extBut a o hne st.2⟩ ⟨fun b ob hb e=>sb.extBut b ob (fun z=>hb (by simp [z])) e,rfl,rfl,rfl,Nat.le_refl _⟩
 done:=fun s Q E st hQ=>by
  have hx:xs[n]? = none:=List.getElem?_eq_none (by lia)
  refine aI0 hh st.1 st.2 hd hf hn (fun B Q' E' q=>step n s B Q' E' (Nat.le_refl _) st.2 (by rw [hx]; exact q)) fun h' kp=>?_
  exact hQ _ ⟨fun b ob hb e=>kp b ob (fun z=>hb (by simp [z])) e,rfl,rfl,rfl,Nat.le_refl _⟩
 self:=fun i s Q E st q=>af0 st.1 q
theorem az9 {T:Addr} {ps:List Nat} {n:Nat} {xs:List Value} (hh:A.handled = none) (hne:a ≠ I) (hnT:T ≠ I) (hd:o.data = .set es ep t) (hf:t.fits es.size = true) (hn:es.size = n) (hps:ps.length = n)
  (hx:∀ (k p:Nat),ps[k]? = some p → ∃ h0 x,es[p]? = some (h0,x) ∧ xs[k]? = some x) :
  WalksS prog w A I [I,a,T] [I] (fun a b=>b = a) n (fun i v=>xs[i]? = some v) (fun k s=>s.heap.get? I = some (V3 (.ref T) k a n ep) ∧ s.heap.get? a = some o ∧ s.heap.get? T = some { cls:=.type "tuple",data:=.seq (ps.map fun (i:Nat)=>rawInt i).toArray }) where
 sub:=fun b hb=>by simp at hb; simp [hb]
 grefl:=fun _=>rfl
 gtrans:=fun _ _ _ p q=>q.trans p
 frame:=fun i s h' tk st _ kp=>⟨kp I (by simp) _ st.1,kp a (by simp) _ st.2.1,kp T (by simp) _ st.2.2⟩
 item:=fun i s Q E hi st hQ=>by
  have hp:ps[i]? = some (ps[i]'(by lia)):=List.getElem?_eq_getElem (by lia)
  obtain ⟨h0,x,e1,e2⟩:=hx i _ hp
  refine aB3 st.1 st.2.2 st.2.1 hd hf hn hp e1 fun h' g sb=>?_
  exact hQ _ _ e2 ⟨g,sb.extBut a o hne st.2.1,sb.extBut T _ hnT st.2.2⟩ ⟨fun b ob hb e=>sb.extBut b ob (fun z=>hb (by simp [z])) e,rfl,rfl,rfl,Nat.le_refl _⟩
 done:=fun s Q E st hQ=>by
  refine aw8 hh st.1 st.2.2 st.2.1 hd hf hn (List.getElem?_eq_none (by lia)) fun h' kp=>?_
  exact hQ _ ⟨fun b ob hb e=>kp b ob (fun z=>hb (by simp [z])) e,rfl,rfl,rfl,Nat.le_refl _⟩
 self:=fun i s Q E st q=>af0 st.1 q
theorem aI7 {Q:Value → Shared → Prop} (ho:s.heap.get? a = some o) (hx:o.ExactSet) (hd:o.data = .set es ep t) (hf:t.fits es.size = true) (J:JT (!w.params.followText "set-order") t) (hz:es.size ≤ sizeLine)
  (hQ:∀ (I:Addr) (xs:List Value) (h':Heap) (d),xs.Perm (es.toList.map (·.2)) → s.heap.objs.size ≤ I → (∀ b ob,s.heap.get? b = some ob → h'.get? b = some ob) →
   (∀ B:Around,B.handled = none → aY9 prog w B a I s.heap.objs.size es.size xs { s with heap:=h',drawn:=d }) → Q (.ref I) { s with heap:=h',drawn:=d }):wpAny (model prog w) A (pyIter (.ref a)) Q E s:=by
 have hT:s.TypeIs (.ref a) "set":=⟨o,ho,hx.1⟩
 have hal:a < s.heap.objs.size:=Heap.lt_size ho
 refine wpAny_pyIter_slot hT F.slot_set_iter (wpAny_call_entry F.slot_set_iter hT ad4 ?_ (F.args_set_iter_1 _))
 show wpAny _ _ (Builtin.Frozenset.sizeOf a >>= _) _ _ s
 refine wpAny_bind (wpAny_bind (K3 ho hd hf (wpAny_pure ?_)))
 refine wpAny_bind (aR9 ho hd hf ?_)
 by_cases c:(!w.params.followText "set-order" && (!t.plain && decide (es.size > 1))) = true
 ·rw [c]
  simp only [if_true]
  refine wpAny_bind (aL3 es.size (List.range es.size) s (by simp) fun ps d pm=>?_)
  have hps:ps.length = es.size:=by simpa using pm.length_eq
  simp only [newTuple]
  refine wpAny_bind (wpAny_newObj_type ?_ ?_)
  case refine_2 =>
   show (List.map (fun (i:Nat)=>rawInt i) ps).toArray.size ≤ sizeLine
   rw [List.size_toArray,List.length_map,hps]
   exact hz
  have ho':(s.heap.push { cls:=.type "tuple",data:=.seq (ps.map fun (i:Nat)=>rawInt i).toArray }).get? a = some o:=Heap.get?_push_of_some _ ho
  refine wpAny_bind (wpAny_setEpoch_of ho' hd hf ?_)
  refine wpAny_bind (wpAny_newObj_type ?_)
  have eI:(s.heap.push { cls:=.type "tuple",data:=.seq (ps.map fun (i:Nat)=>rawInt i).toArray }).objs.size = s.heap.objs.size + 1:=Heap.size_push ..
  refine wpAny_pure ⟨_,rfl,"set_iterator",_,⟨_,Heap.get?_push_size _ rfl,rfl⟩,r9.lookup,?_⟩
  refine hQ _ ((ps.map fun p=>(es[p]?).map (·.2)).filterMap id) _ d ?_ (by rw [eI]; exact Nat.le_succ _) (fun b ob e=>Heap.get?_push_of_some _ (Heap.get?_push_of_some _ e)) fun B hB=>?_
  ·refine ((pm.map _).filterMap _).trans ?_
   rw [List.filterMap_map]
   have:(List.range es.size).filterMap (id ∘ fun p=>(es[p]?).map (·.2)) = ((List.range es.size).filterMap fun p=>es[p]?).map (·.2):=by
    rw [List.map_filterMap]
    rfl
   rw [this,filterMap_getElem?_range]
  ·have key:∀ (l:List Nat),(∀ p ∈ l,p < es.size) → ∀ (k p:Nat),l[k]? = some p → ∃ h0 x,es[p]? = some (h0,x) ∧ ((l.map fun p=>(es[p]?).map (·.2)).filterMap id)[k]? = some x:=by
    intro l
    induction l with
    | nil=>intro _ k p e; simp at e
    | cons q r ih =>
     intro hl k p e
     have hq:=hl q List.mem_cons_self
     have eq:es[q]? = some es[q]:=Array.getElem?_eq_getElem hq
     have e2:((q :: r).map fun p=>(es[p]?).map (·.2)).filterMap id = es[q].2 :: (r.map fun p=>(es[p]?).map (·.2)).filterMap id:=by
      rw [List.map_cons,eq]
      rfl
     rw [e2]
     cases k with
     | zero =>
      have:q = p:=by simpa using e
      subst this
      exact ⟨es[q].1,es[q].2,eq,rfl⟩
     | succ k=>exact ih (fun p hp=>hl p (List.mem_cons_of_mem _ hp)) k p (by simpa using e)
   refine ⟨_,_,az9 (o:=o) (T:=s.heap.objs.size) (ps:=ps) hB (by rw [eI]; exact Nat.ne_of_lt (Nat.lt_succ_of_lt hal)) (by rw [eI]; exact Nat.ne_of_lt (Nat.lt_succ_self _)) hd hf rfl hps (key ps fun p hp=>by simpa using pm.mem_iff.mp hp),⟨Heap.get?_push_size _ rfl,Heap.get?_push_of_some _ ho',Heap.get?_push_of_some _ (Heap.get?_push_size _ rfl)⟩,fun b hb=>?_,by simp⟩
   simp only [List.mem_cons,List.not_mem_nil,or_false] at hb
   rw [Heap.size_push]
   rcases hb with rfl | rfl | rfl
   ·exact ⟨.inr (by rw [eI]; exact Nat.le_succ _),Nat.lt_succ_self _⟩
   ·exact ⟨.inl rfl,by rw [eI]; exact Nat.lt_succ_of_lt (Nat.lt_succ_of_lt hal)⟩
   ·exact ⟨.inr (Nat.le_refl _),by rw [eI]; exact Nat.lt_succ_of_lt (Nat.lt_succ_self _)⟩
 ·rw [Bool.eq_false_iff.mpr c]
  simp only [Bool.false_eq_true,if_false]
  refine wpAny_bind (wpAny_pure (wpAny_bind (wpAny_setEpoch_of ho hd hf ?_)))
  refine wpAny_bind (wpAny_newObj_type ?_)
  refine wpAny_pure ⟨_,rfl,"set_iterator",_,⟨_,Heap.get?_push_size _ rfl,rfl⟩,r9.lookup,?_⟩
  have hne:a ≠ s.heap.objs.size:=Nat.ne_of_lt hal
  have go:∀ (slot:Nat → Nat) (xs:List Value),slot 0 = 0 → xs.Perm (es.toList.map (·.2)) → (∀ (k:Nat) (s:Shared) (B:Around) (Q':Option (Value × Nat) → Shared → Prop) (E':Value → Shared → Prop),k ≤ es.size → s.heap.get? a = some o → Q' ((xs[k]?).map fun x=>(x,slot (k + 1))) s → wpAny (model prog w) B (setNext a (slot k) k ep) Q' E' s) →
    Q (.ref s.heap.objs.size) { s with heap:=s.heap.push (V3 (rawInt 0) 0 a es.size ep) }:=fun slot xs h0 pm step=>by
   refine hQ _ xs _ s.drawn pm (Nat.le_refl _) (fun b ob e=>Heap.get?_push_of_some _ e) fun B hB=>⟨_,_,aQ1 (slot:=slot) hB hne hd hf rfl (by simpa using pm.length_eq) step,⟨?_,Heap.get?_push_of_some _ ho⟩,fun b hb=>?_,by simp⟩
   ·rw [h0]
    exact Heap.get?_push_size _ rfl
   ·simp only [List.mem_cons,List.not_mem_nil,or_false] at hb
    rw [Heap.size_push]
    rcases hb with rfl | rfl
    ·exact ⟨.inr (Nat.le_refl _),Nat.lt_succ_self _⟩
    ·exact ⟨.inl rfl,Nat.lt_succ_of_lt hal⟩
  cases ht:w.params.followText "set-order" with
  | true =>
   refine go (fun _=>0) ((pickOrder (w.params.setOrder a ep) es).toList.map (·.2)) rfl ((ak5 _ es).map _) fun k s' B Q' E' hk ho' q=>au4 ht ho' hd hf ?_
   have e:(((pickOrder (w.params.setOrder a ep) es).toList.map (·.2))[k]?).map (fun x=>(x,0)) = ((pickOrder (w.params.setOrder a ep) es)[k]?).map fun e=>(e.2,0):=by
    rw [List.getElem?_map,Array.getElem?_toList,Option.map_map]
    rfl
   rw [← e]
   exact q
  | false =>
   rw [ht] at c J
   have hpl:t.place.size = es.size:=by
    simp only [SetTable.fits,Bool.and_eq_true,beq_iff_eq] at hf
    exact hf.1
   refine go (fun k=>match k with | 0=>0 | k + 1=>t.place.getD k 0 + 1) (es.toList.map (·.2)) rfl (List.Perm.refl _) fun k s' B Q' E' hk ho' q=>al1 ht ho' hd hf J (by simpa using c) ?_ ?_
   ·cases k with
    | zero=>exact aF5 J.mono
    | succ k =>
     have hk':k < t.place.size:=by lia
     have e:t.place.getD k 0 = t.place[k]:=by simp [Array.getD,hk']
     show SetTable.below t.place (t.place.getD k 0 + 1) = k + 1
     rw [e]
     exact aI9 J.mono k hk'
   ·rcases Nat.lt_or_eq_of_le hk with hlt | heq
    ·have hk':k < t.place.size:=by lia
     have e2:t.place.getD k 0 = t.place[k]:=by simp [Array.getD,hk']
     have e3:(es.toList.map (·.2))[k]? = some es[k].2:=by simp [hlt]
     rw [e3] at q
     simp only [Array.getElem?_eq_getElem hlt,Array.getElem?_eq_getElem hk']
     rw [← e2]
     exact q
    ·have e3:(es.toList.map (·.2))[k]? = none:=by simp [heq]
     rw [e3] at q
     have e4:es[k]? = none:=by simp [heq]
     simp only [e4]
     exact q
end
end L2
namespace L2
open PySem PyProof.Rows
theorem aG6:typeLookup (.type "set") "__len__" = pure (some (.builtin "set.__len__")):=F.slot_set_len.lookup
theorem al2:splitId "set.__len__" = some ("set","__len__"):=by kernel_rfl
section
variable {prog:Program} {w:World} {A:Around} {E:Value → Shared → Prop} {s:Shared} {a:Addr} {o:Obj} {es:Array (Int × Value)} {ep:Nat} {t:SetTable}
theorem aX7 {Q:Bool → Shared → Prop} (hT:s.TypeIs (.ref a) "set") (h:Q false s):wpAny (model prog w) A (Builtin.List.listLengthHint (.ref a)) Q E s:=by
 unfold Builtin.List.listLengthHint
 refine wpAny_bind (wpAny_specialOf hT aG6 ?_)
 simp only [al2]
 refine wpAny_bind (wpAny_isInstance hT sub_set_self ?_)
 simp only [Bool.not_true,Bool.false_eq_true,if_false]
 show wpAny _ _ (typeOf (.ref a) >>= _) _ _ s
 exact wpAny_bind (wpAny_typeOf hT (wpAny_pure h))
theorem aF3 {Q:List Value → Shared → Prop} (hh:A.handled = none) (ho:s.heap.get? a = some o) (hx:o.ExactSet) (hd:o.data = .set es ep t) (hf:t.fits es.size = true) (J:JT (!w.params.followText "set-order") t) (hz:es.size ≤ sizeLine)
  (hQ:∀ (h':Heap) (d) (tk:Nat) (xs:List Value),xs.Perm (es.toList.map (·.2)) → s.heap.objs.size < h'.objs.size → (∀ b ob,s.heap.get? b = some ob → h'.get? b = some ob) → Q xs { s with heap:=h',drawn:=d,toks:=tk }):wpAny (model prog w) A (collect (.ref a)) Q E s:=by
 have hal:a < s.heap.objs.size:=Heap.lt_size ho
 unfold collect
 refine wpAny_bind (wpAny_runValue (codeAny_builtin F.entry_proto_collect ?_))
 rw [Around.under_plainId F.plain_proto_collect _]
 show wpAny _ A.in1 (newList [] >>= fun l=>again (.builtin "list.__iadd__" ⟨[l,.ref a],[]⟩)) _ _ s
 refine wpAny_bind (wpAny_newObj_type ?_)
 refine wpAny_pure ⟨plainId_quiet F.plain_list_iadd _,codeAny_builtin F.entry_list_iadd ?_⟩
 rw [Around.under_plainId F.plain_list_iadd _]
 generalize hH1:s.heap.push { cls:=.type "list",data:=.seq ([]:List Value).toArray } = H1
 have sz1:H1.objs.size = s.heap.objs.size + 1:=by rw [← hH1]; exact Heap.size_push ..
 have old1:∀ b ob,s.heap.get? b = some ob → H1.get? b = some ob:=fun b ob e=>by rw [← hH1]; exact Heap.get?_push_of_some _ e
 have gS:H1.get? s.heap.objs.size = some { cls:=.type "list",data:=.seq ([]:List Value).toArray }:=by rw [← hH1]; exact Heap.get?_push_size _ rfl
 show wpAny _ A.in1 (Builtin.List.listExtendWith (.ref s.heap.objs.size) (.ref a) (.ref s.heap.objs.size)) _ _ { s with heap:=H1 }
 unfold Builtin.List.listExtendWith
 have ho1:=old1 a o ho
 refine wpAny_bind (wpAny_typeOf (T:="set") ⟨o,ho1,hx.1⟩ ?_)
 have h1:Builtin.List.listSameRef (.ref s.heap.objs.size) (.ref a) = false:=by simpa [Builtin.List.listSameRef] using Nat.ne_of_gt hal
 have h2:(Value.type "set" == Value.type "list") = false:=by decide
 have h3:(Value.type "set" == Value.type "tuple") = false:=by decide
 simp only [h1,h2,h3,Bool.or_false,Bool.false_eq_true,if_false]
 refine wpAny_bind (aI7 (s:={ s with heap:=H1 }) ho1 hx hd hf J hz fun I xs h' d pm hI old2 walks=>?_)
 refine wpAny_bind (wpAny_holding (aX7 ⟨o,old2 a o ho1,hx.1⟩ ?_))
 show wpAny _ A.in1 (rule "list.extend.makes-room" >>= fun _=>Builtin.List.listTouch (.ref s.heap.objs.size) >>= fun _ =>
  again (.builtin "list.extend.loop" ⟨[.ref s.heap.objs.size,.ref I,.ref s.heap.objs.size],[]⟩)) _ _ _
 refine wpAny_bind (wpAny_rule (wpAny_bind ?_))
 have g2:=old2 _ _ gS
 show wpAny _ A.in1 (updateSeq s.heap.objs.size (·.push .none) >>= fun _=>updateSeq s.heap.objs.size (·.pop)) _ _ _
 refine wpAny_bind (wpAny_updateSeq g2 rfl ?_)
 have g3:=Heap.get?_update_self (Obj.mapSeq (·.push Value.none)) g2 rfl
 refine wpAny_updateSeq g3 rfl ?_
 have g4:=Heap.get?_update_self (Obj.mapSeq (·.pop)) g3 rfl
 have oth:∀ b ob,b ≠ s.heap.objs.size → h'.get? b = some ob → ((h'.update s.heap.objs.size (Obj.mapSeq (·.push Value.none))).update s.heap.objs.size (Obj.mapSeq (·.pop))).get? b = some ob :=
  fun b ob hb e=>(Heap.get?_update_other _ _ (Ne.symm hb)).trans ((Heap.get?_update_other _ _ (Ne.symm hb)).trans e)
 obtain ⟨fp,St,W,st,hfp,_⟩:=walks A.in1 hh
 have hSf:s.heap.objs.size ∉ fp:=fun hm=>by
  rcases (hfp _ hm).1 with e | e
  ·exact Nat.lt_irrefl _ (e ▸ hal)
  ·have e':H1.objs.size ≤ s.heap.objs.size:=e
   rw [sz1] at e'
   exact Nat.lt_irrefl _ e'
 refine wpAny_pure ⟨plainId_quiet F.plain_extend_loop _,codeAny_extend_loopS W hz _ hSf _ es.size 0 _ _ _ rfl (Nat.zero_le _)
  (W.frame 0 ({ s with heap:=h',drawn:=d }:Shared) _ s.toks st (Nat.le_refl _) fun b hb ob e=>oth b ob (fun z=>hSf (z ▸ hb)) e) g4 (ItemsOf.nil _) fun s' acc' c' hm hS' hacc=>?_⟩
 show wpAny _ A (load s.heap.objs.size >>= _) _ _ s'
 refine wpAny_bind (wpAny_load hS' (wpAny_pure ?_))
 have e1:s'.gens = s.gens:=hm.gens
 have e2:s'.drawn = d:=hm.drawn
 have e3:s'.os = s.os:=hm.os
 have es':s' = { s with heap:=s'.heap,drawn:=d,toks:=s'.toks }:=by
  obtain ⟨h0,g0,d0,t0,o0⟩:=s'
  simp only at e1 e2 e3
  subst e1 e2 e3
  rfl
 have exs:acc'.toList = xs:=by
  have hl:xs.length = es.size:=by simpa using pm.length_eq
  apply List.ext_getElem
  ·rw [Array.length_toList,hacc.1,hl]
  ·intro i q1 q2
   have this:xs[i]? = some acc'[i]:=hacc.2 i acc'[i] (by simp)
   rw [List.getElem?_eq_getElem q2] at this
   simpa using (Option.some.inj this).symm
 have big:s.heap.objs.size < s'.heap.objs.size:=Heap.lt_size hS'
 rw [exs,es']
 refine hQ _ d _ xs pm big fun b ob e=>?_
 have hb:b ≠ s.heap.objs.size:=Nat.ne_of_lt (Heap.lt_size e)
 refine hm.heap b ob ?_ (oth b ob hb (old2 b ob (old1 b ob e)))
 simp only [List.mem_cons,List.not_mem_nil,or_false,not_or]
 refine ⟨hb,fun z=>?_⟩
 have hI':H1.objs.size ≤ I:=hI
 rw [sz1,← z] at hI'
 exact Nat.lt_irrefl _ (Nat.lt_of_lt_of_le (Nat.lt_succ_of_lt (Heap.lt_size e)) hI')
theorem am0 (h:ElemsOf (intKind prog w) es.toList):∃ ks:List Int,IntsAre (es.toList.map (·.2)) ks ∧ ∀ k,k ∈ ks ↔ ∃ e ∈ es.toList,(intKind prog w).is k e.2 = true:=by
 have go:∀ l:List (Int × Value),ElemsOf (intKind prog w) l → ∃ ks:List Int,IntsAre (l.map (·.2)) ks ∧ ∀ k,k ∈ ks ↔ ∃ e ∈ l,(intKind prog w).is k e.2 = true:=by
  intro l
  induction l with
  | nil=>intro _; exact ⟨[],.nil,by simp⟩
  | cons e r ih =>
   intro h
   obtain ⟨ks,h1,h2⟩:=ih h.tail
   obtain ⟨⟨k,hk,_⟩,_⟩:=h.head
   obtain ⟨tk,ek⟩:=Value.isInt_shape (k:=k) (v:=e.2) hk
   refine ⟨k :: ks,?_,fun k'=>?_⟩
   ·rw [List.map_cons,ek]
    exact .cons k tk h1
   ·rw [List.mem_cons,h2 k']
    constructor
    ·rintro (rfl | ⟨e',he,q⟩)
     ·exact ⟨e,List.mem_cons_self,hk⟩
     ·exact ⟨e',List.mem_cons_of_mem _ he,q⟩
    ·rintro ⟨e',he,q⟩
     rcases List.mem_cons.mp he with rfl | he
     ·exact .inl ((intKind prog w).inj e'.2 k' k q hk)
     ·exact .inr ⟨e',he,q⟩
 exact go _ h
theorem IntsAre.perm {vs us:List Value} (p:us.Perm vs):∀ {ns:List Int},IntsAre vs ns → ∃ ms,IntsAre us ms ∧ ms.Perm ns:=by
 induction p with
 | nil=>intro ns h; exact ⟨ns,h,List.Perm.refl _⟩
 | cons x _ ih =>
  intro ns h
  cases h with
  | cons n t h=>obtain ⟨ms,h1,h2⟩:=ih h; exact ⟨n :: ms,.cons n t h1,h2.cons n⟩
 | swap x y l =>
  intro ns h
  cases h with
  | cons n t h=>cases h with
   | cons m u h=>exact ⟨_,.cons m u (.cons n t h),List.Perm.swap _ _ _⟩
 | trans _ _ ih1 ih2 =>
  intro ns h
  obtain ⟨ms,h1,h2⟩:=ih2 h
  obtain ⟨ls,h3,h4⟩:=ih1 h1
  exact ⟨ls,h3,h4.trans h2⟩
theorem aH8 {S:Int → Bool} {n:Nat} {Q:Value → Shared → Prop} (hh:A.handled = none) (hS:K5 (intKind prog w) s.heap a S n) (h64:n < 64)
  (h:∀ (l:Addr) (h':Heap) (d) (tk e:Nat) (out:Array Value) (ns:List Int),IntsAre out.toList ns → ns.Pairwise (· ≤ ·) → (∀ k,k ∈ ns ↔ S k = true) → ns.length = n → s.heap.objs.size ≤ l → (∀ b ob,s.heap.get? b = some ob → h'.get? b = some ob) →
   h'.get? l = some (seqObj "list" out e) → Q (.ref l) { s with heap:=h',drawn:=d,toks:=tk }):wpAny (model prog w) A (call (.builtin "sorted") [.ref a]) Q E s:=by
 obtain ⟨o,es,ep,t,ho,hx,hd,⟨el,mem,hb,hf,hn⟩,J⟩:=hS
 obtain ⟨ks,ik,mk⟩:=am0 el
 refine Calls.call_function_entry kind_sorted plain_sorted entry_sorted (args_sorted1 _) ?_
 unfold Builtin.«sorted»
 refine wpAny_bind (m:=checkCount "sorted" 1 1 _) (wpAny_pure ?_)
 refine wpAny_bind (aF3 hh ho hx hd hf J (fits_of_scanBound hb) fun h1 d tk xs pm big old=>?_)
 obtain ⟨ms,im,pms⟩:=IntsAre.perm pm ik
 have hxl:xs.length = n:=by rw [← hn]; simpa using pm.length_eq
 refine wpAny_bind (wpAny_newList ?_ (by rw [hxl]; exact Nat.le_trans (Nat.le_of_lt h64) (by decide)))
 have hoL:(h1.push (seqObj "list" xs.toArray 0)).get? h1.objs.size = some (seqObj "list" xs.toArray 0):=Heap.get?_push_size _ rfl
 show wpAny _ _ _ _ _ { s with heap:=h1.push (seqObj "list" xs.toArray 0),drawn:=d,toks:=tk }
 refine wpAny_bind (wpAny_holding (wpAny_call_entry slot_list_sort ⟨_,hoL,rfl⟩ entry_list_sort (list_sort_tree hoL im (by lia) fun out ns a1 a2 a3=>⟨_,rfl,?_⟩) (args_list_sort _)))
 obtain ⟨e,he⟩:=sortedHeap_at (out:=out) hoL
 refine wpAny_pure ⟨_,rfl,h h1.objs.size _ d tk e out ns a1 a3 (fun k=>?_) ?_ ?_ (fun b ob q=>?_) he⟩
 ·rw [a2.mem_iff,pms.mem_iff,mk k,mem k]
 ·rw [a2.length_eq,pms.length_eq,← ik.length,List.length_map,Array.length_toList,hn]
 ·exact Nat.le_of_lt big
 ·have q1:=old b ob q
  have hlt:=Heap.lt_size q1
  rw [sortedHeap_old (Nat.ne_of_lt hlt) (by rw [Heap.size_push]; exact Nat.lt_succ_of_lt hlt)]
  exact Heap.get?_push_of_some _ q1
end
end L2
namespace L2
open PySem PyProof.Rows
section
variable {prog:Program} {w:World} {A:Around} {R:Result → Shared → Prop} {I:Addr} {fp wr:List Addr} {G:Array GenState → Array GenState → Prop} {n:Nat} {P:Nat → Value → Prop} {St:Nat → Shared → Prop}
abbrev R4 (prog:Program) (w:World) (val:Nat → Int) (i:Nat) (h:Heap) (S:Addr):Prop:=K5 (intKind prog w) h S (fun k=>(firstMet val i).any (· == k)) (firstMet val i).length
theorem aC0 (W:WalksS prog w A.in1 I fp wr G n P St) (S:Addr) (hSf:S ∉ fp) (val:Nat → Int) (hval:∀ i v,P i v → ∃ t,v = .int (val i) t) (hb:n + 1 < scanBound) :
  ∀ (k i:Nat) (s:Shared),n - i = k → i ≤ n → St i s → R4 prog w val i s.heap S → (∀ s',Moved (S :: wr) G s s' → R4 prog w val n s'.heap S → R (.ok (.ret .none)) s') →
   codeAny (model prog w) A (.builtin "set.update.loop" ⟨[.ref S,.ref I],[]⟩) R s:=by
 have hSw:S ∉ wr:=fun z=>hSf (W.sub _ z)
 have sub:∀ b ∈ wr,b ∈ S :: wr:=fun b q=>List.mem_cons_of_mem _ q
 intro k
 induction k with
 | zero =>
  intro i s hk hi st x fin
  obtain rfl:i = n:=by lia
  refine codeAny_builtin PyProof.Rows.F.entry_set_update_loop ?_
  rw [Around.under_plainId PyProof.Rows.F.plain_set_update_loop _]
  show wpAny _ A.in1 (pyNext (.ref I) >>= _) _ _ s
  refine wpAny_bind (W.done s _ _ st fun s' m=>?_)
  show wpAny _ A.in1 (ret Value.none) _ _ s'
  exact wpAny_pure (fin s' (m.mono sub) (x.of_get fun o e=>m.heap S _ hSw e))
 | succ k ih =>
  intro i s hk hi st x fin
  have lt:i < n:=by lia
  refine codeAny_builtin PyProof.Rows.F.entry_set_update_loop ?_
  rw [Around.under_plainId PyProof.Rows.F.plain_set_update_loop _]
  show wpAny _ A.in1 (pyNext (.ref I) >>= _) _ _ s
  refine wpAny_bind (W.item i s _ _ lt st fun v s' pv st' m=>?_)
  obtain ⟨t,rfl⟩:=hval i v pv
  have x':R4 prog w val i s'.heap S:=x.of_get fun o e=>m.heap S _ hSw e
  show wpAny _ A.in1 (holding [Value.int (val i) t] (setAdd S (.int (val i) t)) >>= _) _ _ s'
  refine wpAny_bind (wpAny_holding ?_)
  unfold setAdd
  refine wpAny_holding (wpAny_bind ((intKind prog w).pyHash (k:=val i) (intKind_is _ _ _ _) ?_))
  have room:(firstMet val i).length + 1 < scanBound:=by have:=firstMet_length_le val i; lia
  refine bp5 (knd:=intKind prog w) (s:={ s' with toks:=s'.toks + 1 }) (intKind_is _ _ _ _) rfl x' room fun h' sb x2=>?_
  have x3:R4 prog w val (i + 1) h' S:=x2.congr (fun k'=>by rw [firstMet_succ,step_any]) (by rw [firstMet_succ,step_length])
  refine wpAny_pure ⟨plainId_quiet PyProof.Rows.F.plain_set_update_loop _,ih (i + 1) _ (by lia) lt (W.frame _ s' _ _ st' (Nat.le_succ _) fun b hb o e=>?_) x3 fun s'' m2 x4=>?_⟩
  ·rw [sb.2 b (fun z:b = S=>hSf (z ▸ hb))]; exact e
  ·refine fin s'' (Moved.trans W.gtrans ((m.mono sub).then_heap (Nat.le_succ _) fun b o hb e=>?_) m2) x4
   rw [sb.2 b (fun z:b = S=>hb (z ▸ List.mem_cons_self))]; exact e
end
section
variable {prog:Program} {w:World} {A:Around} {E:Value → Shared → Prop} {s:Shared}
abbrev A6 (w:World):Obj:={ cls:=.type "set",dict:=none,data:=.set #[] 0 (.fresh 0 0 (!w.params.followText "set-order")) }
theorem R0 (a:Value) {Q:Value → Shared → Prop} (h:Q (.ref s.heap.objs.size) { s with heap:=s.heap.push (A6 w) }) :
  codeAny (model prog w) A (.call (.builtin "set.__new__") ⟨[.type "set",a],[]⟩) (wants Q E) s:=by
 refine codeAny_of_tree ?_
 show wpAny _ A.in1 (do checkBuiltinCall "set.__new__" ⟨[.type "set",a],[]⟩; again (.builtin "set.__new__" ⟨[.type "set",a],[]⟩)) _ _ s
 refine wpAny_bind (wpAny_of_eq (PySem.F.newCall_set_1 a) (wpAny_pure ⟨plainId_quiet PySem.F.plain_set_new _,codeAny_builtin PySem.F.entry_set_new ?_⟩))
 rw [Around.under_plainId PySem.F.plain_set_new _]
 unfold Builtin.«set.__new__» Builtin.Frozenset.newClass
 have hsub:=sub_set_self
 obtain ⟨hp,g,d,tk,os⟩:=s
 dsimp only
 wp_walk
 refine wpAny_askSetting (wpAny_pure ?_)
 dsimp only
 simp only [newObj]
 exact wpAny_bind (wpAny_alloc (wpAny_pure (wpAny_pure h)))
set_option maxHeartbeats 3200000 in
theorem aA8 {l:Addr} {items:Array Value} {ns:List Int} {Q:Value → Shared → Prop} (hh:A.handled = none) (hl:s.heap.IsList l items) (hi:IntsAre items.toList ns) (hb:items.size + 1 < scanBound)
  (h:∀ (h':Heap) (tk:Nat),R4 prog w (fun i=>ns.getD i 0) items.size h' s.heap.objs.size → (∀ b o,b < s.heap.objs.size → s.heap.get? b = some o → h'.get? b = some o) → Q (.ref s.heap.objs.size) { s with heap:=h',toks:=tk }) :
  wpAny (model prog w) A (call (.type "set") [.ref l]) Q E s:=by
 obtain ⟨c,tl,hmro⟩:=PySem.F.called_set.mro
 have hmade:=PySem.F.called_set.made
 have hsub:=PySem.F.called_set.sub
 refine wpAny_call (codeAny_of_tree ?_)
 show wpAny _ _ (callAny (.type "set") _) _ _ _
 refine wpAny_pure ⟨Code.quiet_builtin _ (by decide +kernel),codeAny_builtin PySem.F.entry_type_call ?_⟩
 rw [Around.under_plain (weight_type_call_type "set" [.ref l] []) rfl]
 have h1:=PySem.F.called_set.notType
 have h2:=PySem.F.called_set.canCreate
 have hct:=PySem.F.typeCall_set_1 (.ref l)
 repeat (any_goals (first | assumption | wp_step))
 refine codeAny_mono (R0 (.ref l) (E:=E) (Q:=fun obj s₁=>obj = .ref s.heap.objs.size ∧ s₁ = { s with heap:=s.heap.push (A6 w) }) ⟨rfl,rfl⟩) fun r s₁ hr=>?_
 cases r with
 | error e=>exact hr
 | ok fl =>
  cases fl with
  | ret obj =>
   obtain ⟨rfl,rfl⟩:=hr
   have hS:(s.heap.push (A6 w)).get? s.heap.objs.size = some (A6 w):=Heap.get?_push_size _ rfl
   have hT:Shared.TypeIs { s with heap:=s.heap.push (A6 w) } (.ref s.heap.objs.size) "set":=⟨_,hS,rfl⟩
   have hli:=PySem.F.called_set.init.lookup
   have hbi:=PySem.F.called_set.init.bind (.ref s.heap.objs.size)
   repeat (any_goals (first | assumption | wp_step))
   refine codeAny_mono (codeAny_call_builtin (R:=wants (fun r s₂=>r = .none ∧ ∃ h' tk,s₂ = { s with heap:=h',toks:=tk } ∧ R4 prog w (fun i=>ns.getD i 0) items.size h' s.heap.objs.size ∧
     (∀ b o,b < s.heap.objs.size → s.heap.get? b = some o → h'.get? b = some o)) E) PySem.F.called_set.init.plain PySem.F.entry_set_init (check_set_init_1 hT ?_)) fun r₂ s₂ hr₂=>?_
   ·obtain ⟨ol,hol,hcl,nl,hdl⟩:=id hl
    have hol':(s.heap.push (A6 w)).get? l = some ol:=Heap.get?_push_of_some _ hol
    have hTl:Shared.TypeIs { s with heap:=s.heap.push (A6 w) } (.ref l) "list":=⟨ol,hol',hcl⟩
    have hsls:=PySem.F.sub_list_set
    have hslf:=PySem.F.sub_list_frozenset
    have hne:(Value.type "list" == Value.type "dict") = false:=by decide
    have hl1:(s.heap.push (A6 w)).IsList l items:=⟨_,hol',hcl,nl,hdl⟩
    unfold Builtin.«set.__init__» noKeywords Builtin.Frozenset.updateFrom
    generalize hPI:pyIter = PI
    wp_walk
    subst hPI
    refine wpAny_pyIter_list hl1 (wpAny_bind (wpAny_runValue ?_))
    have hlS:l < s.heap.objs.size:=Heap.lt_size hol
    have hneI:l ≠ (s.heap.push (A6 w)).objs.size:=by rw [Heap.size_push]; exact Nat.ne_of_lt (Nat.lt_succ_of_lt hlS)
    have hSf:s.heap.objs.size ∉ [(s.heap.push (A6 w)).objs.size,l]:=by
     rw [Heap.size_push]
     simp only [List.mem_cons,List.not_mem_nil,or_false,not_or]
     exact ⟨Nat.ne_of_lt (Nat.lt_succ_self _),Nat.ne_of_gt hlS⟩
    refine aC0 ((Walks.list (by simpa using hh) _ l hneI items).toS) s.heap.objs.size hSf (fun i=>ns.getD i 0) (fun i v hv=>PyProof.Rows.IntsAre.int_at hi i v (by rw [Array.getElem?_toList]; exact hv)) hb (items.size - 0) 0 _ (by lia) (Nat.zero_le _)
     ⟨⟨_,Heap.get?_push_size _ rfl,rfl,rfl⟩,(hl1.push _)⟩ ?hS0 ?hR
    case hS0 =>
     exact ((K5.new (knd:=intKind prog w) s.heap rfl).congr (fun _=>rfl) rfl).of_get fun o e=>Heap.get?_push_of_some _ e
    case hR =>
     intro s' m x
     obtain ⟨h',g',d',tk',os'⟩:=s'
     have eg:g' = s.gens:=m.gens
     have ed:d' = s.drawn:=m.drawn
     have eo:os' = s.os:=m.os
     subst eg ed eo
     show wpAny _ _ _ _ _ _
     refine wpAny_pure ?_
     show wpAny _ _ (ret Value.none) _ _ _
     refine wpAny_pure ⟨rfl,h',tk',rfl,x,fun b o q e=>?_⟩
     refine m.heap b o ?_ (Heap.get?_push_of_some _ (Heap.get?_push_of_some _ e))
     simp only [List.mem_cons,List.not_mem_nil,or_false,not_or]
     refine ⟨Nat.ne_of_lt q,?_⟩
     rw [Heap.size_push]
     exact Nat.ne_of_lt (Nat.lt_succ_of_lt q)
   ·cases r₂ with
    | error e=>exact hr₂
    | ok fl₂ =>
     cases fl₂ with
     | ret r =>
      obtain ⟨rfl,h',tk,rfl,x,kp⟩:=hr₂
      repeat (any_goals (first | assumption | wp_step))
      exact h _ _ x kp
     | _=>exact hr₂.elim
  | _=>exact hr.elim
end
end L2
namespace L2
open PySem PySem.W PyProof.Rows
def ev {α:Type} (lt:Nat → Nat → Bool):KasT α → α
 | .ret a=>a
 | .ask i j k=>ev lt (k (lt i j))
theorem U7 {α β:Type} (lt:Nat → Nat → Bool) (f:α → KasT β):∀ t:KasT α,ev lt (t.bind f) = ev lt (f (ev lt t))
 | .ret _=>rfl
 | .ask i j k=>U7 lt f (k (lt i j))
section
variable {r:Nat → Int}
abbrev ltR (r:Nat → Int):Nat → Nat → Bool:=fun i j=>decide (r i < r j)
abbrev ky (r:Nat → Int) (p:Array Nat) (k:Nat):Int:=r (p.getD k 0)
theorem W6 {α:Type} (lt:Nat → Nat → Bool) (i j:Nat) (k:Bool → KasT α):ev lt (.ask i j k) = ev lt (k (lt i j)):=rfl
theorem az7 {i j:Nat} (c:r i < r j):ltR r i j = true:=decide_eq_true c
theorem aE1 {i j:Nat} (c:¬ r i < r j):ltR r i j = false:=decide_eq_false c
def Up (r:Nat → Int) (p:Array Nat) (b:Nat):Prop:=∀ i,0 < i → i < b → ky r p (i - 1) ≤ ky r p i
def Dn (r:Nat → Int) (p:Array Nat) (b:Nat):Prop:=∀ i,0 < i → i < b → ky r p i ≤ ky r p (i - 1)
def Eqs (r:Nat → Int) (p:Array Nat) (a b:Nat):Prop:=∀ i,a < i → i < b → ky r p i = ky r p (i - 1)
theorem Up.mono {p:Array Nat} {b:Nat} (h:Up r p b):∀ i j,i ≤ j → j < b → ky r p i ≤ ky r p j:=by
  intro i j hij hj
  induction j with
  | zero =>
    have:i = 0:=by lia
    subst this; exact Int.le_refl _
  | succ j ih =>
    rcases Nat.lt_or_eq_of_le hij with q | q
    · exact Int.le_trans (ih (by lia) (by lia)) (h (j + 1) (by lia) hj)
    · rw [q]; exact Int.le_refl _
theorem Dn.mono {p:Array Nat} {b:Nat} (h:Dn r p b):∀ i j,i ≤ j → j < b → ky r p j ≤ ky r p i:=by
  intro i j hij hj
  induction j with
  | zero =>
    have:i = 0:=by lia
    subst this; exact Int.le_refl _
  | succ j ih =>
    rcases Nat.lt_or_eq_of_le hij with q | q
    · exact Int.le_trans (h (j + 1) (by lia) hj) (ih (by lia) (by lia))
    · rw [q]; exact Int.le_refl _
theorem Eqs.all {p:Array Nat} {a b:Nat} (h:Eqs r p a b):∀ i,a ≤ i → i < b → ky r p i = ky r p a:=by
  intro i hi hb
  induction i with
  | zero =>
    have:a = 0:=by lia
    subst this; rfl
  | succ i ih =>
    rcases Nat.lt_or_eq_of_le hi with q | q
    · rw [h (i + 1) q hb]; exact ih (by lia) (by lia)
    · rw [q]
theorem ae9 {p:Array Nat} {i j:Nat} (hj:j ≤ p.size) (k:Nat):(kas_rev p i j).getD k 0 = if i ≤ k ∧ k < j then p.getD (i + j - 1 - k) 0 else p.getD k 0:=by
 unfold kas_rev
 have e:=getElem?_mirror (xs:=p) (i:=i) hj ((j - i) / 2) (by lia) k
 rw [Array.getD_eq_getD_getElem?,e]
 by_cases c:i ≤ k ∧ k < j
 ·rw [if_pos c]
  by_cases d:i ≤ k ∧ k < i + (j - i) / 2 ∨ j - (j - i) / 2 ≤ k ∧ k < j
  ·rw [if_pos d,Array.getD_eq_getD_getElem?]
  ·rw [if_neg d]
   have:i + j - 1 - k = k:=by lia
   rw [this,Array.getD_eq_getD_getElem?]
 ·rw [if_neg c,if_neg (by lia),Array.getD_eq_getD_getElem?]
theorem aw7 {p:Array Nat} {i j:Nat} (hj:j ≤ p.size) (h:Eqs r p i j) (k:Nat):ky r (kas_rev p i j) k = ky r p k:=by
 show r _ = r _
 rw [ae9 hj]
 by_cases c:i ≤ k ∧ k < j
 ·rw [if_pos c]
  have e1:ky r p (i + j - 1 - k) = ky r p i:=h.all _ (by lia) (by lia)
  have e2:ky r p k = ky r p i:=h.all _ c.1 c.2
  exact e1.trans e2.symm
 ·rw [if_neg c]
theorem O1 (p:Array Nat) (i j:Nat):(kas_rev p i j).size = p.size:=mirror_size _ _ _ _
theorem F5 (p:Array Nat) (i j:Nat):(kas_rev p i j).Perm p:=mirror_perm _ _ _ _
theorem aX0 (p:Array Nat):∀ f n,1 ≤ n → Up r p n → n ≤ ev (ltR r) (kas_asc p f n) ∧ ev (ltR r) (kas_asc p f n) ≤ n + f ∧ Up r p (ev (ltR r) (kas_asc p f n)) ∧
  (ev (ltR r) (kas_asc p f n) < n + f → ky r p (ev (ltR r) (kas_asc p f n)) < ky r p (ev (ltR r) (kas_asc p f n) - 1)):=by
 intro f
 induction f with
 | zero=>intro n h1 h; exact ⟨Nat.le_refl _,Nat.le_refl _,h,fun q=>absurd q (Nat.lt_irrefl _)⟩
 | succ f ih =>
  intro n h1 h
  unfold kas_asc
  rw [W6]
  by_cases c:r (p.getD n 0) < r (p.getD (n - 1) 0)
  ·rw [az7 c,if_pos rfl]
   exact ⟨Nat.le_refl _,by show n ≤ n + (f + 1); lia,h,fun _=>c⟩
  ·rw [aE1 c,if_neg (by simp)]
   obtain ⟨q1,q2,q3,q4⟩:=ih (n + 1) (by lia) (fun i hi hb=>by
    rcases Nat.lt_or_eq_of_le (Nat.le_of_lt_succ hb) with z | z
    ·exact h i hi z
    ·subst z; exact Int.not_lt.mp c)
   exact ⟨by lia,by lia,q3,fun z=>q4 (by lia)⟩
theorem a95:∀ (f:Nat) (p:Array Nat) (n q:Nat),q < n → n + f ≤ p.size → Dn r p n → Eqs r p (n - (q + 1)) n →
  ∃ p' n' q',ev (ltR r) (kas_desc f p n q) = (p',n',q') ∧ q' < n' ∧ n ≤ n' ∧ n' ≤ n + f ∧ p'.size = p.size ∧ p'.Perm p ∧ Dn r p' n' ∧ Eqs r p' (n' - (q' + 1)) n':=by
 intro f
 induction f with
 | zero=>intro p n q hq hz hd he; exact ⟨p,n,q,rfl,hq,Nat.le_refl _,Nat.le_refl _,rfl,Array.Perm.refl _,hd,he⟩
 | succ f ih =>
  intro p n q hq hz hd he
  unfold kas_desc
  rw [W6]
  by_cases c:r (p.getD n 0) < r (p.getD (n - 1) 0)
  ·rw [az7 c,if_pos rfl]
   have step:∀ p1:Array Nat,p1.size = p.size → p1.Perm p → (∀ k,ky r p1 k = ky r p k) → ∃ p' n' q',ev (ltR r) (kas_desc f p1 (n + 1) 0) = (p',n',q') ∧ q' < n' ∧ n ≤ n' ∧ n' ≤ n + (f + 1) ∧ p'.size = p.size ∧ p'.Perm p ∧ Dn r p' n' ∧ Eqs r p' (n' - (q' + 1)) n':=fun p1 s1 pm hk=>by
    obtain ⟨p',n',q',e,a1,a2,a3,a4,a5,a6,a7⟩:=ih p1 (n + 1) 0 (by lia) (by lia) (fun i hi hb=>by
     rw [hk,hk]
     rcases Nat.lt_or_eq_of_le (Nat.le_of_lt_succ hb) with z | z
     ·exact hd i hi z
     ·subst z; exact Int.le_of_lt c) (fun i hi hb=>by lia)
    exact ⟨p',n',q',e,a1,by lia,by lia,a4.trans s1,a5.trans pm,a6,a7⟩
   by_cases cq:q > 0
   ·rw [if_pos cq]
    exact step _ (O1 _ _ _) (F5 _ _ _) (aw7 (by lia) he)
   ·rw [if_neg cq]
    exact step p rfl (Array.Perm.refl _) fun _=>rfl
  ·rw [aE1 c,if_neg (by simp)]
   rw [W6]
   by_cases d:r (p.getD (n - 1) 0) < r (p.getD n 0)
   ·rw [az7 d,if_pos rfl]
    exact ⟨p,n,q,rfl,hq,Nat.le_refl _,by lia,rfl,Array.Perm.refl _,hd,he⟩
   ·rw [aE1 d,if_neg (by simp)]
    have eqn:ky r p n = ky r p (n - 1):=Int.le_antisymm (Int.not_lt.mp d) (Int.not_lt.mp c)
    obtain ⟨p',n',q',e,a1,a2,a3,a4,a5,a6,a7⟩:=ih p (n + 1) (q + 1) (by lia) (by lia) (fun i hi hb=>by
     rcases Nat.lt_or_eq_of_le (Nat.le_of_lt_succ hb) with z | z
     ·exact hd i hi z
     ·subst z; exact Int.le_of_eq eqn) (fun i hi hb=>by
     rcases Nat.lt_or_eq_of_le (Nat.le_of_lt_succ hb) with z | z
     ·exact he i (by lia) z
     ·subst z; exact eqn)
    exact ⟨p',n',q',e,a1,by lia,by lia,a4,a5,a6,a7⟩
def Run (r:Nat → Int) (p:Array Nat) (nrem:Nat) (x:Nat × Array Nat):Prop:=x.1 ≤ nrem ∧ 1 ≤ x.1 ∧ x.2.size = p.size ∧ x.2.Perm p ∧ Up r x.2 x.1
theorem aE0 {p:Array Nat} {n nrem:Nat} (h1:1 ≤ n) (hn:n ≤ nrem) (hz:nrem ≤ p.size) (hd:Dn r p n):Run r p nrem (ev (ltR r) (kas_tail3 n nrem p)):=by
 unfold kas_tail3
 rw [U7]
 have hu:Up r (kas_rev p 0 n) n:=fun i hi hb=>by
  show r _ ≤ r _
  rw [ae9 (by lia),ae9 (by lia),if_pos (by lia),if_pos (by lia)]
  exact hd.mono (0 + n - 1 - i) (0 + n - 1 - (i - 1)) (by lia) (by lia)
 obtain ⟨a1,a2,a3,_⟩:=aX0 (kas_rev p 0 n) (nrem - n) n h1 hu
 exact ⟨by show ev (ltR r) _ ≤ _; lia,by show 1 ≤ ev (ltR r) _; lia,O1 _ _ _,F5 _ _ _,a3⟩
theorem Run.of {p p1:Array Nat} {nrem:Nat} {x:Nat × Array Nat} (h:Run r p1 nrem x) (s:p1.size = p.size) (m:p1.Perm p):Run r p nrem x:=⟨h.1,h.2.1,h.2.2.1.trans s,h.2.2.2.1.trans m,h.2.2.2.2⟩
theorem ac3 {p:Array Nat} {n nrem:Nat} (hn:n + 1 ≤ nrem) (hz:nrem ≤ p.size) (hd:Dn r p (n + 1)):Run r p nrem (ev (ltR r) (kas_descPart n nrem p)):=by
 unfold kas_descPart
 rw [U7]
 obtain ⟨p',n',q',e,a1,a2,a3,a4,a5,a6,a7⟩:=a95 (nrem - (n + 1)) p (n + 1) 0 (by lia) (by lia) hd (fun i hi hb=>by lia)
 rw [e]
 dsimp only
 by_cases c:q' > 0
 ·rw [if_pos c]
  have k:=aw7 (r:=r) (by lia) a7
  exact (aE0 (p:=kas_rev p' (n' - (q' + 1)) n') (by lia) (by lia) (by rw [O1]; lia) (fun i hi hb=>by rw [k,k]; exact a6 i hi hb)).of ((O1 _ _ _).trans a4) ((F5 _ _ _).trans a5)
 ·rw [if_neg c]
  exact (aE0 (p:=p') (by lia) (by lia) (by lia) a6).of a4 a5
theorem ay3 {p:Array Nat} {nrem:Nat} (h1:1 ≤ nrem) (hz:nrem ≤ p.size):Run r p nrem (ev (ltR r) (kas_count nrem p)):=by
 unfold kas_count
 rw [U7]
 obtain ⟨a1,a2,a3,a4⟩:=aX0 (r:=r) p (nrem - 1) 1 (Nat.le_refl _) (fun i hi hb=>by lia)
 generalize ev (ltR r) (kas_asc p (nrem - 1) 1) = n at *
 by_cases c:(n == nrem) = true
 ·rw [if_pos c]
  exact ⟨by show n ≤ nrem; lia,a1,rfl,Array.Perm.refl _,a3⟩
 ·rw [if_neg c]
  have hne:n ≠ nrem:=by simpa using c
  have stop:=a4 (by lia)
  by_cases c2:n > 1
  ·rw [if_pos c2]
   rw [W6]
   by_cases d:r (p.getD 0 0) < r (p.getD (n - 1) 0)
   ·rw [az7 d,if_pos rfl]
    exact ⟨by show n ≤ nrem; lia,a1,rfl,Array.Perm.refl _,a3⟩
   ·rw [aE1 d,if_neg (by simp)]
    have eqs:Eqs r p 0 n:=fun i hi hb=>by
     have q1:=a3.mono 0 (i - 1) (by lia) (by lia)
     have q2:=a3.mono (i - 1) i (by lia) hb
     have q3:=a3.mono i (n - 1) (by lia) (by lia)
     have q4:ky r p (n - 1) ≤ ky r p 0:=Int.not_lt.mp d
     lia
    have k:=aw7 (r:=r) (by lia) eqs
    refine (ac3 (p:=kas_rev p 0 n) (by lia) (by rw [O1]; exact hz) (fun i hi hb=>?_)).of (O1 _ _ _) (F5 _ _ _)
    rw [k,k]
    rcases Nat.lt_or_eq_of_le (Nat.le_of_lt_succ hb) with z | z
    ·exact Int.le_of_eq (eqs i hi z)
    ·subst z; exact Int.le_of_lt stop
  ·rw [if_neg c2]
   obtain rfl:n = 1:=by lia
   exact ac3 (by lia) hz (fun i hi hb=>by
    obtain rfl:i = 1:=by lia
    exact Int.le_of_lt stop)
theorem a86 {p:Array Nat} {k:Nat} (hu:Up r p k):∀ f l m,m - l ≤ f → l ≤ m → m ≤ k → (∀ i,i < l → ky r p i ≤ ky r p k) → (∀ i,m ≤ i → i < k → ky r p k < ky r p i) →
  ev (ltR r) (kas_place p k f l m) ≤ k ∧ (∀ i,i < ev (ltR r) (kas_place p k f l m) → ky r p i ≤ ky r p k) ∧ ∀ i,ev (ltR r) (kas_place p k f l m) ≤ i → i < k → ky r p k < ky r p i:=by
 intro f
 induction f with
 | zero =>
  intro l m h1 h2 h3 h4 h5
  obtain rfl:l = m:=by lia
  exact ⟨h3,h4,h5⟩
 | succ f ih =>
  intro l m h1 h2 h3 h4 h5
  unfold kas_place
  by_cases c:l ≥ m
  ·rw [if_pos c]
   obtain rfl:l = m:=by lia
   exact ⟨h3,h4,h5⟩
  ·rw [if_neg c]
   rw [W6]
   by_cases d:r (p.getD k 0) < r (p.getD ((l + m) / 2) 0)
   ·rw [az7 d,if_pos rfl]
    refine ih l ((l + m) / 2) (by lia) (by lia) (by lia) h4 (fun i hi hb=>?_)
    exact Int.lt_of_lt_of_le d (hu.mono _ i hi hb)
   ·rw [aE1 d,if_neg (by simp)]
    refine ih ((l + m) / 2 + 1) m (by lia) (by lia) h3 (fun i hi=>?_) h5
    exact Int.le_trans (hu.mono i ((l + m) / 2) (by lia) (by lia)) (Int.not_lt.mp d)
theorem ac8 {p:Array Nat} {k l:Nat} (hk:k < p.size) (hl:l ≤ k) (i:Nat):(bubble p k (k - l)).getD i 0 = if i = l then p.getD k 0 else if l < i ∧ i ≤ k then p.getD (i - 1) 0 else p.getD i 0:=by
 have e:=getElem?_bubble hk (k - l) (by lia) i
 rw [show k - (k - l) = l by lia] at e
 rw [Array.getD_eq_getD_getElem?,e]
 by_cases c1:i = l
 ·rw [if_pos c1,if_pos c1,Array.getD_eq_getD_getElem?]
 ·rw [if_neg c1,if_neg c1]
  by_cases c2:l < i ∧ i ≤ k
  ·rw [if_pos c2,if_pos c2,Array.getD_eq_getD_getElem?]
  ·rw [if_neg c2,if_neg c2,Array.getD_eq_getD_getElem?]
theorem bj3:∀ (f:Nat) (p:Array Nat) (k:Nat),k + f ≤ p.size → Up r p k → (ev (ltR r) (kas_bin f p k)).Perm p ∧ Up r (ev (ltR r) (kas_bin f p k)) (k + f):=by
 intro f
 induction f with
 | zero=>intro p k hz hu; exact ⟨Array.Perm.refl _,hu⟩
 | succ f ih =>
  intro p k hz hu
  unfold kas_bin
  rw [U7]
  obtain ⟨b1,b2,b3⟩:=a86 hu k 0 k (by lia) (by lia) (Nat.le_refl _) (fun i hi=>absurd hi (by lia)) (fun i hi hb=>absurd hb (by lia))
  generalize ev (ltR r) (kas_place p k k 0 k) = l at *
  have hk:k < p.size:=by lia
  obtain ⟨c1,c2⟩:=ih (bubble p k (k - l)) (k + 1) (by rw [bubble_size]; lia) (fun i hi hb=>by
   show r _ ≤ r _
   rw [ac8 hk b1,ac8 hk b1]
   by_cases e1:i - 1 = l
   ·rw [if_pos e1,if_neg (show ¬ i = l by lia),if_pos (by lia)]
    have:=b3 (i - 1) (by lia) (by lia)
    exact Int.le_of_lt this
   ·rw [if_neg e1]
    by_cases e2:i = l
    ·rw [if_pos e2,if_neg (by lia)]
     exact b2 (i - 1) (by lia)
    ·rw [if_neg e2]
     by_cases e3:l < i
     ·rw [if_pos (by lia),if_pos (by lia)]
      exact hu (i - 1) (by lia) (by lia)
     ·rw [if_neg (by lia),if_neg (by lia)]
      exact hu i hi (by lia))
  exact ⟨c1.trans (bubble_perm _ _ _),by rw [show k + (f + 1) = k + 1 + f by lia]; exact c2⟩
theorem bc2 {n:Nat} (hn:1 ≤ n):(ev (ltR r) (kas_sort n)).Perm (List.range n).toArray ∧ Up r (ev (ltR r) (kas_sort n)) n:=by
 unfold kas_sort
 rw [U7]
 obtain ⟨h1,h2,h3,h4,h5⟩:=ay3 (r:=r) (p:=(List.range n).toArray) (nrem:=n) hn (by simp)
 generalize ev (ltR r) (kas_count n (List.range n).toArray) = x at *
 have hs:x.2.size = n:=by rw [h3]; simp
 by_cases c:x.1 < n
 ·rw [if_pos c]
  have hm:max x.1 1 = x.1:=by lia
  rw [hm]
  obtain ⟨c1,c2⟩:=bj3 (r:=r) (n - x.1) x.2 x.1 (by lia) h5
  rw [show x.1 + (n - x.1) = n by lia] at c2
  exact ⟨c1.trans h4,c2⟩
 ·rw [if_neg c]
  have:x.1 = n:=by lia
  rw [this] at h5
  exact ⟨h4,h5⟩
def W0 {α:Type} (lt:Nat → Nat → Bool) (n:Nat):KasT α → Prop
 | .ret _=>True
 | .ask i j k=>i < n ∧ j < n ∧ W0 lt n (k (lt i j))
theorem W0.bind {α β:Type} {lt:Nat → Nat → Bool} {n:Nat} {f:α → KasT β}:∀ {t:KasT α},W0 lt n t → W0 lt n (f (ev lt t)) → W0 lt n (t.bind f)
 | .ret _,_,h=>h
 | .ask i j k,h,h'=>⟨h.1,h.2.1,W0.bind (t:=k (lt i j)) h.2.2 h'⟩
def InN (n:Nat) (p:Array Nat):Prop:=0 < n ∧ ∀ x ∈ p.toList,x < n
theorem InN.at {n:Nat} {p:Array Nat} (h:InN n p) (k:Nat):p.getD k 0 < n:=by
 rw [Array.getD_eq_getD_getElem?]
 cases e:p[k]? with
 | none=>exact h.1
 | some x=>exact h.2 x (by rw [Array.mem_toList_iff]; exact Array.mem_of_getElem? e)
theorem InN.perm {n:Nat} {p p':Array Nat} (h:InN n p) (m:p'.Perm p):InN n p':=⟨h.1,fun x hx=>h.2 x (by
 rw [Array.mem_toList_iff] at hx ⊢
 exact (Array.Perm.mem_iff m).mp hx)⟩
variable {n₀:Nat}
theorem ag7 {p:Array Nat} (h:InN n₀ p):∀ f n,W0 (ltR r) n₀ (kas_asc p f n)
 | 0,_=>True.intro
 | f + 1,n=>by
  unfold kas_asc
  refine ⟨h.at _,h.at _,?_⟩
  dsimp only
  split
  ·exact True.intro
  ·exact ag7 h f (n + 1)
theorem U4:∀ (f:Nat) {p:Array Nat} (n q:Nat),InN n₀ p → W0 (ltR r) n₀ (kas_desc f p n q)
 | 0,_,_,_,_=>True.intro
 | f + 1,p,n,q,h=>by
  unfold kas_desc
  refine ⟨h.at _,h.at _,?_⟩
  dsimp only
  split
  ·split
   ·exact U4 f _ _ (h.perm (F5 _ _ _))
   ·exact U4 f _ _ h
  ·refine ⟨h.at _,h.at _,?_⟩
   dsimp only
   split
   ·exact True.intro
   ·exact U4 f _ _ h
theorem T8:∀ (f:Nat) (p:Array Nat) (n q:Nat),(ev (ltR r) (kas_desc f p n q)).1.Perm p
 | 0,p,_,_=>Array.Perm.refl _
 | f + 1,p,n,q=>by
  unfold kas_desc
  rw [W6]
  split
  ·split
   ·exact (T8 f _ _ _).trans (F5 _ _ _)
   ·exact T8 f _ _ _
  ·rw [W6]
   split
   ·exact Array.Perm.refl _
   ·exact T8 f _ _ _
theorem af4 {p:Array Nat} (n nrem:Nat) (h:InN n₀ p):W0 (ltR r) n₀ (kas_tail3 n nrem p):=(ag7 (h.perm (F5 _ _ _)) _ _).bind True.intro
theorem V6 {p:Array Nat} (n nrem:Nat) (h:InN n₀ p):W0 (ltR r) n₀ (kas_descPart n nrem p):=by
 refine (U4 _ _ _ h).bind ?_
 have pm:=T8 (r:=r) (nrem - (n + 1)) p (n + 1) 0
 split
 ·exact af4 _ _ ((h.perm pm).perm (F5 _ _ _))
 ·exact af4 _ _ (h.perm pm)
theorem aL2 {p:Array Nat} (nrem:Nat) (h:InN n₀ p):W0 (ltR r) n₀ (kas_count nrem p):=by
 refine (ag7 h _ _).bind ?_
 split
 ·exact True.intro
 ·split
  ·refine ⟨h.at _,h.at _,?_⟩
   dsimp only
   split
   ·exact True.intro
   ·exact V6 _ _ (h.perm (F5 _ _ _))
  ·exact V6 _ _ h
theorem W1 {p:Array Nat} {k:Nat} (h:InN n₀ p):∀ f l m,W0 (ltR r) n₀ (kas_place p k f l m)
 | 0,_,_=>True.intro
 | f + 1,l,m=>by
  unfold kas_place
  split
  ·exact True.intro
  ·refine ⟨h.at _,h.at _,?_⟩
   dsimp only
   split
   ·exact W1 h f _ _
   ·exact W1 h f _ _
theorem ax5:∀ (f:Nat) {p:Array Nat} (k:Nat),InN n₀ p → W0 (ltR r) n₀ (kas_bin f p k)
 | 0,_,_,_=>True.intro
 | f + 1,p,k,h=>(W1 h _ _ _).bind (ax5 f _ (h.perm (bubble_perm _ _ _)))
theorem aR1 {n:Nat} (hn:1 ≤ n):W0 (ltR r) n (kas_sort n):=by
 have h:InN n (List.range n).toArray:=⟨hn,fun x hx=>by simpa using hx⟩
 refine (aL2 n h).bind ?_
 obtain ⟨h1,h2,h3,h4,h5⟩:=ay3 (r:=r) (p:=(List.range n).toArray) (nrem:=n) hn (by simp)
 split
 ·exact ax5 _ _ (h.perm h4)
 ·exact True.intro
theorem bd9 {cmp:Nat → Nat → (Bool → Shared → Prop) → Shared → Prop} {J:Shared → Prop} {n:Nat} {lt:Nat → Nat → Bool} {α:Type} (hc:∀ i j C s,i < n → j < n → J s → (∀ s',J s' → C (lt i j) s') → cmp i j C s) :
  ∀ (t:KasT α) (s:Shared) (Q:α → Shared → Prop),W0 lt n t → J s → (∀ s',J s' → Q (ev lt t) s') → t.kasWp cmp Q s
 | .ret a,s,Q,_,hJ,h=>h s hJ
 | .ask i j k,s,Q,ha,hJ,h=>hc i j _ s ha.1 ha.2.1 hJ fun s' hJ'=>bd9 hc (k (lt i j)) s' Q ha.2.2 hJ' h
theorem a70 {α:Type} {xs:List α} {r:Nat → Int} {p:Array Nat} (hp:p.Perm (List.range xs.length).toArray) (hu:Up r p xs.length) (d:α) (key:α → Int) (hk:∀ i,i < xs.length → r i = key (xs.getD i d)) :
  (p.toList.map fun i=>xs.getD i d).Perm xs ∧ (p.toList.map fun i=>xs.getD i d).Pairwise (fun a b=>key a ≤ key b):=by
 have hpl:p.toList.Perm (List.range xs.length):=by simpa using Array.perm_iff_toList_perm.mp hp
 have hlen:p.toList.length = xs.length:=by simpa using hpl.length_eq
 constructor
 ·refine (hpl.map _).trans ?_
  have:(List.range xs.length).map (fun i=>xs.getD i d) = xs:=by
   apply List.ext_getElem
   ·simp
   ·intro i h1 h2
    simp [List.getD,h2]
  rw [this]
 ·rw [List.pairwise_iff_getElem]
  intro i j hi hj hij
  rw [List.length_map] at hi hj
  rw [List.getElem_map,List.getElem_map]
  have m:∀ k (hk:k < p.toList.length),p.toList[k] < xs.length:=fun k hk=>by
   have:=hpl.mem_iff.mp (List.getElem_mem hk)
   simpa using this
  rw [← hk _ (m i hi),← hk _ (m j hj)]
  have q:=hu.mono i j (by lia) (by lia)
  have e:∀ k (hk:k < p.toList.length),p.getD k 0 = p.toList[k]:=fun k hk=>by
   have hk':k < p.size:=by simpa using hk
   simp [Array.getD,hk']
  rw [ky,ky,e i hi,e j hj] at q
  exact q
end
end L2
namespace L2
open PySem PySem.Spec PyProof.Rows
def ab0 (x:Int):List Int → List Int
 | []=>[x]
 | y :: r=>if x < y then x :: y :: r else if x = y then y :: r else y :: ab0 x r
def w4 (ns:List Int):List Int:=ns.foldr ab0 []
theorem af3 (x k:Int):∀ l:List Int,k ∈ ab0 x l ↔ k = x ∨ k ∈ l
 | []=>by simp [ab0]
 | y :: r=>by
  unfold ab0
  split
  ·simp
  ·split
   ·rename_i h; subst h; simp
   ·rw [List.mem_cons,af3 x k r,List.mem_cons]
    constructor
    ·rintro (h | h | h)
     ·exact .inr (.inl h)
     ·exact .inl h
     ·exact .inr (.inr h)
    ·rintro (h | h | h)
     ·exact .inr (.inl h)
     ·exact .inl h
     ·exact .inr (.inr h)
theorem aq5 (x:Int):∀ l:List Int,l.Pairwise (· < ·) → (ab0 x l).Pairwise (· < ·)
 | [],_=>by simp [ab0]
 | y :: r,h=>by
  rw [List.pairwise_cons] at h
  unfold ab0
  split
  ·rename_i hlt
   rw [List.pairwise_cons,List.pairwise_cons]
   refine ⟨fun a ha=>?_,h⟩
   rcases List.mem_cons.mp ha with rfl | ha
   ·exact hlt
   ·exact Int.lt_trans hlt (h.1 a ha)
  ·split
   ·rw [List.pairwise_cons]; exact h
   ·rename_i h1 h2
    rw [List.pairwise_cons]
    refine ⟨fun a ha=>?_,aq5 x r h.2⟩
    rcases (af3 x a r).mp ha with rfl | ha
    ·lia
    ·exact h.1 a ha
theorem B1 (k:Int):∀ ns:List Int,k ∈ w4 ns ↔ k ∈ ns
 | []=>Iff.rfl
 | x :: r=>by
  show k ∈ ab0 x (w4 r) ↔ _
  rw [af3,B1 k r,List.mem_cons]
theorem A3:∀ ns:List Int,(w4 ns).Pairwise (· < ·)
 | []=>List.Pairwise.nil
 | x :: r=>aq5 x _ (A3 r)
theorem y6 {l:List Int} (h:l.Pairwise (· < ·)):l.Nodup:=h.imp fun {a b} q e=>by rw [e] at q; exact Int.lt_irrefl _ q
theorem C2:∀ (l1 l2:List Int),l1.Nodup → (∀ x ∈ l1,x ∈ l2) → l2.length ≤ l1.length → l1.Perm l2
 | [],l2,_,_,h=>by
  have:l2 = []:=List.eq_nil_of_length_eq_zero (by simpa using h)
  subst this; exact List.Perm.refl _
 | a :: r,l2,hn,hs,hl=>by
  rw [List.nodup_cons] at hn
  have ha:=hs a List.mem_cons_self
  have p:=List.perm_cons_erase ha
  refine ((C2 r (l2.erase a) hn.2 (fun x hx=>?_) ?_).cons a).trans p.symm
  ·have hne:x ≠ a:=fun e=>hn.1 (e ▸ hx)
   exact (List.mem_erase_of_ne hne).mpr (hs x (List.mem_cons_of_mem _ hx))
  ·have:=p.length_eq
   rw [List.length_cons] at this hl
   lia
theorem aF7:∀ {l1 l2:List Int},l1.Pairwise (· < ·) → l2.Pairwise (· < ·) → (∀ k,k ∈ l1 ↔ k ∈ l2) → l1 = l2
 | [],[],_,_,_=>rfl
 | [],b :: r,_,_,h=>absurd ((h b).mpr List.mem_cons_self) (by simp)
 | a :: r,[],_,_,h=>absurd ((h a).mp List.mem_cons_self) (by simp)
 | a :: r,b :: t,h1,h2,h=>by
  rw [List.pairwise_cons] at h1 h2
  have e:a = b:=by
   rcases List.mem_cons.mp ((h a).mp List.mem_cons_self) with q | q
   ·exact q
   ·rcases List.mem_cons.mp ((h b).mpr List.mem_cons_self) with q' | q'
    ·exact q'.symm
    ·have z1:=h2.1 a q
     have z2:=h1.1 b q'
     lia
  subst e
  have:r = t:=aF7 h1.2 h2.2 fun k=>by
   have q:=h k
   rw [List.mem_cons,List.mem_cons] at q
   constructor
   ·intro hk
    rcases q.mp (.inr hk) with e | z
    ·have:=h1.1 k hk; lia
    ·exact z
   ·intro hk
    rcases q.mpr (.inr hk) with e | z
    ·have:=h2.1 k hk; lia
    ·exact z
  rw [this]
theorem aS0 {ns' ns:List Int} (hp:ns'.Pairwise (· ≤ ·)) (hm:∀ k,k ∈ ns' ↔ k ∈ ns) (hl:ns'.length = (w4 ns).length):ns' = w4 ns:=by
 have pm:=C2 (w4 ns) ns' (y6 (A3 ns)) (fun x hx=>(hm x).mpr ((B1 x ns).mp hx)) (Nat.le_of_eq hl)
 have nd:ns'.Nodup:=pm.nodup_iff.mp (y6 (A3 ns))
 refine aF7 ((hp.and nd).imp fun {a b} q=>?_) (A3 ns) fun k=>by rw [hm,B1]
 have:=q.1
 have:=q.2
 lia
theorem O4 (ns:List Int) (k:Int):(firstMet (fun i=>ns.getD i 0) ns.length).any (· == k) = decide (k ∈ ns):=by
 rw [firstMet_any]
 have e:(List.range ns.length).map (fun i=>ns.getD i 0) = ns:=by
  apply List.ext_getElem
  ·simp
  ·intro i h1 h2
   simp [List.getD,h2]
 rw [e,Bool.eq_iff_iff,List.any_eq_true,decide_eq_true_iff]
 constructor
 ·rintro ⟨x,hx,q⟩
  rw [← eq_of_beq q]; exact hx
 ·intro h
  exact ⟨k,h,beq_self_eq_true k⟩
theorem R6 (val:Nat → Int):∀ i,(firstMet val i).Nodup
 | 0=>List.nodup_nil
 | i + 1=>by
  rw [firstMet_succ]
  unfold step_dedup
  have ih:=R6 val i
  by_cases h:(firstMet val i).any (· == val i) = true
  ·rw [if_pos h]; exact ih
  ·rw [if_neg h,List.nodup_append]
   refine ⟨ih,by simp,fun a ha b hb e=>h ?_⟩
   rw [List.mem_singleton] at hb
   rw [List.any_eq_true]
   exact ⟨a,ha,by rw [e,hb]; exact beq_self_eq_true _⟩
theorem Y5 (ns:List Int):(firstMet (fun i=>ns.getD i 0) ns.length).length = (w4 ns).length:=by
 have m:∀ k,k ∈ firstMet (fun i=>ns.getD i 0) ns.length ↔ k ∈ ns:=fun k=>by
  have:=O4 ns k
  rw [Bool.eq_iff_iff,List.any_eq_true,decide_eq_true_iff] at this
  rw [← this]
  exact ⟨fun h=>⟨k,h,beq_self_eq_true k⟩,fun ⟨x,hx,q⟩=>by rw [← eq_of_beq q]; exact hx⟩
 have n1:=R6 (fun i=>ns.getD i 0) ns.length
 have n2:=y6 (A3 ns)
 rcases Nat.le_total (firstMet (fun i=>ns.getD i 0) ns.length).length (w4 ns).length with h | h
 ·exact (C2 (w4 ns) _ n2 (fun x hx=>(m x).mpr ((B1 x ns).mp hx)) h).length_eq.symm
 ·exact (C2 _ (w4 ns) n1 (fun x hx=>(B1 x ns).mpr ((m x).mp hx)) h).length_eq
theorem T7 (ns:List Int):(w4 ns).length ≤ ns.length:=by
 induction ns with
 | nil=>exact Nat.le_refl _
 | cons x r ih =>
  have:∀ l:List Int,(ab0 x l).length ≤ l.length + 1:=by
   intro l
   induction l with
   | nil=>simp [ab0]
   | cons y t ih =>
    unfold ab0; split <;> try split
    all_goals simp only [List.length_cons]
    all_goals lia
  have q:=this (w4 r)
  show (ab0 x (w4 r)).length ≤ _
  rw [List.length_cons]
  lia
section
variable {X:Cx}
def ax7 (X:Cx) (l:Addr) (ns:List Int):HO:=.ext fun h=>K5 (intKind X.prog X.w) h l (fun k=>decide (k ∈ ns)) (w4 ns).length
theorem al4 (hc:X.calm = true):y4 X (.type "set") (fun xs H Q=>∃ (p:Addr) (ns:List Int),xs = [.ref p] ∧ SqL X.K H p (ns.map V.int) ∧ ns.length < 4000 ∧ ∀ l,H l = none → Q (.ref l) (upd H l (ax7 X l ns))):=by
 intro pins s σ H xs us Q I r h
 obtain ⟨p,ns,rfl,hq,hlt,q⟩:=h
 obtain ⟨u,rfl,rx⟩:=J5 r
 cases rx
 obtain ⟨its,r',pl,hz⟩:=I.list hq
 have hi:IntsAre its ns:=K0 r'
 have hlen:its.length = ns.length:=hi.length
 refine aA8 (I.ok.hd hc) pl.isList (ns:=ns) (by simpa using hi) (by show its.toArray.size + 1 < 4096; rw [List.size_toArray]; lia) fun h' tk x kp=>?_
 have x':K5 (intKind X.prog X.w) h' s.heap.objs.size (fun k=>decide (k ∈ ns)) (w4 ns).length:=x.congr (fun k=>by
  rw [List.size_toArray,hlen]; exact O4 ns k) (by rw [List.size_toArray,hlen]; exact Y5 ns)
 have he:∃ o,h'.get? s.heap.objs.size = some o:=let ⟨o,_,_,_,e,_⟩:=x'; ⟨o,e⟩
 exact ⟨.ref s.heap.objs.size,_,I.laid (t':=tk) (o:=ax7 X s.heap.objs.size ns) (fun b o e=>kp b o (Heap.lt_size e) e) (Nat.le_refl _) ⟨x',he,fun h1 h2 y k=>y.of_get k⟩,rfl,q _ (I.hok.fresh (Nat.le_refl _))⟩
theorem aP8 {pins:List (Addr × Obj)} {σ:St} {H:Hp} {s:Shared} {p:Addr} {ns:List Int} (I:Inv X pins σ H s) (e:H p = some (ax7 X p ns)):K5 (intKind X.prog X.w) s.heap p (fun k=>decide (k ∈ ns)) (w4 ns).length :=
 (show x6 X.prog X.w H s.heap p (ax7 X p ns) from I.hok p _ e).1
theorem ad2 (hc:X.calm = true):y4 X (.builtin "sorted") (fun xs H Q=>∃ (p:Addr) (ns:List Int),xs = [.ref p] ∧ H p = some (ax7 X p ns) ∧ ns.length < 64 ∧ ∀ l,H l = none → Q (.ref l) (upd H l (.lst ((w4 ns).map V.int)))):=by
 intro pins s σ H xs us Q I r h
 obtain ⟨p,ns,rfl,he,hlt,q⟩:=h
 obtain ⟨u,rfl,rx⟩:=J5 r
 cases rx
 have hl:=T7 ns
 refine aH8 (I.ok.hd hc) (aP8 I he) (by lia) fun l h' d tk e out ns' a1 a2 a3 a4 hlz kp g=>?_
 have e2:ns' = w4 ns:=aS0 a2 (fun k=>by rw [a3,decide_eq_true_iff]) a4
 subst e2
 have fr:=I.hok.fresh hlz
 have new:x6 X.prog X.w (upd H l (.lst ((w4 ns).map V.int))) h' l (.lst ((w4 ns).map V.int)):=⟨by rw [List.length_map]; exact Nat.le_of_lt (j9 (by lia)),out.toList,e,N8 a1,by simpa [seqObj] using g⟩
 exact ⟨.ref l,_,I.call' (s':={ s with heap:=h',drawn:=d,toks:=tk }) (ch:=[]) rfl (Un.track (Un.kept kp) hlz fr) (HOk.track (I.hok.kept kp) fr new) I.bare (fun b z=>nomatch z),rfl,q l fr⟩
theorem call_len_set:y4 X (.builtin "len") (fun xs H Q=>∃ (p:Addr) (ns:List Int),xs = [.ref p] ∧ H p = some (ax7 X p ns) ∧ Q (.int (w4 ns).length) H):=by
 intro pins s σ H xs us Q I r h
 obtain ⟨p,ns,rfl,he,q⟩:=h
 obtain ⟨u,rfl,rx⟩:=J5 r
 cases rx
 obtain ⟨o,es,ep,t,ho,hx,hd,⟨el,mem,hb,hf,hn⟩,J⟩:=aP8 I he
 refine PySem.call_len_set ho hx hd hf (by have h4:es.size < 4096:=hb; lia) ?_
 rw [hn]
 exact ⟨.int (w4 ns).length,H,I.tok _,⟨_,rfl⟩,q⟩
end
def EqV (X:Cx) (H:Hp) (n:Nat) (x y:V) (b:Bool):Prop :=
 ∀ (A:Around) (pins:List (Addr × Obj)) (s:Shared) (σ:St) (u v:Value),Inv X pins σ H s → t6 x u → t6 y v → A.units + n < cLine → SeqAt.EqAt A s u v b
structure EqRep (X:Cx) {δ:Type} [DecidableEq δ] (n:Nat) (R:Hp → V → δ → Prop):Prop where
 eq:∀ H x y dx dy,R H x dx → R H y dy → EqV X H n x y (decide (dx = dy))
 fn:∀ pins s σ H x d d',Inv X pins σ H s → R H x d → R H x d' → d = d'
section
variable {X:Cx}
variable {δ:Type} [DecidableEq δ] {n:Nat} {R:Hp → V → δ → Prop}
def bo9 (K:PySem.W.Frag) (R:Hp → V → δ → Prop):Hp → V → List δ → Prop:=fun H x ds=>∃ a xs,x = .ref a ∧ SqT K H a xs ∧ Paired (R H) xs ds
theorem j7 {α β:Type} {Rl:α → β → Prop}:∀ {xs:List α} {ds:List β},Paired Rl xs ds → ∀ (i:Nat) (x:α),xs[i]? = some x → ∃ d,ds[i]? = some d ∧ Rl x d
 | _,_,.nil,i,x,h=>by simp at h
 | _,_,.cons r t,0,x,h=>by simp at h; subst h; exact ⟨_,rfl,r⟩
 | _,_,.cons r t,i + 1,x,h=>by
  obtain ⟨d,e,q⟩:=j7 t i x (by simpa using h)
  exact ⟨d,by simpa using e,q⟩
theorem ba4 (ds ds':List δ) (h:ds.length = ds'.length):((List.range ds.length).all fun j=>decide (ds[j]? = ds'[j]?)) = decide (ds = ds'):=by
 rw [Bool.eq_iff_iff,List.all_eq_true,decide_eq_true_iff]
 constructor
 ·intro q
  apply List.ext_getElem?
  intro i
  by_cases hi:i < ds.length
  ·exact of_decide_eq_true (q i (by simpa using hi))
  ·rw [List.getElem?_eq_none (by lia),List.getElem?_eq_none (by lia)]
 ·rintro rfl i hi
  simp
theorem aZ8 (ep:EqRep X n R) {H:Hp} {A:Around} {pins:List (Addr × Obj)} {s:Shared} {σ:St} (I:Inv X pins σ H s) {xs ys:List V} {ds ds':List δ} {us vs:List Value} (hx:Paired (R H) xs ds) (hy:Paired (R H) ys ds') (ru:r6 xs us) (rv:r6 ys vs)
  (hu:A.units + n < cLine):∀ j (h1:j < us.toArray.size) (h2:j < vs.toArray.size),SeqAt.EqAt A s us.toArray[j] vs.toArray[j] (decide (ds[j]? = ds'[j]?)):=fun j h1 h2=>by
 have l1:=ru.length
 have l2:=rv.length
 rw [List.size_toArray] at h1 h2
 have e1:xs[j]? = some (xs[j]'(by lia)):=List.getElem?_eq_getElem _
 have e2:ys[j]? = some (ys[j]'(by lia)):=List.getElem?_eq_getElem _
 obtain ⟨d,q1,r1⟩:=j7 hx j _ e1
 obtain ⟨d',q2,r2⟩:=j7 hy j _ e2
 obtain ⟨u,w1,s1⟩:=ru.get e1
 obtain ⟨v,w2,s2⟩:=rv.get e2
 have z1:us.toArray[j] = u:=by rw [List.getElem?_eq_getElem h1] at w1; simpa using w1
 have z2:vs.toArray[j] = v:=by rw [List.getElem?_eq_getElem h2] at w2; simpa using w2
 rw [z1,z2,q1,q2]
 have:decide (some d = some d') = decide (d = d'):=by rw [Bool.eq_iff_iff]; simp
 rw [this]
 exact ep.eq H _ _ _ _ r1 r2 A pins s σ u v I s1 s2 hu
theorem aa2 (ep:EqRep X n R) {H:Hp} {pins:List (Addr × Obj)} {s:Shared} {σ:St} (I:Inv X pins σ H s):∀ {xs:List V} {ds ds':List δ},Paired (R H) xs ds → Paired (R H) xs ds' → ds = ds'
 | _,_,_,.nil,.nil=>rfl
 | _,_,_,.cons r t,.cons r' t'=>by rw [ep.fn pins s σ H _ _ _ I r r',aa2 ep I t t']
theorem be5 (ep:EqRep X n R):EqRep X (n + 1) (bo9 X.K R) where
 eq:=fun H x y dx dy hx hy A pins s σ u v I ru rv hu=>by
  obtain ⟨a,xs,rfl,ha,px⟩:=hx
  obtain ⟨b,ys,rfl,hb,py⟩:=hy
  cases ru
  cases rv
  by_cases hab:a = b
  ·subst hab
   have:=I.tuple_inj ha hb
   subst this
   rw [aa2 ep I px py,decide_eq_true rfl]
   exact SeqAt.EqAt.same _
  ·obtain ⟨us,r1,p1,_⟩:=I.tuple ha
   obtain ⟨vs,r2,p2,_⟩:=I.tuple hb
   have l1:=r1.length
   have l2:=r2.length
   have l3:=Paired.length px
   have l4:=Paired.length py
   have:=SeqAt.RcAt.tuples (A:=A) (e:=fun j=>decide (dx[j]? = dy[j]?)) p1 p2 (by lia) (aZ8 ep I px py r1 r2 (by show A.units + 1 + n < cLine; lia))
   refine SeqAt.EqAt.of_refs hab ?_
   have e:((List.range (min us.toArray.size vs.toArray.size)).all (fun j=>decide (dx[j]? = dy[j]?)) && us.toArray.size == vs.toArray.size) = decide (dx = dy):=by
    rw [List.size_toArray,List.size_toArray]
    by_cases hl:dx.length = dy.length
    ·rw [show min us.length vs.length = dx.length by lia,ba4 dx dy hl,show (us.length == vs.length) = true by simp; lia,Bool.and_true]
    ·rw [show (us.length == vs.length) = false by simp; lia,Bool.and_false,decide_eq_false (fun z=>hl (by rw [z]))]
   rw [← e]
   exact this
 fn:=fun pins s σ H x d d' I h h'=>by
  obtain ⟨a,xs,rfl,ha,px⟩:=h
  obtain ⟨b,ys,e,hb,py⟩:=h'
  cases e
  have:=I.tuple_inj ha hb
  subst this
  exact aa2 ep I px py
end
end L2
namespace L2
open PySem PySem.Spec PyProof.Rows PySem.W
def O6:List V → List V → Option Bool
 | [],[]=>some false
 | [],_ :: _=>some true
 | _ :: _,[]=>some false
 | .int a :: r,.int b :: r'=>if a = b then O6 r r' else some (decide (a < b))
 | .ref a :: r,.ref b :: r'=>if a = b then O6 r r' else none
 | _,_=>none
section
variable {prog:Program} {w:World} {A:Around} {E:Value → Shared → Prop} {s:Shared}
theorem bb8 {a b:Int} {t u:Tok} {k:Bool} {Q:Bool → Shared → Prop} (h:Q (decide (a < b)) s):wpAny (model prog w) A (oneLt' k (.int a t) (.int b u)) Q E s:=by
 cases k with
 | true=>exact oneLt_int h
 | false=>exact kat_one _ _ (lt_int (show PySem.W.BoolBack Q (.bool (decide (a < b))) s from h))
theorem ah9 {b fin:Bool} {Q:Bool → Shared → Prop}:∀ (xs ys:List V) (us vs:List Value) (i:Nat) (c:Bool),r6 xs us → r6 ys vs → O6 xs ys = some c → fin = decide (us.length < vs.length) → Q c s → KatLex prog w A b fin Q (us.zip vs) i s
 | [],[],_,_,i,c,.nil,.nil,h,hf,q=>by
  have e:c = false:=by simpa [O6] using h.symm
  subst e
  refine kat_nil ?_
  rw [hf]; exact q
 | [],y :: ys,_,_,i,c,.nil,.cons _ _,h,hf,q=>by
  have e:c = true:=by simpa [O6] using h.symm
  subst e
  refine kat_nil ?_
  rw [hf,decide_eq_true (by simp)]; exact q
 | x :: xs,[],_,_,i,c,.cons _ _,.nil,h,hf,q=>by
  have e:c = false:=by cases x <;> simpa [O6] using h.symm
  subst e
  refine kat_nil ?_
  rw [hf,decide_eq_false (by simp)]; exact q
 | x :: xs,y :: ys,u :: us,v :: vs,i,c,.cons rx tx,.cons ry ty,h,hf,q=>by
  have hf':fin = decide (us.length < vs.length):=by
   rw [hf,List.length_cons,List.length_cons]
   rw [Bool.eq_iff_iff,decide_eq_true_iff,decide_eq_true_iff]
   lia
  rw [List.zip_cons_cons]
  cases x with
  | int m =>
   cases y with
   | int k =>
    obtain ⟨t,rfl⟩:=rx
    obtain ⟨t',rfl⟩:=ry
    refine kat_cons (wpAny_eqBool_int ?_)
    by_cases e:m = k
    ·rw [show (m == k) = true by simpa using e]
     have h':O6 xs ys = some c:=by simpa [O6,e] using h
     exact kat_yes (ah9 xs ys us vs (i + 1) c tx ty h' hf' q)
    ·rw [show (m == k) = false by simpa using e]
     have h':decide (m < k) = c:=by simpa [O6,e] using h
     refine kat_no (bb8 ?_)
     rw [h']; exact q
   | _=>simp [O6] at h
  | ref m =>
   cases y with
   | ref k =>
    cases rx
    cases ry
    by_cases e:m = k
    ·subst e
     have h':O6 xs ys = some c:=by simpa [O6] using h
     exact kat_cons (SeqAt.EqAt.same (.ref m) prog w _ _ (kat_yes (ah9 xs ys us vs (i + 1) c tx ty h' hf' q)))
    ·simp [O6,e] at h
   | _=>simp [O6] at h
  | _=>cases y <;> simp [O6] at h
theorem av7 {a:Addr} {vs:List Value} {n:Nat} {r:Nat → Int} {P:PySem.Fin → Shared → Prop} (ho:s.heap.get? a = some (seqObj "list" vs.toArray n)) (h64:vs.length < 64)
  (hk:∀ (h':Heap),(∀ b o,b ≠ a → s.heap.get? b = some o → h'.get? b = some o) → 2 ≤ vs.length → ∀ Q':SortKind → Shared → Prop,Q' (tuples' true) { s with heap:=h' } → wpAny (model prog w) A (keyKind' vs.toArray) Q' E { s with heap:=h' })
  (hc:∀ (h':Heap),(∀ b o,b ≠ a → s.heap.get? b = some o → h'.get? b = some o) → ∀ i j,i < vs.length → j < vs.length → ∀ C:Bool → Shared → Prop,C (decide (r i < r j)) { s with heap:=h' } → wpAny (model prog w) A (keyLt' (tuples' true) (vs.getD i Value.none) (vs.getD j Value.none)) C (fun _ _=>False) { s with heap:=h' })
  (h:∀ p:Array Nat,p.Perm (List.range vs.length).toArray → Up r p vs.length → P (.done (.ret .none)) { s with heap:=sortedHeap s.heap a vs (p.toList.map fun i=>vs.getD i Value.none).toArray }) :
  wpAny (model prog w) A (Builtin.«list.sort» ⟨[.ref a],[]⟩) P E s:=by
 have ha:a < s.heap.objs.size:=Heap.lt_size ho
 rw [list_sort_plain]
 refine wpAny_bind (listItems_at ho rfl ?_)
 refine wpAny_bind (listUpdate_at ho rfl ?_ (by rw [List.size_toArray,sizeLine_eq]; lia) (Nat.zero_le _))
 obtain ⟨e1,ho1⟩:∃ e1,(s.heap.update a (Obj.mapSeq fun _=>(#[]:Array Value))).get? a = some (seqObj "list" #[] e1):=⟨_,get?_update_seq ho fun _=>#[]⟩
 refine wpAny_bind (seqEpoch_at ho1 rfl ?_)
 refine wpAny_bind (wpAny_newTuple ?_ (by show vs.length ≤ _; rw [sizeLine_eq]; lia))
 refine wpAny_bind (wpAny_newList ?_ (Nat.zero_le _))
 refine wpAny_holding ?_
 have keep:∀ b o,b ≠ a → s.heap.get? b = some o → (((s.heap.update a (Obj.mapSeq fun _=>(#[]:Array Value))).push (seqObj "tuple" vs.toArray 0)).push (seqObj "list" #[] 0)).get? b = some o:=fun b o hb q =>
  Heap.get?_push_of_some _ (Heap.get?_push_of_some _ ((Heap.get?_update_other _ _ (Ne.symm hb)).trans q))
 have ho6:(((s.heap.update a (Obj.mapSeq fun _=>(#[]:Array Value))).push (seqObj "tuple" vs.toArray 0)).push (seqObj "list" #[] 0)).get? a = some (seqObj "list" #[] e1):=Heap.get?_push_of_some _ (Heap.get?_push_of_some _ ho1)
 show wpAny (model prog w) A _ P E { s with heap:=((s.heap.update a (Obj.mapSeq fun _=>(#[]:Array Value))).push (seqObj "tuple" vs.toArray 0)).push (seqObj "list" #[] 0) }
 dsimp only
 by_cases h2:vs.toArray.size < 2
 ·rw [if_pos h2,if_pos h2]
  refine wpAny_bind (wpAny_pure ?_)
  rw [StateT.run_pure]
  refine wpAny_bind (wpAny_pure ?_)
  dsimp only
  refine wpAny_bind (seqEpoch_at ho6 rfl ?_)
  have eo:(arrOf (SortSt.mk' general' (vs.toArray.zip vs.toArray) #[] 7 none)).map (·.2) = (((List.range vs.length).toArray.toList).map fun i=>vs.getD i Value.none).toArray:=by
   have e3:((List.range vs.length).toArray.toList.map fun i=>vs.getD i Value.none) = vs:=by
    apply List.ext_getElem
    ·simp
    ·intro i q1 q2
     simp [List.getD,q2]
   rw [e3]
   show (vs.toArray.zip vs.toArray).map (·.2) = vs.toArray
   apply Array.ext
   ·simp
   ·intro i q1 q2
    simp
  refine wpAny_bind (listUpdate_at ho6 rfl ?_ (Nat.zero_le _) (by rw [eo,List.size_toArray,List.length_map]; simp; rw [sizeLine_eq]; lia))
  simp only [bne_self_eq_false,Bool.false_eq_true,if_false]
  refine wpAny_pure ?_
  rw [eo]
  refine h (List.range vs.length).toArray (Array.Perm.refl _) fun i hi hb=>?_
  rw [List.size_toArray] at h2
  lia
 ·rw [if_neg h2,if_neg h2]
  rw [List.size_toArray] at h2
  refine wpAny_bind (hk _ keep (by lia) _ ?_)
  have run:=kat_run (E:=E) (κ:=tuples' true) (ks:=vs) (vs:=vs) (prog:=prog) (w:=w) (A:=A) (Q:=fun st' s'=>s' = { s with heap:=((s.heap.update a (Obj.mapSeq fun _=>(#[]:Array Value))).push (seqObj "tuple" vs.toArray 0)).push (seqObj "list" #[] 0) } ∧ failedOf st' = none ∧ ∃ p:Array Nat,p.Perm (List.range vs.length).toArray ∧ Up r p vs.length ∧ arrOf st' = p.map (kas_item (vs.toArray.zip vs.toArray)))
   (G:=fun p s'=>s' = { s with heap:=((s.heap.update a (Obj.mapSeq fun _=>(#[]:Array Value))).push (seqObj "tuple" vs.toArray 0)).push (seqObj "list" #[] 0) } ∧ p.Perm (List.range vs.length).toArray ∧ Up r p vs.length) rfl (by lia) h64 (fun p st' s' a1 a2 a3 ⟨b1,b2,b3⟩=>⟨b1,a3,p,b2,b3,a2⟩)
   (bd9 (J:=fun s'=>s' = { s with heap:=((s.heap.update a (Obj.mapSeq fun _=>(#[]:Array Value))).push (seqObj "tuple" vs.toArray 0)).push (seqObj "list" #[] 0) }) (lt:=ltR r) (n:=vs.length) (fun i j C s' hi hj hJ q=>by
    subst hJ
    exact hc _ keep i j hi hj C (q _ rfl)) _ _ _ (aR1 (by lia)) rfl fun s' hJ=>⟨hJ,bc2 (by lia)⟩)
  refine wpAny_bind (wpAny_mono run ?_ fun _ _ e=>e)
  rintro ⟨⟨⟩,st'⟩ s' ⟨rfl,hf,p,pm,up,har⟩
  dsimp only
  have hout:=kat_snds (ks:=vs) (vs:=vs) rfl har
  have hsz:(p.toList.map fun i=>vs.getD i Value.none).toArray.size = vs.length:=by rw [List.size_toArray,List.length_map,Array.length_toList,pm.size_eq]; simp
  rw [hout]
  refine wpAny_bind (seqEpoch_at ho6 rfl ?_)
  refine wpAny_bind (listUpdate_at ho6 rfl ?_ (Nat.zero_le _) (by rw [hsz,sizeLine_eq]; lia))
  rw [hf]
  simp only [bne_self_eq_false,Bool.false_eq_true,if_false]
  exact wpAny_pure (h p pm up)
theorem aS9 {l:Addr} {vs:List Value} {r:Nat → Int} {Q:Value → Shared → Prop} (hl:s.heap.IsList l vs.toArray) (h64:vs.length < 64)
  (hk:∀ (A:Around) (E:Value → Shared → Prop) (h':Heap),(∀ b o,s.heap.get? b = some o → h'.get? b = some o) → 2 ≤ vs.length → ∀ Q':SortKind → Shared → Prop,Q' (tuples' true) { s with heap:=h' } → wpAny (model prog w) A (keyKind' vs.toArray) Q' E { s with heap:=h' })
  (hc:∀ (A:Around) (h':Heap),(∀ b o,s.heap.get? b = some o → h'.get? b = some o) → ∀ i j,i < vs.length → j < vs.length → ∀ C:Bool → Shared → Prop,C (decide (r i < r j)) { s with heap:=h' } → wpAny (model prog w) A (keyLt' (tuples' true) (vs.getD i Value.none) (vs.getD j Value.none)) C (fun _ _=>False) { s with heap:=h' })
  (h:∀ (p:Array Nat),p.Perm (List.range vs.length).toArray → Up r p vs.length → Q (.ref (s.heap.objs.size + 1)) { s with heap:=sortedAll s.heap vs (p.toList.map fun i=>vs.getD i Value.none).toArray }) :
  wpAny (model prog w) A (call (.builtin "sorted") [.ref l]) Q E s:=by
 refine Calls.call_function_entry kind_sorted plain_sorted entry_sorted (args_sorted1 _) ?_
 unfold Builtin.«sorted»
 refine wpAny_bind (m:=checkCount "sorted" 1 1 _) (wpAny_pure ?_)
 refine wpAny_bind (collect_list hl ?_ (by rw [sizeLine_eq]; lia))
 refine wpAny_bind (wpAny_newList ?_ (by rw [sizeLine_eq]; lia))
 have sz:((s.heap.push (seqObj "list" #[] 0)).update s.heap.objs.size (Obj.mapSeq (· ++ vs.toArray))).objs.size = s.heap.objs.size + 1:=by rw [Heap.size_update,size_push']
 have hoL:(((s.heap.push (seqObj "list" #[] 0)).update s.heap.objs.size (Obj.mapSeq (· ++ vs.toArray))).push (seqObj "list" vs.toArray 0)).get? (s.heap.objs.size + 1) = some (seqObj "list" vs.toArray 0):=by
  rw [← sz]; exact Heap.get?_push_size _ rfl
 have keep:∀ b o,s.heap.get? b = some o → (((s.heap.push (seqObj "list" #[] 0)).update s.heap.objs.size (Obj.mapSeq (· ++ vs.toArray))).push (seqObj "list" vs.toArray 0)).get? b = some o:=fun b o q =>
  Heap.get?_push_of_some _ ((Heap.get?_update_other _ _ (Nat.ne_of_gt (Heap.lt_size q))).trans (Heap.get?_push_of_some _ q))
 show wpAny _ _ _ _ _ { s with heap:=((s.heap.push (seqObj "list" #[] 0)).update s.heap.objs.size (Obj.mapSeq (· ++ vs.toArray))).push (seqObj "list" vs.toArray 0) }
 rw [sz]
 refine wpAny_bind (wpAny_holding (wpAny_call_entry slot_list_sort ⟨_,hoL,rfl⟩ entry_list_sort (av7 (r:=r) (s:={ s with heap:=((s.heap.push (seqObj "list" #[] 0)).update s.heap.objs.size (Obj.mapSeq (· ++ vs.toArray))).push (seqObj "list" vs.toArray 0) }) hoL h64
  (fun h' kp h2 Q' q=>hk _ _ h' (fun b o e=>kp b o (Nat.ne_of_lt (Nat.lt_succ_of_lt (Heap.lt_size e))) (keep b o e)) h2 Q' q)
  (fun h' kp i j hi hj C q=>hc _ h' (fun b o e=>kp b o (Nat.ne_of_lt (Nat.lt_succ_of_lt (Heap.lt_size e))) (keep b o e)) i j hi hj C q) fun p pm up=>⟨_,rfl,?_⟩) (args_list_sort _)))
 exact wpAny_pure ⟨_,rfl,h p pm up⟩
end
section
variable {X:Cx}
def Z5 (K:PySem.W.Frag) (H:Hp) (as:List Addr) (its:List (List V)):Prop:=Paired (fun a xs=>SqT K H a xs ∧ ∃ i r,xs = V.int i :: r) as its
theorem ax2 {K:PySem.W.Frag} {H:Hp} {as:List Addr} {its:List (List V)} (h:Z5 K H as its):∀ (i:Nat),i < as.length → ∃ a xs,as[i]? = some a ∧ its[i]? = some xs ∧ SqT K H a xs ∧ ∃ j r,xs = V.int j :: r:=fun i hi=>by
 have e:as[i]? = some as[i]:=List.getElem?_eq_getElem hi
 obtain ⟨d,e2,q⟩:=j7 h i _ e
 exact ⟨_,d,e,e2,q.1,q.2⟩
theorem Z7:y4 X (.builtin "sorted") (fun xs H Q=>∃ (p:Addr) (as:List Addr) (its:List (List V)) (r:Nat → Int),xs = [.ref p] ∧ SqL X.K H p (as.map V.ref) ∧ Z5 X.K H as its ∧ as.length < 64 ∧
  (∀ i j x y,its[i]? = some x → its[j]? = some y → O6 x y = some (decide (r i < r j))) ∧ ∀ q:Array Nat,q.Perm (List.range as.length).toArray → Up r q as.length → ∀ l,H l = none → Q (.ref l) (upd H l (.lst ((q.toList.map fun i=>as.getD i 0).map V.ref)))):=by
 intro pins s σ H xs us Q I r0 h
 obtain ⟨p,as,its,r,rfl,hq,ht,h64,hcmp,q⟩:=h
 obtain ⟨u,rfl,rx⟩:=J5 r0
 cases rx
 obtain ⟨vs,r',pl,hz⟩:=I.list hq
 have evs:vs = as.map Value.ref:=by
  have go:∀ (as:List Addr) (vs:List Value),r6 (as.map V.ref) vs → vs = as.map Value.ref:=by
   intro as
   induction as with
   | nil=>intro vs r; cases r; rfl
   | cons a t ih =>
    intro vs r
    rw [List.map_cons] at r
    cases r with
    | cons r1 r2=>rw [show _ = Value.ref a from r1,ih _ r2]; rfl
  exact go as vs r'
 subst evs
 have hl:(as.map Value.ref).length = as.length:=List.length_map _
 have hget:∀ i a,as[i]? = some a → (as.map Value.ref).getD i Value.none = .ref a:=fun i a e=>by
  rw [List.getD,List.getElem?_map,e]; rfl
 have tl:=Paired.length ht
 refine aS9 (r:=r) pl.isList (by rw [hl]; exact h64) (fun A E h' kp h2 Q' q'=>?_) (fun A h' kp i j hi hj C q'=>?_) fun pq pm up=>?_
 ·-- the kind
  have I':Inv X pins σ H { s with heap:=h' }:=I.kept (t':=s.toks) kp
  have go:∀ (as:List Addr) (its:List (List V)),Z5 X.K H as its → ∃ fs:List Value,KatTups h' (as.map Value.ref) fs ∧ (∀ v ∈ fs,∃ i t,v = .int i t) ∧ fs.length = as.length:=by
   intro as its hT
   unfold Z5 at hT
   induction hT with
   | nil=>exact ⟨[],trivial,fun v hv=>absurd hv (by simp),rfl⟩
   | @cons a xs as its hx t ih =>
    obtain ⟨fs,k1,k2,k3⟩:=ih
    obtain ⟨hS,i,r,rfl⟩:=hx
    obtain ⟨us,ru,pu,_⟩:=I'.tuple hS
    cases ru with
    | @cons _ u _ us r1 r2 =>
     obtain ⟨tk,rfl⟩:=r1
     obtain ⟨o,e1,e2,n,e3⟩:=pu
     refine ⟨.int i tk :: fs,KatTups.cons e1 e2 e3 (by simp) k1,fun v hv=>?_,by rw [List.length_cons,List.length_cons,k3]⟩
     rcases List.mem_cons.mp hv with rfl | hv
     ·exact ⟨i,tk,rfl⟩
     ·exact k2 v hv
  obtain ⟨fs,k1,k2,k3⟩:=go as its ht
  refine kat_kind (T:=.type "int") k1 (by rw [hl] at h2; lia) (fun v hv=>?_) (by decide) q'
  obtain ⟨i,tk,rfl⟩:=k2 v hv
  exact .now
 ·-- a comparison
  have I':Inv X pins σ H { s with heap:=h' }:=I.kept (t':=s.toks) kp
  rw [hl] at hi hj
  obtain ⟨a,x,ea,ex,hS,_⟩:=ax2 ht i hi
  obtain ⟨b,y,eb,ey,hS',_⟩:=ax2 ht j hj
  rw [hget i a ea,hget j b eb]
  obtain ⟨us,ru,⟨o,e1,e2,n,e3⟩,_⟩:=I'.tuple hS
  obtain ⟨us',ru',⟨o',e1',e2',n',e3'⟩,_⟩:=I'.tuple hS'
  refine kat_lt e1 e3 e1' e3' ?_
  exact ah9 x y us us' 0 _ (by simpa using ru) (by simpa using ru') (hcmp i j x y ex ey) (by simp) q'
 ·have sz:(pq.toList.map fun i=>(as.map Value.ref).getD i Value.none) = (pq.toList.map fun i=>as.getD i 0).map Value.ref:=by
   rw [List.map_map]
   apply List.map_congr_left
   intro i hi
   have hi':i < as.length:=by
    have:=(Array.Perm.mem_iff pm (a:=i)).mp (by simpa using hi)
    rw [hl] at this
    simpa using this
   show _ = Value.ref (as.getD i 0)
   rw [hget i as[i] (List.getElem?_eq_getElem hi')]
   simp [List.getD,hi']
  rw [sz]
  rw [hl] at pm up
  obtain ⟨e,he⟩:=sortedAll_at s.heap (as.map Value.ref) ((pq.toList.map fun i=>as.getD i 0).map Value.ref).toArray
  have vr:∀ bs:List Addr,r6 (bs.map V.ref) (bs.map Value.ref):=fun bs=>by
   induction bs with
   | nil=>exact .nil
   | cons b t ih=>exact .cons rfl ih
  have hlen:((pq.toList.map fun i=>as.getD i 0).map V.ref).length ≤ sizeLine:=by
   rw [List.length_map,List.length_map,Array.length_toList,pm.size_eq]
   exact Nat.le_of_lt (j9 (by simp; lia))
  exact ⟨.ref (s.heap.objs.size + 1),_,I.laid (t':=s.toks) (o:=.lst ((pq.toList.map fun i=>as.getD i 0).map V.ref)) (fun b o e=>sortedAll_old e) (Nat.le_succ _) ⟨hlen,_,e,vr _,by simpa [seqObj] using he⟩,rfl,q pq pm up _ (I.hok.fresh (Nat.le_succ _))⟩
end
end L2
namespace L2
open PySem PySem.Spec PyProof.Rows
section
variable {X:Cx} {x y z w:Str} {i j k l n:Nat} {px py pz pw pt:Pos}
structure Nm (X:Cx) (i:Nat) (x:Str):Prop where
 at_:X.N[i]? = some x
 loc:Loc X.env.scope x
 fn:X.fn x = true ∨ X.env.scope.names.lookup x = some .local
theorem Nm.pg (h:Nm X i x) (nd:X.N.Nodup):PG X (.Name x px) (G0 i):=m9 nd h.at_ h.loc h.fn
theorem pg2 (hc:X.calm = true) (nd:X.N.Nodup) (a:Nm X i x) (b:Nm X j y):PG X (.Tuple [.Name x px,.Name y py] n pt) (aY3 X.K 2 (R9 (G0 i) (R9 (G0 j) aX5))) :=
 a64 (X:=X) (n:=2) hc (S4 (X:=X) (a.pg nd) (S4 (X:=X) (b.pg nd) aO9))
theorem pg3 (hc:X.calm = true) (nd:X.N.Nodup) (a:Nm X i x) (b:Nm X j y) (c:Nm X k z):PG X (.Tuple [.Name x px,.Name y py,.Name z pz] n pt) (aY3 X.K 3 (R9 (G0 i) (R9 (G0 j) (R9 (G0 k) aX5)))) :=
 a64 (X:=X) (n:=3) hc (S4 (X:=X) (a.pg nd) (S4 (X:=X) (b.pg nd) (S4 (X:=X) (c.pg nd) aO9)))
end
end L2
namespace L2
open PySem PySem.Spec PyProof.Rows
section
variable {es:List Expr} {env:Env} {c:Const} {i:Nat} {p:Pos}
theorem q0:starEach (.Constant c i p :: es) env = (false,eval (.Constant c i p) env) :: starEach es env:=by rw [starEach]; intro a b h; cases h
theorem b5 {x:Str}:starEach (.Name x p :: es) env = (false,eval (.Name x p) env) :: starEach es env:=by rw [starEach]; intro a b h; cases h
theorem x0 {f:Expr} {as:List Expr} {ks:List Keyword}:starEach (.Call f as ks p :: es) env = (false,eval (.Call f as ks p) env) :: starEach es env:=by rw [starEach]; intro a b h; cases h
theorem L5 {a b:Expr} {o:Operator}:starEach (.BinOp a o b p :: es) env = (false,eval (.BinOp a o b p) env) :: starEach es env:=by rw [starEach]; intro a b h; cases h
theorem be6 {a:Expr} {o:List CmpOp} {b:List Expr}:starEach (.Compare a o b p :: es) env = (false,eval (.Compare a o b p) env) :: starEach es env:=by rw [starEach]; intro a b h; cases h
theorem n6 {a b:Expr}:starEach (.Subscript a b p :: es) env = (false,eval (.Subscript a b p) env) :: starEach es env:=by rw [starEach]; intro a b h; cases h
theorem S2 {a:List Expr}:starEach (.Tuple a i p :: es) env = (false,eval (.Tuple a i p) env) :: starEach es env:=by rw [starEach]; intro a b h; cases h
theorem a91 {a:List Expr}:starEach (.List a p :: es) env = (false,eval (.List a p) env) :: starEach es env:=by rw [starEach]; intro a b h; cases h
theorem M3 {a:Expr} {g:List Comprehension} {s:Scope}:starEach (.ListComp a g s p :: es) env = (false,eval (.ListComp a g s p) env) :: starEach es env:=by rw [starEach]; intro a b h; cases h
theorem bl4 {a b d:Expr}:starEach (.IfExp a b d p :: es) env = (false,eval (.IfExp a b d p) env) :: starEach es env:=by rw [starEach]; intro a b h; cases h
end
section
variable {X:Cx}
theorem C4 (K:PySem.W.Frag) (h:X.K = K:=by rfl):IxR X (bg2 K):=h ▸ aO7
theorem e8 (K:PySem.W.Frag) (h:X.K = K:=by rfl):IxR X (bf3 K):=h ▸ aZ2
theorem ai7 (K:PySem.W.Frag) (h:X.K = K:=by rfl):SlR X (bl3 K):=h ▸ bc5
theorem a06 (K:PySem.W.Frag) (h:X.K = K:=by rfl):OpR X (compareOp .In) (rIn K false):=h ▸ aT0
theorem aa0 (K:PySem.W.Frag) (h:X.K = K:=by rfl):OpR X (compareOp .NotIn) (rIn K true):=h ▸ as5
def a_9 (K:PySem.W.Frag):List V → Hp → VK → Prop:=fun xs H Q=>∃ p ys,xs = [.ref p] ∧ (SqL K H p ys ∨ SqT K H p ys) ∧ Q (.int ys.length) H
theorem u0 (K:PySem.W.Frag) (h:X.K = K:=by rfl):y4 X (.builtin "len") (a_9 K):=h ▸ at5
def a_4 (K:PySem.W.Frag):List V → Hp → VK → Prop:=fun xs H Q=>∃ p ys,xs = [.ref p] ∧ (SqL K H p ys ∨ SqT K H p ys) ∧ ∀ l,H l = none → Q (.ref l) (upd H l (.lst ys))
theorem ah7 (K:PySem.W.Frag) (h:X.K = K:=by rfl):y4 X (.type "list") (a_4 K):=h ▸ au9
def aZ6 (K:PySem.W.Frag):List V → Hp → VK → Prop:=fun xs H Q=>∃ p ys,xs = [.ref p] ∧ ((SqL K H p ys ∧ ∀ l,H l = none → Q (.ref l) (upd H l (.tup ys))) ∨ (SqT K H p ys ∧ Q (.ref p) H))
theorem R1 (K:PySem.W.Frag) (h:X.K = K:=by rfl):y4 X (.type "tuple") (aZ6 K):=h ▸ am3
def a93 (K:PySem.W.Frag):List V → Hp → VK → Prop:=fun xs H Q=>∃ v T t b,xs = [v,.ty T] ∧ TyOf K H v t ∧ PySem.W.kitOne K t (.type T) = some b ∧ Q (.bl b) H
theorem t5 (K:PySem.W.Frag) (h:X.K = K:=by rfl):y4 X (.builtin "isinstance") (a93 K):=h ▸ az2
def bk2 (K:PySem.W.Frag):List V → Hp → VK → Prop:=fun xs H Q=>∃ (p:Addr) (bs:List Bool),xs = [.ref p] ∧ SqL K H p (bs.map V.bl) ∧ Q (.bl (bs.all id)) H
theorem aa5 (K:PySem.W.Frag) (hc:X.calm = true) (h:X.K = K:=by rfl):y4 X (.builtin "all") (bk2 K):=h ▸ ak3 hc
def bl6 (K:PySem.W.Frag):List V → Hp → VK → Prop:=fun xs H Q=>∃ (p:Addr) (bs:List Bool),xs = [.ref p] ∧ SqL K H p (bs.map V.bl) ∧ Q (.bl (bs.any id)) H
theorem aR4 (K:PySem.W.Frag) (hc:X.calm = true) (h:X.K = K:=by rfl):y4 X (.builtin "any") (bl6 K):=h ▸ ai3 hc
def a82 (K:PySem.W.Frag):List V → Hp → VK → Prop:=fun xs H Q=>∃ (p:Addr) (ns:List Int),xs = [.ref p] ∧ SqL K H p (ns.map V.int) ∧ ns.length < 64 ∧ ∀ ns':List Int,ns'.Perm ns → ns'.Pairwise (· ≤ ·) → ∀ l,H l = none → Q (.ref l) (upd H l (.lst (ns'.map V.int)))
theorem av5 (K:PySem.W.Frag) (h:X.K = K:=by rfl):y4 X (.builtin "sorted") (a82 K):=h ▸ aa6
def aQ4 (P:Program) (w:World) (l:Addr) (ns:List Int):HO:=.ext fun h=>K5 (intKind P w) h l (fun k=>decide (k ∈ ns)) (w4 ns).length
def bd6 (K:PySem.W.Frag) (P:Program) (w:World):List V → Hp → VK → Prop:=fun xs H Q=>∃ (p:Addr) (ns:List Int),xs = [.ref p] ∧ SqL K H p (ns.map V.int) ∧ ns.length < 4000 ∧ ∀ l,H l = none → Q (.ref l) (upd H l (aQ4 P w l ns))
theorem U6 (K:PySem.W.Frag) (P:Program) (w:World) (hc:X.calm = true) (h:X.K = K:=by rfl) (hP:X.prog = P:=by rfl) (hw:X.w = w:=by rfl):y4 X (.type "set") (bd6 K P w):=by
 subst h hP hw
 exact al4 hc
def aB4 (P:Program) (w:World):List V → Hp → VK → Prop:=fun xs H Q=>∃ (p:Addr) (ns:List Int),xs = [.ref p] ∧ H p = some (aQ4 P w p ns) ∧ ns.length < 64 ∧ ∀ l,H l = none → Q (.ref l) (upd H l (.lst ((w4 ns).map V.int)))
theorem V9 (P:Program) (w:World) (hc:X.calm = true) (hP:X.prog = P:=by rfl) (hw:X.w = w:=by rfl):y4 X (.builtin "sorted") (aB4 P w):=by
 subst hP hw
 exact ad2 hc
def bm8 (P:Program) (w:World):List V → Hp → VK → Prop:=fun xs H Q=>∃ (p:Addr) (ns:List Int),xs = [.ref p] ∧ H p = some (aQ4 P w p ns) ∧ Q (.int (w4 ns).length) H
theorem W4 (P:Program) (w:World) (hP:X.prog = P:=by rfl) (hw:X.w = w:=by rfl):y4 X (.builtin "len") (bm8 P w):=by
 subst hP hw
 exact call_len_set
def aF8 (K:PySem.W.Frag):List V → Hp → VK → Prop:=fun xs H Q=>∃ (p:Addr) (as:List Addr) (its:List (List V)) (r:Nat → Int),xs = [.ref p] ∧ SqL K H p (as.map V.ref) ∧ Z5 K H as its ∧ as.length < 64 ∧
  (∀ i j x y,its[i]? = some x → its[j]? = some y → O6 x y = some (decide (r i < r j))) ∧ ∀ q:Array Nat,q.Perm (List.range as.length).toArray → Up r q as.length → ∀ l,H l = none → Q (.ref l) (upd H l (.lst ((q.toList.map fun i=>as.getD i 0).map V.ref)))
theorem V4 (K:PySem.W.Frag) (h:X.K = K:=by rfl):y4 X (.builtin "sorted") (aF8 K):=h ▸ Z7
def bo8 (K:PySem.W.Frag):R2:=fun x y H Q=>∃ (a b:Addr) (ns ms:List Int),x = .ref a ∧ y = .ref b ∧ SqL K H a (ns.map V.int) ∧ SqL K H b (ms.map V.int) ∧ Q (.bl (decide (ns = ms))) H
theorem bb4 (K:PySem.W.Frag) (hu:X.A.units < cLine) (h:X.K = K:=by rfl):OpR X (compareOp .Eq) (bo8 K):=h ▸ bb1 hu
def bo1 (K:PySem.W.Frag) (ta:TE):TT:=fun σ H Q=>ta σ H fun x H'=>∃ k,bj6 K x H' k ∧ Q k H'
theorem y3 (K:PySem.W.Frag) {a:Expr} {ta:TE} (ha:PE X a ta) (he:∀ whole,isTrue a X.env whole = (do let v ← whole; standAt a.pos; holding [v] (truthy v))) (h:X.K = K:=by rfl):PT X a (bo1 K ta):=h ▸ a56 ha he
theorem o6 (K:PySem.W.Frag) {tg l:Expr} {tl:TE} (hl:PE X l tl) (h:X.K = K:=by rfl):PI X tg l (be0 K tl):=h ▸ ba8 hl
theorem ae3 (K:PySem.W.Frag) {tg l:Expr} {tl:TE} (hl:PE X l tl) (h:X.K = K:=by rfl):PI X tg l (bm7 K tl):=h ▸ be8 hl
theorem bb6 (b:Bool) (K:PySem.W.Frag) {es:List Expr} {kk:Nat} {tpos:Pos} {e1 e2:Expr} {ta:TA} {p pos:Pos} (hg:Gl X "zip") (hm:X.mg "zip" = none) (ha:PA X [e1,e2] ta) (h:X.K = K:=by rfl) (hs:starEach [e1,e2] X.env = [(false,eval e1 X.env),(false,eval e2 X.env)]:=by rfl) (hs2:starEach [e2] X.env = [(false,eval e2 X.env)]:=by rfl) :
  PI X (.Tuple es kk tpos) (.Call (.Name "zip" p) [e1,e2] [] pos) (bm4 b K ta):=h ▸ bj0 hg hm ha hs hs2
variable {x y z w:Str} {i j k l n:Nat} {px py pz pw pt:Pos}
theorem bp0 (K:PySem.W.Frag) (hc:X.calm = true) (nd:X.N.Nodup) (a:Nm X i x) (b:Nm X j y) (h:X.K = K:=by rfl):PG X (.Tuple [.Name x px,.Name y py] n pt) (aY3 K 2 (R9 (G0 i) (R9 (G0 j) aX5))):=h ▸ pg2 hc nd a b
theorem bo3 (K:PySem.W.Frag) (hc:X.calm = true) (nd:X.N.Nodup) (a:Nm X i x) (b:Nm X j y) (c:Nm X k z) (h:X.K = K:=by rfl):PG X (.Tuple [.Name x px,.Name y py,.Name z pz] n pt) (aY3 K 3 (R9 (G0 i) (R9 (G0 j) (R9 (G0 k) aX5)))):=h ▸ pg3 hc nd a b c
end
section
variable {X:Cx} {o e:Expr} {es:List Expr} {to:TE} {t:TA} {name:Str} {apos cpos:Pos} {T id:String} {r:V → List V → Hp → VK → Prop}
theorem Q1 (K:PySem.W.Frag) (pa:PlainAttrs T) (slot:Slot T name id) (hty:typeOf (.builtin id) = pure (.type "method_descriptor")) (hm:MtR X id r) (ho:PE X o to) (ha:PA X (e :: es) t) (h:X.K = K:=by rfl)
  (hbase:attributeBase o name X.env (eval o X.env) = eval o X.env:=by rfl)
  (hfew:((backTo cpos (starEach (e :: es) X.env)).all (fun x=>!x.1) && (backToKw cpos (keywordEach [] X.env)).all (fun x=>x.1.isSome)
   && decide ((e :: es).length + ([]:List Keyword).length + (if ([]:List Keyword).isEmpty then 0 else 1) < 30)) = true:=by rfl)
  (hline:(apos.endLine == cpos.line) = true:=by rfl) (hs:starEach (e :: es) X.env = (false,eval e X.env) :: starEach es X.env:=by rfl) (hplain:(backTo cpos (starEach es X.env)).any (·.1) = false:=by rfl) :
  PE X (.Call (.Attribute o name apos) (e :: es) [] cpos) (tBM K T r to t):=h ▸ bn1 pa slot hty hm ho ha hbase hfew hline hs hplain
end
end L2
namespace L2
open PySem PySem.Spec PyProof.Rows
def a58 (K:PySem.W.Frag) (H:Hp) (as:List Addr) (ds:List (List Int)):Prop:=Paired (fun a d=>SqT K H a (d.map V.int)) as ds
theorem w5 {α β:Type} {R R':α → β → Prop}:∀ {as:List α} {ds:List β},Paired R as ds → (∀ a b,b ∈ ds → R a b → R' a b) → Paired R' as ds
 | _,_,.nil,_=>.nil
 | _,_,.cons h t,hi=>.cons (hi _ _ (List.mem_cons_self ..) h) (w5 t fun a b hb=>hi a b (List.mem_cons_of_mem _ hb))
end L2
namespace L2
open PySem PySem.Spec PyProof.Rows
theorem J6 {X:Cx}:MtR X "list.append" aP4:=aS6
theorem aL9 {X:Cx}:MtR X "list.extend" aP5:=aV5
end L2
namespace L2
open PySem PySem.Spec PyProof.Rows
def bk1:Hp → V → Key → Prop:=fun _ x k=>x = kV k
section
variable {X:Cx}
theorem bg3:EqRep X 0 bk1 where
 eq:=fun H x y dx dy hx hy A pins s σ u v I ru rv hu=>by
  subst hx hy
  rcases dx with i | i <;> rcases dy with j | j
  ·obtain ⟨t,rfl⟩:=ru
   obtain ⟨t',rfl⟩:=rv
   have:=SeqAt.EqAt.int_int (A:=A) (s:=s) i t j t'
   rw [show decide ((Sum.inl i:Key) = Sum.inl j) = (i == j) by rw [Bool.eq_iff_iff]; simp]
   exact this
  ·obtain ⟨t,rfl⟩:=ru
   obtain ⟨t',rfl⟩:=rv
   have:=SeqAt.EqAt.int_str (A:=A) (s:=s) i t j t'
   rw [decide_eq_false (fun z=>nomatch z)]
   exact this
  ·obtain ⟨t,rfl⟩:=ru
   obtain ⟨t',rfl⟩:=rv
   have:=SeqAt.EqAt.str_int (A:=A) (s:=s) i t j t'
   rw [decide_eq_false (fun z=>nomatch z)]
   exact this
  ·obtain ⟨t,rfl⟩:=ru
   obtain ⟨t',rfl⟩:=rv
   have:=SeqAt.EqAt.str_str (A:=A) (s:=s) i t j t'
   rw [show decide ((Sum.inr i:Key) = Sum.inr j) = (i == j) by rw [Bool.eq_iff_iff]; simp]
   exact this
 fn:=fun _ _ _ _ x d d' _ h h'=>by subst h; exact bh6 h'
def inD (ds:List (List Key)) (d:List Key):Bool:=ds.any fun x=>decide (x = d)
theorem ae6 {ds:List (List Key)} {d:List Key}:inD ds d = true ↔ d ∈ ds:=by
 unfold inD
 rw [List.any_eq_true]
 constructor
 ·rintro ⟨x,hx,h⟩
  rw [← of_decide_eq_true h]
  exact hx
 ·intro h
  exact ⟨d,h,decide_eq_true rfl⟩
def bp8 (K:PySem.W.Frag) (neg:Bool):R2:=fun x y H Q=>∃ (p b:Addr) (as:List Addr) (d:List Key) (ds:List (List Key)),x = .ref b ∧ y = .ref p ∧ SqL K H p (as.map V.ref) ∧ SqT K H b (d.map kV) ∧ Paired (fun a d=>SqT K H a (d.map kV)) as ds ∧ Q (.bl (if neg then !inD ds d else inD ds d)) H
theorem K4 {H:Hp}:∀ d:List Key,Paired (bk1 H) (d.map kV) d
 | []=>.nil
 | _ :: t=>.cons rfl (K4 t)
theorem bb3 {pins:List (Addr × Obj)} {σ:St} {H:Hp} {s:Shared} {b:Addr} {as:List Addr} {d:List Key} {ds:List (List Key)} {A:Around} (I:Inv X pins σ H s) (hb:SqT X.K H b (d.map kV)) (hp:Paired (fun a d=>SqT X.K H a (d.map kV)) as ds)
  (hu:A.units + 1 < cLine) {its:List Value} (r:r6 (as.map V.ref) its) :
  ∃ e:Value → Bool,(∀ y,y ∈ its.toArray → SeqAt.EqAt A s y (.ref b) (e y)) ∧ its.toArray.any e = inD ds d:=by
 have ep:=be5 (X:=X) bg3
 have rd:∀ (j:Nat) a,as[j]? = some a → ∃ d',ds[j]? = some d' ∧ SqT X.K H a (d'.map kV):=fun j a h=>j7 hp j a h
 have evs:its = as.map Value.ref:=by
  have go:∀ (as:List Addr) (vs:List Value),r6 (as.map V.ref) vs → vs = as.map Value.ref:=by
   intro as
   induction as with
   | nil=>intro vs r; cases r; rfl
   | cons a t ih =>
    intro vs r
    rw [List.map_cons] at r
    cases r with
    | cons r1 r2=>rw [show _ = Value.ref a from r1,ih _ r2]; rfl
  exact go as its r
 subst evs
 let e:Value → Bool:=fun y=>match y with
  | .ref a=>(List.range as.length).any fun j=>decide (as[j]? = some a) && decide (ds[j]? = some d)
  | _=>false
 have eR:∀ a,e (.ref a) = true ↔ ∃ j:Nat,as[j]? = some a ∧ ds[j]? = some d:=fun a=>by
  show ((List.range as.length).any fun j=>decide (as[j]? = some a) && decide (ds[j]? = some d)) = true ↔ _
  rw [List.any_eq_true]
  constructor
  ·rintro ⟨j,_,h⟩
   rw [Bool.and_eq_true] at h
   exact ⟨j,of_decide_eq_true h.1,of_decide_eq_true h.2⟩
  ·rintro ⟨j,h1,h2⟩
   exact ⟨j,List.mem_range.mpr (List.getElem?_eq_some_iff.mp h1).1,by rw [Bool.and_eq_true]; exact ⟨decide_eq_true h1,decide_eq_true h2⟩⟩
 have key:∀ (j:Nat) a d',as[j]? = some a → ds[j]? = some d' → e (.ref a) = decide (d' = d):=fun j a d' h1 h2=>by
  rw [Bool.eq_iff_iff,eR,decide_eq_true_iff]
  constructor
  ·rintro ⟨k,g1,g2⟩
   obtain ⟨d1,q1,s1⟩:=rd j a h1
   obtain ⟨d2,q2,s2⟩:=rd k a g1
   rw [h2] at q1
   rw [g2] at q2
   cases q1
   cases q2
   exact ep.fn pins s σ H (.ref a) _ _ I ⟨a,_,rfl,s1,K4 _⟩ ⟨a,_,rfl,s2,K4 _⟩
  ·rintro rfl
   exact ⟨j,h1,h2⟩
 refine ⟨e,fun y hy=>?_,?_⟩
 ·have hy':y ∈ as.map Value.ref:=by simpa using hy
  obtain ⟨a,ha,rfl⟩:=List.mem_map.mp hy'
  obtain ⟨j,hj⟩:=List.getElem?_of_mem ha
  obtain ⟨d',q1,s1⟩:=rd j a hj
  rw [key j a d' hj q1]
  exact ep.eq H (.ref a) (.ref b) d' d ⟨a,_,rfl,s1,K4 _⟩ ⟨b,_,rfl,hb,K4 _⟩ A pins s σ (.ref a) (.ref b) I rfl rfl (by lia)
 ·rw [Bool.eq_iff_iff,ae6,Array.any_eq_true']
  constructor
  ·rintro ⟨y,hy,h⟩
   have hy':y ∈ as.map Value.ref:=by simpa using hy
   obtain ⟨a,ha,rfl⟩:=List.mem_map.mp hy'
   obtain ⟨j,_,h2⟩:=(eR a).mp h
   exact List.mem_of_getElem? h2
  ·intro h
   obtain ⟨j,hj⟩:=List.getElem?_of_mem h
   have hl:as.length = ds.length:=Paired.length hp
   have hj':=(List.getElem?_eq_some_iff.mp hj).1
   have ea:as[j]? = some (as[j]'(by lia)):=List.getElem?_eq_getElem (by lia)
   exact ⟨.ref (as[j]'(by lia)),by simp,(eR _).mpr ⟨j,ea,hj⟩⟩
theorem W9 (K:PySem.W.Frag) (hu:X.A.units + 2 < cLine) (h:X.K = K:=by rfl):OpR X (compareOp .NotIn) (bp8 K true):=by
 subst h
 intro pins s σ H x y v u Q I rx ry h
 obtain ⟨p,b,as,d,ds,rfl,rfl,hq,hb,hp,q⟩:=h
 cases rx
 cases ry
 obtain ⟨its,r,pl,hz⟩:=I.list hq
 obtain ⟨e,h1,h2⟩:=bb3 (A:=X.A.in1) I hb hp (by show X.A.units + 1 + 1 < cLine; lia) r
 refine SeqAt.notIn_listAt e pl.isList h1 ⟨.bl _,H,I,rfl,?_⟩
 rw [h2]
 exact q
theorem Room.unitsT {k:Nat} {A:Around} (r:Room k A):A.units + 2 < cLine:=by have:=r.un; lia
end
end L2
namespace L2
open PySem PySem.Spec PyProof.Rows
section
variable {X:Cx}
theorem a04:PIp X .BitOr (rI0 fun i j=>.int (Builtin.bitOr i j)):=bj4
theorem ao3 (K:PySem.W.Frag) (h:X.K = K:=by rfl):bh3 X (fun x y H Q=>∃ p xs i z,x = .ref p ∧ y = .int i ∧ SqL K H p xs ∧ 0 ≤ i ∧ xs[i.toNat]? = some z ∧ Q z H):=by
 subst h
 intro pins s σ H x y v u Q I rx ry h
 obtain ⟨p,xs,i,z,rfl,rfl,hq,h0,he,q⟩:=h
 cases rx
 obtain ⟨t,rfl⟩:=ry
 obtain ⟨its,r,pl,hz⟩:=I.list hq
 obtain ⟨w,ew,rw'⟩:=r.get he
 have hl:=r.length
 have hi:=(List.getElem?_eq_some_iff.mp he).1
 have hn:=X0
 exact wpAny_getItem_list pl.isList h0 (by lia) (by simpa using ew) ⟨z,H,I,rw',q⟩
end
end L2
namespace L2
open PySem PySem.Spec PyProof.Rows
structure DefD (K:PySem.W.Frag) (mg:Str → Option Value) (x:Str) (st:Stmt) (ps:List Str) (dvs:List V):Prop where
 ex:∃ (f:Addr) (fd:FuncData),(∃ (oc:Value) (od:Option Addr) (dV kV doc pm:Value) (an:Option Addr) (cdv ct:Value) (osl:Array (Option Value)),
   fd = PySem.W.fnOf x x (j6 st) (i9 st) (d5 st) dV kV doc pm an cdv ct ∧ K.lookup f = some ⟨oc,od,.func fd,osl⟩ ∧ PySem.W.codeIn K cdv x = true) ∧ PySem.W.keepIn K (.ref f) = true ∧
  (∀ m,m ≤ dvs.length → ∃ ds,r6 (dvs.drop m) ds ∧ ab6 K fd ps ds) ∧ mg x = some (.ref f)
structure CalleeD (P:Program) (w:World) (K:PySem.W.Frag) (mg:Str → Option Value) (base:Heap) (k:Nat) (x:Str) (ps:List Str) (dvs:List V) (sp:Sp):Prop where
 ex:∃ (f:Addr) (fd:FuncData),FnOk P w K mg base CX0 k f fd ps sp ∧ (∀ m,m ≤ dvs.length → ∃ ds,r6 (dvs.drop m) ds ∧ ab6 K fd ps ds) ∧ PySem.W.keepIn K (.ref f) = true ∧ mg x = some (.ref f)
section
variable {P:Program} {w:World} {K:PySem.W.Frag} {mg:Str → Option Value} {base:Heap}
theorem DefD.ok {x:Str} {st:Stmt} {N ps:List Str} {k:Nat} {dvs:List V} {sp:Sp} (D:DefD K mg x st ps dvs) (S:FnScope N ps (d5 st)) (len:∀ vs H Q E,sp vs H Q E → vs.length = ps.length)
  (hbody:∀ (f:Addr) (cdv:Value) (A:Around) (outer:List Env) (s:Shared) (H:Hp) (vs:List V) (Q:VK) (E:XK),Room k (A.deeper (envOfC x (d5 st) s.heap.objs.size f cdv)) → sp vs H Q E →
   ∃ t,PSs (az1 CX0 P w K mg base N x (d5 st) f cdv A outer s H E).nox (i9 st) t ∧ t { nx:=fun _ H'=>Q .non H',rt:=Q } (start N vs) H):CalleeD P w K mg base (k + 1) x ps dvs sp:=by
 obtain ⟨f,fd,⟨oc,od,dV,kV,doc,pm,an,cdv,ct,osl,rfl,lk,hcd⟩,kp,b,m⟩:=D.ex
 refine ⟨f,_,bd0 lk hcd S len fun A outer s H vs Q E hr hsp=>?_,b,kp,m⟩
 obtain ⟨t,h,q⟩:=hbody f cdv A outer s H vs Q E hr hsp
 exact ⟨t,h.nox,q⟩
theorem CalleeD.all {x:Str} {ps:List Str} {k:Nat} {dvs:List V} {sp:Sp} (C:CalleeD P w K mg base k x ps dvs sp):Callee P w K mg base k x ps sp:=by
 obtain ⟨f,fd,F,b,kp,m⟩:=C.ex
 obtain ⟨ds,hv,hb⟩:=b dvs.length (Nat.le_refl _)
 rw [List.drop_length] at hv
 cases hv
 exact ⟨f,fd,F,hb,kp,m⟩
end
section
variable {X:Cx} {k n:Nat} {ps:List Str} {dvs:List V} {sp:Sp} {x:Str} {p pos:Pos} {e:Expr} {es:List Expr} {t:TA}
theorem bf7 (m:Nat) (C:CalleeD X.prog X.w X.K X.mg X.base k x ps dvs sp) (hr:Room n X.A) (hg:Gl X x) (ha:PA X (e :: es) t) (hm:m ≤ dvs.length:=by decide) (hk:k ≤ n:=by decide) (hdb:(x == ("__debug__":Str)) = false:=by decide)
  (he:starEach (e :: es) X.env = (false,eval e X.env) :: starEach es X.env:=by rfl) (hpl:(backTo pos (starEach es X.env)).any (·.1) = false:=by rfl) :
  PE X (.Call (.Name x p) (e :: es) [] pos) (a52 sp (dvs.drop m) E0 t):=by
 obtain ⟨f,fd,F,b,kp,mm⟩:=C.ex
 obtain ⟨ds,hv,hb⟩:=b m hm
 exact aO1 F (hr.mono hk) hg mm kp hb hv bd2 ha hdb he hpl
end
end L2
namespace L2
open PySem PySem.Spec PyProof.Rows
section
variable {X:Cx}
def be9 (K:PySem.W.Frag):R2:=fun x y H Q=>∃ (a b:Addr) (xs:List V),x = .ref a ∧ y = .ref b ∧ SqL K H a xs ∧ SqL K H b [] ∧ Q (.bl (!decide (xs = []))) H
theorem ar6 (K:PySem.W.Frag) (hu:X.A.units < cLine) (h:X.K = K:=by rfl):OpR X (compareOp .NotEq) (be9 K):=by
 subst h
 intro pins s σ H x y v u Q I rx ry h
 obtain ⟨a,b,xs,rfl,rfl,ha,hb,q⟩:=h
 cases rx
 cases ry
 obtain ⟨us,r1,p1,_⟩:=I.list ha
 obtain ⟨vs,r2,p2,_⟩:=I.list hb
 cases r2
 have l1:=r1.length
 cases xs with
 | nil =>
  cases r1
  refine SeqAt.RcNeAt.lists (e:=fun j=>true) p1.isList p2.isList rfl (by lia) (fun j h1 h2=>absurd h1 (by simp)) X.prog X.w X.xe _ ?_
  exact ⟨.bl false,H,I,rfl,q⟩
 | cons x t =>
  refine SeqAt.RcNeAt.lists_lengths p1.isList p2.isList (by simp only [List.size_toArray]; rw [← l1]; simp) (by lia) X.prog X.w X.xe _ ?_
  exact ⟨.bl true,H,I,rfl,q⟩
def bh9 (K:PySem.W.Frag):R2:=fun x y H Q=>∃ (a b:Addr) (xs:List V),x = .ref a ∧ y = .ref b ∧ SqL K H a xs ∧ SqL K H b [] ∧ Q (.bl (decide (xs = []))) H
theorem aq3 (K:PySem.W.Frag) (hu:X.A.units < cLine) (h:X.K = K:=by rfl):OpR X (compareOp .Eq) (bh9 K):=by
 subst h
 intro pins s σ H x y v u Q I rx ry h
 obtain ⟨a,b,xs,rfl,rfl,ha,hb,q⟩:=h
 cases rx
 cases ry
 obtain ⟨us,r1,p1,_⟩:=I.list ha
 obtain ⟨vs,r2,p2,_⟩:=I.list hb
 cases r2
 have l1:=r1.length
 cases xs with
 | nil =>
  cases r1
  refine SeqAt.RcAt.lists (e:=fun j=>true) p1.isList p2.isList rfl (by lia) (fun j h1 h2=>absurd h1 (by simp)) X.prog X.w X.xe _ ?_
  exact ⟨.bl true,H,I,rfl,q⟩
 | cons x t =>
  refine SeqAt.RcAt.lists_lengths p1.isList p2.isList (by simp only [List.size_toArray]; rw [← l1]; simp) (by lia) X.prog X.w X.xe _ ?_
  exact ⟨.bl false,H,I,rfl,q⟩
end
theorem aP2 {A u:TS} {D:Ends} {σ:St} {H:Hp} (S:St → Hp → Prop) (h1:∀ R:St → Hp → Prop,(∀ σ' H',S σ' H' → R σ' H') → A { D with nx:=R } σ H) (h2:∀ σ' H',S σ' H' → u D σ' H'):bg6 A u D σ H:=h1 (u D) h2
end L2
namespace L2
open PySem PySem.Spec PyProof.Rows
theorem a72 {X:Cx} {e:Expr}:PE X e (fun _ _ _=>False):=fun _ _ _ _ _ _ h=>h.elim
end L2
namespace L2
open PySem PySem.Spec PyProof.Rows
structure Fly (fs:List Addr) (H1 H2:Hp) (h1 B h2:Heap):Prop where
 kp:∀ b o,h1.get? b = some o → b ∉ fs → (∃ o',B.get? b = some o') ∧ (H1 b = none → B.get? b = some o)
 sl:∀ b o,h1.get? b = some o → b ∈ fs → ∃ sl,h2.get? b = some { o with slots:=sl }
 free:∀ b o,h1.get? b = some o → H1 b = none → H2 b = none
 tups:∀ b xs,H1 b = some (.tup xs) → H2 b = some (.tup xs)
 frzs:∀ b o u,H1 b = some (.frz o u) → H2 b = some (.frz o u)
 tbls:∀ b ps,H1 b = some (.tbl ps) → ∃ more,H2 b = some (.tbl (ps ++ more))
def CXE (P:Program) (w:World):CXT:=fun outer H s E e s'=>∃ (ea C:Addr) (a0:Value) (B:Heap) (H':Hp),
 e = .ref ea ∧ s'.os = s.os ∧ AllBare s'.gens ∧ Heap.FlyingW B outer ea (.ref C) a0 s'.heap ∧ Fly (frs outer) H H' s.heap B s'.heap ∧ HOk P w H' B ∧ E (.ref C) none H'
end L2
namespace L2
open PySem PySem.Spec PyProof.Rows
abbrev Cx.pinned (X:Cx) (pn:List (Addr × Obj)):Cx:={ X with pn:=pn }
def xeT (X:Cx) (pn:List (Addr × Obj)) (E:St → XK):Value → Shared → Prop:=fun e s'=>∃ (pins:List (Addr × Obj)) (σ:St) (H:Hp) (s1:Shared),Inv (X.pinned pn) pins σ H s1 ∧ CXE X.prog X.w X.stack H s1 (E σ) e s'
abbrev tcx (X:Cx) (pn:List (Addr × Obj)) (E:St → XK):Cx:=(X.pinned pn).wish (xeT X pn E)
section
variable {X:Cx} {pins:List (Addr × Obj)} {σ:St} {H:Hp} {s:Shared}
theorem Inv.toPinned (I:Inv X pins σ H s):Inv (X.pinned (X.pn ++ pins)) [] σ H s :=
 ⟨⟨I.ok.mod,I.ok.kind,I.ok.glob,I.ok.blt,I.ok.above,I.ok.inj,I.ok.has,I.ok.cab,I.ok.hd,I.ok.frames,I.ok.stk,I.ok.exf,I.ok.bs,I.ok.bsz,I.ok.noex,I.ok.exfs,I.ok.funs,I.ok.frf⟩,I.os,I.bare,I.base,I.loc,I.cell,I.free,I.freeC,fun p hp=>I.pin p (by rw [List.append_nil] at hp; exact hp),I.hok,I.len⟩
theorem Inv.ofPinned {ps:List (Addr × Obj)} (I:Inv (X.pinned (X.pn ++ pins)) ps σ H s):Inv X pins σ H s :=
 ⟨⟨I.ok.mod,I.ok.kind,I.ok.glob,I.ok.blt,I.ok.above,I.ok.inj,I.ok.has,I.ok.cab,I.ok.hd,I.ok.frames,I.ok.stk,I.ok.exf,I.ok.bs,I.ok.bsz,I.ok.noex,I.ok.exfs,I.ok.funs,I.ok.frf⟩,I.os,I.bare,I.base,I.loc,I.cell,I.free,I.freeC,fun p hp=>I.pin p (List.mem_append_left _ hp),I.hok,I.len⟩
end
end L2
namespace L2
open PySem PyProof.Rows
section
variable {prog:Program} {w:World} {A:Around} {E:Value → Shared → Prop} {s:Shared}
set_option maxHeartbeats 3200000 in
theorem aw4 {l:Addr} {items:Array Value} {ns:List Int} {Q:Value → Shared → Prop} (hh:A.handled = none) (hl:s.heap.IsTuple l items) (hi:IntsAre items.toList ns) (hb:items.size + 1 < scanBound)
  (h:∀ (h':Heap) (tk:Nat),R4 prog w (fun i=>ns.getD i 0) items.size h' s.heap.objs.size → (∀ b o,b < s.heap.objs.size → s.heap.get? b = some o → h'.get? b = some o) → Q (.ref s.heap.objs.size) { s with heap:=h',toks:=tk }) :
  wpAny (model prog w) A (call (.type "set") [.ref l]) Q E s:=by
 obtain ⟨c,tl,hmro⟩:=PySem.F.called_set.mro
 have hmade:=PySem.F.called_set.made
 have hsub:=PySem.F.called_set.sub
 refine wpAny_call (codeAny_of_tree ?_)
 show wpAny _ _ (callAny (.type "set") _) _ _ _
 refine wpAny_pure ⟨Code.quiet_builtin _ (by decide +kernel),codeAny_builtin PySem.F.entry_type_call ?_⟩
 rw [Around.under_plain (weight_type_call_type "set" [.ref l] []) rfl]
 have h1:=PySem.F.called_set.notType
 have h2:=PySem.F.called_set.canCreate
 have hct:=PySem.F.typeCall_set_1 (.ref l)
 repeat (any_goals (first | assumption | wp_step))
 refine codeAny_mono (R0 (.ref l) (E:=E) (Q:=fun obj s₁=>obj = .ref s.heap.objs.size ∧ s₁ = { s with heap:=s.heap.push (A6 w) }) ⟨rfl,rfl⟩) fun r s₁ hr=>?_
 cases r with
 | error e=>exact hr
 | ok fl =>
  cases fl with
  | ret obj =>
   obtain ⟨rfl,rfl⟩:=hr
   have hS:(s.heap.push (A6 w)).get? s.heap.objs.size = some (A6 w):=Heap.get?_push_size _ rfl
   have hT:Shared.TypeIs { s with heap:=s.heap.push (A6 w) } (.ref s.heap.objs.size) "set":=⟨_,hS,rfl⟩
   have hli:=PySem.F.called_set.init.lookup
   have hbi:=PySem.F.called_set.init.bind (.ref s.heap.objs.size)
   repeat (any_goals (first | assumption | wp_step))
   refine codeAny_mono (codeAny_call_builtin (R:=wants (fun r s₂=>r = .none ∧ ∃ h' tk,s₂ = { s with heap:=h',toks:=tk } ∧ R4 prog w (fun i=>ns.getD i 0) items.size h' s.heap.objs.size ∧
     (∀ b o,b < s.heap.objs.size → s.heap.get? b = some o → h'.get? b = some o)) E) PySem.F.called_set.init.plain PySem.F.entry_set_init (check_set_init_1 hT ?_)) fun r₂ s₂ hr₂=>?_
   ·obtain ⟨ol,hol,hcl,nl,hdl⟩:=id hl
    have hol':(s.heap.push (A6 w)).get? l = some ol:=Heap.get?_push_of_some _ hol
    have hTl:Shared.TypeIs { s with heap:=s.heap.push (A6 w) } (.ref l) "tuple":=⟨ol,hol',hcl⟩
    have hsls:=PySem.F.sub_tuple_set
    have hslf:=PySem.F.sub_tuple_frozenset
    have hne:(Value.type "tuple" == Value.type "dict") = false:=by decide
    have hl1:(s.heap.push (A6 w)).IsTuple l items:=hl.at fun o e=>Heap.get?_push_of_some _ e
    unfold Builtin.«set.__init__» noKeywords Builtin.Frozenset.updateFrom
    generalize hPI:pyIter = PI
    wp_walk
    subst hPI
    refine wpAny_pyIter_tuple hl1 (wpAny_bind (wpAny_runValue ?_))
    have hlS:l < s.heap.objs.size:=Heap.lt_size hol
    have hneI:l ≠ (s.heap.push (A6 w)).objs.size:=by rw [Heap.size_push]; exact Nat.ne_of_lt (Nat.lt_succ_of_lt hlS)
    have hSf:s.heap.objs.size ∉ [(s.heap.push (A6 w)).objs.size,l]:=by
     rw [Heap.size_push]
     simp only [List.mem_cons,List.not_mem_nil,or_false,not_or]
     exact ⟨Nat.ne_of_lt (Nat.lt_succ_self _),Nat.ne_of_gt hlS⟩
    refine aC0 ((Walks.tuple (by simpa using hh) _ l hneI items).toS) s.heap.objs.size hSf (fun i=>ns.getD i 0) (fun i v hv=>PyProof.Rows.IntsAre.int_at hi i v (by rw [Array.getElem?_toList]; exact hv)) hb (items.size - 0) 0 _ (by lia) (Nat.zero_le _)
     ⟨⟨_,Heap.get?_push_size _ rfl,rfl,rfl⟩,(hl1.at fun o e=>Heap.get?_push_of_some _ e)⟩ ?hS0 ?hR
    case hS0 =>
     exact ((K5.new (knd:=intKind prog w) s.heap rfl).congr (fun _=>rfl) rfl).of_get fun o e=>Heap.get?_push_of_some _ e
    case hR =>
     intro s' m x
     obtain ⟨h',g',d',tk',os'⟩:=s'
     have eg:g' = s.gens:=m.gens
     have ed:d' = s.drawn:=m.drawn
     have eo:os' = s.os:=m.os
     subst eg ed eo
     show wpAny _ _ _ _ _ _
     refine wpAny_pure ?_
     show wpAny _ _ (ret Value.none) _ _ _
     refine wpAny_pure ⟨rfl,h',tk',rfl,x,fun b o q e=>?_⟩
     refine m.heap b o ?_ (Heap.get?_push_of_some _ (Heap.get?_push_of_some _ e))
     simp only [List.mem_cons,List.not_mem_nil,or_false,not_or]
     refine ⟨Nat.ne_of_lt q,?_⟩
     rw [Heap.size_push]
     exact Nat.ne_of_lt (Nat.lt_succ_of_lt q)
   ·cases r₂ with
    | error e=>exact hr₂
    | ok fl₂ =>
     cases fl₂ with
     | ret r =>
      obtain ⟨rfl,h',tk,rfl,x,kp⟩:=hr₂
      repeat (any_goals (first | assumption | wp_step))
      exact h _ _ x kp
     | _=>exact hr₂.elim
  | _=>exact hr.elim
end
end L2
namespace L2
open PySem PySem.Spec PyProof.Rows
section
variable {X:Cx}
def bn5 (K:PySem.W.Frag) (P:Program) (w:World):List V → Hp → VK → Prop:=fun xs H Q=>∃ (p:Addr) (ns:List Int),xs = [.ref p] ∧ SqT K H p (ns.map V.int) ∧ ns.length < 4000 ∧ ∀ l,H l = none → Q (.ref l) (upd H l (aQ4 P w l ns))
theorem aK4 (K:PySem.W.Frag) (P:Program) (w:World) (hc:X.calm = true) (h:X.K = K:=by rfl) (hP:X.prog = P:=by rfl) (hw:X.w = w:=by rfl):y4 X (.type "set") (bn5 K P w):=by
 subst h hP hw
 intro pins s σ H xs us Q I r h
 obtain ⟨p,ns,rfl,hq,hlt,q⟩:=h
 obtain ⟨u,rfl,rx⟩:=J5 r
 cases rx
 obtain ⟨its,r',pl,hz⟩:=I.tuple hq
 have hi:IntsAre its ns:=K0 r'
 have hlen:its.length = ns.length:=hi.length
 refine aw4 (I.ok.hd hc) (show s.heap.IsTuple p its.toArray from pl) (ns:=ns) (by simpa using hi) (by show its.toArray.size + 1 < 4096; rw [List.size_toArray]; lia) fun h' tk x kp=>?_
 have x':K5 (intKind X.prog X.w) h' s.heap.objs.size (fun k=>decide (k ∈ ns)) (w4 ns).length:=x.congr (fun k=>by
  rw [List.size_toArray,hlen]; exact O4 ns k) (by rw [List.size_toArray,hlen]; exact Y5 ns)
 have he:∃ o,h'.get? s.heap.objs.size = some o:=let ⟨o,_,_,_,e,_⟩:=x'; ⟨o,e⟩
 exact ⟨.ref s.heap.objs.size,_,I.laid (t':=tk) (o:=ax7 X s.heap.objs.size ns) (fun b o e=>kp b o (Heap.lt_size e) e) (Nat.le_refl _) ⟨x',he,fun h1 h2 y k=>y.of_get k⟩,rfl,q _ (I.hok.fresh (Nat.le_refl _))⟩
theorem bi4 {pins:List (Addr × Obj)} {σ:St} {H:Hp} {s:Shared} {x:V} {u t:Value} (I:Inv X pins σ H s) (rx:t6 x u) (ty:TyOf X.K H x t):∃ Hh:Heap → Prop,PySem.W.KitX X.K u t Hh ∧ Hh s.heap ∧ u ≠ .builtin "__main__.__loader__#opaque":=by
 cases ty with
 | non=>cases (show u = Value.none from rx); exact ⟨_,PySem.W.kitx_none,True.intro,fun z=>nomatch z⟩
 | bl y=>cases (show u = Value.bool y from rx); exact ⟨_,PySem.W.kitx_bool,True.intro,fun z=>nomatch z⟩
 | int i=>obtain ⟨t,q⟩:=(show ∃ t,u = Value.int i t from rx); cases q; exact ⟨_,PySem.W.kitx_int,True.intro,fun z=>nomatch z⟩
 | str y=>obtain ⟨t,q⟩:=(show ∃ t,u = Value.str y t from rx); cases q; exact ⟨_,PySem.W.kitx_str,True.intro,fun z=>nomatch z⟩
 | flt y=>obtain ⟨t,q⟩:=(show ∃ t,u = Value.float y t from rx); cases q; exact ⟨_,PySem.W.kitx_float,True.intro,fun z=>nomatch z⟩
 | @lst a xs ea =>
  cases (show u = Value.ref a from rx)
  obtain ⟨_,_,n,_,h1⟩:=(show x6 X.prog X.w H s.heap a (.lst xs) from I.hok a _ ea)
  exact ⟨_,PySem.W.kitx_list,⟨_,h1,rfl⟩,fun z=>nomatch z⟩
 | @frz a ob xs ea =>
  cases (show u = Value.ref a from rx)
  obtain ⟨_,_,_,n,_,h1⟩:=(show x6 X.prog X.w H s.heap a (.frz ob (.lst xs)) from I.hok a _ ea)
  exact ⟨_,PySem.W.kitx_list,⟨_,h1,rfl⟩,fun z=>nomatch z⟩
 | @tup a xs ea =>
  cases (show u = Value.ref a from rx)
  obtain ⟨_,_,_,p⟩:=(show x6 X.prog X.w H s.heap a (.tup xs) from I.hok a _ ea)
  obtain ⟨o,h1,h2,_⟩:=p
  exact ⟨_,PySem.W.kitx_tuple,⟨o,h1,h2⟩,fun z=>nomatch z⟩
 | @dK a kvs ea =>
  cases (show u = Value.ref a from rx)
  obtain ⟨_,_,vs,_,p⟩:=(show x6 X.prog X.w H s.heap a (.dK kvs) from I.hok a _ ea)
  obtain ⟨o,es,ep,h1,h2,_⟩:=p
  exact ⟨_,PySem.W.kitx_dict,⟨o,h1,h2.1⟩,fun z=>nomatch z⟩
 | @dT a kvs ea =>
  cases (show u = Value.ref a from rx)
  obtain ⟨_,_,xs,_,o,es,ep,h1,h2,_⟩:=(show x6 X.prog X.w H s.heap a (.dT kvs) from I.hok a _ ea)
  exact ⟨_,PySem.W.kitx_dict,⟨o,h1,h2.1⟩,fun z=>nomatch z⟩
 | @ins a C dx fs ea cl ha hn htk hm =>
  cases (show u = Value.ref a from rx)
  obtain ⟨mA,O,_⟩:=aN0 I.hok ea
  obtain ⟨od,J,_⟩:=O.look
  exact ⟨_,PySem.W.kitx_own (cl.get _) cl.hd ha hn htk hm,J,fun z=>nomatch z⟩
def a76 (K:PySem.W.Frag):List V → Hp → VK → Prop:=fun xs H Q=>∃ v p t T1 T2 b1 b2,xs = [v,.ref p] ∧ H p = some (.tup [.ty T1,.ty T2]) ∧ TyOf K H v t ∧ PySem.W.kitOne K t (.type T1) = some b1 ∧ PySem.W.kitOne K t (.type T2) = some b2 ∧ Q (.bl (b1 || b2)) H
theorem al8 (K:PySem.W.Frag) (h:X.K = K:=by rfl):y4 X (.builtin "isinstance") (a76 K):=by
 subst h
 intro pins s σ H xs us Q I r h
 obtain ⟨v,p,t,T1,T2,b1,b2,rfl,hp,ty,e1,e2,q⟩:=h
 obtain ⟨u,u',rfl,r1,r2⟩:=ac5 r
 cases r2
 obtain ⟨Hh,Z,zh,hx⟩:=bi4 I r1 ty
 obtain ⟨_,its,rv,pl⟩:=(show x6 X.prog X.w H s.heap p (.tup [.ty T1,.ty T2]) from I.hok p _ hp)
 obtain ⟨w1,w2,rfl,q1,q2⟩:=ac5 rv
 cases q1
 cases q2
 obtain ⟨⟨oc,od,dat,sl⟩,g1,g2,n,g3⟩:=pl
 simp only at g2 g3
 subst g2 g3
 have ka:PySem.W.kitAny X.K t [.type T1,.type T2] = some (b1 || b2):=by
  unfold PySem.W.kitAny
  rw [e1]
  cases b1 with
  | true=>rfl
  | false =>
   show PySem.W.kitAny X.K t [.type T2] = some b2
   unfold PySem.W.kitAny
   rw [e2]
   cases b2 <;> rfl
 exact PySem.W.kia_tup Z I.kIn zh g1 ka hx fun tk=>⟨.bl (b1 || b2),H,I.tok _,rfl,q⟩
def aX8:V → Bool
 | .int _ | .bl _ | .non | .ref _=>true
 | _=>false
def a98 (K:PySem.W.Frag):R2:=fun x y H Q=>∃ (a b:Addr) (xs:List V),x = .ref a ∧ y = .ref b ∧ SqL K H a (xs) ∧ SqL K H b xs ∧ xs.all aX8 = true ∧ Q (.bl false) H
theorem ba2 {A:Around} {s:Shared} {x:V} {u v:Value} (h:aX8 x = true) (ru:t6 x u) (rv:t6 x v):SeqAt.EqAt A s u v true:=by
 cases x with
 | int i =>
  obtain ⟨t,rfl⟩:=ru
  obtain ⟨t',rfl⟩:=rv
  have:=SeqAt.EqAt.int_int (A:=A) (s:=s) i t i t'
  rwa [beq_self_eq_true] at this
 | bl b=>cases ru; cases rv; exact SeqAt.EqAt.same _
 | non=>cases ru; cases rv; exact SeqAt.EqAt.same _
 | ref a=>cases ru; cases rv; exact SeqAt.EqAt.same _
 | _=>cases h
theorem aJ2 (K:PySem.W.Frag) (hu:X.A.units < cLine) (h:X.K = K:=by rfl):OpR X (compareOp .NotEq) (a98 K):=by
 subst h
 intro pins s σ H x y v u Q I rx ry h
 obtain ⟨a,b,xs,rfl,rfl,ha,hb,hr,q⟩:=h
 cases rx
 cases ry
 obtain ⟨us,r1,p1,_⟩:=I.list ha
 obtain ⟨vs,r2,p2,_⟩:=I.list hb
 have l1:=r1.length
 have l2:=r2.length
 refine SeqAt.RcNeAt.lists (e:=fun j=>true) p1.isList p2.isList (by simp only [List.size_toArray]; lia) (by lia) (fun j h1 h2=>?_) X.prog X.w X.xe _ ?_
 ·rw [List.size_toArray] at h1 h2
  have e1:xs[j]? = some (xs[j]'(by lia)):=List.getElem?_eq_getElem _
  obtain ⟨u,w1,s1⟩:=r1.get e1
  obtain ⟨v,w2,s2⟩:=r2.get e1
  have z1:us.toArray[j] = u:=by rw [List.getElem?_eq_getElem h1] at w1; simpa using w1
  have z2:vs.toArray[j] = v:=by rw [List.getElem?_eq_getElem h2] at w2; simpa using w2
  rw [z1,z2]
  exact ba2 (List.all_eq_true.mp hr _ (List.getElem_mem _)) s1 s2
 ·have:((List.range us.toArray.size).all fun _=>true) = true:=by simp
  rw [this]
  exact ⟨.bl false,H,I,rfl,q⟩
end
end L2
namespace L2
open PySem PySem.Spec PyProof.Rows
section
variable {prog:Program} {w:World} {A:Around} {E:Value → Shared → Prop} {s:Shared}
theorem aC6 {it:Addr} {vs:List Value} {Q:List Value → Shared → Prop} {o:Obj} {n:Nat} (ho:s.heap.get? it = some o) (hc:o.cls = .type "tuple") (hd:o.data = .seq vs.toArray n)
  (h:Q vs { s with heap:=(s.heap.push (seqObj "list" #[] 0)).update s.heap.objs.size (Obj.mapSeq (· ++ vs.toArray)) }) (hsz:vs.length ≤ sizeLine):wpAny (model prog w) A (collect (.ref it)) Q E s:=by
 unfold collect
 refine wpAny_bind (wpAny_runValue (codeAny_builtin F.entry_proto_collect ?_))
 rw [Around.under_plainId F.plain_proto_collect _]
 show wpAny _ A.in1 (newList [] >>= fun l=>again (.builtin "list.__iadd__" ⟨[l,.ref it],[]⟩)) _ _ s
 refine wpAny_bind (wpAny_newObj_type ?_)
 refine wpAny_pure ⟨plainId_quiet F.plain_list_iadd _,codeAny_builtin F.entry_list_iadd ?_⟩
 rw [Around.under_plainId F.plain_list_iadd _]
 show wpAny _ A.in1 (Builtin.List.listExtendWith (.ref s.heap.objs.size) (.ref it) (.ref s.heap.objs.size)) _ _ _
 have hS:(s.heap.push (seqObj "list" #[] 0)).get? s.heap.objs.size = some (seqObj "list" #[] 0):=Heap.get?_push_size _ rfl
 have fin':wpAny (model prog w) A (match Value.ref s.heap.objs.size with
   | Value.ref a=>do
    match (← load a).data with
     | Data.seq xs _=>pure xs.toList
     | _=>unsupported "internal:collect"
   | _=>unsupported "internal:collect") Q E { s with heap:=(s.heap.push (seqObj "list" #[] 0)).update s.heap.objs.size (Obj.mapSeq (· ++ vs.toArray)) }:=by
  show wpAny _ A (load s.heap.objs.size >>= _) _ _ _
  refine wpAny_bind (wpAny_load (get?_update_seq hS _) ?_)
  show wpAny _ _ (pure ((#[]:Array Value) ++ vs.toArray).toList) Q E _
  rw [show ((#[]:Array Value) ++ vs.toArray).toList = vs by simp]
  exact wpAny_pure h
 refine wpAny_mono (wpAny_extend_seq (hsz:=by simpa using hsz) (A:=A) (R:=fun r s'=>r = .ok (.ret (.ref s.heap.objs.size)) ∧ s' = { s with heap:=(s.heap.push (seqObj "list" #[] 0)).update s.heap.objs.size (Obj.mapSeq (· ++ vs.toArray)) })
  (s:={ s with heap:=s.heap.push (seqObj "list" #[] 0) }) _ it _ 0 (.inr rfl) hS (Heap.get?_push_of_some _ ho) hc hd ⟨rfl,rfl⟩) (fun fin s' h=>?_) (fun e s' h=>?_)
 ·cases fin with
  | done f =>
   obtain ⟨e,rfl⟩:=h
   cases e
   exact fin'
  | again c'=>exact ⟨h.1,codeAny_mono h.2 fun r s'' hr=>by obtain ⟨rfl,rfl⟩:=hr; exact fin'⟩
 ·exact absurd h.1 (by simp)
theorem aE4 {l:Addr} {vs:List Value} {ns:List Int} {Q:Value → Shared → Prop} {o:Obj} {n:Nat} (ho:s.heap.get? l = some o) (hc:o.cls = .type "tuple") (hd:o.data = .seq vs.toArray n) (hI:IntsAre vs ns) (h64:vs.length < 64)
  (h:∀ (out:Array Value) (ns':List Int),IntsAre out.toList ns' → ns'.Perm ns → ns'.Pairwise (· ≤ ·) → Q (.ref (s.heap.objs.size + 1)) { s with heap:=sortedAll s.heap vs out }) :
  wpAny (model prog w) A (call (.builtin "sorted") [.ref l]) Q E s:=by
 refine Calls.call_function_entry kind_sorted plain_sorted entry_sorted (args_sorted1 _) ?_
 unfold Builtin.«sorted»
 refine wpAny_bind (m:=checkCount "sorted" 1 1 _) (wpAny_pure ?_)
 refine wpAny_bind (aC6 ho hc hd ?_ (Nat.le_trans (Nat.le_of_lt h64) (by decide)))
 refine wpAny_bind (wpAny_newList ?_ (Nat.le_trans (Nat.le_of_lt h64) (by decide)))
 have hsz:((s.heap.push (seqObj "list" #[] 0)).update s.heap.objs.size (Obj.mapSeq (· ++ vs.toArray))).objs.size = s.heap.objs.size + 1:=by
  rw [Heap.size_update,size_push']
 have hoL:(((s.heap.push (seqObj "list" #[] 0)).update s.heap.objs.size (Obj.mapSeq (· ++ vs.toArray))).push (seqObj "list" vs.toArray 0)).get? (s.heap.objs.size + 1) = some (seqObj "list" vs.toArray 0):=by
  rw [← hsz]; exact Heap.get?_push_size _ rfl
 show wpAny _ _ _ _ _ { s with heap:=((s.heap.push (seqObj "list" #[] 0)).update s.heap.objs.size (Obj.mapSeq (· ++ vs.toArray))).push (seqObj "list" vs.toArray 0) }
 rw [hsz]
 refine wpAny_bind (wpAny_holding (wpAny_call_entry slot_list_sort ⟨_,hoL,rfl⟩ entry_list_sort (list_sort_tree hoL hI h64 fun out ns' a1 a2 a3=>⟨_,rfl,?_⟩) (args_list_sort _)))
 exact wpAny_pure ⟨_,rfl,h out ns' a1 a2 a3⟩
end
section
variable {X:Cx}
def aY8 (K:PySem.W.Frag):List V → Hp → VK → Prop:=fun xs H Q=>∃ (p:Addr) (ns:List Int),xs = [.ref p] ∧ (SqT K H p (ns.map V.int) ∨ SqL K H p (ns.map V.int)) ∧ ns.length < 64 ∧ ∀ ns':List Int,ns'.Perm ns → ns'.Pairwise (· ≤ ·) → ∀ l,H l = none → Q (.ref l) (upd H l (.lst (ns'.map V.int)))
theorem P4 (K:PySem.W.Frag) (h:X.K = K:=by rfl):y4 X (.builtin "sorted") (aY8 K):=by
 subst h
 intro pins s σ H xs us Q I r h
 obtain ⟨p,ns,rfl,hq,h64,q⟩:=h
 obtain ⟨u,rfl,rx⟩:=J5 r
 cases rx
 rcases hq with hq | hq
 ·obtain ⟨its,r',pl,hz⟩:=I.tuple hq
  have hi:IntsAre its ns:=K0 r'
  have hlen:its.length = ns.length:=hi.length
  obtain ⟨ot,g1,g2,n,g3⟩:=pl
  refine aE4 g1 g2 g3 hi (by lia) fun out ns' a1 a2 a3=>?_
  obtain ⟨e,he⟩:=sortedAll_at s.heap its out
  have hz':(ns'.map V.int).length ≤ sizeLine:=by
   rw [List.length_map,a2.length_eq]
   rw [List.length_map] at hz
   exact hz
  exact ⟨.ref (s.heap.objs.size + 1),_,I.laid (t':=s.toks) (o:=.lst (ns'.map V.int)) (fun b o e=>sortedAll_old e) (Nat.le_succ _) ⟨hz',out.toList,e,N8 a1,by simpa [seqObj] using he⟩,rfl,q ns' a2 a3 _ (I.hok.fresh (Nat.le_succ _))⟩
 ·exact (av5 X.K) pins s σ H _ _ Q I r ⟨p,ns,rfl,hq,h64,q⟩
end
end L2
namespace L2
def f5:Nat → Nat → Nat
 | 0,x=>x
 | n + 1,x=>f5 n (5 * x + 1)
theorem bg0 (n m x:Nat):f5 (n + m) x = f5 m (f5 n x):=by
 induction n generalizing x with
 | zero=>rw [Nat.zero_add]; rfl
 | succ n ih=>rw [Nat.succ_add]; exact ih _
theorem aP1:∀ n x,4 * f5 n x + 1 = 5 ^ n * (4 * x + 1)
 | 0,x=>by simp [f5]
 | n + 1,x=>by
  rw [f5,aP1 n,Nat.pow_succ]
  rw [show 4 * (5 * x + 1) + 1 = 5 * (4 * x + 1) by lia,Nat.mul_assoc]
theorem aA2:∀ k,∃ m,5 ^ 2 ^ k = 1 + 2 ^ (k + 2) * (2 * m + 1)
 | 0=>⟨0,by decide⟩
 | k + 1=>by
  obtain ⟨m,e⟩:=aA2 k
  refine ⟨m + 2 ^ k * (2 * m + 1) * (2 * m + 1),?_⟩
  rw [Nat.pow_succ 2 k,Nat.pow_mul,e,Nat.pow_two]
  generalize hA:2 * m + 1 = A
  have p:2 ^ (k + 2) = 4 * 2 ^ k:=by rw [Nat.pow_add]; lia
  have p2:2 ^ (k + 1 + 2) = 8 * 2 ^ k:=by rw [Nat.pow_add,Nat.pow_add]; lia
  rw [p,p2]
  generalize 2 ^ k = P
  have:2 * (m + P * A * A) + 1 = A + 2 * (P * A * A):=by lia
  rw [this]
  simp only [Nat.add_mul,Nat.mul_add,Nat.one_mul,Nat.mul_one]
  have e1:4 * P * A * (4 * P * A) = 16 * (P * P * (A * A)):=by
   simp only [Nat.mul_assoc,Nat.mul_comm,Nat.mul_left_comm]
  have e2:8 * P * (2 * (P * A * A)) = 16 * (P * P * (A * A)):=by
   simp only [Nat.mul_assoc,Nat.mul_comm,Nat.mul_left_comm]
  rw [e1,e2]
  have e3:8 * P * A = 4 * P * A + 4 * P * A:=by
   rw [← Nat.add_mul]; congr 1; lia
  lia
theorem bb9 (k x:Nat):∃ q,f5 (2 ^ k) x = x + 2 ^ k + 2 * 2 ^ k * q:=by
 obtain ⟨m,e⟩:=aA2 k
 have h:=aP1 (2 ^ k) x
 rw [e] at h
 refine ⟨m + (2 * m + 1) * (2 * x),?_⟩
 have p:2 ^ (k + 2) = 4 * 2 ^ k:=by rw [Nat.pow_add]; lia
 rw [p] at h
 generalize 2 ^ k = P at h
 generalize f5 P x = y at h
 have e1:(1 + 4 * P * (2 * m + 1)) * (4 * x + 1) = (4 * x + 1) + 4 * (P * ((2 * m + 1) * (4 * x + 1))):=by
  rw [Nat.add_mul,Nat.one_mul,Nat.mul_assoc,Nat.mul_assoc]
 rw [e1] at h
 have e2:(2 * m + 1) * (4 * x + 1) = 1 + 2 * (m + (2 * m + 1) * (2 * x)):=by
  rw [Nat.mul_add,Nat.mul_one]
  have:(2 * m + 1) * (4 * x) = 2 * ((2 * m + 1) * (2 * x)):=by
   rw [show 4 * x = 2 * (2 * x) by lia,Nat.mul_left_comm]
  lia
 rw [e2,Nat.mul_add,Nat.mul_one,← Nat.mul_assoc,Nat.mul_comm P 2] at h
 lia
theorem aK1:∀ (k x j:Nat),∃ n,n < 2 ^ k ∧ f5 n x % 2 ^ k = j % 2 ^ k
 | 0,x,j=>⟨0,by decide,by rw [Nat.pow_zero,Nat.mod_one,Nat.mod_one]⟩
 | k + 1,x,j=>by
  obtain ⟨n,hn,e⟩:=aK1 k x j
  obtain ⟨q,hq⟩:=bb9 k (f5 n x)
  have p:2 ^ (k + 1) = 2 * 2 ^ k:=by rw [Nat.pow_succ]; lia
  have pos:0 < 2 ^ k:=Nat.two_pow_pos k
  rw [p]
  generalize hy:f5 n x = y at e hq
  have hadd:=bg0 n (2 ^ k) x
  rw [hy,hq] at hadd
  generalize 2 ^ k = P at *
  have m1:=Nat.mod_mul_right_mod y P 2
  have a1:y % (2 * P) = y % P ∨ y % (2 * P) = y % P + P:=by
   have:=Nat.mod_mul (x:=y) (a:=P) (b:=2)
   rw [Nat.mul_comm P 2] at this
   rcases Nat.mod_two_eq_zero_or_one (y / P) with z | z
   ·left; rw [this,z]; lia
   ·right; rw [this,z]; lia
  have a2:j % (2 * P) = j % P ∨ j % (2 * P) = j % P + P:=by
   have:=Nat.mod_mul (x:=j) (a:=P) (b:=2)
   rw [Nat.mul_comm P 2] at this
   rcases Nat.mod_two_eq_zero_or_one (j / P) with z | z
   ·left; rw [this,z]; lia
   ·right; rw [this,z]; lia
  by_cases c:y % (2 * P) = j % (2 * P)
  ·exact ⟨n,by lia,by rw [hy]; exact c⟩
  ·refine ⟨n + P,by lia,?_⟩
   rw [hadd,show y + P + 2 * P * q = (y + P) + (2 * P) * q from rfl,Nat.add_mul_mod_self_left]
   have lt:j % P < P:=Nat.mod_lt _ pos
   have:(y + P) % (2 * P) = (y % (2 * P) + P) % (2 * P):=by rw [Nat.mod_add_mod]
   rw [this]
   rcases a1 with a1 | a1 <;> rcases a2 with a2 | a2
   ·exact absurd (by rw [a1,a2,e]) c
   ·rw [a1,a2,e,Nat.mod_eq_of_lt (by lia)]
   ·rw [a1,a2,e,show j % P + P + P = j % P + 2 * P by lia,Nat.add_mod_right,Nat.mod_eq_of_lt (by lia)]
   ·exact absurd (by rw [a1,a2,e]) c
end L2
namespace L2
open PySem PySem.SetTable
def adv (t:SetTable):Nat → Probe → Probe
 | 0,p=>p
 | n + 1,p=>adv t n (t.advance p)
theorem A4 (t:SetTable) (n m:Nat) (p:Probe):adv t (n + m) p = adv t m (adv t n p):=by
 induction n generalizing p with
 | zero=>rw [Nat.zero_add]; rfl
 | succ n ih=>rw [Nat.succ_add]; exact ih _
structure AtRun (t:SetTable) (p:Probe) (i q:Nat):Prop where
 hj:p.j = i
 hi:p.i = i
 more:p.more = runEnd t.mask i - i
 perturb:p.perturb = q
theorem aH6 (mask i:Nat):runEnd mask i - i ≤ 9:=by
 unfold runEnd
 split <;> lia
theorem aD7 {t:SetTable}:∀ (n:Nat) (p:Probe),p.more = n → ∃ p',adv t n p = p' ∧ p'.more = 0 ∧ p'.i = p.i ∧ p'.perturb = p.perturb
 | 0,p,h=>⟨p,rfl,h,rfl,rfl⟩
 | n + 1,p,h=>by
  have e:t.advance p = { p with j:=p.j + 1,more:=p.more - 1 }:=by
   unfold SetTable.advance
   rw [if_pos (by lia)]
  obtain ⟨p',h1,h2,h3,h4⟩:=aD7 (t:=t) n (t.advance p) (by rw [e]; show p.more - 1 = n; lia)
  rw [e] at h3 h4
  exact ⟨p',h1,h2,h3,h4⟩
theorem aA5 {t:SetTable} (p:Probe) (hm:p.more ≤ 9):∃ n,n ≤ 10 ∧ AtRun t (adv t n p) (leap t.mask p.i p.perturb).1 (leap t.mask p.i p.perturb).2:=by
 obtain ⟨p',h1,h2,h3,h4⟩:=aD7 (t:=t) p.more p rfl
 refine ⟨p.more + 1,by lia,?_⟩
 rw [A4,h1]
 show AtRun t (t.advance p') _ _
 unfold SetTable.advance
 rw [if_neg (by lia),h3,h4]
 exact ⟨rfl,rfl,rfl,rfl⟩
def F3 (mask:Nat):Nat → Nat × Nat → Nat × Nat
 | 0,s=>s
 | n + 1,s=>F3 mask n (leap mask s.1 s.2)
theorem aa4 (mask n m:Nat) (s:Nat × Nat):F3 mask (n + m) s = F3 mask m (F3 mask n s):=by
 induction n generalizing s with
 | zero=>rw [Nat.zero_add]; rfl
 | succ n ih=>rw [Nat.succ_add]; exact ih _
theorem ab3 {t:SetTable}:∀ (m:Nat) (p:Probe) (i q:Nat),AtRun t p i q → ∃ n,n ≤ 10 * m ∧ AtRun t (adv t n p) (F3 t.mask m (i,q)).1 (F3 t.mask m (i,q)).2
 | 0,p,i,q,h=>⟨0,Nat.le_refl _,h⟩
 | m + 1,p,i,q,h=>by
  obtain ⟨n,hn,r⟩:=aA5 (t:=t) p (by rw [h.more]; exact aH6 _ _)
  rw [h.hi,h.perturb] at r
  obtain ⟨n',hn',r'⟩:=ab3 m _ _ _ r
  refine ⟨n + n',by lia,?_⟩
  rw [A4]
  exact r'
theorem N3 (mask:Nat):∀ (n i q:Nat),(F3 mask n (i,q)).2 = q / 32 ^ n
 | 0,i,q=>by rw [Nat.pow_zero,Nat.div_one]; rfl
 | n + 1,i,q=>by
  show (F3 mask n (leap mask i q)).2 = _
  rw [show leap mask i q = ((i * 5 + 1 + q / 32) % (mask + 1),q / 32) from rfl,N3 mask n,Nat.pow_succ,Nat.mul_comm,Nat.div_div_eq_div_mul]
theorem S9 (mask:Nat):∀ (n i q:Nat),q < 32 → i < mask + 1 → (F3 mask n (i,q)).1 = f5 n i % (mask + 1)
 | 0,i,q,_,h=>(Nat.mod_eq_of_lt h).symm
 | n + 1,i,q,hq,h=>by
  show (F3 mask n (leap mask i q)).1 = f5 n (5 * i + 1) % (mask + 1)
  have e:leap mask i q = ((i * 5 + 1) % (mask + 1),0):=by
   show ((i * 5 + 1 + q / 32) % (mask + 1),q / 32) = _
   rw [Nat.div_eq_of_lt hq]
  rw [e,S9 mask n _ 0 (by decide) (Nat.mod_lt _ (Nat.succ_pos _)),Nat.mul_comm i 5]
  have md:∀ (n x y:Nat),x % (mask + 1) = y % (mask + 1) → f5 n x % (mask + 1) = f5 n y % (mask + 1):=by
   intro n
   induction n with
   | zero=>intro x y h; exact h
   | succ n ih =>
    intro x y h
    refine ih _ _ ?_
    rw [Nat.add_mod,Nat.mul_mod,h,← Nat.mul_mod,← Nat.add_mod]
  exact md n _ _ (Nat.mod_mod _ _)
theorem O3 {t:SetTable} {k:Nat} (hk:t.mask + 1 = 2 ^ k) (p:Probe) (hm:p.more ≤ 9) (hq:p.perturb < 2 ^ 64) (j:Nat) (hj:j ≤ t.mask):∃ n,n ≤ 10 * (t.mask + 14) ∧ (adv t n p).j = j:=by
 obtain ⟨n0,h0,r0⟩:=aA5 (t:=t) p hm
 obtain ⟨n1,h1,r1⟩:=ab3 12 _ _ _ r0
 generalize hs:F3 t.mask 12 ((leap t.mask p.i p.perturb).1,(leap t.mask p.i p.perturb).2) = s at r1
 have q1:s.2 < 32:=by
  rw [← hs,N3]
  show p.perturb / 32 / 32 ^ 12 < 32
  rw [Nat.div_div_eq_div_mul]
  exact Nat.div_lt_of_lt_mul (Nat.lt_of_lt_of_le hq (by decide))
 have i1:s.1 < t.mask + 1:=by
  rw [← hs,show (12:Nat) = 11 + 1 from rfl,aa4]
  exact Nat.mod_lt _ (Nat.succ_pos _)
 obtain ⟨m,hm2,e⟩:=aK1 k s.1 j
 obtain ⟨n2,h2,r2⟩:=ab3 m _ _ _ r1
 refine ⟨n0 + (n1 + n2),by rw [← hk] at hm2; lia,?_⟩
 rw [A4,A4]
 rw [S9 _ _ _ _ q1 i1,hk,e,Nat.mod_eq_of_lt (by lia)] at r2
 exact r2.hj
end L2
namespace L2
open PySem PySem.SetTable
theorem aC5 (t:SetTable) (n:Nat) (p:Probe):adv t (n + 1) p = t.advance (adv t n p):=by
 rw [A4]
 rfl
theorem V5 (t:SetTable) (p:Probe):(t.advance p).dummy = p.dummy:=by
 unfold SetTable.advance
 split <;> rfl
theorem aw5 (t:SetTable) (p:Probe) (h:p.more ≤ 9):(t.advance p).more ≤ 9:=by
 unfold SetTable.advance
 split
 ·show p.more - 1 ≤ 9
  lia
 ·exact aH6 _ _
theorem ad9 (t:SetTable) (p:Probe) (h:p.perturb < 2 ^ 64):(t.advance p).perturb < 2 ^ 64:=by
 unfold SetTable.advance
 split
 ·exact h
 ·exact Nat.lt_of_le_of_lt (Nat.div_le_self _ _) h
def ao0 (t:SetTable) (ha:Nat → Int) (h:Int) (n:Nat) (p:Probe):Prop:=∀ m,m < n → ∃ i,t.slot (adv t m p).j = .live i ∧ ha i ≠ h
theorem aN4 {t:SetTable} {ha:Nat → Int} {h:Int} (hd:∀ j,t.slot j ≠ .dummy):∀ (fuel:Nat) (p:Probe),p.dummy = none → (∃ n,n < fuel ∧ t.slot (adv t n p).j = .empty) →
  (∃ n,ao0 t ha h n p ∧ t.slot (adv t n p).j = .empty ∧ probe.go t ha h fuel p = some (.empty (adv t n p).j none)) ∨
  ∃ n i,ao0 t ha h n p ∧ t.slot (adv t n p).j = .live i ∧ ha i = h ∧ probe.go t ha h fuel p = some (.candidate (adv t n p).j i (adv t (n + 1) p))
 | 0,p,_,⟨n,hn,_⟩=>absurd hn (Nat.not_lt_zero _)
 | fuel + 1,p,hp,⟨n,hn,he⟩=>by
  unfold probe.go
  cases hs:t.slot p.j with
  | empty=>exact .inl ⟨0,fun m hm=>absurd hm (Nat.not_lt_zero _),hs,by rw [hp]; rfl⟩
  | dummy=>exact absurd hs (hd _)
  | live i =>
   dsimp only
   by_cases c:ha i = h
   ·rw [if_pos (by simpa using c)]
    exact .inr ⟨0,i,fun m hm=>absurd hm (Nat.not_lt_zero _),hs,c,rfl⟩
   ·rw [if_neg (by simpa using c)]
    have hn0:n ≠ 0:=fun z=>by subst z; rw [show adv t 0 p = p from rfl,hs] at he; cases he
    obtain ⟨n',rfl⟩:∃ n',n = n' + 1:=⟨n - 1,by lia⟩
    have clr:∀ {m:Nat},ao0 t ha h m (t.advance p) → ao0 t ha h (m + 1) p:=fun {m} q m' hm'=>by
     cases m' with
     | zero=>exact ⟨i,hs,c⟩
     | succ m'=>exact q m' (by lia)
    rcases aN4 hd fuel (t.advance p) (by rw [V5]; exact hp) ⟨n',by lia,he⟩ with ⟨m,q1,q2,q3⟩ | ⟨m,i',q1,q2,q3,q4⟩
    ·exact .inl ⟨m + 1,clr q1,q2,q3⟩
    ·exact .inr ⟨m + 1,i',clr q1,q2,q3,q4⟩
structure TabOk (t:SetTable) (k:Nat):Prop where
 mask:t.mask + 1 = 2 ^ k
 nodummy:∀ j,t.slot j ≠ .dummy
 room:∃ j,j ≤ t.mask ∧ t.slot j = .empty
structure Stand (p:Probe):Prop where
 more:p.more ≤ 9
 perturb:p.perturb < 2 ^ 64
 dummy:p.dummy = none
theorem Stand.start (t:SetTable) (h:Int):Stand (t.probeStart h):=⟨aH6 _ _,by
 show (h % (2 ^ 64:Int)).toNat < 2 ^ 64
 have h1:=Int.emod_nonneg h (show (2 ^ 64:Int) ≠ 0 by decide)
 have h2:=Int.emod_lt_of_pos h (show (0:Int) < 2 ^ 64 by decide)
 lia,rfl⟩
theorem Stand.adv {t:SetTable}:∀ (n:Nat) {p:Probe},Stand p → Stand (L2.adv t n p)
 | 0,_,h=>h
 | n + 1,p,h=>Stand.adv n ⟨aw5 t p h.more,ad9 t p h.perturb,by rw [V5]; exact h.dummy⟩
theorem aH2 {t:SetTable} {k:Nat} {ha:Nat → Int} {h:Int} {p:Probe} (T:TabOk t k) (S:Stand p) :
  (∃ n,ao0 t ha h n p ∧ t.slot (adv t n p).j = .empty ∧ t.probe ha h p = some (.empty (adv t n p).j none)) ∨
  ∃ n i,ao0 t ha h n p ∧ t.slot (adv t n p).j = .live i ∧ ha i = h ∧ t.probe ha h p = some (.candidate (adv t n p).j i (adv t (n + 1) p)):=by
 obtain ⟨j,hj,he⟩:=T.room
 obtain ⟨n,hn,e⟩:=O3 T.mask p S.more S.perturb j hj
 exact aN4 T.nodummy _ p S.dummy ⟨n,by show n < 10 * (t.mask + 15); lia,by rw [e]; exact he⟩
end L2
namespace L2
open PySem PySem.SetTable
theorem a57 {xs:Array Nat} (mono:xs.toList.Pairwise (· < ·)) {i j:Nat} (h:xs[i]? = some j):below xs j = i:=by
 obtain ⟨h1,h2,h3⟩:=Q0 xs j mono
 have hi:i < xs.size:=(Array.getElem?_eq_some_iff.mp h).1
 have gi:xs.getD i j = j:=by simp [Array.getD,hi,(Array.getElem?_eq_some_iff.mp h).2]
 rcases Nat.lt_trichotomy (below xs j) i with c | c | c
 ·have hb:below xs j < xs.size:=Nat.lt_trans c hi
  have:=h3 (below xs j) (Nat.le_refl _) hb
  have m:=(List.pairwise_iff_getElem.mp mono) (below xs j) i (by simpa using hb) (by simpa using hi) c
  have e1:xs.getD (below xs j) j = xs.toList[below xs j]'(by simpa using hb):=by simp [Array.getD,hb]
  have e2:xs.toList[i]'(by simpa using hi) = j:=by
   have:=(Array.getElem?_eq_some_iff.mp h).2
   simpa using this
  rw [e1] at this
  rw [e2] at m
  lia
 ·exact c
 ·have:=h2 i c
  lia
theorem am9 {t:SetTable} (mono:t.place.toList.Pairwise (· < ·)) {i j:Nat} (h:t.place[i]? = some j):t.slot j = .live i:=by
 unfold SetTable.slot
 have b:=a57 mono h
 dsimp only
 rw [b,if_pos (by rw [h]; simp)]
theorem G9 {t:SetTable} {i j:Nat} (h:t.slot j = .live i):t.place[i]? = some j:=by
 unfold SetTable.slot at h
 dsimp only at h
 split at h
 ·rename_i c
  injection h with h
  rw [← h]
  simpa using c
 ·split at h <;> cases h
theorem P8 {t:SetTable} (hd:t.dummies = #[]) (mono:t.place.toList.Pairwise (· < ·)) {j:Nat}:t.slot j = .empty ↔ ¬ j ∈ t.place.toList:=by
 constructor
 ·intro h hj
  obtain ⟨i,hi⟩:=List.getElem?_of_mem hj
  rw [am9 mono (i:=i) (by simpa using hi)] at h
  cases h
 ·intro h
  rcases W2 t j hd with ⟨e,_⟩ | ⟨i,e⟩
  ·exact e
  ·have:=G9 e
   exact absurd (List.mem_of_getElem? (l:=t.place.toList) (i:=i) (by simpa using this)) h
def ad0 (t:SetTable) (es:Array (Int × Value)):List (Nat × (Int × Value)):=t.place.toList.zip es.toList
theorem aJ8 {α β:Type} {xs:List α} {ys:List β} (h:xs.length = ys.length) (p:Nat) (x:α) (y:β):((xs.take p ++ x :: xs.drop p).zip (ys.take p ++ y :: ys.drop p)).Perm ((x,y) :: xs.zip ys):=by
 have hl:(xs.take p).length = (ys.take p).length:=by rw [List.length_take,List.length_take,h]
 rw [List.zip_append hl,List.zip_cons_cons]
 have e:xs.zip ys = (xs.take p).zip (ys.take p) ++ (xs.drop p).zip (ys.drop p):=by
  rw [← List.zip_append hl,List.take_append_drop,List.take_append_drop]
 rw [e]
 exact List.perm_middle
def aj2 (t:SetTable) (es:Array (Int × Value)):Prop:=∀ j e,(j,e) ∈ ad0 t es → ∃ n,(adv t n (t.probeStart e.1)).j = j ∧ ∀ m,m < n → (adv t m (t.probeStart e.1)).j ∈ t.place.toList
theorem at8 {t t':SetTable} (h:t.mask = t'.mask) (p:Probe):t.advance p = t'.advance p:=by
 unfold SetTable.advance
 rw [h]
theorem X8 {t t':SetTable} (h:t.mask = t'.mask):∀ (n:Nat) (p:Probe),adv t n p = adv t' n p
 | 0,_=>rfl
 | n + 1,p=>by
  show adv t n (t.advance p) = adv t' n (t'.advance p)
  rw [at8 h,X8 h n]
theorem W7 {t t':SetTable} (h:t.mask = t'.mask) (x:Int):t.probeStart x = t'.probeStart x:=by
 unfold SetTable.probeStart
 rw [h]
theorem T9 {t:SetTable} (hd:t.dummies = #[]) (j:Nat):(t.put j).1 = { t with place:=insertAt t.place (below t.place j) j } ∧ (t.put j).2 = below t.place j:=by
 unfold SetTable.put
 dsimp only
 rw [hd,au7]
 exact ⟨by rw [if_neg Bool.false_ne_true,← hd],rfl⟩
theorem aU5 {t:SetTable} {es:Array (Int × Value)} (hd:t.dummies = #[]) (hz:t.place.size = es.size) (j:Nat) (e:Int × Value):(ad0 (t.put j).1 (insertAt es (t.put j).2 e)).Perm ((j,e) :: ad0 t es):=by
 obtain ⟨h1,h2⟩:=T9 hd j
 rw [h1,h2]
 unfold ad0
 rw [SetTable.toList_insertAt,SetTable.toList_insertAt]
 exact aJ8 (by simpa using hz) _ _ _
theorem a_3 {t:SetTable} (hd:t.dummies = #[]) (j j':Nat):j' ∈ (t.put j).1.place.toList ↔ j' = j ∨ j' ∈ t.place.toList:=by
 rw [(T9 hd j).1]
 show j' ∈ (insertAt t.place (below t.place j) j).toList ↔ _
 rw [(SetTable.insertAt_perm t.place (below t.place j) j).mem_iff]
 simp [or_comm]
theorem aj2.put {t:SetTable} {es:Array (Int × Value)} (hd:t.dummies = #[]) (hz:t.place.size = es.size) (R:aj2 t es) {j n:Nat} {e:Int × Value} (hj:(adv t n (t.probeStart e.1)).j = j) (hb:∀ m,m < n → (adv t m (t.probeStart e.1)).j ∈ t.place.toList) :
  aj2 (t.put j).1 (insertAt es (t.put j).2 e):=by
 have hm:(t.put j).1.mask = t.mask:=by rw [(T9 hd j).1]
 intro j' e' h'
 have key:∀ n' x,(∀ m,m < n' → (adv t m (t.probeStart x)).j ∈ t.place.toList) → ∀ m,m < n' → (adv (t.put j).1 m ((t.put j).1.probeStart x)).j ∈ (t.put j).1.place.toList:=fun n' x q m hm'=>by
  rw [X8 hm,W7 hm,a_3 hd]
  exact .inr (q m hm')
 rcases List.mem_cons.mp ((aU5 hd hz j e).mem_iff.mp h') with z | z
 ·injection z with z1 z2
  subst z1 z2
  exact ⟨n,by rw [X8 hm,W7 hm]; exact hj,key n _ hb⟩
 ·obtain ⟨n',q1,q2⟩:=R j' e' z
  exact ⟨n',by rw [X8 hm,W7 hm]; exact q1,key n' _ q2⟩
end L2
namespace L2
open PySem PySem.SetTable
theorem Y2 {t:SetTable} {i q:Nat}:∀ (m:Nat) (p:Probe),AtRun t p i q → m ≤ runEnd t.mask i - i → (adv t m p).j = i + m ∧ (adv t m p).more = runEnd t.mask i - i - m ∧ (adv t m p).i = i ∧ (adv t m p).perturb = q
 | 0,p,h,_=>⟨h.hj,h.more,h.hi,h.perturb⟩
 | m + 1,p,h,hm=>by
  obtain ⟨h1,h2,h3,h4⟩:=Y2 m p h (by lia)
  rw [aC5]
  unfold SetTable.advance
  rw [if_pos (by lia)]
  exact ⟨by show (adv t m p).j + 1 = _; lia,by show (adv t m p).more - 1 = _; lia,h3,h4⟩
theorem a87 {t:SetTable} {i q:Nat} {p:Probe} (h:AtRun t p i q):AtRun t (adv t (runEnd t.mask i - i + 1) p) (leap t.mask i q).1 (leap t.mask i q).2:=by
 obtain ⟨h1,h2,h3,h4⟩:=Y2 (runEnd t.mask i - i) p h (Nat.le_refl _)
 rw [aC5]
 unfold SetTable.advance
 rw [if_neg (by lia),h3,h4]
 exact ⟨rfl,rfl,rfl,rfl⟩
def Q5 (owner:Array (Option Nat)) (j:Nat):Prop:=(owner.getD j (some 0)).isNone = false
theorem ar3 {t:SetTable} {owner:Array (Option Nat)}:∀ (fuel:Nat) (p:Probe) (i q j:Nat),AtRun t p i q → layClean.free t.mask owner fuel i q = some j → ∃ n,(adv t n p).j = j ∧ (owner.getD j (some 0)).isNone = true ∧ ∀ m,m < n → Q5 owner (adv t m p).j
 | 0,_,_,_,_,_,e=>by cases e
 | fuel + 1,p,i,q,j,h,e=>by
  unfold layClean.free at e
  split at e
  ·rename_i k hk
   injection e with e
   have h1:=List.find?_some hk
   have h2:=List.mem_of_find?_eq_some hk
   have hk2:k < runEnd t.mask i + 1 - i:=List.mem_range.mp h2
   have hrun:i ≤ runEnd t.mask i:=by unfold runEnd; split <;> lia
   obtain ⟨g1,_⟩:=Y2 k p h (by lia)
   refine ⟨k,by lia,by rw [← e]; exact h1,fun m hm=>?_⟩
   obtain ⟨g2,_⟩:=Y2 m p h (by lia)
   rw [g2]
   have:=List.find?_range_eq_some.mp hk
   have h3:=this.2.2 m hm
   simpa [Q5] using h3
  ·rename_i hk
   have hrun:i ≤ runEnd t.mask i:=by unfold runEnd; split <;> lia
   have all:∀ m,m < runEnd t.mask i + 1 - i → Q5 owner (i + m):=fun m hm=>by
    exact Bool.eq_false_iff.mpr (List.find?_eq_none.mp hk m (List.mem_range.mpr hm))
   obtain ⟨n,q1,q2,q3⟩:=ar3 fuel _ _ _ j (a87 h) e
   refine ⟨runEnd t.mask i - i + 1 + n,by rw [A4]; exact q1,q2,fun m hm=>?_⟩
   by_cases c:m < runEnd t.mask i - i + 1
   ·obtain ⟨g2,_⟩:=Y2 m p h (by lia)
    rw [g2]
    exact all m (by lia)
   ·obtain ⟨m',rfl⟩:∃ m',m = runEnd t.mask i - i + 1 + m':=⟨m - (runEnd t.mask i - i + 1),by lia⟩
    rw [A4]
    exact q3 m' (by lia)
theorem ar1 {mask:Nat} {owner:Array (Option Nat)}:∀ (fuel i q:Nat),layClean.free mask owner fuel i q = none → ∀ n,n < fuel → Q5 owner (F3 mask n (i,q)).1
 | 0,_,_,_,n,hn=>absurd hn (Nat.not_lt_zero _)
 | fuel + 1,i,q,e,n,hn=>by
  unfold layClean.free at e
  split at e
  ·cases e
  ·rename_i hk
   cases n with
   | zero =>
    have hrun:i ≤ runEnd mask i:=by unfold runEnd; split <;> lia
    exact Bool.eq_false_iff.mpr (List.find?_eq_none.mp hk 0 (List.mem_range.mpr (by lia)))
   | succ n=>exact ar1 fuel _ _ e n (by lia)
theorem aV0 {mask k:Nat} {owner:Array (Option Nat)} (hk:mask + 1 = 2 ^ k) (i q:Nat) (hi:i < mask + 1) (hq:q < 2 ^ 64) {j0:Nat} (hj:j0 ≤ mask) (he:(owner.getD j0 (some 0)).isNone = true):∃ j,layClean.free mask owner (turns mask) i q = some j:=by
 cases hf:layClean.free mask owner (turns mask) i q with
 | some j=>exact ⟨j,rfl⟩
 | none =>
  exfalso
  have q1:(F3 mask 13 (i,q)).2 < 32:=by
   rw [N3]
   exact Nat.div_lt_of_lt_mul (Nat.lt_of_lt_of_le hq (by decide))
  have i1:(F3 mask 13 (i,q)).1 < mask + 1:=by
   rw [show (13:Nat) = 12 + 1 from rfl,aa4]
   exact Nat.mod_lt _ (Nat.succ_pos _)
  obtain ⟨m,hm,e⟩:=aK1 k (F3 mask 13 (i,q)).1 j0
  have:=ar1 (turns mask) i q hf (13 + m) (by unfold turns; rw [← hk] at hm; lia)
  rw [aa4] at this
  have e2:=S9 mask m (F3 mask 13 (i,q)).1 (F3 mask 13 (i,q)).2 q1 i1
  rw [show ((F3 mask 13 (i,q)).1,(F3 mask 13 (i,q)).2) = F3 mask 13 (i,q) from rfl] at e2
  rw [e2,hk,e,Nat.mod_eq_of_lt (by lia)] at this
  unfold Q5 at this
  rw [he] at this
  cases this
end L2
namespace L2
open PySem PySem.SetTable
structure LayInv (t:SetTable) (owner:Array (Option Nat)) (ds:List Int):Prop where
 size:owner.size = t.mask + 1
 each:∀ (k:Nat) h,ds[k]? = some h → ∃ j:Nat,j ≤ t.mask ∧ owner[j]? = some (some k) ∧ ∃ n,(adv t n (t.probeStart h)).j = j ∧ ∀ m,m < n → Q5 owner (adv t m (t.probeStart h)).j
 only:∀ (j k:Nat),owner[j]? = some (some k) → k < ds.length
 uniq:∀ (j j' k:Nat),owner[j]? = some (some k) → owner[j']? = some (some k) → j = j'
 free:owner.toList.countP Option.isNone + ds.length = t.mask + 1
theorem LayInv.start (t:SetTable):LayInv t (Array.replicate (t.mask + 1) none) [] where
 size:=by simp
 each:=fun k h e=>by cases e
 only:=fun j k e=>by
  rw [Array.getElem?_replicate] at e
  split at e <;> cases e
 uniq:=fun j j' k e=>by
  rw [Array.getElem?_replicate] at e
  split at e <;> cases e
 free:=by
  rw [Array.toList_replicate,List.countP_replicate]
  rfl
theorem LayInv.room {t:SetTable} {owner:Array (Option Nat)} {ds:List Int} (L:LayInv t owner ds) (h:ds.length ≤ t.mask):∃ j:Nat,j ≤ t.mask ∧ (owner.getD j (some 0)).isNone = true:=by
 have:0 < owner.toList.countP Option.isNone:=by have:=L.free; lia
 obtain ⟨x,hx,hn⟩:=List.countP_pos_iff.mp this
 obtain ⟨j,hj,e⟩:=List.getElem_of_mem hx
 have hj':j < owner.size:=by simpa using hj
 refine ⟨j,by have:=L.size; lia,?_⟩
 rw [Array.getD_eq_getD_getElem?,Array.getElem?_eq_getElem hj',Option.getD_some]
 rw [Array.getElem_toList] at e
 rw [e]
 exact hn
theorem aq8 {owner:Array (Option Nat)} {j j' k:Nat} (h:Q5 owner j'):Q5 (owner.setIfInBounds j (some k)) j':=by
 unfold Q5 at *
 rw [Array.getD_eq_getD_getElem?] at *
 rw [Array.getElem?_setIfInBounds]
 by_cases c:j = j'
 ·subst c
  rw [if_pos rfl]
  split <;> rfl
 ·rw [if_neg c]
  exact h
theorem LayInv.put {t:SetTable} {owner:Array (Option Nat)} {ds:List Int} {h:Int} {j n:Nat} (L:LayInv t owner ds) (e:(adv t n (t.probeStart h)).j = j) (hj:(owner.getD j (some 0)).isNone = true) (hb:∀ m,m < n → Q5 owner (adv t m (t.probeStart h)).j) :
  LayInv t (owner.setIfInBounds j (some ds.length)) (ds ++ [h]):=by
 have hjs:j < owner.size:=by
  rcases Nat.lt_or_ge j owner.size with c | c
  ·exact c
  ·rw [Array.getD_eq_getD_getElem?,Array.getElem?_eq_none c] at hj
   cases hj
 have hjn:owner[j]? = some none:=by
  rw [Array.getElem?_eq_getElem hjs]
  rw [Array.getD_eq_getD_getElem?,Array.getElem?_eq_getElem hjs,Option.getD_some] at hj
  exact congrArg some (Option.isNone_iff_eq_none.mp hj)
 have at_:∀ i:Nat,(owner.setIfInBounds j (some ds.length))[i]? = if j = i then some (some ds.length) else owner[i]?:=fun i=>by
  rw [Array.getElem?_setIfInBounds]
  by_cases c:j = i
  ·subst c
   rw [if_pos rfl,if_pos hjs,if_pos rfl]
  ·rw [if_neg c,if_neg c]
 refine ⟨by rw [Array.size_setIfInBounds]; exact L.size,fun k h' e'=>?_,fun i k e'=>?_,fun i i' k e1 e2=>?_,?_⟩
 ·by_cases c:k < ds.length
  ·rw [List.getElem?_append_left c] at e'
   obtain ⟨i,q1,q2,m,q3,q4⟩:=L.each k h' e'
   refine ⟨i,q1,?_,m,q3,fun m' hm'=>aq8 (q4 m' hm')⟩
   rw [at_,if_neg (fun z=>by rw [← z,hjn] at q2; cases q2)]
   exact q2
  ·have hk:k = ds.length:=by
    have:=(List.getElem?_eq_some_iff.mp e').1
    rw [List.length_append,List.length_singleton] at this
    lia
   subst hk
   rw [List.getElem?_append_right (Nat.le_refl _),Nat.sub_self] at e'
   cases e'
   refine ⟨j,by have:=L.size; lia,by rw [at_,if_pos rfl],n,e,fun m hm=>aq8 (hb m hm)⟩
 ·rw [at_] at e'
  rw [List.length_append,List.length_singleton]
  by_cases c:j = i
  ·rw [if_pos c] at e'
   cases e'
   lia
  ·rw [if_neg c] at e'
   have:=L.only i k e'
   lia
 ·rw [at_] at e1 e2
  by_cases c:j = i
  ·rw [if_pos c] at e1
   cases e1
   by_cases d:j = i'
   ·rw [← c,← d]
   ·rw [if_neg d] at e2
    have:=L.only i' _ e2
    lia
  ·rw [if_neg c] at e1
   by_cases d:j = i'
   ·rw [if_pos d] at e2
    cases e2
    have:=L.only i _ e1
    lia
   ·rw [if_neg d] at e2
    exact L.uniq i i' k e1 e2
 ·have hjl:j < owner.toList.length:=by simpa using hjs
  rw [Array.toList_setIfInBounds,List.countP_set hjl,List.length_append,List.length_singleton]
  have hz:owner.toList[j]'hjl = none:=by
   rw [Array.getElem_toList]
   have:=hjn
   rw [Array.getElem?_eq_getElem hjs] at this
   exact Option.some.inj this
  rw [hz]
  have:=L.free
  have hpos:0 < owner.toList.countP Option.isNone:=List.countP_pos_iff.mpr ⟨none,by rw [← hz]; exact List.getElem_mem hjl,rfl⟩
  rw [show (if (none:Option Nat).isNone = true then 1 else 0) = 1 from rfl,show (if (some ds.length:Option Nat).isNone = true then 1 else 0) = 0 from rfl]
  lia
def ae5 (mask:Nat) (acc:Option (Array (Option Nat) × Nat)) (h:Int):Option (Array (Option Nat) × Nat):=do
 let (owner,k) ← acc
 let j ← layClean.free mask owner (turns mask) (bits h % (mask + 1)) (bits h)
 pure (owner.setIfInBounds j (some k),k + 1)
theorem a90 (h:Int):bits h < 2 ^ 64:=by
 unfold bits
 have h1:=Int.emod_nonneg h (show (2 ^ 64:Int) ≠ 0 by decide)
 have h2:=Int.emod_lt_of_pos h (show (0:Int) < 2 ^ 64 by decide)
 lia
theorem aC2 {t:SetTable} {k:Nat} (hk:t.mask + 1 = 2 ^ k):∀ (hs:List Int) (owner:Array (Option Nat)) (ds:List Int),LayInv t owner ds → ds.length + hs.length ≤ t.mask →
  ∃ owner',hs.foldl (ae5 t.mask) (some (owner,ds.length)) = some (owner',(ds ++ hs).length) ∧ LayInv t owner' (ds ++ hs)
 | [],owner,ds,L,_=>⟨owner,by rw [List.append_nil]; rfl,by rw [List.append_nil]; exact L⟩
 | h :: r,owner,ds,L,hl=>by
  rw [List.length_cons] at hl
  obtain ⟨j0,q1,q2⟩:=L.room (by lia)
  obtain ⟨j,hj⟩:=aV0 (owner:=owner) hk (bits h % (t.mask + 1)) (bits h) (Nat.mod_lt _ (Nat.succ_pos _)) (a90 h) q1 q2
  have run:AtRun t (t.probeStart h) (bits h % (t.mask + 1)) (bits h):=⟨rfl,rfl,rfl,rfl⟩
  obtain ⟨n,e1,e2,e3⟩:=ar3 (turns t.mask) _ _ _ j run hj
  have L':=L.put e1 e2 e3
  obtain ⟨owner',f1,f2⟩:=aC2 hk r _ _ L' (by rw [List.length_append,List.length_singleton]; lia)
  refine ⟨owner',?_,by rw [List.append_assoc] at f2; exact f2⟩
  rw [List.foldl_cons]
  have st:ae5 t.mask (some (owner,ds.length)) h = some (owner.setIfInBounds j (some ds.length),ds.length + 1):=by
   unfold ae5
   show (layClean.free t.mask owner (turns t.mask) (bits h % (t.mask + 1)) (bits h) >>= fun j=>pure (owner.setIfInBounds j (some ds.length),ds.length + 1)) = _
   rw [hj]
   rfl
  rw [st]
  rw [List.length_append,List.length_singleton,List.append_assoc] at f1
  exact f1
theorem ar2 {t:SetTable} {k:Nat} (hk:t.mask + 1 = 2 ^ k) (hs:Array Int) (h:hs.size ≤ t.mask):∃ owner,layClean t.mask hs = some owner ∧ LayInv t owner hs.toList:=by
 obtain ⟨owner,e,L⟩:=aC2 hk hs.toList _ [] (LayInv.start t) (by rw [List.length_nil]; simpa using h)
 refine ⟨owner,?_,L⟩
 have:layClean t.mask hs = (hs.foldl (ae5 t.mask) (some (Array.replicate (t.mask + 1) none,0))).map (·.1):=rfl
 rw [this,← Array.foldl_toList]
 rw [show ((some (Array.replicate (t.mask + 1) none,0)):Option (Array (Option Nat) × Nat)) = some (Array.replicate (t.mask + 1) none,([]:List Int).length) from rfl,e]
 rfl
end L2
namespace L2
open PySem PySem.SetTable
theorem a07 {mask i:Nat} (h:i < mask + 1):i + (runEnd mask i - i) ≤ mask:=by
 unfold runEnd
 split <;> lia
theorem aN7 {t:SetTable}:∀ (m:Nat) (p:Probe),p.j + p.more ≤ t.mask → (adv t m p).j + (adv t m p).more ≤ t.mask
 | 0,p,h=>h
 | m + 1,p,h=>by
  refine aN7 m (t.advance p) ?_
  unfold SetTable.advance
  split
  ·show p.j + 1 + (p.more - 1) ≤ t.mask
   lia
  ·exact a07 (Nat.mod_lt _ (Nat.succ_pos _))
theorem bh0 (t:SetTable) (m:Nat) (h:Int):(adv t m (t.probeStart h)).j ≤ t.mask:=by
 have:=aN7 (t:=t) m (t.probeStart h) (a07 (Nat.mod_lt _ (Nat.succ_pos _)))
 lia
def A8 (mask:Nat) (owner:Array (Option Nat)):List (Nat × Nat):=(List.range (mask + 1)).filterMap fun j=>(owner.getD j none).map (j,·)
theorem O0 {mask:Nat} {owner:Array (Option Nat)} (hz:owner.size = mask + 1) {j k:Nat}:(j,k) ∈ A8 mask owner ↔ owner[j]? = some (some k):=by
 unfold A8
 rw [List.mem_filterMap]
 constructor
 ·rintro ⟨j',hj,e⟩
  obtain ⟨k',e1,e2⟩:=Option.map_eq_some_iff.mp e
  injection e2 with e3 e4
  subst e3 e4
  have hj':j' < owner.size:=by rw [hz]; exact List.mem_range.mp hj
  rw [Array.getD_eq_getD_getElem?,Array.getElem?_eq_getElem hj',Option.getD_some] at e1
  rw [Array.getElem?_eq_getElem hj',e1]
 ·intro e
  have hj:=(Array.getElem?_eq_some_iff.mp e).1
  refine ⟨j,List.mem_range.mpr (by lia),?_⟩
  rw [Array.getD_eq_getD_getElem?,e]
  rfl
theorem ag5 (mask:Nat) (owner:Array (Option Nat)):((A8 mask owner).map (·.1)).Pairwise (· < ·):=by
 rw [List.pairwise_map]
 unfold A8
 rw [List.pairwise_filterMap]
 refine List.pairwise_lt_range.imp fun {a b} hab x hx y hy=>?_
 obtain ⟨_,_,rfl⟩:=Option.map_eq_some_iff.mp hx
 obtain ⟨_,_,rfl⟩:=Option.map_eq_some_iff.mp hy
 exact hab
theorem aB9 {mask:Nat} {owner:Array (Option Nat)} (hz:owner.size = mask + 1):(A8 mask owner).length + owner.toList.countP Option.isNone = mask + 1:=by
 have e:A8 mask owner = (owner.toList.zipIdx.filterMap fun x=>x.1.map (x.2,·)):=by
  unfold A8
  have:owner.toList.zipIdx = (List.range (mask + 1)).map fun j=>(owner.getD j none,j):=by
   apply List.ext_getElem
   ·simp [hz]
   ·intro i h1 h2
    have hi:i < owner.size:=by simpa using h1
    simp [Array.getD_eq_getD_getElem?,Array.getElem?_eq_getElem hi]
  rw [this,List.filterMap_map]
  rfl
 rw [e,← hz,← Array.length_toList]
 generalize owner.toList = l
 have go:∀ (l:List (Option Nat)) (s:Nat),((l.zipIdx s).filterMap fun x=>x.1.map (x.2,·)).length + l.countP Option.isNone = l.length:=by
  intro l
  induction l with
  | nil=>intro s; rfl
  | cons a r ih =>
   intro s
   rw [List.zipIdx_cons,List.filterMap_cons,List.countP_cons,List.length_cons]
   have:=ih (s + 1)
   cases a with
   | none=>simp only [Option.map_none,Option.isNone_none,if_true]; lia
   | some k=>simp only [Option.map_some,Option.isNone_some,Bool.false_eq_true,if_false,List.length_cons]; lia
 exact go l 0
theorem O9:∀ (l1 l2:List Nat),l1.Nodup → (∀ x ∈ l1,x ∈ l2) → l2.length ≤ l1.length → l1.Perm l2
 | [],l2,_,_,h=>by
  have:l2 = []:=List.eq_nil_of_length_eq_zero (by simpa using h)
  subst this; exact List.Perm.refl _
 | a :: r,l2,hn,hs,hl=>by
  rw [List.nodup_cons] at hn
  have ha:=hs a List.mem_cons_self
  have p:=List.perm_cons_erase ha
  refine ((O9 r (l2.erase a) hn.2 (fun x hx=>?_) ?_).cons a).trans p.symm
  ·have hne:x ≠ a:=fun e=>hn.1 (e ▸ hx)
   exact (List.mem_erase_of_ne hne).mpr (hs x (List.mem_cons_of_mem _ hx))
  ·have:=p.length_eq
   rw [List.length_cons] at this hl
   lia
theorem aT9 {t:SetTable} {owner:Array (Option Nat)} {es:Array (Int × Value)} (L:LayInv t owner (es.map (·.1)).toList):((A8 t.mask owner).map (·.2)).Perm (List.range es.size):=by
 have hlen:=aB9 L.size
 have hfree:=L.free
 have hsz:(A8 t.mask owner).length = es.size:=by
  have:(es.map (·.1)).toList.length = es.size:=by simp
  lia
 refine O9 _ _ ?_ (fun k hk=>?_) (by rw [List.length_range,List.length_map,hsz]; exact Nat.le_refl _)
 ·unfold List.Nodup
  rw [List.pairwise_map]
  have:=List.pairwise_map.mp (ag5 t.mask owner)
  refine List.Pairwise.imp_of_mem ?_ this
  intro a b ha hb hab z
  have h1:=(O0 L.size).mp ha
  have h2:=(O0 L.size).mp hb
  rw [z] at h1
  have:=L.uniq _ _ _ h1 h2
  lia
 ·obtain ⟨⟨j,k'⟩,hx,rfl⟩:=List.mem_map.mp hk
  have:=L.only _ _ ((O0 L.size).mp hx)
  exact List.mem_range.mpr (by simpa using this)
theorem aQ2 {t:SetTable} {owner:Array (Option Nat)} {es:Array (Int × Value)} (L:LayInv t owner (es.map (·.1)).toList):(((A8 t.mask owner).map (·.2)).toArray.filterMap (es[·]?)).toList.Perm es.toList:=by
 rw [Array.toList_filterMap]
 refine ((aT9 L).filterMap _).trans ?_
 have:(List.range es.size).filterMap (es[·]?) = es.toList:=by
  apply List.ext_getElem?
  intro i
  have go:∀ n,n ≤ es.size → (List.range n).filterMap (es[·]?) = es.toList.take n:=by
   intro n
   induction n with
   | zero=>intro _; simp
   | succ n ih =>
    intro hn
    rw [List.range_succ,List.filterMap_append,ih (by lia),List.take_succ]
    have:es[n]? = some es[n]:=Array.getElem?_eq_getElem (by lia)
    simp [this]
  rw [go es.size (Nat.le_refl _),← Array.length_toList,List.take_length]
 rw [this]
theorem aK0 {t:SetTable} {owner:Array (Option Nat)} {es:Array (Int × Value)} (L:LayInv t owner (es.map (·.1)).toList) (hp:t.place = ((A8 t.mask owner).map (·.1)).toArray) :
  aj2 t (((A8 t.mask owner).map (·.2)).toArray.filterMap (es[·]?)) ∧ (((A8 t.mask owner).map (·.2)).toArray.filterMap (es[·]?)).size = es.size ∧ t.place.size = es.size:=by
 have hlen:=aB9 L.size
 have hfree:=L.free
 have hsz:(A8 t.mask owner).length = es.size:=by
  have:(es.map (·.1)).toList.length = es.size:=by simp
  lia
 have inn:∀ x ∈ A8 t.mask owner,x.2 < es.size:=fun x hx=>by
  have:=L.only x.1 x.2 ((O0 L.size).mp hx)
  simpa using this
 have em:∀ l:List (Nat × Nat),(∀ x ∈ l,x.2 < es.size) → (l.map (·.2)).filterMap (es[·]?) = l.map fun x=>es.getD x.2 (0,.none):=by
  intro l
  induction l with
  | nil=>intro _; rfl
  | cons a r ih =>
   intro h
   have ha:=h a (List.mem_cons_self ..)
   rw [List.map_cons,List.filterMap_cons,Array.getElem?_eq_getElem ha]
   dsimp only
   rw [ih fun x hx=>h x (List.mem_cons_of_mem _ hx),List.map_cons,Array.getD_eq_getD_getElem?,Array.getElem?_eq_getElem ha,Option.getD_some]
 have et:(((A8 t.mask owner).map (·.2)).toArray.filterMap (es[·]?)).toList = (A8 t.mask owner).map fun x=>es.getD x.2 (0,.none):=by
  rw [Array.toList_filterMap]
  exact em _ inn
 refine ⟨fun j e he=>?_,?_,?_⟩
 ·unfold ad0 at he
  rw [et,hp] at he
  have he':(j,e) ∈ (A8 t.mask owner).map fun x=>(x.1,es.getD x.2 (0,.none)):=by
   rw [← List.zip_map']
   simpa using he
  obtain ⟨⟨j',k⟩,hx,e2⟩:=List.mem_map.mp he'
  injection e2 with e3 e4
  subst e3
  have ho:=(O0 L.size).mp hx
  have hk:=inn _ hx
  have e5:e = es[k]:=by rw [← e4,Array.getD_eq_getD_getElem?,Array.getElem?_eq_getElem hk,Option.getD_some]
  obtain ⟨i,q1,q2,n,q3,q4⟩:=L.each k e.1 (by rw [e5]; simp [hk])
  have:=L.uniq _ _ _ q2 ho
  subst this
  refine ⟨n,q3,fun m hm=>?_⟩
  have ht:=q4 m hm
  have hin:=bh0 t m e.1
  rw [hp]
  show _ ∈ (A8 t.mask owner).map (·.1)
  have hsz2:(adv t m (t.probeStart e.1)).j < owner.size:=by rw [L.size]; lia
  unfold Q5 at ht
  rw [Array.getD_eq_getD_getElem?,Array.getElem?_eq_getElem hsz2,Option.getD_some] at ht
  cases hc:owner[(adv t m (t.probeStart e.1)).j] with
  | none=>rw [hc] at ht; cases ht
  | some k'=>exact List.mem_map.mpr ⟨(_,k'),(O0 L.size).mpr (by rw [Array.getElem?_eq_getElem hsz2,hc]),rfl⟩
 ·rw [← Array.length_toList,et,List.length_map,hsz]
 ·rw [hp]
  simp [hsz]
end L2
namespace L2
open PySem PySem.SetTable PyProof.Rows
theorem az4 (m:Nat):∀ fuel k,m < 2 ^ (k + fuel) → ∃ k',sizeAbove.go m fuel (2 ^ k) = 2 ^ k' ∧ m < 2 ^ k' ∧ k ≤ k' ∧ (2 ^ k' ≤ 2 * m ∨ k' = k)
 | 0,k,h=>⟨k,rfl,by simpa using h,Nat.le_refl _,.inr rfl⟩
 | fuel + 1,k,h=>by
  unfold sizeAbove.go
  by_cases c:2 ^ k ≤ m
  ·rw [if_pos c,show 2 ^ k * 2 = 2 ^ (k + 1) from (Nat.pow_succ ..).symm]
   obtain ⟨k',e1,e2,e3,e4⟩:=az4 m fuel (k + 1) (by rw [show k + 1 + fuel = k + (fuel + 1) by lia]; exact h)
   refine ⟨k',e1,e2,by lia,.inl ?_⟩
   rcases e4 with e4 | rfl
   ·exact e4
   ·rw [Nat.pow_succ]; lia
  ·rw [if_neg c]
   exact ⟨k,rfl,by lia,Nat.le_refl _,.inr rfl⟩
theorem ai5 {m:Nat} (h:m < 2 ^ 60):∃ k,sizeAbove m = 2 ^ k ∧ m < 2 ^ k ∧ 3 ≤ k ∧ (2 ^ k ≤ 2 * m ∨ k = 3) :=
 az4 m 64 3 (Nat.lt_trans h (Nat.pow_lt_pow_right (by decide) (by decide)))
structure TabX (t:SetTable) (es:Array (Int × Value)):Prop where
 mask:∃ k,t.mask + 1 = 2 ^ k ∧ 3 ≤ k
 dum:t.dummies = #[]
 mono:t.place.toList.Pairwise (· < ·)
 size:t.place.size = es.size
 reach:aj2 t es
 less:es.size * 5 < t.mask * 3
 small:t.mask < 8192
theorem TabX.fits {t:SetTable} {es:Array (Int × Value)} (T:TabX t es):t.fits es.size = true:=by
 have h1:=T.size
 have h2:=T.less
 unfold SetTable.fits SetTable.fill
 rw [T.dum,h1]
 simp only [beq_self_eq_true,Bool.true_and,decide_eq_true_eq,List.size_toArray,List.length_nil]
 lia
theorem TabX.odd {t:SetTable} {es:Array (Int × Value)} (T:TabX t es):t.gaveWay = false:=by
 obtain ⟨k,hk,h3⟩:=T.mask
 obtain ⟨k',rfl⟩:∃ k',k = k' + 1:=⟨k - 1,by lia⟩
 rw [Nat.pow_succ] at hk
 unfold SetTable.gaveWay
 have:t.mask % 2 = 1:=by lia
 rw [this]; rfl
theorem TabX.ok {t:SetTable} {es:Array (Int × Value)} (T:TabX t es):∃ k,TabOk t k:=by
 obtain ⟨k,hk,h3⟩:=T.mask
 refine ⟨k,hk,fun j=>?_,?_⟩
 ·rcases W2 t j T.dum with ⟨q,_⟩ | ⟨i,q⟩ <;> rw [q] <;> intro z <;> cases z
 ·refine Classical.byContradiction fun no=>?_
  have all:∀ j ∈ List.range (t.mask + 1),j ∈ t.place.toList:=fun j hj=>Classical.byContradiction fun z=>no ⟨j,by rw [List.mem_range] at hj; lia,(P8 T.dum T.mono).mpr z⟩
  have h1:=T.size
  have h2:=T.less
  have p:=(O9 _ _ List.nodup_range all (by rw [List.length_range,Array.length_toList]; lia)).length_eq
  rw [List.length_range,Array.length_toList] at p
  lia
theorem TabX.fresh (L:Bool):TabX (.fresh 0 0 L) #[] where
 mask:=⟨3,rfl,by decide⟩
 dum:=rfl
 mono:=List.Pairwise.nil
 size:=rfl
 reach:=fun j e h=>absurd h (by simp [ad0,SetTable.fresh])
 less:=by show 0 * 5 < 7 * 3; decide
 small:=by show 7 < 8192; decide
theorem TabX.relaid {t:SetTable} {es:Array (Int × Value)} {n:Nat} (hn:es.size = n) (h0:0 < n) (hb:n ≤ 1023) :
    ∃ t' order,t.relaid (es.map (·.1)) (grown n) = some (t',order) ∧ TabX t' (order.filterMap (es[·]?)) ∧ (order.filterMap (es[·]?)).size = es.size ∧ (order.filterMap (es[·]?)).toList.Perm es.toList ∧ t'.led = t.led:=by
  have eg:grown n = n * 4:=by unfold grown; rw [if_neg (by lia)]
  rw [eg]
  obtain ⟨k,e1,e2,e3,e4⟩:=ai5 (m:=n * 4) (by have:(4092:Nat) < 2 ^ 60:=(by decide); lia)
  have hz:(es.map (·.1)).size = n:=by rw [Array.size_map]; exact hn
  obtain ⟨M,hM⟩:∃ M,M + 1 = 2 ^ k:=⟨2 ^ k - 1,by have:=Nat.two_pow_pos k; lia⟩
  have eM:sizeAbove (n * 4) - 1 = M:=by rw [e1]; lia
  have h8:M < 8192:=by
    rcases e4 with e4 | e4
    · lia
    · rw [e4] at hM
      have:(2:Nat) ^ 3 = 8:=rfl
      lia
  have hnM:n * 4 ≤ M:=by lia
  clear e1 e2 e4 eg
  obtain ⟨owner,o1,_⟩:=ar2 (t:={ t with mask:=M }) (k:=k) hM (es.map (·.1)) (by rw [hz]; show n ≤ M; lia)
  have o1':layClean M (es.map (·.1)) = some owner:=o1
  obtain ⟨t',ht'⟩:∃ t':SetTable,t' = { mask:=M,place:=((A8 M owner).map (·.1)).toArray,dummies:=#[],finger:=t.finger,led:=t.led,moves:=t.movedTo M,plain:=t.plain }:=⟨_,rfl⟩
  have m1:t'.mask = M:=by rw [ht']
  have m2:t'.place = ((A8 M owner).map (·.1)).toArray:=by rw [ht']
  obtain ⟨owner',o2,L⟩:=ar2 (t:=t') (k:=k) (by rw [m1]; exact hM) (es.map (·.1)) (by rw [hz,m1]; lia)
  rw [m1] at o2
  obtain rfl:owner = owner':=Option.some.inj (o1'.symm.trans o2)
  obtain ⟨r1,r2,r3⟩:=aK0 L (by rw [m1]; exact m2)
  have pm:=aQ2 L
  rw [m1] at r1 r2 pm
  refine ⟨t',((A8 M owner).map (·.2)).toArray,?_,⟨⟨k,by rw [m1]; exact hM,e3⟩,by rw [ht'],?_,r3.trans r2.symm,r1,?_,?_⟩,r2,pm,by rw [ht']⟩
  · unfold SetTable.relaid SetTable.laid
    rw [eM,o1',ht']
    rfl
  · rw [m2]
    exact ag5 _ _
  · rw [r2,hn,m1]
    lia
  · rw [m1]
    exact h8
theorem TabX.put {t:SetTable} {es:Array (Int × Value)} (T:TabX t es) {n:Nat} {e:Int × Value} (he:t.slot (adv t n (t.probeStart e.1)).j = .empty) (hb:∀ m,m < n → (adv t m (t.probeStart e.1)).j ∈ t.place.toList) (l:Bool) :
  (∃ k,(t.put (adv t n (t.probeStart e.1)).j).1.mask + 1 = 2 ^ k ∧ 3 ≤ k) ∧ (t.put (adv t n (t.probeStart e.1)).j).1.dummies = #[] ∧ (t.put (adv t n (t.probeStart e.1)).j).1.place.toList.Pairwise (· < ·) ∧
  (t.put (adv t n (t.probeStart e.1)).j).1.place.size = es.size + 1 ∧ aj2 (t.put (adv t n (t.probeStart e.1)).j).1 (insertAt es (t.put (adv t n (t.probeStart e.1)).j).2 e) ∧ (insertAt es (t.put (adv t n (t.probeStart e.1)).j).2 e).size = es.size + 1 ∧
  (t.put (adv t n (t.probeStart e.1)).j).1.mask = t.mask ∧ (t.put (adv t n (t.probeStart e.1)).j).1.led = t.led ∧ (t.put (adv t n (t.probeStart e.1)).j).1.plain = t.plain:=by
 generalize hj:(adv t n (t.probeStart e.1)).j = j at he ⊢
 obtain ⟨p1,p2⟩:=T9 T.dum j
 have R:=aj2.put T.dum T.size T.reach (e:=e) hj hb
 have hno:t.place[below t.place j]? ≠ some j:=fun z=>((P8 T.dum T.mono).mp he) (by
  have:=List.mem_of_getElem? (l:=t.place.toList) (i:=below t.place j) (a:=j) (by rw [Array.getElem?_toList]; exact z)
  exact this)
 have sz:∀ {α:Type} (xs:Array α) (p:Nat) (x:α),(insertAt xs p x).size = xs.size + 1:=fun xs p x=>by
  have:=(SetTable.insertAt_perm xs p x).length_eq
  simpa using this
 refine ⟨?_,?_,?_,?_,R,sz _ _ _,?_,?_,?_⟩
 ·rw [p1]; exact T.mask
 ·rw [p1]; exact T.dum
 ·rw [p1]; exact X7 t.place j T.mono hno
 ·rw [p1]; exact (sz _ _ _).trans (by rw [T.size])
 ·rw [p1]
 ·rw [p1]
 ·rw [p1]
theorem ak6 {α β:Type} {g:α → β} {l1 l2:List β} (p:l1.Perm l2):∀ fs:List α,l2 = fs.map g → ∃ fs2:List α,fs2.Perm fs ∧ l1 = fs2.map g:=by
 induction p with
 | nil=>intro fs h; exact ⟨fs,List.Perm.refl _,h⟩
 | cons x p ih =>
  intro fs h
  cases fs with
  | nil=>cases h
  | cons f r =>
   rw [List.map_cons] at h
   injection h with h1 h2
   obtain ⟨r2,q1,q2⟩:=ih r h2
   exact ⟨f :: r2,q1.cons f,by rw [List.map_cons,← h1,← q2]⟩
 | swap x y l =>
  intro fs h
  match fs,h with
  | [],h=>cases h
  | [f],h=>injection h with h1 h2; cases h2
  | f :: f' :: r,h =>
   rw [List.map_cons,List.map_cons] at h
   injection h with h1 h2
   injection h2 with h2 h3
   exact ⟨f' :: f :: r,List.Perm.swap _ _ _,by rw [List.map_cons,List.map_cons,h1,h2,h3]⟩
 | trans p q ih1 ih2 =>
  intro fs h
  obtain ⟨f2,a1,a2⟩:=ih2 fs h
  obtain ⟨f3,b1,b2⟩:=ih1 f2 a2
  exact ⟨f3,b1.trans a1,b2⟩
end L2
namespace L2
open PySem PySem.SetTable PyProof.Rows
section
variable {prog:Program} {w:World} {A:Around} {E:Value → Shared → Prop} {s:Shared}
abbrev tkH (prog:Program) (w:World) (d:List Int):Int:=tupleKeyHash (intKind prog w) d
abbrev TK (prog:Program) (w:World) (h:Heap) (d:List Int) (b:Addr):Prop:=IsTupleKey (intKind prog w) h d b
def ent (prog:Program) (w:World) (f:List Int × Addr):Int × Value:=(tkH prog w f.1,.ref f.2)
theorem ab7 {ks:List Int} {vs:List Value} (h:ItemsAre (intKind prog w) ks vs):∀ v ∈ vs,∃ n t,v = .int n t:=by
 induction h with
 | nil=>intro v hv; simp at hv
 | @cons k v' ks vs h1 _ ih =>
  intro v hv
  rcases List.mem_cons.mp hv with rfl | hv
  ·obtain ⟨t,e⟩:=Value.isInt_shape h1
   exact ⟨_,t,e⟩
  ·exact ih v hv
theorem aE9 {ks:List Int} {a:Addr} {Q:Bool → Shared → Prop} (hk:TK prog w s.heap ks a) (h:Q false s):wpAny (model prog w) A (ofAClassStatement 8 (.ref a)) Q E s:=by
 have hT:=hk.typeIs
 obtain ⟨o,items,n,ho,_,hd,hi⟩:=hk
 unfold ofAClassStatement
 refine wpAny_bind (wpAny_typeOf hT ?_)
 dsimp only
 rw [if_pos (by decide)]
 refine wpAny_bind (wpAny_pure ?_)
 simp only [Bool.not_true,Bool.false_eq_true,if_false]
 refine wpAny_bind (wpAny_seqItems ho hd ?_)
 dsimp only
 refine wpAny_bind ?_
 rw [← Array.forIn_toList]
 refine wpAny_forIn_list _ (fun rest r s'=>r.1 = none ∧ s' = s ∧ ∀ v ∈ rest,∃ n t,v = .int n t) _ ?_ ?_ _ _ ⟨rfl,rfl,ab7 hi⟩
 ·rintro v rest r s' ⟨hr,rfl,hall⟩
  obtain ⟨m,t,rfl⟩:=hall v List.mem_cons_self
  refine wpAny_bind ?_
  unfold ofAClassStatement
  refine wpAny_pure ?_
  simp only [Bool.false_eq_true,if_false]
  exact wpAny_pure ⟨rfl,rfl,fun u hu'=>hall u (List.mem_cons_of_mem _ hu')⟩
 ·rintro ⟨r1,r2⟩ s' ⟨hr,rfl,_⟩
  simp only at hr
  subst hr
  exact wpAny_pure h
theorem aH1 {ks:List Int} {a:Addr} {Q:Bool → Shared → Prop} (hk:TK prog w s.heap ks a) (h:Q true s):wpAny (model prog w) A (hashByValue 8 (.ref a)) Q E s:=by
 have hT:=hk.typeIs
 obtain ⟨o,items,n,ho,_,hd,hi⟩:=hk
 unfold hashByValue
 refine wpAny_bind (wpAny_specialOf hT F.slot_tuple_hash.lookup ?_)
 dsimp only
 refine wpAny_bind (wpAny_seqItems ho hd ?_)
 refine wpAny_bind ?_
 show wpAny _ _ (forIn items _ _) _ _ s
 rw [← Array.forIn_toList]
 refine wpAny_forIn_list _ (fun rest r s'=>r.1 = none ∧ s' = s ∧ ∀ v ∈ rest,∃ n t,v = .int n t) _ ?_ ?_ _ _ ⟨rfl,rfl,ab7 hi⟩
 ·rintro v rest r s' ⟨hr,rfl,hall⟩
  obtain ⟨m,t,rfl⟩:=hall v List.mem_cons_self
  refine wpAny_bind ?_
  unfold hashByValue
  refine wpAny_pure ?_
  simp only [Bool.not_true,Bool.false_eq_true,if_false]
  exact wpAny_pure ⟨rfl,rfl,fun u hu'=>hall u (List.mem_cons_of_mem _ hu')⟩
 ·rintro ⟨r1,r2⟩ s' ⟨hr,rfl,_⟩
  simp only at hr
  subst hr
  exact wpAny_pure h
theorem a00 {d:List Int} {b:Addr} {stored:List Value} {Q:Bool → Shared → Prop} (hb:TK prog w s.heap d b) (hst:∀ v ∈ stored,∃ d' b',v = .ref b' ∧ TK prog w s.heap d' b') (h:Q false s) :
  wpAny (model prog w) A (searchCouldBeSeen (.ref b) stored) Q E s:=by
 unfold searchCouldBeSeen
 refine wpAny_bind ?_
 refine wpAny_forIn_list _ (fun rest r s'=>r.1 = none ∧ s' = s ∧ ∀ v ∈ rest,∃ d' b',v = .ref b' ∧ TK prog w s.heap d' b') _ ?_ ?_ _ _ ⟨rfl,rfl,hst⟩
 ·rintro v rest r s' ⟨hr,rfl,hall⟩
  obtain ⟨d',b',rfl,hb'⟩:=hall v List.mem_cons_self
  have nx:∀ u ∈ rest,∃ d' b',u = .ref b' ∧ TK prog w s'.heap d' b':=fun u hu'=>hall u (List.mem_cons_of_mem _ hu')
  dsimp only
  split
  ·exact wpAny_pure ⟨rfl,rfl,nx⟩
  ·refine wpAny_bind (wpAny_eqIsQuiet_tuple hb ?_)
   simp only [Bool.not_true,Bool.false_eq_true,if_false]
   refine wpAny_bind (wpAny_eqIsQuiet_tuple hb' ?_)
   simp only [Bool.not_true,Bool.false_eq_true,if_false]
   refine wpAny_bind (aE9 hb ?_)
   simp only [Bool.false_eq_true,if_false]
   refine wpAny_bind (aE9 hb' ?_)
   simp only [Bool.false_eq_true,if_false]
   exact wpAny_pure ⟨rfl,rfl,nx⟩
 ·rintro ⟨r1,r2⟩ s' ⟨hr,rfl,_⟩
  simp only at hr
  subst hr
  exact wpAny_pure h
theorem aK2 {S:Addr} {o:Obj} {es:Array (Int × Value)} {ep:Nat} {t:SetTable} {fs:List (List Int × Addr)} {d:List Int} {b:Addr} {Q:SetFound → Shared → Prop}
  (hu:A.units < cLine) (ho:s.heap.get? S = some o) (hd:o.data = .set es ep t) (T:TabX t es) (hes:es.toList = fs.map (ent prog w)) (hk:∀ f ∈ fs,TK prog w s.heap f.1 f.2) (hb:TK prog w s.heap d b)
  (hit:d ∈ fs.map (·.1) → Q (.there none) s)
  (miss:¬ d ∈ fs.map (·.1) → ∀ n,t.slot (adv t n (t.probeStart (tkH prog w d))).j = .empty → (∀ m,m < n → (adv t m (t.probeStart (tkH prog w d))).j ∈ t.place.toList) → Q (.free (adv t n (t.probeStart (tkH prog w d))).j false) s) :
  wpAny (model prog w) A (setSearch S (.ref b) (tkH prog w d) true) Q E s:=by
 obtain ⟨k,TO⟩:=T.ok
 obtain ⟨j0,hj0,he0⟩:=TO.room
 generalize hst0:t.probeStart (tkH prog w d) = st at miss
 have S0:Stand st:=hst0 ▸ Stand.start t _
 obtain ⟨N,hN,eN⟩:=O3 TO.mask st S0.more S0.perturb j0 hj0
 have hNe:t.slot (adv t N st).j = .empty:=by rw [eN]; exact he0
 have small:=T.small
 have entAt:∀ (i:Nat) (f:List Int × Addr),fs[i]? = some f → es[i]? = some (ent prog w f):=fun i f e=>by
  rw [← Array.getElem?_toList,hes,List.getElem?_map,e]; rfl
 have liveIn:∀ {j i:Nat},t.slot j = .live i → j ∈ t.place.toList:=fun {j i} e=>by
  have:=G9 e
  exact List.mem_of_getElem? (by rw [Array.getElem?_toList]; exact this)
 have go:∀ (fuel n0:Nat) (stand:Option Probe),N < fuel + n0 → n0 ≤ N → stand.getD st = adv t n0 st → (∀ m,m < n0 → ∃ i f,t.slot (adv t m st).j = .live i ∧ fs[i]? = some f ∧ f.1 ≠ d) →
   wpAny (model prog w) A (setSearchFrom S (.ref b) (tkH prog w d) true fuel stand) Q E s:=by
  intro fuel
  induction fuel with
  | zero=>intro n0 stand h1 h2; lia
  | succ fuel ih =>
   intro n0 stand h1 h2 hst hcl
   unfold setSearchFrom
   refine wpAny_bind (wpAny_setState_of ho hd T.fits ?_)
   dsimp only
   rw [T.odd]
   simp only [Bool.false_eq_true,if_false]
   rw [hst0,hst]
   rcases aH2 (ha:=fun i=>(es[i]?.map (·.1)).getD 0) (h:=tkH prog w d) TO (S0.adv n0) with ⟨n,c1,c2,c3⟩ | ⟨n,i,c1,c2,c3,c4⟩
   ·erw [c3]
    dsimp only
    rw [← A4] at c2 ⊢
    refine wpAny_pure (miss (fun hm=>?_) _ c2 fun m hm=>?_)
    ·obtain ⟨f,hf,rfl⟩:=List.mem_map.mp hm
     obtain ⟨i,hi,e⟩:=List.getElem_of_mem hf
     have ef:fs[i]? = some f:=by rw [List.getElem?_eq_getElem hi,e]
     have ee:=entAt i f ef
     have hip:i < t.place.size:=by
      rw [T.size]
      exact (Array.getElem?_eq_some_iff.mp ee).1
     have ep':t.place[i]? = some t.place[i]:=Array.getElem?_eq_getElem hip
     have hpair:(t.place[i],ent prog w f) ∈ ad0 t es:=by
      refine List.mem_of_getElem? (i:=i) ?_
      unfold ad0
      rw [List.getElem?_zip_eq_some]
      exact ⟨by rw [Array.getElem?_toList]; exact ep',by rw [Array.getElem?_toList]; exact ee⟩
     obtain ⟨n',q1,q2⟩:=T.reach _ _ hpair
     have q1':(adv t n' st).j = t.place[i]:=by rw [← hst0]; exact q1
     have q2':∀ m,m < n' → (adv t m st).j ∈ t.place.toList:=fun m hm=>by rw [← hst0]; exact q2 m hm
     have sl:t.slot (adv t n' st).j = .live i:=by rw [q1']; exact am9 T.mono ep'
     have c2':=(P8 T.dum T.mono).mp c2
     rcases Nat.lt_trichotomy n' (n0 + n) with z | z | z
     ·by_cases z0:n' < n0
      ·obtain ⟨i',f',g1,g2,g3⟩:=hcl n' z0
       rw [sl] at g1
       injection g1 with g1
       subst g1
       rw [ef] at g2
       injection g2 with g2
       exact g3 (by rw [g2])
      ·obtain ⟨i',g1,g2⟩:=c1 (n' - n0) (by lia)
       rw [← A4,show n0 + (n' - n0) = n' by lia,sl] at g1
       injection g1 with g1
       subst g1
       exact g2 (by show (es[i]?.map (·.1)).getD 0 = _; rw [ee]; rfl)
     ·subst z
      exact c2' (liveIn sl)
     ·exact c2' (q2' _ z)
    ·by_cases z0:m < n0
     ·obtain ⟨i',f',g1,_,_⟩:=hcl m z0
      exact liveIn g1
     ·obtain ⟨i',g1,_⟩:=c1 (m - n0) (by lia)
      rw [← A4,show n0 + (m - n0) = m by lia] at g1
      exact liveIn g1
   ·erw [c4]
    dsimp only
    have pl:=G9 c2
    have hie:i < es.size:=by
     rw [← T.size]
     exact (Array.getElem?_eq_some_iff.mp pl).1
    have hif:i < fs.length:=by
     have:=congrArg List.length hes
     rw [Array.length_toList,List.length_map] at this
     lia
    obtain ⟨f,ef⟩:∃ f,fs[i]? = some f:=⟨_,List.getElem?_eq_getElem hif⟩
    have ee:=entAt i f ef
    have hf:=hk f (List.mem_of_getElem? ef)
    have stored:∀ v ∈ (es.filter (fun x=>x.1 == tkH prog w d)).toList.map (·.2),∃ d' b',v = .ref b' ∧ TK prog w s.heap d' b':=fun v hv=>by
     obtain ⟨e,he,rfl⟩:=List.mem_map.mp hv
     rw [Array.mem_toList_iff,Array.mem_filter] at he
     have:e ∈ fs.map (ent prog w):=hes ▸ Array.mem_toList_iff.mpr he.1
     obtain ⟨f',hf',rfl⟩:=List.mem_map.mp this
     exact ⟨_,_,rfl,hk f' hf'⟩
    have nlt:n0 + n < N:=by
     refine Classical.byContradiction fun z=>?_
     have hN2:=(P8 T.dum T.mono).mp hNe
     by_cases zz:N = n0 + n
     ·rw [zz,A4] at hN2
      exact hN2 (liveIn c2)
     ·obtain ⟨i',g1,_⟩:=c1 (N - n0) (by lia)
      rw [← A4,show n0 + (N - n0) = N by lia] at g1
      exact hN2 (liveIn g1)
    cases hl:t.led
    ·simp only [Bool.not_false,if_true]
     refine wpAny_bind (a00 hb stored ?_)
     simp only [Bool.false_eq_true,if_false]
     rw [ee]
     dsimp only [ent]
     refine wpAny_bind (wpAny_holding (wpAny_eqBool_tuple hu hf hb ?_))
     refine wpAny_bind (wpAny_setState_of ho hd T.fits ?_)
     dsimp only
     by_cases cd:f.1 = d
     ·rw [decide_eq_true cd,if_pos (by rfl)]
      exact wpAny_pure (hit (cd ▸ List.mem_map_of_mem (List.mem_of_getElem? ef)))
     ·rw [decide_eq_false cd,if_neg (by decide)]
      have sm:t.sameMemory t.moves t.mask = some true:=by
       unfold SetTable.sameMemory
       rw [if_pos (by simp)]
      rw [sm]
      dsimp only
      rw [if_pos rfl,c2]
      dsimp only
      rw [ee]
      dsimp only [ent]
      refine wpAny_bind (wpAny_isSame_ref_self ?_)
      rw [if_pos rfl]
      refine wpAny_bind (wpAny_pure ?_)
      dsimp only
      rw [if_neg Bool.false_ne_true]
      refine ih (n0 + n + 1) _ (by lia) (by lia) ?_ fun m hm=>?_
      ·rw [Option.getD_some,← A4,Nat.add_assoc]
      ·by_cases z0:m < n0
       ·exact hcl m z0
       ·by_cases z1:m = n0 + n
        ·exact ⟨i,f,by rw [z1,A4]; exact c2,ef,cd⟩
        ·obtain ⟨i',g1,g2⟩:=c1 (m - n0) (by lia)
         rw [← A4,show n0 + (m - n0) = m by lia] at g1
         have hip:i' < fs.length:=by
          have h5:=(Array.getElem?_eq_some_iff.mp (G9 g1)).1
          have h6:=congrArg List.length hes
          rw [Array.length_toList,List.length_map] at h6
          rw [T.size] at h5
          lia
         refine ⟨i',_,g1,List.getElem?_eq_getElem hip,fun z=>g2 ?_⟩
         show (es[i']?.map (·.1)).getD 0 = _
         rw [entAt i' _ (List.getElem?_eq_getElem hip)]
         show tkH prog w (fs[i']'hip).1 = _
         rw [z]
    ·simp only [Bool.not_true,Bool.false_eq_true,if_false]
     rw [ee]
     dsimp only [ent]
     refine wpAny_bind (wpAny_holding (wpAny_eqBool_tuple hu hf hb ?_))
     refine wpAny_bind (wpAny_setState_of ho hd T.fits ?_)
     dsimp only
     by_cases cd:f.1 = d
     ·rw [decide_eq_true cd,if_pos (by rfl)]
      exact wpAny_pure (hit (cd ▸ List.mem_map_of_mem (List.mem_of_getElem? ef)))
     ·rw [decide_eq_false cd,if_neg (by decide)]
      have sm:t.sameMemory t.moves t.mask = some true:=by
       unfold SetTable.sameMemory
       rw [if_pos (by simp)]
      rw [sm]
      dsimp only
      rw [if_pos rfl,c2]
      dsimp only
      rw [ee]
      dsimp only [ent]
      refine wpAny_bind (wpAny_isSame_ref_self ?_)
      rw [if_pos rfl]
      refine wpAny_bind (wpAny_pure ?_)
      dsimp only
      rw [if_neg Bool.false_ne_true]
      refine ih (n0 + n + 1) _ (by lia) (by lia) ?_ fun m hm=>?_
      ·rw [Option.getD_some,← A4,Nat.add_assoc]
      ·by_cases z0:m < n0
       ·exact hcl m z0
       ·by_cases z1:m = n0 + n
        ·exact ⟨i,f,by rw [z1,A4]; exact c2,ef,cd⟩
        ·obtain ⟨i',g1,g2⟩:=c1 (m - n0) (by lia)
         rw [← A4,show n0 + (m - n0) = m by lia] at g1
         have hip:i' < fs.length:=by
          have h5:=(Array.getElem?_eq_some_iff.mp (G9 g1)).1
          have h6:=congrArg List.length hes
          rw [Array.length_toList,List.length_map] at h6
          rw [T.size] at h5
          lia
         refine ⟨i',_,g1,List.getElem?_eq_getElem hip,fun z=>g2 ?_⟩
         show (es[i']?.map (·.1)).getD 0 = _
         rw [entAt i' _ (List.getElem?_eq_getElem hip)]
         show tkH prog w (fs[i']'hip).1 = _
         rw [z]
 exact go 100000 0 none (by lia) (Nat.zero_le _) (by rw [← hst0]; rfl) (fun m hm=>absurd hm (Nat.not_lt_zero _))
end
end L2
namespace L2
open PySem PySem.SetTable PyProof.Rows
def met (ds:List (List Int)):Nat → List (List Int)
 | 0=>[]
 | i + 1=>if ds.getD i [] ∈ met ds i then met ds i else met ds i ++ [ds.getD i []]
theorem ag9 (ds:List (List Int)):∀ i,i ≤ ds.length → (met ds i).Nodup ∧ (∀ x,x ∈ met ds i ↔ x ∈ ds.take i) ∧ (met ds i).length ≤ i ∧ ((met ds i).length = i ↔ (ds.take i).Nodup)
 | 0,_=>⟨List.nodup_nil,fun x=>by simp [met],Nat.le_refl _,by simp [met]⟩
 | i + 1,h=>by
  obtain ⟨h1,h2,h3,h4⟩:=ag9 ds i (by lia)
  have hi:i < ds.length:=by lia
  have eg:ds.getD i [] = ds[i]:=by rw [List.getD_eq_getElem?_getD,List.getElem?_eq_getElem hi]; rfl
  have et:ds.take (i + 1) = ds.take i ++ [ds[i]]:=by rw [List.take_succ,List.getElem?_eq_getElem hi]; rfl
  unfold met
  rw [eg,et]
  by_cases c:ds[i] ∈ met ds i
  ·rw [if_pos c]
   have c':=(h2 _).mp c
   refine ⟨h1,fun x=>?_,by lia,⟨fun z=>by lia,fun z=>?_⟩⟩
   ·rw [h2,List.mem_append,List.mem_singleton]
    exact ⟨.inl,fun q=>q.elim id fun e=>e ▸ c'⟩
   ·rw [List.nodup_append] at z
    exact absurd rfl (z.2.2 _ c' _ (by simp))
  ·rw [if_neg c]
   have c':¬ ds[i] ∈ ds.take i:=fun z=>c ((h2 _).mpr z)
   refine ⟨?_,fun x=>?_,?_,?_⟩
   ·rw [List.nodup_append]
    refine ⟨h1,by simp,fun a ha b hb e=>c ?_⟩
    rw [List.mem_singleton] at hb
    rw [← hb,← e]; exact ha
   ·rw [List.mem_append,List.mem_append,h2]
   ·rw [List.length_append,List.length_singleton]; lia
   ·rw [List.length_append,List.length_singleton,List.nodup_append]
    constructor
    ·intro z
     refine ⟨h4.mp (by lia),by simp,fun a ha b hb e=>c' ?_⟩
     rw [List.mem_singleton] at hb
     rw [← hb,← e]; exact ha
    ·intro z
     have:=h4.mpr z.1
     lia
theorem aO3 (ds:List (List Int)):((met ds ds.length).length = ds.length ↔ ds.Nodup) ∧ (met ds ds.length).length ≤ ds.length:=by
 obtain ⟨_,_,h3,h4⟩:=ag9 ds ds.length (Nat.le_refl _)
 rw [List.take_length] at h4
 exact ⟨h4,h3⟩
section
variable {prog:Program} {w:World} {A:Around} {E:Value → Shared → Prop} {s:Shared}
theorem aO5 {h0 h:Heap} {d:List Int} {b:Addr} (x:TK prog w h0 d b) (kp:∀ c o,h0.get? c = some o → h.get? c = some o):TK prog w h d b:=by
 obtain ⟨o,items,n,ho,r⟩:=x
 exact ⟨o,items,n,kp _ _ ho,r⟩
def ad3 (prog:Program) (w:World) (h0 h:Heap) (S:Addr) (L:List (List Int)):Prop :=
 ∃ (o:Obj) (es:Array (Int × Value)) (ep:Nat) (t:SetTable) (fs:List (List Int × Addr)),h.get? S = some o ∧ o.ExactSet ∧ o.data = .set es ep t ∧ TabX t es ∧ es.toList = fs.map (ent prog w) ∧ (∀ f ∈ fs,TK prog w h0 f.1 f.2) ∧ (fs.map (·.1)).Perm L
theorem ad3.of_get {h0 h h':Heap} {S:Addr} {L:List (List Int)} (x:ad3 prog w h0 h S L) (k:∀ o,h.get? S = some o → h'.get? S = some o):ad3 prog w h0 h' S L:=by
 obtain ⟨o,es,ep,t,fs,e,r⟩:=x
 exact ⟨o,es,ep,t,fs,k o e,r⟩
theorem aN9 {h:Heap} {a:Addr} {o:Obj} {es es':Array (Int × Value)} {ep:Nat} {t t':SetTable} (ho:h.get? a = some o) (hd:o.data = .set es ep t):(h.update a (Obj.putSet es' t')).get? a = some { o with data:=.set es' (ep + 1) t' }:=by
 have:=Heap.get?_update_self (Obj.putSet es' t') ho (by rw [putSet_of es' t' hd]; rfl)
 rw [putSet_of es' t' hd] at this; exact this
theorem aQ9 {S:Addr} {o:Obj} {es:Array (Int × Value)} {ep:Nat} {t:SetTable} {n:Nat} {Q:Unit → Shared → Prop} (ho:s.heap.get? S = some o) (hd:o.data = .set es ep t) (hf:t.fits es.size = true) (hn:es.size = n) (h0:0 < n) (hb:n ≤ 1023)
  (h:∀ es' t',TabX t' es' → es'.toList.Perm es.toList → Q () { s with heap:=s.heap.update S (Obj.putSet es' t') }):wpAny (model prog w) A (setRelay S (grown n)) Q E s:=by
 obtain ⟨t',order,e1,T',e2,pm,_⟩:=TabX.relaid (t:=t) hn h0 hb
 obtain ⟨k,a1,a2,a3,a4⟩:=ai5 (m:=grown n) (by
  unfold grown
  rw [if_neg (by lia)]
  have:(4092:Nat) < 2 ^ 60:=by decide
  lia)
 have hsz:sizeAbove (grown n) ≤ 8192:=by
  rw [a1]
  rcases a4 with a4 | rfl
  ·have:grown n = n * 4:=by unfold grown; rw [if_neg (by lia)]
   lia
  ·decide
 unfold setRelay
 refine wpAny_bind (wpAny_setState_of ho hd hf ?_)
 dsimp only
 rw [if_neg (by rw [sizeLine_eq]; lia)]
 rw [e1]
 have er:∀ {Q':(Array (Int × Value) × SetTable) → Shared → Prop},Q' (order.filterMap (es[·]?),t') s → wpAny (model prog w) A (if ((order.filterMap (es[·]?)).size != es.size) = true then unsupported "internal:set-table-lost-an-element" else pure (order.filterMap (es[·]?),t')) Q' E s:=fun {Q'} z=>by
  rw [if_neg (by rw [e2]; simp)]
  exact wpAny_pure z
 refine wpAny_bind (er ?_)
 exact wpAny_storeSet_of ho hd (h _ _ T' pm) (by rw [e2,sizeLine_eq]; lia)
theorem bn8 {h0:Heap} {S:Addr} {L:List (List Int)} {d:List Int} {b:Addr} {Q:Bool → Shared → Prop} (hu:A.units < cLine) (kp:∀ c o,h0.get? c = some o → s.heap.get? c = some o) (hb:TK prog w h0 d b) (x:ad3 prog w h0 s.heap S L) (room:L.length < 1023)
  (fin:∀ v h',Heap.SameBut S s.heap h' → ad3 prog w h0 h' S (if d ∈ L then L else L ++ [d]) → Q v { s with heap:=h' }) :
  wpAny (model prog w) A (setAddHashed S (.ref b) (tkH prog w d)) Q E s:=by
 obtain ⟨o,es,ep,t,fs,ho,hx,hd,T,hes,hk,pm⟩:=x
 have hlen:es.size = L.length:=by
  have h1:=congrArg List.length hes
  have h2:=pm.length_eq
  rw [Array.length_toList,List.length_map] at h1
  rw [List.length_map] at h2
  lia
 unfold setAddHashed setAddHashedIn
 refine wpAny_holding (wpAny_bind (wpAny_setState_of ho hd T.fits ?_))
 dsimp only
 rw [if_neg (by simp [byScan,Value.scannable])]
 refine wpAny_bind (aK2 hu ho hd T hes (fun f hf=>aO5 (hk f hf) kp) (aO5 hb kp) (fun hm=>?_) (fun hm n c2 c3=>?_))
 ·dsimp only
  have z:=fin false s.heap (Heap.SameBut.refl S s.heap)
  rw [if_pos (pm.mem_iff.mp hm)] at z
  exact wpAny_pure (z ⟨o,es,ep,t,fs,ho,hx,hd,T,hes,hk,pm⟩)
 ·dsimp only
  have hm':¬ d ∈ L:=fun z=>hm (pm.mem_iff.mpr z)
  refine wpAny_bind (wpAny_setState_of ho hd T.fits ?_)
  dsimp only
  obtain ⟨p1,p2,p3,p4,p5,p6,p7,p8,p9⟩:=T.put (e:=(tkH prog w d,Value.ref b)) c2 c3 true
  have pp:=SetTable.insertAt_perm es (t.put (adv t n (t.probeStart (tkH prog w d))).j).2 (tkH prog w d,Value.ref b)
  dsimp only at p1 p2 p3 p4 p5 p6 p7 p8 p9
  generalize (t.put (adv t n (t.probeStart (tkH prog w d))).j).1 = t1 at p1 p2 p3 p4 p5 p6 p7 p8 p9 ⊢
  generalize insertAt es (t.put (adv t n (t.probeStart (tkH prog w d))).j).2 (tkH prog w d,Value.ref b) = es1 at p1 p2 p3 p4 p5 p6 p7 p8 p9 pp ⊢
  rw [Array.toList_push,hes,show fs.map (ent prog w) ++ [(tkH prog w d,Value.ref b)] = (fs ++ [(d,b)]).map (ent prog w) by rw [List.map_append]; rfl] at pp
  obtain ⟨fs1,f1,f2⟩:=ak6 pp _ rfl
  have hk1:∀ f ∈ fs1,TK prog w h0 f.1 f.2:=fun f hf=>by
   rcases List.mem_append.mp (f1.mem_iff.mp hf) with q | q
   ·exact hk f q
   ·rw [List.mem_singleton] at q
    rw [q]; exact hb
  have pm1:(fs1.map (·.1)).Perm (L ++ [d]):=by
   refine (f1.map _).trans ?_
   rw [List.map_append]
   exact pm.append_right _
  have less:=T.less
  have small:=T.small
  have hf1:t1.fits es1.size = true:=by
   unfold SetTable.fits SetTable.fill
   rw [p2,p4,p6]
   simp only [beq_self_eq_true,Bool.true_and,decide_eq_true_eq,List.size_toArray,List.length_nil]
   obtain ⟨k,hk3,h3⟩:=T.mask
   have:2 ^ 3 ≤ 2 ^ k:=Nat.pow_le_pow_right (by decide) h3
   lia
  have key:∀ R:Bool → Shared → Prop,(∀ v h',Heap.SameBut S s.heap h' → ad3 prog w h0 h' S (L ++ [d]) → R v { s with heap:=h' }) → wpAny (model prog w) A (do
    storeSet S es1 t1
    if (!false && t1.tooFull) = true then setRelay S (grown (es.size + 1))
    return true) R E s:=fun R hR=>by
   refine wpAny_bind (wpAny_storeSet_of ho hd ?_ (by rw [p6,sizeLine_eq]; lia))
   have g1:=aN9 (es':=es1) (t':=t1) ho hd
   have sb1:=Heap.SameBut.update s.heap S (Obj.putSet es1 t1)
   by_cases c:(!false && t1.tooFull) = true
   ·rw [if_pos c]
    refine wpAny_bind (aQ9 (s:={ s with heap:=s.heap.update S (Obj.putSet es1 t1) }) g1 rfl hf1 p6 (by lia) (by lia) fun es2 t2 T2 pm2=>?_)
    rw [f2] at pm2
    obtain ⟨fs2,e1,e2⟩:=ak6 pm2 _ rfl
    have g2:=aN9 (es':=es2) (t':=t2) g1 rfl
    refine wpAny_pure (hR _ _ (sb1.trans (Heap.SameBut.update _ S _)) ⟨_,es2,_,t2,fs2,g2,hx,rfl,T2,e2,fun f hf=>hk1 f (e1.mem_iff.mp hf),(e1.map _).trans pm1⟩)
   ·rw [if_neg c]
    refine wpAny_pure (hR _ _ sb1 ⟨_,es1,_,t1,fs1,g1,hx,rfl,⟨p1,p2,p3,p4.trans p6.symm,p5,?_,?_⟩,f2,hk1,pm1⟩)
    ·have c':¬ t1.fill * 5 ≥ t1.mask * 3:=fun z=>c (by
      unfold SetTable.tooFull
      simp [z])
     unfold SetTable.fill at c'
     rw [p2,p4] at c'
     simp only [List.size_toArray,List.length_nil] at c'
     lia
    ·rw [p7]; exact small
  rw [if_neg hm'] at fin
  by_cases c:t1.plain = true
  ·rw [if_pos c]
   refine wpAny_bind (aH1 (aO5 hb kp) ?_)
   rw [if_pos rfl]
   exact key _ fin
  ·rw [if_neg c]
   refine wpAny_bind (wpAny_pure ?_)
   rw [if_pos rfl]
   exact key _ fin
end
end L2
namespace L2
open PySem PyProof.Rows
section
variable {prog:Program} {w:World} {A:Around} {R:Result → Shared → Prop} {I:Addr} {fp wr:List Addr} {G:Array GenState → Array GenState → Prop} {n:Nat} {P:Nat → Value → Prop} {St:Nat → Shared → Prop}
theorem a03 (W:WalksS prog w A.in1 I fp wr G n P St) (h0:Heap) (S:Addr) (hSf:S ∉ fp) (h0S:h0.get? S = none) (h0w:∀ b ∈ wr,h0.get? b = none) (ds:List (List Int)) (hn:n ≤ ds.length) (hu:A.in1.units < cLine) (hval:∀ i v,P i v → ∃ b,v = .ref b ∧ TK prog w h0 (ds.getD i []) b) (hb:n ≤ 1000) :
  ∀ (k i:Nat) (s:Shared),n - i = k → i ≤ n → St i s → (∀ c o,h0.get? c = some o → s.heap.get? c = some o) → ad3 prog w h0 s.heap S (met ds i) → (∀ s',Moved (S :: wr) G s s' → ad3 prog w h0 s'.heap S (met ds n) → R (.ok (.ret .none)) s') →
   codeAny (model prog w) A (.builtin "set.update.loop" ⟨[.ref S,.ref I],[]⟩) R s:=by
 have hSw:S ∉ wr:=fun z=>hSf (W.sub _ z)
 have sub:∀ b ∈ wr,b ∈ S :: wr:=fun b q=>List.mem_cons_of_mem _ q
 intro k
 induction k with
 | zero =>
  intro i s hk hi st kp x fin
  obtain rfl:i = n:=by lia
  refine codeAny_builtin PyProof.Rows.F.entry_set_update_loop ?_
  rw [Around.under_plainId PyProof.Rows.F.plain_set_update_loop _]
  show wpAny _ A.in1 (pyNext (.ref I) >>= _) _ _ s
  refine wpAny_bind (W.done s _ _ st fun s' m=>?_)
  show wpAny _ A.in1 (ret Value.none) _ _ s'
  exact wpAny_pure (fin s' (m.mono sub) (x.of_get fun o e=>m.heap S _ hSw e))
 | succ k ih =>
  intro i s hk hi st kp x fin
  have lt:i < n:=by lia
  refine codeAny_builtin PyProof.Rows.F.entry_set_update_loop ?_
  rw [Around.under_plainId PyProof.Rows.F.plain_set_update_loop _]
  show wpAny _ A.in1 (pyNext (.ref I) >>= _) _ _ s
  refine wpAny_bind (W.item i s _ _ lt st fun v s' pv st' m=>?_)
  obtain ⟨b,rfl,hbk⟩:=hval i v pv
  have x':ad3 prog w h0 s'.heap S (met ds i):=x.of_get fun o e=>m.heap S _ hSw e
  have kp':∀ c o,h0.get? c = some o → s'.heap.get? c = some o:=fun c o e=>m.heap c o (fun z=>by rw [h0w c z] at e; cases e) (kp c o e)
  show wpAny _ A.in1 (holding [Value.ref b] (setAdd S (.ref b)) >>= _) _ _ s'
  refine wpAny_bind (wpAny_holding ?_)
  unfold setAdd
  refine wpAny_holding (wpAny_bind (wpAny_pyHash_tuple hu (aO5 hbk kp') ?_))
  obtain ⟨_,_,hlen,_⟩:=ag9 ds i (by lia)
  refine bn8 (s:={ s' with toks:=s'.toks + ((ds.getD i []).length + 1) }) hu kp' hbk x' (by lia) fun v h' sb x2=>?_
  have x3:ad3 prog w h0 h' S (met ds (i + 1)):=x2
  refine wpAny_pure ⟨plainId_quiet PyProof.Rows.F.plain_set_update_loop _,ih (i + 1) _ (by lia) lt (W.frame _ s' _ _ st' (Nat.le_add_right _ _) fun b hb o e=>?_) (fun c o e=>?_) x3 fun s'' m2 x4=>?_⟩
  ·rw [sb.2 b (fun z:b = S=>hSf (z ▸ hb))]; exact e
  ·show h'.get? c = some o
   rw [sb.2 c (fun z:c = S=>by rw [z,h0S] at e; cases e)]; exact kp' c o e
  ·refine fin s'' (Moved.trans W.gtrans ((m.mono sub).then_heap (Nat.le_add_right _ _) fun b o hb e=>?_) m2) x4
   rw [sb.2 b (fun z:b = S=>hb (z ▸ List.mem_cons_self))]; exact e
end
section
variable {prog:Program} {w:World} {A:Around} {E:Value → Shared → Prop} {s:Shared}
set_option maxHeartbeats 3200000 in
theorem av0 {l:Addr} {items:Array Value} {ds:List (List Int)} {Q:Value → Shared → Prop} (hh:A.handled = none) (hu:A.units + 8 < cLine) (hl:s.heap.IsList l items) (hn:items.size = ds.length) (hi:∀ (i:Nat) v,items[i]? = some v → ∃ b,v = .ref b ∧ TK prog w s.heap (ds.getD i []) b) (hb:items.size ≤ 1000)
  (h:∀ (h':Heap) (tk:Nat),ad3 prog w s.heap h' s.heap.objs.size (met ds ds.length) → (∀ b o,b < s.heap.objs.size → s.heap.get? b = some o → h'.get? b = some o) → Q (.ref s.heap.objs.size) { s with heap:=h',toks:=tk }) :
  wpAny (model prog w) A (call (.type "set") [.ref l]) Q E s:=by
 obtain ⟨c,tl,hmro⟩:=PySem.F.called_set.mro
 have hmade:=PySem.F.called_set.made
 have hsub:=PySem.F.called_set.sub
 refine wpAny_call (codeAny_of_tree ?_)
 show wpAny _ _ (callAny (.type "set") _) _ _ _
 refine wpAny_pure ⟨Code.quiet_builtin _ (by decide +kernel),codeAny_builtin PySem.F.entry_type_call ?_⟩
 rw [Around.under_plain (weight_type_call_type "set" [.ref l] []) rfl]
 have h1:=PySem.F.called_set.notType
 have h2:=PySem.F.called_set.canCreate
 have hct:=PySem.F.typeCall_set_1 (.ref l)
 repeat (any_goals (first | assumption | wp_step))
 refine codeAny_mono (R0 (.ref l) (E:=E) (Q:=fun obj s₁=>obj = .ref s.heap.objs.size ∧ s₁ = { s with heap:=s.heap.push (A6 w) }) ⟨rfl,rfl⟩) fun r s₁ hr=>?_
 cases r with
 | error e=>exact hr
 | ok fl =>
  cases fl with
  | ret obj =>
   obtain ⟨rfl,rfl⟩:=hr
   have hS:(s.heap.push (A6 w)).get? s.heap.objs.size = some (A6 w):=Heap.get?_push_size _ rfl
   have hT:Shared.TypeIs { s with heap:=s.heap.push (A6 w) } (.ref s.heap.objs.size) "set":=⟨_,hS,rfl⟩
   have hli:=PySem.F.called_set.init.lookup
   have hbi:=PySem.F.called_set.init.bind (.ref s.heap.objs.size)
   repeat (any_goals (first | assumption | wp_step))
   refine codeAny_mono (codeAny_call_builtin (R:=wants (fun r s₂=>r = .none ∧ ∃ h' tk,s₂ = { s with heap:=h',toks:=tk } ∧ ad3 prog w s.heap h' s.heap.objs.size (met ds ds.length) ∧
     (∀ b o,b < s.heap.objs.size → s.heap.get? b = some o → h'.get? b = some o)) E) PySem.F.called_set.init.plain PySem.F.entry_set_init (check_set_init_1 hT ?_)) fun r₂ s₂ hr₂=>?_
   ·obtain ⟨ol,hol,hcl,nl,hdl⟩:=id hl
    have hol':(s.heap.push (A6 w)).get? l = some ol:=Heap.get?_push_of_some _ hol
    have hTl:Shared.TypeIs { s with heap:=s.heap.push (A6 w) } (.ref l) "list":=⟨ol,hol',hcl⟩
    have hsls:=PySem.F.sub_list_set
    have hslf:=PySem.F.sub_list_frozenset
    have hne:(Value.type "list" == Value.type "dict") = false:=by decide
    have hl1:(s.heap.push (A6 w)).IsList l items:=⟨_,hol',hcl,nl,hdl⟩
    unfold Builtin.«set.__init__» noKeywords Builtin.Frozenset.updateFrom
    generalize hPI:pyIter = PI
    wp_walk
    subst hPI
    refine wpAny_pyIter_list hl1 (wpAny_bind (wpAny_runValue ?_))
    have hlS:l < s.heap.objs.size:=Heap.lt_size hol
    have hneI:l ≠ (s.heap.push (A6 w)).objs.size:=by rw [Heap.size_push]; exact Nat.ne_of_lt (Nat.lt_succ_of_lt hlS)
    have hSf:s.heap.objs.size ∉ [(s.heap.push (A6 w)).objs.size,l]:=by
     rw [Heap.size_push]
     simp only [List.mem_cons,List.not_mem_nil,or_false,not_or]
     exact ⟨Nat.ne_of_lt (Nat.lt_succ_self _),Nat.ne_of_gt hlS⟩
    have h0S:s.heap.get? s.heap.objs.size = none:=by
     cases q:s.heap.get? s.heap.objs.size with
     | none=>rfl
     | some o=>exact absurd (Heap.lt_size q) (Nat.lt_irrefl _)
    have h0I:s.heap.get? (s.heap.push (A6 w)).objs.size = none:=by
     cases q:s.heap.get? (s.heap.push (A6 w)).objs.size with
     | none=>rfl
     | some o =>
      have:=Heap.lt_size q
      rw [Heap.size_push] at this
      exact absurd this (by show ¬ s.heap.objs.size + 1 < s.heap.objs.size; lia)
    rw [← hn]
    refine a03 ((Walks.list (by simpa using hh) _ l hneI items).toS) s.heap s.heap.objs.size hSf h0S (fun b hb=>by rw [List.mem_singleton] at hb; rw [hb]; exact h0I) ds (by lia) ?hU hi hb (items.size - 0) 0 _ (by lia) (Nat.zero_le _)
     ⟨⟨_,Heap.get?_push_size _ rfl,rfl,rfl⟩,(hl1.push _)⟩ (fun c o e=>Heap.get?_push_of_some _ (Heap.get?_push_of_some _ e)) ?hS0 ?hR
    case hU=>show A.units + 1 + 1 + 1 < cLine; lia
    case hS0 =>
     exact ⟨_,#[],0,_,[],Heap.get?_push_of_some _ hS,⟨rfl,rfl,rfl⟩,rfl,TabX.fresh _,rfl,(fun f hf=>nomatch hf),List.Perm.refl _⟩
    case hR =>
     intro s' m x
     obtain ⟨h',g',d',tk',os'⟩:=s'
     have eg:g' = s.gens:=m.gens
     have ed:d' = s.drawn:=m.drawn
     have eo:os' = s.os:=m.os
     subst eg ed eo
     show wpAny _ _ _ _ _ _
     refine wpAny_pure ?_
     show wpAny _ _ (ret Value.none) _ _ _
     refine wpAny_pure ⟨rfl,h',tk',rfl,x,fun b o q e=>?_⟩
     refine m.heap b o ?_ (Heap.get?_push_of_some _ (Heap.get?_push_of_some _ e))
     simp only [List.mem_cons,List.not_mem_nil,or_false,not_or]
     refine ⟨Nat.ne_of_lt q,?_⟩
     rw [Heap.size_push]
     exact Nat.ne_of_lt (Nat.lt_succ_of_lt q)
   ·cases r₂ with
    | error e=>exact hr₂
    | ok fl₂ =>
     cases fl₂ with
     | ret r =>
      obtain ⟨rfl,h',tk,rfl,x,kp⟩:=hr₂
      repeat (any_goals (first | assumption | wp_step))
      exact h _ _ x kp
     | _=>exact hr₂.elim
  | _=>exact hr.elim
end
end L2
namespace L2
open PySem PySem.Spec PyProof.Rows
theorem aH0 (l:Addr) (items:Array Value) (n:Nat) (b:Addr) (items2:Array Value) (n2:Nat) (dc:Option Addr) (sl:Array (Option Value)) (hs0:¬(!items.isEmpty && Builtin.List.listTooLong (items.size + items2.size)) = true) (hs1:items.size ≤ sizeLine) (hs2:items.size + items2.size ≤ sizeLine + 1) :
  Meets (Builtin.«list.extend» ⟨[.ref l,.ref b],[]⟩) (fun _ R s=>s.heap.get? l = some { cls:=.type "list",dict:=none,data:=.seq items n,slots:=#[] } ∧ s.heap.get? b = some { cls:=.type "tuple",dict:=dc,data:=.seq items2 n2,slots:=sl } ∧ R (.ok (.ret Value.none)) { s with heap:=s.heap.update l (Obj.mapSeq fun x=>x ++ items2),toks:=s.toks }) :=
 .of_wp fun prog w A R s h=>by
  obtain ⟨hp,g,d,tk,os⟩:=s
  obtain ⟨hl,hb,h⟩:=h
  have f2:=PySem.AutoSeq1.sub_tuple_tuple
  have f3:=PySem.AutoSeq1.sub_list_list
  have f4:=PySem.AutoSeq1.sub_tuple_list
  have f5:=PySem.AutoSeq1.sub_list_tuple
  have hz':(items ++ items2).size ≤ sizeLine + 1:=by rw [Array.size_append]; exact hs2
  wp_walk using (wpAny_updateSeq hl rfl (hz:=hs1) (_hz':=hz')),wpAny_loadPart' hl,wpAny_loadPart' hb
  exact ⟨_,rfl,h⟩
section
variable {X:Cx}
def a54 (K:PySem.W.Frag):V → List V → Hp → VK → Prop:=fun x vs H Q=>∃ l b xs zs,x = .ref l ∧ vs = [.ref b] ∧ H l = some (.lst xs) ∧ SqT K H b zs ∧ xs.length + zs.length ≤ sizeLine ∧ Q .non (upd H l (.lst (xs ++ zs)))
theorem ah8 (K:PySem.W.Frag) (hK:X.K = K:=by rfl):MtR X "list.extend" (a54 K):=by
 subst hK
 intro pins s σ H x vs v us Q I rx rv h
 obtain ⟨l,b,xs,zs,rfl,rfl,hH,hB,hz,q⟩:=h
 cases rx
 obtain ⟨u,rfl,ru⟩:=rv.one
 cases ru
 obtain ⟨z,its,n,r,hl,e⟩:=I.lstM hH
 obtain ⟨its2,r2,⟨ob,e2,c2,n2,d2⟩,z2⟩:=I.tuple hB
 have hl2:=r2.length
 have hsz:its.toArray.size + its2.toArray.size ≤ sizeLine:=by rw [List.size_toArray,List.size_toArray]; lia
 have hlong:¬ (!its.toArray.isEmpty && Builtin.List.listTooLong (its.toArray.size + its2.toArray.size)) = true:=by
  rw [af1 hsz,Bool.and_false]
  exact Bool.false_ne_true
 obtain ⟨oc,od,oo,os⟩:=ob
 dsimp only at c2 d2
 subst c2 d2
 refine call_meets F.slot_list_extend ⟨_,e,rfl⟩ F.entry_list_extend (F.args_list_extend_2 _ _)
  (aH0 l its.toArray n b its2.toArray n2 od os hlong (by rw [List.size_toArray]; lia) (by lia)) ⟨e,e2,?_⟩
 refine ⟨.non,_,I.lset (its':=its ++ its2) hH e (by simp) (r.append r2) ?_,rfl,q⟩
 rw [List.length_append]
 lia
def bb5 (l:Addr) (n:Nat):HO:=.ext fun h=>∃ (o:Obj) (es:Array (Int × Value)) (ep:Nat) (t:SetTable),h.get? l = some o ∧ o.ExactSet ∧ o.data = .set es ep t ∧ t.fits es.size = true ∧ es.size = n ∧ n < 4096
theorem az0 {prog:Program} {w:World}:∀ {d:List Int} {vs:List Value},r6 (d.map V.int) vs → ItemsAre (intKind prog w) d vs
 | [],_,.nil=>.nil
 | i :: d,_,.cons ⟨t,e⟩ r=>.cons (by rw [e]; exact intKind_is _ _ _ _) (az0 r)
def bn6 (K:PySem.W.Frag):List V → Hp → VK → Prop:=fun xs H Q=>∃ (p:Addr) (as:List Addr) (ds:List (List Int)),xs = [.ref p] ∧ SqL K H p (as.map V.ref) ∧ a58 K H as ds ∧ ds.length ≤ 1000 ∧ ∀ l,H l = none → Q (.ref l) (upd H l (bb5 l (met ds ds.length).length))
theorem aM0 (K:PySem.W.Frag) (hc:X.calm = true) (hu:X.A.units + 8 < cLine) (hK:X.K = K:=by rfl):y4 X (.type "set") (bn6 K):=by
 subst hK
 intro pins s σ H xs us Q I r h
 obtain ⟨p,as,ds,rfl,hq,hD,hle,q⟩:=h
 obtain ⟨u,rfl,rx⟩:=J5 r
 cases rx
 obtain ⟨its,r',pl,hz⟩:=I.list hq
 have hlen:=r'.length
 have la:=Paired.length hD
 rw [List.length_map] at hlen
 refine av0 (I.ok.hd hc) hu pl.isList (ds:=ds) (by rw [List.size_toArray]; lia) (fun i v hv=>?_) (by rw [List.size_toArray]; lia) fun h' tk x kp=>?_
 ·rw [← Array.getElem?_toList] at hv
  have hi:i < its.length:=(List.getElem?_eq_some_iff.mp hv).1
  have ea:as[i]? = some (as[i]'(by lia)):=List.getElem?_eq_getElem (by lia)
  obtain ⟨v',hv',rv⟩:=r'.get (i:=i) (x:=.ref (as[i]'(by lia))) (by rw [List.getElem?_map,ea]; rfl)
  have:v' = v:=by
   have:=hv'.symm.trans hv
   injection this
  subst this
  cases rv
  obtain ⟨d,ed,hd⟩:=j7 hD i _ ea
  obtain ⟨ti,rt,⟨ob,e2,c2,n2,d2⟩,_⟩:=I.tuple hd
  refine ⟨_,rfl,ob,ti.toArray,n2,e2,c2,d2,?_⟩
  rw [List.getD_eq_getElem?_getD,ed]
  simpa using az0 rt
 ·obtain ⟨o,es,ep,t,fs,ho,hx,hd,T,hes,hk,pm⟩:=x
  have hm:=(aO3 ds).2
  have hn:es.size = (met ds ds.length).length:=by
   have h1:=congrArg List.length hes
   have h2:=pm.length_eq
   rw [Array.length_toList,List.length_map] at h1
   rw [List.length_map] at h2
   lia
  exact ⟨.ref s.heap.objs.size,_,I.laid (t':=tk) (o:=bb5 s.heap.objs.size (met ds ds.length).length) (fun b o e=>kp b o (Heap.lt_size e) e) (Nat.le_refl _)
   ⟨⟨o,es,ep,t,ho,hx,hd,T.fits,hn,by lia⟩,⟨o,ho⟩,fun h1 h2 y k=>by
    obtain ⟨o,es,ep,t,ho,r⟩:=y
    exact ⟨o,es,ep,t,k o ho,r⟩⟩,rfl,q _ (I.hok.fresh (Nat.le_refl _))⟩
def bk7:List V → Hp → VK → Prop:=fun xs H Q=>∃ (p:Addr) (n:Nat),xs = [.ref p] ∧ H p = some (bb5 p n) ∧ Q (.int n) H
theorem aG7:y4 X (.builtin "len") bk7:=by
 intro pins s σ H xs us Q I r h
 obtain ⟨p,n,rfl,he,q⟩:=h
 obtain ⟨u,rfl,rx⟩:=J5 r
 cases rx
 obtain ⟨o,es,ep,t,ho,hx,hd,hf,hn,h4⟩:=(show x6 X.prog X.w H s.heap p (bb5 p n) from I.hok p _ he).1
 refine PySem.call_len_set ho hx hd hf (by lia) ?_
 rw [hn]
 exact ⟨.int n,H,I.tok _,⟨_,rfl⟩,q⟩
end
theorem Room.units9 {k:Nat} {A:Around} (r:Room k A):A.units + 8 < cLine:=by have:=r.un; lia
end L2
namespace L2
open PySem PyProof.Rows
theorem ai0:typeLookup (.type "list") "keys" = pure none:=am_miss_of_fast (by decide +kernel)
theorem S6:entryFor table "dict.update.loop" = some Builtin.«dict.update.loop»:=entryFor_of_tree (by kernel_rfl)
theorem F7:plainId "dict.update.loop" = true:=by decide +kernel
section
variable {prog:Program} {w:World} {A:Around} {E:Value → Shared → Prop} {s:Shared}
set_option maxHeartbeats 4000000 in
theorem ba1 {a:Addr} {xs:Array Value} {k:Nat} {sl:Array (Option Value)} {Q:Option Value → Shared → Prop} (hx:s.heap.get? a = some ⟨.type "list",none,.seq xs k,sl⟩) (hA:A.handled = none)
    (h:∀ (h':Heap) (tk:Nat),(∀ b o,s.heap.get? b = some o → h'.get? b = some o) → Q none { s with heap:=h',toks:=tk }):wpAny (model prog w) A (getAttr? (.ref a) "keys") Q E s:=by
  obtain ⟨hp,g,d,tk,os⟩:=s
  have hT:∀ tk',(⟨hp,g,d,tk',os⟩:Shared).TypeIs (.ref a) "list":=fun _=>⟨_,hx,rfl⟩
  have m1:=PySem.F.slot_list_getattribute.lookup
  have m2:=PySem.F.slot_list_getattribute.bind (.ref a)
  have m3:=am_list_getattr_none
  unfold getAttr? getAttrBy? getAttrBy
  repeat (any_goals (first
    | assumption
    | exact hT _
    | (with_reducible show wpAny _ _ (call (Value.builtin "list.__getattribute__") _ _) _ _ _
       refine call_meets PySem.F.slot_list_getattribute (hT _) am_entry_list_getattribute (PySem.F.args_list_getattribute_2 _ _) (meets_getattribute_miss_list a xs k sl "keys" _ ai0 (by decide +kernel) (by show 4 + 100 ≤ sizeLine; decide)) ⟨hx,hA,fun h' tk' e ne=>?_⟩)
    | wp_step))
  obtain ⟨t',u',he⟩:=ne.there
  have hTe:∀ tk',(⟨h',g,d,tk',os⟩:Shared).TypeIs (.ref e) "AttributeError":=fun _=>⟨_,he,rfl⟩
  have m4:=sub_AttributeError
  show wpAny _ _ (getattributeRaised _ _ _ _ _ _ _) _ _ _
  unfold getattributeRaised
  repeat (any_goals (first | assumption | exact hTe _ | wp_step))
  exact h _ _ ne.keeps
def V7 (ks:Nat → Key) (us:Nat → Value) (j:Nat):List (Key × Value):=(List.range j).foldl (fun acc i=>stored acc (ks i) (us i)) []
theorem W5 (ks:Nat → Key) (us:Nat → Value) (j:Nat):V7 ks us (j + 1) = stored (V7 ks us j) (ks j) (us j):=by
 unfold V7
 rw [List.range_succ,List.foldl_append]
 rfl
theorem aM2 (kvs:List (Key × Value)) (k:Key) (u:Value):(stored kvs k u).length ≤ kvs.length + 1:=by
 unfold stored
 split
 ·rw [List.length_map]; lia
 ·rw [List.length_append]; exact Nat.le_refl _
theorem aa9 (ks:Nat → Key) (us:Nat → Value):∀ j,(V7 ks us j).length ≤ j
 | 0=>Nat.le_refl _
 | j + 1=>by
  rw [W5]
  exact Nat.le_trans (aM2 _ _ _) (Nat.succ_le_succ (aa9 ks us j))
set_option maxHeartbeats 4000000 in
theorem aF1 {R:Result → Shared → Prop} {h0:Heap} {l I D:Addr} {vs:List Value} (ks:Nat → Key) (us:Nat → Value) (hh:A.handled = none) (hlI:l ≠ I) (hDI:D ≠ I) (fI:h0.get? I = none) (fD:h0.get? D = none) (hl:h0.IsList l vs.toArray) (hn:vs.length ≤ 1000)
  (hv:∀ i v,vs[i]? = some v → ∃ (p:Addr) (kv:Value),v = .ref p ∧ h0.IsTuple p #[kv,us i] ∧ (u7 prog w).is (ks i) kv = true)
  (hR:∀ (h':Heap) (tk:Nat),h'.DictOf (u7 prog w) D (V7 ks us vs.length) → (∀ b o,h0.get? b = some o → h'.get? b = some o) → R (.ok (.ret .none)) { s with heap:=h',toks:=tk }) :
  ∀ (r j:Nat) (h:Heap) (tk:Nat) (t:Tok),vs.length - j = r → j ≤ vs.length → (∀ b o,h0.get? b = some o → h.get? b = some o) → h.DictOf (u7 prog w) D (V7 ks us j) → h.IsListIter I l j →
   codeAny (model prog w) A (.builtin "dict.update.loop" ⟨[.ref D,.ref I,.int j t,.none],[]⟩) R { s with heap:=h,toks:=tk }:=by
 have W:=Walks.list (prog:=prog) (w:=w) (A:=A.in1) hh I l hlI vs.toArray
 have sz:vs.toArray.size = vs.length:=List.size_toArray ..
 intro r
 induction r with
 | zero =>
  intro j h tk t hr hj kp dd it
  obtain rfl:j = vs.length:=by lia
  refine codeAny_builtin S6 ?_
  rw [Around.under_plainId F7 _]
  show wpAny _ A.in1 (pyNext (.ref I) >>= _) _ _ _
  have hl1:h.IsList l vs.toArray:=hl.at fun o e=>kp _ _ e
  refine wpAny_bind (W.done _ _ _ ⟨by rw [sz]; exact it,hl1⟩ fun h1 tk1 k1=>?_)
  have kp1:∀ b o,h0.get? b = some o → h1.get? b = some o:=fun b o e=>k1 b o (by
   rw [List.mem_singleton]
   rintro rfl
   rw [fI] at e
   cases e) (kp b o e)
  have dd1:h1.DictOf (u7 prog w) D (V7 ks us vs.length):=dd.at fun o e=>k1 D o (by rw [List.mem_singleton]; exact hDI) e
  show wpAny _ A.in1 (Builtin.Dict.addKeywords D [] >>= fun _=>ret Value.none) _ _ _
  exact wpAny_bind (wpAny_pure (wpAny_pure (hR h1 tk1 dd1 kp1)))
 | succ r ih =>
  intro j h tk t hr hj kp dd it
  have hlt:j < vs.length:=by lia
  refine codeAny_builtin S6 ?_
  rw [Around.under_plainId F7 _]
  show wpAny _ A.in1 (pyNext (.ref I) >>= _) _ _ _
  have hl1:h.IsList l vs.toArray:=hl.at fun o e=>kp _ _ e
  refine wpAny_bind (W.item j _ _ _ (by rw [sz]; exact hlt) ⟨it,hl1⟩ fun v h1 tk1 pv st1 k1=>?_)
  have ev:vs[j]? = some v:=by simpa using pv
  have kp1:∀ b o,h0.get? b = some o → h1.get? b = some o:=fun b o e=>k1 b o (by
   rw [List.mem_singleton]
   rintro rfl
   rw [fI] at e
   cases e) (kp b o e)
  have dd1:h1.DictOf (u7 prog w) D (V7 ks us j):=dd.at fun o e=>k1 D o (by rw [List.mem_singleton]; exact hDI) e
  obtain ⟨p,kv,rfl,tp,hk⟩:=hv j v ev
  have tp1:h1.IsTuple p #[kv,us j]:=tp.at fun o e=>kp1 _ _ e
  obtain ⟨op,gp,cp,np,dp⟩:=id tp1
  show wpAny _ A.in1 (holding [Value.ref p] _ >>= _) _ _ _
  refine wpAny_bind (wpAny_holding (wpAny_bind (wpAny_tryCatch ?_)))
  unfold Builtin.Dict.pairItems
  refine wpAny_bind (wpAny_typeOf (show Shared.TypeIs _ (.ref p) "tuple" from ⟨op,gp,cp⟩) ?_)
  simp only [show (Value.type "tuple" == Value.type "list" || Value.type "tuple" == Value.type "tuple") = true from by decide,if_true]
  refine wpAny_bind (wpAny_seqItems gp dp (wpAny_pure ?_))
  show wpAny _ A.in1 (holding [kv,us j] (dictSet D kv (us j))) _ _ _
  refine wpAny_holding ?_
  unfold dictSet
  refine wpAny_holding (wpAny_bind ((u7 prog w).pyHash hk ?_))
  have fl:=aa9 ks us j
  refine wpAny_dictSetHashed_pairs (hsz:=Nat.le_of_lt (j9 (by lia))) hk dd1 fun h2 dd2 sb=>?_
  rw [← W5] at dd2
  have kp2:∀ b o,h0.get? b = some o → h2.get? b = some o:=fun b o e=>by
   have:b ≠ D:=by
    rintro rfl
    rw [fD] at e
    cases e
   rw [sb.2 b this]
   exact kp1 b o e
  refine wpAny_pure ⟨plainId_quiet F7 _,?_⟩
  have:=ih (j + 1) h2 (tk1 + 1) 0 (by lia) (by lia) kp2 dd2 (st1.1.at fun o e=>by rw [sb.2 I (Ne.symm hDI)]; exact e)
  rw [show rawInt ((j:Int) + 1) = Value.int ((j + 1:Nat):Int) 0 from by push_cast; rfl]
  exact this
set_option maxHeartbeats 4000000 in
theorem aG3 {l:Addr} {vs:List Value} {k:Nat} {sl:Array (Option Value)} {Q:Value → Shared → Prop} (ks:Nat → Key) (us:Nat → Value) (hh:A.handled = none) (hx:s.heap.get? l = some ⟨.type "list",none,.seq vs.toArray k,sl⟩) (hn:vs.length ≤ 1000)
  (hv:∀ i v,vs[i]? = some v → ∃ (p:Addr) (kv:Value),v = .ref p ∧ s.heap.IsTuple p #[kv,us i] ∧ (u7 prog w).is (ks i) kv = true)
  (h:∀ (h':Heap) (tk:Nat),h'.DictOf (u7 prog w) s.heap.objs.size (V7 ks us vs.length) → (∀ b o,s.heap.get? b = some o → h'.get? b = some o) → Q (.ref s.heap.objs.size) { s with heap:=h',toks:=tk }) :
  wpAny (model prog w) A (call (.type "dict") [.ref l]) Q E s:=by
 refine callType_codes (Q₁:=fun obj s₁=>obj = .ref s.heap.objs.size ∧ s₁ = { s with heap:=s.heap.push { cls:=.type "dict",data:=.dict #[] } }) F.kt_called_dict (F.kt_typeCall_dict_1 _) F.entry_dict_init (kt_code_dict_new _ ⟨rfl,rfl⟩) ?_
 rintro obj s₁ ⟨rfl,rfl⟩
 have hnew:(s.heap.push { cls:=.type "dict",data:=.dict #[] }).DictOf (u7 prog w) s.heap.objs.size []:=Heap.DictOf.new s.heap
 have hx1:(s.heap.push { cls:=.type "dict",data:=.dict #[] }).get? l = some ⟨.type "list",none,.seq vs.toArray k,sl⟩:=Heap.get?_push_of_some _ hx
 refine ⟨hnew.typeIs,F.args_dict_init_2 _ _,?_⟩
 unfold Builtin.«dict.__init__»
 refine wpAny_bind ?_
 unfold Builtin.Dict.selfAndRest
 refine wpAny_bind (wpAny_notOrdered_dict hnew.typeIs ?_)
 show wpAny _ _ (pure (s.heap.objs.size,[Value.ref l])) _ _ _
 refine wpAny_pure ?_
 show wpAny _ _ (Builtin.Dict.updateFrom "dict.__init__" s.heap.objs.size (.ref l) [] .none) _ _ _
 unfold Builtin.Dict.updateFrom
 refine wpAny_bind (wpAny_typeOf (show Shared.TypeIs _ (.ref l) "list" from ⟨_,hx1,rfl⟩) ?_)
 rw [if_pos (by decide)]
 refine wpAny_bind (ba1 hx1 hh fun h2 tk2 kp2=>?_)
 simp only [Option.isNone_none,if_true]
 refine wpAny_bind (wpAny_rule ?_)
 have hx2:=kp2 _ _ hx1
 have hl2:h2.IsList l vs.toArray:=⟨_,hx2,rfl,_,rfl⟩
 refine wpAny_bind (wpAny_pyIter_list hl2 ?_)
 have kS:∀ b o,s.heap.get? b = some o → h2.get? b = some o:=fun b o e=>kp2 b o (Heap.get?_push_of_some _ e)
 have fI:s.heap.get? h2.objs.size = none:=by
  cases q:s.heap.get? h2.objs.size with
  | none=>rfl
  | some o=>exact absurd (Heap.lt_size (kS _ _ q)) (Nat.lt_irrefl _)
 obtain ⟨oD,_,_,gD,_⟩:=id hnew
 refine wpAny_pure ⟨plainId_quiet F7 _,?_⟩
 exact aF1 (s:=s) (A:=A.in1) (h0:=s.heap) (l:=l) (I:=h2.objs.size) (D:=s.heap.objs.size) ks us hh (Nat.ne_of_lt (Heap.lt_size hx2)) (Nat.ne_of_lt (Heap.lt_size (kp2 _ _ gD))) fI (Heap.get?_none_of_le (Nat.le_refl _)) ⟨_,hx,rfl,_,rfl⟩ hn hv
  (fun h' tk dd kp=>⟨rfl,h h' tk dd kp⟩) vs.length 0 _ tk2 0 rfl (Nat.zero_le _) (fun b o e=>Heap.get?_push_of_some _ (kS b o e)) (hnew.at fun o e=>Heap.get?_push_of_some _ (kp2 _ _ e)) ⟨_,Heap.get?_push_size _ rfl,rfl,rfl⟩
end
def T0:List (Key × V) → List (Key × V):=fun ps=>ps.foldl (fun acc p=>U9 acc p.1 p.2) []
def bh1:List V → Hp → VK → Prop:=fun xs H Q=>∃ (l:Addr) (as:List Addr) (ps:List (Key × V)),xs = [.ref l] ∧ H l = some (.lst (as.map V.ref)) ∧ Paired (fun a (p:Key × V)=>H a = some (.tup [kV p.1,p.2])) as ps ∧ ps.length ≤ 1000 ∧
 ∀ d,H d = none → Q (.ref d) (upd H d (.dK (T0 ps)))
theorem ai6 (ps:List (Key × V)) (p:Key × V):T0 (ps ++ [p]) = U9 (T0 ps) p.1 p.2:=by
 unfold T0
 rw [List.foldl_append]
 rfl
section
variable {X:Cx}
theorem af8 {P:Program} {w:World} {H:Hp} {h:Heap} (ok:HOk P w H h):∀ {as:List Addr} {ps:List (Key × V)},Paired (fun a (p:Key × V)=>H a = some (.tup [kV p.1,p.2])) as ps →
  ∃ uvs:List (Value × Value),uvs.length = ps.length ∧ ∀ (i:Nat) a p,as[i]? = some a → ps[i]? = some p → ∃ uv,uvs[i]? = some uv ∧ t6 (kV p.1) uv.1 ∧ t6 p.2 uv.2 ∧ h.IsTuple a #[uv.1,uv.2]
 | _,_,.nil=>⟨[],rfl,fun i a p h1=>by simp at h1⟩
 | _,_,.cons (a:=a0) (b:=p0) e t=>by
  obtain ⟨uvs,l,q⟩:=af8 ok t
  obtain ⟨_,its,r,tp⟩:=(show x6 P w H h a0 (.tup [kV p0.1,p0.2]) from ok _ _ e)
  obtain ⟨u,v,rfl,r1,r2⟩:=ac5 r
  refine ⟨(u,v) :: uvs,by simp [l],fun i a p h1 h2=>?_⟩
  cases i with
  | zero=>cases h1; cases h2; exact ⟨_,rfl,r1,r2,tp⟩
  | succ i=>exact q i a p (by simpa using h1) (by simpa using h2)
theorem ah1:∀ {as:List Addr} {us:List Value},r6 (as.map V.ref) us → us = as.map Value.ref
 | [],_,.nil=>rfl
 | _ :: _,_,.cons r t=>by rw [ah1 t]; cases r; rfl
theorem aL1 (hc:X.calm = true):y4 X (.type "dict") bh1:=by
 intro pins s σ H xs us Q I r h
 obtain ⟨l,as,ps,rfl,hH,hp,h1000,q⟩:=h
 obtain ⟨u,rfl,rx⟩:=J5 r
 cases rx
 obtain ⟨z,its,n,r,hl,e⟩:=I.lstM hH
 cases ah1 r
 have la:=Paired.length hp
 obtain ⟨uvs,lu,hu⟩:=af8 I.hok hp
 refine aG3 (fun i=>(ps.getD i (.inl 0,.non)).1) (fun i=>(uvs.getD i (.none,.none)).2) (I.ok.hd hc) e (by rw [List.length_map]; lia) (fun i v hv=>?_) fun h' tk dd kp=>?_
 ·rw [List.getElem?_map] at hv
  obtain ⟨a,ha,rfl⟩:=Option.map_eq_some_iff.mp hv
  have hi:=(List.getElem?_eq_some_iff.mp ha).1
  have ep:ps[i]? = some (ps[i]'(by lia)):=List.getElem?_eq_getElem _
  obtain ⟨uv,e1,e2,e3,e4⟩:=hu i a _ ha ep
  refine ⟨a,uv.1,rfl,?_,?_⟩
  ·rw [show uvs.getD i (.none,.none) = uv by rw [List.getD,e1]; rfl]; exact e4
  ·rw [show ps.getD i (.inl 0,.non) = ps[i]'(by lia) by rw [List.getD,ep]; rfl]; exact ar7 e2
 ·have kv:∀ j,j ≤ ps.length → KV (T0 (ps.take j)) (V7 (fun i=>(ps.getD i (.inl 0,.non)).1) (fun i=>(uvs.getD i (.none,.none)).2) j):=by
   intro j
   induction j with
   | zero=>intro _; exact .nil
   | succ j ih =>
    intro hj
    have ep:ps[j]? = some (ps[j]'(by lia)):=List.getElem?_eq_getElem _
    have ea:as[j]? = some (as[j]'(by lia)):=List.getElem?_eq_getElem _
    obtain ⟨uv,e1,e2,e3,e4⟩:=hu j _ _ ea ep
    rw [W5,List.take_succ,ep]
    show KV (T0 (ps.take j ++ [ps[j]'(by lia)])) _
    rw [ai6,show ps.getD j (.inl 0,.non) = ps[j]'(by lia) by rw [List.getD,ep]; rfl,show uvs.getD j (.none,.none) = uv by rw [List.getD,e1]; rfl]
    exact (ih (by lia)).put _ e3
  have kv:=kv ps.length (Nat.le_refl _)
  rw [List.take_length] at kv
  rw [List.length_map,la] at dd
  have fl:=aa9 (fun i=>(ps.getD i (.inl 0,.non)).1) (fun i=>(uvs.getD i (.none,.none)).2) ps.length
  have I2:Inv X pins σ (upd H s.heap.objs.size (.dK (T0 ps))) { s with heap:=h',toks:=tk } :=
   I.laid kp (Nat.le_refl _) (a67 (Nat.le_of_lt (j9 (by rw [kv.length]; lia))) (beq_eq_false_iff_ne.mpr (Ne.symm (Nat.ne_of_lt I.big))) kv dd)
  exact ⟨.ref s.heap.objs.size,_,I2,rfl,q _ (I.hok.fresh (Nat.le_refl _))⟩
end
end L2
open PySem
namespace L2
variable {X:Cx}
theorem a02 {body:List Stmt} {x:Option Expr} {z:Option Str} {suite:List Stmt} {hpos pos:Pos} {tb:(St → XK) → TS}
  (hb:∀ (pn:List (Addr × Obj)) (E:St → XK),PSs (tcx X pn E) body (tb E)) :
  PS X (.Try body [.ExceptHandler x z suite hpos] [] [] pos) (tb fun _ _ _ _=>False):=by
 intro pins s σ H D I h
 refine wpAny_Try_except ?_
 refine wpAny_mono (hb (X.pn ++ pins) (fun _ _ _ _=>False) [] s σ H D (I.toPinned.wish _) h) (fun fl s1 q=>?_) (fun e s1 q=>?_)
 ·cases fl with
  | next=>obtain ⟨σ',H',J,q⟩:=q; exact wpAny_execs_nil ⟨σ',H',J.unwish.ofPinned,q⟩
  | brk=>obtain ⟨σ',H',J,q⟩:=q; exact ⟨σ',H',J.unwish.ofPinned,q⟩
  | cont=>obtain ⟨σ',H',J,q⟩:=q; exact ⟨σ',H',J.unwish.ofPinned,q⟩
  | ret u=>obtain ⟨v,σ',H',J,r,q⟩:=q; exact ⟨v,σ',H',J.unwish.ofPinned,r,q⟩
 ·obtain ⟨ps,σ1,H1,s0,J0,ea,C,a0,B,H2,rfl,os,bare,fl,fy,hok,hE⟩:=q
  exact hE.elim
end L2
def PySem.W.Fast.tw654437563099334523:Nat:=0
def PySem.W.Fast.tw11492443054065245902:Nat:=0
def PySem.W.Fast.tw8708362186540008812:Nat:=0
def PySem.W.Fast.tw16030849994525940808:Nat:=0
def PySem.W.Fast.tw5767878113957506227:Nat:=0
def PySem.W.Fast.tw17136426285314867409:Nat:=0
def PySem.W.Fast.tw7688969407904855319:Nat:=0
def PySem.W.Fast.tw13107797536036812188:Nat:=0
def PySem.W.Fast.tw2947590842024690173:Nat:=0
def PySem.W.Fast.tw17944277083424953089:Nat:=0
def PySem.W.Fast.tw2943320501477527240:Nat:=0
def PySem.W.Fast.tw1908682452965892634:Nat:=0
def PySem.W.Fast.tw7758568554879799631:Nat:=0
def PySem.W.Fast.tw1500831093532507427:Nat:=0
def PySem.W.Fast.tw14369472687002555726:Nat:=0
def PySem.W.Fast.tw16294327395407152387:Nat:=0
def PySem.W.Fast.tw1107328780945759191:Nat:=0
def PySem.W.Fast.tw17809905318444157907:Nat:=0
def PySem.W.Fast.tw4913074082993835087:Nat:=0
def PySem.W.Fast.tw10735521948056543604:Nat:=0
def PySem.W.Fast.tw16618834795832956414:Nat:=0
def PySem.W.Fast.tw10412415165825298671:Nat:=0
def PySem.W.Fast.tw2036393093082610349:Nat:=0
def PySem.W.Fast.tw16255825278173357225:Nat:=0
def PySem.W.Fast.tw8703612337887533381:Nat:=0
def PySem.W.Fast.tw13485320901347449160:Nat:=0
def PySem.W.Fast.tw11355918521416230449:Nat:=0
def PySem.W.Fast.tw15366179227287546484:Nat:=0
def PySem.W.Fast.tw9162596971223747093:Nat:=0
def PySem.W.Fast.tw10458519859218126124:Nat:=0
def PySem.W.Fast.tw18376211347719374767:Nat:=0
def PySem.W.Fast.tw7197863082135389983:Nat:=0
def PySem.W.Fast.tw15582047532837334229:Nat:=0
def PySem.W.Fast.tw3270863904619564436:Nat:=0
def PySem.W.Fast.tw7509925936197618570:Nat:=0
def PySem.W.Fast.tw6708969889087337553:Nat:=0
def PySem.W.Fast.tw1594444222999100934:Nat:=0
def PySem.W.Fast.tw9874614337072049384:Nat:=0
def PySem.W.Fast.tw8483414453489595131:Nat:=0
def PySem.W.Fast.tw12286895490463075996:Nat:=0
def PySem.W.Fast.tw17990406864803812194:Nat:=0
def PySem.W.Fast.tw4478789973739715297:Nat:=0
def PySem.W.Fast.tw6563651366622533654:Nat:=0
def PySem.W.Fast.tw10807621571660166639:Nat:=0
def PySem.W.Fast.tw3196824502222117594:Nat:=0
def PySem.W.Fast.tw10083205256607757618:Nat:=0
def PySem.W.Fast.tw13590812841828179736:Nat:=0
def PySem.W.Fast.tw7311631202030010536:Nat:=0
def PySem.W.Fast.tw4123674717878925783:Nat:=0
def PySem.W.Fast.tw4887659379940517123:Nat:=0
def PySem.W.Fast.tw17402245990319290995:Nat:=0
def PySem.W.Fast.tw16233037690766315803:Nat:=0
def PySem.W.Fast.tw17638224717707147293:Nat:=0
def PySem.W.Fast.tw4846480979710488931:Nat:=0
def PySem.W.Fast.tw832313527321602404:Nat:=0
def PySem.W.Fast.tw15604477793872129727:Nat:=0
def PySem.W.Fast.tw11750175323720626306:Nat:=0
def PySem.W.Fast.tw12576392608896556:Nat:=0
def PySem.W.Fast.tw363577151738699081:Nat:=0
def PySem.W.Fast.tw13694324970435748047:Nat:=0
def PySem.W.Fast.tw6284509064968768874:Nat:=0
def PySem.W.Fast.tw3642910234644339411:Nat:=0
def PySem.W.Fast.tw1174719658786661410:Nat:=0
def PySem.W.Fast.tw11290128032721442403:Nat:=0
def PySem.W.Fast.tw6754854399601434919:Nat:=0
def PySem.W.Fast.tw5026369553459814570:Nat:=0
def PySem.W.Fast.tw8223615174141334735:Nat:=0
def PySem.W.Fast.tw2634416226226269368:Nat:=0
def PySem.W.Fast.tw15262261934664683150:Nat:=0
def PySem.W.Fast.tw1620690107724465725:Nat:=0
def PySem.W.Fast.tw15286107665166209539:Nat:=0
def PySem.W.Fast.tw3793604786718811471:Nat:=0
def PySem.W.Fast.tw1163927519235219787:Nat:=0
def PySem.W.Fast.tw10189375742448844636:Nat:=0
def PySem.W.Fast.tw8641813842566991518:Nat:=0
def PySem.W.Fast.tw2570554310422565623:Nat:=0
def PySem.W.Fast.tw4693434226047756123:Nat:=0
def PySem.W.Fast.tw16797367435131334968:Nat:=0
def PySem.W.Fast.tw4829888436903239099:Nat:=0
def PySem.W.Fast.tw7022020529330334366:Nat:=0
def PySem.W.Fast.tw328512207725819182:Nat:=0
def PySem.W.Fast.tw5526148120929642977:Nat:=0
def PySem.W.Fast.tw7850284426866220389:Nat:=0
def PySem.W.Fast.tw16494344693128422998:Nat:=0
def PySem.W.Fast.tw17270995804313500007:Nat:=0
def PySem.W.Fast.tw9594937647575021708:Nat:=0
def PySem.W.Fast.tw10832888240319454421:Nat:=0
def PySem.W.Fast.tw1698031551110688484:Nat:=0
def PySem.W.Fast.tw12078884190035160550:Nat:=0
def PySem.W.Fast.tw7504625748425057090:Nat:=0
def PySem.W.Fast.tw16982735626286042461:Nat:=0
def PySem.W.Fast.tw13865723933547193978:Nat:=0
def PySem.W.Fast.tw6218568261704810610:Nat:=0
def PySem.W.Fast.tw11858216414923506261:Nat:=0
def PySem.W.Fast.tw16325130740559666787:Nat:=0
def PySem.W.Fast.tw16334916659656667920:Nat:=0
def PySem.W.Fast.tw16008210711949091407:Nat:=0
def PySem.W.Fast.tw7296093304709487374:Nat:=0
def PySem.W.Fast.tw16599309927203237094:Nat:=0
def PySem.W.Fast.tw13378597342577508774:Nat:=0
def PySem.W.Fast.tw3315399832158083754:Nat:=0
def PySem.W.Fast.tw6200254467459003485:Nat:=0
def PySem.W.Fast.tw3996655978151266655:Nat:=0
def PySem.W.Fast.tw4921562249362753825:Nat:=0
def PySem.W.Fast.tw9669427370766777046:Nat:=0
def PySem.W.Fast.tw3958865305392214056:Nat:=0
def PySem.W.Fast.tw16879324441183788345:Nat:=0
def PySem.W.Fast.tw6159541223705171866:Nat:=0
def PySem.W.Fast.tw2857801027276764737:Nat:=0
def PySem.W.Fast.tw4824530011829545152:Nat:=0
def PySem.W.Fast.tw15230070878504678852:Nat:=0
def PySem.W.Fast.tw6867782324886423270:Nat:=0
def PySem.W.Fast.tw15717271004669562749:Nat:=0
def PySem.W.Fast.tw5502931298574459836:Nat:=0
def PySem.W.Fast.tw10743017060814744182:Nat:=0
def PySem.W.Fast.tw15160794373872822095:Nat:=0
def PySem.W.Fast.tw13334042638951124164:Nat:=0
def PySem.W.Fast.tw13005735241669174996:Nat:=0
def PySem.W.Fast.tw3876907090888064387:Nat:=0
def PySem.W.Fast.tw9920630841875122899:Nat:=0
def PySem.W.Fast.tw16910049622040454188:Nat:=0
def PySem.W.Fast.tw9377853209263794049:Nat:=0
def PySem.W.Fast.tw8046476848924346694:Nat:=0
def PySem.W.Fast.tw5121686639121425657:Nat:=0
def PySem.W.Fast.tw6370551341599943015:Nat:=0
def PySem.W.Fast.tw14430211841532407266:Nat:=0
def PySem.W.Fast.tw3486181522908772715:Nat:=0
def PySem.W.Fast.tw15881220440333106938:Nat:=0
def PySem.W.Fast.tw1398827502053605530:Nat:=0
def PySem.W.Fast.tw14422123486719509386:Nat:=0
def PySem.W.Fast.tw99069074660218964:Nat:=0
def PySem.W.Fast.tw12644840781341566357:Nat:=0
def PySem.W.Fast.tw3788261524757770494:Nat:=0
def PySem.W.Fast.tw7300527934295484470:Nat:=0
def PySem.W.Fast.tw12214039732343319918:Nat:=0
def PySem.W.Fast.tw7420480330573708109:Nat:=0
def PySem.W.Fast.tw4214089187181504459:Nat:=0
def PySem.W.Fast.tw4718070990604633883:Nat:=0
def PySem.W.Fast.tw12271737912134784506:Nat:=0
def PySem.W.Fast.tw14612483574528162163:Nat:=0
def PySem.W.Fast.tw7689701891101658837:Nat:=0
def PySem.W.Fast.tw3186208203503344379:Nat:=0
def PySem.W.Fast.tw17186362530696216920:Nat:=0
def PySem.W.Fast.tw3264467940041101032:Nat:=0
def PySem.W.Fast.tw13228341415964513149:Nat:=0
def PySem.W.Fast.tw7471485390127715280:Nat:=0
def PySem.W.Fast.tw15926950989935163603:Nat:=0
def PySem.W.Fast.tw17694605119907098965:Nat:=0
def PySem.W.Fast.tw13735643205629316222:Nat:=0
def PySem.W.Fast.tw1419714005857405909:Nat:=0
def PySem.W.Fast.tw1364632399160068160:Nat:=0
def PySem.W.Fast.tw3295338974539616858:Nat:=0
def PySem.W.Fast.tw9434681348828387781:Nat:=0
def PySem.W.Fast.tw972058107347344445:Nat:=0
def PySem.W.Fast.tw35011542080666023:Nat:=0
def PySem.W.Fast.tw3147928736906780598:Nat:=0
def PySem.W.Fast.tw7059473694117551891:Nat:=0
def PySem.W.Fast.tw13716261629873406911:Nat:=0
def PySem.W.Fast.tw17192478036177020152:Nat:=0
def PySem.W.Fast.tw10640906166217514789:Nat:=0
def PySem.W.Fast.tw14797988005511801690:Nat:=0
def PySem.W.Fast.tw5476300061308913548:Nat:=0
def PySem.W.Fast.tw2113985572486885053:Nat:=0
def PySem.W.Fast.tw670449041971635510:Nat:=0
def PySem.W.Fast.tw205188397929790223:Nat:=0
def PySem.W.Fast.tw7440450039928289419:Nat:=0
def PySem.W.Fast.tw6001339315233964815:Nat:=0
def PySem.W.Fast.tw7115767532118117897:Nat:=0
def PySem.W.Fast.tw910931418294185930:Nat:=0
def PySem.W.Fast.tw14976608932798806690:Nat:=0
def PySem.W.Fast.tw13766742594847628579:Nat:=0
def PySem.W.Fast.tw10112162559261380522:Nat:=0
def PySem.W.Fast.tw9961008098159762612:Nat:=0
def PySem.W.Fast.tw5650428022788418592:Nat:=0
def PySem.W.Fast.tw1816773967658897744:Nat:=0
def PySem.W.Fast.tw18144950082461038748:Nat:=0
def PySem.W.Fast.tw16758037790696823489:Nat:=0
def PySem.W.Fast.tw2273470043097805744:Nat:=0
def PySem.W.Fast.tw4311630774525694217:Nat:=0
def PySem.W.Fast.tw756534592710519645:Nat:=0
def PySem.W.Fast.tw16092843882850365586:Nat:=0
def PySem.W.Fast.tw3009647186295663690:Nat:=0
def PySem.W.Fast.tw16844877225917687793:Nat:=0
def PySem.W.Fast.tw13232440442440595504:Nat:=0
def PySem.W.Fast.tw2956847462857389801:Nat:=0
def PySem.W.Fast.tw16534648295333803707:Nat:=0
def PySem.W.Fast.tw4693202096646539088:Nat:=0
def PySem.W.Fast.tw9593947532145075175:Nat:=0
def PySem.W.Fast.tw16317736324358929323:Nat:=0
def PySem.W.Fast.tw4327383763731802218:Nat:=0
def PySem.W.Fast.tw11980852339535323434:Nat:=0
def PySem.W.Fast.tw8513259328556991637:Nat:=0
def PySem.W.Fast.tw17791675253791296558:Nat:=0
def PySem.W.Fast.tw9027386718008316590:Nat:=0
def PySem.W.Fast.tw3348663544753132312:Nat:=0
def PySem.W.Fast.tw14773088433882897934:Nat:=0
def PySem.W.Fast.tw9203719811921556016:Nat:=0
def PySem.W.Fast.tw3687006886299869118:Nat:=0
def PySem.W.Fast.tw5328328187410975962:Nat:=0
def PySem.W.Fast.tw8508847986164657261:Nat:=0
def PySem.W.Fast.tw17474488422221950938:Nat:=0
def PySem.W.Fast.tw16086823783607162429:Nat:=0
def PySem.W.Fast.tw11557012027598649422:Nat:=0
def PySem.W.Fast.tw15319781450393254672:Nat:=0
def PySem.W.Fast.tw15465055632646566800:Nat:=0
def PySem.W.Fast.tw13390361261454751186:Nat:=0
def PySem.W.Fast.tw7521640545887224668:Nat:=0
def PySem.W.Fast.tw10841911999434096047:Nat:=0
def PySem.W.Fast.tw5602675715461926151:Nat:=0
def PySem.W.Fast.tw11226515489639727053:Nat:=0
def PySem.W.Fast.tw5595508461213464767:Nat:=0
def PySem.W.Fast.tw7548250697961351928:Nat:=0
def PySem.W.Fast.tw2921638720744709775:Nat:=0
def PySem.W.Fast.tw4403293727915925746:Nat:=0
def PySem.W.Fast.tw9830553765573714824:Nat:=0
def PySem.W.Fast.tw9271880793748500118:Nat:=0
def PySem.W.Fast.tw13915663302891335053:Nat:=0
def PySem.W.Fast.tw17483373199375522498:Nat:=0
def PySem.W.Fast.tw17661375658988139363:Nat:=0
def PySem.W.Fast.tw7453483625156009907:Nat:=0
def PySem.W.Fast.tw1535481932582877131:Nat:=0
def PySem.W.Fast.tw3877109666655901592:Nat:=0
def PySem.W.Fast.tw1820220922915758979:Nat:=0
def PySem.W.Fast.tw7307649184182725041:Nat:=0
def PySem.W.Fast.tw10287751939990169948:Nat:=0
def PySem.W.Fast.tw11439356543527675313:Nat:=0
def PySem.W.Fast.tw12693026633178772369:Nat:=0
def PySem.W.Fast.tw7644462591670635073:Nat:=0
def PySem.W.Fast.tw10134957592120870338:Nat:=0
def PySem.W.Fast.tw2676449750157221136:Nat:=0
def PySem.W.Fast.tw5558370763313621615:Nat:=0
def PySem.W.Fast.tw16053153395564006979:Nat:=0
def PySem.W.Fast.tw6797647079524528091:Nat:=0
def PySem.W.Fast.tw15977037378579633723:Nat:=0
def PySem.W.Fast.tw2381479344440344222:Nat:=0
def PySem.W.Fast.tw3220416199327598466:Nat:=0
def PySem.W.Fast.tw16463945753184390060:Nat:=0
def PySem.W.Fast.tw2718930071916545080:Nat:=0
def PySem.W.Fast.tw8787494816562963814:Nat:=0
def PySem.W.Fast.tw10312194039089520862:Nat:=0
def PySem.W.Fast.tw3719470162292403861:Nat:=0
def PySem.W.Fast.tw12776220804148216327:Nat:=0
def PySem.W.Fast.tw10614293897547345393:Nat:=0
def PySem.W.Fast.tw2855790519036467828:Nat:=0
def PySem.W.Fast.tw7532218112945195660:Nat:=0
def PySem.W.Fast.tw9477978555897384643:Nat:=0
def PySem.W.Fast.tw12027923927744880337:Nat:=0
def PySem.W.Fast.tw6531373294504978:Nat:=0
def PySem.W.Fast.tw13978382892316324731:Nat:=0
def PySem.W.Fast.tw11634718791572839587:Nat:=0
namespace My
open PySem L2 PyProof.Rows
seal PE PT PW PA PS PSs PG PGs PI aV2 PO OpR y4 bk3 IxR SlR MtR MtM bh8 bh3 PIp PC
def top (i:Nat):Stmt:=PySem.Challenge.pw_crossracks_k35_whole_joined_by_turning.main.body.getD i (.Pass ⟨0,0,0,0⟩)
structure Txt (K:PySem.W.Frag) (mg:Str → Option Value):Prop where
 m_len:mg "len" = none
 m_isinstance:mg "isinstance" = none
 m_int:mg "int" = none
 m_bool:mg "bool" = none
 m_tuple:mg "tuple" = none
 m_list:mg "list" = none
 m_set:mg "set" = none
 m_sorted:mg "sorted" = none
 m_divmod:mg "divmod" = none
 m_range:mg "range" = none
 m_abs:mg "abs" = none
 m_min:mg "min" = none
 m_max:mg "max" = none
 m_any:mg "any" = none
 m_all:mg "all" = none
 m_zip:mg "zip" = none
 m_dict:mg "dict" = none
def cell (ns:List Int) (k:Nat):Int:=ns.getD k 0
theorem a61 {ns:List Int} {k:Nat} (h:k < ns.length):atI (ns.map V.int) (k:Int) = some (.int (cell ns k)):=E7 (by
 rw [List.getElem?_map,List.getElem?_eq_getElem h]
 simp [cell,List.getD,h])
theorem d9 {H:Hp} {p:Addr} (h:H p = none) (o:HO):i4 H (upd H p o):=fun b u q=>by rw [n5 (q9 q h)]; exact q
theorem i4.put {H H':Hp} {l:Addr} {o:HO} (s:i4 H H') (hl:H l = none):i4 H (upd H' l o):=fun b u q=>by
 rw [n5 (q9 q hl)]
 exact s b u q
def aY2 (K:PySem.W.Frag):Sp:=fun vs H Q _=>∃ (a:Addr) (ns:List Int) (k:Nat),vs = [.ref a,.int k] ∧ SqL K H a (ns.map V.int) ∧ Q (.int (cell ns k)) H
def aP7 (K:PySem.W.Frag):Sp:=fun vs H Q _=>∃ (a:Addr) (ns:List Int),vs = [.ref a] ∧ SqL K H a (ns.map V.int) ∧ ns.length ≤ 63 ∧ ∀ H',Q (.bl true) H'
structure Hall where
 i:Int
 c:Int
 m:Int
 o:Int
 e:Int
def Hall.row (h:Hall):List Int:=[h.i,h.c,h.m,h.o,h.e]
structure Hall.Ok (h:Hall):Prop where
 i:1 ≤ h.i ∧ h.i ≤ 12
 c:1 ≤ h.c ∧ h.c ≤ 12
 m:1 ≤ h.m ∧ h.m ≤ 24
 o:1 ≤ h.o ∧ h.o ≤ 12
 e:1 ≤ h.e ∧ h.e ≤ 12
theorem a73 {a b:Int} (ha:1 ≤ a ∧ a ≤ 12) (hb:1 ≤ b ∧ b ≤ 12):1 ≤ a * b ∧ a * b ≤ 144:=by
 have h1:1 * 1 ≤ a * b:=Int.mul_le_mul ha.1 hb.1 (by decide) (by lia)
 have h2:a * b ≤ 12 * 12:=Int.mul_le_mul ha.2 hb.2 (by lia) (by decide)
 lia
theorem Hall.Ok.ic {h:Hall} (k:h.Ok):1 ≤ h.i * h.c ∧ h.i * h.c ≤ 144:=a73 k.i k.c
theorem Hall.Ok.oe {h:Hall} (k:h.Ok):1 ≤ h.o * h.e ∧ h.o * h.e ≤ 144:=a73 k.o k.e
section
variable {P:Program} {w:World} {K:PySem.W.Frag} {mg:Str → Option Value} {base:Heap}
theorem i4.seqT {H H':Hp} {a:Addr} {xs:List V} (e:i4 H H') (h:SqT K H a xs):SqT K H' a xs:=by
 rcases h with (h | ⟨o,h⟩) | h
 ·exact .inl (.inl (e _ _ h))
 ·exact .inl (.inr ⟨o,e _ _ h⟩)
 ·exact .inr h
theorem ad7:FnScope ["_law_script","_law_k"] ["_law_script","_law_k"] (d5 (top 52)):=⟨rfl,rfl,rfl,by decide +kernel,rfl,by decide +kernel,by decide +kernel⟩
theorem ba7 (T:Txt K mg) (D:Def K mg "_law_cell_at" (top 52) ["_law_script","_law_k"]):Callee P w K mg base 1 "_law_cell_at" ["_law_script","_law_k"] (aY2 K):=by
 refine D.ok ad7 (fun vs H Q E h=>?_) (fun f cdv A outer s H vs Q E hr h=>?_)
 ·obtain ⟨a,ns,k,rfl,_⟩:=h
  rfl
 obtain ⟨a,ns,k,rfl,hS,q⟩:=h
 refine ⟨_,(d8 (u3 (m5 aO8 (pv 1) (i7 (u0 K) rfl T.m_len boot_len (b4 (pv 0) d4 b5)) (n9 _)) (e7 (i8 (i6 (C4 K) (pv 0) (pv 1) (fun _ _=>rfl)))) m8)
  (e7 (i8 d7))),?_⟩
 refine ⟨_,rfl,_,rfl,a,_,rfl,.inl hS,_,_,rfl,rfl,_,rfl,?_⟩
 refine C3 (fun c=>?_) (fun c=>?_)
 ·have c':(k:Int) < (((ns.map V.int).length:Nat):Int):=of_decide_eq_true c
  rw [List.length_map] at c'
  exact ⟨_,rfl,_,rfl,a,_,_,_,rfl,rfl,hS,a61 (by lia),q⟩
 ·have c':¬ (k:Int) < (((ns.map V.int).length:Nat):Int):=of_decide_eq_false (Bool.eq_false_iff.mpr c)
  rw [List.length_map] at c'
  have e:cell ns k = 0:=by simp [cell,List.getD,List.getElem?_eq_none (show ns.length ≤ k by lia)]
  rw [e] at q
  exact q
end
theorem Q8 (es:List Int):(es.map V.int).all Y7 = true:=by
 rw [List.all_eq_true]
 intro x hx
 obtain ⟨p,_,rfl⟩:=List.mem_map.mp hx
 rfl
theorem ak4 (e:Int) (es:List Int):inV (.int e) (es.map V.int) = decide (e ∈ es):=by
 unfold inV
 rw [List.any_map]
 rw [Bool.eq_iff_iff,List.any_eq_true,decide_eq_true_iff]
 constructor
 ·rintro ⟨q,hq,e'⟩
  have e':(q == e) = true:=e'
  exact eq_of_beq e' ▸ hq
 ·intro h
  exact ⟨e,h,beq_self_eq_true e⟩
structure EndsOk (h:Hall) (xs:List Int):Prop where
 nd:xs.Nodup
 es:∀ e ∈ xs,0 ≤ e ∧ e < h.o * h.e
 some:xs ≠ []
 few:xs.length ≤ 12
theorem as6 {x d:Int} (h:0 < d):0 ≤ x % d ∧ x % d < d:=⟨Int.emod_nonneg _ (by lia),Int.emod_lt_of_pos _ h⟩
def nIn (r k:Int):List Key:=[.inr "in",.inl r,.inl k]
def I9 (r k:Int):List Key:=[.inr "out",.inl r,.inl k]
def t4 (h:Hall) (k:Int) (acc:List (List Key)) (e:Int):List (List Key):=if inD acc (I9 (e / h.e) k) then acc else acc ++ [I9 (e / h.e) k]
def C7 (h:Hall) (c:Int) (es:List Int) (k:Int):List (List Key):=es.foldl (t4 h k) [nIn (c / h.c) k]
theorem R3 (h:Hall) (k:Int) (d:List Key):∀ (es:List Int) (acc:List (List Key)),d ∈ es.foldl (t4 h k) acc ↔ d ∈ acc ∨ ∃ e ∈ es,d = I9 (e / h.e) k
 | [],acc=>by simp
 | e :: t,acc=>by
  rw [List.foldl_cons,R3 h k d t]
  have st:d ∈ t4 h k acc e ↔ d ∈ acc ∨ d = I9 (e / h.e) k:=by
   unfold t4
   by_cases c:inD acc (I9 (e / h.e) k) = true
   ·rw [if_pos c]
    have c':=ae6.mp c
    constructor
    ·exact .inl
    ·rintro (g | g)
     ·exact g
     ·rw [g]; exact c'
   ·rw [if_neg c,List.mem_append,List.mem_singleton]
  rw [st]
  constructor
  ·rintro ((g | g) | ⟨x,hx,g⟩)
   ·exact .inl g
   ·exact .inr ⟨e,List.mem_cons_self ..,g⟩
   ·exact .inr ⟨x,List.mem_cons_of_mem _ hx,g⟩
  ·rintro (g | ⟨x,hx,g⟩)
   ·exact .inl (.inl g)
   ·rcases List.mem_cons.mp hx with rfl | hx
    ·exact .inl (.inr g)
    ·exact .inr ⟨x,hx,g⟩
theorem C5 {h:Hall} {c:Int} {es:List Int} {k:Int} {d:List Key}:d ∈ C7 h c es k ↔ d = nIn (c / h.c) k ∨ ∃ e ∈ es,d = I9 (e / h.e) k:=by
 unfold C7
 rw [R3,List.mem_singleton]
theorem H9 (h:Hall) (k:Int):∀ (es:List Int) (acc:List (List Key)),(es.foldl (t4 h k) acc).length ≤ acc.length + es.length
 | [],acc=>by simp
 | e :: t,acc=>by
  have ih:=H9 h k t (t4 h k acc e)
  have:(t4 h k acc e).length ≤ acc.length + 1:=by
   unfold t4
   split <;> simp
  rw [List.foldl_cons,List.length_cons]
  lia
theorem aU4 (h:Hall) (c:Int) (es:List Int) (k:Int):(C7 h c es k).length ≤ 1 + es.length:=H9 h k es _
def V0 (H:Hp) (as:List Addr) (ds:List (List Key)):Prop:=Paired (fun a d=>H a = some (.tup (d.map kV))) as ds
def aG1 (H:Hp) (l:Addr) (ds:List (List Key)):Prop:=∃ as:List Addr,H l = some (.lst (as.map V.ref)) ∧ V0 H as ds
theorem V0.same {H H':Hp} {as:List Addr} {ds:List (List Key)} (s:∀ b xs,H b = some (.tup xs) → H' b = some (.tup xs)) (h:V0 H as ds):V0 H' as ds:=by
 unfold V0 at h ⊢
 exact w5 h fun a d _ e=>s _ _ e
theorem aG1.push {H:Hp} {l p:Addr} {as:List Addr} {ds:List (List Key)} {d:List Key} (e:H l = some (.lst (as.map V.ref))) (h:V0 H as ds) (hp:H p = some (.tup (d.map kV))) :
  aG1 (upd H l (.lst (as.map V.ref ++ [.ref p]))) l (ds ++ [d]):=by
 have hpl:p ≠ l:=fun z=>by rw [z,e] at hp; cases hp
 refine ⟨as ++ [p],by rw [d6,List.map_append]; rfl,Paired.snoc (V0.same (fun b xs hb=>?_) h) ?_⟩
 ·have hbl:b ≠ l:=fun z=>by rw [z,e] at hb; cases hb
  rw [n5 hbl]
  exact hb
 ·show upd _ l _ p = _
  rw [n5 hpl]
  exact hp
def aN6 (K:PySem.W.Frag):Sp:=fun vs H Q _=>∃ (a e:Addr) (h:Hall) (c k:Int) (es:List Int),vs = [.ref a,.int c,.ref e,.int k] ∧ SqT K H a (h.row.map V.int) ∧ h.Ok ∧ (SqT K H e (es.map V.int) ∨ SqL K H e (es.map V.int)) ∧ es.length ≤ 12 ∧
 ∀ (l:Addr) (as:List Addr) (H':Hp),i4 H H' → H l = none → H' l = some (.lst (as.map V.ref)) → V0 H' as (C7 h c es k) → Q (.ref l) H'
section
variable {P:Program} {w:World} {K:PySem.W.Frag} {mg:Str → Option Value} {base:Heap}
theorem B5:FnScope ["_law_hall","_law_caller","_law_ends","_law_k","_law_lines_here","_law_end","_law_line"] ["_law_hall","_law_caller","_law_ends","_law_k"] (d5 (top 54)):=⟨rfl,rfl,rfl,by decide +kernel,rfl,by decide +kernel,by decide +kernel⟩
theorem aY6 (T:Txt K mg) (D:Def K mg "_law_lines" (top 54) ["_law_hall","_law_caller","_law_ends","_law_k"]):Callee P w K mg base 1 "_law_lines" ["_law_hall","_law_caller","_law_ends","_law_k"] (aN6 K):=by
 refine D.ok B5 (fun vs H Q E h=>?_) (fun f cdv A outer s H vs Q E hr h=>?_)
 ·obtain ⟨a,e,h,c,k,es,rfl,_⟩:=h
  rfl
 obtain ⟨a,e,h,c,k,es,rfl,hH,ok,hE,few,q⟩:=h
 have o2:=ok.c
 have o3:=ok.e
 rcases hE with hE | hE
 ·refine ⟨_,(d8 (j8 (i:=4) B5.nd rfl (Or.inl rfl) (B0 (b4 (A9 (b4 au6 (b4 (m6 T6 (pv 1) (i6 (e8 K) (pv 0) d7 (fun _ _=>rfl))) (b4 (pv 3) d4 b5) L5) q0)) d4 S2)))
  (d8 (y8 PassesOwn.never rfl (ae3 K (pv 2)) (m9 (i:=5) B5.nd rfl (Or.inl rfl))
  (d8 (j8 (i:=6) B5.nd rfl (Or.inl rfl) (A9 (b4 au6 (b4 (m6 T6 (pv 5) (i6 (e8 K) (pv 0) d7 (fun _ _=>rfl))) (b4 (pv 3) d4 b5) L5) q0)))
  (e7 (u3 (m5 (W9 K (Room.unitsT hr)) (pv 6) (pv 4) (by with_unfolding_all rfl)) (e7 (D6 (Q1 K PySem.F.plainAttrs_list PySem.F.slot_list_append PySem.F.type_list_append J6 (pv 4) (b4 (pv 6) d4 b5)))) m8))))
  (e7 (i8 (pv 4))))),?_⟩
  refine ⟨_,rfl,_,rfl,a,_,_,_,rfl,rfl,hH,rfl,_,_,rfl,rfl,⟨by lia,by lia⟩,_,rfl,(by show 3 ≤ sizeLine; decide),fun t1 ht1=>?_⟩
  have e1:=d6 (H:=H) (a:=t1) (o:=.tup [.str "in",.int (c / h.c),.int k])
  have s1:=d9 ht1 (.tup [.str "in",.int (c / h.c),.int k])
  generalize upd H t1 (.tup [.str "in",.int (c / h.c),.int k]) = H1 at e1 s1 ⊢
  refine ⟨(by show 1 ≤ sizeLine; decide),fun l hl=>?_⟩
  have bag0:aG1 (upd H1 l (.lst [.ref t1])) l [nIn (c / h.c) k]:=⟨[t1],d6,.cons (d9 hl _ _ _ e1) .nil⟩
  have sl:=d9 hl (.lst [.ref t1])
  generalize upd H1 l (.lst [.ref t1]) = H3 at bag0 sl ⊢
  have s3:=s1.trans sl
  refine ⟨_,rfl,e,rfl,⟨_,i4.seqT s3 hE⟩,?_⟩
  refine aM7 (xs:=es.map V.int) (fun i σ H'=>i4 H1 H' ∧ aG1 H' l ((es.take i).foldl (t4 h k) [nIn (c / h.c) k]) ∧ ∃ v5 v6,σ = [some (.ref a),some (.int c),some (.ref e),some (.int k),some (.ref l),v5,v6])
   ⟨sl,bag0,none,none,rfl⟩ (fun i σ H' _ g=>i4.seqT (s1.trans g.1) hE) ?_ ?_
  ·rintro i x σ H' hx ⟨s5,⟨as,b1,b2⟩,v5,v6,rfl⟩
   rw [List.getElem?_map] at hx
   obtain ⟨y,hy,rfl⟩:=Option.map_eq_some_iff.mp hx
   have hlen:=H9 h k (es.take i) [nIn (c / h.c) k]
   have hlt:(es.take i).length ≤ 12:=by rw [List.length_take]; lia
   rw [List.length_singleton] at hlen
   have step:(es.take (i + 1)).foldl (t4 h k) [nIn (c / h.c) k] = t4 h k ((es.take i).foldl (t4 h k) [nIn (c / h.c) k]) y:=by
    rw [List.take_succ,hy,List.foldl_append]
    rfl
   rw [step]
   generalize (es.take i).foldl (t4 h k) [nIn (c / h.c) k] = ds at b2 hlen
   have hn:=Paired.length b2
   have hH5:=i4.seqT (s1.trans s5) hH
   refine ⟨_,rfl,_,rfl,a,_,_,_,rfl,rfl,hH5,rfl,_,_,rfl,rfl,⟨by lia,by lia⟩,_,rfl,(by show 3 ≤ sizeLine; decide),fun u hu=>?_⟩
   have eu:=d6 (H:=H') (a:=u) (o:=.tup [.str "out",.int (y / h.e),.int k])
   have s6:=d9 hu (.tup [.str "out",.int (y / h.e),.int k])
   generalize upd H' u (.tup [.str "out",.int (y / h.e),.int k]) = H6 at eu s6 ⊢
   have c1:=s6 _ _ b1
   have c2:=V0.same (fun b xs hb=>s6 _ _ hb) b2
   refine ⟨_,rfl,_,rfl,l,u,as,I9 (y / h.e) k,ds,rfl,rfl,SqL.of c1,SqT.of eu,w5 c2 (fun _ _ _ z=>SqT.of z),_,rfl,?_⟩
   refine C3 (fun cc=>?_) (fun cc=>?_)
   ·have cc':inD ds (I9 (y / h.e) k) = false:=by simpa using cc
    refine ⟨_,rfl,.inl ⟨rfl,_,SqL.of c1⟩,_,rfl,l,as.map V.ref,.ref u,rfl,rfl,c1,j9 (by rw [List.length_map,hn]; lia),?_⟩
    refine ⟨i4.put (s5.trans s6) hl,?_,_,_,rfl⟩
    unfold t4
    rw [if_neg (by rw [cc']; exact Bool.false_ne_true)]
    exact aG1.push (d:=I9 (y / h.e) k) c1 c2 eu
   ·have cc':inD ds (I9 (y / h.e) k) = true:=by simpa using cc
    refine ⟨s5.trans s6,?_,_,_,rfl⟩
    unfold t4
    rw [if_pos cc']
    exact ⟨as,c1,c2⟩
  ·rintro σ H' ⟨s5,⟨as,b1,b2⟩,v5,v6,rfl⟩
   rw [List.length_map,List.take_length] at b2
   exact ⟨_,rfl,q l as H' (s1.trans s5) (s1.free hl) b1 b2⟩
 ·refine ⟨_,(d8 (j8 (i:=4) B5.nd rfl (Or.inl rfl) (B0 (b4 (A9 (b4 au6 (b4 (m6 T6 (pv 1) (i6 (e8 K) (pv 0) d7 (fun _ _=>rfl))) (b4 (pv 3) d4 b5) L5) q0)) d4 S2)))
  (d8 (y8 PassesOwn.never rfl (o6 K (pv 2)) (m9 (i:=5) B5.nd rfl (Or.inl rfl))
  (d8 (j8 (i:=6) B5.nd rfl (Or.inl rfl) (A9 (b4 au6 (b4 (m6 T6 (pv 5) (i6 (e8 K) (pv 0) d7 (fun _ _=>rfl))) (b4 (pv 3) d4 b5) L5) q0)))
  (e7 (u3 (m5 (W9 K (Room.unitsT hr)) (pv 6) (pv 4) (by with_unfolding_all rfl)) (e7 (D6 (Q1 K PySem.F.plainAttrs_list PySem.F.slot_list_append PySem.F.type_list_append J6 (pv 4) (b4 (pv 6) d4 b5)))) m8))))
  (e7 (i8 (pv 4))))),?_⟩
  refine ⟨_,rfl,_,rfl,a,_,_,_,rfl,rfl,hH,rfl,_,_,rfl,rfl,⟨by lia,by lia⟩,_,rfl,(by show 3 ≤ sizeLine; decide),fun t1 ht1=>?_⟩
  have e1:=d6 (H:=H) (a:=t1) (o:=.tup [.str "in",.int (c / h.c),.int k])
  have s1:=d9 ht1 (.tup [.str "in",.int (c / h.c),.int k])
  generalize upd H t1 (.tup [.str "in",.int (c / h.c),.int k]) = H1 at e1 s1 ⊢
  refine ⟨(by show 1 ≤ sizeLine; decide),fun l hl=>?_⟩
  have bag0:aG1 (upd H1 l (.lst [.ref t1])) l [nIn (c / h.c) k]:=⟨[t1],d6,.cons (d9 hl _ _ _ e1) .nil⟩
  have sl:=d9 hl (.lst [.ref t1])
  generalize upd H1 l (.lst [.ref t1]) = H3 at bag0 sl ⊢
  have s3:=s1.trans sl
  refine ⟨_,rfl,e,rfl,⟨_,i4.seq s3 hE⟩,?_⟩
  refine w6 (xs:=es.map V.int) (fun i σ H'=>i4 H1 H' ∧ aG1 H' l ((es.take i).foldl (t4 h k) [nIn (c / h.c) k]) ∧ ∃ v5 v6,σ = [some (.ref a),some (.int c),some (.ref e),some (.int k),some (.ref l),v5,v6])
   ⟨sl,bag0,none,none,rfl⟩ (fun i σ H' _ g=>i4.seq (s1.trans g.1) hE) ?_ ?_
  ·rintro i x σ H' hx ⟨s5,⟨as,b1,b2⟩,v5,v6,rfl⟩
   rw [List.getElem?_map] at hx
   obtain ⟨y,hy,rfl⟩:=Option.map_eq_some_iff.mp hx
   have hlen:=H9 h k (es.take i) [nIn (c / h.c) k]
   have hlt:(es.take i).length ≤ 12:=by rw [List.length_take]; lia
   rw [List.length_singleton] at hlen
   have step:(es.take (i + 1)).foldl (t4 h k) [nIn (c / h.c) k] = t4 h k ((es.take i).foldl (t4 h k) [nIn (c / h.c) k]) y:=by
    rw [List.take_succ,hy,List.foldl_append]
    rfl
   rw [step]
   generalize (es.take i).foldl (t4 h k) [nIn (c / h.c) k] = ds at b2 hlen
   have hn:=Paired.length b2
   have hH5:=i4.seqT (s1.trans s5) hH
   refine ⟨_,rfl,_,rfl,a,_,_,_,rfl,rfl,hH5,rfl,_,_,rfl,rfl,⟨by lia,by lia⟩,_,rfl,(by show 3 ≤ sizeLine; decide),fun u hu=>?_⟩
   have eu:=d6 (H:=H') (a:=u) (o:=.tup [.str "out",.int (y / h.e),.int k])
   have s6:=d9 hu (.tup [.str "out",.int (y / h.e),.int k])
   generalize upd H' u (.tup [.str "out",.int (y / h.e),.int k]) = H6 at eu s6 ⊢
   have c1:=s6 _ _ b1
   have c2:=V0.same (fun b xs hb=>s6 _ _ hb) b2
   refine ⟨_,rfl,_,rfl,l,u,as,I9 (y / h.e) k,ds,rfl,rfl,SqL.of c1,SqT.of eu,w5 c2 (fun _ _ _ z=>SqT.of z),_,rfl,?_⟩
   refine C3 (fun cc=>?_) (fun cc=>?_)
   ·have cc':inD ds (I9 (y / h.e) k) = false:=by simpa using cc
    refine ⟨_,rfl,.inl ⟨rfl,_,SqL.of c1⟩,_,rfl,l,as.map V.ref,.ref u,rfl,rfl,c1,j9 (by rw [List.length_map,hn]; lia),?_⟩
    refine ⟨i4.put (s5.trans s6) hl,?_,_,_,rfl⟩
    unfold t4
    rw [if_neg (by rw [cc']; exact Bool.false_ne_true)]
    exact aG1.push (d:=I9 (y / h.e) k) c1 c2 eu
   ·have cc':inD ds (I9 (y / h.e) k) = true:=by simpa using cc
    refine ⟨s5.trans s6,?_,_,_,rfl⟩
    unfold t4
    rw [if_pos cc']
    exact ⟨as,c1,c2⟩
  ·rintro σ H' ⟨s5,⟨as,b1,b2⟩,v5,v6,rfl⟩
   rw [List.length_map,List.take_length] at b2
   exact ⟨_,rfl,q l as H' (s1.trans s5) (s1.free hl) b1 b2⟩
end
structure Call where
 c:Int
 es:List Int
 k:Int
structure Call.In (k:Call) (h:Hall):Prop where
 c:0 ≤ k.c ∧ k.c < h.i * h.c
 rise:k.es.Pairwise (· < ·)
 es:∀ e ∈ k.es,0 ≤ e ∧ e < h.o * h.e
 some:k.es ≠ []
 few:k.es.length ≤ 12
 k:0 ≤ k.k ∧ k.k < h.m
def Z2 (c:Int):List Key:=[.inr "caller",.inl c]
def af2 (e:Int):List Key:=[.inr "end",.inl e]
def ai8 (h:Hall) (k:Call):List (List Key):=C7 h k.c k.es k.k ++ [Z2 k.c] ++ k.es.map af2
theorem o9 {h:Hall} {k:Call} {d:List Key}:d ∈ ai8 h k ↔ d = nIn (k.c / h.c) k.k ∨ (∃ e ∈ k.es,d = I9 (e / h.e) k.k) ∨ d = Z2 k.c ∨ ∃ e ∈ k.es,d = af2 e:=by
 unfold ai8
 rw [List.mem_append,List.mem_append,C5,List.mem_singleton,List.mem_map,or_assoc,or_assoc]
 have:(∃ a,a ∈ k.es ∧ af2 a = d) ↔ ∃ e ∈ k.es,d = af2 e:=⟨fun ⟨a,h1,h2⟩=>⟨a,h1,h2.symm⟩,fun ⟨a,h1,h2⟩=>⟨a,h1,h2.symm⟩⟩
 rw [this]
def y9 (H:Hp) (p:Addr) (k:Call):Prop:=∃ e:Addr,H e = some (.tup (k.es.map V.int)) ∧ H p = some (.tup [.int k.c,.ref e,.int k.k])
theorem y9.same {H H':Hp} {p:Addr} {k:Call} (s:∀ b xs,H b = some (.tup xs) → H' b = some (.tup xs)) (h:y9 H p k):y9 H' p k:=by
 obtain ⟨e,h1,h2⟩:=h
 exact ⟨e,s _ _ h1,s _ _ h2⟩
def bd5 (t:Addr) (H H':Hp):Prop:=∀ b u,b ≠ t → H b = some u → H' b = some u
theorem V2 {α β:Type} {R:α → β → Prop} {as':List α} {ds':List β} (h':Paired R as' ds'):∀ {as:List α} {ds:List β},Paired R as ds → Paired R (as ++ as') (ds ++ ds')
 | _,_,.nil=>h'
 | _,_,.cons h t=>.cons h (V2 h' t)
theorem a_5 {es es':List Int} (p:es'.Perm es) (s:es'.Pairwise (· ≤ ·)) (nd:es.Nodup):es'.Pairwise (· < ·):=by
 have nd':es'.Nodup:=p.nodup_iff.mpr nd
 exact (s.and nd').imp fun {a b} ⟨h1,h2⟩=>by lia
def C8 (h:Hall) (k k':Call):Prop:=∀ d ∈ ai8 h k,¬ d ∈ ai8 h k'
theorem C8.caller {h:Hall} {k k':Call} (f:C8 h k k'):k.c ≠ k'.c:=fun z=>f (Z2 k.c) (o9.mpr (.inr (.inr (.inl rfl)))) (o9.mpr (.inr (.inr (.inl (by rw [z])))))
def h9 (H:Hp) (as:List Addr) (ks:List Call):Prop:=Paired (y9 H) as ks
theorem h9.same {H H':Hp} {as:List Addr} {ks:List Call} (s:∀ b xs,H b = some (.tup xs) → H' b = some (.tup xs)) (h:h9 H as ks):h9 H' as ks:=by
 unfold h9 at h ⊢
 exact w5 h fun a d _ e=>y9.same s e
theorem ab8 {α β:Type} {R:α → β → Prop} {as:List α} {ds:List β} (a0:α) (d0:β) (h:Paired R as ds):∀ (is:List Nat),(∀ i ∈ is,i < ds.length) → Paired R (is.map fun i=>as.getD i a0) (is.map fun i=>ds.getD i d0)
 | [],_=>.nil
 | i :: t,hin=>by
  refine .cons ?_ (ab8 a0 d0 h t fun j hj=>hin j (List.mem_cons_of_mem _ hj))
  have hi:=hin i (List.mem_cons_self ..)
  have hl:as.length = ds.length:=Paired.length h
  have ea:as[i]? = some (as[i]'(by lia)):=List.getElem?_eq_getElem (by lia)
  obtain ⟨d,e2,hs⟩:=j7 h i _ ea
  show R (as.getD i a0) (ds.getD i d0)
  rw [show as.getD i a0 = as[i]'(by lia) by rw [List.getD,ea]; rfl,show ds.getD i d0 = d by rw [List.getD,e2]; rfl]
  exact hs
theorem ab5 {K:PySem.W.Frag} {H:Hp}:∀ {as:List Addr} {ks:List Call},h9 H as ks → ∃ its:List (List V),Z5 K H as its ∧ Paired (fun k xs=>∃ e,xs = [V.int k.c,V.ref e,V.int k.k]) ks its
 | _,_,.nil=>⟨[],.nil,.nil⟩
 | _,_,.cons (b:=k) ⟨e,h1,h2⟩ t=>by
  obtain ⟨its,q1,q2⟩:=ab5 t
  exact ⟨[V.int k.c,V.ref e,V.int k.k] :: its,.cons ⟨SqT.of h2,_,_,rfl⟩ q1,.cons ⟨e,rfl⟩ q2⟩
def g9 (h:Hall) (es:List Int):List Int:=w4 (es.map fun e=>e / h.e)
def L4 (K:PySem.W.Frag) (d:Hall → Int):Sp:=fun vs H Q _=>∃ (a:Addr) (h:Hall) (x:Int),vs = [.ref a,.int x] ∧ SqT K H a (h.row.map V.int) ∧ h.Ok ∧ ∀ p,H p = none → Q (.ref p) (upd H p (.tup [.int (x / d h),.int (x % d h)]))
def M9 (K:PySem.W.Frag):Sp:=fun vs H Q _=>∃ (a p:Addr) (h:Hall) (es:List Int),vs = [.ref a,.ref p] ∧ SqT K H a (h.row.map V.int) ∧ h.Ok ∧ (SqT K H p (es.map V.int) ∨ SqL K H p (es.map V.int)) ∧ es.length < 64 ∧ ∀ (l:Addr) (H':Hp),i4 H H' → H l = none → H' l = some (.lst ((g9 h es).map V.int)) → Q (.ref l) H'
section
variable {P:Program} {w:World} {K:PySem.W.Frag} {mg:Str → Option Value} {base:Heap}
theorem aD9:FnScope ["hall","caller"] ["hall","caller"] (d5 (top 10)):=⟨rfl,rfl,rfl,by decide +kernel,rfl,by decide +kernel,by decide +kernel⟩
theorem ax3 (T:Txt K mg) (D:Def K mg "place_in" (top 10) ["hall","caller"]):Callee P w K mg base 1 "place_in" ["hall","caller"] (L4 K Hall.c):=by
 refine D.ok aD9 (fun vs H Q E h=>?_) (fun f cdv A outer s H vs Q E hr h=>?_)
 ·obtain ⟨a,h,x,rfl,_⟩:=h
  rfl
 obtain ⟨a,h,x,rfl,hS,ok,q⟩:=h
 have b:=ok.c
 refine ⟨_,(e7 (i8 (i7 ac2 rfl T.m_divmod boot_divmod (b4 (pv 1) (b4 (i6 (e8 K) (pv 0) d7 (fun _ _=>rfl)) d4 n6) b5)))),?_⟩
 exact ⟨_,rfl,_,rfl,a,_,_,_,rfl,rfl,hS,rfl,_,_,rfl,⟨by lia,by lia⟩,q⟩
theorem as4:FnScope ["hall","end"] ["hall","end"] (d5 (top 11)):=⟨rfl,rfl,rfl,by decide +kernel,rfl,by decide +kernel,by decide +kernel⟩
theorem at7 (T:Txt K mg) (D:Def K mg "place_out" (top 11) ["hall","end"]):Callee P w K mg base 1 "place_out" ["hall","end"] (L4 K Hall.e):=by
 refine D.ok as4 (fun vs H Q E h=>?_) (fun f cdv A outer s H vs Q E hr h=>?_)
 ·obtain ⟨a,h,x,rfl,_⟩:=h
  rfl
 obtain ⟨a,h,x,rfl,hS,ok,q⟩:=h
 have b:=ok.e
 refine ⟨_,(e7 (i8 (i7 ac2 rfl T.m_divmod boot_divmod (b4 (pv 1) (b4 (i6 (e8 K) (pv 0) d7 (fun _ _=>rfl)) d4 n6) b5)))),?_⟩
 exact ⟨_,rfl,_,rfl,a,_,_,_,rfl,rfl,hS,rfl,_,_,rfl,⟨by lia,by lia⟩,q⟩
theorem aB2:FnScope ["hall","ends"] ["hall","ends"] (d5 (top 13)):=⟨rfl,rfl,rfl,by decide +kernel,rfl,by decide +kernel,by decide +kernel⟩
theorem a01 (T:Txt K mg) (C_place_out:Callee P w K mg base 1 "place_out" ["hall","end"] (L4 K Hall.e)) (D:Def K mg "racks_of" (top 13) ["hall","ends"]):Callee P w K mg base 2 "racks_of" ["hall","ends"] (M9 K):=by
 refine D.ok aB2 (fun vs H Q E h=>?_) (fun f cdv A outer s H vs Q E hr h=>?_)
 ·obtain ⟨a,p,h,es,rfl,_⟩:=h
  rfl
 obtain ⟨a,p,h,es,rfl,hH,ok,hS,h64,q⟩:=h
 have hl:(es.map V.int).length = es.length:=List.length_map _
 have sz:(es.map V.int).length ≤ sizeLine:=by rw [hl]; exact Nat.le_of_lt (j9 (by lia))
 have fin:∀ (H':Hp),i4 H H' → ∀ l,H' l = none → bd6 K P w [.ref l] (upd H' l (.lst ((es.take (es.map V.int).length).map fun e=>V.int (e / h.e)))) fun x H1=>aB4 P w [x] H1 Q:=fun H' s1 l hl'=>by
  rw [hl,List.take_length]
  have e1:upd H' l (.lst (es.map fun e=>V.int (e / h.e))) l = some (.lst ((es.map fun e=>e / h.e).map V.int)):=by rw [d6,List.map_map]; rfl
  have s2:=s1.trans (d9 hl' (.lst (es.map fun e=>V.int (e / h.e))))
  generalize upd H' l (.lst (es.map fun e=>V.int (e / h.e))) = H2 at e1 s2 ⊢
  refine ⟨l,_,rfl,SqL.of e1,by rw [List.length_map]; lia,fun l2 hl2=>?_⟩
  refine ⟨l2,_,rfl,d6,by rw [List.length_map]; lia,fun l3 hl3=>?_⟩
  exact q l3 _ ((s2.trans (d9 hl2 _)).trans (d9 hl3 _)) ((s2.trans (d9 hl2 _)).free hl3) d6
 rcases hS with hS | hS
 ·refine ⟨_,(e7 (i8 (i7 (V9 P w rfl) rfl T.m_sorted boot_sorted (b4 (z9 (U6 K P w rfl) rfl T.m_set boot_set (b4 (D0 (own:=["end"]) (fr:=[(0,"hall")]) rfl (show CompScope ["hall","ends"] (d5 (top 13)) _ _ _ from ⟨rfl,by decide +kernel,by decide +kernel,by decide +kernel,by decide +kernel⟩) (ae3 K (pv 1)) (fun cl C s H ex=>⟨(m9 (i:=0) (show (["end","hall"]:List Str).Nodup from by decide +kernel) rfl (Or.inl rfl) (Or.inr rfl)),E6,(i6 (e8 K) (m7 C_place_out hr rfl (b4 (pv 1) (b4 (pv 0) d4 b5) b5)) d7 (fun _ _=>rfl))⟩)) d4 M3)) d4 x0)))),?_⟩
  refine ⟨_,rfl,p,rfl,⟨_,hS⟩,?_⟩
  refine aB0 (xs:=es.map V.int) (fun i acc σ H'=>i4 H H' ∧ acc = (es.take i).map (fun e=>V.int (e / h.e)) ∧ ∃ v,σ = [v,some (.ref a)])
   ⟨i4.refl H,rfl,none,rfl⟩ sz (fun i acc σ H' g=>?_) (fun i acc σ H' _ g=>i4.seqT g.1 hS) ?_ ?_
  ·obtain ⟨_,rfl,_⟩:=g
   rw [List.length_map,List.length_take]
   lia
  ·rintro i y acc σ H' hy ⟨s1,rfl,v,rfl⟩
   rw [List.getElem?_map] at hy
   obtain ⟨e,he,rfl⟩:=Option.map_eq_some_iff.mp hy
   refine ⟨_,rfl,_,rfl,a,h,e,rfl,i4.seqT s1 hH,ok,fun r hr2=>⟨r,_,_,_,rfl,rfl,SqT.of d6,rfl,s1.trans (d9 hr2 _),?_,_,rfl⟩⟩
   rw [List.take_succ,he,List.map_append]
   rfl
  ·rintro acc σ H' ⟨s1,rfl,v,rfl⟩ l hl'
   exact fin H' s1 l hl'
 ·refine ⟨_,(e7 (i8 (i7 (V9 P w rfl) rfl T.m_sorted boot_sorted (b4 (z9 (U6 K P w rfl) rfl T.m_set boot_set (b4 (D0 (own:=["end"]) (fr:=[(0,"hall")]) rfl (show CompScope ["hall","ends"] (d5 (top 13)) _ _ _ from ⟨rfl,by decide +kernel,by decide +kernel,by decide +kernel,by decide +kernel⟩) (o6 K (pv 1)) (fun cl C s H ex=>⟨(m9 (i:=0) (show (["end","hall"]:List Str).Nodup from by decide +kernel) rfl (Or.inl rfl) (Or.inr rfl)),E6,(i6 (e8 K) (m7 C_place_out hr rfl (b4 (pv 1) (b4 (pv 0) d4 b5) b5)) d7 (fun _ _=>rfl))⟩)) d4 M3)) d4 x0)))),?_⟩
  refine ⟨_,rfl,p,rfl,⟨_,hS⟩,?_⟩
  refine B2 (xs:=es.map V.int) (fun i acc σ H'=>i4 H H' ∧ acc = (es.take i).map (fun e=>V.int (e / h.e)) ∧ ∃ v,σ = [v,some (.ref a)])
   ⟨i4.refl H,rfl,none,rfl⟩ sz (fun i acc σ H' g=>?_) (fun i acc σ H' _ g=>g.1.seq hS) ?_ ?_
  ·obtain ⟨_,rfl,_⟩:=g
   rw [List.length_map,List.length_take]
   lia
  ·rintro i y acc σ H' hy ⟨s1,rfl,v,rfl⟩
   rw [List.getElem?_map] at hy
   obtain ⟨e,he,rfl⟩:=Option.map_eq_some_iff.mp hy
   refine ⟨_,rfl,_,rfl,a,h,e,rfl,i4.seqT s1 hH,ok,fun r hr2=>⟨r,_,_,_,rfl,rfl,SqT.of d6,rfl,s1.trans (d9 hr2 _),?_,_,rfl⟩⟩
   rw [List.take_succ,he,List.map_append]
   rfl
  ·rintro acc σ H' ⟨s1,rfl,v,rfl⟩ l hl'
   exact fin H' s1 l hl'
end
theorem u4 {h:Hall} {es:List Int} {r:Int}:r ∈ g9 h es ↔ ∃ e ∈ es,e / h.e = r:=by
 unfold g9
 rw [B1,List.mem_map]
theorem J8 (h:Hall) (es:List Int):(g9 h es).length ≤ es.length:=by
 have:=T7 (es.map fun e=>e / h.e)
 rw [List.length_map] at this
 exact this
def u5 (h:Hall) (side:Bool) (r kk:Int) (k:Call):Bool:=decide (k.k = kk) && (if side then decide (r ∈ g9 h k.es) else decide (k.c / h.c = r))
def aV4 (h:Hall) (as:List Addr) (ks:List Call) (side:Bool) (r kk:Int) (v:Option V):Prop :=
 (v = none ∧ ∀ k ∈ ks,u5 h side r kk k = false) ∨ ∃ (j:Nat) (a:Addr) (k:Call),as[j]? = some a ∧ ks[j]? = some k ∧ u5 h side r kk k = true ∧ v = some (.ref a)
theorem Y3 {h:Hall} {side:Bool} {r kk:Int} {k k':Call} (f:C8 h k k') (h1:u5 h side r kk k = true):u5 h side r kk k' = false:=by
 rw [Bool.eq_false_iff]
 intro h2
 unfold u5 at h1 h2
 rw [Bool.and_eq_true] at h1 h2
 have e1:=of_decide_eq_true h1.1
 have e2:=of_decide_eq_true h2.1
 cases side with
 | false =>
  have g1:k.c / h.c = r:=of_decide_eq_true h1.2
  have g2:k'.c / h.c = r:=of_decide_eq_true h2.2
  exact f (nIn r kk) (o9.mpr (.inl (by rw [g1,e1]))) (o9.mpr (.inl (by rw [g2,e2])))
 | true =>
  have g1:r ∈ g9 h k.es:=of_decide_eq_true h1.2
  have g2:r ∈ g9 h k'.es:=of_decide_eq_true h2.2
  obtain ⟨x,x1,x2⟩:=u4.mp g1
  obtain ⟨y,y1,y2⟩:=u4.mp g2
  exact f (I9 r kk) (o9.mpr (.inr (.inl ⟨x,x1,by rw [x2,e1]⟩))) (o9.mpr (.inr (.inl ⟨y,y1,by rw [y2,e2]⟩)))
theorem aV4.find {h:Hall} {as:List Addr} {ks:List Call} {side:Bool} {r kk:Int} {v:Option V} (fr:ks.Pairwise (C8 h)) (q:aV4 h as ks side r kk v) :
  (ks.find? (u5 h side r kk) = none ∧ v = none) ∨ ∃ (j:Nat) (a:Addr) (k:Call),as[j]? = some a ∧ ks[j]? = some k ∧ ks.find? (u5 h side r kk) = some k ∧ v = some (.ref a):=by
 rcases q with ⟨rfl,no⟩ | ⟨j,a,k,ha,hk,hh,rfl⟩
 ·exact .inl ⟨List.find?_eq_none.mpr fun x hx=>by rw [no x hx]; exact Bool.false_ne_true,rfl⟩
 ·refine .inr ⟨j,a,k,ha,hk,?_,rfl⟩
  cases e:ks.find? (u5 h side r kk) with
  | none=>exact absurd hh (by rw [List.find?_eq_none] at e; exact e k (List.mem_of_getElem? hk))
  | some k' =>
   have h1:=List.find?_some e
   obtain ⟨j',hj'⟩:=List.mem_iff_getElem?.mp (List.mem_of_find?_eq_some e)
   obtain ⟨q1,z1⟩:=List.getElem?_eq_some_iff.mp hk
   obtain ⟨q2,z2⟩:=List.getElem?_eq_some_iff.mp hj'
   rcases Nat.lt_trichotomy j j' with g | g | g
   ·have:=(List.pairwise_iff_getElem.mp fr) j j' q1 q2 g
    rw [z1,z2] at this
    rw [Y3 this hh] at h1
    cases h1
   ·subst g
    rw [hk] at hj'
    rw [hj']
   ·have:=(List.pairwise_iff_getElem.mp fr) j' j q2 q1 g
    rw [z1,z2] at this
    rw [Y3 this h1] at hh
    cases hh
def J3 (h:Hall) (ks:List Call) (a b:Int):Nat → Bool → Int → List Int → Option (List Int)
 | 0,_,_,acc=>some acc
 | n + 1,side,r,acc=>match ks.find? (u5 h side r (if side then a else b)) with
  | none=>some acc
  | some k=>if k.c ∈ acc then some acc else if 1 < (g9 h k.es).length then none else J3 h ks a b n (!side) (if side then k.c / h.c else (g9 h k.es).headD 0) (acc ++ [k.c])
def ak8 (s:Bool):Int:=if s then 1 else 0
def bm6 (H:Hp) (v:V) (o:Option (List Int)):Prop:=(o = none ∧ v = .non) ∨ ∃ l ns,o = some ns ∧ v = .ref l ∧ H l = some (.lst (ns.map V.int))
structure Chained (K:PySem.W.Frag) (H:Hp) (p l:Addr) (h:Hall) (as:List Addr) (ks:List Call):Prop where
 p:SqT K H p (h.row.map V.int)
 ok:h.Ok
 l:SqL K H l (as.map V.ref)
 c:h9 H as ks
 hin:∀ k ∈ ks,k.In h
 few:ks.length ≤ 63
theorem Chained.same {K:PySem.W.Frag} {H H':Hp} {p l:Addr} {h:Hall} {as:List Addr} {ks:List Call} (s:i4 H H') (q:Chained K H p l h as ks):Chained K H' p l h as ks :=
 ⟨i4.seqT s q.p,q.ok,s.seq q.l,h9.same (fun b xs z=>s _ _ z) q.c,q.hin,q.few⟩
def S7 (K:PySem.W.Frag):Sp:=fun vs H Q _=>∃ (p a:Addr) (h:Hall) (k:Call),vs = [.ref p,.ref a] ∧ SqT K H p (h.row.map V.int) ∧ h.Ok ∧ y9 H a k ∧ k.In h ∧ ∀ (l:Addr) (H':Hp),i4 H H' → H l = none → H' l = some (.lst ((k.c / h.c :: g9 h k.es).map V.int)) → Q (.ref l) H'
def a99 (K:PySem.W.Frag) (side:Bool):Sp:=fun vs H Q _=>∃ (p l:Addr) (h:Hall) (as:List Addr) (ks:List Call) (kk:Int),vs = [.ref p,.ref l,.int kk] ∧ Chained K H p l h as ks ∧ ∀ (d:Addr) (kvs:List (Key × V)) (H':Hp),i4 H H' → H' d = some (.dK kvs) → (∀ r:Int,aV4 h as ks side r kk (D4 kvs (.inl r))) → Q (.ref d) H'
def R8 (K:PySem.W.Frag):Sp:=fun vs H Q _=>∃ (p l:Addr) (h:Hall) (as:List Addr) (ks:List Call) (side:Bool) (r a b:Int),vs = [.ref p,.ref l,.int (ak8 side),.int r,.int a,.int b] ∧ Chained K H p l h as ks ∧ ks.Pairwise (C8 h) ∧
 ∀ (v:V) (H':Hp),i4 H H' → (∀ x,v = .ref x → H x = none) → bm6 H' v (J3 h ks a b 64 side r []) → Q v H'
def ae7 (K:PySem.W.Frag) (side:Bool):Sp:=fun vs H Q _=>∃ (p l:Addr) (h:Hall) (as:List Addr) (ks:List Call) (r a b:Int),vs = [.ref p,.ref l,.int r,.int a,.int b] ∧ Chained K H p l h as ks ∧ ks.Pairwise (C8 h) ∧
 ∀ (v:V) (H':Hp),i4 H H' → (∀ x,v = .ref x → H x = none) → bm6 H' v (J3 h ks a b 64 side r []) → Q v H'
theorem aX2 (ps:List (Key × V)) (key:Key):(D4 (T0 ps) key = none ∧ ∀ p ∈ ps,p.1 ≠ key) ∨ ∃ p ∈ ps,p.1 = key ∧ D4 (T0 ps) key = some p.2:=by
 have go:∀ (n:Nat) (ps:List (Key × V)),ps.length = n → (D4 (T0 ps) key = none ∧ ∀ p ∈ ps,p.1 ≠ key) ∨ ∃ p ∈ ps,p.1 = key ∧ D4 (T0 ps) key = some p.2:=by
  intro n
  induction n with
  | zero =>
   intro ps hl
   rw [List.length_eq_zero_iff.mp hl]
   exact .inl ⟨rfl,fun p hp=>nomatch hp⟩
  | succ n ih =>
   intro ps hl
   obtain ⟨qs,p,rfl⟩:∃ qs p,ps = qs ++ [p]:=⟨ps.dropLast,ps.getLast (by intro z; rw [z] at hl; cases hl),(List.dropLast_concat_getLast _).symm⟩
   rw [ai6,Q3]
   by_cases e:key = p.1
   ·rw [if_pos e]
    exact .inr ⟨p,List.mem_append_right _ (List.mem_singleton.mpr rfl),e.symm,rfl⟩
   ·rw [if_neg e]
    rcases ih qs (by simpa using hl) with ⟨h1,h2⟩ | ⟨q,h1,h2,h3⟩
    ·refine .inl ⟨h1,fun x hx=>?_⟩
     rcases List.mem_append.mp hx with z | z
     ·exact h2 x z
     ·rw [List.mem_singleton] at z
      rw [z]; exact Ne.symm e
    ·exact .inr ⟨q,List.mem_append_left _ h1,h2,h3⟩
 exact go _ ps rfl
section
variable {P:Program} {w:World} {K:PySem.W.Frag} {mg:Str → Option Value} {base:Heap}
theorem al6:FnScope ["hall","call"] ["hall","call"] (d5 (top 36)):=⟨rfl,rfl,rfl,by decide +kernel,rfl,by decide +kernel,by decide +kernel⟩
theorem am4 (T:Txt K mg) (C_place_in:Callee P w K mg base 1 "place_in" ["hall","caller"] (L4 K Hall.c)) (C_racks_of:Callee P w K mg base 2 "racks_of" ["hall","ends"] (M9 K)) (D:Def K mg "call_racks" (top 36) ["hall","call"]):Callee P w K mg base 3 "call_racks" ["hall","call"] (S7 K):=by
 refine D.ok al6 (fun vs H Q E h=>?_) (fun f cdv A outer s H vs Q E hr h=>?_)
 ·obtain ⟨p,a,h,k,rfl,_⟩:=h
  rfl
 obtain ⟨p,a,h,k,rfl,hP,ok,⟨ce,e1,e2⟩,hk,q⟩:=h
 have few:=hk.few
 refine ⟨_,(e7 (i8 (m6 av3 (B0 (b4 (i6 (e8 K) (m7 C_place_in hr rfl (b4 (pv 0) (b4 (i6 (e8 K) (pv 1) d7 (fun _ _=>rfl)) d4 n6) b5)) d7 (fun _ _=>rfl)) d4 n6)) (m7 C_racks_of hr rfl (b4 (pv 0) (b4 (i6 (e8 K) (pv 1) d7 (fun _ _=>rfl)) d4 n6) b5))))),?_⟩
 refine ⟨_,rfl,_,rfl,a,_,_,_,rfl,rfl,SqT.of e2,rfl,p,h,k.c,rfl,hP,ok,fun t ht=>?_⟩
 have et:=d6 (H:=H) (a:=t) (o:=.tup [.int (k.c / h.c),.int (k.c % h.c)])
 have s1:=d9 ht (.tup [.int (k.c / h.c),.int (k.c % h.c)])
 generalize upd H t (.tup [.int (k.c / h.c),.int (k.c % h.c)]) = H1 at et s1 ⊢
 refine ⟨t,_,_,_,rfl,rfl,SqT.of et,rfl,(by show 1 ≤ sizeLine; decide),fun l1 hl1=>?_⟩
 have el:=d6 (H:=H1) (a:=l1) (o:=.lst [.int (k.c / h.c)])
 have s2:=d9 hl1 (.lst [.int (k.c / h.c)])
 generalize upd H1 l1 (.lst [.int (k.c / h.c)]) = H2 at el s2 ⊢
 have s12:=s1.trans s2
 refine ⟨_,rfl,_,rfl,a,_,_,_,rfl,rfl,SqT.of (s12 _ _ e2),rfl,p,ce,h,k.es,rfl,i4.seqT s12 hP,ok,.inl (SqT.of (s12 _ _ e1)),by lia,fun l2 H3 s3 _ el2=>?_⟩
 have rl:=J8 h k.es
 refine ⟨l1,l2,_,_,rfl,rfl,s3 _ _ el,el2,(by rw [List.length_map]; show 1 + _ ≤ 16777216; lia),fun l3 hl3=>?_⟩
 exact q l3 _ ((s12.trans s3).trans (d9 hl3 _)) ((s12.trans s3).free hl3) d6
theorem ah2:FnScope ["hall","calls","k"] ["hall","calls","k"] (d5 (top 37)):=⟨rfl,rfl,rfl,by decide +kernel,rfl,by decide +kernel,by decide +kernel⟩
theorem aW2 (T:Txt K mg) (C_call_racks:Callee P w K mg base 3 "call_racks" ["hall","call"] (S7 K)) (D:Def K mg "calls_by_in" (top 37) ["hall","calls","k"]):Callee P w K mg base 4 "calls_by_in" ["hall","calls","k"] (a99 K false):=by
 refine D.ok ah2 (fun vs H Q E h=>?_) (fun f cdv A outer s H vs Q E hr h=>?_)
 ·obtain ⟨p,l,h,as,ks,kk,rfl,_⟩:=h
  rfl
 obtain ⟨p,l,h,as,ks,kk,rfl,hc,q⟩:=h
 have la:=Paired.length hc.c
 have h63:=hc.few
 refine ⟨_,(e7 (i8 (z9 (aL1 rfl) rfl T.m_dict boot_dict (b4 (D0 (own:=["call"]) (fr:=[(0,"hall"),(2,"k")]) rfl (show CompScope ["hall","calls","k"] (d5 (top 37)) _ _ _ from ⟨rfl,by decide +kernel,by decide +kernel,by decide +kernel,by decide +kernel⟩) (o6 K (pv 1)) (fun cl C s H ex=>⟨(m9 (i:=0) (show (["call","hall","k"]:List Str).Nodup from by decide +kernel) rfl (Or.inl rfl) (Or.inr rfl)),(P7 (m5 D1 (i6 (e8 K) (pv 0) d7 (fun _ _=>rfl)) (pv 2) (n9 _))),(A9 (b4 (i6 (C4 K) (m7 C_call_racks hr rfl (b4 (pv 1) (b4 (pv 0) d4 b5) b5)) d7 (fun _ _=>rfl)) (b4 (pv 0) d4 b5) n6))⟩)) d4 M3)))),?_⟩
 refine ⟨_,rfl,l,rfl,⟨_,hc.l⟩,?_⟩
 refine B2 (xs:=as.map V.ref) (fun i acc σ H'=>i4 H H' ∧ (∃ (ts:List Addr) (ps:List (Key × V)),acc = ts.map V.ref ∧ Paired (fun a (p:Key × V)=>H' a = some (.tup [kV p.1,p.2])) ts ps ∧ ps.length ≤ i ∧
   (∀ q ∈ ps,∃ (j:Nat) (a:Addr) (k:Call),as[j]? = some a ∧ ks[j]? = some k ∧ k.k = kk ∧ q = (.inl (k.c / h.c),.ref a)) ∧ ∀ (j:Nat) (k:Call),j < i → ks[j]? = some k → k.k = kk → ∃ q ∈ ps,q.1 = .inl (k.c / h.c)) ∧ ∃ v,σ = [v,some (.ref p),some (.int kk)])
  ⟨i4.refl _,⟨[],[],rfl,.nil,Nat.le_refl _,(fun q hq=>nomatch hq),fun j k hj=>absurd hj (Nat.not_lt_zero _)⟩,none,rfl⟩ (Nat.le_of_lt (j9 (by rw [List.length_map]; lia))) (fun i acc σ H' g=>?_) (fun i acc σ H' _ g=>g.1.seq hc.l) ?_ ?_
 ·obtain ⟨_,⟨ts,ps,rfl,g1,g2,_⟩,_⟩:=g
  have:=Paired.length g1
  rw [List.length_map]
  lia
 ·rintro i y acc σ H' hy ⟨s1,⟨ts,ps,rfl,g1,g2,g3,g4⟩,v,rfl⟩
  rw [List.getElem?_map] at hy
  obtain ⟨a,ha,rfl⟩:=Option.map_eq_some_iff.mp hy
  obtain ⟨k,hk,hca⟩:=j7 hc.c i a ha
  have hca1:=y9.same (fun b xs z=>s1 _ _ z) hca
  obtain ⟨ce,e1,e2⟩:=id hca1
  refine ⟨_,rfl,a,_,_,_,rfl,rfl,SqT.of e2,rfl,_,rfl,rfl,_,rfl,?_⟩
  refine C3 (fun cc=>?_) (fun cc=>?_)
  ·have cc':k.k = kk:=by simpa using cc
   refine ⟨_,rfl,_,rfl,p,a,h,k,rfl,i4.seqT s1 hc.p,hc.ok,hca1,hc.hin k (List.mem_of_getElem? hk),fun lr H2 s2 _ er=>?_⟩
   refine ⟨lr,_,_,_,rfl,rfl,SqL.of er,(show atI ((k.c / h.c :: g9 h k.es).map V.int) ((0:Nat):Int) = some (.int (k.c / h.c)) from E7 rfl),_,rfl,(by show 2 ≤ sizeLine; decide),fun t ht=>?_⟩
   have s3:=d9 ht (.tup [.int (k.c / h.c),.ref a])
   refine ⟨s1.trans (s2.trans s3),⟨ts ++ [t],ps ++ [(.inl (k.c / h.c),.ref a)],by rw [List.map_append]; rfl,?_,by rw [List.length_append]; show ps.length + 1 ≤ i + 1; lia,fun q hq=>?_,fun j k' hj hk' hkk=>?_⟩,_,rfl⟩
   ·refine Paired.snoc (w5 g1 fun a d _ e=>s3 _ _ (s2 _ _ e)) d6
   ·rcases List.mem_append.mp hq with z | z
    ·exact g3 q z
    ·rw [List.mem_singleton] at z
     exact ⟨i,a,k,ha,hk,cc',z⟩
   ·by_cases z:j = i
    ·subst z
     rw [hk] at hk'
     cases hk'
     exact ⟨_,List.mem_append_right _ (List.mem_singleton.mpr rfl),rfl⟩
    ·obtain ⟨q,q1,q2⟩:=g4 j k' (by lia) hk' hkk
     exact ⟨q,List.mem_append_left _ q1,q2⟩
  ·have cc':¬ k.k = kk:=by simpa using cc
   refine ⟨s1,⟨ts,ps,rfl,g1,by lia,g3,fun j k' hj hk' hkk=>?_⟩,_,rfl⟩
   by_cases z:j = i
   ·subst z
    rw [hk] at hk'
    cases hk'
    exact absurd hkk cc'
   ·exact g4 j k' (by lia) hk' hkk
 ·rintro acc σ H' ⟨s1,⟨ts,ps,rfl,g1,g2,g3,g4⟩,v,rfl⟩ lp hlp
  rw [List.length_map] at g2 g4
  have s2:=d9 hlp (.lst (ts.map V.ref))
  refine ⟨lp,ts,ps,rfl,d6,w5 g1 fun a d _ e=>s2 _ _ e,by lia,fun d hd=>?_⟩
  refine q d _ _ ((s1.trans s2).trans (d9 hd _)) d6 fun r=>?_
  rcases aX2 ps (.inl r) with ⟨h1,h2⟩ | ⟨x,h1,h2,h3⟩
  ·refine .inl ⟨h1,fun k hk=>?_⟩
   rw [Bool.eq_false_iff]
   intro z
   unfold u5 at z
   rw [Bool.and_eq_true] at z
   obtain ⟨j,hj⟩:=List.mem_iff_getElem?.mp hk
   have hjl:=(List.getElem?_eq_some_iff.mp hj).1
   obtain ⟨x,x1,x2⟩:=g4 j k (by lia) hj (of_decide_eq_true z.1)
   have z2:k.c / h.c = r:=of_decide_eq_true z.2
   exact h2 x x1 (by rw [x2,z2])
  ·obtain ⟨j,a,k,ha,hk,hkk,rfl⟩:=g3 x h1
   refine .inr ⟨j,a,k,ha,hk,?_,h3⟩
   have e:k.c / h.c = r:=by
    have:(Sum.inl (k.c / h.c):Key) = .inl r:=h2
    exact Sum.inl.inj this
   unfold u5
   rw [decide_eq_true hkk,Bool.true_and]
   exact decide_eq_true e
end
section
variable {P:Program} {w:World} {K:PySem.W.Frag} {mg:Str → Option Value} {base:Heap}
def bl8 (h:Hall) (as:List Addr) (ks:List Call) (kk:Int) (i n:Nat) (kvs:List (Key × V)):Prop:=∀ r:Int,
 (D4 kvs (.inl r) = none ∧ (∀ (j:Nat) k,j < i → ks[j]? = some k → u5 h true r kk k = false) ∧ ∀ k,ks[i]? = some k → k.k = kk → ¬ r ∈ (g9 h k.es).take n) ∨
 ∃ (j:Nat) (a:Addr) (k:Call),as[j]? = some a ∧ ks[j]? = some k ∧ u5 h true r kk k = true ∧ D4 kvs (.inl r) = some (.ref a)
theorem E5:FnScope ["hall","calls","k","found","call","rack"] ["hall","calls","k"] (d5 (top 38)):=⟨rfl,rfl,rfl,by decide +kernel,rfl,by decide +kernel,by decide +kernel⟩
theorem aU2 (T:Txt K mg) (C_racks_of:Callee P w K mg base 2 "racks_of" ["hall","ends"] (M9 K)) (D:Def K mg "calls_by_out" (top 38) ["hall","calls","k"]):Callee P w K mg base 3 "calls_by_out" ["hall","calls","k"] (a99 K true):=by
 refine D.ok E5 (fun vs H Q E h=>?_) (fun f cdv A outer s H vs Q E hr h=>?_)
 ·obtain ⟨p,l,h,as,ks,kk,rfl,_⟩:=h
  rfl
 obtain ⟨p,l,h,as,ks,kk,rfl,hc,q⟩:=h
 have la:=Paired.length hc.c
 have h63:=hc.few
 refine ⟨_,(d8 (j8 (i:=3) E5.nd rfl (Or.inl rfl) ak0)
  (d8 (y8 PassesOwn.never rfl (o6 K (pv 1)) (m9 (i:=4) E5.nd rfl (Or.inl rfl))
  (e7 (u3 (m5 D1 (i6 (e8 K) (pv 4) d7 (fun _ _=>rfl)) (pv 2) (n9 _)) (e7 (y8 PassesOwn.never rfl (o6 K (m7 C_racks_of hr rfl (b4 (pv 0) (b4 (i6 (e8 K) (pv 4) d7 (fun _ _=>rfl)) d4 n6) b5))) (m9 (i:=5) E5.nd rfl (Or.inl rfl))
  (e7 (ae4 (Q4 hr) (pv 3) (pv 5) (pv 4) rfl)))) m8)))
  (e7 (i8 (pv 3))))),?_⟩
 refine fun d hd=>?_
 have ed:=d6 (H:=H) (a:=d) (o:=.dK [])
 have s1:=d9 hd (.dK [])
 generalize upd H d (.dK []) = H1 at ed s1 ⊢
 refine ⟨_,rfl,l,rfl,⟨_,s1.seq hc.l⟩,?_⟩
 refine w6 (xs:=as.map V.ref) (fun i σ H'=>i4 H H' ∧ (∃ kvs,H' d = some (.dK kvs) ∧ kvs.length ≤ 12 * i ∧ bl8 h as ks kk i 0 kvs) ∧ ∃ v4 v5,σ = [some (.ref p),some (.ref l),some (.int kk),some (.ref d),v4,v5])
  ⟨s1,⟨[],ed,Nat.le_refl _,fun r=>.inl ⟨rfl,(fun j k hj=>absurd hj (Nat.not_lt_zero _)),fun k _ _ hm=>by rw [List.take_zero] at hm; cases hm⟩⟩,none,none,rfl⟩ (fun i σ H' _ g=>g.1.seq hc.l) ?_ ?_
 ·rintro i x σ H' hx ⟨s2,⟨kvs,ed2,hl,hD⟩,v4,v5,rfl⟩
  rw [List.getElem?_map] at hx
  obtain ⟨a,ha,rfl⟩:=Option.map_eq_some_iff.mp hx
  obtain ⟨k,hk,hca⟩:=j7 hc.c i a ha
  have hi:=(List.getElem?_eq_some_iff.mp hk).1
  have hkI:=hc.hin k (List.mem_of_getElem? hk)
  have few:=hkI.few
  obtain ⟨ce,e1,e2⟩:=y9.same (fun b xs z=>s2 _ _ z) hca
  refine ⟨_,rfl,a,_,_,_,rfl,rfl,SqT.of e2,rfl,_,rfl,rfl,_,rfl,?_⟩
  refine C3 (fun cc=>?_) (fun cc=>?_)
  ·have cc':k.k = kk:=by simpa using cc
   refine ⟨_,rfl,_,rfl,a,_,_,_,rfl,rfl,SqT.of e2,rfl,p,ce,h,k.es,rfl,i4.seqT s2 hc.p,hc.ok,.inl (SqT.of e1),by lia,fun lr H3 s3 hlr er=>?_⟩
   have s23:=s2.trans s3
   have nlr:lr ≠ d:=fun z=>by rw [z,ed2] at hlr; cases hlr
   have rl:=J8 h k.es
   refine ⟨lr,rfl,⟨_,SqL.of er⟩,?_⟩
   refine w6 (xs:=(g9 h k.es).map V.int) (fun n σ H'=>i4 H H' ∧ H' lr = some (.lst ((g9 h k.es).map V.int)) ∧ (∃ kvs,H' d = some (.dK kvs) ∧ kvs.length ≤ 12 * i + n ∧ bl8 h as ks kk i n kvs) ∧ ∃ v5,σ = [some (.ref p),some (.ref l),some (.int kk),some (.ref d),some (.ref a),v5])
    ⟨s23,er,⟨kvs,s3 _ _ ed2,by lia,hD⟩,_,rfl⟩ (fun n σ H' _ g=>SqL.of g.2.1) ?_ ?_
   ·rintro n y σ H' hy ⟨g1,g2,⟨kvs,g3,g4,g5⟩,v5,rfl⟩
    rw [List.getElem?_map] at hy
    obtain ⟨r',hr',rfl⟩:=Option.map_eq_some_iff.mp hy
    have hn:=(List.getElem?_eq_some_iff.mp hr').1
    refine ⟨_,rfl,_,rfl,_,rfl,d,_,rfl,al7.k (k:=.inl r') g3 (by show kvs.length < 16777216; lia),?_⟩
    refine ⟨i4.put g1 hd,by rw [n5 nlr]; exact g2,⟨_,d6,?_,fun r=>?_⟩,_,rfl⟩
    ·have:=F2 kvs (Sum.inl r':Key) (V.ref a)
     lia
    ·rw [Q3]
     by_cases z:(Sum.inl r:Key) = .inl r'
     ·have z':r = r':=Sum.inl.inj z
      subst z'
      rw [if_pos rfl]
      refine .inr ⟨i,a,k,ha,hk,?_,rfl⟩
      unfold u5
      rw [decide_eq_true cc',Bool.true_and]
      exact decide_eq_true (List.mem_of_getElem? hr')
     ·rw [if_neg z]
      rcases g5 r with ⟨x1,x2,x3⟩ | x
      ·refine .inl ⟨x1,x2,fun k' hk' hkk' hm=>?_⟩
       rw [hk] at hk'
       cases hk'
       rw [List.take_succ,hr'] at hm
       rcases List.mem_append.mp hm with m | m
       ·exact x3 k hk cc' m
       ·exact z (by rw [show r = r' by simpa using m])
      ·exact .inr x
   ·rintro σ H' ⟨g1,g2,⟨kvs,g3,g4,g5⟩,v5,rfl⟩
    rw [List.length_map] at g4 g5
    refine ⟨g1,⟨kvs,g3,by lia,fun r=>?_⟩,_,_,rfl⟩
    rcases g5 r with ⟨x1,x2,x3⟩ | x
    ·refine .inl ⟨x1,fun j k' hj hk'=>?_,fun k' _ _ hm=>by rw [List.take_zero] at hm; cases hm⟩
     by_cases z:j = i
     ·subst z
      rw [hk] at hk'
      cases hk'
      have:=x3 k hk cc'
      rw [List.take_length] at this
      unfold u5
      rw [decide_eq_true cc',Bool.true_and]
      exact decide_eq_false this
     ·exact x2 j k' (by lia) hk'
    ·exact .inr x
  ·have cc':¬ k.k = kk:=by simpa using cc
   refine ⟨s2,⟨kvs,ed2,by lia,fun r=>?_⟩,_,_,rfl⟩
   rcases hD r with ⟨x1,x2,x3⟩ | x
   ·refine .inl ⟨x1,fun j k' hj hk'=>?_,fun k' _ _ hm=>by rw [List.take_zero] at hm; cases hm⟩
    by_cases z:j = i
    ·subst z
     rw [hk] at hk'
     cases hk'
     unfold u5
     rw [decide_eq_false cc',Bool.false_and]
    ·exact x2 j k' (by lia) hk'
   ·exact .inr x
 ·rintro σ H' ⟨s2,⟨kvs,ed2,hl,hD⟩,v4,v5,rfl⟩
  rw [List.length_map] at hD
  refine ⟨_,rfl,q d kvs H' s2 ed2 fun r=>?_⟩
  rcases hD r with ⟨x1,x2,x3⟩ | x
  ·refine .inl ⟨x1,fun k hk=>?_⟩
   obtain ⟨j,hj⟩:=List.mem_iff_getElem?.mp hk
   have:=(List.getElem?_eq_some_iff.mp hj).1
   exact x2 j k (by lia) hj
  ·exact .inr x
theorem Z4 {h:Hall} {ks:List Call} {a b:Int} {n:Nat} {side:Bool} {r:Int} {acc:List Int}:J3 h ks a b (n + 1) side r acc = match ks.find? (u5 h side r (if side then a else b)) with
  | none=>some acc
  | some k=>if k.c ∈ acc then some acc else if 1 < (g9 h k.es).length then none else J3 h ks a b n (!side) (if side then k.c / h.c else (g9 h k.es).headD 0) (acc ++ [k.c]):=rfl
theorem Z9:∀ {acc L:List Int},acc.Nodup → (∀ c ∈ acc,c ∈ L) → acc.length ≤ L.length
 | [],_,_,_=>Nat.zero_le _
 | c :: t,L,nd,hs=>by
  have hc:=hs c (List.mem_cons_self ..)
  have ih:=Z9 (L:=L.erase c) (List.nodup_cons.mp nd).2 fun x hx=>by
   have hne:x ≠ c:=fun z=>(List.nodup_cons.mp nd).1 (z ▸ hx)
   exact (List.mem_erase_of_ne hne).mpr (hs x (List.mem_cons_of_mem _ hx))
  rw [List.length_erase_of_mem hc] at ih
  have:=List.length_pos_of_mem hc
  rw [List.length_cons]
  lia
theorem as8 {ks:List Call} {acc:List Int} (nd:acc.Nodup) (hs:∀ c ∈ acc,∃ k ∈ ks,k.c = c):acc.length ≤ ks.length:=by
 have:=Z9 (L:=ks.map Call.c) nd fun c hc=>by
  obtain ⟨k,h1,h2⟩:=hs c hc
  exact List.mem_map.mpr ⟨k,h1,h2⟩
 rw [List.length_map] at this
 exact this
theorem B4:FnScope ["hall","calls","side","rack","a","b","known","chain","call","racks"] ["hall","calls","side","rack","a","b"] (d5 (top 39)):=⟨rfl,rfl,rfl,by decide +kernel,rfl,by decide +kernel,by decide +kernel⟩
set_option maxHeartbeats 20000000 in
theorem am5 (T:Txt K mg) (C_call_racks:Callee P w K mg base 3 "call_racks" ["hall","call"] (S7 K)) (C_calls_by_in:Callee P w K mg base 4 "calls_by_in" ["hall","calls","k"] (a99 K false)) (C_calls_by_out:Callee P w K mg base 3 "calls_by_out" ["hall","calls","k"] (a99 K true)) (D:Def K mg "chain_from" (top 39) ["hall","calls","side","rack","a","b"]):Callee P w K mg base 5 "chain_from" ["hall","calls","side","rack","a","b"] (R8 K):=by
 refine D.ok B4 (fun vs H Q E h=>?_) (fun f cdv A outer s H vs Q E hr h=>?_)
 ·obtain ⟨p,l,h,as,ks,side,r,a,b,rfl,_⟩:=h
  rfl
 obtain ⟨p,l,h,as,ks,side,r,a,b,rfl,hc,fr,q⟩:=h
 have la:=Paired.length hc.c
 have h63:=hc.few
 refine ⟨_,(d8 (j8 (i:=6) B4.nd rfl (Or.inl rfl) (A9 (b4 (m7 C_calls_by_in hr rfl (b4 (pv 0) (b4 (pv 1) (b4 (pv 5) d4 b5) b5) b5)) (b4 (m7 C_calls_by_out hr rfl (b4 (pv 0) (b4 (pv 1) (b4 (pv 4) d4 b5) b5) b5)) d4 x0) x0)))
  (d8 (j8 (i:=7) B4.nd rfl (Or.inl rfl) (B0 d4))
  (d8 (j8 (i:=8) B4.nd rfl (Or.inl rfl) (aC8 (Q4 hr) (i6 (e8 K) (pv 6) (pv 2) (fun _ _=>rfl)) (pv 3) ⟨rfl,rfl,rfl,rfl⟩))
  (d8 (a79 PassesOwn.never (PW.pt (ah3 (m5 U0 (pv 8) y7 (n9 _)) (ae0 (m5 (aa0 K) (i6 (e8 K) (pv 8) d7 (fun _ _=>rfl)) (pv 7) (by with_unfolding_all rfl))))) (d8 (j8 (i:=9) B4.nd rfl (Or.inl rfl) (m7 C_call_racks hr rfl (b4 (pv 0) (b4 (pv 8) d4 b5) b5)))
  (d8 (u3 (m5 bd8 (i7 (u0 K) rfl T.m_len boot_len (b4 (pv 9) d4 b5)) d7 (n9 _)) (e7 (i8 y7)) m8)
  (d8 (D6 (Q1 K PySem.F.plainAttrs_list PySem.F.slot_list_append PySem.F.type_list_append J6 (pv 7) (b4 (i6 (e8 K) (pv 8) d7 (fun _ _=>rfl)) d4 n6)))
  (d8 (j8 (i:=2) B4.nd rfl (Or.inl rfl) (m6 Z3 d7 (pv 2)))
  (e7 (j8 (i:=8) B4.nd rfl (Or.inl rfl) (aC8 (Q4 hr) (i6 (e8 K) (pv 6) (pv 2) (fun _ _=>rfl)) (i6 (C4 K) (pv 9) (pv 2) (fun _ _=>rfl)) ⟨rfl,rfl,rfl,rfl⟩))))))))
  (e7 (i8 (pv 7))))))),?_⟩
 refine ⟨_,rfl,_,rfl,_,rfl,p,l,h,as,ks,b,rfl,hc,fun d0 kv0 H1 s1 ed0 hat0=>?_⟩
 refine ⟨_,rfl,_,rfl,_,rfl,p,l,h,as,ks,a,rfl,hc.same s1,fun d1 kv1 H2 s2 ed1 hat1=>?_⟩
 refine ⟨(by show 2 ≤ sizeLine; decide),fun t ht=>?_⟩
 have et:=d6 (H:=H2) (a:=t) (o:=.tup [.ref d0,.ref d1])
 have s3:=d9 ht (.tup [.ref d0,.ref d1])
 generalize upd H2 t (.tup [.ref d0,.ref d1]) = H3 at et s3 ⊢
 refine ⟨(by show 0 ≤ sizeLine; decide),fun lc hlc=>?_⟩
 have el:=d6 (H:=H3) (a:=lc) (o:=.lst [])
 have s4:=d9 hlc (.lst [])
 generalize upd H3 lc (.lst []) = H4 at el s4 ⊢
 have s34:=s3.trans s4
 have s24:=s2.trans s34
 have s14:=s1.trans s24
 have hlcH:H lc = none:=(s1.trans (s2.trans s3)).free hlc
 have dd:∀ (H':Hp),i4 H3 H' → ∀ (sd:Bool),∃ (d:Addr) (kv:List (Key × V)),atI [V.ref d0,V.ref d1] (ak8 sd) = some (.ref d) ∧ H' d = some (.dK kv) ∧ ∀ r:Int,aV4 h as ks sd r (if sd then a else b) (D4 kv (.inl r)):=fun H' g sd=>by
  cases sd with
  | false=>exact ⟨d0,kv0,rfl,g _ _ (s3 _ _ (s2 _ _ ed0)),hat0⟩
  | true=>exact ⟨d1,kv1,rfl,g _ _ (s3 _ _ ed1),hat1⟩
 obtain ⟨d,kv,i1,i2,i3⟩:=dd H4 s4 side
 refine ⟨_,rfl,_,rfl,t,_,_,_,rfl,rfl,SqT.of (s4 _ _ et),i1,d,rfl,.inl ⟨kv,.inl i2⟩,_,rfl,_,S5.k (k:=.inl r) i2,?_⟩
 refine ⟨fun m σ H'=>i4 H3 H' ∧ ∃ (sd:Bool) (r':Int) (acc:List Int) (v:Option V) (v9:Option V),m + acc.length = 64 ∧ acc.Nodup ∧ (∀ c ∈ acc,∃ k ∈ ks,k.c = c) ∧ H' lc = some (.lst (acc.map V.int)) ∧ aV4 h as ks sd r' (if sd then a else b) v ∧ J3 h ks a b m sd r' acc = J3 h ks a b 64 side r [] ∧
   σ = [some (.ref p),some (.ref l),some (.int (ak8 sd)),some (.int r),some (.int a),some (.int b),some (.ref t),some (.ref lc),some (v.getD .non),v9],
  ⟨64,s4,side,r,[],D4 kv (.inl r),none,rfl,List.nodup_nil,(fun c hc=>nomatch hc),el,i3 r,rfl,rfl⟩,?_⟩
 rintro m σ H' ⟨g1,sd,r',acc,v,v9,g2,g3,g4,g5,g6,g7,rfl⟩
 have al:=as8 g3 g4
 obtain ⟨n,rfl⟩:∃ n,m = n + 1:=⟨m - 1,by lia⟩
 have gH:i4 H H':=s1.trans (s2.trans (s3.trans g1))
 rw [Z4] at g7
 have done:some acc = J3 h ks a b 64 side r [] → Q (.ref lc) H':=fun z=>q (.ref lc) H' gH (fun x hx=>by cases hx; exact hlcH) (.inr ⟨lc,acc,z.symm,rfl,g5⟩)
 rcases g6.find fr with ⟨f1,rfl⟩ | ⟨j,ca,k,ha,hk,f1,rfl⟩
 ·rw [f1] at g7
  refine ⟨_,rfl,rfl,_,rfl,C1 ?_⟩
  exact C1 ⟨_,rfl,done g7⟩
 ·rw [f1] at g7
  obtain ⟨k',hk',hca⟩:=j7 hc.c j ca ha
  rw [hk] at hk'
  cases hk'
  have hkI:=hc.hin k (List.mem_of_getElem? hk)
  have hca':=y9.same (fun b xs z=>gH _ _ z) hca
  obtain ⟨ce,e1,e2⟩:=id hca'
  refine ⟨_,rfl,rfl,_,rfl,N7 ?_⟩
  refine ⟨_,rfl,ca,_,_,_,rfl,rfl,SqT.of e2,rfl,_,rfl,lc,_,rfl,.inl (SqL.of g5),rfl,Q8 acc,_,rfl,?_⟩
  rw [ak4]
  refine C3 (fun cc=>?_) (fun cc=>?_)
  ·have cc':¬ k.c ∈ acc:=by simpa using cc
   simp only [if_neg cc'] at g7
   refine ⟨fun σ' H''=>∃ m',m' < n + 1 ∧ (i4 H3 H'' ∧ ∃ (sd:Bool) (r':Int) (acc:List Int) (v:Option V) (v9:Option V),m' + acc.length = 64 ∧ acc.Nodup ∧ (∀ c ∈ acc,∃ k ∈ ks,k.c = c) ∧ H'' lc = some (.lst (acc.map V.int)) ∧ aV4 h as ks sd r' (if sd then a else b) v ∧ J3 h ks a b m' sd r' acc = J3 h ks a b 64 side r [] ∧
     σ' = [some (.ref p),some (.ref l),some (.int (ak8 sd)),some (.int r),some (.int a),some (.int b),some (.ref t),some (.ref lc),some (v.getD .non),v9]),fun σ' H'' z=>z,?_⟩
   refine ⟨_,rfl,_,rfl,p,ca,h,k,rfl,i4.seqT gH hc.p,hc.ok,hca',hkI,fun lr H5 s5 hlr er=>?_⟩
   have gH5:=gH.trans s5
   have rl:=J8 h k.es
   have few:=hkI.few
   refine ⟨_,rfl,lr,_,rfl,.inl (SqL.of er),_,_,rfl,rfl,_,rfl,?_⟩
   refine C3 (fun wd=>?_) (fun wd=>?_)
   ·have wd':1 < (g9 h k.es).length:=by
     have:=of_decide_eq_true wd
     rw [List.length_map,List.length_cons] at this
     lia
    simp only [if_pos wd'] at g7
    exact q .non H5 gH5 (fun x hx=>nomatch hx) (.inl ⟨g7.symm,rfl⟩)
   ·have wd':¬ 1 < (g9 h k.es).length:=fun z=>wd (decide_eq_true (by rw [List.length_map,List.length_cons]; lia))
    simp only [if_neg wd'] at g7
    have hne:g9 h k.es ≠ []:=fun z=>by
     obtain ⟨e,he⟩:=List.exists_mem_of_ne_nil _ hkI.some
     have:e / h.e ∈ g9 h k.es:=u4.mpr ⟨e,he,rfl⟩
     rw [z] at this
     cases this
    obtain ⟨o,ho⟩:∃ o,g9 h k.es = [o]:=by
     match e:g9 h k.es,hne,wd' with
     | [o],_,_=>exact ⟨o,rfl⟩
     | _ :: _ :: _,_,w=>exact absurd (by simp) w
    rw [ho] at er g7
    have e5:=s5 _ _ g5
    refine ⟨_,rfl,.inl ⟨rfl,_,SqL.of e5⟩,_,rfl,ca,_,_,_,rfl,rfl,SqT.of (s5 _ _ e2),rfl,lc,_,_,rfl,rfl,e5,j9 (by rw [List.length_map]; lia),?_⟩
    have er6:upd H5 lc (.lst (acc.map V.int ++ [.int k.c])) lr = some (.lst ([k.c / h.c,o].map V.int)):=by
     have z:lr ≠ lc:=fun z=>by rw [z,g5] at hlr; cases hlr
     rw [n5 z]; exact er
    have e6:upd H5 lc (.lst (acc.map V.int ++ [.int k.c])) lc = some (.lst ((acc ++ [k.c]).map V.int)):=by rw [d6,List.map_append]; rfl
    have g36:i4 H3 (upd H5 lc (.lst (acc.map V.int ++ [.int k.c]))):=i4.put (g1.trans s5) hlc
    generalize upd H5 lc (.lst (acc.map V.int ++ [.int k.c])) = H6 at er6 e6 g36 ⊢
    obtain ⟨d',kv',j1,j2,j3⟩:=dd H6 g36 (!sd)
    have hside:(1:Int) - ak8 sd = ak8 (!sd):=by cases sd <;> rfl
    have hrk:atI ([k.c / h.c,o].map V.int) (ak8 (!sd)) = some (.int (if sd then k.c / h.c else o)):=by cases sd <;> rfl
    refine ⟨_,rfl,_,_,rfl,rfl,?_⟩
    refine ⟨_,rfl,_,rfl,t,_,_,_,rfl,rfl,SqT.of (g36 _ _ et),(by rw [hside]; exact j1),d',rfl,.inl ⟨kv',.inl j2⟩,_,rfl,_,rfl,lr,_,_,_,rfl,rfl,SqL.of er6,(by rw [hside]; exact hrk),_,S5.k (k:=.inl (if sd then k.c / h.c else o)) j2,?_⟩
    refine ⟨n,by lia,g36,!sd,(if sd then k.c / h.c else o),acc ++ [k.c],_,_,by rw [List.length_append,List.length_singleton]; lia,?_,fun c hcm=>?_,e6,j3 _,?_,by rw [← hside]; rfl⟩
    ·refine List.nodup_append.mpr ⟨g3,by simp,fun x hx y hy=>?_⟩
     rw [List.mem_singleton] at hy
     rintro rfl
     exact cc' (hy ▸ hx)
    ·rcases List.mem_append.mp hcm with z | z
     ·exact g4 c z
     ·rw [List.mem_singleton] at z
      exact ⟨k,List.mem_of_getElem? hk,z.symm⟩
    ·exact g7
  ·have cc':k.c ∈ acc:=by simpa using cc
   simp only [if_pos cc'] at g7
   exact ⟨_,rfl,done g7⟩
end
def bd7 (side:Bool) (r kk:Int):List Key:=if side then I9 r kk else nIn r kk
theorem ax4 {h:Hall} {side:Bool} {r kk:Int} {k:Call}:bd7 side r kk ∈ C7 h k.c k.es k.k ↔ u5 h side r kk k = true:=by
 rw [C5]
 unfold u5
 rw [Bool.and_eq_true,decide_eq_true_iff]
 cases side with
 | false =>
  show (nIn r kk = nIn (k.c / h.c) k.k ∨ ∃ e ∈ k.es,nIn r kk = I9 (e / h.e) k.k) ↔ k.k = kk ∧ decide (k.c / h.c = r) = true
  rw [decide_eq_true_iff]
  constructor
  ·rintro (z | ⟨e,_,z⟩)
   ·unfold nIn at z
    injection z with _ z
    injection z with z1 z2
    injection z2 with z2 _
    exact ⟨(Sum.inl.inj z2).symm,(Sum.inl.inj z1).symm⟩
   ·unfold nIn I9 at z
    injection z with z _
    exact absurd (Sum.inr.inj z) (by decide)
  ·rintro ⟨z1,z2⟩
   exact .inl (by rw [z1,z2])
 | true =>
  show (I9 r kk = nIn (k.c / h.c) k.k ∨ ∃ e ∈ k.es,I9 r kk = I9 (e / h.e) k.k) ↔ k.k = kk ∧ decide (r ∈ g9 h k.es) = true
  rw [decide_eq_true_iff,u4]
  constructor
  ·rintro (z | ⟨e,he,z⟩)
   ·unfold nIn I9 at z
    injection z with z _
    exact absurd (Sum.inr.inj z) (by decide)
   ·unfold I9 at z
    injection z with _ z
    injection z with z1 z2
    injection z2 with z2 _
    exact ⟨(Sum.inl.inj z2).symm,e,he,(Sum.inl.inj z1).symm⟩
  ·rintro ⟨z1,e,he,z2⟩
   exact .inr ⟨e,he,by rw [z1,z2]⟩
section
variable {P:Program} {w:World} {K:PySem.W.Frag} {mg:Str → Option Value} {base:Heap}
theorem as7:FnScope ["hall","calls","rack","a","b"] ["hall","calls","rack","a","b"] (d5 (top 40)):=⟨rfl,rfl,rfl,by decide +kernel,rfl,by decide +kernel,by decide +kernel⟩
theorem av1 (C_chain_from:Callee P w K mg base 5 "chain_from" ["hall","calls","side","rack","a","b"] (R8 K)) (D:Def K mg "chain_out" (top 40) ["hall","calls","rack","a","b"]):Callee P w K mg base 6 "chain_out" ["hall","calls","rack","a","b"] (ae7 K true):=by
 refine D.ok as7 (fun vs H Q E h=>?_) (fun f cdv A outer s H vs Q E hr h=>?_)
 ·obtain ⟨p,l,h,as,ks,r,a,b,rfl,_⟩:=h
  rfl
 obtain ⟨p,l,h,as,ks,r,a,b,rfl,hc,fr,q⟩:=h
 refine ⟨_,(e7 (i8 (m7 C_chain_from hr rfl (b4 (pv 0) (b4 (pv 1) (b4 d7 (b4 (pv 2) (b4 (pv 3) (b4 (pv 4) d4 b5) b5) b5) q0) b5) b5)))),?_⟩
 exact ⟨_,rfl,_,rfl,_,rfl,_,rfl,_,rfl,p,l,h,as,ks,true,r,a,b,rfl,hc,fr,q⟩
theorem ax0:FnScope ["hall","calls","rack","a","b"] ["hall","calls","rack","a","b"] (d5 (top 41)):=⟨rfl,rfl,rfl,by decide +kernel,rfl,by decide +kernel,by decide +kernel⟩
theorem aE3 (C_chain_from:Callee P w K mg base 5 "chain_from" ["hall","calls","side","rack","a","b"] (R8 K)) (D:Def K mg "chain_in" (top 41) ["hall","calls","rack","a","b"]):Callee P w K mg base 6 "chain_in" ["hall","calls","rack","a","b"] (ae7 K false):=by
 refine D.ok ax0 (fun vs H Q E h=>?_) (fun f cdv A outer s H vs Q E hr h=>?_)
 ·obtain ⟨p,l,h,as,ks,r,a,b,rfl,_⟩:=h
  rfl
 obtain ⟨p,l,h,as,ks,r,a,b,rfl,hc,fr,q⟩:=h
 refine ⟨_,(e7 (i8 (m7 C_chain_from hr rfl (b4 (pv 0) (b4 (pv 1) (b4 d7 (b4 (pv 2) (b4 (pv 3) (b4 (pv 4) d4 b5) b5) b5) q0) b5) b5)))),?_⟩
 exact ⟨_,rfl,_,rfl,_,rfl,_,rfl,_,rfl,p,l,h,as,ks,false,r,a,b,rfl,hc,fr,q⟩
end
def col (a b:Int) (s:Bool):Int:=if s then a else b
def B6 (h:Hall) (s:Bool) (k:Call):Int:=if s then (g9 h k.es).headD 0 else k.c / h.c
def sOf (a:Int) (k:Call):Bool:=decide (k.k = a)
theorem B8 {h:Hall} {s:Bool} {r kk:Int} {k:Call} (nw:(g9 h k.es).length = 1):u5 h s r kk k = true ↔ k.k = kk ∧ B6 h s k = r:=by
 unfold u5 B6
 rw [Bool.and_eq_true,decide_eq_true_iff]
 cases s with
 | false =>
  show k.k = kk ∧ decide (k.c / h.c = r) = true ↔ k.k = kk ∧ k.c / h.c = r
  rw [decide_eq_true_iff]
 | true =>
  show k.k = kk ∧ decide (r ∈ g9 h k.es) = true ↔ k.k = kk ∧ (g9 h k.es).headD 0 = r
  rw [decide_eq_true_iff]
  match g9 h k.es,nw with
  | [o],_ =>
   show k.k = kk ∧ r ∈ [o] ↔ k.k = kk ∧ o = r
   rw [List.mem_singleton]
   exact ⟨fun z=>⟨z.1,z.2.symm⟩,fun z=>⟨z.1,z.2.symm⟩⟩
theorem D7 {h:Hall} {ks:List Call} {s:Bool} {r kk:Int} {k k':Call} (fr:ks.Pairwise (C8 h)) (hk:k ∈ ks) (hk':k' ∈ ks) (h1:u5 h s r kk k = true) (h2:u5 h s r kk k' = true):k = k':=by
 obtain ⟨i,hi⟩:=List.mem_iff_getElem?.mp hk
 obtain ⟨j,hj⟩:=List.mem_iff_getElem?.mp hk'
 obtain ⟨q1,z1⟩:=List.getElem?_eq_some_iff.mp hi
 obtain ⟨q2,z2⟩:=List.getElem?_eq_some_iff.mp hj
 rcases Nat.lt_trichotomy i j with g | g | g
 ·have:=(List.pairwise_iff_getElem.mp fr) i j q1 q2 g
  rw [z1,z2] at this
  rw [Y3 this h1] at h2
  cases h2
 ·subst g
  rw [hi] at hj
  cases hj
  rfl
 ·have:=(List.pairwise_iff_getElem.mp fr) j i q2 q1 g
  rw [z1,z2] at this
  rw [Y3 this h2] at h1
  cases h1
theorem M6 {h:Hall} {ks:List Call} {k k':Call} (fr:ks.Pairwise (C8 h)) (hk:k ∈ ks) (hk':k' ∈ ks) (e:k.c = k'.c):k = k':=by
 obtain ⟨i,hi⟩:=List.mem_iff_getElem?.mp hk
 obtain ⟨j,hj⟩:=List.mem_iff_getElem?.mp hk'
 obtain ⟨q1,z1⟩:=List.getElem?_eq_some_iff.mp hi
 obtain ⟨q2,z2⟩:=List.getElem?_eq_some_iff.mp hj
 rcases Nat.lt_trichotomy i j with g | g | g
 ·have:=(List.pairwise_iff_getElem.mp fr) i j q1 q2 g
  rw [z1,z2] at this
  exact absurd e this.caller
 ·subst g
  rw [hi] at hj
  cases hj
  rfl
 ·have:=(List.pairwise_iff_getElem.mp fr) j i q2 q1 g
  rw [z1,z2] at this
  exact absurd e.symm this.caller
inductive Path (h:Hall) (ks:List Call) (a b:Int) (sd:Bool) (r:Int):List Call → Bool → Int → Prop where
 | nil:Path h ks a b sd r [] sd r
 | snoc {L:List Call} {s:Bool} {x:Int} {k:Call} (p:Path h ks a b sd r L s x) (hk:k ∈ ks) (hh:u5 h s x (col a b s) k = true) (nw:(g9 h k.es).length = 1) (new:∀ k' ∈ L,k'.c ≠ k.c):Path h ks a b sd r (L ++ [k]) (!s) (B6 h (!s) k)
structure Walked (h:Hall) (ks:List Call) (a b:Int) (sd:Bool) (r:Int) (L:List Call):Prop where
 ex:∃ s x,Path h ks a b sd r L s x ∧ ∀ k ∈ ks,u5 h s x (col a b s) k = true → k ∈ L
section
variable {h:Hall} {ks:List Call} {a b:Int} {sd:Bool} {r:Int}
theorem Path.mem {L:List Call} {s:Bool} {x:Int} (p:Path h ks a b sd r L s x):∀ k ∈ L,k ∈ ks ∧ (g9 h k.es).length = 1 ∧ (k.k = a ∨ k.k = b):=by
 induction p with
 | nil=>intro k hk; cases hk
 | @snoc L s x k p hk hh nw new ih =>
  intro y hy
  rcases List.mem_append.mp hy with z | z
  ·exact ih y z
  ·rw [List.mem_singleton] at z
   subst z
   refine ⟨hk,nw,?_⟩
   have:=((B8 nw).mp hh).1
   cases s with
   | false=>exact .inr this
   | true=>exact .inl this
theorem Path.nodup {L:List Call} {s:Bool} {x:Int} (p:Path h ks a b sd r L s x):(L.map Call.c).Nodup:=by
 induction p with
 | nil=>exact List.nodup_nil
 | @snoc L s x k p hk hh nw new ih =>
  rw [List.map_append]
  refine List.nodup_append.mpr ⟨ih,by simp,fun c hc c' hc'=>?_⟩
  obtain ⟨k',h1,rfl⟩:=List.mem_map.mp hc
  have:c' = k.c:=by simpa using hc'
  rw [this]
  exact new k' h1
theorem X6 {k:Call} (hab:a ≠ b) (hk:k.k = a ∨ k.k = b):col a b (sOf a k) = k.k:=by
 unfold col sOf
 rcases hk with e | e
 ·rw [decide_eq_true e]; exact e.symm
 ·rw [decide_eq_false (fun z=>hab (z.symm.trans e))]; exact e.symm
theorem Y8 {k:Call} {s:Bool} (hab:a ≠ b) (hk:k.k = col a b s):sOf a k = s:=by
 unfold sOf
 cases s with
 | true=>exact decide_eq_true hk
 | false =>
  have e:k.k = b:=hk
  exact decide_eq_false fun z=>hab (z.symm.trans e)
theorem Path.last {L:List Call} {s:Bool} {x:Int} (p:Path h ks a b sd r L s x):(L = [] ∧ s = sd ∧ x = r) ∨ ∃ k ∈ L,k.k = col a b (!s) ∧ B6 h s k = x:=by
 cases p with
 | nil=>exact .inl ⟨rfl,rfl,rfl⟩
 | @snoc L s x k p hk hh nw new =>
  refine .inr ⟨k,List.mem_append_right _ (List.mem_singleton.mpr rfl),?_,rfl⟩
  rw [Bool.not_not]
  exact ((B8 nw).mp hh).1
theorem Path.pred {L:List Call} {s:Bool} {x:Int} (hab:a ≠ b) (p:Path h ks a b sd r L s x):∀ k ∈ L,(sOf a k = sd ∧ B6 h (sOf a k) k = r) ∨ ∃ k' ∈ L,k'.k = col a b (!sOf a k) ∧ B6 h (sOf a k) k' = B6 h (sOf a k) k:=by
 induction p with
 | nil=>intro k hk; cases hk
 | @snoc L s x k p hk hh nw new ih =>
  intro y hy
  rcases List.mem_append.mp hy with z | z
  ·rcases ih y z with q | ⟨k',q1,q2,q3⟩
   ·exact .inl q
   ·exact .inr ⟨k',List.mem_append_left _ q1,q2,q3⟩
  ·rw [List.mem_singleton] at z
   subst z
   obtain ⟨e1,e2⟩:=(B8 nw).mp hh
   have es:=Y8 hab e1
   rw [es,e2]
   rcases p.last with ⟨_,q2,q3⟩ | ⟨k',q1,q2,q3⟩
   ·exact .inl ⟨q2,q3⟩
   ·exact .inr ⟨k',List.mem_append_left _ q1,q2,q3⟩
theorem Path.succ {L:List Call} {s:Bool} {x:Int} (hab:a ≠ b) (fr:ks.Pairwise (C8 h)) (p:Path h ks a b sd r L s x):∀ k ∈ L,∀ y ∈ ks,u5 h (!sOf a k) (B6 h (!sOf a k) k) (col a b (!sOf a k)) y = true → y ∈ L ∨ (!sOf a k) = s ∧ B6 h (!sOf a k) k = x:=by
 induction p with
 | nil=>intro k hk; cases hk
 | @snoc L s x k p hk hh nw new ih =>
  intro y hy u hu hq
  rcases List.mem_append.mp hy with z | z
  ·rcases ih y z u hu hq with q | ⟨q1,q2⟩
   ·exact .inl (List.mem_append_left _ q)
   ·rw [q1] at hq q2
    rw [q2] at hq
    exact .inl (List.mem_append_right _ (List.mem_singleton.mpr (D7 fr hu hk hq hh)))
  ·rw [List.mem_singleton] at z
   subst z
   have es:=Y8 hab ((B8 nw).mp hh).1
   rw [es]
   exact .inr ⟨rfl,rfl⟩
theorem Path.begin {L:List Call} {s:Bool} {x:Int} (fr:ks.Pairwise (C8 h)) (p:Path h ks a b sd r L s x):∀ y ∈ ks,u5 h sd r (col a b sd) y = true → y ∈ L ∨ (s = sd ∧ x = r):=by
 induction p with
 | nil=>intro y _ _; exact .inr ⟨rfl,rfl⟩
 | @snoc L s x k p hk hh nw new ih =>
  intro y hy hq
  rcases ih y hy hq with q | ⟨rfl,rfl⟩
  ·exact .inl (List.mem_append_left _ q)
  ·exact .inl (List.mem_append_right _ (List.mem_singleton.mpr (D7 fr hy hk hq hh)))
theorem Walked.succ {L:List Call} (hab:a ≠ b) (fr:ks.Pairwise (C8 h)) (W:Walked h ks a b sd r L):∀ k ∈ L,∀ y ∈ ks,u5 h (!sOf a k) (B6 h (!sOf a k) k) (col a b (!sOf a k)) y = true → y ∈ L:=by
 obtain ⟨s,x,p,st⟩:=W.ex
 intro k hk y hy hq
 rcases p.succ hab fr k hk y hy hq with q | ⟨q1,q2⟩
 ·exact q
 ·rw [q1] at hq q2
  rw [q2] at hq
  exact st y hy hq
theorem Walked.begin {L:List Call} (fr:ks.Pairwise (C8 h)) (W:Walked h ks a b sd r L):∀ y ∈ ks,u5 h sd r (col a b sd) y = true → y ∈ L:=by
 obtain ⟨s,x,p,st⟩:=W.ex
 intro y hy hq
 rcases p.begin fr y hy hq with q | ⟨rfl,rfl⟩
 ·exact q
 ·exact st y hy hq
theorem aq0 (hin:∀ k ∈ ks,k.In h) (fr:ks.Pairwise (C8 h)):∀ (n:Nat) (s:Bool) (x:Int) (L:List Call) (ns:List Int),J3 h ks a b n s x (L.map Call.c) = some ns → Path h ks a b sd r L s x → ks.length < n + L.length → ∃ L',ns = L'.map Call.c ∧ Walked h ks a b sd r L'
 | 0,s,x,L,ns,_,p,hl=>by
  have:=as8 (ks:=ks) p.nodup fun c hc=>by
   obtain ⟨k,h1,h2⟩:=List.mem_map.mp hc
   exact ⟨k,(p.mem k h1).1,h2⟩
  rw [List.length_map] at this
  lia
 | n + 1,s,x,L,ns,e,p,hl=>by
  rw [Z4] at e
  cases f:ks.find? (u5 h s x (if s then a else b)) with
  | none =>
   rw [f] at e
   cases e
   refine ⟨L,rfl,s,x,p,fun k hk hh=>?_⟩
   exact absurd hh (by rw [List.find?_eq_none] at f; exact f k hk)
  | some k =>
   rw [f] at e
   have hh:=List.find?_some f
   have hk:=List.mem_of_find?_eq_some f
   by_cases c1:k.c ∈ L.map Call.c
   ·simp only [if_pos c1] at e
    cases e
    refine ⟨L,rfl,s,x,p,fun y hy hq=>?_⟩
    obtain ⟨k',h1,h2⟩:=List.mem_map.mp c1
    have e1:k' = k:=M6 fr (p.mem k' h1).1 hk h2
    have e2:y = k:=D7 fr hy hk hq hh
    rw [e2,← e1]
    exact h1
   ·simp only [if_neg c1] at e
    by_cases c2:1 < (g9 h k.es).length
    ·simp only [if_pos c2] at e
     cases e
    ·simp only [if_neg c2] at e
     have nw:(g9 h k.es).length = 1:=by
      have hne:g9 h k.es ≠ []:=fun z=>by
       obtain ⟨q,he⟩:=List.exists_mem_of_ne_nil _ (hin k hk).some
       have:q / h.e ∈ g9 h k.es:=u4.mpr ⟨q,he,rfl⟩
       rw [z] at this
       cases this
      have:=List.length_pos_iff.mpr hne
      lia
     have p':=Path.snoc p hk hh nw fun k' hk' z=>c1 (List.mem_map.mpr ⟨k',hk',z⟩)
     have er:(if s = true then k.c / h.c else (g9 h k.es).headD 0) = B6 h (!s) k:=by cases s <;> rfl
     have ea:L.map Call.c ++ [k.c] = (L ++ [k]).map Call.c:=by rw [List.map_append]; rfl
     rw [er,ea] at e
     exact aq0 hin fr n (!s) _ (L ++ [k]) ns e p' (by rw [List.length_append,List.length_singleton]; lia)
theorem ap0:∀ (n:Nat) (s:Bool) (x:Int) (acc:List Int),J3 h ks a b n s x acc = none → ∃ k ∈ ks,1 < (g9 h k.es).length
 | 0,_,_,_,e=>by cases e
 | n + 1,s,x,acc,e=>by
  rw [Z4] at e
  cases f:ks.find? (u5 h s x (if s then a else b)) with
  | none=>rw [f] at e; cases e
  | some k =>
   rw [f] at e
   by_cases c1:k.c ∈ acc
   ·simp only [if_pos c1] at e; cases e
   ·simp only [if_neg c1] at e
    by_cases c2:1 < (g9 h k.es).length
    ·exact ⟨k,List.mem_of_find?_eq_some f,c2⟩
    ·simp only [if_neg c2] at e
     exact ap0 n _ _ _ e
def al3 (a b:Int) (ns:List Int) (k:Call):Call:=if k.c ∈ ns then ⟨k.c,k.es,a + b - k.k⟩ else k
theorem Q7 {s:Bool} {x kk kn:Int} {k:Call}:u5 h s x kk ⟨k.c,k.es,kn⟩ = true ↔ kn = kk ∧ u5 h s x k.k k = true:=by
 unfold u5
 rw [Bool.and_eq_true,Bool.and_eq_true,decide_eq_true_iff,decide_eq_true_iff]
 exact ⟨fun z=>⟨z.1,rfl,z.2⟩,fun z=>⟨z.1,z.2.2⟩⟩
theorem ag1 {L:List Call} {s:Bool} {x:Int} (fr:ks.Pairwise (C8 h)) (p:Path h ks a b sd r L s x) {k:Call} (hk:k ∈ ks):k.c ∈ L.map Call.c ↔ k ∈ L:=by
 constructor
 ·intro z
  obtain ⟨k',h1,h2⟩:=List.mem_map.mp z
  rw [← M6 fr (p.mem k' h1).1 hk h2]
  exact h1
 ·exact fun z=>List.mem_map.mpr ⟨k,z,rfl⟩
theorem ak1 {L:List Call} (hab:a ≠ b) (fr:ks.Pairwise (C8 h)) (hf:∀ y ∈ ks,u5 h sd r (col a b (!sd)) y = false) (W:Walked h ks a b sd r L) {x y:Call} (hx:x ∈ L) (hy:y ∈ ks) (ny:¬ y ∈ L) {s:Bool} {q kk:Int}
  (h1:u5 h s q kk ⟨x.c,x.es,a + b - x.k⟩ = true):u5 h s q kk y = false:=by
 rw [Bool.eq_false_iff]
 intro h2
 obtain ⟨e1,e2⟩:=Q7.mp h1
 obtain ⟨s',x',p,_⟩:=id W.ex
 obtain ⟨m1,m2,m3⟩:=p.mem x hx
 have ec:=X6 hab m3
 have ek:kk = col a b (!sOf a x):=by
  rw [← e1,← ec]
  cases sOf a x with
  | true=>show a + b - a = b; lia
  | false=>show a + b - b = a; lia
 have eq:=((B8 m2).mp e2).2
 by_cases es:s = sOf a x
 ·rw [es] at eq h2
  rw [← eq,ek] at h2
  rcases p.pred hab x hx with ⟨q1,q2⟩ | ⟨k',q1,q2,q3⟩
  ·rw [q2] at h2
   rw [q1] at h2
   rw [hf y hy] at h2
   cases h2
  ·obtain ⟨n1,n2,_⟩:=p.mem k' q1
   have h3:u5 h (sOf a x) (B6 h (sOf a x) x) (col a b (!sOf a x)) k' = true:=(B8 n2).mpr ⟨q2,q3⟩
   exact ny (D7 fr hy n1 h2 h3 ▸ q1)
 ·have es':s = !sOf a x:=by cases s <;> cases hs:sOf a x <;> simp_all
  rw [es'] at eq h2
  rw [← eq,ek] at h2
  exact ny (W.succ hab fr x hx y hy h2)
theorem aJ7 {L:List Call} (hab:a ≠ b) (fr:ks.Pairwise (C8 h)) (hf:∀ y ∈ ks,u5 h sd r (col a b (!sd)) y = false) (W:Walked h ks a b sd r L) {x y:Call} (hx:x ∈ ks) (hy:y ∈ ks) (ne:x ≠ y) {s:Bool} {q kk:Int}
  (h1:u5 h s q kk (al3 a b (L.map Call.c) x) = true):u5 h s q kk (al3 a b (L.map Call.c) y) = false:=by
 obtain ⟨s',x',p,_⟩:=id W.ex
 rw [Bool.eq_false_iff]
 intro h2
 unfold al3 at h1 h2
 by_cases cx:x.c ∈ L.map Call.c
 ·rw [if_pos cx] at h1
  have mx:=(ag1 fr p hx).mp cx
  by_cases cy:y.c ∈ L.map Call.c
  ·rw [if_pos cy] at h2
   have my:=(ag1 fr p hy).mp cy
   obtain ⟨e1,e2⟩:=Q7.mp h1
   obtain ⟨e3,e4⟩:=Q7.mp h2
   have ek:x.k = y.k:=by lia
   rw [← ek] at e4
   exact ne (D7 fr hx hy e2 e4)
  ·rw [if_neg cy] at h2
   rw [ak1 hab fr hf W mx hy (fun z=>cy ((ag1 fr p hy).mpr z)) h1] at h2
   cases h2
 ·rw [if_neg cx] at h1
  by_cases cy:y.c ∈ L.map Call.c
  ·rw [if_pos cy] at h2
   have my:=(ag1 fr p hy).mp cy
   rw [ak1 hab fr hf W my hx (fun z=>cx ((ag1 fr p hx).mpr z)) h2] at h1
   cases h1
  ·rw [if_neg cy] at h2
   exact ne (D7 fr hx hy h1 h2)
theorem aQ5 {L:List Call} (hab:a ≠ b) (fr:ks.Pairwise (C8 h)) (hf:∀ y ∈ ks,u5 h sd r (col a b (!sd)) y = false) (W:Walked h ks a b sd r L) {y:Call} (hy:y ∈ ks):u5 h sd r (col a b sd) (al3 a b (L.map Call.c) y) = false:=by
 obtain ⟨s',x',p,_⟩:=id W.ex
 rw [Bool.eq_false_iff]
 intro h2
 unfold al3 at h2
 by_cases cy:y.c ∈ L.map Call.c
 ·rw [if_pos cy] at h2
  obtain ⟨e1,e2⟩:=Q7.mp h2
  have ek:y.k = col a b (!sd):=by
   cases sd with
   | true=>have e1:a + b - y.k = a:=e1; show y.k = b; lia
   | false=>have e1:a + b - y.k = b:=e1; show y.k = a; lia
  rw [ek,hf y hy] at e2
  cases e2
 ·rw [if_neg cy] at h2
  exact cy ((ag1 fr p hy).mpr (W.begin fr y hy h2))
end
section
variable {h:Hall} {ks:List Call} {a b:Int}
theorem T3 {sd:Bool} {r:Int} (hf:∀ y ∈ ks,u5 h sd r (col a b (!sd)) y = false) {k:Call} (hk:k ∈ ks) (nw:(g9 h k.es).length = 1) (e1:k.k = col a b (!sd)) (e2:B6 h sd k = r):False:=by
 have:=hf k hk
 rw [(B8 nw).mpr ⟨e1,e2⟩] at this
 cases this
theorem aL5 {far near:Int} (hab:a ≠ b) (fr:ks.Pairwise (C8 h)) (hf:∀ y ∈ ks,u5 h true far (col a b false) y = false) (hn:∀ y ∈ ks,u5 h false near (col a b true) y = false)
  {M:List Call} {s':Bool} {x':Int} (pM:Path h ks a b false near M s' x') {L:List Call} {s:Bool} {x:Int} (p:Path h ks a b true far L s x):∀ k ∈ L,¬ k ∈ M:=by
 induction p with
 | nil=>intro k hk; cases hk
 | @snoc L s x k p hk hh nw new ih =>
  intro y hy hM
  rcases List.mem_append.mp hy with z | z
  ·exact ih y z hM
  ·rw [List.mem_singleton] at z
   subst z
   obtain ⟨e1,e2⟩:=(B8 nw).mp hh
   have es:=Y8 hab e1
   have pr:=pM.pred hab y hM
   rw [es,e2] at pr
   rcases p.last with ⟨_,l2,l3⟩ | ⟨k2,l1,l2,l3⟩
   ·rcases pr with ⟨q1,_⟩ | ⟨k1,q1,q2,q3⟩
    ·rw [l2] at q1
     cases q1
    ·obtain ⟨m1,m2,_⟩:=pM.mem k1 q1
     rw [l2] at q2 q3
     rw [l3] at q3
     exact T3 (sd:=true) hf m1 m2 q2 q3
   ·obtain ⟨n1,n2,_⟩:=p.mem k2 l1
    rcases pr with ⟨q1,q2⟩ | ⟨k1,q1,q2,q3⟩
    ·rw [q1] at l2 l3
     rw [q2] at l3
     exact T3 (sd:=false) hn n1 n2 l2 l3
    ·obtain ⟨m1,m2,_⟩:=pM.mem k1 q1
     have g1:u5 h s x (col a b (!s)) k1 = true:=(B8 m2).mpr ⟨q2,q3⟩
     have g2:u5 h s x (col a b (!s)) k2 = true:=(B8 n2).mpr ⟨l2,l3⟩
     exact ih k2 l1 (D7 fr n1 m1 g2 g1 ▸ q1)
def aL7 (h:Hall) (a:Int) (k:Call):Bool × Int:=(!sOf a k,B6 h (!sOf a k) k)
def Z8 (h:Hall) (a:Int) (sd:Bool) (r:Int) (L:List Call):List (Bool × Int):=(sd,r) :: L.map (aL7 h a)
theorem aE6 {sd:Bool} {r:Int} (hab:a ≠ b) (fr:ks.Pairwise (C8 h)) (hf:∀ y ∈ ks,u5 h sd r (col a b (!sd)) y = false) {L:List Call} {s:Bool} {x:Int} (p:Path h ks a b sd r L s x):(Z8 h a sd r L).Nodup:=by
 induction p with
 | nil=>unfold Z8; simp
 | @snoc L s x k p hk hh nw new ih =>
  obtain ⟨e1,e2⟩:=(B8 nw).mp hh
  have es:=Y8 hab e1
  unfold Z8 at ih ⊢
  rw [List.map_append,← List.cons_append]
  refine List.nodup_append.mpr ⟨ih,by simp,fun v hv v' hv'=>?_⟩
  have ev:v' = aL7 h a k:=by simpa using hv'
  rw [ev]
  rintro rfl
  unfold aL7 at hv
  rw [es] at hv
  rcases List.mem_cons.mp hv with z | z
  ·have z1:(!s) = sd:=congrArg Prod.fst z
   have z2:B6 h (!s) k = r:=congrArg Prod.snd z
   have e3:k.k = col a b (!sd):=by rw [← z1,Bool.not_not]; exact e1
   rw [z1] at z2
   exact T3 hf hk nw e3 z2
  ·obtain ⟨k',h1,h2⟩:=List.mem_map.mp z
   obtain ⟨m1,m2,m3⟩:=p.mem k' h1
   have z1:(!sOf a k') = (!s):=congrArg Prod.fst h2
   have z2:B6 h (!sOf a k') k' = B6 h (!s) k:=congrArg Prod.snd h2
   have z3:sOf a k' = s:=by cases hs:sOf a k' <;> cases s <;> simp_all
   rw [z1] at z2
   have c1:k'.k = col a b s:=by rw [← z3]; exact (X6 hab m3).symm
   have g1:u5 h (!s) (B6 h (!s) k) (col a b s) k' = true:=(B8 m2).mpr ⟨c1,z2⟩
   have g2:u5 h (!s) (B6 h (!s) k) (col a b s) k = true:=(B8 nw).mpr ⟨e1,rfl⟩
   exact new k' h1 (by rw [D7 fr m1 hk g1 g2])
theorem bi5 {sd:Bool} {r:Int} (hab:a ≠ b) {L:List Call} {s:Bool} {x:Int} (p:Path h ks a b sd r L s x) {k:Call} (hk:k ∈ L) (t:Bool):(t,B6 h t k) ∈ Z8 h a sd r L:=by
 unfold Z8
 by_cases e:t = sOf a k
 ·rw [e]
  rcases p.pred hab k hk with ⟨q1,q2⟩ | ⟨k',q1,q2,q3⟩
  ·rw [q2,q1]
   exact List.mem_cons_self ..
  ·refine List.mem_cons_of_mem _ (List.mem_map.mpr ⟨k',q1,?_⟩)
   unfold aL7
   rw [Y8 hab q2,Bool.not_not,q3]
 ·have e':t = !sOf a k:=by cases t <;> cases hs:sOf a k <;> simp_all
  rw [e']
  exact List.mem_cons_of_mem _ (List.mem_map.mpr ⟨k,hk,rfl⟩)
theorem ak7 {far near:Int} (hab:a ≠ b) (fr:ks.Pairwise (C8 h)) (hf:∀ y ∈ ks,u5 h true far (col a b false) y = false) (hn:∀ y ∈ ks,u5 h false near (col a b true) y = false)
  {M:List Call} {s':Bool} {x':Int} (pM:Path h ks a b false near M s' x') {L:List Call} {s:Bool} {x:Int} (p:Path h ks a b true far L s x):∀ v ∈ Z8 h a true far L,¬ v ∈ Z8 h a false near M:=by
 have ap:=aL5 hab fr hf hn pM p
 intro v hv hw
 unfold Z8 at hv hw
 rcases List.mem_cons.mp hv with rfl | hv
 ·rcases List.mem_cons.mp hw with z | z
  ·have:=congrArg Prod.fst z
   cases this
  ·obtain ⟨k,h1,h2⟩:=List.mem_map.mp z
   obtain ⟨m1,m2,m3⟩:=pM.mem k h1
   unfold aL7 at h2
   have z1:(!sOf a k) = true:=congrArg Prod.fst h2
   have z2:B6 h (!sOf a k) k = far:=congrArg Prod.snd h2
   rw [z1] at z2
   have z3:sOf a k = false:=by cases hs:sOf a k <;> simp_all
   have c1:=X6 hab m3
   rw [z3] at c1
   exact T3 (sd:=true) hf m1 m2 c1.symm z2
 ·obtain ⟨k,h1,rfl⟩:=List.mem_map.mp hv
  obtain ⟨m1,m2,m3⟩:=p.mem k h1
  have c1:=X6 hab m3
  rcases List.mem_cons.mp hw with z | z
  ·unfold aL7 at z
   have z1:(!sOf a k) = false:=congrArg Prod.fst z
   have z2:B6 h (!sOf a k) k = near:=congrArg Prod.snd z
   rw [z1] at z2
   have z3:sOf a k = true:=by cases hs:sOf a k <;> simp_all
   rw [z3] at c1
   exact T3 (sd:=false) hn m1 m2 c1.symm z2
  ·obtain ⟨k',g1,g2⟩:=List.mem_map.mp z
   obtain ⟨n1,n2,n3⟩:=pM.mem k' g1
   unfold aL7 at g2
   have z1:(!sOf a k') = (!sOf a k):=congrArg Prod.fst g2
   have z2:B6 h (!sOf a k') k' = B6 h (!sOf a k) k:=congrArg Prod.snd g2
   have z3:sOf a k' = sOf a k:=by cases hs:sOf a k' <;> cases hs':sOf a k <;> simp_all
   rw [z1] at z2
   have c2:=X6 hab n3
   rw [z3,c1] at c2
   have u1:u5 h (!sOf a k) (B6 h (!sOf a k) k) k.k k' = true:=(B8 n2).mpr ⟨c2.symm,z2⟩
   have u2:u5 h (!sOf a k) (B6 h (!sOf a k) k) k.k k = true:=(B8 m2).mpr ⟨rfl,rfl⟩
   exact ap k h1 (D7 fr n1 m1 u1 u2 ▸ g1)
theorem ag0:∀ {acc L:List (Bool × Int)},acc.Nodup → (∀ c ∈ acc,c ∈ L) → acc.length ≤ L.length
 | [],_,_,_=>Nat.zero_le _
 | c :: t,L,nd,hs=>by
  have hc:=hs c (List.mem_cons_self ..)
  have ih:=ag0 (L:=L.erase c) (List.nodup_cons.mp nd).2 fun x hx=>by
   have hne:x ≠ c:=fun z=>(List.nodup_cons.mp nd).1 (z ▸ hx)
   exact (List.mem_erase_of_ne hne).mpr (hs x (List.mem_cons_of_mem _ hx))
  rw [List.length_erase_of_mem hc] at ih
  have:=List.length_pos_of_mem hc
  rw [List.length_cons]
  lia
theorem a05 {x d n:Int} (hd:0 < d) (h0:0 ≤ x) (h1:x < n * d):0 ≤ x / d ∧ x / d < n:=⟨Int.ediv_nonneg h0 (by lia),Int.ediv_lt_of_lt_mul hd h1⟩
theorem aj0 {k:Call} (ok:h.Ok) (hk:k.In h) (nw:(g9 h k.es).length = 1) (s:Bool):0 ≤ B6 h s k ∧ B6 h s k < (if s then h.o else h.i):=by
 have b1:=ok.c
 have b2:=ok.e
 cases s with
 | false=>exact a05 (by lia) hk.c.1 hk.c.2
 | true =>
  show 0 ≤ (g9 h k.es).headD 0 ∧ (g9 h k.es).headD 0 < h.o
  match e:g9 h k.es,nw with
  | [o],_ =>
   have ho:o ∈ g9 h k.es:=by rw [e]; simp
   obtain ⟨q,q1,q2⟩:=u4.mp ho
   have:=hk.es q q1
   rw [← q2]
   exact a05 (by lia) this.1 this.2
theorem aA3 {far near:Int} (ok:h.Ok) (hin:∀ k ∈ ks,k.In h) (h1:0 ≤ far ∧ far < h.o) (h2:0 ≤ near ∧ near < h.i) (hab:a ≠ b) (fr:ks.Pairwise (C8 h)) (hf:∀ y ∈ ks,u5 h true far (col a b false) y = false) (hn:∀ y ∈ ks,u5 h false near (col a b true) y = false)
  {M:List Call} {s':Bool} {x':Int} (pM:Path h ks a b false near M s' x') {L:List Call} {s:Bool} {x:Int} (p:Path h ks a b true far L s x):((L.length + M.length:Nat):Int) ≤ h.i + h.o - 2:=by
 have b1:=ok.i
 have b2:=ok.o
 have nd:(Z8 h a true far L ++ Z8 h a false near M).Nodup:=List.nodup_append.mpr ⟨aE6 (sd:=true) hab fr hf p,aE6 (sd:=false) hab fr hn pM,fun v hv v' hv' z=>ak7 hab fr hf hn pM p v hv (z ▸ hv')⟩
 have sub:∀ v ∈ Z8 h a true far L ++ Z8 h a false near M,v ∈ (List.range h.i.toNat).map (fun (n:Nat)=>(false,(n:Int))) ++ (List.range h.o.toNat).map (fun (n:Nat)=>(true,(n:Int))):=fun v hv=>by
  have bnd:0 ≤ v.2 ∧ v.2 < (if v.1 then h.o else h.i):=by
   rcases List.mem_append.mp hv with hv | hv
   ·rcases List.mem_cons.mp hv with rfl | hv
    ·exact h1
    ·obtain ⟨k,k1,rfl⟩:=List.mem_map.mp hv
     obtain ⟨m1,m2,_⟩:=p.mem k k1
     exact aj0 ok (hin k m1) m2 _
   ·rcases List.mem_cons.mp hv with rfl | hv
    ·exact h2
    ·obtain ⟨k,k1,rfl⟩:=List.mem_map.mp hv
     obtain ⟨m1,m2,_⟩:=pM.mem k k1
     exact aj0 ok (hin k m1) m2 _
  obtain ⟨s,x⟩:=v
  cases s with
  | false =>
   have bnd:0 ≤ x ∧ x < h.i:=bnd
   exact List.mem_append_left _ (List.mem_map.mpr ⟨x.toNat,List.mem_range.mpr (by lia),by rw [Int.toNat_of_nonneg bnd.1]⟩)
  | true =>
   have bnd:0 ≤ x ∧ x < h.o:=bnd
   exact List.mem_append_right _ (List.mem_map.mpr ⟨x.toNat,List.mem_range.mpr (by lia),by rw [Int.toNat_of_nonneg bnd.1]⟩)
 have:=ag0 nd sub
 unfold Z8 at this
 rw [List.length_append,List.length_append,List.length_cons,List.length_cons,List.length_map,List.length_map,List.length_map,List.length_map,List.length_range,List.length_range] at this
 lia
end
inductive PartIs (K:PySem.W.Frag) (H:Hp):V → Prop where
 | int (i:Int):PartIs K H (.int i)
 | odd {x:V} {t:Value} {b1 b2:Bool} (ni:∀ i,x ≠ .int i) (ty:TyOf K H x t) (h1:PySem.W.kitOne K t (.type "int") = some b1) (h2:PySem.W.kitOne K t (.type "bool") = some b2) (hb:b1 = false ∨ b2 = true):PartIs K H x
theorem TyOf.same {K:PySem.W.Frag} {H H':Hp} {x:V} {t:Value} (s:i4 H H') (h:TyOf K H x t):TyOf K H' x t:=by
 cases h with
 | non=>exact .non
 | bl b=>exact .bl b
 | int i=>exact .int i
 | str y=>exact .str y
 | flt y=>exact .flt y
 | lst e=>exact .lst (s _ _ e)
 | frz e=>exact .frz (s _ _ e)
 | tup e=>exact .tup (s _ _ e)
 | dK e=>exact .dK (s _ _ e)
 | dT e=>exact .dT (s _ _ e)
 | ins e a b c d f=>exact .ins (s _ _ e) a b c d f
theorem PartIs.same {K:PySem.W.Frag} {H H':Hp} {x:V} (s:i4 H H') (h:PartIs K H x):PartIs K H' x:=by
 cases h with
 | int i=>exact .int i
 | odd ni ty h1 h2 hb=>exact .odd ni (TyOf.same s ty) h1 h2 hb
def x8 (x:V) (lo hi:Int):Bool:=match x with
 | .int i=>decide (lo ≤ i) && decide (i ≤ hi)
 | _=>false
def isInt:V → Bool
 | .int _=>true
 | _=>false
def U2 (K:PySem.W.Frag):Sp:=fun vs H Q _=>∃ (x:V) (lo hi:Int),vs = [x,.int lo,.int hi] ∧ PartIs K H x ∧ Q (.bl (x8 x lo hi)) H
def ae2 (K:PySem.W.Frag):Sp:=fun vs H Q _=>∃ x:V,vs = [x] ∧ PartIs K H x ∧ Q (.bl (isInt x)) H
section
variable {P:Program} {w:World} {K:PySem.W.Frag} {mg:Str → Option Value} {base:Heap}
theorem au5:FnScope ["thing"] ["thing"] (d5 (top 7)):=⟨rfl,rfl,rfl,by decide +kernel,rfl,by decide +kernel,by decide +kernel⟩
theorem aw3 (T:Txt K mg) (D:Def K mg "is_number" (top 7) ["thing"]):Callee P w K mg base 1 "is_number" ["thing"] (ae2 K):=by
 refine D.ok au5 (fun vs H Q E h=>?_) (fun f cdv A outer s H vs Q E hr h=>?_)
 ·obtain ⟨x,rfl,_⟩:=h
  rfl
 obtain ⟨x,rfl,hp,q⟩:=h
 refine ⟨_,(e7 (i8 (S1 (i7 (t5 K) rfl T.m_isinstance boot_isinstance (b4 (pv 0) (b4 (B9 (v:=.ty "int") rfl T.m_int boot_int rfl) d4 b5) b5)) (ab1 (a83 (i7 (t5 K) rfl T.m_isinstance boot_isinstance (b4 (pv 0) (b4 (B9 (v:=.ty "bool") rfl T.m_bool boot_bool rfl) d4 b5) b5))))))),?_⟩
 cases hp with
 | int i =>
  refine ⟨_,rfl,_,_,_,true,rfl,.int i,M7,_,rfl,N7 ?_⟩
  exact ⟨_,rfl,_,_,_,false,rfl,.int i,P3,_,rfl,q⟩
 | @odd _ t b1 b2 ni ty h1 h2 hb =>
  have e:isInt x = false:=by
   cases x with
   | int i=>exact absurd rfl (ni i)
   | _=>rfl
  rw [e] at q
  refine ⟨_,rfl,_,_,_,b1,rfl,ty,h1,_,rfl,?_⟩
  cases b1 with
  | false=>exact C1 q
  | true =>
   have hb2:b2 = true:=hb.elim (fun z=>nomatch z) id
   subst hb2
   exact N7 ⟨_,rfl,_,_,_,true,rfl,ty,h2,_,rfl,q⟩
theorem aA0:FnScope ["thing","least","most"] ["thing","least","most"] (d5 (top 8)):=⟨rfl,rfl,rfl,by decide +kernel,rfl,by decide +kernel,by decide +kernel⟩
theorem aC4 (T:Txt K mg) (C_is_number:Callee P w K mg base 1 "is_number" ["thing"] (ae2 K)) (D:Def K mg "is_whole" (top 8) ["thing","least","most"]):Callee P w K mg base 2 "is_whole" ["thing","least","most"] (U2 K):=by
 refine D.ok aA0 (fun vs H Q E h=>?_) (fun f cdv A outer s H vs Q E hr h=>?_)
 ·obtain ⟨x,lo,hi,rfl,_⟩:=h
  rfl
 obtain ⟨x,lo,hi,rfl,hp,q⟩:=h
 refine ⟨_,(e7 (i8 (S1 (m7 C_is_number hr rfl (b4 (pv 0) d4 b5)) (ab1 (a77 ay8 ay8 (pv 1) (pv 0) (pv 2)))))),?_⟩
 refine ⟨_,rfl,x,rfl,hp,_,rfl,?_⟩
 cases hp with
 | int i =>
  refine N7 ?_
  refine ⟨_,rfl,_,rfl,_,_,rfl,rfl,_,rfl,?_⟩
  refine C3 (fun c=>?_) (fun c=>?_)
  ·refine ⟨_,rfl,_,_,rfl,rfl,?_⟩
   have e:x8 (.int i) lo hi = decide (i ≤ hi):=by show (decide (lo ≤ i) && decide (i ≤ hi)) = _; rw [c,Bool.true_and]
   rw [e] at q
   exact q
  ·have e:x8 (.int i) lo hi = false:=by show (decide (lo ≤ i) && decide (i ≤ hi)) = _; rw [Bool.eq_false_iff.mpr c,Bool.false_and]
   rw [e] at q
   exact q
 | @odd _ t b1 b2 ni ty h1 h2 hb =>
  have e0:isInt x = false:=by
   cases x with
   | int i=>exact absurd rfl (ni i)
   | _=>rfl
  have e:x8 x lo hi = false:=by
   cases x with
   | int i=>exact absurd rfl (ni i)
   | _=>rfl
  rw [e] at q
  rw [e0]
  exact C1 q
end
def a09 (xs:List V):List Int:=xs.filterMap fun x=>match x with | .int i=>some i | _=>none
theorem Z6 (ns:List Int):a09 (ns.map V.int) = ns:=by
 unfold a09
 induction ns with
 | nil=>rfl
 | cons i t ih=>rw [List.map_cons,List.filterMap_cons]; exact congrArg (i :: ·) ih
def L1 (xs:List V):Bool:=decide ((w4 (a09 xs)).length = xs.length)
def ac9 (h:Hall):Option (List V) → Bool
 | none=>false
 | some xs=>!xs.isEmpty && (xs.all (fun x=>x8 x 0 (h.o * h.e - 1)) && L1 xs)
inductive EndTh (K:PySem.W.Frag) (H:Hp):V → Option (List V) → Prop where
 | lst {a:Addr} {xs:List V} (e:H a = some (.lst xs)) (h:∀ x ∈ xs,PartIs K H x) (hn:xs.length ≤ 64):EndTh K H (.ref a) (some xs)
 | tup {a:Addr} {xs:List V} (e:H a = some (.tup xs)) (h:∀ x ∈ xs,PartIs K H x) (hn:xs.length ≤ 64):EndTh K H (.ref a) (some xs)
 | no {x:V} {t:Value} (ty:TyOf K H x t) (h1:PySem.W.kitOne K t (.type "list") = some false) (h2:PySem.W.kitOne K t (.type "tuple") = some false):EndTh K H x none
theorem EndTh.same {K:PySem.W.Frag} {H H':Hp} {x:V} {o:Option (List V)} (s:i4 H H') (h:EndTh K H x o):EndTh K H' x o:=by
 cases h with
 | lst e h hn=>exact .lst (s _ _ e) (fun x hx=>(h x hx).same s) hn
 | tup e h hn=>exact .tup (s _ _ e) (fun x hx=>(h x hx).same s) hn
 | no ty h1 h2=>exact .no (TyOf.same s ty) h1 h2
theorem aA9 {x:V} {lo hi:Int} (h:x8 x lo hi = true):∃ i:Int,x = .int i ∧ lo ≤ i ∧ i ≤ hi:=by
 cases x with
 | int i =>
  have h':(decide (lo ≤ i) && decide (i ≤ hi)) = true:=h
  rw [Bool.and_eq_true] at h'
  exact ⟨i,rfl,of_decide_eq_true h'.1,of_decide_eq_true h'.2⟩
 | _=>cases h
theorem aL6 {lo hi:Int}:∀ {xs:List V},xs.all (fun x=>x8 x lo hi) = true → ∃ ns:List Int,xs = ns.map V.int
 | [],_=>⟨[],rfl⟩
 | x :: t,h=>by
  rw [List.all_cons,Bool.and_eq_true] at h
  obtain ⟨i,rfl,_⟩:=aA9 h.1
  obtain ⟨ns,rfl⟩:=aL6 h.2
  exact ⟨i :: ns,rfl⟩
def ai4 (K:PySem.W.Frag):Sp:=fun vs H Q _=>∃ (a:Addr) (h:Hall) (x:V),vs = [.ref a,x] ∧ SqT K H a (h.row.map V.int) ∧ h.Ok ∧ PartIs K H x ∧ Q (.bl (x8 x 0 (h.i * h.c - 1))) H
def am6 (K:PySem.W.Frag):Sp:=fun vs H Q _=>∃ (a p:Addr) (h:Hall) (xs:List V),vs = [.ref a,.ref p] ∧ SqT K H a (h.row.map V.int) ∧ h.Ok ∧ (SqL K H p xs ∨ SqT K H p xs) ∧ (∀ x ∈ xs,PartIs K H x) ∧ xs.length ≤ 64 ∧ ∀ H',i4 H H' → Q (.bl (xs.all fun x=>x8 x 0 (h.o * h.e - 1))) H'
def ay6 (K:PySem.W.Frag):Sp:=fun vs H Q _=>∃ (p:Addr) (ns:List Int),vs = [.ref p] ∧ (SqL K H p (ns.map V.int) ∨ SqT K H p (ns.map V.int)) ∧ ns.length ≤ 64 ∧ ∀ H',i4 H H' → Q (.bl (decide ((w4 ns).length = ns.length))) H'
def ay7 (K:PySem.W.Frag):Sp:=fun vs H Q _=>∃ (a:Addr) (h:Hall) (x:V) (o:Option (List V)),vs = [.ref a,x] ∧ SqT K H a (h.row.map V.int) ∧ h.Ok ∧ EndTh K H x o ∧ ∀ H',i4 H H' → Q (.bl (ac9 h o)) H'
section
variable {P:Program} {w:World} {K:PySem.W.Frag} {mg:Str → Option Value} {base:Heap}
theorem av8:FnScope ["hall","thing"] ["hall","thing"] (d5 (top 22)):=⟨rfl,rfl,rfl,by decide +kernel,rfl,by decide +kernel,by decide +kernel⟩
theorem at3 (T:Txt K mg) (C_is_whole:Callee P w K mg base 2 "is_whole" ["thing","least","most"] (U2 K)) (D:Def K mg "is_caller" (top 22) ["hall","thing"]):Callee P w K mg base 3 "is_caller" ["hall","thing"] (ai4 K):=by
 refine D.ok av8 (fun vs H Q E h=>?_) (fun f cdv A outer s H vs Q E hr h=>?_)
 ·obtain ⟨a,h,x,rfl,_⟩:=h
  rfl
 obtain ⟨a,h,x,rfl,hH,ok,hp,q⟩:=h
 have o1:=ok.i
 refine ⟨_,(e7 (i8 (m7 C_is_whole hr rfl (b4 (pv 1) (b4 d7 (b4 (m6 Z3 (m6 C6 (i6 (e8 K) (pv 0) d7 (fun _ _=>rfl)) (i6 (e8 K) (pv 0) d7 (fun _ _=>rfl))) d7) d4 L5) q0) b5)))),?_⟩
 exact ⟨_,rfl,_,rfl,a,_,_,_,rfl,rfl,hH,rfl,_,rfl,a,_,_,_,rfl,rfl,hH,rfl,_,_,rfl,rfl,.inl ⟨by lia,by lia⟩,_,_,rfl,rfl,x,_,_,rfl,hp,q⟩
theorem S8:FnScope ["hall","things","last"] ["hall","things"] (d5 (top 12)):=⟨rfl,rfl,rfl,by decide +kernel,rfl,by decide +kernel,by decide +kernel⟩
theorem ay2 (T:Txt K mg) (C_is_whole:Callee P w K mg base 2 "is_whole" ["thing","least","most"] (U2 K)) (D:Def K mg "are_ends" (top 12) ["hall","things"]):Callee P w K mg base 3 "are_ends" ["hall","things"] (am6 K):=by
 refine D.ok S8 (fun vs H Q E h=>?_) (fun f cdv A outer s H vs Q E hr h=>?_)
 ·obtain ⟨a,p,h,xs,rfl,_⟩:=h
  rfl
 obtain ⟨a,p,h,xs,rfl,hH,ok,hS,hx,h64,q⟩:=h
 have o1:=ok.o
 rcases hS with hS | hS
 ·refine ⟨_,(d8 (j8 (i:=2) S8.nd rfl (Or.inr rfl) (m6 Z3 (m6 C6 (i6 (e8 K) (pv 0) d7 (fun _ _=>rfl)) (i6 (e8 K) (pv 0) d7 (fun _ _=>rfl))) d7))
  (e7 (i8 (i7 (aa5 K rfl) rfl T.m_all boot_all (b4 (D0 (own:=["thing"]) (fr:=[(2,"last")]) rfl (show CompScope ["hall","things","last"] (d5 (top 12)) _ _ _ from ⟨rfl,by decide +kernel,by decide +kernel,by decide +kernel,by decide +kernel⟩) (o6 K (pv 1)) (fun cl C s H ex=>⟨(m9 (i:=0) (show (["thing","last"]:List Str).Nodup from by decide +kernel) rfl (Or.inl rfl) (Or.inr rfl)),E6,(m7 C_is_whole hr rfl (b4 (pv 0) (b4 d7 (b4 (pv 1) d4 b5) q0) b5))⟩)) d4 M3))))),?_⟩
  refine ⟨_,rfl,a,_,_,_,rfl,rfl,hH,rfl,_,rfl,a,_,_,_,rfl,rfl,hH,rfl,_,_,rfl,rfl,.inl ⟨by lia,by lia⟩,_,_,rfl,rfl,?_⟩
  refine ⟨_,rfl,p,rfl,⟨_,hS⟩,?_⟩
  refine B2 (xs:=xs) (fun i acc σ H'=>H' = H ∧ acc = ((xs.take i).map fun x=>x8 x 0 (h.o * h.e - 1)).map V.bl ∧ ∃ v,σ = [v,some (.int (h.o * h.e - 1))])
   ⟨rfl,rfl,none,rfl⟩ (Nat.le_of_lt (j9 (by lia))) (fun i acc σ H' g=>?_) (fun i acc σ H' _ g=>by rw [g.1]; exact hS) ?_ ?_
  ·obtain ⟨_,rfl,_⟩:=g
   rw [List.length_map,List.length_map,List.length_take]
   lia
  ·rintro i y acc σ H' hy ⟨rfl,rfl,v,rfl⟩
   refine ⟨_,rfl,_,rfl,y,_,_,rfl,hx y (List.mem_of_getElem? hy),rfl,?_,_,rfl⟩
   rw [List.take_succ,hy,List.map_append,List.map_append]
   rfl
  ·rintro acc σ H' ⟨rfl,rfl,v,rfl⟩ l hl
   rw [List.take_length]
   refine ⟨l,_,rfl,SqL.of d6,?_⟩
   have:=q _ (d9 hl (.lst ((xs.map fun x=>x8 x 0 (h.o * h.e - 1)).map V.bl)))
   rw [List.all_map]
   exact this
 ·refine ⟨_,(d8 (j8 (i:=2) S8.nd rfl (Or.inr rfl) (m6 Z3 (m6 C6 (i6 (e8 K) (pv 0) d7 (fun _ _=>rfl)) (i6 (e8 K) (pv 0) d7 (fun _ _=>rfl))) d7))
  (e7 (i8 (i7 (aa5 K rfl) rfl T.m_all boot_all (b4 (D0 (own:=["thing"]) (fr:=[(2,"last")]) rfl (show CompScope ["hall","things","last"] (d5 (top 12)) _ _ _ from ⟨rfl,by decide +kernel,by decide +kernel,by decide +kernel,by decide +kernel⟩) (ae3 K (pv 1)) (fun cl C s H ex=>⟨(m9 (i:=0) (show (["thing","last"]:List Str).Nodup from by decide +kernel) rfl (Or.inl rfl) (Or.inr rfl)),E6,(m7 C_is_whole hr rfl (b4 (pv 0) (b4 d7 (b4 (pv 1) d4 b5) q0) b5))⟩)) d4 M3))))),?_⟩
  refine ⟨_,rfl,a,_,_,_,rfl,rfl,hH,rfl,_,rfl,a,_,_,_,rfl,rfl,hH,rfl,_,_,rfl,rfl,.inl ⟨by lia,by lia⟩,_,_,rfl,rfl,?_⟩
  refine ⟨_,rfl,p,rfl,⟨_,hS⟩,?_⟩
  refine aB0 (xs:=xs) (fun i acc σ H'=>H' = H ∧ acc = ((xs.take i).map fun x=>x8 x 0 (h.o * h.e - 1)).map V.bl ∧ ∃ v,σ = [v,some (.int (h.o * h.e - 1))])
   ⟨rfl,rfl,none,rfl⟩ (Nat.le_of_lt (j9 (by lia))) (fun i acc σ H' g=>?_) (fun i acc σ H' _ g=>by rw [g.1]; exact hS) ?_ ?_
  ·obtain ⟨_,rfl,_⟩:=g
   rw [List.length_map,List.length_map,List.length_take]
   lia
  ·rintro i y acc σ H' hy ⟨rfl,rfl,v,rfl⟩
   refine ⟨_,rfl,_,rfl,y,_,_,rfl,hx y (List.mem_of_getElem? hy),rfl,?_,_,rfl⟩
   rw [List.take_succ,hy,List.map_append,List.map_append]
   rfl
  ·rintro acc σ H' ⟨rfl,rfl,v,rfl⟩ l hl
   rw [List.take_length]
   refine ⟨l,_,rfl,SqL.of d6,?_⟩
   have:=q _ (d9 hl (.lst ((xs.map fun x=>x8 x 0 (h.o * h.e - 1)).map V.bl)))
   rw [List.all_map]
   exact this
theorem V1:FnScope ["some"] ["some"] (d5 (top 19)):=⟨rfl,rfl,rfl,by decide +kernel,rfl,by decide +kernel,by decide +kernel⟩
theorem aV1 (T:Txt K mg) (D:Def K mg "are_unlike" (top 19) ["some"]):Callee P w K mg base 1 "are_unlike" ["some"] (ay6 K):=by
 refine D.ok V1 (fun vs H Q E h=>?_) (fun f cdv A outer s H vs Q E hr h=>?_)
 ·obtain ⟨p,ns,rfl,_⟩:=h
  rfl
 obtain ⟨p,ns,rfl,hS,h64,q⟩:=h
 have ln:(ns.map V.int).length = ns.length:=List.length_map _
 rcases hS with hS | hS
 ·refine ⟨_,(e7 (i8 (F4 D1 (i7 (W4 P w) rfl T.m_len boot_len (b4 (z9 (U6 K P w rfl) rfl T.m_set boot_set (b4 (pv 0) d4 b5)) d4 x0)) (i7 (u0 K) rfl T.m_len boot_len (b4 (pv 0) d4 b5)) (n9 _)))),?_⟩
  refine ⟨_,rfl,p,ns,rfl,hS,by lia,fun l hl=>?_⟩
  have s1:=d9 hl (aQ4 P w l ns)
  refine ⟨l,ns,rfl,d6,_,rfl,p,_,rfl,.inl (s1.seq hS),rfl,?_⟩
  have:=q _ s1
  rw [ln]
  have e:decide (V.int (((w4 ns).length:Nat):Int) = V.int ((ns.length:Nat):Int)) = decide ((w4 ns).length = ns.length):=by
   rw [Bool.eq_iff_iff,decide_eq_true_iff,decide_eq_true_iff]
   constructor
   ·intro z
    have:=V.int.inj z
    lia
   ·intro z
    rw [z]
  rw [e]
  exact this
 ·refine ⟨_,(e7 (i8 (F4 D1 (i7 (W4 P w) rfl T.m_len boot_len (b4 (z9 (aK4 K P w rfl) rfl T.m_set boot_set (b4 (pv 0) d4 b5)) d4 x0)) (i7 (u0 K) rfl T.m_len boot_len (b4 (pv 0) d4 b5)) (n9 _)))),?_⟩
  refine ⟨_,rfl,p,ns,rfl,hS,by lia,fun l hl=>?_⟩
  have s1:=d9 hl (aQ4 P w l ns)
  refine ⟨l,ns,rfl,d6,_,rfl,p,_,rfl,.inr (i4.seqT s1 hS),rfl,?_⟩
  have:=q _ s1
  rw [ln]
  have e:decide (V.int (((w4 ns).length:Nat):Int) = V.int ((ns.length:Nat):Int)) = decide ((w4 ns).length = ns.length):=by
   rw [Bool.eq_iff_iff,decide_eq_true_iff,decide_eq_true_iff]
   constructor
   ·intro z
    have:=V.int.inj z
    lia
   ·intro z
    rw [z]
  rw [e]
  exact this
theorem aK5:FnScope ["hall","thing"] ["hall","thing"] (d5 (top 23)):=⟨rfl,rfl,rfl,by decide +kernel,rfl,by decide +kernel,by decide +kernel⟩
theorem aG8 (T:Txt K mg) (C_are_ends:Callee P w K mg base 3 "are_ends" ["hall","things"] (am6 K)) (C_are_unlike:Callee P w K mg base 1 "are_unlike" ["some"] (ay6 K)) (D:Def K mg "is_ends" (top 23) ["hall","thing"]):Callee P w K mg base 4 "is_ends" ["hall","thing"] (ay7 K):=by
 refine D.ok aK5 (fun vs H Q E h=>?_) (fun f cdv A outer s H vs Q E hr h=>?_)
 ·obtain ⟨a,h,x,o,rfl,_⟩:=h
  rfl
 obtain ⟨a,h,x,o,rfl,hH,ok,hT,q⟩:=h
 refine ⟨_,(d8 (u3 (PW.pt (N9 (C9 (y3 K (i7 (al8 K) rfl T.m_isinstance boot_isinstance (b4 (pv 1) (b4 (A9 (b4 (B9 (v:=.ty "list") rfl T.m_list boot_list rfl) (b4 (B9 (v:=.ty "tuple") rfl T.m_tuple boot_tuple rfl) d4 b5) b5)) d4 S2) b5)) (fun _=>rfl))) (N5 (m5 D1 (i7 (u0 K) rfl T.m_len boot_len (b4 (pv 1) d4 b5)) d7 (n9 _))))) (e7 (i8 K9)) m8)
  (e7 (i8 (S1 (m7 C_are_ends hr rfl (b4 (pv 0) (b4 (pv 1) d4 b5) b5)) (ab1 (m7 C_are_unlike hr rfl (b4 (pv 1) d4 b5))))))),?_⟩
 refine ⟨_,rfl,(by show 2 ≤ sizeLine; decide),fun tp htp=>?_⟩
 have etp:=d6 (H:=H) (a:=tp) (o:=.tup [.ty "list",.ty "tuple"])
 have s1:=d9 htp (.tup [.ty "list",.ty "tuple"])
 generalize upd H tp (.tup [.ty "list",.ty "tuple"]) = H1 at etp s1 ⊢
 have hT1:=hT.same s1
 cases hT1 with
 | no ty h1 h2 =>
  refine ⟨_,tp,_,_,_,_,_,rfl,etp,ty,h1,h2,_,rfl,N7 ?_⟩
  exact q _ s1
 | @lst p xs e hx h64 =>
  refine ⟨_,tp,_,_,_,_,_,rfl,etp,.lst e,M5,ac1,_,rfl,C1 ?_⟩
  refine ⟨_,rfl,p,xs,rfl,.inl (SqL.of e),rfl,_,rfl,?_⟩
  refine C3 (fun c=>?_) (fun c=>?_)
  ·have c':xs = []:=by
    have:((xs.length:Nat):Int) = 0:=by simpa using c
    exact List.length_eq_zero_iff.mp (by lia)
   have:=q _ s1
   rw [c'] at this
   exact this
  ·have c':xs ≠ []:=fun z=>c (by rw [z]; rfl)
   have ne:(!xs.isEmpty) = true:=by cases xs with
    | nil=>exact absurd rfl c'
    | cons _ _=>rfl
   refine ⟨_,rfl,_,rfl,a,p,h,xs,rfl,i4.seqT s1 hH,ok,.inl (SqL.of e),hx,h64,fun H2 s2=>⟨_,rfl,?_⟩⟩
   refine C3 (fun d=>?_) (fun d=>?_)
   ·obtain ⟨ns,rfl⟩:=aL6 d
    have e2:=s2 _ _ e
    refine ⟨_,rfl,p,ns,rfl,.inl (SqL.of e2),by rw [List.length_map] at h64; exact h64,fun H3 s3=>?_⟩
    have:=q _ ((s1.trans s2).trans s3)
    rw [show ac9 h (some (ns.map V.int)) = decide ((w4 ns).length = ns.length) by
     show (!(ns.map V.int).isEmpty && ((ns.map V.int).all (fun x=>x8 x 0 (h.o * h.e - 1)) && L1 (ns.map V.int))) = _
     rw [ne,d,Bool.true_and,Bool.true_and]
     unfold L1
     rw [Z6,List.length_map]] at this
    exact this
   ·have:=q _ (s1.trans s2)
    rw [show ac9 h (some xs) = false by
     show (!xs.isEmpty && (xs.all (fun x=>x8 x 0 (h.o * h.e - 1)) && L1 xs)) = _
     rw [Bool.eq_false_iff.mpr d,Bool.false_and,Bool.and_false]] at this
    exact this
 | @tup p xs e hx h64 =>
  refine ⟨_,tp,_,_,_,_,_,rfl,etp,.tup e,aE2,K6,_,rfl,C1 ?_⟩
  refine ⟨_,rfl,p,xs,rfl,.inr (SqT.of e),rfl,_,rfl,?_⟩
  refine C3 (fun c=>?_) (fun c=>?_)
  ·have c':xs = []:=by
    have:((xs.length:Nat):Int) = 0:=by simpa using c
    exact List.length_eq_zero_iff.mp (by lia)
   have:=q _ s1
   rw [c'] at this
   exact this
  ·have c':xs ≠ []:=fun z=>c (by rw [z]; rfl)
   have ne:(!xs.isEmpty) = true:=by cases xs with
    | nil=>exact absurd rfl c'
    | cons _ _=>rfl
   refine ⟨_,rfl,_,rfl,a,p,h,xs,rfl,i4.seqT s1 hH,ok,.inr (SqT.of e),hx,h64,fun H2 s2=>⟨_,rfl,?_⟩⟩
   refine C3 (fun d=>?_) (fun d=>?_)
   ·obtain ⟨ns,rfl⟩:=aL6 d
    have e2:=s2 _ _ e
    refine ⟨_,rfl,p,ns,rfl,.inr (SqT.of e2),by rw [List.length_map] at h64; exact h64,fun H3 s3=>?_⟩
    have:=q _ ((s1.trans s2).trans s3)
    rw [show ac9 h (some (ns.map V.int)) = decide ((w4 ns).length = ns.length) by
     show (!(ns.map V.int).isEmpty && ((ns.map V.int).all (fun x=>x8 x 0 (h.o * h.e - 1)) && L1 (ns.map V.int))) = _
     rw [ne,d,Bool.true_and,Bool.true_and]
     unfold L1
     rw [Z6,List.length_map]] at this
    exact this
   ·have:=q _ (s1.trans s2)
    rw [show ac9 h (some xs) = false by
     show (!xs.isEmpty && (xs.all (fun x=>x8 x 0 (h.o * h.e - 1)) && L1 xs)) = _
     rw [Bool.eq_false_iff.mpr d,Bool.false_and,Bool.and_false]] at this
    exact this
end
def aM1 (as:List Addr) (ks:List Call) (c:Int) (v:V):Prop:=(v = .non ∧ ∀ k ∈ ks,k.c ≠ c) ∨ ∃ (j:Nat) (a:Addr) (k:Call),as[j]? = some a ∧ ks[j]? = some k ∧ k.c = c ∧ v = .ref a
def Z1 (K:PySem.W.Frag):Sp:=fun vs H Q _=>∃ (l:Addr) (x:V) (as:List Addr) (ks:List Call),vs = [.ref l,x] ∧ SqL K H l (as.map V.ref) ∧ h9 H as ks ∧ PartIs K H x ∧
 ((isInt x = false ∧ Q .non H) ∨ ∃ c,x = .int c ∧ ∀ v,aM1 as ks c v → Q v H)
section
variable {P:Program} {w:World} {K:PySem.W.Frag} {mg:Str → Option Value} {base:Heap}
theorem ag6:FnScope ["calls","caller","call"] ["calls","caller"] (d5 (top 29)):=⟨rfl,rfl,rfl,by decide +kernel,rfl,by decide +kernel,by decide +kernel⟩
theorem aK7 (T:Txt K mg) (C_is_number:Callee P w K mg base 1 "is_number" ["thing"] (ae2 K)) (D:Def K mg "call_of" (top 29) ["calls","caller"]):Callee P w K mg base 2 "call_of" ["calls","caller"] (Z1 K):=by
 refine D.ok ag6 (fun vs H Q E h=>?_) (fun f cdv A outer s H vs Q E hr h=>?_)
 ·obtain ⟨l,x,as,ks,rfl,_⟩:=h
  rfl
 obtain ⟨l,x,as,ks,rfl,hL,hC,hp,q⟩:=h
 refine ⟨_,(d8 (u3 (C9 (y3 K (m7 C_is_number hr rfl (b4 (pv 1) d4 b5)) (fun _=>rfl))) (e7 (i8 y7)) m8)
  (d8 (y8 PassesOwn.never rfl (o6 K (pv 0)) (m9 (i:=2) ag6.nd rfl (Or.inl rfl))
  (e7 (u3 (m5 D1 (i6 (e8 K) (pv 2) d7 (fun _ _=>rfl)) (pv 1) (n9 _)) (e7 (i8 (pv 2))) m8)))
  (e7 (i8 y7)))),?_⟩
 refine ⟨_,rfl,x,rfl,hp,_,rfl,?_⟩
 rcases q with ⟨hx,q⟩ | ⟨c,rfl,q⟩
 ·rw [hx]
  exact N7 q
 refine C1 ?_
 have la:=Paired.length hC
 refine ⟨_,rfl,l,rfl,⟨_,hL⟩,?_⟩
 refine w6 (xs:=as.map V.ref) (fun i σ H'=>H' = H ∧ (∀ (j:Nat) k,j < i → ks[j]? = some k → k.c ≠ c) ∧ ∃ v,σ = [some (.ref l),some (.int c),v])
  ⟨rfl,(fun j k hj=>absurd hj (Nat.not_lt_zero _)),none,rfl⟩ (fun i σ H' _ g=>g.1 ▸ hL) ?_ ?_
 ·rintro i x σ H' hx ⟨rfl,hno,v,rfl⟩
  rw [List.getElem?_map] at hx
  obtain ⟨a,ha,rfl⟩:=Option.map_eq_some_iff.mp hx
  obtain ⟨k,hk,ce,e1,e2⟩:=j7 hC i a ha
  refine ⟨_,rfl,a,_,_,_,rfl,rfl,SqT.of e2,rfl,_,rfl,rfl,_,rfl,?_⟩
  refine C3 (fun cc=>?_) (fun cc=>?_)
  ·have cc':k.c = c:=by simpa using cc
   exact ⟨_,rfl,q _ (.inr ⟨i,a,k,ha,hk,cc',rfl⟩)⟩
  ·have cc':k.c ≠ c:=by simpa using cc
   refine ⟨rfl,fun j k' hj hk'=>?_,_,rfl⟩
   by_cases z:j = i
   ·subst z
    rw [hk] at hk'
    cases hk'
    exact cc'
   ·exact hno j k' (by lia) hk'
 ·rintro σ H' ⟨rfl,hno,v,rfl⟩
  refine q _ (.inl ⟨rfl,fun k hk=>?_⟩)
  obtain ⟨j,hj⟩:=List.mem_iff_getElem?.mp hk
  have:=(List.getElem?_eq_some_iff.mp hj).1
  exact hno j k (by rw [List.length_map]; lia) hj
end
def bk4 (ks:List Call) (e:Int) (v:V):Prop:=(v = .non ∧ ∀ k ∈ ks,¬ e ∈ k.es) ∨ ∃ k ∈ ks,e ∈ k.es ∧ v = .int k.c
def ah6 (K:PySem.W.Frag):Sp:=fun vs H Q _=>∃ (l:Addr) (e:Int) (as:List Addr) (ks:List Call),vs = [.ref l,.int e] ∧ SqL K H l (as.map V.ref) ∧ h9 H as ks ∧ ∀ v,bk4 ks e v → Q v H
section
variable {P:Program} {w:World} {K:PySem.W.Frag} {mg:Str → Option Value} {base:Heap}
theorem X4:FnScope ["calls","end","call"] ["calls","end"] (d5 (top 30)):=⟨rfl,rfl,rfl,by decide +kernel,rfl,by decide +kernel,by decide +kernel⟩
theorem at9 (T:Txt K mg) (C_is_number:Callee P w K mg base 1 "is_number" ["thing"] (ae2 K)) (D:Def K mg "holder_of" (top 30) ["calls","end"]):Callee P w K mg base 2 "holder_of" ["calls","end"] (ah6 K):=by
 refine D.ok X4 (fun vs H Q E h=>?_) (fun f cdv A outer s H vs Q E hr h=>?_)
 ·obtain ⟨l,x,as,ks,rfl,_⟩:=h
  rfl
 obtain ⟨l,e,as,ks,rfl,hL,hC,q⟩:=h
 refine ⟨_,(d8 (u3 (C9 (y3 K (m7 C_is_number hr rfl (b4 (pv 1) d4 b5)) (fun _=>rfl))) (e7 (i8 y7)) m8)
  (d8 (y8 PassesOwn.never rfl (o6 K (pv 0)) (m9 (i:=2) X4.nd rfl (Or.inl rfl))
  (e7 (u3 (m5 (a06 K) (pv 1) (i6 (e8 K) (pv 2) d7 (fun _ _=>rfl)) (by with_unfolding_all rfl)) (e7 (i8 (i6 (e8 K) (pv 2) d7 (fun _ _=>rfl)))) m8)))
  (e7 (i8 y7)))),?_⟩
 refine ⟨_,rfl,.int e,rfl,.int e,_,rfl,C1 ?_⟩
 have la:=Paired.length hC
 refine ⟨_,rfl,l,rfl,⟨_,hL⟩,?_⟩
 refine w6 (xs:=as.map V.ref) (fun i σ H'=>H' = H ∧ (∀ (j:Nat) k,j < i → ks[j]? = some k → ¬ e ∈ k.es) ∧ ∃ v,σ = [some (.ref l),some (.int e),v])
  ⟨rfl,(fun j k hj=>absurd hj (Nat.not_lt_zero _)),none,rfl⟩ (fun i σ H' _ g=>g.1 ▸ hL) ?_ ?_
 ·rintro i x σ H' hx ⟨rfl,hno,v,rfl⟩
  rw [List.getElem?_map] at hx
  obtain ⟨a,ha,rfl⟩:=Option.map_eq_some_iff.mp hx
  obtain ⟨k,hk,ce,e1,e2⟩:=j7 hC i a ha
  refine ⟨_,rfl,_,rfl,a,_,_,_,rfl,rfl,SqT.of e2,rfl,ce,_,rfl,.inr (SqT.of e1),rfl,Q8 k.es,_,rfl,?_⟩
  rw [ak4]
  refine C3 (fun cc=>?_) (fun cc=>?_)
  ·have cc':e ∈ k.es:=by simpa using cc
   exact ⟨_,rfl,a,_,_,_,rfl,rfl,SqT.of e2,rfl,q _ (.inr ⟨k,List.mem_of_getElem? hk,cc',rfl⟩)⟩
  ·have cc':¬ e ∈ k.es:=by simpa using cc
   refine ⟨rfl,fun j k' hj hk'=>?_,_,rfl⟩
   by_cases z:j = i
   ·subst z
    rw [hk] at hk'
    cases hk'
    exact cc'
   ·exact hno j k' (by lia) hk'
 ·rintro σ H' ⟨rfl,hno,v,rfl⟩
  refine q _ (.inl ⟨rfl,fun k hk=>?_⟩)
  obtain ⟨j,hj⟩:=List.mem_iff_getElem?.mp hk
  have:=(List.getElem?_eq_some_iff.mp hj).1
  exact hno j k (by rw [List.length_map]; lia) hj
end
def M4 (h:Hall) (s:Int) (gs:List Int) (k:Call):Bool:=decide (k.c / h.c = s) || (g9 h k.es).any fun r=>decide (r ∈ gs)
def aa7 (h:Hall) (ks:List Call) (s:Int) (gs:List Int) (r:Nat):List Int:=(ks.filter fun k=>decide (k.k = (r:Int)) && M4 h s gs k).map Call.c
def N1 (h:Hall) (ks:List Call) (s:Int) (gs:List Int):List (List Int):=(List.range h.m.toNat).map (aa7 h ks s gs)
def aX9 (h:Hall) (ks:List Call) (c:Int) (es:List Int):List (List Int):=N1 h ks (c / h.c) (g9 h es)
theorem aq1 (h:Hall) (ks:List Call) (s:Int) (gs:List Int) (r:Nat) (k:Call):aa7 h (ks ++ [k]) s gs r = aa7 h ks s gs r ++ (if (decide (k.k = (r:Int)) && M4 h s gs k) = true then [k.c] else []):=by
 unfold aa7
 rw [List.filter_append,List.map_append]
 have e:List.filter (fun k=>decide (k.k = (r:Int)) && M4 h s gs k) [k] = if (decide (k.k = (r:Int)) && M4 h s gs k) = true then [k] else []:=by
  rw [List.filter_cons]
  rfl
 rw [e]
 by_cases c:(decide (k.k = (r:Int)) && M4 h s gs k) = true
 ·rw [if_pos c,if_pos c]
  rfl
 ·rw [if_neg c,if_neg c]
  rfl
theorem a88 (h:Hall) (ks:List Call) (s:Int) (gs:List Int) (r:Nat):(aa7 h ks s gs r).length ≤ ks.length:=by
 unfold aa7
 rw [List.length_map]
 exact List.length_filter_le _ _
theorem az6 (h:Hall) (ks:List Call) (s:Int) (gs:List Int):(N1 h ks s gs).length = h.m.toNat:=by
 unfold N1
 rw [List.length_map,List.length_range]
def E3 (H:Hp) (rs:List Addr) (rows:List (List Int)):Prop:=Paired (fun a row=>H a = some (.lst (row.map V.int))) rs rows
theorem E3.other {H:Hp} {a:Addr} {o:HO}:∀ {rs:List Addr} {rows:List (List Int)},E3 H rs rows → ¬ a ∈ rs → E3 (upd H a o) rs rows
 | _,_,.nil,_=>.nil
 | _,_,.cons (a:=b) h t,hn=>.cons (by
   have:b ≠ a:=fun z=>hn (by rw [z]; exact List.mem_cons_self ..)
   show upd H a o b = _
   rw [n5 this]; exact h) (E3.other t fun z=>hn (List.mem_cons_of_mem _ z))
theorem E3.set {H:Hp} {a:Addr} {row:List Int}:∀ {rs:List Addr} {rows:List (List Int)} {j:Nat},E3 H rs rows → rs.Nodup → rs[j]? = some a → E3 (upd H a (.lst (row.map V.int))) rs (rows.set j row)
 | _,_,_,.nil,_,h=>by cases h
 | _,_,0,.cons (a:=b) h t,nd,hj=>by
  cases hj
  exact .cons d6 (E3.other t (List.nodup_cons.mp nd).1)
 | _,_,j + 1,.cons (a:=b) h t,nd,hj=>by
  have hj':_:=hj
  rw [List.getElem?_cons_succ] at hj'
  have hm:=List.mem_of_getElem? hj'
  have hb:b ≠ a:=fun z=>(List.nodup_cons.mp nd).1 (by rw [z]; exact hm)
  exact .cons (by
   show upd H a _ b = _
   rw [n5 hb]; exact h) (E3.set t (List.nodup_cons.mp nd).2 hj')
theorem E3.same {H H':Hp} {rs:List Addr} {rows:List (List Int)} (s:i4 H H') (h:E3 H rs rows):E3 H' rs rows:=by
 unfold E3 at h ⊢
 exact w5 h fun a d _ e=>s _ _ e
theorem aH3 {n j:Nat} (f:Nat → List Int) (x:List Int):((List.range n).map f).set j x = (List.range n).map fun r=>if r = j then x else f r:=by
 refine List.ext_getElem? fun i=>?_
 rw [List.getElem?_set,List.getElem?_map,List.getElem?_map]
 by_cases hi:i < n
 ·rw [List.getElem?_range hi]
  simp only [List.length_map,List.length_range,Option.map_some]
  by_cases c:j = i
  ·subst c; simp [hi]
  ·simp [c,Ne.symm c]
 ·rw [List.getElem?_eq_none (by simpa using hi)]
  simp only [List.length_map,List.length_range,Option.map_none]
  by_cases c:j = i
  ·subst c; simp [hi]
  ·simp [c]
def aD5 (K:PySem.W.Frag):Sp:=fun vs H Q _=>∃ (a p g:Addr) (h:Hall) (k:Call) (st:Int) (gs:List Int),vs = [.ref a,.ref p,.int st,.ref g] ∧ SqT K H a (h.row.map V.int) ∧ h.Ok ∧ y9 H p k ∧ k.In h ∧ SqL K H g (gs.map V.int) ∧ ∀ H',i4 H H' → Q (.bl (M4 h st gs k)) H'
def aq7 (K:PySem.W.Frag):Sp:=fun vs H Q _=>∃ (a l e:Addr) (h:Hall) (as:List Addr) (ks:List Call) (c:Int) (es:List Int),vs = [.ref a,.ref l,.int c,.ref e] ∧ SqT K H a (h.row.map V.int) ∧ h.Ok ∧ SqL K H l (as.map V.ref) ∧ h9 H as ks ∧ (∀ k ∈ ks,k.In h) ∧ ks.length ≤ 63 ∧ (SqT K H e (es.map V.int) ∨ SqL K H e (es.map V.int)) ∧ es.length < 64 ∧
 ∀ (f:Addr) (rs:List Addr) (H':Hp),i4 H H' → H f = none → (∀ r ∈ rs,H r = none) → rs.Nodup → ¬ f ∈ rs → H' f = some (.lst (rs.map V.ref)) → E3 H' rs (aX9 h ks c es) → Q (.ref f) H'
section
variable {P:Program} {w:World} {K:PySem.W.Frag} {mg:Str → Option Value} {base:Heap}
theorem ad6:FnScope ["hall","call","start","goals"] ["hall","call","start","goals"] (d5 (top 24)):=⟨rfl,rfl,rfl,by decide +kernel,rfl,by decide +kernel,by decide +kernel⟩
theorem aR0 (T:Txt K mg) (C_place_in:Callee P w K mg base 1 "place_in" ["hall","caller"] (L4 K Hall.c)) (C_racks_of:Callee P w K mg base 2 "racks_of" ["hall","ends"] (M9 K)) (D:Def K mg "holds_needed" (top 24) ["hall","call","start","goals"]):Callee P w K mg base 3 "holds_needed" ["hall","call","start","goals"] (aD5 K):=by
 refine D.ok ad6 (fun vs H Q E h=>?_) (fun f cdv A outer s H vs Q E hr h=>?_)
 ·obtain ⟨a,p,g,h,k,st,gs,rfl,_⟩:=h
  rfl
 obtain ⟨a,p,g,h,k,st,gs,rfl,hH,ok,⟨e,ee,ep⟩,hk,hG,q⟩:=h
 have few:=hk.few
 refine ⟨_,(d8 (u3 (m5 D1 (i6 (e8 K) (m7 C_place_in hr rfl (b4 (pv 0) (b4 (i6 (e8 K) (pv 1) d7 (fun _ _=>rfl)) d4 n6) b5)) d7 (fun _ _=>rfl)) (pv 2) (n9 _)) (e7 (i8 K9)) m8)
  (e7 (i8 (i7 (aR4 K rfl) rfl T.m_any boot_any (b4 (D0 (own:=["rack"]) (fr:=[(3,"goals")]) rfl (show CompScope ["hall","call","start","goals"] (d5 (top 24)) _ _ _ from ⟨rfl,by decide +kernel,by decide +kernel,by decide +kernel,by decide +kernel⟩) (o6 K (m7 C_racks_of hr rfl (b4 (pv 0) (b4 (i6 (e8 K) (pv 1) d7 (fun _ _=>rfl)) d4 n6) b5))) (fun cl C s H ex=>⟨(m9 (i:=0) (show (["rack","goals"]:List Str).Nodup from by decide +kernel) rfl (Or.inl rfl) (Or.inr rfl)),E6,(F4 (a06 K) (pv 0) (pv 1) (by with_unfolding_all rfl))⟩)) d4 M3))))),?_⟩
 refine ⟨_,rfl,_,rfl,p,_,_,_,rfl,rfl,SqT.of ep,rfl,a,h,k.c,rfl,hH,ok,fun r hr1=>?_⟩
 have er:=d6 (H:=H) (a:=r) (o:=.tup [.int (k.c / h.c),.int (k.c % h.c)])
 have s1:=d9 hr1 (.tup [.int (k.c / h.c),.int (k.c % h.c)])
 generalize upd H r (.tup [.int (k.c / h.c),.int (k.c % h.c)]) = H1 at er s1 ⊢
 refine ⟨r,_,_,_,rfl,rfl,SqT.of er,rfl,_,rfl,rfl,_,rfl,?_⟩
 refine C3 (fun c=>?_) (fun c=>?_)
 ·have c':k.c / h.c = st:=by simpa using c
  have:=q H1 s1
  rw [show M4 h st gs k = true by unfold M4; rw [decide_eq_true c']; rfl] at this
  exact this
 ·have c':¬ k.c / h.c = st:=by simpa using c
  refine ⟨_,rfl,_,rfl,p,_,_,_,rfl,rfl,SqT.of (s1 _ _ ep),rfl,a,e,h,k.es,rfl,i4.seqT s1 hH,ok,.inl (SqT.of (s1 _ _ ee)),by lia,fun l H2 s2 _ el=>?_⟩
  have s12:=s1.trans s2
  have rl:=J8 h k.es
  refine ⟨l,rfl,⟨_,SqL.of el⟩,?_⟩
  refine B2 (xs:=(g9 h k.es).map V.int) (fun i acc σ H'=>H' = H2 ∧ acc = (((g9 h k.es).take i).map fun r=>decide (r ∈ gs)).map V.bl ∧ ∃ v,σ = [v,some (.ref g)])
   ⟨rfl,rfl,none,rfl⟩ (Nat.le_of_lt (j9 (by rw [List.length_map]; lia))) (fun i acc σ H' gg=>?_) (fun i acc σ H' _ gg=>by rw [gg.1]; exact SqL.of el) ?_ ?_
  ·obtain ⟨_,rfl,_⟩:=gg
   rw [List.length_map,List.length_map,List.length_take]
   lia
  ·rintro i y acc σ H' hy ⟨rfl,rfl,v,rfl⟩
   rw [List.getElem?_map] at hy
   obtain ⟨x,hx,rfl⟩:=Option.map_eq_some_iff.mp hy
   refine ⟨_,rfl,_,rfl,g,_,rfl,.inl (s12.seq hG),rfl,Q8 gs,rfl,?_,_,rfl⟩
   rw [List.take_succ,hx,List.map_append,List.map_append]
   show _ = _ ++ [V.bl _]
   rw [ak4]
   rfl
  ·rintro acc σ H' ⟨rfl,rfl,v,rfl⟩ l2 hl2
   rw [List.length_map,List.take_length]
   refine ⟨l2,_,rfl,SqL.of d6,?_⟩
   have:=q _ (s12.trans (d9 hl2 (.lst (((g9 h k.es).map fun r=>decide (r ∈ gs)).map V.bl))))
   rw [show M4 h st gs k = ((g9 h k.es).map fun r=>decide (r ∈ gs)).any id by
    unfold M4
    rw [decide_eq_false c',Bool.false_or,List.any_map]
    rfl] at this
   exact this
theorem M0:FnScope ["hall","calls","caller","ends","start","goals","found","call"] ["hall","calls","caller","ends"] (d5 (top 25)):=⟨rfl,rfl,rfl,by decide +kernel,rfl,by decide +kernel,by decide +kernel⟩
theorem aJ3 (T:Txt K mg) (C_place_in:Callee P w K mg base 1 "place_in" ["hall","caller"] (L4 K Hall.c)) (C_racks_of:Callee P w K mg base 2 "racks_of" ["hall","ends"] (M9 K)) (C_holds_needed:Callee P w K mg base 3 "holds_needed" ["hall","call","start","goals"] (aD5 K)) (D:Def K mg "holders" (top 25) ["hall","calls","caller","ends"]):Callee P w K mg base 4 "holders" ["hall","calls","caller","ends"] (aq7 K):=by
 refine D.ok M0 (fun vs H Q E h=>?_) (fun f cdv A outer s H vs Q E hr h=>?_)
 ·obtain ⟨a,l,e,h,as,ks,c,es,rfl,_⟩:=h
  rfl
 obtain ⟨a,l,e,h,as,ks,c,es,rfl,hH,ok,hL,hC,hin,h63,hE,h64,q⟩:=h
 have b3:=ok.m
 have la:=Paired.length hC
 refine ⟨_,(d8 (j8 (i:=4) M0.nd rfl (Or.inl rfl) (i6 (e8 K) (m7 C_place_in hr rfl (b4 (pv 0) (b4 (pv 2) d4 b5) b5)) d7 (fun _ _=>rfl)))
  (d8 (j8 (i:=5) M0.nd rfl (Or.inl rfl) (m7 C_racks_of hr rfl (b4 (pv 0) (b4 (pv 3) d4 b5) b5)))
  (d8 (Y6 (i:=6) (own:=["k"]) (fr:=[]) rfl M0.nd rfl rfl (show CompScope ["hall","calls","caller","ends","start","goals","found","call"] (d5 (top 25)) _ _ _ from ⟨rfl,by decide +kernel,by decide +kernel,by decide +kernel,by decide +kernel⟩) (J7 rfl T.m_range (b4 (i6 (e8 K) (pv 0) d7 (fun _ _=>rfl)) d4 n6)) (fun cl C s H ex=>⟨(m9 (i:=0) (show (["k"]:List Str).Nodup from by decide +kernel) rfl (Or.inl rfl) (Or.inr rfl)),E6,(B0 d4)⟩) rfl)
  (d8 (y8 PassesOwn.never rfl (o6 K (pv 1)) (m9 (i:=7) M0.nd rfl (Or.inl rfl))
  (e7 (u3 (y3 K (m7 C_holds_needed hr rfl (b4 (pv 0) (b4 (pv 7) (b4 (pv 4) (b4 (pv 5) d4 b5) b5) b5) b5)) (fun _=>rfl)) (e7 (D6 (Q1 K PySem.F.plainAttrs_list PySem.F.slot_list_append PySem.F.type_list_append J6 (i6 (C4 K) (pv 6) (i6 (e8 K) (pv 7) d7 (fun _ _=>rfl)) (fun _ _=>rfl)) (b4 (i6 (e8 K) (pv 7) d7 (fun _ _=>rfl)) d4 n6)))) m8)))
  (e7 (i8 (pv 6))))))),?_⟩
 refine ⟨_,rfl,_,rfl,a,h,c,rfl,hH,ok,fun r hr1=>?_⟩
 have er:=d6 (H:=H) (a:=r) (o:=.tup [.int (c / h.c),.int (c % h.c)])
 have s1:=d9 hr1 (.tup [.int (c / h.c),.int (c % h.c)])
 generalize upd H r (.tup [.int (c / h.c),.int (c % h.c)]) = H1 at er s1 ⊢
 refine ⟨r,_,_,_,rfl,rfl,SqT.of er,rfl,?_⟩
 refine ⟨_,rfl,_,rfl,a,e,h,es,rfl,i4.seqT s1 hH,ok,hE.imp (fun z=>i4.seqT s1 z) (fun z=>s1.seq z),h64,fun g H2 s2 _ eg=>?_⟩
 have s12:=s1.trans s2
 refine ⟨_,rfl,a,_,_,_,rfl,rfl,i4.seqT s12 hH,rfl,_,rfl,by show -(2 ^ 62) ≤ h.m; lia,by show h.m < 2 ^ 62; lia,?_⟩
 refine O5 (fun i acc σ H'=>i4 H2 H' ∧ (∃ rs:List Addr,acc = rs.map V.ref ∧ rs.length = i ∧ rs.Nodup ∧ (∀ r ∈ rs,H2 r = none) ∧ E3 H' rs (List.replicate i [])) ∧ ∃ v,σ = [v])
  ⟨i4.refl _,⟨[],rfl,rfl,List.nodup_nil,(fun r hr=>nomatch hr),.nil⟩,none,rfl⟩ (by show h.m.toNat ≤ 16777216; lia) (fun i acc σ H' gg=>?_) ?_ ?_
 ·obtain ⟨_,⟨rs,rfl,hl,_⟩,_⟩:=gg
  rw [List.length_map,hl]
  exact Nat.le_refl _
 ·rintro i acc σ H' hi ⟨g1,⟨rs,rfl,hl,nd,hn,hr⟩,v,rfl⟩
  refine ⟨(by show 0 ≤ sizeLine; decide),fun u hu=>⟨g1.trans (d9 hu _),⟨rs ++ [u],by rw [List.map_append]; rfl,by rw [List.length_append,hl]; rfl,?_,?_,?_⟩,_,rfl⟩⟩
  ·refine List.nodup_append.mpr ⟨nd,by simp,fun x hx y hy=>?_⟩
   rw [List.mem_singleton] at hy
   rintro rfl
   have:H' x ≠ none:=by
    obtain ⟨j,hj⟩:=List.mem_iff_getElem?.mp hx
    obtain ⟨row,_,e2⟩:=j7 hr j x hj
    exact fun z=>by rw [e2] at z; cases z
   exact this (by rw [hy]; exact hu)
  ·intro x hx
   rcases List.mem_append.mp hx with z | z
   ·exact hn x z
   ·rw [List.mem_singleton] at z
    rw [z]; exact g1.free hu
  ·rw [List.replicate_succ']
   exact Paired.snoc (E3.same (d9 hu _) hr) d6
 ·rintro acc σ H3 ⟨s3,⟨rs,rfl,hl,nd,hn,hr⟩,v,rfl⟩ F hF
  have eF:=d6 (H:=H3) (a:=F) (o:=.lst (rs.map V.ref))
  have s4:=s3.trans (d9 hF (.lst (rs.map V.ref)))
  have hr4:=E3.same (d9 hF (.lst (rs.map V.ref))) hr
  have hFn:¬ F ∈ rs:=fun z=>by
   obtain ⟨j,hj⟩:=List.mem_iff_getElem?.mp z
   obtain ⟨row,_,e2⟩:=j7 hr j F hj
   rw [hF] at e2
   cases e2
  generalize upd H3 F (.lst (rs.map V.ref)) = H4 at eF s4 hr4 ⊢
  have hF2:H2 F = none:=s3.free hF
  have e0:List.replicate h.m.toNat [] = N1 h (ks.take 0) (c / h.c) (g9 h es):=by
   unfold N1 aa7
   rw [List.take_zero]
   refine List.ext_getElem? fun i=>?_
   rw [List.getElem?_map,List.getElem?_replicate]
   by_cases hi:i < h.m.toNat
   ·rw [if_pos hi,List.getElem?_range hi]
    rfl
   ·rw [if_neg hi,List.getElem?_eq_none (by simpa using hi)]
    rfl
  rw [e0] at hr4
  refine ⟨_,rfl,l,rfl,⟨_,(s12.trans s4).seq hL⟩,?_⟩
  refine w6 (xs:=as.map V.ref) (fun i σ H'=>i4 H2 H' ∧ H' F = some (.lst (rs.map V.ref)) ∧ E3 H' rs (N1 h (ks.take i) (c / h.c) (g9 h es)) ∧ ∃ v7,σ = [some (.ref a),some (.ref l),some (.int c),some (.ref e),some (.int (c / h.c)),some (.ref g),some (.ref F),v7])
   ⟨s4,eF,hr4,none,rfl⟩ (fun i σ H' _ gg=>(s12.trans gg.1).seq hL) ?_ ?_
  ·rintro i x σ H' hx ⟨s5,eF5,hr5,v7,rfl⟩
   rw [List.getElem?_map] at hx
   obtain ⟨p,hp,rfl⟩:=Option.map_eq_some_iff.mp hx
   obtain ⟨k,hk1,hk2⟩:=j7 hC i p hp
   have hkI:=hin k (List.mem_of_getElem? hk1)
   have hkk:=hkI.k
   have tk:ks.take (i + 1) = ks.take i ++ [k]:=by rw [List.take_succ,hk1]; rfl
   have s25:=s12.trans s5
   have hk5:y9 H' p k:=y9.same (fun b xs z=>s25 _ _ z) hk2
   refine ⟨_,rfl,_,rfl,_,rfl,_,rfl,a,p,g,h,k,c / h.c,g9 h es,rfl,i4.seqT s25 hH,ok,hk5,hkI,SqL.of (s5 _ _ eg),fun H6 s6=>?_⟩
   refine ⟨_,rfl,?_⟩
   have hr6:=E3.same s6 hr5
   have eF6:=s6 _ _ eF5
   refine C3 (fun cc=>?_) (fun cc=>?_)
   ·obtain ⟨ce,e1,e2⟩:=y9.same (fun b xs z=>s6 _ _ z) hk5
    obtain ⟨n,hnk⟩:∃ n:Nat,k.k = (n:Int):=⟨k.k.toNat,by lia⟩
    have hn1:n < h.m.toNat:=by lia
    have lr:=Paired.length hr6
    rw [az6] at lr
    have ea:rs[n]? = some (rs[n]'(by lia)):=List.getElem?_eq_getElem _
    generalize rs[n]'(by lia) = ra at ea
    obtain ⟨row,w1,w2⟩:=j7 hr6 n ra ea
    have w1':row = aa7 h (ks.take i) (c / h.c) (g9 h es) n:=by
     unfold N1 at w1
     rw [List.getElem?_map,List.getElem?_range hn1] at w1
     exact (Option.some.inj w1).symm
    have hat:atI (rs.map V.ref) k.k = some (.ref ra):=by rw [hnk]; exact E7 (by rw [List.getElem?_map,ea]; rfl)
    have rlen:row.length ≤ 63:=by
     rw [w1']
     have h1:=a88 h (ks.take i) (c / h.c) (g9 h es) n
     have h2:(ks.take i).length ≤ ks.length:=by rw [List.length_take]; lia
     lia
    refine ⟨_,rfl,_,rfl,p,_,_,_,rfl,rfl,SqT.of e2,rfl,F,_,_,_,rfl,rfl,SqL.of eF6,hat,.inl ⟨rfl,_,SqL.of w2⟩,_,rfl,p,_,_,_,rfl,rfl,SqT.of e2,rfl,ra,row.map V.int,_,rfl,rfl,w2,j9 (by rw [List.length_map]; lia),?_⟩
    have hra:=List.mem_of_getElem? ea
    have hFra:F ≠ ra:=fun z=>hFn (by rw [z]; exact hra)
    refine ⟨i4.put (s5.trans s6) (hn ra hra),by rw [n5 hFra]; exact eF6,?_,_,rfl⟩
    have em:(N1 h (ks.take i) (c / h.c) (g9 h es)).set n (row ++ [k.c]) = N1 h (ks.take (i + 1)) (c / h.c) (g9 h es):=by
     unfold N1
     rw [aH3]
     refine List.map_congr_left fun r hr=>?_
     rw [tk,aq1]
     by_cases z:r = n
     ·subst z
      rw [if_pos rfl,if_pos (by rw [decide_eq_true hnk,cc]; rfl),w1']
     ·rw [if_neg z,if_neg (by rw [decide_eq_false (fun y=>z (by lia))]; exact Bool.false_ne_true),List.append_nil]
    rw [← em,show row.map V.int ++ [V.int k.c] = (row ++ [k.c]).map V.int by rw [List.map_append]; rfl]
    exact E3.set hr6 nd ea
   ·refine ⟨s5.trans s6,eF6,?_,_,rfl⟩
    have em:N1 h (ks.take (i + 1)) (c / h.c) (g9 h es) = N1 h (ks.take i) (c / h.c) (g9 h es):=by
     unfold N1
     refine List.map_congr_left fun r hr=>?_
     rw [tk,aq1,if_neg (fun z=>cc (Bool.and_eq_true_iff.mp z).2),List.append_nil]
    rw [em]
    exact hr6
  ·rintro σ H' ⟨s5,eF5,hr5,v7,rfl⟩
   rw [List.length_map,la,List.take_length] at hr5
   exact ⟨_,rfl,q F rs H' (s12.trans s5) (s12.free hF2) (fun r hr=>s12.free (hn r hr)) nd hFn eF5 hr5⟩
end
def w9 (sh:Int) (k:Nat):Bool:=decide (Builtin.bitAnd (sh / 2 ^ k) 1 = 0)
def u6 (h:Hall) (sh:Int):List Nat:=(List.range h.m.toNat).filter (w9 sh)
def A2 (ks:List Nat):List V:=ks.map fun (k:Nat)=>V.int k
theorem aA7 (h:Hall) (sh:Int):(u6 h sh).length ≤ h.m.toNat:=by
 have:=List.length_filter_le (w9 sh) (List.range h.m.toNat)
 rw [List.length_range] at this
 exact this
theorem at4 {h:Hall} {sh:Int} {k:Nat} (hk:k ∈ u6 h sh):k < h.m.toNat:=List.mem_range.mp (List.mem_filter.mp hk).1
def aL8 (K:PySem.W.Frag):Sp:=fun vs H Q _=>∃ (a:Addr) (h:Hall) (sh:Int),vs = [.ref a,.int sh] ∧ SqT K H a (h.row.map V.int) ∧ h.Ok ∧ ∀ l,H l = none → Q (.ref l) (upd H l (.lst (A2 (u6 h sh))))
section
variable {P:Program} {w:World} {K:PySem.W.Frag} {mg:Str → Option Value} {base:Heap}
theorem av9:FnScope ["hall","shut"] ["hall","shut"] (d5 (top 15)):=⟨rfl,rfl,rfl,by decide +kernel,rfl,by decide +kernel,by decide +kernel⟩
theorem bc6 (T:Txt K mg) (D:Def K mg "left_open" (top 15) ["hall","shut"]):Callee P w K mg base 1 "left_open" ["hall","shut"] (aL8 K):=by
 refine D.ok av9 (fun vs H Q E h=>?_) (fun f cdv A outer s H vs Q E hr h=>?_)
 ·obtain ⟨a,h,sh,rfl,_⟩:=h
  rfl
 obtain ⟨a,h,sh,rfl,hH,ok,q⟩:=h
 have b3:=ok.m
 refine ⟨_,(e7 (i8 (D0 (own:=["k"]) (fr:=[(1,"shut")]) rfl (show CompScope ["hall","shut"] (d5 (top 15)) _ _ _ from ⟨rfl,by decide +kernel,by decide +kernel,by decide +kernel,by decide +kernel⟩) (J7 rfl T.m_range (b4 (i6 (e8 K) (pv 0) d7 (fun _ _=>rfl)) d4 n6)) (fun cl C s H ex=>⟨(m9 (i:=0) (show (["k","shut"]:List Str).Nodup from by decide +kernel) rfl (Or.inl rfl) (Or.inr rfl)),(P7 (m5 D1 (m6 ai9 (m6 ai2 (pv 1) (pv 0)) d7) d7 (n9 _))),(pv 0)⟩)))),?_⟩
 refine ⟨_,rfl,a,_,_,_,rfl,rfl,hH,rfl,_,rfl,by show -(2 ^ 62) ≤ h.m; lia,by show h.m < 2 ^ 62; lia,?_⟩
 refine O5 (fun i acc σ H'=>H' = H ∧ acc = A2 ((List.range i).filter (w9 sh)) ∧ ∃ v,σ = [v,some (.int sh)])
  ⟨rfl,rfl,none,rfl⟩ (by show h.m.toNat ≤ 16777216; lia) (fun i acc σ H' g=>?_) ?_ ?_
 ·obtain ⟨_,rfl,_⟩:=g
  unfold A2
  rw [List.length_map]
  have:=List.length_filter_le (w9 sh) (List.range i)
  rw [List.length_range] at this
  exact this
 ·rintro i acc σ H' hi ⟨rfl,rfl,v,rfl⟩
  rw [Int.zero_add]
  have step:A2 ((List.range (i + 1)).filter (w9 sh)) = A2 ((List.range i).filter (w9 sh)) ++ (if w9 sh i = true then [V.int (i:Int)] else []):=by
   unfold A2
   rw [List.range_succ,List.filter_append,List.map_append]
   by_cases c:w9 sh i = true
   ·rw [if_pos c]
    simp [c]
   ·rw [if_neg c]
    simp [c]
  refine ⟨_,rfl,_,rfl,_,_,rfl,rfl,by lia,_,_,rfl,rfl,rfl,_,rfl,?_⟩
  refine C3 (fun c=>?_) (fun c=>?_)
  ·have c':w9 sh i = true:=by
    unfold w9
    simpa using c
   refine ⟨_,rfl,rfl,?_,_,rfl⟩
   rw [step,if_pos c']
  ·have c':¬ w9 sh i = true:=by
    unfold w9
    simpa using c
   refine ⟨rfl,?_,_,rfl⟩
   rw [step,if_neg c',List.append_nil]
 ·rintro acc σ H' ⟨rfl,rfl,v,rfl⟩ l hl
  exact q l hl
end
structure Asked (K:PySem.W.Frag) (H:Hp) (a l e:Addr) (h:Hall) (as:List Addr) (ks:List Call) (es:List Int):Prop where
 a:SqT K H a (h.row.map V.int)
 ok:h.Ok
 l:SqL K H l (as.map V.ref)
 c:h9 H as ks
 hin:∀ k ∈ ks,k.In h
 few:ks.length ≤ 63
 e:SqT K H e (es.map V.int) ∨ SqL K H e (es.map V.int)
 len:es.length < 64
theorem Asked.same {K:PySem.W.Frag} {H H':Hp} {a l e:Addr} {h:Hall} {as:List Addr} {ks:List Call} {es:List Int} (s:i4 H H') (k:Asked K H a l e h as ks es):Asked K H' a l e h as ks es :=
 ⟨i4.seqT s k.a,k.ok,s.seq k.l,h9.same (fun b xs z=>s _ _ z) k.c,k.hin,k.few,k.e.imp (fun z=>i4.seqT s z) (fun z=>s.seq z),k.len⟩
def R7 (h:Hall) (ks:List Call) (c:Int) (es:List Int) (k:Nat):Bool:=decide (aa7 h ks (c / h.c) (g9 h es) k = [])
def ap8 (h:Hall) (ks:List Call) (c:Int) (es:List Int) (sh:Int):List Nat:=(u6 h sh).filter (R7 h ks c es)
def aW7 (K:PySem.W.Frag):Sp:=fun vs H Q _=>∃ (a l e:Addr) (h:Hall) (as:List Addr) (ks:List Call) (c:Int) (es:List Int) (sh:Int),vs = [.ref a,.ref l,.int c,.ref e,.int sh] ∧ Asked K H a l e h as ks es ∧
 ∀ (f:Addr) (H':Hp),i4 H H' → H f = none → H' f = some (.lst (A2 (ap8 h ks c es sh))) → Q (.ref f) H'
section
variable {P:Program} {w:World} {K:PySem.W.Frag} {mg:Str → Option Value} {base:Heap}
theorem aN2:FnScope ["hall","calls","caller","ends","shut","held"] ["hall","calls","caller","ends","shut"] (d5 (top 26)):=⟨rfl,rfl,rfl,by decide +kernel,rfl,by decide +kernel,by decide +kernel⟩
theorem a_6 (T:Txt K mg) (C_holders:Callee P w K mg base 4 "holders" ["hall","calls","caller","ends"] (aq7 K)) (C_left_open:Callee P w K mg base 1 "left_open" ["hall","shut"] (aL8 K)) (D:DefD K mg "ways" (top 26) ["hall","calls","caller","ends","shut"] [.int 0]):CalleeD P w K mg base 5 "ways" ["hall","calls","caller","ends","shut"] [.int 0] (aW7 K):=by
 refine D.ok aN2 (fun vs H Q E h=>?_) (fun f cdv A outer s H vs Q E hr h=>?_)
 ·obtain ⟨a,l,e,h,as,ks,c,es,sh,rfl,_⟩:=h
  rfl
 obtain ⟨a,l,e,h,as,ks,c,es,sh,rfl,ask,q⟩:=h
 have b3:=ask.ok.m
 refine ⟨_,(d8 (j8 (i:=5) aN2.nd rfl (Or.inr rfl) (m7 C_holders hr rfl (b4 (pv 0) (b4 (pv 1) (b4 (pv 2) (b4 (pv 3) d4 b5) b5) b5) b5)))
  (e7 (i8 (D0 (own:=["k"]) (fr:=[(5,"held")]) rfl (show CompScope ["hall","calls","caller","ends","shut","held"] (d5 (top 26)) _ _ _ from ⟨rfl,by decide +kernel,by decide +kernel,by decide +kernel,by decide +kernel⟩) (o6 K (m7 C_left_open hr rfl (b4 (pv 0) (b4 (pv 4) d4 b5) b5))) (fun cl C s H ex=>⟨(m9 (i:=0) (show (["k","held"]:List Str).Nodup from by decide +kernel) rfl (Or.inl rfl) (Or.inr rfl)),(P7 (m5 (bb4 K (Room.units0 hr)) (i6 (C4 K) (pv 1) (pv 0) (fun _ _=>rfl)) (B0 d4) (n9 _))),(pv 0)⟩))))),?_⟩
 refine ⟨_,rfl,_,rfl,_,rfl,_,rfl,a,l,e,h,as,ks,c,es,rfl,ask.a,ask.ok,ask.l,ask.c,ask.hin,ask.few,ask.e,ask.len,fun F rs H1 s1 hF hrs nd hFn eF hrows=>?_⟩
 refine ⟨_,rfl,_,rfl,a,h,sh,rfl,i4.seqT s1 ask.a,ask.ok,fun lo hlo=>?_⟩
 have elo:=d6 (H:=H1) (a:=lo) (o:=.lst (A2 (u6 h sh)))
 have s2:=d9 hlo (.lst (A2 (u6 h sh)))
 generalize upd H1 lo (.lst (A2 (u6 h sh))) = H2 at elo s2 ⊢
 have ol:=aA7 h sh
 refine ⟨lo,rfl,⟨_,SqL.of elo⟩,?_⟩
 refine B2 (xs:=A2 (u6 h sh)) (fun i acc σ H'=>i4 H2 H' ∧ acc = A2 (((u6 h sh).take i).filter (R7 h ks c es)) ∧ ∃ v,σ = [v,some (.ref F)])
  ⟨i4.refl _,rfl,none,rfl⟩ (Nat.le_of_lt (j9 (by unfold A2; rw [List.length_map]; lia))) (fun i acc σ H' g=>?_) (fun i acc σ H' _ g=>SqL.of (g.1 _ _ elo)) ?_ ?_
 ·obtain ⟨_,rfl,_⟩:=g
  unfold A2
  rw [List.length_map]
  exact Nat.le_trans (List.length_filter_le _ _) (by rw [List.length_take]; lia)
 ·rintro i y acc σ H' hy ⟨s3,rfl,v,rfl⟩
  unfold A2 at hy
  rw [List.getElem?_map] at hy
  obtain ⟨k,hk,rfl⟩:=Option.map_eq_some_iff.mp hy
  have hkm:=at4 (List.mem_of_getElem? hk)
  have step:A2 (((u6 h sh).take (i + 1)).filter (R7 h ks c es)) = A2 (((u6 h sh).take i).filter (R7 h ks c es)) ++ (if R7 h ks c es k = true then [V.int (k:Int)] else []):=by
   unfold A2
   rw [List.take_succ,hk,List.filter_append,List.map_append]
   by_cases cc:R7 h ks c es k = true
   ·rw [if_pos cc]
    simp [cc]
   ·rw [if_neg cc]
    simp [cc]
  have s13:=s2.trans s3
  have hr3:=E3.same s13 hrows
  have lr:=Paired.length hr3
  unfold aX9 at lr
  rw [az6] at lr
  have ea:rs[k]? = some (rs[k]'(by lia)):=List.getElem?_eq_getElem _
  generalize rs[k]'(by lia) = ra at ea
  obtain ⟨row,w1,w2⟩:=j7 hr3 k ra ea
  have w1':row = aa7 h ks (c / h.c) (g9 h es) k:=by
   unfold aX9 N1 at w1
   rw [List.getElem?_map,List.getElem?_range hkm] at w1
   exact (Option.some.inj w1).symm
  have hat:atI (rs.map V.ref) (k:Int) = some (.ref ra):=E7 (by rw [List.getElem?_map,ea]; rfl)
  refine ⟨_,rfl,_,rfl,F,_,_,_,rfl,rfl,SqL.of (s13 _ _ eF),hat,(by show 0 ≤ sizeLine; decide),fun o ho=>?_⟩
  have s4:=d9 ho (.lst [])
  refine ⟨ra,o,row,[],rfl,rfl,SqL.of (s4 _ _ w2),SqL.of d6,_,rfl,?_⟩
  refine C3 (fun cc=>?_) (fun cc=>?_)
  ·refine ⟨_,rfl,s3.trans s4,?_,_,rfl⟩
   have c':R7 h ks c es k = true:=by
    unfold R7
    rw [← w1']
    exact cc
   rw [step,if_pos c']
  ·refine ⟨s3.trans s4,?_,_,rfl⟩
   have c':¬ R7 h ks c es k = true:=by
    unfold R7
    rw [← w1']
    exact cc
   rw [step,if_neg c',List.append_nil]
 ·rintro acc σ H' ⟨s3,rfl,v,rfl⟩ l2 hl2
  have ln:(A2 (u6 h sh)).length = (u6 h sh).length:=by unfold A2; rw [List.length_map]
  rw [ln,List.take_length]
  have s13:=s1.trans (s2.trans s3)
  exact q l2 _ (s13.trans (d9 hl2 _)) (s13.free hl2) d6
end
theorem ac6 {α β:Type} {R:α → β → Prop}:∀ {as:List α} {ds:List β} (i:Nat),Paired R as ds → Paired R (as.take i) (ds.take i)
 | _,_,0,_=>.nil
 | _,_,i + 1,.nil=>.nil
 | _,_,i + 1,.cons h t=>.cons h (ac6 i t)
theorem ab9 {α β:Type} {R:α → β → Prop}:∀ {as:List α} {ds:List β} (i:Nat),Paired R as ds → Paired R (as.drop i) (ds.drop i)
 | _,_,0,h=>h
 | _,_,i + 1,.nil=>.nil
 | _,_,i + 1,.cons h t=>ab9 i t
theorem ag8 {α β:Type} {R:α → β → Prop}:∀ {as as':List α} {ds ds':List β},Paired R as ds → Paired R as' ds' → Paired R (as ++ as') (ds ++ ds')
 | _,_,_,_,.nil,h=>h
 | _,_,_,_,.cons q t,h=>.cons q (ag8 t h)
theorem Y9 {K:PySem.W.Frag} {H:Hp} {l:Addr} {as:List Addr} {ks:List Call} {Q:VK} (el:H l = some (.lst (as.map V.ref))) (hC:h9 H as ks) (h64:ks.length < 64) (ne:ks.Pairwise fun k k'=>k.c ≠ k'.c)
  (q:∀ l2 as' ks',H l2 = none → h9 H as' ks' → ks'.Perm ks → ks'.Pairwise (fun k k'=>k.c < k'.c) → Q (.ref l2) (upd H l2 (.lst (as'.map V.ref)))):aF8 K [.ref l] H Q:=by
 obtain ⟨its,t1,t2⟩:=ab5 (K:=K) hC
 have la:=Paired.length hC
 have lk:=Paired.length t2
 have gd:∀ (i:Nat) k,ks[i]? = some k → ks.getD i ⟨0,[],0⟩ = k:=fun i k e=>by rw [List.getD,e]; rfl
 have uniq:∀ (i j:Nat) k k',ks[i]? = some k → ks[j]? = some k' → k.c = k'.c → i = j:=fun i j k k' e1 e2 hc=>by
  obtain ⟨q1,z1⟩:=List.getElem?_eq_some_iff.mp e1
  obtain ⟨q2,z2⟩:=List.getElem?_eq_some_iff.mp e2
  rcases Nat.lt_trichotomy i j with hij | hij | hij
  ·have:=(List.pairwise_iff_getElem.mp ne) i j q1 q2 hij
   rw [z1,z2] at this
   exact absurd hc this
  ·exact hij
  ·have:=(List.pairwise_iff_getElem.mp ne) j i q2 q1 hij
   rw [z1,z2] at this
   exact absurd hc.symm this
 have back:∀ (i:Nat) x,its[i]? = some x → ∃ k e,ks[i]? = some k ∧ x = [V.int k.c,V.ref e,V.int k.k]:=fun i x hx=>by
  have hi:=(List.getElem?_eq_some_iff.mp hx).1
  have ek:ks[i]? = some (ks[i]'(by lia)):=List.getElem?_eq_getElem (by lia)
  obtain ⟨x',e1,e,e2⟩:=j7 t2 i _ ek
  rw [hx] at e1
  cases e1
  exact ⟨_,e,ek,e2⟩
 refine ⟨l,as,its,fun i=>(ks.getD i ⟨0,[],0⟩).c,rfl,SqL.of el,t1,by lia,fun i j x y hx hy=>?_,fun pq pm up l2 hl2=>?_⟩
 ·obtain ⟨k,e,e1,rfl⟩:=back i x hx
  obtain ⟨k',e',e2,rfl⟩:=back j y hy
  show (if k.c = k'.c then O6 [V.ref e,V.int k.k] [V.ref e',V.int k'.k] else some (decide (k.c < k'.c))) = some (decide ((ks.getD i ⟨0,[],0⟩).c < (ks.getD j ⟨0,[],0⟩).c))
  rw [gd i k e1,gd j k' e2]
  by_cases c:k.c = k'.c
  ·obtain rfl:=uniq i j k k' e1 e2 c
   rw [hx] at hy
   rw [e1] at e2
   cases e2
   cases hy
   rw [if_pos rfl]
   show (if e = e then (if k.k = k.k then O6 [] [] else some (decide (k.k < k.k))) else none) = _
   rw [if_pos rfl,if_pos rfl,decide_eq_false (Int.lt_irrefl _)]
   rfl
  ·rw [if_neg c]
 ·rw [la] at pm up
  obtain ⟨g1,g2⟩:=a70 (xs:=ks) pm up ⟨0,[],0⟩ Call.c fun i _=>rfl
  have hin:∀ i ∈ pq.toList,i < ks.length:=fun i hi=>by
   have:=(Array.Perm.mem_iff pm (a:=i)).mp (by simpa using hi)
   simpa using this
  have cs:=ab8 0 ⟨0,[],0⟩ hC pq.toList hin
  generalize (pq.toList.map fun i=>ks.getD i ⟨0,[],0⟩) = ks' at g1 g2 cs
  have ne':ks'.Pairwise fun k k'=>k.c ≠ k'.c:=(List.Perm.pairwise_iff (fun q=>Ne.symm q) g1).mpr ne
  exact q l2 _ ks' hl2 cs g1 ((g2.and ne').imp fun {k k'} ⟨q1,q2⟩=>by lia)
def aC9 (ks:List Call) (c:Int) (es:List Int):Prop:=(∀ k ∈ ks,k.c ≠ c) ∧ ∀ e ∈ es,∀ k ∈ ks,¬ e ∈ k.es
def a53 (K:PySem.W.Frag):Sp:=fun vs H Q _=>∃ (l e:Addr) (as:List Addr) (ks:List Call) (c k:Int) (es:List Int),vs = [.ref l,.int c,.ref e,.int k] ∧ H l = some (.lst (as.map V.ref)) ∧ h9 H as ks ∧ ks.length < 63 ∧ (ks.Pairwise fun k k'=>k.c ≠ k'.c) ∧ (∀ k ∈ ks,k.c ≠ c) ∧ (SqT K H e (es.map V.int) ∨ SqL K H e (es.map V.int)) ∧ es.length < 64 ∧
 ∀ (r:Addr) (bs:List Addr) (ks':List Call) (es':List Int) (H':Hp),i4 H H' → H' r = some (.lst (bs.map V.ref)) → h9 H' bs ks' → es'.Perm es → es'.Pairwise (· ≤ ·) → ks'.Perm (ks ++ [⟨c,es',k⟩]) → ks'.Pairwise (fun k k'=>k.c < k'.c) → Q (.ref r) H'
theorem aM1.yes {as:List Addr} {ks:List Call} {c:Int} {v:V} (h:aM1 as ks c v) (n:v ≠ .non):∃ k ∈ ks,k.c = c:=by
 rcases h with ⟨rfl,_⟩ | ⟨j,a,k,_,h2,h3,_⟩
 ·exact absurd rfl n
 ·exact ⟨k,List.mem_of_getElem? h2,h3⟩
section
variable {P:Program} {w:World} {K:PySem.W.Frag} {mg:Str → Option Value} {base:Heap}
theorem au8:FnScope ["calls","caller","ends","k"] ["calls","caller","ends","k"] (d5 (top 34)):=⟨rfl,rfl,rfl,by decide +kernel,rfl,by decide +kernel,by decide +kernel⟩
theorem a_8 (T:Txt K mg) (D:Def K mg "with_call" (top 34) ["calls","caller","ends","k"]):Callee P w K mg base 1 "with_call" ["calls","caller","ends","k"] (a53 K):=by
 refine D.ok au8 (fun vs H Q E h=>?_) (fun f cdv A outer s H vs Q E hr h=>?_)
 ·obtain ⟨l,e,as,ks,c,k,es,rfl,_⟩:=h
  rfl
 obtain ⟨l,e,as,ks,c,k,es,rfl,el,hC,h63,nc,no,he,h64,q⟩:=h
 have ln:as.length = ks.length:=Paired.length hC
 refine ⟨_,(e7 (i8 (i7 (V4 K) rfl T.m_sorted boot_sorted (b4 (m6 av3 (pv 0) (B0 (b4 (A9 (b4 (pv 1) (b4 (z9 (R1 K) rfl T.m_tuple boot_tuple (b4 (i7 (P4 K) rfl T.m_sorted boot_sorted (b4 (pv 2) d4 b5)) d4 x0)) (b4 (pv 3) d4 b5) x0) b5)) d4 S2))) d4 L5)))),?_⟩
 refine ⟨_,rfl,_,rfl,_,rfl,e,es,rfl,he,h64,fun es' pm srt sl hsl=>?_⟩
 have s1:=d9 hsl (.lst (es'.map V.int))
 have e1:=d6 (H:=H) (a:=sl) (o:=.lst (es'.map V.int))
 generalize upd H sl (.lst (es'.map V.int)) = H1 at s1 e1 ⊢
 refine ⟨sl,_,rfl,.inl ⟨SqL.of e1,fun t ht=>?_⟩⟩
 have s2:=s1.trans (d9 ht (.tup (es'.map V.int)))
 have e2:=d6 (H:=H1) (a:=t) (o:=.tup (es'.map V.int))
 generalize upd H1 t (.tup (es'.map V.int)) = H2 at s2 e2 ⊢
 refine ⟨_,rfl,(by show 3 ≤ sizeLine; decide),fun p hp=>?_⟩
 have s3':=d9 hp (.tup [.int c,.ref t,.int k])
 have s3:=s2.trans s3'
 have e3:y9 (upd H2 p (.tup [.int c,.ref t,.int k])) p ⟨c,es',k⟩:=⟨t,s3' _ _ e2,d6⟩
 generalize upd H2 p (.tup [.int c,.ref t,.int k]) = H3 at s3 e3 ⊢
 refine ⟨(by show 1 ≤ sizeLine; decide),fun nl hnl=>?_⟩
 have s4':=d9 hnl (.lst [.ref p])
 have s4:=s3.trans s4'
 have e4:=d6 (H:=H3) (a:=nl) (o:=.lst [.ref p])
 have c4:=y9.same (fun b xs z=>s4' _ _ z) e3
 generalize upd H3 nl (.lst [.ref p]) = H4 at s4 e4 c4 ⊢
 refine ⟨l,nl,_,_,rfl,rfl,s4 _ _ el,e4,Nat.le_of_lt (j9 (by rw [List.length_map]; show as.length + 1 ≤ 1000; lia)),fun cl hcl=>?_⟩
 have s5':=d9 hcl (.lst (as.map V.ref ++ [.ref p]))
 have s5:=s4.trans s5'
 have e5:upd H4 cl (.lst (as.map V.ref ++ [.ref p])) cl = some (.lst ((as ++ [p]).map V.ref)):=by rw [d6,List.map_append]; rfl
 have c5:=y9.same (fun b xs z=>s5' _ _ z) c4
 generalize upd H4 cl (.lst (as.map V.ref ++ [.ref p])) = H5 at s5 e5 c5 ⊢
 have hC5:h9 H5 (as ++ [p]) (ks ++ [⟨c,es',k⟩]):=Paired.snoc (h9.same (fun b xs z=>s5 _ _ z) hC) c5
 refine Y9 e5 hC5 (by rw [List.length_append,List.length_singleton]; lia) (List.pairwise_append.mpr ⟨nc,List.pairwise_singleton ..,fun k1 h1 k2 h2=>?_⟩) fun l2 as' ks' h1 h2 h3 h4=>?_
 ·rw [List.mem_singleton.mp h2]
  exact no k1 h1
 ·exact q l2 as' ks' es' _ (s5.trans (d9 h1 _)) d6 (h9.same (fun b xs z=>d9 h1 _ _ _ z) h2) pm srt h3 h4
end
def ay5 (K:PySem.W.Frag):Sp:=fun vs H Q _=>∃ (a:Addr) (h:Hall) (x y:V) (o:Option (List V)),vs = [.ref a,x,y] ∧ SqT K H a (h.row.map V.int) ∧ h.Ok ∧ PartIs K H x ∧ EndTh K H y o ∧ x8 x 0 (h.i * h.c - 1) = true ∧ ac9 h o = true ∧
 ∀ H',i4 H H' → Q .non H'
def aP0 (K:PySem.W.Frag):Sp:=fun vs H Q _=>∃ (l e:Addr) (as:List Addr) (ks:List Call) (c:Int) (es:List Int),vs = [.ref l,.int c,.ref e] ∧ SqL K H l (as.map V.ref) ∧ h9 H as ks ∧ (SqT K H e (es.map V.int) ∨ SqL K H e (es.map V.int)) ∧ es.length < 64 ∧ aC9 ks c es ∧
 ∀ H',i4 H H' → Q .non H'
section
variable {P:Program} {w:World} {K:PySem.W.Frag} {mg:Str → Option Value} {base:Heap}
theorem ad1:FnScope ["hall","caller","ends"] ["hall","caller","ends"] (d5 (top 31)):=⟨rfl,rfl,rfl,by decide +kernel,rfl,by decide +kernel,by decide +kernel⟩
theorem aS3 (T:Txt K mg) (C_is_caller:Callee P w K mg base 3 "is_caller" ["hall","thing"] (ai4 K)) (C_is_ends:Callee P w K mg base 4 "is_ends" ["hall","thing"] (ay7 K)) (D:Def K mg "refuse_wrong" (top 31) ["hall","caller","ends"]):Callee P w K mg base 5 "refuse_wrong" ["hall","caller","ends"] (ay5 K):=by
 refine D.ok ad1 (fun vs H Q E h=>?_) (fun f cdv A outer s H vs Q E hr h=>?_)
 ·obtain ⟨a,h,x,y,o,rfl,_⟩:=h
  rfl
 obtain ⟨a,h,x,y,o,rfl,hH,ok,px,ey,c1,c2,q⟩:=h
 refine ⟨_,(d8 (u3 (C9 (y3 K (m7 C_is_caller hr rfl (b4 (pv 0) (b4 (pv 1) d4 b5) b5)) (fun _=>rfl))) (e7 F6) m8)
  (e7 (u3 (C9 (y3 K (m7 C_is_ends hr rfl (b4 (pv 0) (b4 (pv 2) d4 b5) b5)) (fun _=>rfl))) (e7 F6) m8))),?_⟩
 refine ⟨_,rfl,_,rfl,a,h,x,rfl,hH,ok,px,_,rfl,?_⟩
 rw [c1]
 refine C1 ⟨_,rfl,_,rfl,a,h,y,o,rfl,hH,ok,ey,fun H1 s1=>⟨_,rfl,?_⟩⟩
 rw [c2]
 exact C1 (q H1 s1)
theorem L8:FnScope ["calls","caller","ends","end","who"] ["calls","caller","ends"] (d5 (top 32)):=⟨rfl,rfl,rfl,by decide +kernel,rfl,by decide +kernel,by decide +kernel⟩
theorem a69 (T:Txt K mg) (C_call_of:Callee P w K mg base 2 "call_of" ["calls","caller"] (Z1 K)) (C_holder_of:Callee P w K mg base 2 "holder_of" ["calls","end"] (ah6 K)) (D:Def K mg "refuse_busy" (top 32) ["calls","caller","ends"]):Callee P w K mg base 4 "refuse_busy" ["calls","caller","ends"] (aP0 K):=by
 refine D.ok L8 (fun vs H Q E h=>?_) (fun f cdv A outer s H vs Q E hr h=>?_)
 ·obtain ⟨l,e,as,ks,c,es,rfl,_⟩:=h
  rfl
 obtain ⟨l,e,as,ks,c,es,rfl,hl,hC,he,h64,idle,q⟩:=h
 refine ⟨_,(d8 (u3 (m5 U0 (m7 C_call_of hr rfl (b4 (pv 0) (b4 (pv 1) d4 b5) b5)) y7 (n9 _)) (e7 F6) m8)
  (e7 (y8 PassesOwn.never rfl (o6 K (i7 (P4 K) rfl T.m_sorted boot_sorted (b4 (pv 2) d4 b5))) (m9 (i:=3) L8.nd rfl (Or.inl rfl))
  (d8 (j8 (i:=4) L8.nd rfl (Or.inl rfl) (m7 C_holder_of hr rfl (b4 (pv 0) (b4 (pv 3) d4 b5) b5)))
  (e7 (u3 (m5 U0 (pv 4) y7 (n9 _)) (e7 F6) m8)))))),?_⟩
 refine ⟨_,rfl,_,rfl,l,.int c,as,ks,rfl,hl,hC,.int c,.inr ⟨c,rfl,fun v mine=>⟨rfl,_,rfl,?_⟩⟩⟩
 have hv:v = .non:=by
  by_cases hv:v = .non
  ·exact hv
  ·obtain ⟨k,hk,e⟩:=mine.yes hv
   exact absurd e (idle.1 k hk)
 rw [hv]
 refine C1 ?_
 refine ⟨_,rfl,e,es,rfl,he,h64,fun ns' pm srt sl hsl=>?_⟩
 have s1:=d9 hsl (.lst (ns'.map V.int))
 have esl:=d6 (H:=H) (a:=sl) (o:=.lst (ns'.map V.int))
 generalize upd H sl (.lst (ns'.map V.int)) = H1 at s1 esl ⊢
 refine ⟨sl,rfl,⟨_,SqL.of esl⟩,?_⟩
 refine w6 (xs:=ns'.map V.int) (fun i σ H'=>H' = H1 ∧ ∃ v3 v4,σ = [some (.ref l),some (.int c),some (.ref e),v3,v4])
  ⟨rfl,none,none,rfl⟩ (fun i σ H' _ g=>by rw [g.1]; exact SqL.of esl) ?_ ?_
 ·rintro i x σ G hx ⟨rfl,v3,v4,rfl⟩
  rw [List.getElem?_map] at hx
  obtain ⟨en,hen,rfl⟩:=Option.map_eq_some_iff.mp hx
  refine ⟨_,rfl,_,rfl,l,en,as,ks,rfl,s1.seq hl,h9.same (fun b xs z=>s1 _ _ z) hC,fun v who=>?_⟩
  refine ⟨_,rfl,rfl,_,rfl,?_⟩
  rcases who with ⟨rfl,none⟩ | ⟨k,hk,ek,rfl⟩
  ·exact C1 ⟨rfl,_,_,rfl⟩
  ·exact absurd ek (idle.2 en (pm.mem_iff.mp (List.mem_of_getElem? hen)) k hk)
 ·rintro σ G ⟨rfl,v3,v4,rfl⟩
  exact q _ s1
end
theorem as3 {α β:Type} [DecidableEq β] (R:α → β → Prop) (inj:∀ a a' b,R a b → R a' b → a = a'):∀ (L:List α) (S:List β),L.Nodup → (∀ a ∈ L,∃ b ∈ S,R a b) → L.length ≤ S.length
 | [],_,_,_=>Nat.zero_le _
 | a :: L,S,nd,h=>by
  obtain ⟨b,hb,r⟩:=h a (List.mem_cons_self ..)
  have nd':=List.nodup_cons.mp nd
  have ih:=as3 R inj L (S.erase b) nd'.2 fun a' ha'=>by
   obtain ⟨b',hb',r'⟩:=h a' (List.mem_cons_of_mem _ ha')
   refine ⟨b',(List.mem_erase_of_ne fun z=>?_).mpr hb',r'⟩
   rw [z] at r'
   exact nd'.1 (inj _ _ _ r r' ▸ ha')
  have l1:=List.length_erase_of_mem hb
  have l2:=List.length_pos_of_mem hb
  rw [List.length_cons]
  lia
theorem aA6 {h:Hall} {ks:List Call} {c:Int} {es:List Int} {sh:Int} {k:Nat}:k ∈ ap8 h ks c es sh ↔ k ∈ u6 h sh ∧ aa7 h ks (c / h.c) (g9 h es) k = []:=by
 unfold ap8 R7
 rw [List.mem_filter,decide_eq_true_iff]
theorem aH4 (h:Hall) (sh:Int):(u6 h sh).Nodup:=List.nodup_range.sublist List.filter_sublist
theorem ao8 {h:Hall} {es rs:List Int} (hr:∀ e ∈ es,e / h.e ∈ rs):(g9 h es).length ≤ rs.length:=by
 refine as3 (fun a b=>a = b) (fun a a' b e e'=>e.trans e'.symm) _ _ ?_ fun r hr'=>?_
 ·have rs:(g9 h es).Pairwise (· < ·):=A3 _
  exact rs.imp fun {a b} lt e=>by rw [e] at lt; exact absurd lt (Int.lt_irrefl _)
 ·obtain ⟨e,he,rfl⟩:=u4.mp hr'
  exact ⟨_,hr e he,rfl⟩
theorem aT8 {h:Hall} {sh:Int} {B:List Nat} (hB:∀ k,w9 sh k = false → k ∈ B):h.m.toNat ≤ (u6 h sh).length + B.length:=by
 have e1:(List.range h.m.toNat).length = ((List.range h.m.toNat).filter (w9 sh)).length + ((List.range h.m.toNat).filter fun k=>!(w9 sh k)).length:=by
  generalize List.range h.m.toNat = L
  induction L with
  | nil=>rfl
  | cons a t ih =>
   rw [List.filter_cons,List.filter_cons,List.length_cons,ih]
   cases w9 sh a
   ·simp only [Bool.not_false,if_true,List.length_cons,Bool.false_eq_true,if_false]
    lia
   ·simp only [Bool.not_true,if_true,List.length_cons,Bool.false_eq_true,if_false]
    lia
 have e2:((List.range h.m.toNat).filter fun k=>!(w9 sh k)).length ≤ B.length:=by
  refine as3 (fun a b=>a = b) (fun a a' b e e'=>e.trans e'.symm) _ _ (List.nodup_range.sublist List.filter_sublist) fun k hk=>?_
  exact ⟨k,hB k (by have:=(List.mem_filter.mp hk).2; simpa using this),rfl⟩
 rw [List.length_range] at e1
 unfold u6
 lia
theorem aU6 {x p q:Nat} (h:x.testBit p = false) (t:(x + 2 ^ p).testBit q = true):q = p ∨ x.testBit q = true:=by
 by_cases hq:q = p
 ·exact .inl hq
 ·right
  rcases Nat.lt_or_gt_of_ne hq with hlt | hgt
  ·rw [Nat.add_comm,Nat.testBit_two_pow_add_gt hlt] at t
   exact t
  ·have e:(x + 2 ^ p) / 2 ^ (p + 1) = x / 2 ^ (p + 1):=by
    rw [Nat.pow_succ,← Nat.div_div_eq_div_mul,← Nat.div_div_eq_div_mul,Nat.add_div_right x (Nat.two_pow_pos p)]
    rw [Nat.testBit_eq_decide_div_mod_eq] at h
    have h':¬ x / 2 ^ p % 2 = 1:=of_decide_eq_false h
    lia
   have hk:q = (p + 1) + (q - (p + 1)):=by lia
   rw [Nat.testBit_eq_decide_div_mod_eq,hk,Nat.pow_add,← Nat.div_div_eq_div_mul,e,Nat.div_div_eq_div_mul,← Nat.pow_add,← hk,← Nat.testBit_eq_decide_div_mod_eq] at t
   exact t
theorem bj7 (b p:Nat):∃ b':Nat,Builtin.bitOr (b:Int) (1 * 2 ^ p) = (b':Int) ∧ ∀ q,b'.testBit q = true → q = p ∨ b.testBit q = true:=by
 have e1:(1 * 2 ^ p:Int) = ((2 ^ p:Nat):Int):=by
  rw [Int.one_mul]
  exact (Int.natCast_pow 2 p).symm
 cases h:b.testBit p with
 | false =>
  refine ⟨b + 2 ^ p,?_,fun q t=>aU6 h t⟩
  have e2:b &&& 2 ^ p = 0:=by
   refine Nat.eq_of_testBit_eq fun i=>?_
   rw [Nat.testBit_and,Nat.testBit_two_pow,Nat.zero_testBit]
   by_cases hi:p = i
   ·subst hi; rw [h]; rfl
   ·simp [hi]
  rw [e1,bitOr_and,bitAnd_pp (Int.natCast_nonneg _) (Int.natCast_nonneg _),Int.toNat_natCast,Int.toNat_natCast,e2]
  simp
 | true =>
  refine ⟨b,?_,fun q t=>.inr t⟩
  have e2:b &&& 2 ^ p = 2 ^ p:=by
   refine Nat.eq_of_testBit_eq fun i=>?_
   rw [Nat.testBit_and,Nat.testBit_two_pow]
   by_cases hi:p = i
   ·subst hi; rw [h]; rfl
   ·simp [hi]
  rw [e1,bitOr_and,bitAnd_pp (Int.natCast_nonneg _) (Int.natCast_nonneg _),Int.toNat_natCast,Int.toNat_natCast,e2]
  lia
theorem aB7 (b k:Nat):w9 (b:Int) k = !b.testBit k:=by
 unfold w9
 have e1:((b:Int) / 2 ^ k) = ((b / 2 ^ k:Nat):Int):=by
  rw [Int.natCast_ediv,Int.natCast_pow]
  rfl
 rw [e1,bitAnd_pp (Int.natCast_nonneg _) (by decide),Int.toNat_natCast,show ((1:Int)).toNat = 1 from rfl,Nat.and_one_is_mod,Nat.testBit_eq_decide_div_mod_eq,Bool.eq_iff_iff,decide_eq_true_iff,Bool.not_eq_true',decide_eq_false_iff_not]
 lia
theorem aW4 {rs:List Int} (x:Int) (ne:rs ≠ []):∃ r ∈ rs,atI (rs.map V.int) (x % (((rs.map V.int).length:Nat):Int)) = some (.int r):=by
 have lp:0 < rs.length:=List.length_pos_iff.mpr ne
 rw [List.length_map]
 have m:=as6 (x:=x) (d:=((rs.length:Nat):Int)) (by lia)
 obtain ⟨j,hj⟩:∃ j:Nat,x % ((rs.length:Nat):Int) = (j:Int):=⟨(x % ((rs.length:Nat):Int)).toNat,by lia⟩
 have lt:j < rs.length:=by lia
 refine ⟨rs[j]'lt,List.getElem_mem lt,?_⟩
 rw [hj]
 refine E7 ?_
 rw [List.getElem?_map,List.getElem?_eq_getElem lt]
 rfl
def aW6 (K:PySem.W.Frag):Sp:=fun vs H Q _=>∃ (a:Addr) (ns:List Int) (k:Nat) (m:Int),vs = [.ref a,.int k,.int m] ∧ SqL K H a (ns.map V.int) ∧ k ≤ 7 ∧ 0 < m ∧ ∀ n:Int,0 ≤ n → n < m → Q (.int n) H
def az8 (K:PySem.W.Frag):Sp:=fun vs H Q _=>∃ (a:Addr) (h:Hall) (g n:Int),vs = [.ref a,.int g,.int n] ∧ SqT K H a (h.row.map V.int) ∧ h.Ok ∧ 0 ≤ g ∧ g ≤ 3 ∧ ∀ (b:Nat) (B:List Nat),(∀ k,b.testBit k = true → k ∈ B) → B.length ≤ g.toNat → Q (.int (b:Int)) H
section
variable {P:Program} {w:World} {K:PySem.W.Frag} {mg:Str → Option Value} {base:Heap}
theorem Z0:FnScope ["_law_script","_law_k","_law_most","_law_number"] ["_law_script","_law_k","_law_most"] (d5 (top 56)):=⟨rfl,rfl,rfl,by decide +kernel,rfl,by decide +kernel,by decide +kernel⟩
theorem bc0 (T:Txt K mg) (C__law_cell_at:Callee P w K mg base 1 "_law_cell_at" ["_law_script","_law_k"] (aY2 K)) (D:Def K mg "_law_size" (top 56) ["_law_script","_law_k","_law_most"]):Callee P w K mg base 2 "_law_size" ["_law_script","_law_k","_law_most"] (aW6 K):=by
 refine D.ok Z0 (fun vs H Q E h=>?_) (fun f cdv A outer s H vs Q E hr h=>?_)
 ·obtain ⟨a,ns,k,m,rfl,_⟩:=h
  rfl
 obtain ⟨a,ns,k,m,rfl,hS,hk,hm,q⟩:=h
 refine ⟨_,(d8 (j8 (i:=3) Z0.nd rfl (Or.inl rfl) (m6 J9 (m6 C6 (m6 E8 (m7 C__law_cell_at hr rfl (b4 (pv 0) (b4 (pv 1) d4 b5) b5)) (m6 bh4 d7 d7)) (m6 J9 (m6 C6 d7 (pv 1)) d7)) (m6 C6 d7 (pv 1))))
  (e7 (i8 (m6 E8 (m6 E8 (pv 3) d7) (pv 2))))),?_⟩
 refine ⟨_,rfl,_,rfl,a,ns,k,rfl,hS,_,_,rfl,rfl,⟨by decide,by decide,by decide⟩,_,_,rfl,rfl,(by show (0:Int) < 10 ^ 18; decide),_,rfl,_,_,rfl,rfl,.inl ⟨by decide,by decide⟩,_,_,rfl,rfl,_,_,rfl,rfl,.inr ⟨by lia,by lia⟩,_,rfl,_,_,rfl,rfl,.inl ⟨by decide,by decide⟩,_,_,rfl,rfl,?_⟩
 refine ⟨_,rfl,_,_,rfl,rfl,(by show (0:Int) < 999983; decide),_,rfl,_,_,rfl,rfl,hm,?_⟩
 have:=as6 (x:=(cell ns k % 10 ^ 18 * (2 * (k:Int) + 48271) + 7 * (k:Int)) % 999983) hm
 exact q _ this.1 this.2
theorem L0:FnScope ["_law_hall","_law_gone","_law_number","_law_bits","_law_k"] ["_law_hall","_law_gone","_law_number"] (d5 (top 57)):=⟨rfl,rfl,rfl,by decide +kernel,rfl,by decide +kernel,by decide +kernel⟩
theorem aR2 (T:Txt K mg) (D:Def K mg "_law_shut" (top 57) ["_law_hall","_law_gone","_law_number"]):Callee P w K mg base 1 "_law_shut" ["_law_hall","_law_gone","_law_number"] (az8 K):=by
 refine D.ok L0 (fun vs H Q E h=>?_) (fun f cdv A outer s H vs Q E hr h=>?_)
 ·obtain ⟨a,h,g,n,rfl,_⟩:=h
  rfl
 obtain ⟨a,h,g,n,rfl,hH,ok,g0,g3,q⟩:=h
 have o3:=ok.m
 refine ⟨_,(d8 (j8 (i:=3) L0.nd rfl (Or.inl rfl) d7)
  (d8 (y8 PassesOwn.never rfl (J7 rfl T.m_range (b4 (pv 1) d4 b5)) (m9 (i:=4) L0.nd rfl (Or.inl rfl))
  (e7 (j8 (i:=3) L0.nd rfl (Or.inl rfl) (m6 bn0 (pv 3) (m6 aH7 d7 (m6 E8 (m6 J9 (m6 E8 (m6 C6 (pv 2) d7) d7) (pv 4)) (i6 (e8 K) (pv 0) d7 (fun _ _=>rfl))))))))
  (e7 (i8 (pv 3))))),?_⟩
 refine ⟨_,rfl,_,rfl,by lia,by lia,?_⟩
 refine O2 (fun i σ G=>G = H ∧ ∃ (b:Nat) (B:List Nat) (v:Option V),(∀ k,b.testBit k = true → k ∈ B) ∧ B.length ≤ i ∧ σ = [some (.ref a),some (.int g),some (.int n),some (.int (b:Int)),v])
  ⟨rfl,0,[],none,(fun k hk=>by rw [Nat.zero_testBit] at hk; cases hk),Nat.le_refl _,rfl⟩ ?_ ?_
 ·rintro i σ G hi ⟨rfl,b,B,v,hB,hl,rfl⟩
  rw [Int.zero_add]
  have m:=as6 (x:=n * 39373 % 999953 + (i:Int)) (show 0 < h.m by lia)
  refine ⟨_,rfl,_,rfl,_,_,rfl,rfl,.inr ⟨by decide,by decide⟩,_,_,rfl,rfl,(by show (0:Int) < 999953; decide),_,rfl,_,_,rfl,rfl,_,rfl,a,_,_,_,rfl,rfl,hH,rfl,_,_,rfl,rfl,(by show 0 < h.m; lia),_,_,rfl,rfl,⟨m.1,by show (n * 39373 % 999953 + (i:Int)) % h.m ≤ 1000000; lia,by decide⟩,_,_,rfl,rfl,?_⟩
  obtain ⟨b',e1,e2⟩:=bj7 b ((n * 39373 % 999953 + (i:Int)) % h.m).toNat
  refine ⟨rfl,b',B ++ [((n * 39373 % 999953 + (i:Int)) % h.m).toNat],some (.int (i:Int)),fun k hk=>?_,by rw [List.length_append,List.length_singleton]; lia,?_⟩
  ·rcases e2 k hk with z | z
   ·rw [z]
    exact List.mem_append_right _ (List.mem_singleton.mpr rfl)
   ·exact List.mem_append_left _ (hB k z)
  ·rw [← e1]
   rfl
 ·rintro σ G ⟨rfl,b,B,v,hB,hl,rfl⟩
  exact ⟨_,rfl,q b B hB hl⟩
end
theorem aH5 (ns:List Int):(w4 ns).length = ns.length ↔ ns.Nodup:=by
 have n2:=y6 (A3 ns)
 constructor
 ·intro h
  have:=C2 (w4 ns) ns n2 (fun x hx=>(B1 x ns).mp hx) (by lia)
  exact this.nodup_iff.mp n2
 ·intro h
  have:=C2 ns (w4 ns) h (fun x hx=>(B1 x ns).mpr hx) (T7 ns)
  exact this.length_eq.symm
theorem ao7 {h:Hall} {es:List Int} (eo:EndsOk h es):ac9 h (some (es.map V.int)) = true:=by
 show (!(es.map V.int).isEmpty && ((es.map V.int).all (fun x=>x8 x 0 (h.o * h.e - 1)) && L1 (es.map V.int))) = true
 have h1:(!(es.map V.int).isEmpty) = true:=by
  have:=eo.some
  cases es with
  | nil=>exact absurd rfl this
  | cons _ _=>rfl
 have h2:(es.map V.int).all (fun x=>x8 x 0 (h.o * h.e - 1)) = true:=by
  rw [List.all_eq_true]
  intro x hx
  obtain ⟨e,he,rfl⟩:=List.mem_map.mp hx
  have:=eo.es e he
  show (decide (0 ≤ e) && decide (e ≤ h.o * h.e - 1)) = true
  rw [decide_eq_true this.1,decide_eq_true (by lia)]
  rfl
 rw [h1,h2]
 unfold L1
 rw [Z6,List.length_map,decide_eq_true ((aH5 es).mpr eo.nd)]
 rfl
noncomputable def dB (p:Prop):Bool:=@decide p (Classical.propDecidable p)
theorem ab4 {p:Prop}:dB p = true ↔ p:=by unfold dB; exact @decide_eq_true_iff p (Classical.propDecidable p)
theorem aD6 {p:Prop} (h:¬ p):dB p = false:=by cases q:dB p with
 | false=>rfl
 | true=>exact absurd (ab4.mp q) h
theorem ab2 {p:Prop} (h:p):dB p = true:=ab4.mpr h
theorem aV7 {p:Prop} {b:Bool} (h:b = true ↔ p):b = dB p:=by
 rw [Bool.eq_iff_iff,ab4]; exact h
theorem bp9 (xs:List V):Y1 xs (some 1) none = xs.tail:=by
 unfold Y1
 rw [show HT.sIx xs.length 0 (some 1) = min 1 xs.length from HT.sIx_nat _ 0 1,HT.sIx_none]
 cases xs with
 | nil=>rfl
 | cons x t =>
  have e:min 1 (x :: t).length = 1:=by rw [List.length_cons]; lia
  rw [e,List.length_cons,Nat.add_sub_cancel,List.drop_succ_cons,List.drop_zero,List.take_length]
  rfl
def C0 (h:Hall) (k:Call):List (List Int):=[0,k.c / h.c,k.k] :: (g9 h k.es).map fun r=>[1,k.k,r]
def bi8 (h:Hall) (k k':Call):Prop:=k.c / h.c = k'.c / h.c ∨ ∃ e ∈ k.es,e / h.e ∈ k'.es.map fun e=>e / h.e
structure Fit (h:Hall) (k k':Call):Prop where
 c:k.c < k'.c
 es:∀ e ∈ k.es,¬ e ∈ k'.es
 l:¬ (k.k = k'.k ∧ bi8 h k k')
structure RightM (h:Hall) (ks:List Call):Prop where
 c:(ks.map Call.c).Pairwise (· < ·)
 es:(ks.flatMap Call.es).Nodup
 l:(ks.flatMap (C0 h)).Nodup
theorem P5 {α β:Type} (f:α → List β):∀ ks:List α,(ks.flatMap f).Nodup ↔ (∀ k ∈ ks,(f k).Nodup) ∧ ks.Pairwise fun a b=>∀ x ∈ f a,¬ x ∈ f b
 | []=>by simp
 | k :: t=>by
  rw [List.flatMap_cons,List.nodup_append,P5 f t,List.pairwise_cons]
  constructor
  ·rintro ⟨h1,⟨h2,h3⟩,h4⟩
   refine ⟨fun k' hk'=>?_,fun b hb x hx hx'=>h4 x hx x (List.mem_flatMap.mpr ⟨b,hb,hx'⟩) rfl,h3⟩
   rcases List.mem_cons.mp hk' with rfl | q
   ·exact h1
   ·exact h2 k' q
  ·rintro ⟨h1,h2,h3⟩
   refine ⟨h1 k List.mem_cons_self,⟨fun k' hk'=>h1 k' (List.mem_cons_of_mem _ hk'),h3⟩,fun x hx y hy e=>?_⟩
   obtain ⟨b,hb,hy'⟩:=List.mem_flatMap.mp hy
   exact h2 b hb x hx (e ▸ hy')
theorem al0 {α β:Type} {f:α → β} (hf:∀ a b,f a = f b → a = b) {l:List α} (h:l.Nodup):(l.map f).Nodup:=by
 unfold List.Nodup
 rw [List.pairwise_map]
 exact h.imp fun {a b} q e=>q (hf a b e)
theorem E9 {h:Hall} {k:Call} {d:List Int}:d ∈ C0 h k ↔ d = [0,k.c / h.c,k.k] ∨ ∃ e ∈ k.es,d = [1,k.k,e / h.e]:=by
 unfold C0 g9
 rw [List.mem_cons,List.mem_map]
 constructor
 ·rintro (z | ⟨r,hr,rfl⟩)
  ·exact .inl z
  ·rw [B1,List.mem_map] at hr
   obtain ⟨e,he,rfl⟩:=hr
   exact .inr ⟨e,he,rfl⟩
 ·rintro (z | ⟨e,he,rfl⟩)
  ·exact .inl z
  ·exact .inr ⟨_,(B1 _ _).mpr (List.mem_map_of_mem he),rfl⟩
theorem au2 (h:Hall) (k:Call):(C0 h k).Nodup:=by
 unfold C0
 rw [List.nodup_cons]
 refine ⟨fun z=>?_,al0 (fun a b e=>by injection e with _ e; injection e with _ e; injection e) (y6 (A3 _))⟩
 obtain ⟨r,_,e⟩:=List.mem_map.mp z
 injection e with e _
 exact absurd e (by decide)
theorem aq9 {h:Hall} {k k':Call}:(∀ d ∈ C0 h k,¬ d ∈ C0 h k') ↔ ¬ (k.k = k'.k ∧ bi8 h k k'):=by
 constructor
 ·rintro g ⟨e,z | ⟨e1,h1,h2⟩⟩
  ·exact g _ (E9.mpr (.inl rfl)) (E9.mpr (.inl (by rw [e,z])))
  ·obtain ⟨e2,h3,h4⟩:=List.mem_map.mp h2
   exact g _ (E9.mpr (.inr ⟨e1,h1,rfl⟩)) (E9.mpr (.inr ⟨e2,h3,by rw [e,h4]⟩))
 ·intro g d hd hd'
  rcases E9.mp hd with rfl | ⟨e1,h1,rfl⟩
  ·rcases E9.mp hd' with z | ⟨e2,h2,z⟩
   ·injection z with _ z
    injection z with z1 z
    injection z with z2 _
    exact g ⟨z2,.inl z1⟩
   ·injection z with z _
    exact absurd z (by decide)
  ·rcases E9.mp hd' with z | ⟨e2,h2,z⟩
   ·injection z with z _
    exact absurd z (by decide)
   ·injection z with _ z
    injection z with z1 z
    injection z with z2 _
    exact g ⟨z1,.inr ⟨e1,h1,List.mem_map.mpr ⟨e2,h2,z2.symm⟩⟩⟩
theorem ar9 {h:Hall} {ks:List Call} (hin:∀ k ∈ ks,k.es.Nodup):RightM h ks ↔ ks.Pairwise (Fit h):=by
 constructor
 ·rintro ⟨h1,h2,h3⟩
  rw [List.pairwise_map] at h1
  rw [P5] at h2 h3
  exact ((h1.and h2.2).and h3.2).imp fun {a b} q=>⟨q.1.1,q.1.2,aq9.mp q.2⟩
 ·intro g
  refine ⟨?_,(P5 _ _).mpr ⟨hin,g.imp fun {a b} q=>q.es⟩,(P5 _ _).mpr ⟨fun k _=>au2 h k,g.imp fun {a b} q=>aq9.mpr q.l⟩⟩
  rw [List.pairwise_map]
  exact g.imp fun {a b} q=>q.c
theorem aJ9 {ns:List Int}:(w4 ns).length = ns.length ↔ ns.Nodup:=by
 constructor
 ·intro z
  exact (C2 (w4 ns) ns (y6 (A3 ns)) (fun x hx=>(B1 x ns).mp hx) (by lia)).nodup_iff.mp (y6 (A3 ns))
 ·intro z
  have h1:=T7 ns
  exact (C2 ns (w4 ns) z (fun x hx=>(B1 x ns).mpr hx) h1).length_eq.symm
def ap2 (K:PySem.W.Frag):Sp:=fun vs H Q _=>∃ p:Addr,vs = [.ref p] ∧
  ((∃ ns:List Int,SqL K H p (ns.map V.int) ∧ ns.length < 4000 ∧ ∀ H',i4 H H' → Q (.bl (dB ns.Nodup)) H') ∨
   (∃ (as:List Addr) (ds:List (List Int)),SqL K H p (as.map V.ref) ∧ a58 K H as ds ∧ ds.length ≤ 1000 ∧ ∀ H',i4 H H' → Q (.bl (dB ds.Nodup)) H'))
def aj6 (H:Hp) (l:Addr) (ds:List (List Int)):Prop:=∃ as:List Addr,H l = some (.lst (as.map V.ref)) ∧ Paired (fun a d=>H a = some (.tup (d.map V.int))) as ds
def ax8 (K:PySem.W.Frag):Sp:=fun vs H Q _=>∃ (a p:Addr) (h:Hall) (k:Call),vs = [.ref a,.ref p] ∧ SqT K H a (h.row.map V.int) ∧ h.Ok ∧ y9 H p k ∧ k.In h ∧
 ∀ (l:Addr) (H':Hp),i4 H H' → H l = none → aj6 H' l (C0 h k) → Q (.ref l) H'
def aD8:Sp:=fun vs H Q _=>∃ (a:Addr) (ns:List Int),vs = [.ref a] ∧ H a = some (.lst (ns.map V.int)) ∧ ns.length ≤ 200 ∧ ∀ H',i4 H H' → Q (.bl (dB (ns.Pairwise (· < ·)))) H'
def ao9 (K:PySem.W.Frag):Sp:=fun vs H Q _=>∃ (a b:Addr) (h:Hall) (as:List Addr) (ks:List Call),vs = [.ref a,.ref b] ∧ SqT K H a (h.row.map V.int) ∧ h.Ok ∧ SqL K H b (as.map V.ref) ∧ h9 H as ks ∧ (∀ k ∈ ks,k.In h) ∧ ks.length ≤ 63 ∧
 ∀ H',i4 H H' → Q (.bl (dB (ks.Pairwise (Fit h)))) H'
theorem ap9:∀ ns:List Int,(ns.zip ns.tail).all (id ∘ fun p=>decide (p.1 < p.2)) = true ↔ ns.Pairwise (· < ·)
 | []=>by simp
 | [a]=>by simp
 | a :: b :: t=>by
  have ih:=ap9 (b :: t)
  rw [List.tail_cons] at ih ⊢
  rw [List.zip_cons_cons,List.all_cons,Bool.and_eq_true,List.pairwise_cons,ih]
  constructor
  ·rintro ⟨h1,h2⟩
   have h1':a < b:=of_decide_eq_true h1
   refine ⟨fun x hx=>?_,h2⟩
   rcases List.mem_cons.mp hx with rfl | q
   ·exact h1'
   ·exact Int.lt_trans h1' ((List.pairwise_cons.mp h2).1 x q)
  ·rintro ⟨h1,h2⟩
   exact ⟨decide_eq_true (h1 b List.mem_cons_self),h2⟩
theorem ah4 {α β:Type} (n:Nat) (f:α → List β):∀ (ks:List α),(∀ k ∈ ks,(f k).length ≤ n) → ∀ i,((ks.take i).flatMap f).length ≤ n * i
 | [],_,i=>by simp
 | k :: t,h,0=>by simp
 | k :: t,h,i + 1=>by
  rw [List.take_succ_cons,List.flatMap_cons,List.length_append]
  have h1:=h k List.mem_cons_self
  have h2:=ah4 n f t (fun k' hk'=>h k' (List.mem_cons_of_mem _ hk')) i
  rw [Nat.mul_add]
  lia
theorem aj6.same {H H':Hp} {l:Addr} {ds:List (List Int)} (s:i4 H H') (h:aj6 H l ds):aj6 H' l ds:=by
 obtain ⟨as,e1,e2⟩:=h
 exact ⟨as,s _ _ e1,w5 e2 fun a d _ e=>s _ _ e⟩
theorem aj6.push {H:Hp} {l t:Addr} {as:List Addr} {ds:List (List Int)} {d:List Int} (b1:H l = some (.lst (as.map V.ref))) (b2:Paired (fun a d=>H a = some (.tup (d.map V.int))) as ds) (ht:H t = none) :
  aj6 (upd (upd H t (.tup (d.map V.int))) l (.lst (as.map V.ref ++ [.ref t]))) l (ds ++ [d]):=by
 have htl:t ≠ l:=fun z=>by rw [z,b1] at ht; cases ht
 have s1:=d9 ht (.tup (d.map V.int))
 refine ⟨as ++ [t],by rw [d6,List.map_append]; rfl,Paired.snoc (w5 b2 fun a d' _ e=>?_) ?_⟩
 ·have:a ≠ l:=fun z=>by rw [z,b1] at e; cases e
  rw [n5 this]
  exact s1 _ _ e
 ·rw [n5 htl,d6]
section
variable {P:Program} {w:World} {K:PySem.W.Frag} {mg:Str → Option Value} {base:Heap}
theorem aK8 (T:Txt K mg) (D:Def K mg "are_unlike" (top 19) ["some"]):Callee P w K mg base 1 "are_unlike" ["some"] (ap2 K):=by
 refine D.ok V1 (fun vs H Q E h=>?_) (fun f cdv A outer s H vs Q E hr h=>?_)
 ·obtain ⟨p,rfl,_⟩:=h
  rfl
 obtain ⟨p,rfl,⟨ns,hS,hlt,q⟩ | ⟨as,ds,hS,hD,hle,q⟩⟩:=h
 ·refine ⟨_,(e7 (i8 (F4 D1 (i7 (W4 P w) rfl T.m_len boot_len (b4 (z9 (U6 K P w rfl) rfl T.m_set boot_set (b4 (pv 0) d4 b5)) d4 x0)) (i7 (u0 K) rfl T.m_len boot_len (b4 (pv 0) d4 b5)) (n9 _)))),?_⟩
  refine ⟨_,rfl,p,ns,rfl,hS,hlt,fun l hl=>⟨l,ns,rfl,d6,_,rfl,p,_,rfl,.inl ((d9 hl _).seq hS),rfl,?_⟩⟩
  rw [show decide (V.int (((w4 ns).length:Nat):Int) = V.int (((ns.map V.int).length:Nat):Int)) = dB ns.Nodup from aV7 (by
   rw [decide_eq_true_iff,List.length_map,← aJ9]
   constructor
   ·intro z; injection z with z; lia
   ·intro z; rw [z])]
  exact q _ (d9 hl _)
 ·refine ⟨_,(e7 (i8 (F4 D1 (i7 aG7 rfl T.m_len boot_len (b4 (z9 (aM0 K rfl (Room.units9 hr)) rfl T.m_set boot_set (b4 (pv 0) d4 b5)) d4 x0)) (i7 (u0 K) rfl T.m_len boot_len (b4 (pv 0) d4 b5)) (n9 _)))),?_⟩
  have la:=Paired.length hD
  refine ⟨_,rfl,p,as,ds,rfl,hS,hD,hle,fun l hl=>⟨l,_,rfl,d6,_,rfl,p,_,rfl,.inl ((d9 hl _).seq hS),rfl,?_⟩⟩
  rw [show decide (V.int (((met ds ds.length).length:Nat):Int) = V.int (((as.map V.ref).length:Nat):Int)) = dB ds.Nodup from aV7 (by
   rw [decide_eq_true_iff,List.length_map,la,← (aO3 ds).1]
   constructor
   ·intro z; injection z with z; lia
   ·intro z; rw [z])]
  exact q _ (d9 hl _)
theorem aZ7:FnScope ["numbers"] ["numbers"] (d5 (top 9)):=⟨rfl,rfl,rfl,by decide +kernel,rfl,by decide +kernel,by decide +kernel⟩
theorem aS5 (T:Txt K mg) (D:Def K mg "rises" (top 9) ["numbers"]):Callee P w K mg base 1 "rises" ["numbers"] aD8:=by
 refine D.ok aZ7 (fun vs H Q E h=>?_) (fun f cdv A outer s H vs Q E hr h=>?_)
 ·obtain ⟨a,ns,rfl,_⟩:=h
  rfl
 obtain ⟨a,ns,rfl,e,h64,q⟩:=h
 refine ⟨_,(e7 (i8 (i7 (aa5 K rfl) rfl T.m_all boot_all (b4 (D0 (own:=["one","other"]) (fr:=[]) rfl (show CompScope ["numbers"] (d5 (top 9)) _ _ _ from ⟨rfl,by decide +kernel,by decide +kernel,by decide +kernel,by decide +kernel⟩) (bb6 false K rfl T.m_zip (b4 (pv 0) (b4 (aj5 (ai7 K) (pv 0) (au3 d7) at2) d4 n6) b5)) (fun cl C s H ex=>⟨(bp0 K rfl (show (["one","other"]:List Str).Nodup from by decide +kernel) (Nm.mk (i:=0) rfl (Or.inl rfl) (Or.inr rfl)) (Nm.mk (i:=1) rfl (Or.inl rfl) (Or.inr rfl))),E6,(F4 aO8 (pv 0) (pv 1) (n9 _))⟩)) d4 M3)))),?_⟩
 refine ⟨_,rfl,_,rfl,_,rfl,a,_,rfl,SqL.of e,fun p hp=>?_⟩
 have e1:=d6 (H:=H) (a:=p) (o:=.lst (Y1 (ns.map V.int) (some 1) none))
 have s1:=d9 hp (.lst (Y1 (ns.map V.int) (some 1) none))
 generalize upd H p (.lst (Y1 (ns.map V.int) (some 1) none)) = H1 at e1 s1 ⊢
 rw [bp9] at e1
 have hlen:(ns.map V.int).length ≤ 200:=by rw [List.length_map]; exact h64
 have et:(ns.map V.int).tail = ns.tail.map V.int:=(List.map_tail ..).symm
 refine ⟨a,p,ns.map V.int,(ns.map V.int).tail,rfl,SqL.of (s1 _ _ e),SqL.of e1,?_⟩
 refine aY1 (b:=false) (xs:=ns.map V.int) (ys:=(ns.map V.int).tail) (fun i acc σ H'=>i4 H1 H' ∧ acc = ((ns.zip ns.tail).take i).map (fun p=>V.bl (decide (p.1 < p.2))) ∧ ∃ v0 v1,σ = [v0,v1])
  ⟨i4.refl H1,rfl,none,none,rfl⟩ (Nat.le_of_lt (j9 (by lia))) (fun i acc σ H' h=>?_) (fun i acc σ H' _ _ h=>?_) ?_ ?_
 ·obtain ⟨_,rfl,_⟩:=h
  rw [List.length_map,List.length_take]
  lia
 ·obtain ⟨s2,_⟩:=h
  exact ⟨SqL.of (s2 _ _ (s1 _ _ e)),SqL.of (s2 _ _ e1)⟩
 ·rintro i x y acc σ H' p hxi hyi ⟨s2,rfl,v0,v1,rfl⟩ hpn
  rw [et] at hyi
  rw [List.getElem?_map] at hxi hyi
  obtain ⟨n,hn,rfl⟩:=Option.map_eq_some_iff.mp hxi
  obtain ⟨m,hm,rfl⟩:=Option.map_eq_some_iff.mp hyi
  refine ⟨p,[.int n,.int m],rfl,SqT.of d6,rfl,.int n,[.int m],rfl,.int m,[],rfl,rfl,?_⟩
  refine ⟨_,rfl,_,rfl,_,_,rfl,rfl,s2.trans (d9 hpn _),?_,_,_,rfl⟩
  have hz:(ns.zip ns.tail)[i]? = some (n,m):=by rw [List.getElem?_zip_eq_some]; exact ⟨hn,hm⟩
  rw [List.take_succ,hz,List.map_append]
  rfl
 ·rintro acc σ H' ⟨s2,rfl,v0,v1,rfl⟩ l hl
  have hm:min (ns.map V.int).length (ns.map V.int).tail.length = (ns.zip ns.tail).length:=by rw [List.length_zip,et,List.length_map,List.length_map]
  rw [hm,List.take_length]
  refine ⟨l,(ns.zip ns.tail).map (fun p=>decide (p.1 < p.2)),rfl,SqL.of (by rw [d6,List.map_map]; rfl),?_⟩
  rw [List.all_map,show (ns.zip ns.tail).all (id ∘ fun p=>decide (p.1 < p.2)) = dB (ns.Pairwise (· < ·)) from aV7 (ap9 ns)]
  exact q _ ((s1.trans s2).trans (d9 hl _))
theorem N4:FnScope ["hall","call","lines","rack"] ["hall","call"] (d5 (top 18)):=⟨rfl,rfl,rfl,by decide +kernel,rfl,by decide +kernel,by decide +kernel⟩
theorem aW5 (T:Txt K mg) (C_place_in:Callee P w K mg base 1 "place_in" ["hall","caller"] (L4 K Hall.c)) (C_racks_of:Callee P w K mg base 2 "racks_of" ["hall","ends"] (M9 K)) (D:Def K mg "held_lines" (top 18) ["hall","call"]):Callee P w K mg base 3 "held_lines" ["hall","call"] (ax8 K):=by
 refine D.ok N4 (fun vs H Q E h=>?_) (fun f cdv A outer s H vs Q E hr h=>?_)
 ·obtain ⟨a,p,h,k,rfl,_⟩:=h
  rfl
 obtain ⟨a,p,h,k,rfl,hH,ok,⟨e,ee,ep⟩,hk,q⟩:=h
 refine ⟨_,(d8 (j8 (i:=2) N4.nd rfl (Or.inl rfl) (B0 (b4 (A9 (b4 d7 (b4 (i6 (e8 K) (m7 C_place_in hr rfl (b4 (pv 0) (b4 (i6 (e8 K) (pv 1) d7 (fun _ _=>rfl)) d4 n6) b5)) d7 (fun _ _=>rfl)) (b4 (i6 (e8 K) (pv 1) d7 (fun _ _=>rfl)) d4 n6) n6) q0)) d4 S2)))
  (d8 (y8 PassesOwn.never rfl (o6 K (m7 C_racks_of hr rfl (b4 (pv 0) (b4 (i6 (e8 K) (pv 1) d7 (fun _ _=>rfl)) d4 n6) b5))) (m9 (i:=3) N4.nd rfl (Or.inl rfl))
  (e7 (D6 (Q1 K PySem.F.plainAttrs_list PySem.F.slot_list_append PySem.F.type_list_append J6 (pv 2) (b4 (A9 (b4 d7 (b4 (i6 (e8 K) (pv 1) d7 (fun _ _=>rfl)) (b4 (pv 3) d4 b5) n6) q0)) d4 S2)))))
  (e7 (i8 (pv 2))))),?_⟩
 refine ⟨_,rfl,_,rfl,p,_,_,_,rfl,rfl,SqT.of ep,rfl,a,h,k.c,rfl,hH,ok,fun r hr2=>?_⟩
 have er:=d6 (H:=H) (a:=r) (o:=.tup [.int (k.c / h.c),.int (k.c % h.c)])
 have s1:=d9 hr2 (.tup [.int (k.c / h.c),.int (k.c % h.c)])
 generalize upd H r (.tup [.int (k.c / h.c),.int (k.c % h.c)]) = H1 at er s1 ⊢
 refine ⟨r,_,_,_,rfl,rfl,SqT.of er,rfl,_,rfl,p,_,_,_,rfl,rfl,SqT.of (s1 _ _ ep),rfl,(by show 3 ≤ sizeLine; decide),fun t ht=>?_⟩
 dsimp only [G0]
 have et:=d6 (H:=H1) (a:=t) (o:=.tup [.int 0,.int (k.c / h.c),.int k.k])
 have s2:=s1.trans (d9 ht (.tup [.int 0,.int (k.c / h.c),.int k.k]))
 generalize upd H1 t (.tup [.int 0,.int (k.c / h.c),.int k.k]) = H2 at et s2 ⊢
 refine ⟨(by show 1 ≤ sizeLine; decide),fun l hl=>?_⟩
 have el:=d6 (H:=H2) (a:=l) (o:=.lst [.ref t])
 have s3:=s2.trans (d9 hl (.lst [.ref t]))
 have et3:=d9 hl (.lst [.ref t]) _ _ et
 have hlH:H l = none:=s2.free hl
 generalize upd H2 l (.lst [.ref t]) = H3 at el s3 et3 ⊢
 have bag3:aj6 H3 l [[0,k.c / h.c,k.k]]:=⟨[t],el,.cons et3 .nil⟩
 have rl:=J8 h k.es
 have few:=hk.few
 refine ⟨_,rfl,_,rfl,p,_,_,_,rfl,rfl,SqT.of (s3 _ _ ep),rfl,a,e,h,k.es,rfl,i4.seqT s3 hH,ok,.inl (SqT.of (s3 _ _ ee)),by lia,fun rl2 H4 s4 hrl er4=>?_⟩
 refine ⟨rl2,rfl,⟨_,SqL.of er4⟩,?_⟩
 have hne:rl2 ≠ l:=fun z=>by
  rw [z,el] at hrl
  cases hrl
 have bag4:aj6 H4 l [[0,k.c / h.c,k.k]]:=bag3.same s4
 have s34:=s3.trans s4
 refine w6 (xs:=(g9 h k.es).map V.int) (fun i σ H'=>i4 H H' ∧ H' rl2 = some (.lst ((g9 h k.es).map V.int)) ∧ aj6 H' l ([0,k.c / h.c,k.k] :: ((g9 h k.es).take i).map fun r=>[1,k.k,r]) ∧ ∃ v3,σ = [some (.ref a),some (.ref p),some (.ref l),v3])
  ⟨s34,er4,bag4,none,rfl⟩ (fun i σ H' _ gg=>SqL.of gg.2.1) ?_ ?_
 ·rintro i x σ H' hx ⟨s5,e5,⟨as,b1,b2⟩,v3,rfl⟩
  rw [List.getElem?_map] at hx
  obtain ⟨r,hr2,rfl⟩:=Option.map_eq_some_iff.mp hx
  refine ⟨_,rfl,.inl ⟨rfl,_,SqL.of b1⟩,_,rfl,p,_,_,_,rfl,rfl,SqT.of (s5 _ _ ep),rfl,_,rfl,(by show 3 ≤ sizeLine; decide),fun t2 ht2=>?_⟩
  have htl:t2 ≠ l:=fun z=>by rw [z,b1] at ht2; cases ht2
  have htr:t2 ≠ rl2:=fun z=>by rw [z,e5] at ht2; cases ht2
  have hn:=Paired.length b2
  refine ⟨l,as.map V.ref,.ref t2,rfl,rfl,by rw [n5 (Ne.symm htl)]; exact b1,j9 (by rw [List.length_map,hn,List.length_cons,List.length_map,List.length_take]; lia),?_⟩
  refine ⟨i4.put (s5.trans (d9 ht2 _)) hlH,by rw [n5 hne,n5 (Ne.symm htr)]; exact e5,?_,_,rfl⟩
  have:=aj6.push (d:=[1,k.k,r]) b1 b2 ht2
  rw [List.take_succ,hr2,List.map_append]
  exact this
 ·rintro σ H5 ⟨s5,e5,bag5,v3,rfl⟩
  rw [List.length_map,List.take_length] at bag5
  exact ⟨_,rfl,q l H5 s5 hlH bag5⟩
theorem N2:FnScope ["hall","calls","ends","lines","call"] ["hall","calls"] (d5 (top 20)):=⟨rfl,rfl,rfl,by decide +kernel,rfl,by decide +kernel,by decide +kernel⟩
set_option maxHeartbeats 4000000 in
theorem aF6 (T:Txt K mg) (C_held_lines:Callee P w K mg base 3 "held_lines" ["hall","call"] (ax8 K)) (C_rises:Callee P w K mg base 1 "rises" ["numbers"] aD8) (C_are_unlike:Callee P w K mg base 1 "are_unlike" ["some"] (ap2 K)) (D:Def K mg "is_right" (top 20) ["hall","calls"]):Callee P w K mg base 4 "is_right" ["hall","calls"] (ao9 K):=by
 refine D.ok N2 (fun vs H Q E h=>?_) (fun f cdv A outer s H vs Q E hr h=>?_)
 ·obtain ⟨a,b,h,as,ks,rfl,_⟩:=h
  rfl
 obtain ⟨a,b,h,as,ks,rfl,hH,ok,hB,hC,hin,h95,q⟩:=h
 have la:=Paired.length hC
 have few:∀ i,((ks.take i).flatMap Call.es).length ≤ 12 * i:=fun i=>ah4 12 Call.es ks (fun k hk=>(hin k hk).few) i
 have few2:∀ i,((ks.take i).flatMap (C0 h)).length ≤ 13 * i:=fun i=>ah4 13 (C0 h) ks (fun k hk=>by
  have h1:=(hin k hk).few
  have h2:=J8 h k.es
  unfold C0
  rw [List.length_cons,List.length_map]
  lia) i
 refine ⟨_,(d8 (j8 (i:=2) N2.nd rfl (Or.inl rfl) (B0 d4))
  (d8 (j8 (i:=3) N2.nd rfl (Or.inl rfl) (B0 d4))
  (d8 (y8 PassesOwn.never rfl (o6 K (pv 1)) (m9 (i:=4) N2.nd rfl (Or.inl rfl))
  (d8 (D6 (Q1 K PySem.F.plainAttrs_list PySem.F.slot_list_extend PySem.F.type_list_extend (ah8 K) (pv 2) (b4 (i6 (e8 K) (pv 4) d7 (fun _ _=>rfl)) d4 n6)))
  (e7 (D6 (Q1 K PySem.F.plainAttrs_list PySem.F.slot_list_extend PySem.F.type_list_extend aL9 (pv 3) (b4 (m7 C_held_lines hr rfl (b4 (pv 0) (b4 (pv 4) d4 b5) b5)) d4 x0))))))
  (e7 (i8 (S1 (m7 C_rises hr rfl (b4 (D0 (own:=["call"]) (fr:=[]) rfl (show CompScope ["hall","calls","ends","lines","call"] (d5 (top 20)) _ _ _ from ⟨rfl,by decide +kernel,by decide +kernel,by decide +kernel,by decide +kernel⟩) (o6 K (pv 1)) (fun cl C s H ex=>⟨(m9 (i:=0) (show (["call"]:List Str).Nodup from by decide +kernel) rfl (Or.inl rfl) (Or.inr rfl)),E6,(i6 (e8 K) (pv 0) d7 (fun _ _=>rfl))⟩)) d4 M3)) (S1 (m7 C_are_unlike hr rfl (b4 (pv 2) d4 b5)) (ab1 (m7 C_are_unlike hr rfl (b4 (pv 3) d4 b5)))))))))),?_⟩
 refine ⟨(by show 0 ≤ sizeLine; decide),fun le hle=>?_⟩
 have e1:=d6 (H:=H) (a:=le) (o:=.lst [])
 have s1:=d9 hle (.lst [])
 generalize upd H le (.lst []) = H1 at e1 s1 ⊢
 refine ⟨(by show 0 ≤ sizeLine; decide),fun ll hll=>?_⟩
 have e2:=d6 (H:=H1) (a:=ll) (o:=.lst [])
 have s2:=d9 hll (.lst [])
 have hllH:=s1.free hll
 have e1':=s2 _ _ e1
 have hne:le ≠ ll:=fun z=>by rw [← z,e1] at hll; cases hll
 generalize upd H1 ll (.lst []) = H2 at e2 s2 e1' ⊢
 have s12:=s1.trans s2
 refine ⟨_,rfl,b,rfl,⟨_,s12.seq hB⟩,?_⟩
 refine w6 (xs:=as.map V.ref) (fun i σ H'=>i4 H H' ∧ H' le = some (.lst (((ks.take i).flatMap Call.es).map V.int)) ∧ aj6 H' ll ((ks.take i).flatMap (C0 h)) ∧ ∃ v4,σ = [some (.ref a),some (.ref b),some (.ref le),some (.ref ll),v4])
  ⟨s12,e1',⟨[],e2,.nil⟩,none,rfl⟩ (fun i σ H' _ gg=>gg.1.seq hB) ?_ ?_
 ·rintro i x σ H' hx ⟨s3,d1,⟨ts,d2,d3⟩,v4,rfl⟩
  rw [List.getElem?_map] at hx
  obtain ⟨p,hp,rfl⟩:=Option.map_eq_some_iff.mp hx
  obtain ⟨k,hk,⟨e,ee,ep⟩⟩:=j7 hC i p hp
  have hkm:=List.mem_of_getElem? hk
  have hi:i < 63:=by
   have:=(List.getElem?_eq_some_iff.mp hk).1
   lia
  have f1:=few i
  have f2:=few2 i
  have f3:=(hin k hkm).few
  have hts:=Paired.length d3
  refine ⟨_,rfl,.inl ⟨rfl,_,SqL.of d1⟩,_,rfl,p,_,_,_,rfl,rfl,SqT.of (s3 _ _ ep),rfl,le,e,_,_,rfl,rfl,d1,SqT.of (s3 _ _ ee),Nat.le_of_lt (j9 (by rw [List.length_map,List.length_map]; lia)),?_⟩
  have t1:upd H' le (.lst (((ks.take i).flatMap Call.es).map V.int ++ k.es.map V.int)) le = some (.lst (((ks.take (i + 1)).flatMap Call.es).map V.int)):=by
   rw [d6,List.take_succ,hk,List.flatMap_append,List.map_append]
   simp
  have s4:i4 H (upd H' le (.lst (((ks.take i).flatMap Call.es).map V.int ++ k.es.map V.int))):=i4.put s3 hle
  have d2':upd H' le (.lst (((ks.take i).flatMap Call.es).map V.int ++ k.es.map V.int)) ll = some (.lst (ts.map V.ref)):=by rw [n5 (Ne.symm hne)]; exact d2
  have d3':Paired (fun a d=>upd H' le (.lst (((ks.take i).flatMap Call.es).map V.int ++ k.es.map V.int)) a = some (.tup (d.map V.int))) ts ((ks.take i).flatMap (C0 h)):=w5 d3 fun a d _ z=>by
   have:a ≠ le:=fun y=>by rw [y,d1] at z; cases z
   rw [n5 this]; exact z
  generalize upd H' le (.lst (((ks.take i).flatMap Call.es).map V.int ++ k.es.map V.int)) = H4 at t1 s4 d2' d3' ⊢
  refine ⟨_,rfl,.inl ⟨rfl,_,SqL.of d2'⟩,_,rfl,_,rfl,a,p,h,k,rfl,i4.seqT s4 hH,ok,⟨e,s4 _ _ ee,s4 _ _ ep⟩,hin k hkm,fun nl H5 s5 hnl ⟨us,g1,g2⟩=>?_⟩
  have hus:=Paired.length g2
  have f4:(C0 h k).length ≤ 13:=by
   have h2:=J8 h k.es
   unfold C0
   rw [List.length_cons,List.length_map]
   lia
  refine ⟨ll,nl,_,_,rfl,rfl,s5 _ _ d2',g1,Nat.le_of_lt (j9 (by rw [List.length_map,List.length_map]; lia)),?_⟩
  refine ⟨i4.put (s4.trans s5) hllH,by rw [n5 hne]; exact s5 _ _ t1,⟨ts ++ us,by rw [d6,List.map_append],?_⟩,_,rfl⟩
  rw [List.take_succ,hk,List.flatMap_append,show (some k).toList.flatMap (C0 h) = C0 h k by simp]
  have up:∀ (c:Addr) (d:List Int),H5 c = some (.tup (d.map V.int)) → upd H5 ll (.lst (ts.map V.ref ++ us.map V.ref)) c = some (.tup (d.map V.int)):=fun c d z=>by
   have:c ≠ ll:=fun y=>by rw [y,s5 _ _ d2'] at z; cases z
   rw [n5 this]; exact z
  exact ag8 (w5 d3' fun c d _ z=>up c d (s5 _ _ z)) (w5 g2 fun c d _ z=>up c d z)
 ·rintro σ H' ⟨s3,d1,⟨ts,d2,d3⟩,v4,rfl⟩
  rw [List.length_map,la,List.take_length] at d1 d3
  have f1:=few ks.length
  have f2:=few2 ks.length
  rw [List.take_length] at f1 f2
  have hin':∀ k ∈ ks,k.es.Nodup:=fun k hk=>y6 (hin k hk).rise
  have nope:¬ ((ks.map Call.c).Pairwise (· < ·) ∧ (ks.flatMap Call.es).Nodup ∧ (ks.flatMap (C0 h)).Nodup) → dB (ks.Pairwise (Fit h)) = false:=fun z=>aD6 fun y=>z (by
   obtain ⟨a1,a2,a3⟩:=(ar9 hin').mpr y
   exact ⟨a1,a2,a3⟩)
  refine ⟨_,rfl,b,rfl,⟨_,s3.seq hB⟩,?_⟩
  refine B2 (xs:=as.map V.ref) (fun i acc σ H''=>H'' = H' ∧ acc = (ks.take i).map (fun k=>V.int k.c) ∧ ∃ v,σ = [v])
   ⟨rfl,rfl,none,rfl⟩ (Nat.le_of_lt (j9 (by rw [List.length_map]; lia))) (fun i acc σ H'' g=>?_) (fun i acc σ H'' _ g=>by rw [g.1]; exact s3.seq hB) ?_ ?_
  ·obtain ⟨_,rfl,_⟩:=g
   rw [List.length_map,List.length_take]
   lia
  ·rintro i x acc σ H'' hx ⟨rfl,rfl,v,rfl⟩
   rw [List.getElem?_map] at hx
   obtain ⟨p,hp,rfl⟩:=Option.map_eq_some_iff.mp hx
   obtain ⟨k,hk,⟨e,ee,ep⟩⟩:=j7 hC i p hp
   refine ⟨_,rfl,p,_,_,_,rfl,rfl,SqT.of (s3 _ _ ep),rfl,rfl,?_,_,rfl⟩
   rw [List.take_succ,hk,List.map_append]
   rfl
  ·rintro acc σ H'' ⟨rfl,rfl,v,rfl⟩ lc hlc
   rw [List.length_map,la,List.take_length]
   have ec:upd H'' lc (.lst (ks.map fun k=>V.int k.c)) lc = some (.lst ((ks.map Call.c).map V.int)):=by rw [d6,List.map_map]; rfl
   have s4:=d9 hlc (.lst (ks.map fun k=>V.int k.c))
   generalize upd H'' lc (.lst (ks.map fun k=>V.int k.c)) = H4 at ec s4 ⊢
   have s34:=s3.trans s4
   refine ⟨lc,_,rfl,ec,by rw [List.length_map]; lia,fun H5 s5=>⟨_,rfl,?_⟩⟩
   by_cases c1:(ks.map Call.c).Pairwise (· < ·)
   ·refine aY0 (ab2 c1) ?_
    refine ⟨_,rfl,le,rfl,.inl ⟨_,SqL.of (s5 _ _ (s4 _ _ d1)),by lia,fun H6 s6=>⟨_,rfl,?_⟩⟩⟩
    by_cases c2:(ks.flatMap Call.es).Nodup
    ·refine aY0 (ab2 c2) ?_
     have s46:=(s4.trans s5).trans s6
     refine ⟨_,rfl,ll,rfl,.inr ⟨ts,_,SqL.of (s46 _ _ d2),w5 d3 fun c d _ z=>SqT.of (s46 _ _ z),by lia,fun H7 s7=>?_⟩⟩
     have:dB (ks.flatMap (C0 h)).Nodup = dB (ks.Pairwise (Fit h)):=by
      by_cases c3:(ks.flatMap (C0 h)).Nodup
      ·rw [ab2 c3,ab2 ((ar9 hin').mp ⟨c1,c2,c3⟩)]
      ·rw [aD6 c3,nope fun z=>c3 z.2.2]
     rw [this]
     exact q _ ((s3.trans s46).trans s7)
    ·refine au0 (by rw [aD6 c2]; decide) ?_
     have:=q _ ((s34.trans s5).trans s6)
     rw [nope fun z=>c2 z.2.1] at this
     exact this
   ·refine au0 (by rw [aD6 c1]; decide) ?_
    have:=q _ (s34.trans s5)
    rw [nope fun z=>c1 z.1] at this
    exact this
end
theorem aX1 {h:Hall} {k k':Call} (f:C8 h k k') (c:k.c < k'.c):Fit h k k':=by
 refine ⟨c,fun e h1 h2=>f (af2 e) (o9.mpr (.inr (.inr (.inr ⟨e,h1,rfl⟩)))) (o9.mpr (.inr (.inr (.inr ⟨e,h2,rfl⟩)))),?_⟩
 rintro ⟨e,z | ⟨e1,h1,h2⟩⟩
 ·exact f (nIn (k.c / h.c) k.k) (o9.mpr (.inl rfl)) (o9.mpr (.inl (by rw [z,e])))
 ·obtain ⟨e2,h3,h4⟩:=List.mem_map.mp h2
  exact f (I9 (e1 / h.e) k.k) (o9.mpr (.inr (.inl ⟨e1,h1,rfl⟩))) (o9.mpr (.inr (.inl ⟨e2,h3,by rw [← e,h4]⟩)))
structure Mv where
 c:Int
 k:Int
 o:Int
def a_7 (H:Hp) (p:Addr) (m:Mv):Prop:=H p = some (.tup [.int m.c,.int m.k,.int m.o])
def B7 (H:Hp) (as:List Addr) (ms:List Mv):Prop:=Paired (a_7 H) as ms
theorem B7.same {H H':Hp} {as:List Addr} {ms:List Mv} (s:∀ b xs,H b = some (.tup xs) → H' b = some (.tup xs)) (h:B7 H as ms):B7 H' as ms:=by
 unfold B7 at h ⊢
 exact w5 h fun a d _ e=>s _ _ e
def Ok1 (h:Hall) (ks:List Call) (pre:List Mv) (m:Mv):Prop:=(∀ m' ∈ pre,m'.c ≠ m.c) ∧ (∃ k ∈ ks,k.c = m.c ∧ k.k = m.k) ∧ 0 ≤ m.o ∧ m.o < h.m
def ap5 (h:Hall) (ks:List Call) (ms:List Mv):Prop:=∀ (i:Nat) m,ms[i]? = some m → Ok1 h ks (ms.take i) m
def A5 (ms:List Mv) (c:Int):Option Int:=(ms.find? fun m=>decide (m.c = c)).map Mv.o
def aW1 (ms:List Mv) (k:Call):Call:=⟨k.c,k.es,(A5 ms k.c).getD k.k⟩
def o7 (ks:List Call) (ms:List Mv):List Call:=ks.map (aW1 ms)
theorem as1 {pre:List Mv} {m:Mv} (h:∀ m' ∈ pre,m'.c ≠ m.c) (c:Int):A5 (pre ++ [m]) c = if c = m.c then some m.o else A5 pre c:=by
 unfold A5
 rw [List.find?_append]
 by_cases e:c = m.c
 ·rw [if_pos e,List.find?_eq_none.mpr fun m' hm'=>by simp [e,h m' hm']]
  simp [e]
 ·rw [if_neg e]
  cases hf:pre.find? (fun m=>decide (m.c = c)) with
  | some x=>rfl
  | none=>simp [Ne.symm e]
theorem ah0 {ms:List Mv} {c o:Int} (h:A5 ms c = some o):∃ m ∈ ms,m.c = c ∧ m.o = o:=by
 unfold A5 at h
 obtain ⟨m,hm,rfl⟩:=Option.map_eq_some_iff.mp h
 exact ⟨m,List.mem_of_find?_eq_some hm,by simpa using List.find?_some hm,rfl⟩
theorem aN1 {h:Hall} {ks:List Call} {ms:List Mv} (hin:∀ k ∈ ks,k.In h) (hm:∀ m ∈ ms,0 ≤ m.o ∧ m.o < h.m):∀ k ∈ o7 ks ms,k.In h:=fun k hk=>by
 obtain ⟨k0,hk0,rfl⟩:=List.mem_map.mp hk
 have i:=hin k0 hk0
 refine ⟨i.c,i.rise,i.es,i.some,i.few,?_⟩
 show 0 ≤ (A5 ms k0.c).getD k0.k ∧ (A5 ms k0.c).getD k0.k < h.m
 cases e:A5 ms k0.c with
 | none=>exact i.k
 | some o =>
  obtain ⟨m,h1,_,h2⟩:=ah0 e
  rw [← h2]
  exact hm m h1
theorem ap5.pre {h:Hall} {ks:List Call} {ms:List Mv} (v:ap5 h ks ms):∀ m ∈ ms,0 ≤ m.o ∧ m.o < h.m:=fun m hm=>by
 obtain ⟨i,hi⟩:=List.mem_iff_getElem?.mp hm
 exact (v i m hi).2.2
theorem aI3 {ks:List Call} (up:ks.Pairwise fun k k'=>k.c < k'.c) {k k':Call} (hk:k ∈ ks) (hk':k' ∈ ks) (e:k.c = k'.c):k = k':=by
 obtain ⟨i,hi⟩:=List.mem_iff_getElem?.mp hk
 obtain ⟨j,hj⟩:=List.mem_iff_getElem?.mp hk'
 obtain ⟨q1,z1⟩:=List.getElem?_eq_some_iff.mp hi
 obtain ⟨q2,z2⟩:=List.getElem?_eq_some_iff.mp hj
 rcases Nat.lt_trichotomy i j with w | w | w
 ·have:=(List.pairwise_iff_getElem.mp up) i j q1 q2 w
  rw [z1,z2] at this
  lia
 ·subst w
  rw [hi] at hj
  injection hj
 ·have:=(List.pairwise_iff_getElem.mp up) j i q2 q1 w
  rw [z1,z2] at this
  lia
def aY4 (h:Hall) (ks:List Call) (ms:List Mv) (i:Nat):Prop:=∀ (j:Nat) m,j < i → ms[j]? = some m → Ok1 h ks (ms.take j) m
theorem aS1 (h:Hall) (ks:List Call) (ms:List Mv):aY4 h ks ms 0:=fun _ _ z=>absurd z (Nat.not_lt_zero _)
theorem aR7 {h:Hall} {ks:List Call} {ms:List Mv} {i:Nat} {m:Mv} (u:aY4 h ks ms i) (hm:ms[i]? = some m) (o:Ok1 h ks (ms.take i) m):aY4 h ks ms (i + 1):=fun j m' hj hm'=>by
 by_cases e:j = i
 ·subst e
  rw [hm] at hm'
  injection hm' with hm'
  rw [← hm']
  exact o
 ·exact u j m' (by lia) hm'
theorem aZ3 {h:Hall} {ks:List Call} {ms:List Mv} (u:aY4 h ks ms ms.length):ap5 h ks ms:=fun i m hm=>u i m (List.getElem?_eq_some_iff.mp hm).1 hm
def aj3 (h:Hall) (ks:List Call) (ms:List Mv):Prop:=ap5 h ks ms ∧ (o7 ks ms).Pairwise (Fit h)
def an0 (K:PySem.W.Frag):Sp:=fun vs H Q _=>∃ (l g:Addr) (as:List Addr) (ks:List Call) (cs:List Int) (a b:Int),vs = [.ref l,.ref g,.int a,.int b] ∧ SqL K H l (as.map V.ref) ∧ h9 H as ks ∧ ks.Pairwise (fun k k'=>k.c < k'.c) ∧ SqL K H g (cs.map V.int) ∧ cs.length ≤ 63 ∧ (∀ c ∈ cs,∃ k ∈ ks,k.c = c) ∧
 ∀ (ml:Addr) (mas:List Addr) (ms:List Mv) (H':Hp),i4 H H' → H' ml = some (.lst (mas.map V.ref)) → B7 H' mas ms → ms.length = cs.length → (∀ (j:Nat) m k,ms[j]? = some m → k ∈ ks → some k.c = cs[j]? → m = ⟨k.c,k.k,if k.k = a then b else a⟩) → Q (.ref ml) H'
def az3 (K:PySem.W.Frag):Sp:=fun vs H Q _=>∃ (a l g p:Addr) (h:Hall) (as:List Addr) (ks:List Call) (kvs:List (Key × V)) (pre:List Mv) (m:Mv),vs = [.ref a,.ref l,.ref g,.ref p] ∧ SqT K H a (h.row.map V.int) ∧ h.Ok ∧ SqL K H l (as.map V.ref) ∧ h9 H as ks ∧ ks.Pairwise (fun k k'=>k.c < k'.c) ∧ H g = some (.dK kvs) ∧ (∀ c,(D4 kvs (.inl c)).isSome = true ↔ ∃ m' ∈ pre,m'.c = c) ∧ a_7 H p m ∧
 (Ok1 h ks pre m → Q .non H) ∧ (¬ Ok1 h ks pre m → False)
def aM5 (K:PySem.W.Frag):Sp:=fun vs H Q _=>∃ (a l ml:Addr) (h:Hall) (as mas:List Addr) (ks:List Call) (ms:List Mv),vs = [.ref a,.ref l,.ref ml] ∧ SqT K H a (h.row.map V.int) ∧ h.Ok ∧ SqL K H l (as.map V.ref) ∧ h9 H as ks ∧ (∀ k ∈ ks,k.In h) ∧ ks.Pairwise (fun k k'=>k.c < k'.c) ∧ ks.length ≤ 63 ∧ SqL K H ml (mas.map V.ref) ∧ B7 H mas ms ∧ ms.length ≤ 100 ∧
 (aj3 h ks ms → ∀ (f:Addr) (bs:List Addr) (H':Hp),i4 H H' → H' f = some (.lst (bs.map V.ref)) → h9 H' bs (o7 ks ms) → Q (.ref f) H') ∧ (¬ aj3 h ks ms → ∀ H':Hp,i4 H H' → False)
section
variable {P:Program} {w:World} {K:PySem.W.Frag} {mg:Str → Option Value} {base:Heap}
theorem N0:FnScope ["calls","chain","a","b","moves","caller","k"] ["calls","chain","a","b"] (d5 (top 42)):=⟨rfl,rfl,rfl,by decide +kernel,rfl,by decide +kernel,by decide +kernel⟩
theorem aD4 (T:Txt K mg) (C_call_of:Callee P w K mg base 2 "call_of" ["calls","caller"] (Z1 K)) (D:Def K mg "moves_of" (top 42) ["calls","chain","a","b"]):Callee P w K mg base 3 "moves_of" ["calls","chain","a","b"] (an0 K):=by
 refine D.ok N0 (fun vs H Q E h=>?_) (fun ff cdv A outer s H vs Q E hr h=>?_)
 ·obtain ⟨l,g,as,ks,cs,a,b,rfl,_⟩:=h
  rfl
 obtain ⟨l,g,as,ks,cs,a,b,rfl,hL,hC,up,hG,h63,hcs,q⟩:=h
 refine ⟨_,(d8 (j8 (i:=4) N0.nd rfl (Or.inl rfl) (B0 d4))
  (d8 (y8 PassesOwn.never rfl (o6 K (pv 1)) (m9 (i:=5) N0.nd rfl (Or.inl rfl))
  (d8 (j8 (i:=6) N0.nd rfl (Or.inl rfl) (i6 (e8 K) (m7 C_call_of hr rfl (b4 (pv 0) (b4 (pv 5) d4 b5) b5)) d7 (fun _ _=>rfl)))
  (e7 (D6 (Q1 K PySem.F.plainAttrs_list PySem.F.slot_list_append PySem.F.type_list_append J6 (pv 4) (b4 (A9 (b4 (pv 5) (b4 (pv 6) (b4 (a81 (m5 D1 (pv 6) (pv 2) (n9 _)) (pv 3) (pv 2)) d4 bl4) b5) b5)) d4 S2))))))
  (e7 (i8 (pv 4))))),?_⟩
 refine ⟨(by show 0 ≤ sizeLine; decide),fun f hf=>?_⟩
 have ef:=d6 (H:=H) (a:=f) (o:=.lst [])
 have s1:=d9 hf (.lst [])
 generalize upd H f (.lst []) = H1 at ef s1 ⊢
 refine ⟨_,rfl,g,rfl,⟨_,s1.seq hG⟩,?_⟩
 refine w6 (xs:=cs.map V.int) (fun i σ H'=>i4 H H' ∧ (∃ (mas:List Addr) (ms:List Mv),H' f = some (.lst (mas.map V.ref)) ∧ B7 H' mas ms ∧ ms.length = i ∧ ∀ (j:Nat) m k,ms[j]? = some m → k ∈ ks → some k.c = cs[j]? → m = ⟨k.c,k.k,if k.k = a then b else a⟩) ∧ ∃ v5 v6,σ = [some (.ref l),some (.ref g),some (.int a),some (.int b),some (.ref f),v5,v6])
  ⟨s1,⟨[],[],ef,.nil,rfl,fun j m k z=>by simp at z⟩,_,_,rfl⟩ (fun i σ H' _ gg=>gg.1.seq hG) ?_ ?_
 ·rintro i y σ H' hy ⟨s2,⟨mas,ms,e2,hm,hl,hj⟩,v5,v6,rfl⟩
  rw [List.getElem?_map] at hy
  obtain ⟨c,hc,rfl⟩:=Option.map_eq_some_iff.mp hy
  have hi:i < 63:=by
   have:=(List.getElem?_eq_some_iff.mp hc).1
   lia
  refine ⟨_,rfl,_,rfl,l,.int c,as,ks,rfl,s2.seq hL,h9.same (fun b xs z=>s2 _ _ z) hC,.int c,.inr ⟨c,rfl,fun v hv=>?_⟩⟩
  obtain ⟨k0,hk0,hkc⟩:=hcs c (List.mem_of_getElem? hc)
  rcases hv with ⟨_,z⟩ | ⟨j,pa,k,ha,hk,hkc',rfl⟩
  ·exact absurd hkc (z k0 hk0)
  obtain ⟨k',hk',ce,x1,x2⟩:=j7 hC j pa ha
  rw [hk] at hk'
  injection hk' with hk'
  subst hk'
  refine ⟨pa,_,_,_,rfl,rfl,SqT.of (s2 _ _ x2),rfl,?_⟩
  refine ⟨_,rfl,.inl ⟨rfl,_,SqL.of e2⟩,_,rfl,_,rfl,_,rfl,_,rfl,rfl,_,rfl,?_⟩
  refine C3 (fun c1=>?_) (fun c1=>?_)
  ·have c1':k.k = a:=by simpa using c1
   refine ⟨_,rfl,(by show 3 ≤ sizeLine; decide),fun t ht=>?_⟩
   have htf:t ≠ f:=fun z=>by rw [z,e2] at ht; cases ht
   have lm:=Paired.length hm
   have n1:=d9 ht (.tup [.int c,.int k.k,.int (b)])
   have et:=d6 (H:=H') (a:=t) (o:=.tup [.int c,.int k.k,.int (b)])
   generalize upd H' t (.tup [.int c,.int k.k,.int (b)]) = H3 at n1 et ⊢
   have ef3:=n1 _ _ e2
   refine ⟨f,mas.map V.ref,.ref t,rfl,rfl,ef3,j9 (by rw [List.length_map,lm]; lia),?_⟩
   have kt:∀ b xs,H3 b = some (.tup xs) → upd H3 f (.lst (mas.map V.ref ++ [.ref t])) b = some (.tup xs):=fun b xs z=>by
    have:b ≠ f:=fun y=>by rw [y,ef3] at z; cases z
    rw [n5 this]
    exact z
   refine ⟨i4.put (s2.trans n1) hf,⟨mas ++ [t],ms ++ [⟨c,k.k,b⟩],by rw [d6,List.map_append]; rfl,Paired.snoc (B7.same (fun b xs z=>kt _ _ (n1 _ _ z)) hm) (kt _ _ et),by rw [List.length_append,List.length_singleton,hl],fun j' m k2 hm2 hk2 hc2=>?_⟩,_,_,rfl⟩
   rcases Nat.lt_or_ge j' i with w | w
   ·rw [List.getElem?_append_left (by lia)] at hm2
    exact hj j' m k2 hm2 hk2 hc2
   ·have hjl:=(List.getElem?_eq_some_iff.mp hm2).1
    rw [List.length_append,List.length_singleton] at hjl
    have e5:j' = i:=by lia
    subst e5
    rw [List.getElem?_append_right (by lia),hl,Nat.sub_self] at hm2
    injection hm2 with hm2
    rw [hc] at hc2
    injection hc2 with hc2
    have:k2 = k:=aI3 up hk2 (List.mem_of_getElem? hk) (by rw [hc2,hkc'])
    subst this
    rw [← hm2,hc2,if_pos c1']
  ·have c1':¬ k.k = a:=by simpa using c1
   refine ⟨_,rfl,(by show 3 ≤ sizeLine; decide),fun t ht=>?_⟩
   have htf:t ≠ f:=fun z=>by rw [z,e2] at ht; cases ht
   have lm:=Paired.length hm
   have n1:=d9 ht (.tup [.int c,.int k.k,.int (a)])
   have et:=d6 (H:=H') (a:=t) (o:=.tup [.int c,.int k.k,.int (a)])
   generalize upd H' t (.tup [.int c,.int k.k,.int (a)]) = H3 at n1 et ⊢
   have ef3:=n1 _ _ e2
   refine ⟨f,mas.map V.ref,.ref t,rfl,rfl,ef3,j9 (by rw [List.length_map,lm]; lia),?_⟩
   have kt:∀ b xs,H3 b = some (.tup xs) → upd H3 f (.lst (mas.map V.ref ++ [.ref t])) b = some (.tup xs):=fun b xs z=>by
    have:b ≠ f:=fun y=>by rw [y,ef3] at z; cases z
    rw [n5 this]
    exact z
   refine ⟨i4.put (s2.trans n1) hf,⟨mas ++ [t],ms ++ [⟨c,k.k,a⟩],by rw [d6,List.map_append]; rfl,Paired.snoc (B7.same (fun b xs z=>kt _ _ (n1 _ _ z)) hm) (kt _ _ et),by rw [List.length_append,List.length_singleton,hl],fun j' m k2 hm2 hk2 hc2=>?_⟩,_,_,rfl⟩
   rcases Nat.lt_or_ge j' i with w | w
   ·rw [List.getElem?_append_left (by lia)] at hm2
    exact hj j' m k2 hm2 hk2 hc2
   ·have hjl:=(List.getElem?_eq_some_iff.mp hm2).1
    rw [List.length_append,List.length_singleton] at hjl
    have e5:j' = i:=by lia
    subst e5
    rw [List.getElem?_append_right (by lia),hl,Nat.sub_self] at hm2
    injection hm2 with hm2
    rw [hc] at hc2
    injection hc2 with hc2
    have:k2 = k:=aI3 up hk2 (List.mem_of_getElem? hk) (by rw [hc2,hkc'])
    subst this
    rw [← hm2,hc2,if_neg c1']
 ·rintro σ H' ⟨s2,⟨mas,ms,e2,hm,hl,hj⟩,v5,v6,rfl⟩
  exact ⟨_,rfl,q f mas ms H' s2 e2 hm (by rw [hl,List.length_map]) hj⟩
end
section
variable {P:Program} {w:World} {K:PySem.W.Frag} {mg:Str → Option Value} {base:Heap}
theorem T4:FnScope ["hall","calls","goals","move","call"] ["hall","calls","goals","move"] (d5 (top 43)):=⟨rfl,rfl,rfl,by decide +kernel,rfl,by decide +kernel,by decide +kernel⟩
theorem aV3 (T:Txt K mg) (C_call_of:Callee P w K mg base 2 "call_of" ["calls","caller"] (Z1 K)) (C_is_whole:Callee P w K mg base 2 "is_whole" ["thing","least","most"] (U2 K)) (D:Def K mg "refuse_move" (top 43) ["hall","calls","goals","move"]):Callee P w K mg base 3 "refuse_move" ["hall","calls","goals","move"] (az3 K):=by
 refine D.ok T4 (fun vs H Q E h=>?_) (fun ff cdv A outer s H vs Q E hr h=>?_)
 ·obtain ⟨a,l,g,p,h,as,ks,kvs,pre,m,rfl,_⟩:=h
  rfl
 obtain ⟨a,l,g,p,h,as,ks,kvs,pre,m,rfl,hH,ok,hL,hC,up,eg,hg,ep,yes,no⟩:=h
 have o3:=ok.m
 replace ep:H p = some (.tup [.int m.c,.int m.k,.int m.o]):=ep
 have hP:SqT K H p [.int m.c,.int m.k,.int m.o]:=SqT.of ep
 refine ⟨_,(d8 (j8 (i:=4) T4.nd rfl (Or.inl rfl) (m7 C_call_of hr rfl (b4 (pv 1) (b4 (i6 (e8 K) (pv 3) d7 (fun _ _=>rfl)) d4 n6) b5)))
  (d8 (u3 (m5 W8 (pv 4) y7 (n9 _)) (e7 F6) m8)
  (d8 (u3 (aH9 (aI8 (Q4 hr) (i6 (e8 K) (pv 3) d7 (fun _ _=>rfl)) (pv 2))) (e7 F6) m8)
  (d8 (u3 (m5 aO4 (i6 (e8 K) (pv 4) d7 (fun _ _=>rfl)) (i6 (e8 K) (pv 3) d7 (fun _ _=>rfl)) (n9 _)) (e7 F6) m8)
  (e7 (u3 (C9 (y3 K (m7 C_is_whole hr rfl (b4 (i6 (e8 K) (pv 3) d7 (fun _ _=>rfl)) (b4 d7 (b4 (m6 Z3 (i6 (e8 K) (pv 0) d7 (fun _ _=>rfl)) d7) d4 L5) q0) n6)) (fun _=>rfl))) (e7 F6) m8)))))),?_⟩
 refine ⟨_,rfl,_,rfl,p,_,_,_,rfl,rfl,hP,rfl,l,.int m.c,as,ks,rfl,hL,hC,.int m.c,.inr ⟨m.c,rfl,fun v hv=>?_⟩⟩
 rcases hv with ⟨rfl,z⟩ | ⟨j,pa,k,ha,hk,hkc,rfl⟩
 ·exact ⟨_,rfl,rfl,_,rfl,N7 (no fun ⟨_,⟨k,h1,h2,_⟩,_⟩=>z k h1 h2)⟩
 obtain ⟨k',hk',ce,x1,x2⟩:=j7 hC j pa ha
 rw [hk] at hk'
 injection hk' with hk'
 subst hk'
 have hkm:=List.mem_of_getElem? hk
 refine ⟨_,rfl,rfl,_,rfl,C1 ?_⟩
 refine ⟨_,rfl,p,_,_,_,rfl,rfl,hP,rfl,_,rfl,g,_,rfl,S5.k (k:=.inl m.c) eg,_,rfl,?_⟩
 refine C3 (fun c1=>?_) (fun c1=>?_)
 ·obtain ⟨m',h1,h2⟩:=(hg m.c).mp c1
  exact no fun o=>o.1 m' h1 h2
 have n1:∀ m' ∈ pre,m'.c ≠ m.c:=fun m' h1 h2=>c1 ((hg m.c).mpr ⟨m',h1,h2⟩)
 refine ⟨_,rfl,pa,_,_,_,rfl,rfl,SqT.of x2,rfl,_,rfl,p,_,_,_,rfl,rfl,hP,rfl,rfl,_,rfl,?_⟩
 refine C3 (fun c2=>?_) (fun c2=>?_)
 ·have c2':¬ k.k = m.k:=by simpa using c2
  refine no fun ⟨_,⟨k0,h1,h2,h3⟩,_⟩=>c2' ?_
  rw [aI3 up hkm h1 (by rw [hkc,h2])]
  exact h3
 have c2':k.k = m.k:=by simpa using c2
 refine ⟨_,rfl,p,_,_,_,rfl,rfl,hP,rfl,_,rfl,a,_,_,_,rfl,rfl,hH,rfl,_,_,rfl,rfl,.int m.o,0,h.m - 1,rfl,.int m.o,_,rfl,?_⟩
 refine C3 (fun c3=>?_) (fun c3=>?_)
 ·have c3':¬ x8 (.int m.o) 0 (h.m - 1) = true:=by simpa using c3
  refine no fun ⟨_,_,h1,h2⟩=>c3' ?_
  show (decide (0 ≤ m.o) && decide (m.o ≤ h.m - 1)) = true
  rw [decide_eq_true h1,decide_eq_true (show m.o ≤ h.m - 1 by lia)]
  rfl
 ·have c3':x8 (.int m.o) 0 (h.m - 1) = true:=by simpa using c3
  have c4:(decide (0 ≤ m.o) && decide (m.o ≤ h.m - 1)) = true:=c3'
  rw [Bool.and_eq_true,decide_eq_true_iff,decide_eq_true_iff] at c4
  exact yes ⟨n1,⟨k,hkm,hkc,c2'⟩,c4.1,by lia⟩
theorem X5:FnScope ["hall","calls","moves","goals","move","behind"] ["hall","calls","moves"] (d5 (top 44)):=⟨rfl,rfl,rfl,by decide +kernel,rfl,by decide +kernel,by decide +kernel⟩
set_option maxHeartbeats 4000000 in
theorem a65 (T:Txt K mg) (C_refuse_move:Callee P w K mg base 3 "refuse_move" ["hall","calls","goals","move"] (az3 K)) (C_is_right:Callee P w K mg base 4 "is_right" ["hall","calls"] (ao9 K)) (D:Def K mg "moved" (top 44) ["hall","calls","moves"]):Callee P w K mg base 5 "moved" ["hall","calls","moves"] (aM5 K):=by
 refine D.ok X5 (fun vs H Q E h=>?_) (fun ff cdv A outer s H vs Q E hr h=>?_)
 ·obtain ⟨a,l,ml,h,as,mas,ks,ms,rfl,_⟩:=h
  rfl
 obtain ⟨a,l,ml,h,as,mas,ks,ms,rfl,hH,ok,hL,hC,hin,up,h63,hM,hMs,h100,yes,no⟩:=h
 have la:=Paired.length hC
 have lm:=Paired.length hMs
 refine ⟨_,(d8 (j8 (i:=3) X5.nd rfl (Or.inr rfl) ak0)
  (d8 (y8 PassesOwn.never rfl (o6 K (pv 2)) (m9 (i:=4) X5.nd rfl (Or.inl rfl))
  (d8 (D6 (m7 C_refuse_move hr rfl (b4 (pv 0) (b4 (pv 1) (b4 (pv 3) (b4 (pv 4) d4 b5) b5) b5) b5)))
  (e7 (ae4 (Q4 hr) (pv 3) (i6 (e8 K) (pv 4) d7 (fun _ _=>rfl)) (i6 (e8 K) (pv 4) d7 (fun _ _=>rfl)) rfl))))
  (d8 (Y6 (i:=5) (own:=["call"]) (fr:=[(3,"goals")]) rfl X5.nd rfl rfl (show CompScope ["hall","calls","moves","goals","move","behind"] (d5 (top 44)) _ _ _ from ⟨rfl,by decide +kernel,by decide +kernel,by decide +kernel,by decide +kernel⟩) (o6 K (pv 1)) (fun cl C s H ex=>⟨(m9 (i:=0) (show (["call","goals"]:List Str).Nodup from by decide +kernel) rfl (Or.inl rfl) (Or.inr rfl)),E6,(A9 (b4 (i6 (e8 K) (pv 0) d7 (fun _ _=>rfl)) (b4 (i6 (e8 K) (pv 0) d7 (fun _ _=>rfl)) (b4 (ax6 (Q4 hr) (pv 1) (i6 (e8 K) (pv 0) d7 (fun _ _=>rfl)) (i6 (e8 K) (pv 0) d7 (fun _ _=>rfl)) ⟨rfl,rfl,rfl,rfl⟩) d4 x0) n6) n6))⟩) rfl)
  (d8 (u3 (C9 (y3 K (m7 C_is_right hr rfl (b4 (pv 0) (b4 (pv 5) d4 b5) b5)) (fun _=>rfl))) (e7 F6) m8)
  (e7 (i8 (pv 5))))))),?_⟩
 refine fun g hg=>?_
 have eg:=d6 (H:=H) (a:=g) (o:=.dK [])
 have s1:=d9 hg (.dK [])
 generalize upd H g (.dK []) = H1 at eg s1 ⊢
 refine ⟨_,rfl,ml,rfl,⟨_,s1.seq hM⟩,?_⟩
 refine w6 (xs:=mas.map V.ref) (fun i σ H'=>i4 H H' ∧ aY4 h ks ms i ∧ (∃ kvs,H' g = some (.dK kvs) ∧ kvs.length ≤ i ∧ ∀ c,D4 kvs (.inl c) = (A5 (ms.take i) c).map V.int) ∧ ∃ v4 v5,σ = [some (.ref a),some (.ref l),some (.ref ml),some (.ref g),v4,v5])
  ⟨s1,aS1 _ _ _,⟨[],eg,Nat.le_refl _,fun c=>rfl⟩,_,_,rfl⟩ (fun i σ H' _ gg=>gg.1.seq hM) ?_ ?_
 ·rintro i y σ H' hy ⟨s2,u2,⟨kvs,e2,hl,hv⟩,v4,v5,rfl⟩
  rw [List.getElem?_map] at hy
  obtain ⟨pm,hpm,rfl⟩:=Option.map_eq_some_iff.mp hy
  obtain ⟨m,hm,em⟩:=j7 hMs i pm hpm
  have hi:i < 100:=by
   have:=(List.getElem?_eq_some_iff.mp hm).1
   lia
  have em2:a_7 H' pm m:=s2 _ _ em
  refine ⟨_,rfl,_,rfl,_,rfl,_,rfl,a,l,g,pm,h,as,ks,kvs,ms.take i,m,rfl,i4.seqT s2 hH,ok,s2.seq hL,h9.same (fun b xs z=>s2 _ _ z) hC,up,e2,fun c=>?_,em2,fun o1=>?_,fun n1=>no (fun z=>n1 (z.1 i m hm)) _ s2⟩
  ·rw [hv]
   constructor
   ·intro z
    cases q:A5 (ms.take i) c with
    | none=>rw [q] at z; cases z
    | some o =>
     obtain ⟨m',h1,h2,_⟩:=ah0 q
     exact ⟨m',h1,h2⟩
   ·rintro ⟨m',h1,h2⟩
    cases q:A5 (ms.take i) c with
    | some o=>rfl
    | none =>
     unfold A5 at q
     have:=List.find?_eq_none.mp (Option.map_eq_none_iff.mp q) m' h1
     simp [h2] at this
  ·refine ⟨_,rfl,pm,_,_,_,rfl,rfl,SqT.of em2,rfl,_,rfl,_,rfl,pm,_,_,_,rfl,rfl,SqT.of em2,rfl,g,_,rfl,al7.k (k:=.inl m.c) e2 (Nat.lt_of_le_of_lt hl (j9 (by lia))),?_⟩
   refine ⟨i4.put s2 hg,aR7 u2 hm o1,⟨_,d6,?_,fun c=>?_⟩,_,_,rfl⟩
   ·have:=F2 kvs (.inl m.c) (.int m.o)
    lia
   ·rw [Q3,List.take_succ,hm]
    show _ = (A5 (ms.take i ++ [m]) c).map V.int
    rw [as1 o1.1]
    by_cases e:c = m.c
    ·rw [if_pos (by rw [e]),if_pos e]
     rfl
    ·rw [if_neg (fun z=>e (by injection z)),if_neg e]
     exact hv c
 ·rintro σ H2 ⟨s2,u2,⟨kvs,e2,hl,hv⟩,v4,v5,rfl⟩
  rw [List.length_map,lm] at u2 hv
  rw [List.take_length] at hv
  have vd:=aZ3 u2
  have hin':=aN1 hin vd.pre
  have hC2:=h9.same (fun b xs z=>s2 _ _ z) hC
  refine ⟨_,rfl,l,rfl,⟨_,s2.seq hL⟩,?_⟩
  refine B2 (xs:=as.map V.ref) (fun j acc σ G=>i4 H2 G ∧ (∃ bs:List Addr,acc = bs.map V.ref ∧ h9 G bs (o7 (ks.take j) ms)) ∧ ∃ v,σ = [v,some (.ref g)])
   ⟨i4.refl _,⟨[],rfl,.nil⟩,none,rfl⟩ (Nat.le_of_lt (j9 (by rw [List.length_map]; lia))) (fun j acc σ G gg=>?_) (fun j acc σ G _ gg=>(s2.trans gg.1).seq hL) ?_ ?_
  ·obtain ⟨_,⟨bs,rfl,hb⟩,_⟩:=gg
   have:=Paired.length hb
   rw [List.length_map,this]
   unfold o7
   rw [List.length_map,List.length_take]
   lia
  ·rintro j y acc σ G hy ⟨g1,⟨bs,rfl,hb⟩,v,rfl⟩
   rw [List.getElem?_map] at hy
   obtain ⟨pc,hpc,rfl⟩:=Option.map_eq_some_iff.mp hy
   obtain ⟨k,hk,ce,x1,x2⟩:=j7 hC2 j pc hpc
   have x2G:=SqT.of (K:=K) (g1 _ _ x2)
   have egG:=g1 _ _ e2
   refine ⟨_,rfl,pc,_,_,_,rfl,rfl,x2G,rfl,_,rfl,pc,_,_,_,rfl,rfl,x2G,rfl,_,rfl,g,rfl,.inl ⟨kvs,.inl egG⟩,_,rfl,pc,_,_,_,rfl,rfl,x2G,rfl,_,rfl,pc,_,_,_,rfl,rfl,x2G,rfl,_,S5.k (k:=.inl k.c) egG,?_⟩
   rw [hv,show ((A5 ms k.c).map V.int).getD (V.int k.k) = V.int ((A5 ms k.c).getD k.k) by cases A5 ms k.c <;> rfl]
   refine ⟨(by show 3 ≤ sizeLine; decide),fun t ht=>?_⟩
   have g2:=d9 ht (.tup [.int k.c,.ref ce,.int ((A5 ms k.c).getD k.k)])
   have et:=d6 (H:=G) (a:=t) (o:=.tup [.int k.c,.ref ce,.int ((A5 ms k.c).getD k.k)])
   generalize upd G t (.tup [.int k.c,.ref ce,.int ((A5 ms k.c).getD k.k)]) = G2 at g2 et ⊢
   refine ⟨g1.trans g2,⟨bs ++ [t],by rw [List.map_append]; rfl,?_⟩,_,rfl⟩
   unfold o7
   rw [List.take_succ,hk,List.map_append]
   exact Paired.snoc (h9.same (fun b xs z=>g2 _ _ z) hb) ⟨ce,g2 _ _ (g1 _ _ x1),et⟩
  rintro acc σ G ⟨g1,⟨bs,rfl,hb⟩,v,rfl⟩ lb hlb
  rw [List.length_map,la,List.take_length] at hb
  have g2:=d9 hlb (.lst (bs.map V.ref))
  have elb:=d6 (H:=G) (a:=lb) (o:=.lst (bs.map V.ref))
  generalize upd G lb (.lst (bs.map V.ref)) = G2 at g2 elb ⊢
  have sG:=(s2.trans g1).trans g2
  have hb2:=h9.same (fun b xs z=>g2 _ _ z) hb
  refine ⟨_,rfl,_,rfl,a,lb,h,bs,o7 ks ms,rfl,i4.seqT sG hH,ok,SqL.of elb,hb2,hin',by unfold o7; rw [List.length_map]; exact h63,fun G3 g3=>⟨_,rfl,?_⟩⟩
  refine C3 (fun c1=>?_) (fun c1=>?_)
  ·refine no (fun z=>?_) _ (sG.trans g3)
   rw [ab2 z.2] at c1
   cases c1
  ·have gd:aj3 h ks ms:=⟨vd,ab4.mp (by simpa using c1)⟩
   exact ⟨_,rfl,yes gd lb bs _ (sG.trans g3) (g3 _ _ elb) (h9.same (fun b xs z=>g3 _ _ z) hb2)⟩
end
theorem aB5 (h:Hall) (c:Int) (es:List Int) (k:Int):(C7 h c es k).Nodup:=by
 have go:∀ (es:List Int) (acc:List (List Key)),acc.Nodup → (es.foldl (t4 h k) acc).Nodup:=fun es=>by
  induction es with
  | nil=>exact fun acc z=>z
  | cons e t ih =>
   intro acc z
   rw [List.foldl_cons]
   refine ih _ ?_
   unfold t4
   split
   ·exact z
   ·rename_i hn
    rw [List.nodup_append]
    refine ⟨z,by simp,fun x hx y hy e=>hn ?_⟩
    rw [List.mem_singleton] at hy
    rw [e,hy] at hx
    exact ae6.mpr hx
 exact go es _ (by simp)
def LF (h:Hall) (k k':Call):Prop:=∀ d ∈ C7 h k.c k.es k.k,¬ d ∈ C7 h k'.c k'.es k'.k
theorem aw1 {h:Hall} {k k':Call}:LF h k k' ↔ ¬ (k.k = k'.k ∧ bi8 h k k'):=by
 unfold LF
 constructor
 ·rintro z ⟨e,y | ⟨e1,h1,h2⟩⟩
  ·exact z (nIn (k.c / h.c) k.k) (C5.mpr (.inl rfl)) (C5.mpr (.inl (by rw [y,e])))
  ·obtain ⟨e2,h3,h4⟩:=List.mem_map.mp h2
   exact z (I9 (e1 / h.e) k.k) (C5.mpr (.inr ⟨e1,h1,rfl⟩)) (C5.mpr (.inr ⟨e2,h3,by rw [← e,h4]⟩))
 ·intro z d h1 h2
  rcases C5.mp h1 with rfl | ⟨e,he,rfl⟩ <;> rcases C5.mp h2 with q | ⟨e',he',q⟩ <;> simp only [nIn,I9,List.cons.injEq,Sum.inl.injEq,Sum.inr.injEq,and_true,true_and] at q
  ·exact z ⟨q.2,.inl q.1⟩
  ·exact absurd q.1 (by decide)
  ·exact absurd q.1 (by decide)
  ·exact z ⟨q.2,.inr ⟨e,he,List.mem_map.mpr ⟨e',he',q.1.symm⟩⟩⟩
theorem bf9 {h:Hall} {ks:List Call} (lt:ks.Pairwise fun k k'=>k.c < k'.c) (dj:ks.Pairwise fun k k'=>∀ e ∈ k.es,¬ e ∈ k'.es) (ms:List Mv):(o7 ks ms).Pairwise (Fit h) ↔ (o7 ks ms).Pairwise (LF h):=by
 unfold o7
 rw [List.pairwise_map,List.pairwise_map]
 constructor
 ·exact fun z=>z.imp fun q=>aw1.mpr q.l
 ·intro z
  refine ((lt.and dj).and z).imp fun {a b} q=>⟨q.1.1,fun e h1 h2=>q.1.2 e h1 h2,aw1.mp q.2⟩
def ar8 (K:PySem.W.Frag):Sp:=fun vs H Q _=>∃ (a l:Addr) (h:Hall) (as:List Addr) (ks:List Call),vs = [.ref a,.ref l] ∧ SqT K H a (h.row.map V.int) ∧ h.Ok ∧ H l = some (.lst (as.map V.ref)) ∧ h9 H as ks ∧ (∀ k ∈ ks,k.In h) ∧ ks.length ≤ 63 ∧
 ∀ H',i4 H H' → Q (.bl (dB (ks.Pairwise (LF h)))) H'
section
variable {P:Program} {w:World} {K:PySem.W.Frag} {mg:Str → Option Value} {base:Heap}
theorem K2:FnScope ["_law_hall","_law_calls","_law_taken","_law_call","_law_line"] ["_law_hall","_law_calls"] (d5 (top 55)):=⟨rfl,rfl,rfl,by decide +kernel,rfl,by decide +kernel,by decide +kernel⟩
set_option maxHeartbeats 4000000 in
theorem aG5 (T:Txt K mg) (C__law_lines:Callee P w K mg base 1 "_law_lines" ["_law_hall","_law_caller","_law_ends","_law_k"] (aN6 K)) (D:Def K mg "_law_right" (top 55) ["_law_hall","_law_calls"]):Callee P w K mg base 2 "_law_right" ["_law_hall","_law_calls"] (ar8 K):=by
 refine D.ok K2 (fun vs H Q E h=>?_) (fun ff cdv A outer s H vs Q E hr h=>?_)
 ·obtain ⟨a,l,h,as,ks,rfl,_⟩:=h
  rfl
 obtain ⟨a,l,h,as,ks,rfl,hH,ok,el,hC,hin,h63,q⟩:=h
 have la:=Paired.length hC
 refine ⟨_,(d8 (j8 (i:=2) K2.nd rfl (Or.inl rfl) a78)
  (d8 (y8 PassesOwn.never rfl (o6 K (pv 1)) (m9 (i:=3) K2.nd rfl (Or.inl rfl))
  (d8 (u3 (C9 (aD1 ay8 aO8 d7 (i6 (e8 K) (pv 3) d7 (fun _ _=>rfl)) (i6 (e8 K) (pv 0) d7 (fun _ _=>rfl)))) (e7 (i8 K9)) m8)
  (e7 (y8 PassesOwn.never rfl (o6 K (m7 C__law_lines hr rfl (b4 (pv 0) (b4 (i6 (e8 K) (pv 3) d7 (fun _ _=>rfl)) (b4 (i6 (e8 K) (pv 3) d7 (fun _ _=>rfl)) (b4 (i6 (e8 K) (pv 3) d7 (fun _ _=>rfl)) d4 n6) n6) n6) b5))) (m9 (i:=4) K2.nd rfl (Or.inl rfl))
  (d8 (u3 (aH9 (aI8 (Q4 hr) (pv 4) (pv 2))) (e7 (i8 K9)) m8)
  (e7 (ae4 (Q4 hr) (pv 2) (pv 4) K9 rfl)))))))
  (e7 (i8 K9)))),?_⟩
 refine fun t ht=>?_
 have et:=d6 (H:=H) (a:=t) (o:=.dT [])
 have s1:=d9 ht (.dT [])
 generalize upd H t (.dT []) = H1 at et s1 ⊢
 refine ⟨_,rfl,l,rfl,⟨_,SqL.of (s1 _ _ el)⟩,?_⟩
 refine w6 (xs:=as.map V.ref) (fun i σ H'=>i4 H H' ∧ (ks.take i).Pairwise (LF h) ∧ (∃ kvs,H' t = some (.dT kvs) ∧ kvs.length ≤ 13 * i ∧ ∀ d,(D4 kvs d).isSome = true ↔ ∃ k ∈ ks.take i,d ∈ C7 h k.c k.es k.k) ∧ ∃ v3 v4,σ = [some (.ref a),some (.ref l),some (.ref t),v3,v4])
  ⟨s1,.nil,⟨[],et,Nat.le_refl _,fun d=>⟨fun z=>(nomatch z),fun ⟨_,z,_⟩=>(nomatch z)⟩⟩,_,_,rfl⟩ (fun i σ H' _ g=>SqL.of (g.1 _ _ el)) ?_ ?_
 ·rintro i x σ H' hx ⟨s5,pw,⟨kvs,et5,hkl,tk⟩,v3,v4,rfl⟩
  rw [List.getElem?_map] at hx
  obtain ⟨pc,hp,rfl⟩:=Option.map_eq_some_iff.mp hx
  obtain ⟨k,hk1,ce,e1,e2⟩:=j7 hC i pc hp
  have hi63:i < 63:=by
   have:=(List.getElem?_eq_some_iff.mp hk1).1
   lia
  have hkI:=hin k (List.mem_of_getElem? hk1)
  have kf:=hkI.few
  have kk:=hkI.k
  have tkk:ks.take (i + 1) = ks.take i ++ [k]:=by rw [List.take_succ,hk1]; rfl
  have e25:=s5 _ _ e2
  refine ⟨_,rfl,pc,_,_,_,rfl,rfl,SqT.of e25,rfl,_,_,rfl,rfl,_,rfl,aY0 (decide_eq_true kk.1) ?_⟩
  refine ⟨_,rfl,a,_,_,_,rfl,rfl,i4.seqT s5 hH,rfl,_,_,rfl,rfl,_,rfl,au0 (by rw [decide_eq_true (show k.k < h.m from kk.2)]; simp) ?_⟩
  refine ⟨_,rfl,_,rfl,pc,_,_,_,rfl,rfl,SqT.of e25,rfl,_,rfl,pc,_,_,_,rfl,rfl,SqT.of e25,rfl,_,rfl,pc,_,_,_,rfl,rfl,SqT.of e25,rfl,a,ce,h,k.c,k.k,k.es,rfl,i4.seqT s5 hH,ok,.inl (SqT.of (s5 _ _ e1)),kf,fun nl nas H6 s6 hnl enl tnl=>?_⟩
  have et6:=s6 _ _ et5
  have hnt:nl ≠ t:=fun z=>by rw [z,et5] at hnl; cases hnl
  have lnl:=Paired.length tnl
  have ll:=aU4 h k.c k.es k.k
  have nd:=aB5 h k.c k.es k.k
  refine ⟨nl,rfl,⟨_,SqL.of enl⟩,?_⟩
  refine w6 (xs:=nas.map V.ref) (fun j σ H'=>bd5 t H6 H' ∧ (∀ d ∈ (C7 h k.c k.es k.k).take j,∀ k' ∈ ks.take i,¬ d ∈ C7 h k'.c k'.es k'.k) ∧ (∃ kvs',H' t = some (.dT kvs') ∧ kvs'.length ≤ kvs.length + j ∧ (∀ d,(D4 kvs' d).isSome = true ↔ (∃ k ∈ ks.take i,d ∈ C7 h k.c k.es k.k) ∨ d ∈ (C7 h k.c k.es k.k).take j)) ∧ ∃ v4,σ = [some (.ref a),some (.ref l),some (.ref t),some (.ref pc),v4])
   ⟨fun _ _ _ z=>z,(fun d z=>by simp at z),⟨kvs,et6,Nat.le_refl _,fun d=>by rw [tk]; simp⟩,_,rfl⟩ (fun j σ H' _ g=>SqL.of (g.1 _ _ hnt enl)) ?_ ?_
  ·rintro j y σ H7 hy ⟨t1',fr',⟨kvs',t2',t7,t9⟩,v4,rfl⟩
   rw [List.getElem?_map] at hy
   obtain ⟨x,hx,rfl⟩:=Option.map_eq_some_iff.mp hy
   obtain ⟨d,hd1,hd2⟩:=j7 tnl j x hx
   replace hd2:H6 x = some (.tup (d.map kV)):=hd2
   have hj:j < 13:=by
    have:=(List.getElem?_eq_some_iff.mp hd1).1
    lia
   have hxt:x ≠ t:=fun z=>by rw [z,et6] at hd2; cases hd2
   have hd7:=t1' _ _ hxt hd2
   have ndj:¬ d ∈ (C7 h k.c k.es k.k).take j:=fun z=>by
    obtain ⟨m,hm⟩:=List.mem_iff_getElem?.mp z
    have hmj:m < j:=by
     have:=(List.getElem?_eq_some_iff.mp hm).1
     rw [List.length_take] at this
     lia
    rw [List.getElem?_take_of_lt hmj] at hm
    obtain ⟨q1,z1⟩:=List.getElem?_eq_some_iff.mp hm
    obtain ⟨q2,z2⟩:=List.getElem?_eq_some_iff.mp hd1
    exact (List.pairwise_iff_getElem.mp nd) m j q1 q2 hmj (by rw [z1,z2])
   refine ⟨_,rfl,_,rfl,t,_,rfl,S5.t t2' hd7,_,rfl,?_⟩
   refine C3 (fun c1=>?_) (fun c1=>?_)
   ·have:∃ k' ∈ ks.take i,d ∈ C7 h k'.c k'.es k'.k:=by
     rcases (t9 d).mp c1 with z | z
     ·exact z
     ·exact absurd z ndj
    obtain ⟨k',hk',hd'⟩:=this
    have npw:¬ ks.Pairwise (LF h):=fun z=>by
     have z2:=z.sublist (List.take_sublist (i + 1) ks)
     rw [tkk,List.pairwise_append] at z2
     exact z2.2.2 k' hk' k (List.mem_singleton.mpr rfl) d hd' (List.mem_of_getElem? hd1)
    rw [aD6 npw] at q
    exact q _ fun b u z=>t1' b u (q9 z ht) (s6 _ _ (s5 _ _ z))
   ·refine ⟨_,rfl,_,rfl,t,_,rfl,al7.t t2' hd7 (by show kvs'.length < 16777216; lia),?_⟩
    refine ⟨fun b u hb z=>by rw [n5 hb]; exact t1' b u hb z,fun d' hd' k' hk' hm=>?_,⟨_,d6,?_,fun d'=>?_⟩,_,rfl⟩
    ·rw [List.take_succ,hd1] at hd'
     rcases List.mem_append.mp hd' with z | z
     ·exact fr' d' z k' hk' hm
     ·have z':d' = d:=by simpa using z
      rw [z'] at hm
      exact c1 ((t9 d).mpr (.inl ⟨k',hk',hm⟩))
    ·have:=F2 kvs' d (.bl true)
     lia
    ·rw [Q3,List.take_succ,hd1,List.mem_append]
     by_cases c:d' = d
     ·rw [if_pos c]
      simp [c]
     ·rw [if_neg c,t9]
      simp [c]
  ·rintro σ H7 ⟨t1',fr',⟨kvs',t2',t7,t9⟩,v4,rfl⟩
   rw [List.length_map,lnl] at t7 t9 fr'
   rw [List.take_length] at t9 fr'
   refine ⟨fun b u z=>t1' b u (q9 z ht) (s6 _ _ (s5 _ _ z)),?_,⟨kvs',t2',by lia,fun d=>?_⟩,_,_,rfl⟩
   ·rw [tkk,List.pairwise_append]
    refine ⟨pw,List.pairwise_singleton _ _,fun k' hk' k'' hk'' d h1 h2=>?_⟩
    rw [List.mem_singleton.mp hk''] at h2
    exact fr' d h2 k' hk' h1
   ·rw [t9,tkk]
    constructor
    ·rintro (⟨k1,g1,g2⟩ | g)
     ·exact ⟨k1,List.mem_append_left _ g1,g2⟩
     ·exact ⟨k,List.mem_append_right _ (List.mem_singleton.mpr rfl),g⟩
    ·rintro ⟨k1,g1,g2⟩
     rcases List.mem_append.mp g1 with g | g
     ·exact .inl ⟨k1,g,g2⟩
     ·rw [List.mem_singleton.mp g] at g2
      exact .inr g2
 ·rintro σ H5 ⟨s5,pw,_,v3,v4,rfl⟩
  rw [List.length_map,la,List.take_length] at pw
  rw [ab2 pw] at q
  exact q H5 s5
end
theorem ba6 {x p q:Nat} (h:x.testBit p = false):(x + 2 ^ p).testBit q = if q = p then true else x.testBit q:=by
 by_cases hq:q = p
 ·subst hq
  rw [if_pos rfl,Nat.add_comm,Nat.testBit_two_pow_add_eq,h]
  rfl
 ·rw [if_neg hq]
  rcases Nat.lt_or_gt_of_ne hq with hlt | hgt
  ·rw [Nat.add_comm,Nat.testBit_two_pow_add_gt hlt]
  ·have e:(x + 2 ^ p) / 2 ^ (p + 1) = x / 2 ^ (p + 1):=by
    rw [Nat.pow_succ,← Nat.div_div_eq_div_mul,← Nat.div_div_eq_div_mul,Nat.add_div_right x (Nat.two_pow_pos p)]
    rw [Nat.testBit_eq_decide_div_mod_eq] at h
    have h':¬ x / 2 ^ p % 2 = 1:=of_decide_eq_false h
    lia
   have hk:q = (p + 1) + (q - (p + 1)):=by lia
   rw [Nat.testBit_eq_decide_div_mod_eq,Nat.testBit_eq_decide_div_mod_eq,hk,Nat.pow_add,← Nat.div_div_eq_div_mul,← Nat.div_div_eq_div_mul,e]
def L6 (ps:List Nat):Nat:=(ps.map fun p=>2 ^ p).sum
theorem a80:L6 [] = 0:=rfl
theorem aT6 (ps:List Nat) (p:Nat):L6 (ps ++ [p]) = L6 ps + 2 ^ p:=by
 unfold L6
 rw [List.map_append,List.sum_append]
 simp
theorem aU0 (ps:List Nat) (p:Nat):L6 (p :: ps) = 2 ^ p + L6 ps:=by
 unfold L6
 rw [List.map_cons,List.sum_cons]
theorem aj9:∀ (ps:List Nat),ps.Nodup → ∀ q,(L6 ps).testBit q = decide (q ∈ ps)
 | [],_,q=>by rw [a80,Nat.zero_testBit]; simp
 | p :: ps,h,q=>by
  have hn:=List.nodup_cons.mp h
  have ih:=aj9 ps hn.2
  rw [aU0,Nat.add_comm,ba6 (by rw [ih p]; exact decide_eq_false hn.1),ih q]
  by_cases e:q = p
  ·subst e; simp
  ·simp [e]
theorem be4 {b p:Nat} (h:b.testBit p = false):Builtin.bitOr (b:Int) (1 * 2 ^ ((p:Int)).toNat) = ((b + 2 ^ p:Nat):Int):=by
 have e1:(1 * 2 ^ ((p:Int)).toNat:Int) = ((2 ^ p:Nat):Int):=by
  rw [Int.one_mul,Int.toNat_natCast]
  exact (Int.natCast_pow 2 p).symm
 have e2:b &&& 2 ^ p = 0:=by
  refine Nat.eq_of_testBit_eq fun i=>?_
  rw [Nat.testBit_and,Nat.testBit_two_pow,Nat.zero_testBit]
  by_cases hi:p = i
  ·subst hi; rw [h]; rfl
  ·simp [hi]
 rw [e1,bitOr_and,bitAnd_pp (Int.natCast_nonneg _) (Int.natCast_nonneg _),Int.toNat_natCast,Int.toNat_natCast,e2]
 simp
def P0 (p:Call → Nat → Bool) (ks:List Call) (r:Nat):List Nat:=(ks.filter fun k=>p k r).map fun k=>k.k.toNat
def pIn (h:Hall) (k:Call) (r:Nat):Bool:=decide (k.c / h.c = (r:Int))
def L3 (h:Hall) (k:Call) (r:Nat):Bool:=decide ((r:Int) ∈ g9 h k.es)
theorem U1 (p:Call → Nat → Bool) (ks:List Call) (k:Call) (r:Nat):P0 p (ks ++ [k]) r = P0 p ks r ++ (if p k r = true then [k.k.toNat] else []):=by
 unfold P0
 rw [List.filter_append,List.map_append]
 by_cases c:p k r = true
 ·rw [if_pos c]
  simp [c]
 ·rw [if_neg c]
  simp [c]
def a62 (p:Call → Nat → Bool) (k k':Call):Prop:=∀ r,p k r = true → p k' r = true → k.k ≠ k'.k
theorem P1 {p:Call → Nat → Bool} {h:Hall} (r:Nat):∀ {ks:List Call},ks.Pairwise (a62 p) → (∀ k ∈ ks,k.In h) → (P0 p ks r).Nodup:=fun {ks} hp hi=>by
 unfold P0 List.Nodup
 rw [List.pairwise_map,List.pairwise_filter]
 refine List.Pairwise.imp_of_mem ?_ hp
 intro a b ha hb hab pa pb e
 have h1:=(hi a ha).k
 have h2:=(hi b hb).k
 exact hab r pa pb (by lia)
theorem ay0 {h:Hall} {k k':Call} (f:C8 h k k'):a62 (pIn h) k k':=fun r h1 h2 e=>by
 have h1':k.c / h.c = (r:Int):=of_decide_eq_true h1
 have h2':k'.c / h.c = (r:Int):=of_decide_eq_true h2
 exact f (nIn (k.c / h.c) k.k) (o9.mpr (.inl rfl)) (o9.mpr (.inl (by rw [h1',h2',e])))
theorem aq6 {h:Hall} {k k':Call} (f:C8 h k k'):a62 (L3 h) k k':=fun r h1 h2 e=>by
 obtain ⟨x,hx,q1⟩:=u4.mp (of_decide_eq_true h1)
 obtain ⟨y,hy,q2⟩:=u4.mp (of_decide_eq_true h2)
 exact f (I9 (x / h.e) k.k) (o9.mpr (.inr (.inl ⟨x,hx,rfl⟩))) (o9.mpr (.inr (.inl ⟨y,hy,by rw [q1,q2,e]⟩)))
theorem aP3 {row:List Nat} {k:Int} (h:(row ++ [k.toNat]).Nodup) (hk:0 ≤ k):Builtin.bitOr ((L6 row:Nat):Int) (1 * 2 ^ k.toNat) = ((L6 (row ++ [k.toNat]):Nat):Int):=by
 have nd:=List.nodup_append.mp h
 have b:(L6 row).testBit k.toNat = false:=by
  rw [aj9 row nd.1]
  exact decide_eq_false fun z=>nd.2.2 _ z _ (List.mem_singleton.mpr rfl) rfl
 have:=be4 b
 rw [Int.toNat_natCast] at this
 rw [this,aT6]
theorem ar5 {α:Type} {n j:Nat} {v:α} {f:Nat → α}:((List.range n).map f).set j v = (List.range n).map fun r=>if r = j then v else f r:=by
 apply List.ext_getElem?
 intro i
 rw [List.getElem?_set,List.getElem?_map,List.getElem?_map]
 by_cases hi:i < n
 ·rw [List.getElem?_range hi]
  by_cases c:j = i
  ·subst c
   simp [hi]
  ·rw [if_neg c]
   simp [show ¬ i = j from fun z=>c z.symm]
 ·rw [List.getElem?_eq_none (by simpa using hi)]
  by_cases c:j = i
  ·subst c
   simp [hi]
  ·rw [if_neg c]
   rfl
def E1 (p:Call → Nat → Bool) (ks:List Call) (n:Nat):List V:=(List.range n).map fun r=>V.int ((L6 (P0 p ks r):Nat):Int)
theorem aq4 {p:Call → Nat → Bool} {ks:List Call} {n r:Nat} (h:r < n):(E1 p ks n)[r]? = some (V.int ((L6 (P0 p ks r):Nat):Int)):=by
 unfold E1
 rw [List.getElem?_map,List.getElem?_range h]
 rfl
theorem aJ1 {p:Call → Nat → Bool} {ks:List Call} {n:Nat}:(E1 p ks n).length = n:=by simp [E1]
theorem aZ5 {n:Nat} {i:Int} (h0:0 ≤ i) (h1:i < n):ixN n i = some i.toNat:=by
 unfold ixN
 rw [if_pos h0,if_pos h1]
def au1 (K:PySem.W.Frag) (p:Hall → Call → Nat → Bool) (n:Hall → Int):Sp:=fun vs H Q _=>∃ (a b:Addr) (h:Hall) (as:List Addr) (ks:List Call),vs = [.ref a,.ref b] ∧ SqT K H a (h.row.map V.int) ∧ h.Ok ∧ SqL K H b (as.map V.ref) ∧ h9 H as ks ∧ (∀ k ∈ ks,k.In h) ∧ ks.Pairwise (C8 h) ∧ ks.length ≤ 63 ∧
 ∀ (l:Addr) (H':Hp),i4 H H' → H l = none → H' l = some (.lst (E1 (p h) ks (n h).toNat)) → Q (.ref l) H'
section
variable {P:Program} {w:World} {K:PySem.W.Frag} {mg:Str → Option Value} {base:Heap}
theorem X1:FnScope ["hall","calls","found","call"] ["hall","calls"] (d5 (top 16)):=⟨rfl,rfl,rfl,by decide +kernel,rfl,by decide +kernel,by decide +kernel⟩
theorem aI2 (T:Txt K mg) (C_place_in:Callee P w K mg base 1 "place_in" ["hall","caller"] (L4 K Hall.c)) (D:Def K mg "in_bits" (top 16) ["hall","calls"]):Callee P w K mg base 2 "in_bits" ["hall","calls"] (au1 K pIn Hall.i):=by
 refine D.ok X1 (fun vs H Q E h=>?_) (fun f cdv A outer s H vs Q E hr h=>?_)
 ·obtain ⟨a,b,h,as,ks,rfl,_⟩:=h
  rfl
 obtain ⟨a,b,h,as,ks,rfl,hH,ok,hB,hC,hin,hfr,h63,q⟩:=h
 have o1:=ok.i
 have o2:=ok.c
 have o3:=ok.m
 refine ⟨_,(d8 (j8 (i:=2) X1.nd rfl (Or.inl rfl) (m6 aX6 (B0 (b4 d7 d4 q0)) (i6 (e8 K) (pv 0) d7 (fun _ _=>rfl))))
  (d8 (y8 PassesOwn.never rfl (o6 K (pv 1)) (m9 (i:=3) X1.nd rfl (Or.inl rfl))
  (e7 (aM4 (pv 2) (i6 (e8 K) (m7 C_place_in hr rfl (b4 (pv 0) (b4 (i6 (e8 K) (pv 3) d7 (fun _ _=>rfl)) d4 n6) b5)) d7 (fun _ _=>rfl)) (ao3 K) (m6 aH7 d7 (i6 (e8 K) (pv 3) d7 (fun _ _=>rfl))) a04 ax9)))
  (e7 (i8 (pv 2))))),?_⟩
 refine ⟨(by show 1 ≤ sizeLine; decide),fun l0 hl0=>?_⟩
 have s0:=d9 hl0 (.lst [.int 0])
 have e0:=d6 (H:=H) (a:=l0) (o:=.lst [.int 0])
 generalize upd H l0 (.lst [.int 0]) = H0 at s0 e0 ⊢
 refine ⟨_,rfl,a,_,_,_,rfl,rfl,i4.seqT s0 hH,rfl,l0,h.i,_,rfl,rfl,e0,by lia,by lia,Nat.le_of_lt (j9 (by show 1 * h.i.toNat ≤ 1000; lia)),fun l hl=>?_⟩
 have start:(List.replicate h.i.toNat [V.int 0]).flatten = E1 (pIn h) (ks.take 0) h.i.toNat:=by
  rw [List.take_zero]
  unfold E1
  generalize h.i.toNat = n
  induction n with
  | zero=>rfl
  | succ n ih =>
   rw [List.range_succ,List.map_append,List.replicate_succ',List.flatten_append,ih]
   rfl
 rw [start]
 have hlH:H l = none:=s0.free hl
 refine ⟨_,rfl,b,rfl,⟨_,(s0.trans (d9 hl _)).seq hB⟩,?_⟩
 refine w6 (xs:=as.map V.ref) (fun i σ H'=>i4 H H' ∧ H' l = some (.lst (E1 (pIn h) (ks.take i) h.i.toNat)) ∧ ∃ v3,σ = [some (.ref a),some (.ref b),some (.ref l),v3]) ⟨s0.trans (d9 hl _),d6,none,rfl⟩ (fun i σ H' _ g=>g.1.seq hB) ?_ ?_
 ·rintro i x σ H' hx ⟨s1,e1,v3,rfl⟩
  rw [List.getElem?_map] at hx
  obtain ⟨p,hp,rfl⟩:=Option.map_eq_some_iff.mp hx
  obtain ⟨k,hk,e,ee,ep⟩:=j7 hC i p hp
  have hkI:=hin k (List.mem_of_getElem? hk)
  have ep1:=s1 _ _ ep
  have k1:=hkI.c
  have k2:=hkI.k
  have r0:0 ≤ k.c / h.c:=Int.ediv_nonneg k1.1 (by lia)
  have r1:k.c / h.c < h.i:=Int.ediv_lt_of_lt_mul (by lia) k1.2
  refine ⟨_,rfl,_,rfl,_,rfl,p,_,_,_,rfl,rfl,SqT.of ep1,rfl,a,h,k.c,rfl,i4.seqT s1 hH,ok,fun g hg=>?_⟩
  have eg:=d6 (H:=H') (a:=g) (o:=.tup [.int (k.c / h.c),.int (k.c % h.c)])
  have s2:=d9 hg (.tup [.int (k.c / h.c),.int (k.c % h.c)])
  generalize upd H' g (.tup [.int (k.c / h.c),.int (k.c % h.c)]) = H2 at eg s2 ⊢
  have e2:=s2 _ _ e1
  refine ⟨g,_,_,_,rfl,rfl,SqT.of eg,rfl,l,_,k.c / h.c,_,rfl,rfl,SqL.of e2,r0,aq4 (by lia),?_⟩
  refine ⟨_,rfl,p,_,_,_,rfl,rfl,SqT.of (s2 _ _ ep1),rfl,_,_,rfl,rfl,⟨by lia,by lia,by decide⟩,_,_,rfl,rfl,l,_,k.c / h.c,_,rfl,rfl,e2,aZ5 r0 (by rw [aJ1]; lia),?_⟩
  refine ⟨i4.put (s1.trans s2) hlH,?_,_,rfl⟩
  rw [d6]
  congr 2
  have tk:ks.take (i + 1) = ks.take i ++ [k]:=by rw [List.take_succ,hk]; rfl
  have nd:=P1 (p:=pIn h) (h:=h) (k.c / h.c).toNat (ks:=ks.take (i + 1)) ((hfr.imp fun q=>ay0 q).sublist (List.take_sublist _ _)) fun k' hk'=>hin k' (List.mem_of_mem_take hk')
  rw [tk,U1,if_pos (show pIn h k (k.c / h.c).toNat = true from decide_eq_true (by lia))] at nd
  dsimp only
  rw [aP3 nd k2.1]
  unfold E1
  rw [ar5]
  refine List.map_congr_left fun r hr=>?_
  rw [tk,U1]
  by_cases c:r = (k.c / h.c).toNat
  ·subst c
   rw [if_pos rfl,if_pos (show pIn h k (k.c / h.c).toNat = true from decide_eq_true (by lia))]
  ·rw [if_neg c,if_neg (show ¬ pIn h k r = true from fun z=>c (by have:k.c / h.c = (r:Int):=of_decide_eq_true z; lia)),List.append_nil]
 ·rintro σ H' ⟨s1,e1,v3,rfl⟩
  have hl2:ks.take (as.map V.ref).length = ks:=by rw [List.length_map,Paired.length hC,List.take_length]
  rw [hl2] at e1
  exact ⟨_,rfl,q l H' s1 hlH e1⟩
def ac7 (h:Hall) (ks:List Call) (k:Call) (rs:List Int) (n:Nat):List V:=(List.range n).map fun r=>V.int ((L6 (P0 (L3 h) ks r ++ (if (r:Int) ∈ rs then [k.k.toNat] else [])):Nat):Int)
theorem M8:FnScope ["hall","calls","found","call","rack"] ["hall","calls"] (d5 (top 17)):=⟨rfl,rfl,rfl,by decide +kernel,rfl,by decide +kernel,by decide +kernel⟩
theorem aA1 (T:Txt K mg) (C_racks_of:Callee P w K mg base 2 "racks_of" ["hall","ends"] (M9 K)) (D:Def K mg "out_bits" (top 17) ["hall","calls"]):Callee P w K mg base 3 "out_bits" ["hall","calls"] (au1 K L3 Hall.o):=by
 refine D.ok M8 (fun vs H Q E h=>?_) (fun f cdv A outer s H vs Q E hr h=>?_)
 ·obtain ⟨a,b,h,as,ks,rfl,_⟩:=h
  rfl
 obtain ⟨a,b,h,as,ks,rfl,hH,ok,hB,hC,hin,hfr,h63,q⟩:=h
 have o1:=ok.o
 have o2:=ok.e
 have o3:=ok.m
 refine ⟨_,(d8 (j8 (i:=2) M8.nd rfl (Or.inl rfl) (m6 aX6 (B0 (b4 d7 d4 q0)) (i6 (e8 K) (pv 0) d7 (fun _ _=>rfl))))
  (d8 (y8 PassesOwn.never rfl (o6 K (pv 1)) (m9 (i:=3) M8.nd rfl (Or.inl rfl))
  (e7 (y8 PassesOwn.never rfl (o6 K (m7 C_racks_of hr rfl (b4 (pv 0) (b4 (i6 (e8 K) (pv 3) d7 (fun _ _=>rfl)) d4 n6) b5))) (m9 (i:=4) M8.nd rfl (Or.inl rfl))
  (e7 (aM4 (pv 2) (pv 4) (ao3 K) (m6 aH7 d7 (i6 (e8 K) (pv 3) d7 (fun _ _=>rfl))) a04 ax9)))))
  (e7 (i8 (pv 2))))),?_⟩
 refine ⟨(by show 1 ≤ sizeLine; decide),fun l0 hl0=>?_⟩
 have s0:=d9 hl0 (.lst [.int 0])
 have e0:=d6 (H:=H) (a:=l0) (o:=.lst [.int 0])
 generalize upd H l0 (.lst [.int 0]) = H0 at s0 e0 ⊢
 refine ⟨_,rfl,a,_,_,_,rfl,rfl,i4.seqT s0 hH,rfl,l0,h.o,_,rfl,rfl,e0,by lia,by lia,Nat.le_of_lt (j9 (by show 1 * h.o.toNat ≤ 1000; lia)),fun l hl=>?_⟩
 have start:(List.replicate h.o.toNat [V.int 0]).flatten = E1 (L3 h) (ks.take 0) h.o.toNat:=by
  rw [List.take_zero]
  unfold E1
  generalize h.o.toNat = n
  induction n with
  | zero=>rfl
  | succ n ih =>
   rw [List.range_succ,List.map_append,List.replicate_succ',List.flatten_append,ih]
   rfl
 rw [start]
 have hlH:H l = none:=s0.free hl
 refine ⟨_,rfl,b,rfl,⟨_,(s0.trans (d9 hl _)).seq hB⟩,?_⟩
 refine w6 (xs:=as.map V.ref) (fun i σ H'=>i4 H H' ∧ H' l = some (.lst (E1 (L3 h) (ks.take i) h.o.toNat)) ∧ ∃ v3 v4,σ = [some (.ref a),some (.ref b),some (.ref l),v3,v4]) ⟨s0.trans (d9 hl _),d6,none,none,rfl⟩ (fun i σ H' _ g=>g.1.seq hB) ?_ ?_
 ·rintro i x σ H' hx ⟨s1,e1,v3,v4,rfl⟩
  rw [List.getElem?_map] at hx
  obtain ⟨p,hp,rfl⟩:=Option.map_eq_some_iff.mp hx
  obtain ⟨k,hk,e,ee,ep⟩:=j7 hC i p hp
  have hkI:=hin k (List.mem_of_getElem? hk)
  have k2:=hkI.k
  have few:=hkI.few
  have tk:ks.take (i + 1) = ks.take i ++ [k]:=by rw [List.take_succ,hk]; rfl
  refine ⟨_,rfl,_,rfl,p,_,_,_,rfl,rfl,SqT.of (s1 _ _ ep),rfl,a,e,h,k.es,rfl,i4.seqT s1 hH,ok,.inl (SqT.of (s1 _ _ ee)),by lia,fun rl H2 s2 hrl er=>?_⟩
  refine ⟨rl,rfl,⟨_,SqL.of er⟩,?_⟩
  have hne:rl ≠ l:=fun z=>by rw [z,e1] at hrl; cases hrl
  have mid0:E1 (L3 h) (ks.take i) h.o.toNat = ac7 h (ks.take i) k ((g9 h k.es).take 0) h.o.toNat:=by
   unfold E1 ac7
   refine List.map_congr_left fun r hr=>?_
   rw [List.take_zero,if_neg (by simp),List.append_nil]
  have e2:=s2 _ _ e1
  rw [mid0] at e2
  refine w6 (xs:=(g9 h k.es).map V.int) (fun j σ H''=>i4 H H'' ∧ H'' rl = some (.lst ((g9 h k.es).map V.int)) ∧ H'' l = some (.lst (ac7 h (ks.take i) k ((g9 h k.es).take j) h.o.toNat)) ∧ ∃ v4,σ = [some (.ref a),some (.ref b),some (.ref l),some (.ref p),v4]) ⟨s1.trans s2,er,e2,_,rfl⟩ (fun j σ H'' _ g=>SqL.of g.2.1) ?_ ?_
  ·rintro j x σ H'' hx ⟨s3,er3,e3,v4,rfl⟩
   rw [List.getElem?_map] at hx
   obtain ⟨r,hr2,rfl⟩:=Option.map_eq_some_iff.mp hx
   have hrm:r ∈ g9 h k.es:=List.mem_of_getElem? hr2
   obtain ⟨y,hy,hyr⟩:=u4.mp hrm
   have hye:=hkI.es y hy
   have r0:0 ≤ r:=by rw [← hyr]; exact Int.ediv_nonneg hye.1 (by lia)
   have r1:r < h.o:=by rw [← hyr]; exact Int.ediv_lt_of_lt_mul (by lia) hye.2
   have hrt:((r.toNat:Nat):Int) = r:=by lia
   have hnot:¬ r ∈ (g9 h k.es).take j:=fun z=>by
    have nd:=y6 (A3 (k.es.map fun e=>e / h.e))
    have e4:(g9 h k.es).take (j + 1) = (g9 h k.es).take j ++ [r]:=by rw [List.take_succ,hr2]; rfl
    have nd2:((g9 h k.es).take (j + 1)).Nodup:=nd.sublist (List.take_sublist _ _)
    rw [e4] at nd2
    exact (List.nodup_append.mp nd2).2.2 r z r (List.mem_singleton.mpr rfl) rfl
   have at1:(ac7 h (ks.take i) k ((g9 h k.es).take j) h.o.toNat)[r.toNat]? = some (V.int ((L6 (P0 (L3 h) (ks.take i) r.toNat):Nat):Int)):=by
    unfold ac7
    rw [List.getElem?_map,List.getElem?_range (by lia),Option.map_some,hrt,if_neg hnot,List.append_nil]
   refine ⟨_,rfl,_,rfl,l,_,r,_,rfl,rfl,SqL.of e3,r0,at1,?_⟩
   refine ⟨_,rfl,p,_,_,_,rfl,rfl,SqT.of (s3 _ _ ep),rfl,_,_,rfl,rfl,⟨by lia,by lia,by decide⟩,_,_,rfl,rfl,l,_,r,_,rfl,rfl,e3,aZ5 r0 (by unfold ac7; rw [List.length_map,List.length_range]; lia),?_⟩
   refine ⟨i4.put s3 hlH,by rw [n5 hne]; exact er3,?_,_,rfl⟩
   rw [d6]
   congr 2
   have pk:L3 h k r.toNat = true:=decide_eq_true (by rw [hrt]; exact hrm)
   have nd:=P1 (p:=L3 h) (h:=h) r.toNat (ks:=ks.take (i + 1)) ((hfr.imp fun q=>aq6 q).sublist (List.take_sublist _ _)) fun k' hk'=>hin k' (List.mem_of_mem_take hk')
   rw [tk,U1,if_pos pk] at nd
   dsimp only
   rw [aP3 nd k2.1]
   unfold ac7
   rw [ar5]
   refine List.map_congr_left fun m hm=>?_
   have e4:(g9 h k.es).take (j + 1) = (g9 h k.es).take j ++ [r]:=by rw [List.take_succ,hr2]; rfl
   rw [e4]
   by_cases c:m = r.toNat
   ·subst c
    rw [if_pos rfl,hrt,if_pos (List.mem_append_right _ (List.mem_singleton.mpr rfl))]
   ·rw [if_neg c]
    have:((m:Int) ∈ (g9 h k.es).take j ++ [r]) ↔ (m:Int) ∈ (g9 h k.es).take j:=by
     rw [List.mem_append,List.mem_singleton]
     constructor
     ·rintro (z | z)
      ·exact z
      ·exact absurd (show m = r.toNat by lia) c
     ·exact .inl
    by_cases d:(m:Int) ∈ (g9 h k.es).take j
    ·rw [if_pos d,if_pos (this.mpr d)]
    ·rw [if_neg d,if_neg (fun z=>d (this.mp z))]
  ·rintro σ H'' ⟨s3,er3,e3,v4,rfl⟩
   refine ⟨s3,?_,_,_,rfl⟩
   rw [e3,List.length_map,List.take_length,tk]
   congr 2
   unfold ac7 E1
   refine List.map_congr_left fun m hm=>?_
   rw [U1]
   by_cases d:(m:Int) ∈ g9 h k.es
   ·rw [if_pos d,if_pos (show L3 h k m = true from decide_eq_true d)]
   ·rw [if_neg d,if_neg (show ¬ L3 h k m = true from fun z=>d (of_decide_eq_true z))]
 ·rintro σ H' ⟨s1,e1,v3,v4,rfl⟩
  have hl2:ks.take (as.map V.ref).length = ks:=by rw [List.length_map,Paired.length hC,List.take_length]
  rw [hl2] at e1
  exact ⟨_,rfl,q l H' s1 hlH e1⟩
end
def aN5 (K:PySem.W.Frag):Sp:=fun vs H Q _=>∃ (rl:Addr) (rs:List Nat) (b:Int),vs = [.ref rl,.int b] ∧ SqL K H rl (A2 rs) ∧ rs.length ≤ 64 ∧ ∀ l,H l = none → Q (.ref l) (upd H l (.lst (A2 (rs.filter (w9 b)))))
section
variable {P:Program} {w:World} {K:PySem.W.Frag} {mg:Str → Option Value} {base:Heap}
theorem al5:FnScope ["racks","bits"] ["racks","bits"] (d5 (top 46)):=⟨rfl,rfl,rfl,by decide +kernel,rfl,by decide +kernel,by decide +kernel⟩
theorem bc4 (T:Txt K mg) (D:Def K mg "idle_racks" (top 46) ["racks","bits"]):Callee P w K mg base 1 "idle_racks" ["racks","bits"] (aN5 K):=by
 refine D.ok al5 (fun vs H Q E h=>?_) (fun f cdv A outer s H vs Q E hr h=>?_)
 ·obtain ⟨rl,rs,b,rfl,_⟩:=h
  rfl
 obtain ⟨rl,rs,b,rfl,hR,few,q⟩:=h
 have ln:(A2 rs).length = rs.length:=List.length_map _
 refine ⟨_,(e7 (i8 (D0 (own:=["k"]) (fr:=[(1,"bits")]) rfl (show CompScope ["racks","bits"] (d5 (top 46)) _ _ _ from ⟨rfl,by decide +kernel,by decide +kernel,by decide +kernel,by decide +kernel⟩) (o6 K (pv 0)) (fun cl C s H ex=>⟨(m9 (i:=0) (show (["k","bits"]:List Str).Nodup from by decide +kernel) rfl (Or.inl rfl) (Or.inr rfl)),(P7 (m5 D1 (m6 ai9 (m6 ai2 (pv 1) (pv 0)) d7) d7 (n9 _))),(pv 0)⟩)))),?_⟩
 refine ⟨_,rfl,rl,rfl,⟨_,hR⟩,?_⟩
 refine B2 (xs:=A2 rs) (fun i acc σ H'=>H' = H ∧ acc = A2 ((rs.take i).filter (w9 b)) ∧ ∃ v,σ = [v,some (.int b)])
  ⟨rfl,rfl,none,rfl⟩ (Nat.le_of_lt (j9 (by rw [ln]; lia))) (fun i acc σ H' g=>?_) (fun i acc σ H' _ g=>by rw [g.1]; exact hR) ?_ ?_
 ·obtain ⟨_,rfl,_⟩:=g
  unfold A2
  rw [List.length_map]
  exact Nat.le_trans (List.length_filter_le _ _) (by rw [List.length_take]; lia)
 ·rintro i y acc σ H' hy ⟨rfl,rfl,v,rfl⟩
  unfold A2 at hy
  rw [List.getElem?_map] at hy
  obtain ⟨k,hk,rfl⟩:=Option.map_eq_some_iff.mp hy
  have step:A2 ((rs.take (i + 1)).filter (w9 b)) = A2 ((rs.take i).filter (w9 b)) ++ (if w9 b k = true then [V.int (k:Int)] else []):=by
   unfold A2
   rw [List.take_succ,hk,List.filter_append,List.map_append]
   by_cases c:w9 b k = true
   ·rw [if_pos c]
    simp [c]
   ·rw [if_neg c]
    simp [c]
  refine ⟨_,rfl,_,rfl,_,_,rfl,rfl,by lia,_,_,rfl,rfl,rfl,_,rfl,?_⟩
  refine C3 (fun c=>?_) (fun c=>?_)
  ·have c':w9 b k = true:=by
    unfold w9
    simpa using c
   refine ⟨_,rfl,rfl,?_,_,rfl⟩
   rw [step,if_pos c']
  ·have c':¬ w9 b k = true:=by
    unfold w9
    simpa using c
   refine ⟨rfl,?_,_,rfl⟩
   rw [step,if_neg c',List.append_nil]
 ·rintro acc σ H' ⟨rfl,rfl,v,rfl⟩ l hl
  rw [ln,List.take_length]
  exact q l hl
end
def Q6 (x y:V):Prop:=(x = .non ∧ y = .non) ∨ ∃ i:Int,x = .int i ∧ y = .int i
def K1 (H:Hp):Nat → V → V → Prop
 | 0,x,y=>Q6 x y
 | n + 1,x,y=>Q6 x y ∨ ∃ (p q:Addr) (xs ys:List V),x = .ref p ∧ y = .ref q ∧ ((H p = some (.lst xs) ∧ H q = some (.lst ys)) ∨ (H p = some (.tup xs) ∧ H q = some (.tup ys))) ∧ Paired (K1 H n) xs ys ∧ xs.length ≤ 1000
theorem Q6.at {H:Hp} {n:Nat} {x y:V} (h:Q6 x y):K1 H n x y:=by
 cases n with
 | zero=>exact h
 | succ n=>exact .inl h
theorem af5 {H:Hp} {n:Nat}:∀ ns:List Int,Paired (K1 H n) (ns.map V.int) (ns.map V.int)
 | []=>.nil
 | i :: t=>.cons (Q6.at (.inr ⟨i,rfl,rfl⟩)) (af5 t)
section
variable {P:Program} {w:World} {K:PySem.W.Frag} {mg:Str → Option Value} {base:Heap}
theorem X3 {x:Str} {st:Stmt} {ps:List Str} (D:Def K mg x st ps) (k:Nat):Callee P w K mg base k x ps (fun _ _ _ _=>False):=by
 obtain ⟨f,fd,F,b,m⟩:=D.ex
 exact ⟨f,fd,⟨fun _ _ _ _ h=>h.elim,fun _ _ _ _ _ _ _ _ _ _ _ _ _ h=>h.elim⟩,b,F.kp,m⟩
theorem V8:FnScope ["_law_found","_law_due","_law_k"] ["_law_found","_law_due"] (d5 (top 53)):=⟨rfl,rfl,rfl,by decide +kernel,rfl,by decide +kernel,by decide +kernel⟩
end
def aI5 (x y:V):Prop:=(x = .non ∧ y = .non) ∨ ∃ i j:Int,x = .int i ∧ y = .int j
def U5 (H:Hp):Nat → V → V → Prop
 | 0,x,y=>aI5 x y
 | n + 1,x,y=>aI5 x y ∨ ∃ (p q:Addr) (xs ys:List V),x = .ref p ∧ y = .ref q ∧ ((H p = some (.lst xs) ∧ H q = some (.lst ys)) ∨ (H p = some (.tup xs) ∧ H q = some (.tup ys))) ∧ Paired (U5 H n) xs ys ∧ xs.length ≤ 1000
def ae8 (n:Nat):Sp:=fun vs H Q _=>∃ x y,vs = [x,y] ∧ U5 H n x y ∧ ∀ b,(K1 H n x y → b = true) → Q (.bl b) H
theorem aK6 {H:Hp} {m:Nat} {p r:Addr} {xs ys:List V} (hk:(H p = some (.lst xs) ∧ H r = some (.lst ys)) ∨ (H p = some (.tup xs) ∧ H r = some (.tup ys))) (h:K1 H (m + 1) (.ref p) (.ref r)) {i:Nat} {x y:V} (hx:xs[i]? = some x) (hy:ys[i]? = some y):K1 H m x y:=by
 rcases h with (⟨z,_⟩ | ⟨i,z,_⟩) | ⟨p',r',xs',ys',z1,z2,hk',hp,_⟩
 ·cases z
 ·cases z
 ·cases z1
  cases z2
  have e:xs' = xs ∧ ys' = ys:=by
   rcases hk with ⟨a,b⟩ | ⟨a,b⟩ <;> rcases hk' with ⟨a',b'⟩ | ⟨a',b'⟩ <;> rw [a] at a' <;> rw [b] at b' <;> cases a' <;> cases b' <;> exact ⟨rfl,rfl⟩
  obtain ⟨rfl,rfl⟩:=e
  obtain ⟨y',ey,al⟩:=j7 hp i x hx
  rw [hy] at ey
  cases ey
  exact al
section
variable {P:Program} {w:World} {K:PySem.W.Frag} {mg:Str → Option Value} {base:Heap}
theorem ak9 (T:Txt K mg) (n:Nat) (sp:Sp) (C__law_alike:Callee P w K mg base n "_law_alike" ["_law_found","_law_due"] sp) (D:Def K mg "_law_alike" (top 53) ["_law_found","_law_due"]) (hsp:∀ m,n = m + 1 → sp = ae8 m):Callee P w K mg base (n+1) "_law_alike" ["_law_found","_law_due"] (ae8 n):=by
 refine D.ok V8 (fun vs H Q E h=>?_) (fun f cdv A outer s H vs Q E hr h=>?_)
 ·obtain ⟨x,y,rfl,_⟩:=h
  rfl
 obtain ⟨x,y,rfl,hA,q⟩:=h
 refine ⟨_,(d8 (u3 (m5 W8 (pv 1) y7 (n9 _)) (e7 (i8 (F4 W8 (pv 0) y7 (n9 _)))) m8)
  (d8 (u3 (y3 K (i7 (t5 K) rfl T.m_isinstance boot_isinstance (b4 (pv 1) (b4 (B9 (v:=.ty "int") rfl T.m_int boot_int rfl) d4 b5) b5)) (fun _=>rfl)) (e7 (i8 (S1 (i7 (t5 K) rfl T.m_isinstance boot_isinstance (b4 (pv 0) (b4 (B9 (v:=.ty "int") rfl T.m_int boot_int rfl) d4 b5) b5)) (S1 (a83 (i7 (t5 K) rfl T.m_isinstance boot_isinstance (b4 (pv 0) (b4 (B9 (v:=.ty "bool") rfl T.m_bool boot_bool rfl) d4 b5) b5))) (ab1 (F4 D1 (pv 0) (pv 1) (n9 _))))))) m8)
  (d8 (u3 (y3 K (i7 (t5 K) rfl T.m_isinstance boot_isinstance (b4 (pv 1) (b4 (B9 (v:=.ty "tuple") rfl T.m_tuple boot_tuple rfl) d4 b5) b5)) (fun _=>rfl)) (e7 (u3 (C9 (y3 K (i7 (t5 K) rfl T.m_isinstance boot_isinstance (b4 (pv 0) (b4 (B9 (v:=.ty "tuple") rfl T.m_tuple boot_tuple rfl) d4 b5) b5)) (fun _=>rfl))) (e7 (i8 K9)) m8)) (e7 (u3 (C9 (y3 K (i7 (t5 K) rfl T.m_isinstance boot_isinstance (b4 (pv 0) (b4 (B9 (v:=.ty "list") rfl T.m_list boot_list rfl) d4 b5) b5)) (fun _=>rfl))) (e7 (i8 K9)) m8)))
  (d8 (u3 (m5 aO4 (i7 (u0 K) rfl T.m_len boot_len (b4 (pv 0) d4 b5)) (i7 (u0 K) rfl T.m_len boot_len (b4 (pv 1) d4 b5)) (n9 _)) (e7 (i8 K9)) m8)
  (d8 (y8 PassesOwn.never rfl (J7 rfl T.m_range (b4 (i7 (u0 K) rfl T.m_len boot_len (b4 (pv 1) d4 b5)) d4 x0)) (m9 (i:=2) V8.nd rfl (Or.inl rfl))
  (e7 (u3 (C9 (y3 K (m7 C__law_alike hr rfl (b4 (i6 a84 (pv 0) (pv 2) (fun _ _=>rfl)) (b4 (i6 a84 (pv 1) (pv 2) (fun _ _=>rfl)) d4 n6) n6) (Nat.le_refl _)) (fun _=>rfl))) (e7 (i8 K9)) m8)))
  (e7 (i8 K9))))))),?_⟩
 have hB:aI5 x y ∨ ∃ m,n = m + 1 ∧ ∃ (p q:Addr) (xs ys:List V),x = .ref p ∧ y = .ref q ∧ ((H p = some (.lst xs) ∧ H q = some (.lst ys)) ∨ (H p = some (.tup xs) ∧ H q = some (.tup ys))) ∧ Paired (U5 H m) xs ys ∧ xs.length ≤ 1000:=by
  cases n with
  | zero=>exact .inl hA
  | succ m=>exact hA.imp id fun z=>⟨m,rfl,z⟩
 rcases hB with (⟨rfl,rfl⟩ | ⟨i,j,rfl,rfl⟩) | ⟨m,rfl,p,r,xs,ys,rfl,rfl,hk,hp,h1000⟩
 ·exact ⟨_,rfl,rfl,_,rfl,N7 ⟨_,rfl,rfl,q _ fun _=>rfl⟩⟩
 ·refine ⟨_,rfl,rfl,_,rfl,C1 ?_⟩
  refine ⟨_,rfl,_,_,_,true,rfl,.int j,M7,true,rfl,N7 ?_⟩
  refine ⟨_,rfl,_,_,_,true,rfl,.int i,M7,_,rfl,N7 ?_⟩
  refine ⟨_,rfl,_,_,_,false,rfl,.int i,P3,_,rfl,_,rfl,N7 ?_⟩
  refine ⟨_,rfl,_,rfl,rfl,q _ fun al=>?_⟩
  refine decide_eq_true ?_
  have al':Q6 (.int i) (.int j):=by
   cases n with
   | zero=>exact al
   | succ m =>
    rcases al with z | ⟨_,_,_,_,z,_⟩
    ·exact z
    ·cases z
  rcases al' with ⟨z,_⟩ | ⟨k,z1,z2⟩
  ·cases z
  ·rw [z1,z2]
 ·obtain rfl:=hsp m rfl
  have ln:=Paired.length hp
  have no:∀ {i:Nat} {x y:V} {b:Bool},xs[i]? = some x → ys[i]? = some y → (K1 H m x y → b = true) → b = false → (K1 H (m + 1) (.ref p) (.ref r) → false = true):=fun hx hy hb e z=>by
   rw [← e]
   exact hb (aK6 hk z hx hy)
  refine ⟨_,rfl,rfl,_,rfl,C1 ?_⟩
  rcases id hk with ⟨k1,k2⟩ | ⟨k1,k2⟩
  ·refine ⟨_,rfl,_,_,_,false,rfl,.lst k2,ax1,false,rfl,C1 ?_⟩
   refine ⟨_,rfl,_,_,_,false,rfl,.lst k2,ac1,false,rfl,C1 ?_⟩
   refine ⟨_,rfl,_,_,_,true,rfl,.lst k1,M5,true,rfl,C1 ?_⟩
   refine ⟨_,rfl,p,_,rfl,.inl (SqL.of k1),_,rfl,r,_,rfl,.inl (SqL.of k2),rfl,_,rfl,au0 (by simp [ln]) ?_⟩
   refine ⟨_,rfl,r,_,rfl,.inl (SqL.of k2),_,rfl,by lia,by lia,?_⟩
   rw [Int.toNat_natCast]
   refine O2 (fun i σ H'=>H' = H ∧ ∃ v,σ = [some (.ref p),some (.ref r),v]) ⟨rfl,_,rfl⟩ ?_ ?_
   ·rintro i σ H' hi ⟨rfl,v,rfl⟩
    rw [Int.zero_add]
    have ex:xs[i]? = some (xs[i]'(by lia)):=List.getElem?_eq_getElem (by lia)
    obtain ⟨y,ey,al⟩:=j7 hp i _ ex
    refine ⟨_,rfl,_,rfl,.inl ⟨p,_,_,_,rfl,rfl,SqL.of k1,E7 ex,_,rfl,_,rfl,.inl ⟨r,_,_,_,rfl,rfl,SqL.of k2,E7 ey,_,_,rfl,al,fun b hb=>⟨b,rfl,?_⟩⟩⟩⟩
    cases b with
    | true=>exact C1 ⟨rfl,_,rfl⟩
    | false=>exact N7 (q _ (no ex ey hb rfl))
   ·rintro σ H' ⟨rfl,v,rfl⟩
    exact q _ fun _=>rfl
  ·refine ⟨_,rfl,_,_,_,false,rfl,.tup k2,aF4,false,rfl,C1 ?_⟩
   refine ⟨_,rfl,_,_,_,true,rfl,.tup k2,K6,true,rfl,N7 ?_⟩
   refine ⟨_,rfl,_,_,_,true,rfl,.tup k1,K6,true,rfl,C1 ?_⟩
   refine ⟨_,rfl,p,_,rfl,.inr (SqT.of k1),_,rfl,r,_,rfl,.inr (SqT.of k2),rfl,_,rfl,au0 (by simp [ln]) ?_⟩
   refine ⟨_,rfl,r,_,rfl,.inr (SqT.of k2),_,rfl,by lia,by lia,?_⟩
   rw [Int.toNat_natCast]
   refine O2 (fun i σ H'=>H' = H ∧ ∃ v,σ = [some (.ref p),some (.ref r),v]) ⟨rfl,_,rfl⟩ ?_ ?_
   ·rintro i σ H' hi ⟨rfl,v,rfl⟩
    rw [Int.zero_add]
    have ex:xs[i]? = some (xs[i]'(by lia)):=List.getElem?_eq_getElem (by lia)
    obtain ⟨y,ey,al⟩:=j7 hp i _ ex
    refine ⟨_,rfl,_,rfl,.inr (.inl ⟨p,_,_,_,rfl,rfl,SqT.of k1,E7 ex,_,rfl,_,rfl,.inr (.inl ⟨r,_,_,_,rfl,rfl,SqT.of k2,E7 ey,_,_,rfl,al,fun b hb=>⟨b,rfl,?_⟩⟩)⟩)⟩
    cases b with
    | true=>exact C1 ⟨rfl,_,rfl⟩
    | false=>exact N7 (q _ (no ex ey hb rfl))
   ·rintro σ H' ⟨rfl,v,rfl⟩
    exact q _ fun _=>rfl
theorem aB8 (T:Txt K mg) (D:Def K mg "_law_alike" (top 53) ["_law_found","_law_due"]):∀ n,Callee P w K mg base (n+1) "_law_alike" ["_law_found","_law_due"] (ae8 n)
 | 0=>ak9 T 0 _ (X3 D 0) D fun m h=>nomatch h
 | n + 1=>ak9 T (n + 1) _ (aB8 T D n) D fun m h=>by cases h; rfl
end
theorem aV8 {l1 l2:List Int} (p:l1.Perm l2) (s1:l1.Pairwise (· ≤ ·)) (s2:l2.Pairwise (· ≤ ·)):l1 = l2:=p.eq_of_pairwise (fun a b _ _ h1 h2=>Int.le_antisymm h1 h2) s1 s2
theorem ap7 {l1 l2:List Call} (p:l1.Perm l2) (s1:l1.Pairwise fun k k'=>k.c < k'.c) (s2:l2.Pairwise fun k k'=>k.c < k'.c):l1 = l2:=p.eq_of_pairwise (fun a b _ _ h1 h2=>absurd h1 (by lia)) s1 s2
theorem aJ4 {H:Hp} {p p':Addr} {κ:Call} (h:y9 H p κ) (h':y9 H p' κ) (few:κ.es.length ≤ 1000):K1 H 2 (.ref p) (.ref p'):=by
 obtain ⟨t,t1,t2⟩:=h
 obtain ⟨t',t1',t2'⟩:=h'
 exact .inr ⟨p,p',_,_,rfl,rfl,.inr ⟨t2,t2'⟩,.cons (Q6.at (.inr ⟨_,rfl,rfl⟩)) (.cons (.inr ⟨t,t',_,_,rfl,rfl,.inr ⟨t1,t1'⟩,af5 κ.es,by rw [List.length_map]; exact few⟩) (.cons (Q6.at (.inr ⟨_,rfl,rfl⟩)) .nil)),by show 3 ≤ 1000; decide⟩
theorem ac4 {H:Hp}:∀ {bs as':List Addr} {ks:List Call},h9 H bs ks → h9 H as' ks → (∀ κ ∈ ks,κ.es.length ≤ 1000) → Paired (K1 H 2) (bs.map V.ref) (as'.map V.ref)
 | _,_,[],.nil,.nil,_=>.nil
 | _,_,κ :: _,.cons h t,.cons h' t',few=>.cons (aJ4 h h' (few _ (List.mem_cons_self ..))) (ac4 t t' fun κ hκ=>few κ (List.mem_cons_of_mem _ hκ))
theorem aT1 {h:Hall} {c:Int} {es:List Int} {k:Int} {d:List Key} (hd:d ∈ C7 h c es k):∃ s r,d = bd7 s r k:=by
 rcases C5.mp hd with rfl | ⟨e,_,rfl⟩
 ·exact ⟨false,_,rfl⟩
 ·exact ⟨true,_,rfl⟩
def N6 (h:Hall) (ks:List Call) (sh:Int) (p:Hall → Call → Nat → Bool) (r:Int):List Nat:=(u6 h sh).filter (w9 ((L6 (P0 (p h) ks r.toNat):Nat):Int))
theorem aO0 {p:Call → Nat → Bool} {ks:List Call} {n:Nat} {r:Int} (h0:0 ≤ r) (h:r < n):atI (E1 p ks n) r = some (.int ((L6 (P0 p ks r.toNat):Nat):Int)):=by
 obtain ⟨j,rfl⟩:=Int.eq_ofNat_of_zero_le h0
 exact E7 (aq4 (by lia))
theorem ak2 {h:Hall} {ks:List Call} {sh:Int} (sd:Bool) {r:Int} (hin:∀ k ∈ ks,k.In h) (fr:ks.Pairwise (C8 h)) (h0:0 ≤ r) {k:Nat} :
  k ∈ N6 h ks sh (if sd then L3 else pIn) r ↔ k ∈ u6 h sh ∧ ∀ y ∈ ks,u5 h sd r (k:Int) y = false:=by
 have nd:(P0 ((if sd then L3 else pIn) h) ks r.toNat).Nodup:=by
  cases sd
  ·exact P1 _ (fr.imp fun z=>ay0 z) hin
  ·exact P1 _ (fr.imp fun z=>aq6 z) hin
 unfold N6
 rw [List.mem_filter,aB7,aj9 _ nd]
 refine and_congr_right fun _=>?_
 rw [Bool.not_eq_true',decide_eq_false_iff_not]
 unfold P0
 rw [List.mem_map]
 have pe:∀ y,(if sd then L3 else pIn) h y r.toNat = true ↔ (if sd then decide (r ∈ g9 h y.es) else decide (y.c / h.c = r)) = true:=fun y=>by
  cases sd
  ·show decide (y.c / h.c = ((r.toNat:Nat):Int)) = true ↔ _
   rw [Int.toNat_of_nonneg h0]
   exact Iff.rfl
  ·show decide (((r.toNat:Nat):Int) ∈ g9 h y.es) = true ↔ _
   rw [Int.toNat_of_nonneg h0]
   exact Iff.rfl
 constructor
 ·intro z y hy
  rw [Bool.eq_false_iff]
  intro w
  unfold u5 at w
  rw [Bool.and_eq_true,decide_eq_true_iff] at w
  exact z ⟨y,List.mem_filter.mpr ⟨hy,(pe y).mpr w.2⟩,by rw [w.1]; rfl⟩
 ·rintro z ⟨y,hy,e⟩
  obtain ⟨h1,h2⟩:=List.mem_filter.mp hy
  have:=z y h1
  have k0:=(hin y h1).k
  have e':y.k = (k:Int):=by lia
  unfold u5 at this
  rw [decide_eq_true e',Bool.true_and,(pe y).mp h2] at this
  cases this
theorem as2 {d r x:Int} (hd:0 < d) (hx:x / d = r):(((List.range d.toNat).map fun (j:Nat)=>r * d + (j:Int)).erase x).length = d.toNat - 1 ∧ ∀ y:Int,y / d = r → y ≠ x → y ∈ ((List.range d.toNat).map fun (j:Nat)=>r * d + (j:Int)).erase x:=by
 have mem:∀ y:Int,y / d = r → y ∈ (List.range d.toNat).map fun (j:Nat)=>r * d + (j:Int):=fun y hy=>by
  have m0:=Int.emod_nonneg y (show d ≠ 0 by lia)
  have m1:=Int.emod_lt_of_pos y hd
  have m2:=Int.mul_ediv_add_emod y d
  rw [Int.mul_comm,hy] at m2
  exact List.mem_map.mpr ⟨(y % d).toNat,List.mem_range.mpr (by lia),by lia⟩
 refine ⟨by rw [List.length_erase_of_mem (mem x hx),List.length_map,List.length_range],fun y hy ne=>(List.mem_erase_of_ne ne).mpr (mem y hy)⟩
theorem as0 {h:Hall} {ks:List Call} {sh:Int} (sd:Bool) {r:Int} (ok:h.Ok) (hin:∀ k ∈ ks,k.In h) (fr:ks.Pairwise (C8 h)) (h0:0 ≤ r) {c:Int} {es:List Int} (idle:aC9 ks c es) {x:Int} (hx:if sd then x ∈ es ∧ x / h.e = r else x = c ∧ c / h.c = r)
  (hm:(if sd then h.e else h.c).toNat ≤ (u6 h sh).length):N6 h ks sh (if sd then L3 else pIn) r ≠ []:=by
 intro z
 have o2:=ok.c
 have o5:=ok.e
 have dp:0 < (if sd then h.e else h.c):=by split <;> lia
 have hxr:x / (if sd then h.e else h.c) = r:=by
  cases sd
  ·show x / h.c = r
   have:=hx
   rw [this.1]; exact this.2
  ·exact hx.2
 obtain ⟨S,l1,l2⟩:∃ S:List Int,S.length = (if sd then h.e else h.c).toNat - 1 ∧ ∀ y:Int,y / (if sd then h.e else h.c) = r → y ≠ x → y ∈ S:=⟨_,as2 dp hxr⟩
 have pg:=as3 (fun (k:Nat) (s:Int)=>∃ y ∈ ks,y.k = (k:Int) ∧ (if sd then s ∈ y.es else s = y.c)) (fun k1 k2 s r1 r2=>by
  obtain ⟨a,ha,e1,q1⟩:=r1
  obtain ⟨b,hb,e2,q2⟩:=r2
  have:a = b:=by
   cases sd
   ·exact M6 fr ha hb (Eq.trans (Eq.symm q1) q2)
   ·obtain ⟨i,hi,ei⟩:=List.getElem_of_mem ha
    obtain ⟨j,hj,ej⟩:=List.getElem_of_mem hb
    have q1:s ∈ a.es:=q1
    have q2:s ∈ b.es:=q2
    rcases Nat.lt_trichotomy i j with w | w | w
    ·have:=(List.pairwise_iff_getElem.mp fr) i j hi hj w
     rw [ei,ej] at this
     exact absurd (o9.mpr (.inr (.inr (.inr ⟨s,q2,rfl⟩)))) (this (af2 s) (o9.mpr (.inr (.inr (.inr ⟨s,q1,rfl⟩)))))
    ·subst w
     exact ei.symm.trans ej
    ·have:=(List.pairwise_iff_getElem.mp fr) j i hj hi w
     rw [ei,ej] at this
     exact absurd (o9.mpr (.inr (.inr (.inr ⟨s,q1,rfl⟩)))) (this (af2 s) (o9.mpr (.inr (.inr (.inr ⟨s,q2,rfl⟩)))))
  rw [this,e2] at e1
  lia) (u6 h sh) S (aH4 h sh) fun k hk=>by
  have ne:¬ ∀ y ∈ ks,u5 h sd r (k:Int) y = false:=fun w=>by
   have:=(ak2 sd hin fr h0).mpr ⟨hk,w⟩
   rw [z] at this
   cases this
  obtain ⟨y,hy,hh⟩:∃ y ∈ ks,u5 h sd r (k:Int) y = true:=by
   refine Classical.byContradiction fun w=>ne fun y hy=>Bool.eq_false_iff.mpr fun q=>w ⟨y,hy,q⟩
  unfold u5 at hh
  rw [Bool.and_eq_true,decide_eq_true_iff] at hh
  cases sd
  ·have e:y.c / h.c = r:=of_decide_eq_true hh.2
   have hx':x = c ∧ c / h.c = r:=hx
   exact ⟨y.c,l2 y.c e (by rw [hx'.1]; exact idle.1 y hy),y,hy,hh.1,rfl⟩
  ·obtain ⟨e,he,q⟩:=u4.mp (of_decide_eq_true hh.2)
   have hx':x ∈ es ∧ x / h.e = r:=hx
   exact ⟨e,l2 e q (fun w=>idle.2 x hx'.1 y hy (w ▸ he)),y,hy,hh.1,he⟩
 rw [l1] at pg
 lia
def exM (a b:Int) (k:Call):Mv:=⟨k.c,k.k,a + b - k.k⟩
theorem aQ0 {ks L:List Call} {ms:List Mv} {a b:Int} (hL:∀ k ∈ L,k ∈ ks ∧ (k.k = a ∨ k.k = b)) (hl:ms.length = (L.map Call.c).length) (hm:∀ (j:Nat) m k,ms[j]? = some m → k ∈ ks → some k.c = (L.map Call.c)[j]? → m = ⟨k.c,k.k,if k.k = a then b else a⟩):ms = L.map (exM a b):=by
 refine List.ext_getElem? fun j=>?_
 rw [List.getElem?_map]
 cases e:L[j]? with
 | none =>
  rw [List.getElem?_eq_none_iff] at e
  rw [List.length_map] at hl
  exact List.getElem?_eq_none (by lia)
 | some k =>
  have hj:=(List.getElem?_eq_some_iff.mp e).1
  rw [List.length_map] at hl
  have hj':j < ms.length:=by lia
  obtain ⟨h1,h2⟩:=hL k (List.mem_of_getElem? e)
  rw [List.getElem?_eq_getElem hj',hm j _ k (List.getElem?_eq_getElem hj') h1 (by rw [List.getElem?_map,e]; rfl)]
  show _ = some (exM a b k)
  unfold exM
  by_cases c:k.k = a
  ·rw [if_pos c,c,show a + b - a = b by lia]
  ·rw [if_neg c,h2.resolve_left c,show a + b - b = a by lia]
theorem aB1 {ks L:List Call} {a b:Int} (un:∀ k ∈ L,∀ k' ∈ ks,k.c = k'.c → k = k'):o7 ks (L.map (exM a b)) = ks.map (al3 a b (L.map Call.c)):=by
 unfold o7
 refine List.map_congr_left fun k hk=>?_
 unfold aW1 al3 A5
 by_cases c:k.c ∈ L.map Call.c
 ·rw [if_pos c]
  obtain ⟨k0,h0,e0⟩:=List.mem_map.mp c
  obtain rfl:=un k0 h0 k hk e0
  cases f:(L.map (exM a b)).find? (fun m=>decide (m.c = k0.c)) with
  | none =>
   have:=List.find?_eq_none.mp f (exM a b k0) (List.mem_map_of_mem h0)
   simp [exM] at this
  | some m =>
   obtain ⟨k1,h1,rfl⟩:=List.mem_map.mp (List.mem_of_find?_eq_some f)
   have e2:=List.find?_some f
   have e1:k1.c = k0.c:=of_decide_eq_true e2
   obtain rfl:=un k1 h1 k0 hk e1
   rfl
 ·rw [if_neg c]
  cases f:(L.map (exM a b)).find? (fun m=>decide (m.c = k.c)) with
  | none=>rfl
  | some m =>
   obtain ⟨k1,h1,rfl⟩:=List.mem_map.mp (List.mem_of_find?_eq_some f)
   have e2:=List.find?_some f
   have e1:k1.c = k.c:=of_decide_eq_true e2
   exact absurd (List.mem_map.mpr ⟨k1,h1,e1⟩) c
structure RoomIs (h:Hall) (ks:List Call) (c:Int) (es:List Int) (sh:Int) (ms:List Mv) (k:Int):Prop where
 good:aj3 h ks ms
 free:∀ y ∈ o7 ks ms,y.k = k → M4 h (c / h.c) (g9 h es) y = false
 op:∃ n ∈ u6 h sh,k = (n:Int)
 few:2 * (ms.length:Int) ≤ h.i + h.o - 2
 mv:∀ m ∈ ms,m.k ≠ m.o ∧ (∃ n ∈ u6 h sh,m.k = (n:Int)) ∧ ∃ n ∈ u6 h sh,m.o = (n:Int)
theorem ag3 {h:Hall} {st:Int} {g:Int} {y:Call} {k:Int} (e:y.k = k) (n1:u5 h false st k y = false) (n2:u5 h true g k y = false):M4 h st [g] y = false:=by
 unfold u5 at n1 n2
 rw [decide_eq_true e,Bool.true_and] at n1 n2
 have n1:decide (y.c / h.c = st) = false:=n1
 have n2:decide (g ∈ g9 h y.es) = false:=n2
 unfold M4
 rw [n1,Bool.false_or,List.any_eq_false]
 intro r hr q
 have:r = g:=List.mem_singleton.mp (of_decide_eq_true q)
 exact absurd (this ▸ hr) (of_decide_eq_false n2)
theorem O3 {h:Hall} {ks:List Call} {a b r:Int} {sd:Bool} {ns:List Int} (hin:∀ k ∈ ks,k.In h) (fr:ks.Pairwise (C8 h)) (h63:ks.length ≤ 63) (e:J3 h ks a b 64 sd r [] = some ns):∃ L,ns = L.map Call.c ∧ Walked h ks a b sd r L :=
 aq0 hin fr 64 sd r [] ns e .nil (by show ks.length < 64 + 0; lia)
theorem bb7 {h:Hall} {ks:List Call} {a b r:Int} {sd:Bool} {L:List Call} (fr:ks.Pairwise (C8 h)) (hab:a ≠ b) (hf:∀ y ∈ ks,u5 h sd r (col a b (!sd)) y = false) (W:Walked h ks a b sd r L):(ks.map (al3 a b (L.map Call.c))).Pairwise (LF h):=by
 rw [List.pairwise_map]
 refine List.Pairwise.imp_of_mem (fun {x y} hx hy f=>?_) fr
 have ne:x ≠ y:=fun z=>f.caller (by rw [z])
 intro d hd hd'
 obtain ⟨s,q,rfl⟩:=aT1 hd
 have h1:=ax4.mp hd
 have h2:=ax4.mp hd'
 rw [aJ7 hab fr hf W hx hy ne h1] at h2
 cases h2
theorem aL0 {h:Hall} {ks:List Call} {c:Int} {es:List Int} {sh:Int} {a b st g:Int} {sd:Bool} {L M:List Call} (ok:h.Ok) (hin:∀ k ∈ ks,k.In h) (fr:ks.Pairwise (C8 h)) (up:ks.Pairwise fun k k'=>k.c < k'.c)
  (hst:c / h.c = st) (hes:g9 h es = [g]) (h1:0 ≤ g ∧ g < h.o) (h2:0 ≤ st ∧ st < h.i) (hab:a ≠ b) (oa:∃ n ∈ u6 h sh,a = (n:Int)) (ob:∃ n ∈ u6 h sh,b = (n:Int))
  (ia:∀ y ∈ ks,u5 h false st a y = false) (ib:∀ y ∈ ks,u5 h true g b y = false) (WL:Walked h ks a b sd (if sd then g else st) L) (WM:Walked h ks a b (!sd) (if sd then st else g) M) (le:L.length ≤ M.length):RoomIs h ks c es sh (L.map (exM a b)) (col a b sd):=by
 have un:∀ k ∈ L,∀ k' ∈ ks,k.c = k'.c → k = k':=fun k hk k' hk' e=>by
  obtain ⟨s,x,p,_⟩:=WL.ex
  exact M6 fr (p.mem k hk).1 hk' e
 obtain ⟨s,x,pL,_⟩:=id WL.ex
 obtain ⟨s',x',pM,_⟩:=id WM.ex
 have hf:∀ y ∈ ks,u5 h sd (if sd then g else st) (col a b (!sd)) y = false:=by cases sd; exact ia; exact ib
 have om:=ok.m
 have inr:∀ {k:Int},(∃ n ∈ u6 h sh,k = (n:Int)) → 0 ≤ k ∧ k < h.m:=fun {k} z=>by
  obtain ⟨n,hn,e⟩:=z
  have:=at4 hn
  lia
 have pr:∀ k ∈ L,(∃ n ∈ u6 h sh,k.k = (n:Int)) ∧ (∃ n ∈ u6 h sh,a + b - k.k = (n:Int)) ∧ k.k ≠ a + b - k.k:=fun k hk=>by
  rcases (pL.mem k hk).2.2 with e | e
  ·rw [e,show a + b - a = b by lia]
   exact ⟨oa,ob,hab⟩
  ·rw [e,show a + b - b = a by lia]
   exact ⟨ob,oa,Ne.symm hab⟩
 have be:=aB1 (a:=a) (b:=b) un
 have cnt:((L.length + M.length:Nat):Int) ≤ h.i + h.o - 2:=by
  cases sd with
  | true=>exact aA3 ok hin h1 h2 hab fr ib ia pM pL
  | false =>
   have:=aA3 ok hin h1 h2 hab fr ib ia pL pM
   lia
 refine ⟨⟨fun i m hm=>?_,?_⟩,fun y hy e=>?_,?_,by rw [List.length_map]; lia,fun m hm=>?_⟩
 ·rw [List.getElem?_map] at hm
  obtain ⟨k,hk,rfl⟩:=Option.map_eq_some_iff.mp hm
  have hkL:=List.mem_of_getElem? hk
  refine ⟨fun m' hm'=>?_,⟨k,(pL.mem k hkL).1,rfl,rfl⟩,inr (pr k hkL).2.1⟩
  rw [← List.map_take] at hm'
  obtain ⟨k',hk',rfl⟩:=List.mem_map.mp hm'
  obtain ⟨j,hj,ej⟩:=List.mem_take_iff_getElem.mp hk'
  have nd:=pL.nodup
  obtain ⟨hi,ei⟩:=List.getElem?_eq_some_iff.mp hk
  have:=(List.pairwise_iff_getElem.mp nd) j i (by rw [List.length_map]; lia) (by rw [List.length_map]; lia) (by lia)
  rw [List.getElem_map,List.getElem_map,ej,ei] at this
  exact this
 ·refine (bf9 up (fr.imp fun {x y} f e he he'=>f (af2 e) (o9.mpr (.inr (.inr (.inr ⟨e,he,rfl⟩)))) (o9.mpr (.inr (.inr (.inr ⟨e,he',rfl⟩))))) _).mpr ?_
  rw [be]
  exact bb7 fr hab hf WL
 ·rw [be] at hy
  obtain ⟨y0,hy0,rfl⟩:=List.mem_map.mp hy
  have f1:=aQ5 hab fr hf WL hy0
  have f2:u5 h (!sd) (if sd then st else g) (col a b sd) (al3 a b (L.map Call.c) y0) = false:=by
   unfold al3
   by_cases cy:y0.c ∈ L.map Call.c
   ·rw [if_pos cy,Bool.eq_false_iff]
    intro w
    obtain ⟨w1,w2⟩:=Q7.mp w
    have my:=(ag1 fr pL hy0).mp cy
    have nw:=(pL.mem y0 my).2.1
    have q:=((B8 nw).mp w2).2
    have v1:=bi5 hab pL my (!sd)
    rw [q] at v1
    cases sd with
    | true=>exact ak7 hab fr ib ia pM pL _ v1 (List.mem_cons_self ..)
    | false=>exact ak7 hab fr ib ia pL pM _ (List.mem_cons_self ..) v1
   ·rw [if_neg cy]
    cases sd
    ·exact ib y0 hy0
    ·exact ia y0 hy0
  rw [hst,hes]
  cases sd
  ·exact ag3 e f1 f2
  ·exact ag3 e f2 f1
 ·cases sd
  ·exact ob
  ·exact oa
 ·obtain ⟨k,hk,rfl⟩:=List.mem_map.mp hm
  exact ⟨(pr k hk).2.2,(pr k hk).1,(pr k hk).2.1⟩
def aj4 (h:Hall) (ks:List Call):Prop:=∀ k ∈ ks,(g9 h k.es).length = 1
def ay4 (h:Hall) (ks:List Call) (st g a b:Int) (cs:List Int) (k:Int):Prop:=∃ F N,J3 h ks a b 64 true g [] = some F ∧ J3 h ks a b 64 false st [] = some N ∧ ((cs = F ∧ k = a ∧ F.length ≤ N.length) ∨ (cs = N ∧ k = b ∧ N.length ≤ F.length))
theorem am8 {h:Hall} {ks:List Call} {a b r:Int} {sd:Bool} (nw:aj4 h ks):∃ ns,J3 h ks a b 64 sd r [] = some ns:=by
 cases e:J3 h ks a b 64 sd r [] with
 | some ns=>exact ⟨ns,rfl⟩
 | none =>
  obtain ⟨k,hk,w⟩:=ap0 _ _ _ _ e
  have:=nw k hk
  lia
def aC7 (K:PySem.W.Frag):Sp:=fun vs H Q _=>∃ (p l:Addr) (h:Hall) (as:List Addr) (ks:List Call) (st g a b:Int),vs = [.ref p,.ref l,.int st,.int g,.int a,.int b] ∧ Chained K H p l h as ks ∧ ks.Pairwise (C8 h) ∧ aj4 h ks ∧
 ∀ (t cl:Addr) (cs:List Int) (k:Int) (H':Hp),i4 H H' → H' t = some (.tup [.ref cl,.int k]) → H' cl = some (.lst (cs.map V.int)) → ay4 h ks st g a b cs k → Q (.ref t) H'
def aq2 (K:PySem.W.Frag):Sp:=fun vs H Q _=>∃ (p l:Addr) (h:Hall) (as:List Addr) (ks:List Call) (st g sh:Int),vs = [.ref p,.ref l,.int st,.int g,.int sh] ∧ Chained K H p l h as ks ∧ ks.Pairwise (C8 h) ∧ (ks.Pairwise fun k k'=>k.c < k'.c) ∧ aj4 h ks ∧ (0 ≤ st ∧ st < h.i) ∧ (0 ≤ g ∧ g < h.o) ∧ N6 h ks sh pIn st ≠ [] ∧ N6 h ks sh L3 g ≠ [] ∧
 ∀ (a b:Nat) (cs:List Int) (k:Int) (t ml:Addr) (mas:List Addr) (ms:List Mv) (H':Hp),a ∈ N6 h ks sh pIn st → b ∈ N6 h ks sh L3 g → ay4 h ks st g a b cs k → i4 H H' → H' t = some (.tup [.ref ml,.int k]) → H' ml = some (.lst (mas.map V.ref)) → B7 H' mas ms → ms.length = cs.length → (∀ (j:Nat) m k,ms[j]? = some m → k ∈ ks → some k.c = cs[j]? → m = ⟨k.c,k.k,if k.k = (a:Int) then (b:Int) else (a:Int)⟩) → Q (.ref t) H'
section
variable {P:Program} {w:World} {K:PySem.W.Frag} {mg:Str → Option Value} {base:Heap}
theorem K7:FnScope ["hall","calls","start","goal","a","b","far","near"] ["hall","calls","start","goal","a","b"] (d5 (top 47)):=⟨rfl,rfl,rfl,by decide +kernel,rfl,by decide +kernel,by decide +kernel⟩
theorem aQ6 (T:Txt K mg) (C_chain_out:Callee P w K mg base 6 "chain_out" ["hall","calls","rack","a","b"] (ae7 K true)) (C_chain_in:Callee P w K mg base 6 "chain_in" ["hall","calls","rack","a","b"] (ae7 K false)) (D:Def K mg "chain_chosen" (top 47) ["hall","calls","start","goal","a","b"]):Callee P w K mg base 7 "chain_chosen" ["hall","calls","start","goal","a","b"] (aC7 K):=by
 refine D.ok K7 (fun vs H Q E h=>?_) (fun ff cdv A outer s H vs Q E hr h=>?_)
 ·obtain ⟨p,l,h,as,ks,st,g,a,b,rfl,_⟩:=h
  rfl
 obtain ⟨p,l,h,as,ks,st,g,a,b,rfl,ch,fr,nw,q⟩:=h
 obtain ⟨F,eF⟩:=am8 (a:=a) (b:=b) (sd:=true) (r:=g) nw
 obtain ⟨N,eN⟩:=am8 (a:=a) (b:=b) (sd:=false) (r:=st) nw
 refine ⟨_,(d8 (j8 (i:=6) K7.nd rfl (Or.inl rfl) (m7 C_chain_out hr rfl (b4 (pv 0) (b4 (pv 1) (b4 (pv 3) (b4 (pv 4) (b4 (pv 5) d4 b5) b5) b5) b5) b5)))
  (d8 (j8 (i:=7) K7.nd rfl (Or.inl rfl) (m7 C_chain_in hr rfl (b4 (pv 0) (b4 (pv 1) (b4 (pv 2) (b4 (pv 4) (b4 (pv 5) d4 b5) b5) b5) b5) b5)))
  (d8 (u3 (PW.pt (ah3 (m5 U0 (pv 6) y7 (n9 _)) (ae0 (PW.pt (N9 (m5 W8 (pv 7) y7 (n9 _)) (N5 (m5 ay8 (i7 (u0 K) rfl T.m_len boot_len (b4 (pv 6) d4 b5)) (i7 (u0 K) rfl T.m_len boot_len (b4 (pv 7) d4 b5)) (n9 _)))))))) (e7 (i8 (A9 (b4 (pv 6) (b4 (pv 4) d4 b5) b5)))) m8)
  (d8 (u3 (m5 U0 (pv 7) y7 (n9 _)) (e7 (i8 (A9 (b4 (pv 7) (b4 (pv 5) d4 b5) b5)))) m8)
  (e7 (i8 y7)))))),?_⟩
 refine ⟨_,rfl,_,rfl,_,rfl,_,rfl,_,rfl,p,l,h,as,ks,g,a,b,rfl,ch,fr,fun v1 H1 s1 f1 o1=>?_⟩
 rw [eF] at o1
 rcases o1 with ⟨z,_⟩ | ⟨l1,n1,z,rfl,e1⟩
 ·cases z
 cases z
 refine ⟨_,rfl,_,rfl,_,rfl,_,rfl,_,rfl,p,l,h,as,ks,st,a,b,rfl,ch.same s1,fr,fun v2 H2 s2' f2 o2=>?_⟩
 rw [eN] at o2
 rcases o2 with ⟨z,_⟩ | ⟨l2,n2,z,rfl,e2⟩
 ·cases z
 cases z
 have s2:=s1.trans s2'
 have e1':=s2' _ _ e1
 refine ⟨_,rfl,rfl,_,rfl,N7 ?_⟩
 refine ⟨_,rfl,rfl,_,rfl,C1 ?_⟩
 refine ⟨_,rfl,l1,_,rfl,.inl (SqL.of e1'),_,rfl,l2,_,rfl,.inl (SqL.of e2),_,_,rfl,rfl,_,rfl,C3 (fun z=>?_) (fun z=>?_)⟩
 ·have z':F.length ≤ N.length:=by
   have:=of_decide_eq_true z
   rw [List.length_map,List.length_map] at this
   lia
  refine ⟨_,rfl,_,rfl,(by show 2 ≤ sizeLine; decide),fun t ht=>?_⟩
  have s3:=d9 ht (.tup [.ref l1,.int a])
  exact q t l1 F a _ (s2.trans s3) d6 (s3 _ _ e1') ⟨F,N,eF,eN,.inl ⟨rfl,rfl,z'⟩⟩
 ·have z':¬ F.length ≤ N.length:=fun y=>z (decide_eq_true (by rw [List.length_map,List.length_map]; lia))
  refine ⟨_,rfl,rfl,_,rfl,N7 ⟨_,rfl,_,rfl,(by show 2 ≤ sizeLine; decide),fun t ht=>?_⟩⟩
  have s3:=d9 ht (.tup [.ref l2,.int b])
  exact q t l2 N b _ (s2.trans s3) d6 (s3 _ _ e2) ⟨F,N,eF,eN,.inr ⟨rfl,rfl,by lia⟩⟩
theorem A0:FnScope ["hall","calls","start","goal","shut","ready","goal_idle","a","b","chosen"] ["hall","calls","start","goal","shut"] (d5 (top 48)):=⟨rfl,rfl,rfl,by decide +kernel,rfl,by decide +kernel,by decide +kernel⟩
theorem aI4 (T:Txt K mg) (C_left_open:Callee P w K mg base 1 "left_open" ["hall","shut"] (aL8 K)) (C_in_bits:Callee P w K mg base 2 "in_bits" ["hall","calls"] (au1 K pIn Hall.i)) (C_out_bits:Callee P w K mg base 3 "out_bits" ["hall","calls"] (au1 K L3 Hall.o)) (C_idle_racks:Callee P w K mg base 1 "idle_racks" ["racks","bits"] (aN5 K)) (C_chain_chosen:Callee P w K mg base 7 "chain_chosen" ["hall","calls","start","goal","a","b"] (aC7 K)) (C_moves_of:Callee P w K mg base 3 "moves_of" ["calls","chain","a","b"] (an0 K)) (D:Def K mg "room_by_chain" (top 48) ["hall","calls","start","goal","shut"]):Callee P w K mg base 8 "room_by_chain" ["hall","calls","start","goal","shut"] (aq2 K):=by
 refine D.ok A0 (fun vs H Q E h=>?_) (fun f cdv A outer s H vs Q E hr h=>?_)
 ·obtain ⟨p,l,h,as,ks,st,g,sh,rfl,_⟩:=h
  rfl
 obtain ⟨p,l,h,as,ks,st,g,sh,rfl,ch,fr,up,nw,hst,hg,hA,hB,q⟩:=h
 have ol24:(u6 h sh).length ≤ 24:=by have:=aA7 h sh; have:=ch.ok.m; lia
 refine ⟨_,(d8 (j8 (i:=5) A0.nd rfl (Or.inl rfl) (m7 C_left_open hr rfl (b4 (pv 0) (b4 (pv 4) d4 b5) b5)))
  (d8 (j8 (i:=6) A0.nd rfl (Or.inl rfl) (m7 C_idle_racks hr rfl (b4 (pv 5) (b4 (i6 (C4 K) (m7 C_out_bits hr rfl (b4 (pv 0) (b4 (pv 1) d4 b5) b5)) (pv 3) (fun _ _=>rfl)) d4 n6) b5)))
  (d8 (y8 PassesOwn.never rfl (o6 K (m7 C_idle_racks hr rfl (b4 (pv 5) (b4 (i6 (C4 K) (m7 C_in_bits hr rfl (b4 (pv 0) (b4 (pv 1) d4 b5) b5)) (pv 2) (fun _ _=>rfl)) d4 n6) b5))) (m9 (i:=7) A0.nd rfl (Or.inl rfl))
  (e7 (y8 PassesOwn.never rfl (o6 K (pv 6)) (m9 (i:=8) A0.nd rfl (Or.inl rfl))
  (d8 (j8 (i:=9) A0.nd rfl (Or.inl rfl) (m7 C_chain_chosen hr rfl (b4 (pv 0) (b4 (pv 1) (b4 (pv 2) (b4 (pv 3) (b4 (pv 7) (b4 (pv 8) d4 b5) b5) b5) b5) b5) b5)))
  (e7 (u3 (m5 U0 (pv 9) y7 (n9 _)) (e7 (i8 (A9 (b4 (m7 C_moves_of hr rfl (b4 (pv 1) (b4 (i6 (e8 K) (pv 9) d7 (fun _ _=>rfl)) (b4 (pv 7) (b4 (pv 8) d4 b5) b5) n6) b5)) (b4 (i6 (e8 K) (pv 9) d7 (fun _ _=>rfl)) d4 n6) x0)))) m8))))))
  (e7 (i8 y7))))),?_⟩
 refine ⟨_,rfl,_,rfl,p,h,sh,rfl,ch.p,ch.ok,fun rl hrl=>?_⟩
 have s1:=d9 hrl (.lst (A2 (u6 h sh)))
 have e1:=d6 (H:=H) (a:=rl) (o:=.lst (A2 (u6 h sh)))
 generalize upd H rl (.lst (A2 (u6 h sh))) = H1 at s1 e1 ⊢
 have c1:=ch.same s1
 refine ⟨_,rfl,_,rfl,_,rfl,p,l,h,as,ks,rfl,c1.p,c1.ok,c1.l,c1.c,c1.hin,fr,c1.few,fun ol H2 s2' hol eol=>?_⟩
 have s2:=s1.trans s2'
 refine ⟨_,rfl,ol,_,_,_,rfl,rfl,SqL.of eol,aO0 hg.1 (by lia),rl,u6 h sh,_,rfl,SqL.of (s2' _ _ e1),by lia,fun gl hgl=>?_⟩
 have s3':=d9 hgl (.lst (A2 ((u6 h sh).filter (w9 ((L6 (P0 (L3 h) ks g.toNat):Nat):Int)))))
 have s3:=s2.trans s3'
 have e3:=s3' _ _ (s2' _ _ e1)
 have eg3:=d6 (H:=H2) (a:=gl) (o:=.lst (A2 ((u6 h sh).filter (w9 ((L6 (P0 (L3 h) ks g.toNat):Nat):Int)))))
 generalize upd H2 gl (.lst (A2 ((u6 h sh).filter (w9 ((L6 (P0 (L3 h) ks g.toNat):Nat):Int))))) = H3 at s3 e3 eg3 ⊢
 have c3:=ch.same s3
 refine ⟨_,rfl,_,rfl,_,rfl,p,l,h,as,ks,rfl,c3.p,c3.ok,c3.l,c3.c,c3.hin,fr,c3.few,fun il H4 s4' hil eil=>?_⟩
 have s4:=s3.trans s4'
 refine ⟨_,rfl,il,_,_,_,rfl,rfl,SqL.of eil,aO0 hst.1 (by lia),rl,u6 h sh,_,rfl,SqL.of (s4' _ _ e3),by lia,fun al hal=>?_⟩
 have s5':=d9 hal (.lst (A2 ((u6 h sh).filter (w9 ((L6 (P0 (pIn h) ks st.toNat):Nat):Int)))))
 have s5:=s4.trans s5'
 have e5:=d6 (H:=H4) (a:=al) (o:=.lst (A2 ((u6 h sh).filter (w9 ((L6 (P0 (pIn h) ks st.toNat):Nat):Int)))))
 have eg5:=s5' _ _ (s4' _ _ eg3)
 generalize upd H4 al (.lst (A2 ((u6 h sh).filter (w9 ((L6 (P0 (pIn h) ks st.toNat):Nat):Int))))) = H5 at s5 e5 eg5 ⊢
 change H5 al = some (.lst (A2 (N6 h ks sh pIn st))) at e5
 change H5 gl = some (.lst (A2 (N6 h ks sh L3 g))) at eg5
 generalize N6 h ks sh pIn st = IA at hA q e5
 generalize N6 h ks sh L3 g = IB at hB q eg5
 have c5:=ch.same s5
 refine ⟨al,rfl,⟨_,SqL.of e5⟩,?_⟩
 refine w6 (xs:=A2 IA) (fun i σ H'=>i = 0 ∧ H' = H5 ∧ σ = [some (.ref p),some (.ref l),some (.int st),some (.int g),some (.int sh),some (.ref rl),some (.ref gl),none,none,none]) ⟨rfl,rfl,rfl⟩ (fun i σ H' _ gg=>by rw [gg.2.1]; exact SqL.of e5) ?_ ?_
 ·rintro i x σ H' hx ⟨rfl,rfl,rfl⟩
  unfold A2 at hx
  rw [List.getElem?_map] at hx
  obtain ⟨a,ha,rfl⟩:=Option.map_eq_some_iff.mp hx
  refine ⟨_,rfl,gl,rfl,⟨_,SqL.of eg5⟩,?_⟩
  refine w6 (xs:=A2 IB) (fun i σ H2=>i = 0 ∧ H2 = H' ∧ σ = [some (.ref p),some (.ref l),some (.int st),some (.int g),some (.int sh),some (.ref rl),some (.ref gl),some (.int (a:Nat)),none,none]) ⟨rfl,rfl,rfl⟩ (fun i σ H2 _ gg=>by rw [gg.2.1]; exact SqL.of eg5) ?_ ?_
  ·rintro j y σ H2 hy ⟨rfl,rfl,rfl⟩
   unfold A2 at hy
   rw [List.getElem?_map] at hy
   obtain ⟨b,hb,rfl⟩:=Option.map_eq_some_iff.mp hy
   refine ⟨_,rfl,_,rfl,_,rfl,_,rfl,_,rfl,_,rfl,p,l,h,as,ks,st,g,a,b,rfl,c5,fr,nw,fun t cl cs k H6 s6' et ecl chosen=>?_⟩
   have s6:=s5.trans s6'
   have c6:=ch.same s6
   refine ⟨_,rfl,rfl,_,rfl,N7 ?_⟩
   obtain ⟨F,N,eF,eN,cc⟩:=id chosen
   obtain ⟨sd,r,ew⟩:∃ sd r,J3 h ks a b 64 sd r [] = some cs:=by
    rcases cc with ⟨rfl,_⟩ | ⟨rfl,_⟩
    ·exact ⟨_,_,eF⟩
    ·exact ⟨_,_,eN⟩
   obtain ⟨L,rfl,W⟩:=O3 ch.hin fr ch.few ew
   obtain ⟨s',x',pL,_⟩:=W.ex
   have lL:(L.map Call.c).length ≤ ks.length:=as8 pL.nodup fun c hc=>by
    obtain ⟨k,h1,h2⟩:=List.mem_map.mp hc
    exact ⟨k,(pL.mem k h1).1,h2⟩
   have:=ch.few
   refine ⟨_,rfl,_,rfl,t,_,_,_,rfl,rfl,SqT.of et,rfl,_,rfl,_,rfl,l,cl,as,ks,L.map Call.c,a,b,rfl,c6.l,c6.c,up,SqL.of ecl,by lia,fun c hc=>?_,fun ml mas ms H7 s7 em hms hlen hmm=>?_⟩
   ·obtain ⟨k,h1,h2⟩:=List.mem_map.mp hc
    exact ⟨k,(pL.mem k h1).1,h2⟩
   ·refine ⟨_,rfl,t,_,_,_,rfl,rfl,SqT.of (s7 _ _ et),rfl,(by show 2 ≤ sizeLine; decide),fun t2 ht2=>?_⟩
    have s8:=d9 ht2 (.tup [.ref ml,.int k])
    exact q a b _ k t2 ml mas ms _ (List.mem_of_getElem? ha) (List.mem_of_getElem? hb) chosen (s6.trans (s7.trans s8)) d6 (s8 _ _ em) (B7.same (fun b xs z=>s8 _ _ z) hms) hlen hmm
  ·rintro σ H2 ⟨z,_⟩
   unfold A2 at z
   rw [List.length_map] at z
   exact absurd (List.length_eq_zero_iff.mp z) hB
 ·rintro σ H2 ⟨z,_⟩
  unfold A2 at z
  rw [List.length_map] at z
  exact absurd (List.length_eq_zero_iff.mp z) hA
end
theorem aj1 (ks:List Call):o7 ks [] = ks:=by
 unfold o7
 exact (List.map_congr_left fun k _=>rfl).trans (List.map_id _)
theorem aV9 {h:Hall} {ks:List Call} (fr:ks.Pairwise (C8 h)) (up:ks.Pairwise fun k k'=>k.c < k'.c):aj3 h ks []:=by
 refine ⟨fun i m z=>(by rw [List.getElem?_nil] at z; cases z),?_⟩
 rw [aj1]
 exact (fr.and up).imp fun z=>aX1 z.1 z.2
theorem a55 {h:Hall} {ks:List Call} {c:Int} {es:List Int} {sh:Int} {k:Nat} (ok:h.Ok) (fr:ks.Pairwise (C8 h)) (up:ks.Pairwise fun k k'=>k.c < k'.c) (hk:k ∈ ap8 h ks c es sh):RoomIs h ks c es sh [] k:=by
 have o1:=ok.i
 have o2:=ok.o
 obtain ⟨h1,h2⟩:=aA6.mp hk
 refine ⟨aV9 fr up,fun y hy e=>?_,⟨k,h1,rfl⟩,by show 2 * (0:Int) ≤ _; lia,fun m hm=>nomatch hm⟩
 rw [aj1] at hy
 rw [Bool.eq_false_iff]
 intro w
 have:y.c ∈ aa7 h ks (c / h.c) (g9 h es) k:=List.mem_map.mpr ⟨y,List.mem_filter.mpr ⟨hy,by rw [decide_eq_true e,w]; rfl⟩,rfl⟩
 rw [h2] at this
 cases this
structure Ask35 (h:Hall) (ks:List Call) (c:Int) (es:List Int) (sh:Int):Prop where
 fr:ks.Pairwise (C8 h)
 up:ks.Pairwise fun k k'=>k.c < k'.c
 nw:aj4 h ks
 cr:0 ≤ c ∧ c < h.i * h.c
 g:∃ g,g9 h es = [g]
 er:∀ x ∈ es,0 ≤ x ∧ x < h.o * h.e
 idle:aC9 ks c es
 mc:h.c.toNat ≤ (u6 h sh).length
 me:h.e.toNat ≤ (u6 h sh).length
def aF2 (K:PySem.W.Frag):Sp:=fun vs H Q _=>∃ (a l e:Addr) (h:Hall) (as:List Addr) (ks:List Call) (c:Int) (es:List Int) (sh:Int),vs = [.ref a,.ref l,.int c,.ref e,.int sh] ∧ Asked K H a l e h as ks es ∧ Ask35 h ks c es sh ∧
 ∀ (k:Int) (t ml:Addr) (mas:List Addr) (ms:List Mv) (H':Hp),i4 H H' → H' t = some (.tup [.ref ml,.int k]) → H' ml = some (.lst (mas.map V.ref)) → B7 H' mas ms → RoomIs h ks c es sh ms k → Q (.ref t) H'
def a51 (K:PySem.W.Frag):Sp:=fun vs H Q _=>∃ (a l e:Addr) (h:Hall) (as:List Addr) (ks:List Call) (c:Int) (es:List Int) (sh:Int),vs = [.ref a,.ref l,.int c,.ref e,.int sh] ∧ Asked K H a l e h as ks es ∧ H l = some (.lst (as.map V.ref)) ∧ ks.length < 63 ∧ EndTh K H (.ref e) (some (es.map V.int)) ∧ ac9 h (some (es.map V.int)) = true ∧ Ask35 h ks c es sh ∧
 ∀ (k:Int) (t ml r:Addr) (mas bs:List Addr) (ms:List Mv) (ks':List Call) (es':List Int) (H':Hp),i4 H H' → H' t = some (.tup [.ref ml,.ref r]) → H' ml = some (.lst (mas.map V.ref)) → B7 H' mas ms → RoomIs h ks c es sh ms k → H' r = some (.lst (bs.map V.ref)) → h9 H' bs ks' → es'.Perm es → es'.Pairwise (· ≤ ·) → ks'.Perm (o7 ks ms ++ [⟨c,es',k⟩]) → ks'.Pairwise (fun k k'=>k.c < k'.c) → Q (.ref t) H'
section
variable {P:Program} {w:World} {K:PySem.W.Frag} {mg:Str → Option Value} {base:Heap}
theorem Y0:FnScope ["hall","calls","caller","ends","shut","free","goals","found"] ["hall","calls","caller","ends","shut"] (d5 (top 49)):=⟨rfl,rfl,rfl,by decide +kernel,rfl,by decide +kernel,by decide +kernel⟩
theorem aT7 (T:Txt K mg) (C_ways:CalleeD P w K mg base 5 "ways" ["hall","calls","caller","ends","shut"] [.int 0] (aW7 K)) (C_racks_of:Callee P w K mg base 2 "racks_of" ["hall","ends"] (M9 K)) (C_place_in:Callee P w K mg base 1 "place_in" ["hall","caller"] (L4 K Hall.c)) (C_room_by_chain:Callee P w K mg base 8 "room_by_chain" ["hall","calls","start","goal","shut"] (aq2 K)) (D:DefD K mg "room" (top 49) ["hall","calls","caller","ends","shut"] [.int 0]):CalleeD P w K mg base 9 "room" ["hall","calls","caller","ends","shut"] [.int 0] (aF2 K):=by
 refine D.ok Y0 (fun vs H Q E h=>?_) (fun f cdv A outer s H vs Q E hr h=>?_)
 ·obtain ⟨a,l,e,h,as,ks,c,es,sh,rfl,_⟩:=h
  rfl
 obtain ⟨a,l,e,h,as,ks,c,es,sh,rfl,ask,q35,q⟩:=h
 have o1:=ask.ok.c
 have o2:=ask.ok.e
 refine ⟨_,(d8 (j8 (i:=5) Y0.nd rfl (Or.inl rfl) (m7 C_ways.all hr rfl (b4 (pv 0) (b4 (pv 1) (b4 (pv 2) (b4 (pv 3) (b4 (pv 4) d4 b5) b5) b5) b5) b5)))
  (d8 (u3 (m5 (ar6 K (Room.units0 hr)) (pv 5) (B0 d4) (n9 _)) (e7 (i8 (A9 (b4 (B0 d4) (b4 (i6 (C4 K) (pv 5) d7 (fun _ _=>rfl)) d4 n6) a91)))) m8)
  (d8 (j8 (i:=6) Y0.nd rfl (Or.inl rfl) (m7 C_racks_of hr rfl (b4 (pv 0) (b4 (pv 3) d4 b5) b5)))
  (d8 (j8 (i:=7) Y0.nd rfl (Or.inl rfl) y7)
  (d8 (u3 (m5 D1 (i7 (u0 K) rfl T.m_len boot_len (b4 (pv 6) d4 b5)) d7 (n9 _)) (e7 (j8 (i:=7) Y0.nd rfl (Or.inl rfl) (m7 C_room_by_chain hr rfl (b4 (pv 0) (b4 (pv 1) (b4 (i6 (e8 K) (m7 C_place_in hr rfl (b4 (pv 0) (b4 (pv 2) d4 b5) b5)) d7 (fun _ _=>rfl)) (b4 (i6 (C4 K) (pv 6) d7 (fun _ _=>rfl)) (b4 (pv 4) d4 b5) n6) n6) b5) b5)))) m8)
  (d8 (u3 (m5 W8 (pv 7) y7 (n9 _)) (e7 (D6 a72)) m8)
  (e7 (i8 (pv 7))))))))),?_⟩
 refine ⟨_,rfl,_,rfl,_,rfl,_,rfl,_,rfl,a,l,e,h,as,ks,c,es,sh,rfl,ask,fun fl H1 s1 hf0 ef=>?_⟩
 refine ⟨_,rfl,(by show 0 ≤ sizeLine; decide),fun nl hnl=>?_⟩
 have s2':=d9 hnl (.lst [])
 have s2:=s1.trans s2'
 have e2:=d6 (H:=H1) (a:=nl) (o:=.lst [])
 have ef2:=s2' _ _ ef
 generalize upd H1 nl (.lst []) = H2 at s2 e2 ef2 ⊢
 refine ⟨fl,nl,_,rfl,rfl,SqL.of ef2,SqL.of e2,_,rfl,?_⟩
 cases ew:ap8 h ks c es sh with
 | cons k ws =>
  rw [ew] at ef2
  refine C3 (fun z=>?_) (fun z=>absurd rfl z)
  refine ⟨(by show 0 ≤ sizeLine; decide),fun ml hml=>?_⟩
  have s3':=d9 hml (.lst [])
  have s3:=s2.trans s3'
  have e3:=d6 (H:=H2) (a:=ml) (o:=.lst [])
  have ef3:=s3' _ _ ef2
  generalize upd H2 ml (.lst []) = H3 at s3 e3 ef3 ⊢
  refine ⟨_,rfl,fl,_,_,_,rfl,rfl,SqL.of ef3,(show atI _ ((0:Nat):Int) = _ from E7 rfl),(by show 2 ≤ sizeLine; decide),fun t ht=>?_⟩
  have s4':=d9 ht (.tup [.ref ml,.int (k:Nat)])
  exact q k t ml [] [] _ (s3.trans s4') d6 (s4' _ _ e3) .nil (a55 ask.ok q35.fr q35.up (by rw [ew]; exact List.mem_cons_self ..))
 | nil =>
  refine C3 (fun z=>absurd z (by decide)) (fun z=>?_)
  have k2:=ask.same s2
  refine ⟨_,rfl,_,rfl,a,e,h,es,rfl,k2.a,k2.ok,k2.e,k2.len,fun gl H3 s3' hgl egl=>?_⟩
  have s3:=s2.trans s3'
  have k3:=ask.same s3
  obtain ⟨g,hg⟩:=q35.g
  obtain ⟨x,hx,hxg⟩:=u4.mp (show g ∈ g9 h es by rw [hg]; exact List.mem_cons_self ..)
  have x1:=q35.er x hx
  have hst:0 ≤ c / h.c ∧ c / h.c < h.i:=⟨Int.ediv_nonneg q35.cr.1 (by lia),Int.ediv_lt_of_lt_mul (by lia) q35.cr.2⟩
  have hgr:0 ≤ g ∧ g < h.o:=by
   rw [← hxg]
   exact ⟨Int.ediv_nonneg x1.1 (by lia),Int.ediv_lt_of_lt_mul (by lia) x1.2⟩
  rw [hg] at egl
  refine ⟨_,rfl,gl,_,rfl,.inl (SqL.of egl),rfl,_,rfl,N7 ?_⟩
  refine ⟨_,rfl,_,rfl,_,rfl,_,rfl,a,h,c,rfl,k3.a,k3.ok,fun p hp=>?_⟩
  have s4':=d9 hp (.tup [.int (c / h.c),.int (c % h.c)])
  have s4:=s3.trans s4'
  have e4:=d6 (H:=H3) (a:=p) (o:=.tup [.int (c / h.c),.int (c % h.c)])
  have eg4:=s4' _ _ egl
  generalize upd H3 p (.tup [.int (c / h.c),.int (c % h.c)]) = H4 at s4 e4 eg4 ⊢
  have k4:=ask.same s4
  have hA:N6 h ks sh pIn (c / h.c) ≠ []:=as0 false ask.ok ask.hin q35.fr hst.1 q35.idle ⟨rfl,rfl⟩ q35.mc
  have hB:N6 h ks sh L3 g ≠ []:=as0 true ask.ok ask.hin q35.fr hgr.1 q35.idle ⟨hx,hxg⟩ q35.me
  refine ⟨p,_,_,_,rfl,rfl,SqT.of e4,rfl,_,rfl,gl,_,_,_,rfl,rfl,SqL.of eg4,(show atI _ ((0:Nat):Int) = _ from E7 rfl),_,rfl,a,l,h,as,ks,c / h.c,g,sh,rfl,⟨k4.a,k4.ok,k4.l,k4.c,k4.hin,k4.few⟩,q35.fr,q35.up,q35.nw,hst,hgr,hA,hB,fun a0 b0 cs k t ml mas ms H5 ha hb chosen s5 et em hms hl hm=>?_⟩
  refine ⟨_,rfl,rfl,_,rfl,C1 ⟨_,rfl,?_⟩⟩
  obtain ⟨oa,ia⟩:=(ak2 false ask.hin q35.fr hst.1).mp ha
  obtain ⟨ob,ib⟩:=(ak2 true ask.hin q35.fr hgr.1).mp hb
  have hab:(a0:Int) ≠ (b0:Int):=fun y=>by
   have y':a0 = b0:=by lia
   subst y'
   have:a0 ∈ ap8 h ks c es sh:=aA6.mpr ⟨oa,by
    unfold aa7
    rw [List.map_eq_nil_iff,List.filter_eq_nil_iff]
    intro y hy w
    rw [Bool.and_eq_true,decide_eq_true_iff,hg] at w
    rw [ag3 w.1 (ia y hy) (ib y hy)] at w
    cases w.2⟩
   rw [ew] at this
   cases this
  obtain ⟨F,N,eF,eN,cc⟩:=chosen
  obtain ⟨L,rfl,WL⟩:=O3 ask.hin q35.fr ask.few eF
  obtain ⟨M,rfl,WM⟩:=O3 ask.hin q35.fr ask.few eN
  rw [List.length_map,List.length_map] at cc
  have fin:∀ (sd:Bool) (L':List Call),cs = L'.map Call.c → k = col a0 b0 sd → Walked h ks a0 b0 sd (if sd then g else c / h.c) L' → (∃ M',Walked h ks a0 b0 (!sd) (if sd then c / h.c else g) M' ∧ L'.length ≤ M'.length) → RoomIs h ks c es sh ms k:=by
   intro sd L' ec ek W ⟨M',W',le⟩
   obtain ⟨s',x',pL,_⟩:=id W.ex
   subst ec
   have:=aQ0 (a:=(a0:Int)) (b:=(b0:Int)) (fun k hk=>⟨(pL.mem k hk).1,(pL.mem k hk).2.2⟩) hl hm
   rw [this,ek]
   exact aL0 ask.ok ask.hin q35.fr q35.up rfl hg hgr hst hab ⟨a0,oa,rfl⟩ ⟨b0,ob,rfl⟩ ia ib W W' le
  refine q k t ml mas ms H5 (s4.trans s5) et em hms ?_
  rcases cc with ⟨e1,e2,e3⟩ | ⟨e1,e2,e3⟩
  ·exact fin true L e1 e2 WL ⟨M,WM,e3⟩
  ·exact fin false M e1 e2 WM ⟨L,WL,e3⟩
theorem F9:FnScope ["hall","calls","caller","ends","shut","found","behind"] ["hall","calls","caller","ends","shut"] (d5 (top 50)):=⟨rfl,rfl,rfl,by decide +kernel,rfl,by decide +kernel,by decide +kernel⟩
theorem bc1 (T:Txt K mg) (C_refuse_wrong:Callee P w K mg base 5 "refuse_wrong" ["hall","caller","ends"] (ay5 K)) (C_refuse_busy:Callee P w K mg base 4 "refuse_busy" ["calls","caller","ends"] (aP0 K)) (C_room:CalleeD P w K mg base 9 "room" ["hall","calls","caller","ends","shut"] [.int 0] (aF2 K)) (C_moved:Callee P w K mg base 5 "moved" ["hall","calls","moves"] (aM5 K)) (C_with_call:Callee P w K mg base 1 "with_call" ["calls","caller","ends","k"] (a53 K)) (D:DefD K mg "joined_turning" (top 50) ["hall","calls","caller","ends","shut"] [.int 0]):CalleeD P w K mg base 10 "joined_turning" ["hall","calls","caller","ends","shut"] [.int 0] (a51 K):=by
 refine D.ok F9 (fun vs H Q E h=>?_) (fun f cdv A outer s H vs Q E hr h=>?_)
 ·obtain ⟨a,l,e,h,as,ks,c,es,sh,rfl,_⟩:=h
  rfl
 obtain ⟨a,l,e,h,as,ks,c,es,sh,rfl,ask,el,h63,ey,w2,q35,q⟩:=h
 have c0:=q35.cr
 have w1:x8 (.int c) 0 (h.i * h.c - 1) = true:=by
  show (decide (0 ≤ c) && decide (c ≤ h.i * h.c - 1)) = true
  rw [decide_eq_true c0.1,decide_eq_true (show c ≤ h.i * h.c - 1 by lia)]
  rfl
 refine ⟨_,(d8 (D6 (m7 C_refuse_wrong hr rfl (b4 (pv 0) (b4 (pv 2) (b4 (pv 3) d4 b5) b5) b5)))
  (d8 (D6 (m7 C_refuse_busy hr rfl (b4 (pv 1) (b4 (pv 2) (b4 (pv 3) d4 b5) b5) b5)))
  (d8 (j8 (i:=5) F9.nd rfl (Or.inl rfl) (m7 C_room.all hr rfl (b4 (pv 0) (b4 (pv 1) (b4 (pv 2) (b4 (pv 3) (b4 (pv 4) d4 b5) b5) b5) b5) b5)))
  (d8 (j8 (i:=6) F9.nd rfl (Or.inl rfl) (m7 C_moved hr rfl (b4 (pv 0) (b4 (pv 1) (b4 (i6 (e8 K) (pv 5) d7 (fun _ _=>rfl)) d4 n6) b5) b5)))
  (e7 (i8 (A9 (b4 (i6 (e8 K) (pv 5) d7 (fun _ _=>rfl)) (b4 (m7 C_with_call hr rfl (b4 (pv 6) (b4 (pv 2) (b4 (pv 3) (b4 (i6 (e8 K) (pv 5) d7 (fun _ _=>rfl)) d4 n6) b5) b5) b5)) d4 x0) n6)))))))),?_⟩
 refine ⟨_,rfl,_,rfl,_,rfl,a,h,.int c,.ref e,_,rfl,ask.a,ask.ok,.int c,ey,w1,w2,fun H1 s1=>?_⟩
 have k1:=ask.same s1
 refine ⟨_,rfl,_,rfl,_,rfl,l,e,as,ks,c,es,rfl,k1.l,k1.c,k1.e,ask.len,q35.idle,fun H2 s2'=>?_⟩
 have s2:=s1.trans s2'
 refine ⟨_,rfl,_,rfl,_,rfl,_,rfl,_,rfl,a,l,e,h,as,ks,c,es,sh,rfl,ask.same s2,q35,fun k t ml mas ms H3 s3' et em hms ri=>?_⟩
 have s3:=s2.trans s3'
 have k3:=ask.same s3
 have hl:ms.length ≤ 100:=by
  have:=ri.few
  have o1:=ask.ok.i
  have o2:=ask.ok.o
  lia
 refine ⟨_,rfl,_,rfl,_,rfl,t,_,_,_,rfl,rfl,SqT.of et,rfl,a,l,ml,h,as,mas,ks,ms,rfl,k3.a,k3.ok,k3.l,k3.c,k3.hin,q35.up,k3.few,SqL.of em,hms,hl,fun _ bl bs H4 s4' ebl hbs=>?_,fun z=>absurd ri.good z⟩
 have s4:=s3.trans s4'
 have k4:=ask.same s4
 have et4:=s4' _ _ et
 have bc:∀ κ ∈ o7 ks ms,∃ κ0 ∈ ks,κ.c = κ0.c:=fun κ hκ=>by
  obtain ⟨κ0,h0,rfl⟩:=List.mem_map.mp hκ
  exact ⟨κ0,h0,rfl⟩
 refine ⟨_,rfl,t,_,_,_,rfl,rfl,SqT.of et4,rfl,_,rfl,_,rfl,_,rfl,_,rfl,t,_,_,_,rfl,rfl,SqT.of et4,rfl,bl,e,bs,o7 ks ms,c,k,es,rfl,ebl,hbs,by unfold o7; rw [List.length_map]; exact h63,ri.good.2.imp (fun {x y} z=>by have:=z.c; lia),fun κ hκ=>?_,k4.e,ask.len,fun r cs ks' es' H5 s5' er hcs pe se pk sk=>?_⟩
 ·obtain ⟨κ0,h0,e0⟩:=bc κ hκ
  rw [e0]
  exact q35.idle.1 κ0 h0
 refine ⟨(by show 2 ≤ sizeLine; decide),fun t2 ht2=>?_⟩
 have s6':=d9 ht2 (.tup [.ref ml,.ref r])
 have s56:=s5'.trans s6'
 exact q k t2 ml r mas cs ms ks' es' _ (s4.trans s56) d6 (s56 _ _ (s4' _ _ em)) (B7.same (fun b xs z=>s56 _ _ (s4' _ _ z)) hms) ri (s6' _ _ er) (h9.same (fun b xs z=>s6' _ _ z) hcs) pe se pk sk
end
def bi2 (h:Hall) (ks:List Call) (sh:Int) (m:Mv):Prop:=(0 ≤ m.o ∧ m.o < h.m) ∧ m.k ≠ m.o ∧ (∃ k ∈ ks,k.c = m.c ∧ k.k = m.k) ∧ 0 ≤ m.k ∧ w9 sh m.k.toNat = true ∧ w9 sh m.o.toNat = true
def aF0 (K:PySem.W.Frag):Sp:=fun vs H Q _=>∃ (a l p:Addr) (h:Hall) (as:List Addr) (ks:List Call) (m:Mv) (sh:Int),vs = [.ref a,.ref l,.ref p,.int sh] ∧ SqT K H a (h.row.map V.int) ∧ h.Ok ∧ SqL K H l (as.map V.ref) ∧ h9 H as ks ∧ ks.length ≤ 63 ∧ a_7 H p m ∧ bi2 h ks sh m ∧ ∀ H',i4 H H' → Q (.bl true) H'
def aE8 (K:PySem.W.Frag):Sp:=fun vs H Q _=>∃ (a l ml:Addr) (h:Hall) (as mas:List Addr) (ks:List Call) (ms:List Mv) (sh:Int),vs = [.ref a,.ref l,.ref ml,.int sh] ∧ SqT K H a (h.row.map V.int) ∧ h.Ok ∧ SqL K H l (as.map V.ref) ∧ h9 H as ks ∧ ks.length ≤ 63 ∧ H ml = some (.lst (mas.map V.ref)) ∧ B7 H mas ms ∧ 2 * (ms.length:Int) ≤ h.i + h.o - 2 ∧ (∀ m ∈ ms,bi2 h ks sh m) ∧ (ms.Pairwise fun m m'=>m.c ≠ m'.c) ∧
 ∀ (r:Addr) (bs:List Addr) (H':Hp),i4 H H' → H' r = some (.lst (bs.map V.ref)) → h9 H' bs (o7 ks ms) → Q (.ref r) H'
def bc9 (c k:Int):List Key:=[.inl c,.inl k]
theorem R5 {α β:Type} {R R':α → β → Prop} (k:∀ a b,R a b → R' a b):∀ {as:List α} {bs:List β},Paired R as bs → Paired R' as bs
 | _,_,.nil=>.nil
 | _,_,.cons h t=>.cons (k _ _ h) (R5 k t)
theorem aO2 {sh:Int} {k:Int} (h:w9 sh k.toNat = true):Builtin.bitAnd (sh / 2 ^ k.toNat) 1 = 0:=of_decide_eq_true h
section
variable {P:Program} {w:World} {K:PySem.W.Frag} {mg:Str → Option Value} {base:Heap}
theorem K8:FnScope ["_law_hall","_law_calls","_law_move","_law_shut_here","_law_part","_law_caller","_law_k","_law_other"] ["_law_hall","_law_calls","_law_move","_law_shut_here"] (d5 (top 58)):=⟨rfl,rfl,rfl,by decide +kernel,rfl,by decide +kernel,by decide +kernel⟩
theorem aJ6 (T:Txt K mg) (D:Def K mg "_law_is_move" (top 58) ["_law_hall","_law_calls","_law_move","_law_shut_here"]):Callee P w K mg base 1 "_law_is_move" ["_law_hall","_law_calls","_law_move","_law_shut_here"] (aF0 K):=by
 refine D.ok K8 (fun vs H Q E h=>?_) (fun f cdv A outer s H vs Q E hr h=>?_)
 ·obtain ⟨a,l,p,h,as,ks,m,sh,rfl,_⟩:=h
  rfl
 obtain ⟨a,l,p,h,as,ks,m,sh,rfl,hH,ok,hL,hC,h63,ep,⟨ho,hne,⟨k0,hk0,hc0,hk1⟩,hmk,o1,o2⟩,q⟩:=h
 have ln:=Paired.length hC
 replace ep:H p = some (.tup [.int m.c,.int m.k,.int m.o]):=ep
 refine ⟨_,(d8 (u3 (PW.pt (N9 (C9 (y3 K (i7 (t5 K) rfl T.m_isinstance boot_isinstance (b4 (pv 2) (b4 (B9 (v:=.ty "tuple") rfl T.m_tuple boot_tuple rfl) d4 b5) b5)) (fun _=>rfl))) (N5 (m5 aO4 (i7 (u0 K) rfl T.m_len boot_len (b4 (pv 2) d4 b5)) d7 (n9 _))))) (e7 (i8 K9)) m8)
  (d8 (y8 PassesOwn.never rfl (ae3 K (pv 2)) (m9 (i:=4) K8.nd rfl (Or.inl rfl))
  (e7 (u3 (PW.pt (N9 (C9 (y3 K (i7 (t5 K) rfl T.m_isinstance boot_isinstance (b4 (pv 4) (b4 (B9 (v:=.ty "int") rfl T.m_int boot_int rfl) d4 b5) b5)) (fun _=>rfl))) (N5 (y3 K (i7 (t5 K) rfl T.m_isinstance boot_isinstance (b4 (pv 4) (b4 (B9 (v:=.ty "bool") rfl T.m_bool boot_bool rfl) d4 b5) b5)) (fun _=>rfl))))) (e7 (i8 K9)) m8)))
  (d8 (bj5 (pv 2) (bo3 K rfl K8.nd (Nm.mk (i:=5) rfl (Or.inl rfl) (Or.inl rfl)) (Nm.mk (i:=6) rfl (Or.inl rfl) (Or.inl rfl)) (Nm.mk (i:=7) rfl (Or.inl rfl) (Or.inl rfl))))
  (d8 (u3 (PW.pt (N9 (C9 (aD1 ay8 aO8 d7 (pv 7) (i6 (e8 K) (pv 0) d7 (fun _ _=>rfl)))) (N9 (m5 D1 (pv 6) (pv 7) (n9 _)) (N5 (m5 (W9 K (Room.unitsT hr)) (A9 (b4 (pv 5) (b4 (pv 6) d4 b5) b5)) (D0 (own:=["_law_call"]) (fr:=[]) rfl (show CompScope ["_law_hall","_law_calls","_law_move","_law_shut_here","_law_part","_law_caller","_law_k","_law_other"] (d5 (top 58)) _ _ _ from ⟨rfl,by decide +kernel,by decide +kernel,by decide +kernel,by decide +kernel⟩) (o6 K (pv 1)) (fun cl C s H ex=>⟨(m9 (i:=0) (show (["_law_call"]:List Str).Nodup from by decide +kernel) rfl (Or.inl rfl) (Or.inr rfl)),E6,(A9 (b4 (i6 (e8 K) (pv 0) d7 (fun _ _=>rfl)) (b4 (i6 (e8 K) (pv 0) d7 (fun _ _=>rfl)) d4 n6) n6))⟩)) (by with_unfolding_all rfl)))))) (e7 (i8 K9)) m8)
  (e7 (i8 (S1 (F4 D1 (m6 ai9 (m6 ai2 (pv 3) (pv 6)) d7) d7 (n9 _)) (ab1 (F4 D1 (m6 ai9 (m6 ai2 (pv 3) (pv 7)) d7) d7 (n9 _)))))))))),?_⟩
 refine ⟨_,rfl,_,_,_,true,rfl,.tup ep,K6,true,rfl,C1 ?_⟩
 refine ⟨_,rfl,p,_,rfl,.inr (SqT.of ep),rfl,_,rfl,C1 ?_⟩
 refine ⟨_,rfl,p,rfl,⟨_,SqT.of ep⟩,?_⟩
 refine aM7 (xs:=[m.c,m.k,m.o].map V.int) (fun i σ H'=>H' = H ∧ ∃ v4,σ = [some (.ref a),some (.ref l),some (.ref p),some (.int sh),v4,none,none,none]) ⟨rfl,none,rfl⟩ (fun i σ H' _ g=>by rw [g.1]; exact SqT.of ep) ?_ ?_
 ·rintro i x σ H' hx ⟨rfl,v4,rfl⟩
  rw [List.getElem?_map] at hx
  obtain ⟨n,_,rfl⟩:=Option.map_eq_some_iff.mp hx
  refine ⟨_,rfl,_,_,_,true,rfl,.int n,M7,true,rfl,C1 ?_⟩
  exact ⟨_,rfl,_,_,_,false,rfl,.int n,P3,false,rfl,C1 ⟨rfl,_,rfl⟩⟩
 ·rintro σ H' ⟨rfl,v4,rfl⟩
  refine ⟨_,rfl,p,_,rfl,SqT.of ep,rfl,?_⟩
  refine ⟨_,_,rfl,_,_,rfl,_,_,rfl,rfl,?_⟩
  refine ⟨_,rfl,_,_,rfl,rfl,_,rfl,aY0 (decide_eq_true ho.1) ?_⟩
  refine ⟨_,rfl,a,_,_,_,rfl,rfl,hH,rfl,_,_,rfl,rfl,_,rfl,au0 (by rw [decide_eq_true (show m.o < h.m from ho.2)]; simp) ?_⟩
  refine ⟨_,rfl,_,rfl,rfl,_,rfl,au0 (by rw [decide_eq_false (fun z=>hne (V.int.inj z))]; simp) ?_⟩
  refine ⟨_,rfl,_,rfl,(by show 2 ≤ sizeLine; decide),fun t ht=>?_⟩
  have s1:=d9 ht (.tup [.int m.c,.int m.k])
  have e1:=d6 (H:=H') (a:=t) (o:=.tup [.int m.c,.int m.k])
  generalize upd H' t (.tup [.int m.c,.int m.k]) = H1 at s1 e1 ⊢
  refine ⟨_,rfl,l,rfl,⟨_,s1.seq hL⟩,?_⟩
  refine B2 (xs:=as.map V.ref) (fun i acc σ G=>i4 H1 G ∧ (∃ ts:List Addr,acc = ts.map V.ref ∧ Paired (fun x (d:List Key)=>G x = some (.tup (d.map kV))) ts ((ks.take i).map fun k=>bc9 k.c k.k)) ∧ ∃ v0,σ = [v0])
   ⟨i4.refl _,⟨[],rfl,.nil⟩,none,rfl⟩ (Nat.le_of_lt (j9 (by rw [List.length_map]; lia))) (fun i acc σ G g=>?_) (fun i acc σ G _ g=>(s1.trans g.1).seq hL) ?_ ?_
  ·obtain ⟨_,⟨ts,rfl,ht⟩,_⟩:=g
   have:=Paired.length ht
   rw [List.length_map,List.length_take] at this
   rw [List.length_map]
   lia
  ·rintro i x acc σ G hx ⟨g1,⟨ts,rfl,hts⟩,v0,rfl⟩
   rw [List.getElem?_map] at hx
   obtain ⟨pc,hpc,rfl⟩:=Option.map_eq_some_iff.mp hx
   obtain ⟨k,hk,ce,x1,x2⟩:=j7 hC i pc hpc
   have x3:=SqT.of (K:=K) (g1 _ _ (s1 _ _ x2))
   refine ⟨_,rfl,pc,_,_,_,rfl,rfl,x3,rfl,_,rfl,pc,_,_,_,rfl,rfl,x3,rfl,(by show 2 ≤ sizeLine; decide),fun u hu=>?_⟩
   have g2:=d9 hu (.tup [.int k.c,.int k.k])
   refine ⟨g1.trans g2,⟨ts ++ [u],by rw [List.map_append]; rfl,?_⟩,_,rfl⟩
   rw [List.take_succ,hk,List.map_append]
   exact Paired.snoc (R5 (fun a d z=>g2 _ _ z) hts) d6
  ·rintro acc σ G ⟨g1,⟨ts,rfl,hts⟩,v0,rfl⟩ lt hlt
   rw [List.length_map,ln,List.take_length] at hts
   have g2:=d9 hlt (.lst (ts.map V.ref))
   have elt:=d6 (H:=G) (a:=lt) (o:=.lst (ts.map V.ref))
   generalize upd G lt (.lst (ts.map V.ref)) = G2 at g2 elt ⊢
   have g12:=g1.trans g2
   refine ⟨lt,t,ts,bc9 m.c m.k,_,rfl,rfl,SqL.of elt,SqT.of (g12 _ _ e1),R5 (fun a d z=>SqT.of (g2 _ _ z)) hts,_,rfl,?_⟩
   have inn:inD (ks.map fun k=>bc9 k.c k.k) (bc9 m.c m.k) = true:=ae6.mpr (List.mem_map.mpr ⟨k0,hk0,by rw [hc0,hk1]⟩)
   rw [inn]
   refine C1 ?_
   have ho':=ho.1
   refine ⟨_,rfl,_,rfl,_,_,rfl,rfl,hmk,_,_,rfl,rfl,rfl,?_⟩
   refine ⟨_,rfl,aY0 (decide_eq_true (congrArg V.int (aO2 o1))) ⟨_,rfl,_,rfl,_,_,rfl,rfl,ho',_,_,rfl,rfl,rfl,?_⟩⟩
   have e:V.bl (decide (V.int (Builtin.bitAnd (sh / 2 ^ m.o.toNat) 1) = V.int 0)) = V.bl true:=congrArg V.bl (decide_eq_true (congrArg V.int (aO2 o2)))
   show Q (V.bl (decide (V.int (Builtin.bitAnd (sh / 2 ^ m.o.toNat) 1) = V.int 0))) G2
   rw [e]
   exact q _ (s1.trans g12)
theorem L7:FnScope ["_law_hall","_law_calls","_law_moves","_law_shut_here","_law_seen","_law_move"] ["_law_hall","_law_calls","_law_moves","_law_shut_here"] (d5 (top 59)):=⟨rfl,rfl,rfl,by decide +kernel,rfl,by decide +kernel,by decide +kernel⟩
theorem aT5 (T:Txt K mg) (C__law_is_move:Callee P w K mg base 1 "_law_is_move" ["_law_hall","_law_calls","_law_move","_law_shut_here"] (aF0 K)) (D:Def K mg "_law_behind" (top 59) ["_law_hall","_law_calls","_law_moves","_law_shut_here"]):Callee P w K mg base 2 "_law_behind" ["_law_hall","_law_calls","_law_moves","_law_shut_here"] (aE8 K):=by
 refine D.ok L7 (fun vs H Q E h=>?_) (fun f cdv A outer s H vs Q E hr h=>?_)
 ·obtain ⟨a,l,ml,h,as,mas,ks,ms,sh,rfl,_⟩:=h
  rfl
 obtain ⟨a,l,ml,h,as,mas,ks,ms,sh,rfl,hH,ok,hL,hC,h63,em,hms,few,mo,nd,q⟩:=h
 have la:=Paired.length hC
 have lm:=Paired.length hms
 have oi:=ok.i
 have oo:=ok.o
 refine ⟨_,(d8 (u3 (PW.pt (N9 (C9 (y3 K (i7 (t5 K) rfl T.m_isinstance boot_isinstance (b4 (pv 2) (b4 (B9 (v:=.ty "list") rfl T.m_list boot_list rfl) d4 b5) b5)) (fun _=>rfl))) (N5 (m5 bd8 (m6 C6 d7 (i7 (u0 K) rfl T.m_len boot_len (b4 (pv 2) d4 b5))) (m6 Z3 (m6 J9 (i6 (e8 K) (pv 0) d7 (fun _ _=>rfl)) (i6 (e8 K) (pv 0) d7 (fun _ _=>rfl))) d7) (n9 _))))) (e7 (i8 y7)) m8)
  (d8 (j8 (i:=4) L7.nd rfl (Or.inr rfl) ak0)
  (d8 (y8 PassesOwn.never rfl (o6 K (pv 2)) (m9 (i:=5) L7.nd rfl (Or.inl rfl))
  (d8 (u3 (PW.pt (N9 (C9 (y3 K (m7 C__law_is_move hr rfl (b4 (pv 0) (b4 (pv 1) (b4 (pv 5) (b4 (pv 3) d4 b5) b5) b5) b5)) (fun _=>rfl))) (N5 (aH9 (aI8 (Q4 hr) (i6 (e8 K) (pv 5) d7 (fun _ _=>rfl)) (pv 4)))))) (e7 (i8 y7)) m8)
  (e7 (ae4 (Q4 hr) (pv 4) (i6 (e8 K) (pv 5) d7 (fun _ _=>rfl)) (i6 (e8 K) (pv 5) d7 (fun _ _=>rfl)) rfl))))
  (e7 (i8 (D0 (own:=["_law_call"]) (fr:=[(4,"_law_seen")]) rfl (show CompScope ["_law_hall","_law_calls","_law_moves","_law_shut_here","_law_seen","_law_move"] (d5 (top 59)) _ _ _ from ⟨rfl,by decide +kernel,by decide +kernel,by decide +kernel,by decide +kernel⟩) (o6 K (pv 1)) (fun cl C s H ex=>⟨(m9 (i:=0) (show (["_law_call","_law_seen"]:List Str).Nodup from by decide +kernel) rfl (Or.inl rfl) (Or.inr rfl)),E6,(A9 (b4 (i6 (e8 K) (pv 0) d7 (fun _ _=>rfl)) (b4 (i6 (e8 K) (pv 0) d7 (fun _ _=>rfl)) (b4 (ax6 (Q4 hr) (pv 1) (i6 (e8 K) (pv 0) d7 (fun _ _=>rfl)) (i6 (e8 K) (pv 0) d7 (fun _ _=>rfl)) ⟨rfl,rfl,rfl,rfl⟩) d4 x0) n6) n6))⟩))))))),?_⟩
 refine ⟨_,rfl,_,_,_,true,rfl,.lst em,M5,true,rfl,C1 ?_⟩
 refine ⟨_,rfl,ml,_,rfl,.inl (SqL.of em),_,_,rfl,rfl,.inl ⟨by decide,by decide⟩,_,rfl,a,_,_,_,rfl,rfl,hH,rfl,_,rfl,a,_,_,_,rfl,rfl,hH,rfl,_,_,rfl,rfl,_,_,rfl,rfl,_,_,rfl,rfl,_,rfl,au0 ?_ ?_⟩
 ·intro z
  have z':=of_decide_eq_true z
  rw [List.length_map,lm] at z'
  lia
 refine fun g hg=>?_
 have eg:=d6 (H:=H) (a:=g) (o:=.dK [])
 have s1:=d9 hg (.dK [])
 generalize upd H g (.dK []) = H1 at eg s1 ⊢
 refine ⟨_,rfl,ml,rfl,⟨_,SqL.of (s1 _ _ em)⟩,?_⟩
 refine w6 (xs:=mas.map V.ref) (fun i σ H'=>i4 H H' ∧ (∃ kvs,H' g = some (.dK kvs) ∧ kvs.length ≤ i ∧ ∀ c,D4 kvs (.inl c) = (A5 (ms.take i) c).map V.int) ∧ ∃ v5,σ = [some (.ref a),some (.ref l),some (.ref ml),some (.int sh),some (.ref g),v5])
  ⟨s1,⟨[],eg,Nat.le_refl _,fun c=>rfl⟩,_,rfl⟩ (fun i σ H' _ gg=>SqL.of (gg.1 _ _ em)) ?_ ?_
 ·rintro i y σ H' hy ⟨s2,⟨kvs,e2,hl,hv⟩,v5,rfl⟩
  rw [List.getElem?_map] at hy
  obtain ⟨pm,hpm,rfl⟩:=Option.map_eq_some_iff.mp hy
  obtain ⟨m,hm,emv⟩:=j7 hms i pm hpm
  have hi:=(List.getElem?_eq_some_iff.mp hm).1
  have new:∀ m' ∈ ms.take i,m'.c ≠ m.c:=fun m' hm'=>by
   obtain ⟨j,hj,ej⟩:=List.mem_take_iff_getElem.mp hm'
   obtain ⟨hi,ei⟩:=List.getElem?_eq_some_iff.mp hm
   have:=(List.pairwise_iff_getElem.mp nd) j i (by lia) hi (by lia)
   rw [ej,ei] at this
   exact this
  refine ⟨_,rfl,_,rfl,_,rfl,_,rfl,a,l,pm,h,as,ks,m,sh,rfl,i4.seqT s2 hH,ok,s2.seq hL,h9.same (fun b xs z=>s2 _ _ z) hC,h63,s2 _ _ emv,mo m (List.mem_of_getElem? hm),fun G g1=>⟨_,rfl,C1 ?_⟩⟩
  have e3:=g1 _ _ e2
  have em3:SqT K G pm [.int m.c,.int m.k,.int m.o]:=SqT.of (g1 _ _ (s2 _ _ emv))
  have sG:=s2.trans g1
  refine ⟨_,rfl,pm,_,_,_,rfl,rfl,em3,rfl,_,rfl,g,_,rfl,S5.k (k:=.inl m.c) e3,_,rfl,au0 ?_ ?_⟩
  ·intro z
   rw [hv] at z
   cases q1:A5 (ms.take i) m.c with
   | none=>rw [q1] at z; cases z
   | some o =>
    obtain ⟨m',h1,h2,_⟩:=ah0 q1
    exact new m' h1 h2
  refine ⟨_,rfl,pm,_,_,_,rfl,rfl,em3,rfl,_,rfl,_,rfl,pm,_,_,_,rfl,rfl,em3,rfl,g,_,rfl,al7.k (k:=.inl m.c) e3 (Nat.lt_of_le_of_lt hl (j9 (by lia))),?_⟩
  refine ⟨i4.put sG hg,⟨_,d6,?_,fun c=>?_⟩,_,rfl⟩
  ·have:=F2 kvs (.inl m.c) (.int m.o)
   lia
  ·rw [Q3,List.take_succ,hm]
   show _ = (A5 (ms.take i ++ [m]) c).map V.int
   rw [as1 new]
   by_cases e:c = m.c
   ·rw [if_pos (by rw [e]),if_pos e]
    rfl
   ·rw [if_neg (fun z=>e (by injection z)),if_neg e]
    exact hv c
 ·rintro σ H2 ⟨s2,⟨kvs,e2,hl,hv⟩,v5,rfl⟩
  rw [List.length_map,lm,List.take_length] at hv
  have hC2:=h9.same (fun b xs z=>s2 _ _ z) hC
  refine ⟨_,rfl,l,rfl,⟨_,s2.seq hL⟩,?_⟩
  refine B2 (xs:=as.map V.ref) (fun j acc σ G=>i4 H2 G ∧ (∃ bs:List Addr,acc = bs.map V.ref ∧ h9 G bs (o7 (ks.take j) ms)) ∧ ∃ v,σ = [v,some (.ref g)])
   ⟨i4.refl _,⟨[],rfl,.nil⟩,none,rfl⟩ (Nat.le_of_lt (j9 (by rw [List.length_map]; lia))) (fun j acc σ G gg=>?_) (fun j acc σ G _ gg=>(s2.trans gg.1).seq hL) ?_ ?_
  ·obtain ⟨_,⟨bs,rfl,hb⟩,_⟩:=gg
   have:=Paired.length hb
   rw [List.length_map,this]
   unfold o7
   rw [List.length_map,List.length_take]
   lia
  ·rintro j y acc σ G hy ⟨g1,⟨bs,rfl,hb⟩,v,rfl⟩
   rw [List.getElem?_map] at hy
   obtain ⟨pc,hpc,rfl⟩:=Option.map_eq_some_iff.mp hy
   obtain ⟨k,hk,ce,x1,x2⟩:=j7 hC2 j pc hpc
   have x2G:=SqT.of (K:=K) (g1 _ _ x2)
   have egG:=g1 _ _ e2
   refine ⟨_,rfl,pc,_,_,_,rfl,rfl,x2G,rfl,_,rfl,pc,_,_,_,rfl,rfl,x2G,rfl,_,rfl,g,rfl,.inl ⟨kvs,.inl egG⟩,_,rfl,pc,_,_,_,rfl,rfl,x2G,rfl,_,rfl,pc,_,_,_,rfl,rfl,x2G,rfl,_,S5.k (k:=.inl k.c) egG,?_⟩
   rw [hv,show ((A5 ms k.c).map V.int).getD (V.int k.k) = V.int ((A5 ms k.c).getD k.k) by cases A5 ms k.c <;> rfl]
   refine ⟨(by show 3 ≤ sizeLine; decide),fun t ht=>?_⟩
   have g2:=d9 ht (.tup [.int k.c,.ref ce,.int ((A5 ms k.c).getD k.k)])
   have et:=d6 (H:=G) (a:=t) (o:=.tup [.int k.c,.ref ce,.int ((A5 ms k.c).getD k.k)])
   generalize upd G t (.tup [.int k.c,.ref ce,.int ((A5 ms k.c).getD k.k)]) = G2 at g2 et ⊢
   refine ⟨g1.trans g2,⟨bs ++ [t],by rw [List.map_append]; rfl,?_⟩,_,rfl⟩
   unfold o7
   rw [List.take_succ,hk,List.map_append]
   exact Paired.snoc (h9.same (fun b xs z=>g2 _ _ z) hb) ⟨ce,g2 _ _ (g1 _ _ x1),et⟩
  rintro acc σ G ⟨g1,⟨bs,rfl,hb⟩,v,rfl⟩ lb hlb
  rw [List.length_map,la,List.take_length] at hb
  have g2:=d9 hlb (.lst (bs.map V.ref))
  exact q lb bs _ (s2.trans (g1.trans g2)) d6 (h9.same (fun b xs z=>g2 _ _ z) hb)
end
def aw0 (c k:Int) (κ:Call):Call:=if κ.c = c then { κ with k:=k } else κ
theorem aW3 (c k:Int) (κ:Call):(aw0 c k κ).c = κ.c:=by
 unfold aw0
 split <;> rfl
theorem a96 (c k:Int) (κ:Call):(aw0 c k κ).es = κ.es:=by
 unfold aw0
 split <;> rfl
theorem aY5 {ks ks' ks'':List Call} {c k0 k:Int} {es:List Int} (no:∀ κ ∈ ks,κ.c ≠ c) (p':ks'.Perm (ks ++ [⟨c,es,k0⟩])) (s':ks'.Pairwise fun k k'=>k.c < k'.c) (p'':ks''.Perm (ks ++ [⟨c,es,k⟩])) (s'':ks''.Pairwise fun k k'=>k.c < k'.c):ks'' = ks'.map (aw0 c k):=by
 have e:(ks ++ [(⟨c,es,k0⟩:Call)]).map (aw0 c k) = ks ++ [(⟨c,es,k⟩:Call)]:=by
  rw [List.map_append]
  congr 1
  ·refine (List.map_congr_left fun κ hκ=>?_).trans (List.map_id _)
   unfold aw0
   rw [if_neg (no κ hκ)]
   rfl
  ·rw [List.map_singleton]
   unfold aw0
   rw [if_pos rfl]
 refine ap7 (p''.trans ?_) s'' ?_
 ·rw [← e]
  exact (p'.map _).symm
 ·rw [List.pairwise_map]
  exact s'.imp fun {a b} h=>by rw [aW3,aW3]; exact h
theorem af7 {H:Hp} {n:Nat}:∀ ns:List Int,Paired (U5 H n) (ns.map V.int) (ns.map V.int)
 | []=>.nil
 | i :: t=>.cons (by cases n with | zero=>exact .inr ⟨i,i,rfl,rfl⟩ | succ m=>exact .inl (.inr ⟨i,i,rfl,rfl⟩)) (af7 t)
theorem aL4 {H:Hp} {p p':Addr} {κ κ':Call} (h:y9 H p κ) (h':y9 H p' κ') (e:κ'.es = κ.es) (few:κ.es.length ≤ 1000):U5 H 2 (.ref p) (.ref p'):=by
 obtain ⟨t,t1,t2⟩:=h
 obtain ⟨t',t1',t2'⟩:=h'
 rw [e] at t1'
 exact .inr ⟨p,p',_,_,rfl,rfl,.inr ⟨t2,t2'⟩,.cons (.inl (.inr ⟨_,_,rfl,rfl⟩)) (.cons (.inr ⟨t,t',_,_,rfl,rfl,.inr ⟨t1,t1'⟩,af7 κ.es,by rw [List.length_map]; exact few⟩) (.cons (.inl (.inr ⟨_,_,rfl,rfl⟩)) .nil)),by show 3 ≤ 1000; decide⟩
theorem ac0 {H:Hp} {c k:Int}:∀ {bs as':List Addr} {ks:List Call},h9 H bs ks → h9 H as' (ks.map (aw0 c k)) → (∀ κ ∈ ks,κ.es.length ≤ 1000) → Paired (U5 H 2) (bs.map V.ref) (as'.map V.ref)
 | _,_,[],.nil,.nil,_=>.nil
 | _,_,κ :: _,.cons h t,.cons h' t',few=>.cons (aL4 h h' (a96 ..) (few _ (List.mem_cons_self ..))) (ac0 t t' fun κ hκ=>few κ (List.mem_cons_of_mem _ hκ))
theorem aU7 (as:List Addr):(as.map V.ref).all aX8 = true:=by
 rw [List.all_eq_true]
 intro x hx
 obtain ⟨c,_,rfl⟩:=List.mem_map.mp hx
 rfl
structure Right35 (h:Hall) (ks:List Call):Prop where
 hin:∀ k ∈ ks,k.In h
 fr:ks.Pairwise (C8 h)
 up:ks.Pairwise fun k k'=>k.c < k'.c
 nw:aj4 h ks
def Dj (k k':Call):Prop:=∀ e ∈ k.es,¬ e ∈ k'.es
theorem a_0 {h:Hall} {k k':Call} (l:LF h k k') (c:k.c ≠ k'.c) (d:Dj k k'):C8 h k k':=by
 intro x hx hx'
 unfold ai8 at hx hx'
 rw [List.mem_append,List.mem_append,List.mem_singleton,List.mem_map] at hx hx'
 have hd:∀ {s t:Str} {xs ys:List Key},(Sum.inr s :: xs:List Key) = Sum.inr t :: ys → s = t:=fun z=>Sum.inr.inj (List.cons.inj z).1
 have li:∀ {c:Int} {es:List Int} {k:Int} {x:List Key},x ∈ C7 h c es k → (∀ e,x ≠ af2 e) ∧ ∀ c,x ≠ Z2 c:=fun hx=>by
  rcases C5.mp hx with rfl | ⟨e,_,rfl⟩
  ·exact ⟨fun e z=>absurd (hd z) (by decide),fun c z=>absurd (hd z) (by decide)⟩
  ·exact ⟨fun e z=>absurd (hd z) (by decide),fun c z=>absurd (hd z) (by decide)⟩
 rcases hx with (hx | hx) | ⟨e,he,rfl⟩
 ·rcases hx' with (hx' | hx') | ⟨e',_,q⟩
  ·exact l x hx hx'
  ·exact (li hx).2 _ hx'
  ·exact (li hx).1 e' q.symm
 ·rcases hx' with (hx' | hx') | ⟨e',_,q⟩
  ·exact (li hx').2 _ hx
  ·rw [hx] at hx'
   exact c (by simpa [Z2] using hx')
  ·rw [hx] at q
   exact absurd (hd q) (by decide)
 ·rcases hx' with (hx' | hx') | ⟨e',he',q⟩
  ·exact (li hx').1 e rfl
  ·exact absurd (hd hx') (by decide)
  ·have:e' = e:=by simpa [af2] using q
   exact d e he (this ▸ he')
theorem aG2 {h:Hall} {es es':List Int} {g:Int} (p:es'.Perm es) (ne:es ≠ []) (hg:g9 h es = [g]):(g9 h es').length = 1:=by
 have all:∀ e ∈ es',e / h.e ∈ [g]:=fun e he=>by
  have:e / h.e ∈ g9 h es:=u4.mpr ⟨e,p.mem_iff.mp he,rfl⟩
  rwa [hg] at this
 have h1:=ao8 all
 obtain ⟨e,he⟩:=List.exists_mem_of_ne_nil _ ne
 have h2:=List.length_pos_of_mem (u4.mpr ⟨e,p.mem_iff.mpr he,rfl⟩:e / h.e ∈ g9 h es')
 rw [List.length_singleton] at h1
 lia
theorem bh5 {h:Hall} {ks:List Call} {c:Int} {es es':List Int} {sh:Int} {ms:List Mv} {k:Int} (r:RoomIs h ks c es sh ms k) (p:es'.Perm es):(o7 ks ms ++ [(⟨c,es',k⟩:Call)]).Pairwise (LF h):=by
 refine List.pairwise_append.mpr ⟨r.good.2.imp fun q=>aw1.mpr q.l,List.pairwise_singleton ..,fun y hy z hz=>?_⟩
 rw [List.mem_singleton.mp hz]
 refine aw1.mpr fun ⟨e,m⟩=>?_
 have e:y.k = k:=e
 have nb:=r.free y hy e
 unfold M4 at nb
 rw [Bool.or_eq_false_iff,decide_eq_false_iff_not,List.any_eq_false] at nb
 rcases m with m | ⟨e1,h1,h2⟩
 ·exact nb.1 m
 ·obtain ⟨e2,h3,h4⟩:=List.mem_map.mp h2
  have h3:e2 ∈ es':=h3
  exact nb.2 (e1 / h.e) (u4.mpr ⟨e1,h1,rfl⟩) (decide_eq_true (u4.mpr ⟨e2,p.mem_iff.mp h3,h4⟩))
theorem a92 {h:Hall} {k k':Call} (l:LF h k k'):LF h k' k:=fun d hd hd'=>l d hd' hd
theorem aI1 {h:Hall} {ks:List Call} {c:Int} {es es':List Int} {ms:List Mv} {k:Int} (hin:∀ k ∈ ks,k.In h) (v:ap5 h ks ms) (c0:0 ≤ c ∧ c < h.i * h.c) (eo:EndsOk h es) (p:es'.Perm es) (s:es'.Pairwise (· ≤ ·)) (hk:0 ≤ k ∧ k < h.m):∀ y ∈ o7 ks ms ++ [(⟨c,es',k⟩:Call)],y.In h:=fun y hy=>by
 rcases List.mem_append.mp hy with z | z
 ·exact aN1 hin v.pre y z
 ·rw [List.mem_singleton.mp z]
  exact ⟨c0,a_5 p s eo.nd,fun e he=>eo.es e (p.mem_iff.mp he),fun z=>eo.some (by have z:es' = []:=z; rw [z] at p; exact p.nil_eq.symm),(by show es'.length ≤ 12; rw [p.length_eq]; exact eo.few),hk⟩
theorem aR6 {h:Hall} {ks ks':List Call} {c:Int} {es es':List Int} {ms:List Mv} {k g:Int} (r:Right35 h ks) (v:ap5 h ks ms) (c0:0 ≤ c ∧ c < h.i * h.c) (eo:EndsOk h es) (p:es'.Perm es) (s:es'.Pairwise (· ≤ ·)) (hk:0 ≤ k ∧ k < h.m) (hg:g9 h es = [g]) (idle:aC9 ks c es)
  (pk:ks'.Perm (o7 ks ms ++ [⟨c,es',k⟩])) (sk:ks'.Pairwise fun k k'=>k.c < k'.c) (lf:ks'.Pairwise (LF h)):Right35 h ks':=by
 have hb:∀ y ∈ o7 ks ms,∃ y0 ∈ ks,y.es = y0.es:=fun y hy=>by
  obtain ⟨y0,h0,rfl⟩:=List.mem_map.mp hy
  exact ⟨y0,h0,rfl⟩
 have dj:ks'.Pairwise Dj:=by
  refine (pk.pairwise_iff fun {x y} d e he he'=>d e he' he).mpr ?_
  refine List.pairwise_append.mpr ⟨?_,List.pairwise_singleton ..,fun y hy z hz=>?_⟩
  ·unfold o7
   rw [List.pairwise_map]
   exact r.fr.imp fun {x y} f e he he'=>f (af2 e) (o9.mpr (.inr (.inr (.inr ⟨e,he,rfl⟩)))) (o9.mpr (.inr (.inr (.inr ⟨e,he',rfl⟩))))
  ·rw [List.mem_singleton.mp hz]
   intro e he he'
   obtain ⟨y0,h0,e0⟩:=hb y hy
   have he':e ∈ es':=he'
   exact idle.2 e (p.mem_iff.mp he') y0 h0 (e0 ▸ he)
 refine ⟨fun y hy=>aI1 r.hin v c0 eo p s hk y (pk.mem_iff.mp hy),((lf.and sk).and dj).imp fun {x y} z=>a_0 z.1.1 (by have:=z.1.2; lia) z.2,sk,fun y hy=>?_⟩
 rcases List.mem_append.mp (pk.mem_iff.mp hy) with z | z
 ·obtain ⟨y0,h0,e0⟩:=hb y z
  rw [e0]
  exact r.nw y0 h0
 ·rw [List.mem_singleton.mp z]
  exact aG2 p eo.some hg
theorem bm2 {h:Hall} {ks:List Call} {c:Int} {es:List Int} {sh:Int} {ms:List Mv} {k:Int} (r:RoomIs h ks c es sh ms k):(∀ m ∈ ms,bi2 h ks sh m) ∧ ms.Pairwise fun m m'=>m.c ≠ m'.c:=by
 have op:∀ {n:Nat},n ∈ u6 h sh → w9 sh n = true:=fun hn=>(List.mem_filter.mp hn).2
 refine ⟨fun m hm=>?_,List.pairwise_iff_getElem.mpr fun i j hi hj lt=>?_⟩
 ·obtain ⟨i,hi⟩:=List.mem_iff_getElem?.mp hm
  have v:=r.good.1 i m hi
  obtain ⟨n1,⟨n,hn,e⟩,n',hn',e'⟩:=r.mv m hm
  exact ⟨v.2.2,n1,v.2.1,by lia,by rw [e]; exact op hn,by rw [e']; exact op hn'⟩
 ·have:=(r.good.1 j _ (List.getElem?_eq_getElem hj)).1 _ (List.mem_take_iff_getElem.mpr ⟨i,by lia,rfl⟩)
  exact this
def ag2 (K:PySem.W.Frag):Sp:=fun vs H Q _=>∃ (a l e:Addr) (h:Hall) (as:List Addr) (ks:List Call) (c:Int) (es:List Int) (sh:Int) (g:Int),vs = [.ref a,.ref l,.int c,.ref e,.int sh] ∧ SqT K H a (h.row.map V.int) ∧ h.Ok ∧ H l = some (.lst (as.map V.ref)) ∧ h9 H as ks ∧ Right35 h ks ∧ ks.length < 60 ∧ H e = some (.lst (es.map V.int)) ∧ EndsOk h es ∧ g9 h es = [g] ∧ aC9 ks c es ∧ (0 ≤ c ∧ c < h.i * h.c) ∧ h.c.toNat ≤ (u6 h sh).length ∧ h.e.toNat ≤ (u6 h sh).length ∧
 ∀ (r:Addr) (bs:List Addr) (ks':List Call) (H':Hp),i4 H H' → H' r = some (.lst (bs.map V.ref)) → h9 H' bs ks' → Right35 h ks' → ks'.length ≤ ks.length + 1 → Q (.ref r) H'
section
variable {P:Program} {w:World} {K:PySem.W.Frag} {mg:Str → Option Value} {base:Heap}
theorem A1:FnScope ["_law_hall","_law_calls","_law_caller","_law_ends","_law_shut_here","_law_handed","_law_found","_law_left","_law_k","_law_due"] ["_law_hall","_law_calls","_law_caller","_law_ends","_law_shut_here"] (d5 (top 60)):=⟨rfl,rfl,rfl,by decide +kernel,rfl,by decide +kernel,by decide +kernel⟩
set_option maxHeartbeats 4000000 in
theorem aD3 (T:Txt K mg) (C_joined_turning:CalleeD P w K mg base 10 "joined_turning" ["hall","calls","caller","ends","shut"] [.int 0] (a51 K)) (C__law_behind:Callee P w K mg base 2 "_law_behind" ["_law_hall","_law_calls","_law_moves","_law_shut_here"] (aE8 K)) (C__law_alike:Callee P w K mg base 4 "_law_alike" ["_law_found","_law_due"] (ae8 3)) (C__law_right:Callee P w K mg base 2 "_law_right" ["_law_hall","_law_calls"] (ar8 K)) (D:Def K mg "_law_joined" (top 60) ["_law_hall","_law_calls","_law_caller","_law_ends","_law_shut_here"]):Callee P w K mg base 11 "_law_joined" ["_law_hall","_law_calls","_law_caller","_law_ends","_law_shut_here"] (ag2 K):=by
 refine D.ok A1 (fun vs H Q E h=>?_) (fun f cdv A outer s H vs Q E hr h=>?_)
 ·obtain ⟨a,l,e,h,as,ks,c,es,sh,g,rfl,_⟩:=h
  rfl
 obtain ⟨a,l,e,h,as,ks,c,es,sh,g,rfl,hH,ok,el,hC,ri,h60,ee,eo,hg,idle,c0,mc,me,q⟩:=h
 have om:=ok.m
 have few:=eo.few
 refine ⟨_,(d8 (j8 (i:=5) A1.nd rfl (Or.inl rfl) (z9 (ah7 K) rfl T.m_list boot_list (b4 (pv 1) d4 b5)))
  (d8 (a02 (fun pn E =>
  (e7 (u3 (m5 D1 (pv 4) d7 (n9 _)) (e7 (j8 (i:=6) A1.nd rfl (Or.inl rfl) (bf7 0 C_joined_turning hr rfl (b4 (pv 0) (b4 (pv 5) (b4 (pv 2) (b4 (z9 (ah7 K) rfl T.m_list boot_list (b4 (pv 3) d4 b5)) d4 x0) b5) b5) b5)))) (e7 (j8 (i:=6) A1.nd rfl (Or.inl rfl) (m7 C_joined_turning.all hr rfl (b4 (pv 0) (b4 (pv 5) (b4 (pv 2) (b4 (z9 (R1 K) rfl T.m_tuple boot_tuple (b4 (pv 3) d4 b5)) (b4 (pv 4) d4 b5) x0) b5) b5) b5))))))))
  (d8 (u3 (PW.pt (N9 (C9 (y3 K (i7 (t5 K) rfl T.m_isinstance boot_isinstance (b4 (pv 6) (b4 (B9 (v:=.ty "tuple") rfl T.m_tuple boot_tuple rfl) d4 b5) b5)) (fun _=>rfl))) (N9 (m5 aO4 (i7 (u0 K) rfl T.m_len boot_len (b4 (pv 6) d4 b5)) d7 (n9 _)) (N5 (m5 (aJ2 K (Room.units0 hr)) (pv 5) (pv 1) (n9 _)))))) (e7 (i8 y7)) m8)
  (d8 (j8 (i:=7) A1.nd rfl (Or.inl rfl) (m7 C__law_behind hr rfl (b4 (pv 0) (b4 (pv 1) (b4 (i6 (e8 K) (pv 6) d7 (fun _ _=>rfl)) (b4 (pv 4) d4 b5) n6) b5) b5)))
  (d8 (u3 (PW.pt (N9 (m5 W8 (pv 7) y7 (n9 _)) (N5 (C9 (y3 K (i7 (t5 K) rfl T.m_isinstance boot_isinstance (b4 (i6 (e8 K) (pv 6) d7 (fun _ _=>rfl)) (b4 (B9 (v:=.ty "list") rfl T.m_list boot_list rfl) d4 b5) n6)) (fun _=>rfl)))))) (e7 (i8 y7)) m8)
  (d8 (y8 PassesOwn.never rfl (J7 rfl T.m_range (b4 (i6 (e8 K) (pv 0) d7 (fun _ _=>rfl)) d4 n6)) (m9 (i:=8) A1.nd rfl (Or.inl rfl))
  (d8 (j8 (i:=9) A1.nd rfl (Or.inl rfl) (i7 (V4 K) rfl T.m_sorted boot_sorted (b4 (m6 av3 (pv 7) (B0 (b4 (A9 (b4 (pv 2) (b4 (z9 (R1 K) rfl T.m_tuple boot_tuple (b4 (i7 (P4 K) rfl T.m_sorted boot_sorted (b4 (pv 3) d4 b5)) d4 x0)) (b4 (pv 8) d4 b5) x0) b5)) d4 S2))) d4 L5)))
  (e7 (u3 (PW.pt (ah3 (m5 D1 (m6 ai9 (m6 ai2 (pv 4) (pv 8)) d7) d7 (n9 _)) (ah3 (y3 K (m7 C__law_alike hr rfl (b4 (i6 (e8 K) (pv 6) d7 (fun _ _=>rfl)) (b4 (pv 9) d4 b5) n6)) (fun _=>rfl)) (ae0 (y3 K (m7 C__law_right hr rfl (b4 (pv 0) (b4 (pv 9) d4 b5) b5)) (fun _=>rfl)))))) (e7 (i8 (pv 9))) m8))))
  (e7 (i8 y7)))))))),?_⟩
 refine ⟨_,rfl,l,_,rfl,.inl (SqL.of el),fun hd hhd=>?_⟩
 have s1:=d9 hhd (.lst (as.map V.ref))
 have ehd:=d6 (H:=H) (a:=hd) (o:=.lst (as.map V.ref))
 generalize upd H hd (.lst (as.map V.ref)) = H1 at s1 ehd ⊢
 have a35:Ask35 h ks c es sh:=⟨ri.fr,ri.up,ri.nw,c0,⟨g,hg⟩,eo.es,idle,mc,me⟩
 have hC':∀ {G:Hp},i4 H G → h9 G as ks:=fun s=>h9.same (fun b xs z=>s _ _ z) hC
 have pi:∀ {G:Hp},∀ x ∈ es.map V.int,PartIs K G x:=fun x hx=>by
  obtain ⟨i,_,rfl⟩:=List.mem_map.mp hx
  exact .int i
 have asked:∀ {G:Hp} (e2:Addr),i4 H1 G → (SqT K G e2 (es.map V.int) ∨ SqL K G e2 (es.map V.int)) → Asked K G a hd e2 h as ks es:=fun e2 s he=>⟨i4.seqT (s1.trans s) hH,ok,SqL.of (s _ _ ehd),hC' (s1.trans s),ri.hin,by lia,he,by lia⟩
 dsimp only [G0,aM3]
 refine aP2 (fun σ' G=>∃ (k:Int) (t ml r:Addr) (mas bs:List Addr) (ms:List Mv) (ks':List Call) (es':List Int),i4 H1 G ∧ G t = some (.tup [.ref ml,.ref r]) ∧ G ml = some (.lst (mas.map V.ref)) ∧ B7 G mas ms ∧ RoomIs h ks c es sh ms k ∧ G r = some (.lst (bs.map V.ref)) ∧ h9 G bs ks' ∧ es'.Perm es ∧ es'.Pairwise (· ≤ ·) ∧ ks'.Perm (o7 ks ms ++ [⟨c,es',k⟩]) ∧ ks'.Pairwise (fun k k'=>k.c < k'.c) ∧ σ' = [some (.ref a),some (.ref l),some (.int c),some (.ref e),some (.int sh),some (.ref hd),some (.ref t),none,none,none]) (fun R rest=>?_) ?_
 ·refine ⟨_,rfl,rfl,_,rfl,C3 (fun z=>?_) (fun z=>?_)⟩
  ·have z':sh = 0:=V.int.inj (of_decide_eq_true z)
   subst z'
   refine ⟨_,rfl,_,rfl,_,rfl,_,rfl,e,_,rfl,.inl (SqL.of (s1 _ _ ee)),fun e2 he2=>?_⟩
   have s2:=d9 he2 (.lst (es.map V.int))
   have ee2:=d6 (H:=H1) (a:=e2) (o:=.lst (es.map V.int))
   generalize upd H1 e2 (.lst (es.map V.int)) = H2 at s2 ee2 ⊢
   exact ⟨a,hd,e2,h,as,ks,c,es,0,rfl,asked e2 s2 (.inr (SqL.of ee2)),s2 _ _ ehd,by lia,.lst ee2 pi (by rw [List.length_map]; lia),ao7 eo,a35,fun k t ml r mas bs ms ks' es' G s3 et em hms rm er hbs pe se pk sk=>rest _ _ ⟨k,t,ml,r,mas,bs,ms,ks',es',s2.trans s3,et,em,hms,rm,er,hbs,pe,se,pk,sk,rfl⟩⟩
  ·refine ⟨_,rfl,_,rfl,_,rfl,_,rfl,e,_,rfl,.inl ⟨SqL.of (s1 _ _ ee),fun e2 he2=>?_⟩⟩
   have s2:=d9 he2 (.tup (es.map V.int))
   have ee2:=d6 (H:=H1) (a:=e2) (o:=.tup (es.map V.int))
   generalize upd H1 e2 (.tup (es.map V.int)) = H2 at s2 ee2 ⊢
   exact ⟨_,rfl,a,hd,e2,h,as,ks,c,es,sh,rfl,asked e2 s2 (.inl (SqT.of ee2)),s2 _ _ ehd,by lia,.tup ee2 pi (by rw [List.length_map]; lia),ao7 eo,a35,fun k t ml r mas bs ms ks' es' G s3 et em hms rm er hbs pe se pk sk=>rest _ _ ⟨k,t,ml,r,mas,bs,ms,ks',es',s2.trans s3,et,em,hms,rm,er,hbs,pe,se,pk,sk,rfl⟩⟩
 rintro σ' H3 ⟨k,t,ml,r,mas,bs,ms,ks1,es',s3',et,em,hms,rm,er,hbs,pe,se,pk,sk,rfl⟩
 have s3:=s1.trans s3'
 refine ⟨_,rfl,_,_,_,true,rfl,.tup et,K6,true,rfl,C1 ?_⟩
 refine ⟨_,rfl,t,_,rfl,.inr (SqT.of et),rfl,_,rfl,C1 ?_⟩
 refine ⟨_,rfl,_,rfl,hd,l,_,rfl,rfl,SqL.of (s3' _ _ ehd),SqL.of (s3 _ _ el),aU7 as,_,rfl,C1 ?_⟩
 obtain ⟨mo,mn⟩:=bm2 rm
 refine ⟨_,rfl,_,rfl,_,rfl,t,_,_,_,rfl,rfl,SqT.of et,rfl,_,rfl,a,l,ml,h,as,mas,ks,ms,sh,rfl,i4.seqT s3 hH,ok,SqL.of (s3 _ _ el),hC' s3,by lia,em,hms,rm.few,mo,mn,fun lb lbs H4 s4' elb hlb=>?_⟩
 have s4:=s3.trans s4'
 have et4:=s4' _ _ et
 have er4:=s4' _ _ er
 have hbs4:h9 H4 bs ks1:=h9.same (fun b xs z=>s4' _ _ z) hbs
 refine ⟨_,rfl,rfl,_,rfl,C1 ⟨_,rfl,t,_,_,_,rfl,rfl,SqT.of et4,rfl,_,_,_,true,rfl,.lst er4,M5,true,rfl,C1 ?_⟩⟩
 obtain ⟨k0,hk0,rfl⟩:=rm.op
 have k0m:=at4 hk0
 have lbl:lbs.length = ks.length:=by
  have:=Paired.length hlb
  unfold o7 at this
  rwa [List.length_map] at this
 have bl1:bs.length = ks.length + 1:=by
  rw [Paired.length hbs,pk.length_eq,List.length_append,List.length_singleton]
  unfold o7
  rw [List.length_map]
 have nob:∀ κ ∈ o7 ks ms,κ.c ≠ c:=fun κ hκ=>by
  obtain ⟨κ0,h0,rfl⟩:=List.mem_map.mp hκ
  exact idle.1 κ0 h0
 have ncb:(o7 ks ms).Pairwise fun k k'=>k.c ≠ k'.c:=by
  unfold o7
  rw [List.pairwise_map]
  exact ri.up.imp fun {x y} z=>by show x.c ≠ y.c; lia
 have fewb:∀ κ ∈ ks1,κ.es.length ≤ 1000:=fun κ hκ=>by
  have:=(aI1 ri.hin rm.good.1 c0 eo pe se (k:=(k0:Int)) (by lia) κ (pk.mem_iff.mp hκ)).few
  lia
 refine ⟨_,rfl,a,_,_,_,rfl,rfl,i4.seqT s4 hH,rfl,_,rfl,by show -(2 ^ 62) ≤ h.m; lia,by show h.m < 2 ^ 62; lia,?_⟩
 refine O2 (fun i σ G=>i4 H4 G ∧ i ≤ k0 ∧ ∃ v8 v9,σ = [some (.ref a),some (.ref l),some (.int c),some (.ref e),some (.int sh),some (.ref hd),some (.ref t),some (.ref lb),v8,v9])
  ⟨i4.refl _,Nat.zero_le _,none,none,rfl⟩ ?_ ?_
 ·rintro i σ G hi ⟨g1,le,v8,v9,rfl⟩
  rw [Int.zero_add]
  have sG:=s4.trans g1
  have hii:0 ≤ (i:Int) ∧ (i:Int) < h.m:=by lia
  refine ⟨_,rfl,_,rfl,_,rfl,e,es,rfl,.inr (SqL.of (sG _ _ ee)),by lia,fun es3 pm srt sl hsl=>?_⟩
  obtain rfl:es3 = es':=aV8 (pm.trans pe.symm) srt se
  have q1:=d9 hsl (.lst (es3.map V.int))
  have e1:=d6 (H:=G) (a:=sl) (o:=.lst (es3.map V.int))
  generalize upd G sl (.lst (es3.map V.int)) = G1 at q1 e1 ⊢
  refine ⟨sl,_,rfl,.inl ⟨SqL.of e1,fun tt htt=>?_⟩⟩
  have q2:=q1.trans (d9 htt (.tup (es3.map V.int)))
  have e2:=d6 (H:=G1) (a:=tt) (o:=.tup (es3.map V.int))
  generalize upd G1 tt (.tup (es3.map V.int)) = G2 at q2 e2 ⊢
  refine ⟨_,rfl,(by show 3 ≤ sizeLine; decide),fun p hp=>?_⟩
  have q3':=d9 hp (.tup [.int c,.ref tt,.int (i:Nat)])
  have q3:=q2.trans q3'
  have c3:y9 (upd G2 p (.tup [.int c,.ref tt,.int (i:Nat)])) p ⟨c,es3,(i:Nat)⟩:=⟨tt,q3' _ _ e2,d6⟩
  generalize upd G2 p (.tup [.int c,.ref tt,.int (i:Nat)]) = G3 at q3 c3 ⊢
  refine ⟨(by show 1 ≤ sizeLine; decide),fun nl hnl=>?_⟩
  have q4':=d9 hnl (.lst [.ref p])
  have q4:=q3.trans q4'
  have e4:=d6 (H:=G3) (a:=nl) (o:=.lst [.ref p])
  have c4:=y9.same (fun b xs z=>q4' _ _ z) c3
  generalize upd G3 nl (.lst [.ref p]) = G4 at q4 e4 c4 ⊢
  refine ⟨lb,nl,_,_,rfl,rfl,q4 _ _ (g1 _ _ elb),e4,Nat.le_of_lt (j9 (by rw [List.length_map]; show lbs.length + 1 ≤ 1000; lia)),fun cl hcl=>?_⟩
  have q5':=d9 hcl (.lst (lbs.map V.ref ++ [.ref p]))
  have q5:=q4.trans q5'
  have e5:upd G4 cl (.lst (lbs.map V.ref ++ [.ref p])) cl = some (.lst ((lbs ++ [p]).map V.ref)):=by rw [d6,List.map_append]; rfl
  have c5:=y9.same (fun b xs z=>q5' _ _ z) c4
  generalize upd G4 cl (.lst (lbs.map V.ref ++ [.ref p])) = G5 at q5 e5 c5 ⊢
  have hC5:h9 G5 (lbs ++ [p]) (o7 ks ms ++ [⟨c,es3,(i:Nat)⟩]):=Paired.snoc (h9.same (fun b xs z=>q5 _ _ (g1 _ _ z)) hlb) c5
  have lbh:(o7 ks ms).length = ks.length:=by unfold o7; rw [List.length_map]
  dsimp only [bn3]
  refine Y9 e5 hC5 (by rw [List.length_append,List.length_singleton]; lia) (List.pairwise_append.mpr ⟨ncb,List.pairwise_singleton ..,fun k1 h1 k2 h2=>?_⟩) fun l2 as' ks'' h1 h2 h3 h4=>?_
  ·rw [List.mem_singleton.mp h2]
   exact nob k1 h1
  have q6':=d9 h1 (.lst (as'.map V.ref))
  have q6:=q5.trans q6'
  have hB6:h9 (upd G5 l2 (.lst (as'.map V.ref))) bs ks1:=h9.same (fun b xs z=>q6 _ _ (g1 _ _ z)) hbs4
  have hA6:h9 (upd G5 l2 (.lst (as'.map V.ref))) as' ks'':=h9.same (fun b xs z=>q6' _ _ z) h2
  have e6:=d6 (H:=G5) (a:=l2) (o:=.lst (as'.map V.ref))
  generalize upd G5 l2 (.lst (as'.map V.ref)) = G6 at q6 hB6 hA6 e6 ⊢
  have g6:=g1.trans q6
  have er6:=g6 _ _ er4
  have et6:=g6 _ _ et4
  have eq0:i = k0 → ks'' = ks1:=fun z=>by
   subst z
   exact ap7 (h3.trans pk.symm) h4 sk
  have next:i ≠ k0 → i4 H4 G6 ∧ i + 1 ≤ k0 ∧ ∃ (v8 v9:Option V),([some (.ref a),some (.ref l),some (.int c),some (.ref e),some (.int sh),some (.ref hd),some (.ref t),some (.ref lb),some (.int (i:Nat)),some (.ref l2)]:List (Option V)) = [some (.ref a),some (.ref l),some (.int c),some (.ref e),some (.int sh),some (.ref hd),some (.ref t),some (.ref lb),v8,v9]:=fun z=>⟨g6,by lia,_,_,rfl⟩
  have l63:ks''.length = ks.length + 1:=by rw [h3.length_eq,List.length_append,List.length_singleton,lbh]
  refine ⟨_,rfl,_,rfl,_,_,rfl,rfl,by lia,_,_,rfl,rfl,rfl,_,rfl,C3 (fun z1=>?_) (fun z1=>?_)⟩
  rotate_left
  ·refine C1 (next fun z=>?_)
   subst z
   have:w9 sh i = true:=(List.mem_filter.mp hk0).2
   exact z1 (decide_eq_true (congrArg V.int (of_decide_eq_true this)))
  have e':=aY5 nob pk sk h3 h4
  refine ⟨_,rfl,t,_,_,_,rfl,rfl,SqT.of et6,rfl,_,rfl,.ref r,.ref l2,rfl,.inr ⟨r,l2,_,_,rfl,rfl,.inl ⟨er6,e6⟩,ac0 hB6 (e' ▸ hA6) fewb,by rw [List.length_map]; lia⟩,fun b hb=>⟨b,rfl,?_⟩⟩
  cases b with
  | false =>
   refine C1 (C1 (next fun z=>?_))
   obtain rfl:=eq0 z
   exact absurd (hb (.inr ⟨r,l2,_,_,rfl,rfl,.inl ⟨er6,e6⟩,ac4 hB6 hA6 fewb,by rw [List.length_map]; lia⟩)) (by decide)
  | true =>
   refine N7 ⟨_,rfl,_,rfl,a,l2,h,as',ks'',rfl,i4.seqT (sG.trans q6) hH,ok,e6,hA6,fun y hy=>aI1 ri.hin rm.good.1 c0 eo pe se hii y (h3.mem_iff.mp hy),by lia,fun G7 g7=>⟨_,rfl,?_⟩⟩
   refine C3 (fun z=>?_) (fun z=>?_)
   ·have lf:=ab4.mp z
    exact ⟨_,rfl,q l2 as' ks'' G7 (sG.trans (q6.trans g7)) (g7 _ _ e6) (h9.same (fun b xs z=>g7 _ _ z) hA6) (aR6 ri rm.good.1 c0 eo pe se hii hg idle h3 h4 lf) (by lia)⟩
   ·have nx:=next fun y=>by
     refine z (ab4.mpr ?_)
     rw [eq0 y]
     exact (pk.pairwise_iff a92).mpr (bh5 rm pe)
    exact ⟨nx.1.trans g7,nx.2.1,_,_,rfl⟩
 ·rintro σ G ⟨g1,le,v8,v9,rfl⟩
  lia
end
def F1 (n:Nat) (B:List Int):List Int:=((List.range n).map fun (j:Nat)=>(j:Int)).filter fun x=>!decide (x ∈ B)
theorem O8 (n:Nat) (B:List Int):F1 (n + 1) B = F1 n B ++ (if (n:Int) ∈ B then [] else [(n:Int)]):=by
 unfold F1
 rw [List.range_succ,List.map_append,List.filter_append]
 congr 1
 by_cases c:(n:Int) ∈ B
 ·rw [if_pos c]; simp [c]
 ·rw [if_neg c]; simp [c]
theorem ao2 {n:Nat} {B:List Int} {x:Int}:x ∈ F1 n B ↔ (0 ≤ x ∧ x < n) ∧ ¬ x ∈ B:=by
 unfold F1
 rw [List.mem_filter,List.mem_map,Bool.not_eq_true',decide_eq_false_iff_not]
 refine and_congr_left fun _=>⟨fun ⟨j,hj,e⟩=>?_,fun ⟨h1,h2⟩=>⟨x.toNat,List.mem_range.mpr (by lia),by lia⟩⟩
 have:=List.mem_range.mp hj
 lia
theorem aC1 (n:Nat) (B:List Int):(F1 n B).Nodup:=by
 unfold F1
 refine List.Nodup.sublist List.filter_sublist ?_
 exact List.pairwise_map.mpr (List.nodup_range.imp fun {a b} ne y=>ne (by lia))
theorem U3 (n:Nat) (B:List Int):(F1 n B).length ≤ n:=by
 have:=List.length_filter_le (fun x=>!decide (x ∈ B)) ((List.range n).map fun (j:Nat)=>(j:Int))
 rw [List.length_map,List.length_range] at this
 exact this
theorem Right35.sub {h:Hall} {ks ks':List Call} (r:Right35 h ks) (s:ks'.Sublist ks):Right35 h ks':=⟨fun k hk=>r.hin k (s.subset hk),r.fr.sublist s,r.up.sublist s,fun k hk=>r.nw k (s.subset hk)⟩
theorem bi1 (xs:List V) (m:Nat):Y1 xs none (some (m:Int)) = xs.take m:=by
 unfold Y1
 rw [HT.sIx_none,show HT.sIx xs.length xs.length (some (m:Int)) = min m xs.length from HT.sIx_nat _ _ m,Nat.sub_zero,List.drop_zero]
 rcases Nat.le_total m xs.length with h | h
 ·rw [Nat.min_eq_left h]
 ·rw [Nat.min_eq_right h,List.take_length,List.take_of_length_le h]
theorem a08 (xs:List V) (m:Nat):Y1 xs (some (m:Int)) none = xs.drop m:=by
 unfold Y1
 rw [HT.sIx_none,show HT.sIx xs.length 0 (some (m:Int)) = min m xs.length from HT.sIx_nat _ _ m]
 rcases Nat.le_total m xs.length with h | h
 ·rw [Nat.min_eq_left h,List.take_of_length_le (by rw [List.length_drop]; lia)]
 ·rw [Nat.min_eq_right h,List.drop_of_length_le h,List.drop_of_length_le (Nat.le_refl _),List.take_nil]
theorem a97 {h:Hall} (ok:h.Ok) {es:List Int} {e0:Int} (nd:es.Nodup) (he0:e0 ∈ es) (hes:∀ e ∈ es,(0 ≤ e ∧ e < h.o * h.e) ∧ e / h.e = e0 / h.e):EndsOk h es ∧ g9 h es = [e0 / h.e]:=by
 have o5:=ok.e
 have ne:es ≠ []:=List.ne_nil_of_mem he0
 obtain ⟨l1,l2⟩:=as2 (d:=h.e) (r:=e0 / h.e) (x:=e0) (by lia) rfl
 refine ⟨⟨nd,fun e he=>(hes e he).1,ne,?_⟩,?_⟩
 ·have:=Z9 (L:=e0 :: (((List.range h.e.toNat).map fun (j:Nat)=>e0 / h.e * h.e + (j:Int)).erase e0)) nd fun e he=>by
   by_cases z:e = e0
   ·rw [z]; exact List.mem_cons_self ..
   ·exact List.mem_cons_of_mem _ (l2 e (hes e he).2 z)
  rw [List.length_cons,l1] at this
  lia
 ·have all:∀ e ∈ es,e / h.e ∈ [e0 / h.e]:=fun e he=>by rw [(hes e he).2]; exact List.mem_cons_self ..
  have h1:=ao8 all
  have mem:e0 / h.e ∈ g9 h es:=u4.mpr ⟨e0,he0,rfl⟩
  rw [List.length_singleton] at h1
  match e:g9 h es,h1,mem with
  | [],_,m=>cases m
  | [x],_,m=>rw [List.mem_singleton.mp m]
  | _ :: _ :: _,h1,_=>simp at h1
theorem a89 {c:TT} {t u U:TS} {D:Ends} {σ:L2.St} {H:Hp} (P:Prop) (hc:∀ Q:Bool → Hp → Prop,(∀ G,i4 H G → P → Q true G) → (∀ G,i4 H G → ¬ P → Q false G) → c σ H Q) (ht:∀ G,i4 H G → P → t { D with nx:=U D } σ G) (hu:∀ G,i4 H G → ¬ P → u { D with nx:=U D } σ G):bg6 (bm3 c t u) U D σ H :=
 hc _ (fun G s p=>N7 (ht G s p)) (fun G s p=>C1 (hu G s p))
def aC3 (K:PySem.W.Frag):Sp:=fun vs H Q _=>∃ (a l:Addr) (h:Hall) (as:List Addr) (ks:List Call) (g n:Int),vs = [.ref a,.int g,.ref l,.int n] ∧ SqT K H a (h.row.map V.int) ∧ h.Ok ∧ 0 ≤ g ∧ g ≤ 3 ∧ h.c + g ≤ h.m ∧ h.e + g ≤ h.m ∧ H l = some (.lst (as.map V.ref)) ∧ h9 H as ks ∧ Right35 h ks ∧ ks.length < 60 ∧
 ∀ (r:Addr) (bs:List Addr) (ks':List Call) (H':Hp),i4 H H' → H' r = some (.lst (bs.map V.ref)) → h9 H' bs ks' → Right35 h ks' → ks'.length ≤ ks.length + 1 → Q (.ref r) H'
section
variable {P:Program} {w:World} {K:PySem.W.Frag} {mg:Str → Option Value} {base:Heap}
theorem x9:FnScope ["_law_hall","_law_gone","_law_calls","_law_number","_law_taken","_law_call","_law_busy","_law_callers","_law_idle","_law_at","_law_caller","_law_end","_law_ends"] ["_law_hall","_law_gone","_law_calls","_law_number"] (d5 (top 61)):=⟨rfl,rfl,rfl,by decide +kernel,rfl,by decide +kernel,by decide +kernel⟩
set_option maxHeartbeats 4000000 in
theorem aU9 (T:Txt K mg) (C__law_shut:Callee P w K mg base 1 "_law_shut" ["_law_hall","_law_gone","_law_number"] (az8 K)) (C__law_joined:Callee P w K mg base 11 "_law_joined" ["_law_hall","_law_calls","_law_caller","_law_ends","_law_shut_here"] (ag2 K)) (D:Def K mg "_law_deed" (top 61) ["_law_hall","_law_gone","_law_calls","_law_number"]):Callee P w K mg base 12 "_law_deed" ["_law_hall","_law_gone","_law_calls","_law_number"] (aC3 K):=by
 refine D.ok x9 (fun vs H Q E h=>?_) (fun f cdv A outer s H vs Q E hr h=>?_)
 ·obtain ⟨a,l,h,as,ks,g,n,rfl,_⟩:=h
  rfl
 obtain ⟨a,l,h,as,ks,g,n,rfl,hH,ok,g0,g3,mc,me,el,hC,ri,h60,q⟩:=h
 have ln:as.length = ks.length:=Paired.length hC
 have oic:=ok.ic
 have ooe:=ok.oe
 have o1:=ok.i
 have o2:=ok.c
 have o4:=ok.o
 have o5:=ok.e
 have few:∀ k ∈ ks,k.es.length ≤ 12:=fun k hk=>(ri.hin k hk).few
 refine ⟨_,(d8 (j8 (i:=4) x9.nd rfl (Or.inr rfl) (B0 d4))
  (d8 (y8 PassesOwn.never rfl (o6 K (pv 2)) (m9 (i:=5) x9.nd rfl (Or.inl rfl))
  (e7 (D6 (Q1 K PySem.F.plainAttrs_list PySem.F.slot_list_extend PySem.F.type_list_extend (ah8 K) (pv 4) (b4 (i6 (e8 K) (pv 5) d7 (fun _ _=>rfl)) d4 n6)))))
  (d8 (j8 (i:=6) x9.nd rfl (Or.inr rfl) (D0 (own:=["_law_call"]) (fr:=[]) rfl (show CompScope ["_law_hall","_law_gone","_law_calls","_law_number","_law_taken","_law_call","_law_busy","_law_callers","_law_idle","_law_at","_law_caller","_law_end","_law_ends"] (d5 (top 61)) _ _ _ from ⟨rfl,by decide +kernel,by decide +kernel,by decide +kernel,by decide +kernel⟩) (o6 K (pv 2)) (fun cl C s H ex=>⟨(m9 (i:=0) (show (["_law_call"]:List Str).Nodup from by decide +kernel) rfl (Or.inl rfl) (Or.inr rfl)),E6,(i6 (e8 K) (pv 0) d7 (fun _ _=>rfl))⟩)))
  (d8 (Y6 (i:=7) (own:=["_law_one"]) (fr:=[(6,"_law_busy")]) rfl x9.nd rfl rfl (show CompScope ["_law_hall","_law_gone","_law_calls","_law_number","_law_taken","_law_call","_law_busy","_law_callers","_law_idle","_law_at","_law_caller","_law_end","_law_ends"] (d5 (top 61)) _ _ _ from ⟨rfl,by decide +kernel,by decide +kernel,by decide +kernel,by decide +kernel⟩) (J7 rfl T.m_range (b4 (m6 C6 (i6 (e8 K) (pv 0) d7 (fun _ _=>rfl)) (i6 (e8 K) (pv 0) d7 (fun _ _=>rfl))) d4 L5)) (fun cl C s H ex=>⟨(m9 (i:=0) (show (["_law_one","_law_busy"]:List Str).Nodup from by decide +kernel) rfl (Or.inl rfl) (Or.inr rfl)),(P7 (m5 (aa0 K) (pv 0) (pv 1) (by with_unfolding_all rfl))),(pv 0)⟩) rfl)
  (d8 (Y6 (i:=8) (own:=["_law_end"]) (fr:=[(4,"_law_taken")]) rfl x9.nd rfl rfl (show CompScope ["_law_hall","_law_gone","_law_calls","_law_number","_law_taken","_law_call","_law_busy","_law_callers","_law_idle","_law_at","_law_caller","_law_end","_law_ends"] (d5 (top 61)) _ _ _ from ⟨rfl,by decide +kernel,by decide +kernel,by decide +kernel,by decide +kernel⟩) (J7 rfl T.m_range (b4 (m6 C6 (i6 (e8 K) (pv 0) d7 (fun _ _=>rfl)) (i6 (e8 K) (pv 0) d7 (fun _ _=>rfl))) d4 L5)) (fun cl C s H ex=>⟨(m9 (i:=0) (show (["_law_end","_law_taken"]:List Str).Nodup from by decide +kernel) rfl (Or.inl rfl) (Or.inr rfl)),(P7 (m5 (aa0 K) (pv 0) (pv 1) (by with_unfolding_all rfl))),(pv 0)⟩) rfl)
  (d8 (u3 (PW.pt (N9 (m5 (aq3 K (Room.units0 hr)) (pv 7) (B0 d4) (n9 _)) (N9 (m5 (aq3 K (Room.units0 hr)) (pv 8) (B0 d4) (n9 _)) (N5 (PW.pt (ah3 (m5 (ar6 K (Room.units0 hr)) (pv 2) (B0 d4) (n9 _)) (ae0 (m5 D1 (m6 E8 (m6 E8 (m6 C6 (pv 3) d7) d7) d7) d7 (n9 _))))))))) (d8 (j8 (i:=9) x9.nd rfl (Or.inl rfl) (m6 E8 (m6 E8 (m6 C6 (pv 3) d7) d7) (i7 (u0 K) rfl T.m_len boot_len (b4 (pv 2) d4 b5))))
  (e7 (i8 (m6 av3 (aj5 (ai7 K) (pv 2) at2 (au3 (pv 9))) (aj5 (ai7 K) (pv 2) (au3 (m6 J9 (pv 9) d7)) at2))))) m8)
  (d8 (j8 (i:=10) x9.nd rfl (Or.inl rfl) (i6 (C4 K) (pv 7) (m6 E8 (m6 E8 (m6 C6 (pv 3) d7) d7) (i7 (u0 K) rfl T.m_len boot_len (b4 (pv 7) d4 b5))) (fun _ _=>rfl)))
  (d8 (j8 (i:=11) x9.nd rfl (Or.inr rfl) (i6 (C4 K) (pv 8) (m6 E8 (m6 E8 (m6 C6 (pv 3) d7) d7) (i7 (u0 K) rfl T.m_len boot_len (b4 (pv 8) d4 b5))) (fun _ _=>rfl)))
  (d8 (j8 (i:=12) x9.nd rfl (Or.inl rfl) (B0 (b4 (pv 11) d4 b5)))
  (d8 (u3 (m5 D1 (m6 E8 (m6 E8 (m6 C6 (pv 3) d7) d7) d7) d7 (n9 _)) (e7 (Y6 (i:=12) (own:=["_law_one"]) (fr:=[(0,"_law_hall"),(11,"_law_end")]) rfl x9.nd rfl rfl (show CompScope ["_law_hall","_law_gone","_law_calls","_law_number","_law_taken","_law_call","_law_busy","_law_callers","_law_idle","_law_at","_law_caller","_law_end","_law_ends"] (d5 (top 61)) _ _ _ from ⟨rfl,by decide +kernel,by decide +kernel,by decide +kernel,by decide +kernel⟩) (o6 K (pv 8)) (fun cl C s H ex=>⟨(m9 (i:=0) (show (["_law_one","_law_hall","_law_end"]:List Str).Nodup from by decide +kernel) rfl (Or.inl rfl) (Or.inr rfl)),(P7 (m5 D1 (m6 T6 (pv 0) (i6 (e8 K) (pv 1) d7 (fun _ _=>rfl))) (m6 T6 (pv 2) (i6 (e8 K) (pv 1) d7 (fun _ _=>rfl))) (n9 _))),(pv 0)⟩) rfl)) m8)
  (e7 (i8 (m7 C__law_joined hr rfl (b4 (pv 0) (b4 (pv 2) (b4 (pv 10) (b4 (pv 12) (b4 (m7 C__law_shut hr rfl (b4 (pv 0) (b4 (pv 1) (b4 (pv 3) d4 b5) b5) b5)) d4 x0) b5) b5) b5) b5)))))))))))))),?_⟩
 refine ⟨(by show 0 ≤ sizeLine; decide),fun tk htk=>?_⟩
 have s1:=d9 htk (.lst [])
 have etk:=d6 (H:=H) (a:=tk) (o:=.lst [])
 generalize upd H tk (.lst []) = H1 at s1 etk ⊢
 have nlk:∀ {b:Addr} {u:HO},H b = some u → b ≠ tk:=fun z=>q9 z htk
 have el1:=s1 _ _ el
 refine ⟨_,rfl,l,rfl,⟨_,SqL.of el1⟩,?_⟩
 refine w6 (xs:=as.map V.ref) (fun i σ G'=>bd5 tk H1 G' ∧ (∃ xs:List Int,G' tk = some (.lst (xs.map V.int)) ∧ xs.length ≤ 12 * i ∧ ∀ x,x ∈ xs ↔ ∃ k ∈ ks.take i,x ∈ k.es) ∧ ∃ v5,σ = [some (.ref a),some (.int g),some (.ref l),some (.int n),some (.ref tk),v5,none,none,none,none,none,none,none])
  ⟨fun _ _ _ z=>z,⟨[],etk,Nat.le_refl _,fun x=>⟨(fun y=>nomatch y),fun ⟨k,hk,_⟩=>nomatch hk⟩⟩,none,rfl⟩ (fun i σ G' _ gg=>SqL.of (gg.1 _ _ (nlk el) el1)) ?_ ?_
 ·rintro i y σ G' hy ⟨s5,⟨xs,exs,xl,xm⟩,v5,rfl⟩
  rw [List.getElem?_map] at hy
  obtain ⟨a',ha',rfl⟩:=Option.map_eq_some_iff.mp hy
  obtain ⟨k',hk',ce,e1,e2⟩:=j7 hC i a' ha'
  have e15:=s5 _ _ (nlk e1) (s1 _ _ e1)
  have e25:=s5 _ _ (nlk e2) (s1 _ _ e2)
  have i63:i < 60:=by have:=(List.getElem?_eq_some_iff.mp hk').1; lia
  have kf:=few k' (List.mem_of_getElem? hk')
  refine ⟨_,rfl,.inl ⟨rfl,_,SqL.of exs⟩,_,rfl,a',_,_,_,rfl,rfl,SqT.of e25,rfl,tk,ce,_,_,rfl,rfl,exs,SqT.of e15,Nat.le_of_lt (j9 (by rw [List.length_map,List.length_map]; lia)),?_⟩
  refine ⟨fun b u nb z=>by rw [n5 nb]; exact s5 b u nb z,⟨xs ++ k'.es,by rw [d6,List.map_append],by rw [List.length_append]; lia,fun x=>?_⟩,_,rfl⟩
  rw [List.take_add_one,hk',List.mem_append,xm]
  constructor
  ·rintro (⟨k,hk,ek⟩ | y)
   ·exact ⟨k,List.mem_append_left _ hk,ek⟩
   ·exact ⟨k',List.mem_append_right _ (List.mem_singleton.mpr rfl),y⟩
  ·rintro ⟨k,hk,ek⟩
   rcases List.mem_append.mp hk with y | y
   ·exact .inl ⟨k,y,ek⟩
   ·rw [List.mem_singleton.mp y] at ek
    exact .inr ek
 rintro σ H2 ⟨s5,⟨xs,exs,xl,xm⟩,v5,rfl⟩
 rw [List.length_map,ln] at xl
 rw [List.length_map,ln,List.take_length] at xm
 have s2:i4 H H2:=fun b u z=>s5 b u (nlk z) (s1 _ _ z)
 have el2:=s2 _ _ el
 refine ⟨_,rfl,l,rfl,⟨_,SqL.of el2⟩,?_⟩
 refine B2 (xs:=as.map V.ref) (fun i acc σ G=>G = H2 ∧ acc = ((ks.take i).map Call.c).map V.int ∧ ∃ v,σ = [v])
  ⟨rfl,rfl,none,rfl⟩ (Nat.le_of_lt (j9 (by rw [List.length_map]; lia))) (fun i acc σ G gg=>?_) (fun i acc σ G _ gg=>by rw [gg.1]; exact SqL.of el2) ?_ ?_
 ·obtain ⟨_,rfl,_⟩:=gg
  rw [List.length_map,List.length_map,List.length_take]
  lia
 ·rintro i y acc σ G hy ⟨rfl,rfl,v,rfl⟩
  rw [List.getElem?_map] at hy
  obtain ⟨a',ha',rfl⟩:=Option.map_eq_some_iff.mp hy
  obtain ⟨k',hk',ce,e1,e2⟩:=j7 hC i a' ha'
  refine ⟨_,rfl,a',_,_,_,rfl,rfl,SqT.of (s2 _ _ e2),rfl,rfl,?_,_,rfl⟩
  rw [List.take_add_one,hk',List.map_append,List.map_append]
  rfl
 rintro acc σ G ⟨rfl,rfl,v,rfl⟩ bl hbl
 rw [List.length_map,ln,List.take_length]
 have s3':=d9 hbl (.lst ((ks.map Call.c).map V.int))
 have ebl:=d6 (H:=G) (a:=bl) (o:=.lst ((ks.map Call.c).map V.int))
 have exs3:=s3' _ _ exs
 have s3:=s2.trans s3'
 generalize upd G bl (.lst ((ks.map Call.c).map V.int)) = H3 at s3 ebl exs3 ⊢
 refine ⟨_,rfl,a,_,_,_,rfl,rfl,i4.seqT s3 hH,rfl,_,rfl,a,_,_,_,rfl,rfl,i4.seqT s3 hH,rfl,_,_,rfl,rfl,.inl ⟨by lia,by lia⟩,_,rfl,by show -(2 ^ 62) ≤ h.i * h.c; lia,by show h.i * h.c < 2 ^ 62; lia,?_⟩
 refine O5 (fun i acc σ G=>G = H3 ∧ acc = (F1 i (ks.map Call.c)).map V.int ∧ ∃ v,σ = [v,some (.ref bl)])
  ⟨rfl,rfl,none,rfl⟩ (by show (h.i * h.c).toNat ≤ 16777216; lia) (fun i acc σ G gg=>?_) ?_ ?_
 ·obtain ⟨_,rfl,_⟩:=gg
  rw [List.length_map]
  exact U3 ..
 ·rintro i acc σ G hi ⟨rfl,rfl,v,rfl⟩
  rw [Int.zero_add]
  refine ⟨_,rfl,_,rfl,bl,_,rfl,.inl (SqL.of ebl),rfl,Q8 _,_,rfl,?_⟩
  rw [ak4]
  refine C3 (fun z=>?_) (fun z=>?_)
  ·have z':¬ (i:Int) ∈ ks.map Call.c:=by simpa using z
   refine ⟨_,rfl,rfl,?_,_,rfl⟩
   rw [O8,if_neg z',List.map_append]
   rfl
  ·have z':(i:Int) ∈ ks.map Call.c:=by simpa using z
   refine ⟨rfl,?_,_,rfl⟩
   rw [O8,if_pos z',List.append_nil]
 rintro acc σ G ⟨rfl,rfl,v,rfl⟩ cl hcl
 have s4':=d9 hcl (.lst ((F1 (h.i * h.c).toNat (ks.map Call.c)).map V.int))
 have ecl:=d6 (H:=G) (a:=cl) (o:=.lst ((F1 (h.i * h.c).toNat (ks.map Call.c)).map V.int))
 have exs4:=s4' _ _ exs3
 have s4:=s3.trans s4'
 generalize upd G cl (.lst ((F1 (h.i * h.c).toNat (ks.map Call.c)).map V.int)) = H4 at s4 ecl exs4 ⊢
 refine ⟨_,rfl,a,_,_,_,rfl,rfl,i4.seqT s4 hH,rfl,_,rfl,a,_,_,_,rfl,rfl,i4.seqT s4 hH,rfl,_,_,rfl,rfl,.inl ⟨by lia,by lia⟩,_,rfl,by show -(2 ^ 62) ≤ h.o * h.e; lia,by show h.o * h.e < 2 ^ 62; lia,?_⟩
 refine O5 (fun i acc σ G=>G = H4 ∧ acc = (F1 i xs).map V.int ∧ ∃ v,σ = [v,some (.ref tk)])
  ⟨rfl,rfl,none,rfl⟩ (by show (h.o * h.e).toNat ≤ 16777216; lia) (fun i acc σ G gg=>?_) ?_ ?_
 ·obtain ⟨_,rfl,_⟩:=gg
  rw [List.length_map]
  exact U3 ..
 ·rintro i acc σ G hi ⟨rfl,rfl,v,rfl⟩
  rw [Int.zero_add]
  refine ⟨_,rfl,_,rfl,tk,_,rfl,.inl (SqL.of exs4),rfl,Q8 _,_,rfl,?_⟩
  rw [ak4]
  refine C3 (fun z=>?_) (fun z=>?_)
  ·have z':¬ (i:Int) ∈ xs:=by simpa using z
   refine ⟨_,rfl,rfl,?_,_,rfl⟩
   rw [O8,if_neg z',List.map_append]
   rfl
  ·have z':(i:Int) ∈ xs:=by simpa using z
   refine ⟨rfl,?_,_,rfl⟩
   rw [O8,if_pos z',List.append_nil]
 rintro acc σ G ⟨rfl,rfl,v,rfl⟩ il hil
 have s5'':=d9 hil (.lst ((F1 (h.o * h.e).toNat xs).map V.int))
 have eil:=d6 (H:=G) (a:=il) (o:=.lst ((F1 (h.o * h.e).toNat xs).map V.int))
 have ecl5:=s5'' _ _ ecl
 have s5:=s4.trans s5''
 generalize upd G il (.lst ((F1 (h.o * h.e).toNat xs).map V.int)) = H5 at s5 eil ecl5 ⊢
 clear s5''
 have cm:∀ x,x ∈ F1 (h.i * h.c).toNat (ks.map Call.c) ↔ (0 ≤ x ∧ x < h.i * h.c) ∧ ∀ k ∈ ks,k.c ≠ x:=fun x=>by
  rw [ao2]
  refine and_congr (by lia) ⟨fun z k hk e=>z (List.mem_map.mpr ⟨k,hk,e⟩),fun z y=>?_⟩
  obtain ⟨k,hk,e⟩:=List.mem_map.mp y
  exact z k hk e
 have im:∀ x,x ∈ F1 (h.o * h.e).toNat xs ↔ (0 ≤ x ∧ x < h.o * h.e) ∧ ∀ k ∈ ks,¬ x ∈ k.es:=fun x=>by
  rw [ao2,xm]
  exact and_congr (by lia) ⟨fun z k hk e=>z ⟨k,hk,e⟩,fun z ⟨k,hk,e⟩=>z k hk e⟩
 have ind:=aC1 (h.o * h.e).toNat xs
 have cll:=U3 (h.i * h.c).toNat (ks.map Call.c)
 have ill:=U3 (h.o * h.e).toNat xs
 generalize F1 (h.i * h.c).toNat (ks.map Call.c) = CL at cm ecl5 cll
 generalize F1 (h.o * h.e).toNat xs = IL at im ind eil ill
 have el5:=s5 _ _ el
 dsimp only [G0,aM3]
 refine a89 (CL = [] ∨ IL = [] ∨ ks ≠ [] ∧ n * 16807 % 999907 % 6 = 5) (fun Q' yes no=>?_) (fun G6 s6 hp=>?_) (fun G6 s6 hp=>?_)
 ·refine ⟨_,rfl,(by show 0 ≤ sizeLine; decide),fun n1 hn1=>?_⟩
  have t1:=d9 hn1 (.lst [])
  have f1:=d6 (H:=H5) (a:=n1) (o:=.lst [])
  generalize upd H5 n1 (.lst []) = G1 at t1 f1 ⊢
  refine ⟨cl,n1,_,rfl,rfl,SqL.of (t1 _ _ ecl5),SqL.of f1,_,rfl,C3 (fun z=>?_) (fun z=>?_)⟩
  ·exact yes _ t1 (.inl (List.map_eq_nil_iff.mp (of_decide_eq_true z)))
  have nc:CL ≠ []:=fun y=>z (decide_eq_true (by rw [y]; rfl))
  refine ⟨_,rfl,(by show 0 ≤ sizeLine; decide),fun n2 hn2=>?_⟩
  have t2:=d9 hn2 (.lst [])
  have f2:=d6 (H:=G1) (a:=n2) (o:=.lst [])
  have t12:=t1.trans t2
  generalize upd G1 n2 (.lst []) = G2 at t12 f2 ⊢
  refine ⟨il,n2,_,rfl,rfl,SqL.of (t12 _ _ eil),SqL.of f2,_,rfl,C3 (fun z=>?_) (fun z=>?_)⟩
  ·exact yes _ t12 (.inr (.inl (List.map_eq_nil_iff.mp (of_decide_eq_true z))))
  have ni:IL ≠ []:=fun y=>z (decide_eq_true (by rw [y]; rfl))
  refine ⟨_,rfl,(by show 0 ≤ sizeLine; decide),fun n3 hn3=>?_⟩
  have t3:=d9 hn3 (.lst [])
  have f3:=d6 (H:=G2) (a:=n3) (o:=.lst [])
  have t13:=t12.trans t3
  generalize upd G2 n3 (.lst []) = G3 at t13 f3 ⊢
  have nk:as.map V.ref = [] ↔ ks = []:=by
   rw [List.map_eq_nil_iff,← List.length_eq_zero_iff,← List.length_eq_zero_iff,ln]
  refine ⟨l,n3,_,rfl,rfl,SqL.of (t13 _ _ el5),SqL.of f3,_,rfl,C3 (fun z=>?_) (fun z=>?_)⟩
  rotate_left
  ·exact no _ t13 fun y=>by
    rcases y with y | y | y
    ·exact nc y
    ·exact ni y
    ·exact z (by simpa using fun w=>y.1 (nk.mp w))
  have zk:ks ≠ []:=fun y=>by
   have:=nk.mpr y
   rw [this] at z
   cases z
  refine ⟨_,rfl,_,_,rfl,rfl,.inr ⟨by decide,by decide⟩,_,_,rfl,rfl,(by show (0:Int) < 999907; decide),_,_,rfl,rfl,(by show (0:Int) < 6; decide),rfl,_,rfl,?_⟩
  by_cases y:n * 16807 % 999907 % 6 = 5
  ·have:=yes _ t13 (.inr (.inr ⟨zk,y⟩))
   rw [← decide_eq_true (p:=V.int (n * 16807 % 999907 % 6) = V.int 5) (by rw [y])] at this
   exact this
  ·have:=no _ t13 fun w=>by
    rcases w with w | w | w
    ·exact nc w
    ·exact ni w
    ·exact y w.2
   rw [← decide_eq_false (p:=V.int (n * 16807 % 999907 % 6) = V.int 5) (fun w=>y (V.int.inj w))] at this
   exact this
 ·have ne:ks ≠ []:=by
   rcases hp with w | w | w
   ·intro y
    have:=(cm 0).mpr ⟨by lia,fun k hk=>by rw [y] at hk; cases hk⟩
    rw [w] at this
    cases this
   ·intro y
    have:=(im 0).mpr ⟨by lia,fun k hk=>by rw [y] at hk; cases hk⟩
    rw [w] at this
    cases this
   ·exact w.1
  have s6':=s5.trans s6
  have el6:=s6' _ _ el
  have lp:0 < ks.length:=List.length_pos_iff.mpr ne
  have lpa:0 < (((as.map V.ref).length:Nat):Int):=by rw [List.length_map]; lia
  refine ⟨_,rfl,_,_,rfl,rfl,.inr ⟨by decide,by decide⟩,_,_,rfl,rfl,(by show (0:Int) < 999959; decide),_,rfl,l,_,rfl,.inl (SqL.of el6),_,_,rfl,rfl,lpa,?_⟩
  have md:=as6 (x:=n * 742938285 % 999959) lpa
  obtain ⟨j,hj⟩:∃ j:Nat,n * 742938285 % 999959 % (((as.map V.ref).length:Nat):Int) = (j:Int):=⟨(n * 742938285 % 999959 % (((as.map V.ref).length:Nat):Int)).toNat,by lia⟩
  dsimp only
  rw [hj] at md ⊢
  refine ⟨_,rfl,_,rfl,_,rfl,l,_,rfl,SqL.of el6,fun l1 hl1=>?_⟩
  rw [bi1,← List.map_take]
  have t1:=d9 hl1 (.lst ((as.take j).map V.ref))
  have f1:=d6 (H:=G6) (a:=l1) (o:=.lst ((as.take j).map V.ref))
  generalize upd G6 l1 (.lst ((as.take j).map V.ref)) = G7 at t1 f1 ⊢
  refine ⟨_,rfl,_,rfl,_,_,rfl,rfl,_,rfl,l,_,rfl,SqL.of (t1 _ _ el6),fun l2 hl2=>?_⟩
  rw [show Y1 (as.map V.ref) (some ((fun i j:Int=>i + j) (j:Int) 1)) none = (as.drop (j + 1)).map V.ref from (a08 _ (j + 1)).trans List.map_drop.symm]
  have t2:=d9 hl2 (.lst ((as.drop (j + 1)).map V.ref))
  have f2:=d6 (H:=G7) (a:=l2) (o:=.lst ((as.drop (j + 1)).map V.ref))
  have f12:=t2 _ _ f1
  have t12:=t1.trans t2
  generalize upd G7 l2 (.lst ((as.drop (j + 1)).map V.ref)) = G8 at t12 f2 f12 ⊢
  refine ⟨l1,l2,_,_,rfl,rfl,f12,f2,Nat.le_of_lt (j9 (by rw [List.length_map,List.length_map,List.length_take,List.length_drop]; lia)),fun l3 hl3=>?_⟩
  have t3:=d9 hl3 (.lst ((as.take j).map V.ref ++ (as.drop (j + 1)).map V.ref))
  have s9:=s6'.trans (t12.trans t3)
  have sub:(ks.take j ++ ks.drop (j + 1)).Sublist ks:=by
   rw [← List.eraseIdx_eq_take_drop_succ]
   exact List.eraseIdx_sublist ..
  exact q l3 (as.take j ++ as.drop (j + 1)) _ _ s9 (by rw [d6,List.map_append]) (h9.same (fun b xs z=>s9 _ _ z) (V2 (ab9 (j + 1) hC) (ac6 j hC))) (ri.sub sub) (Nat.le_succ_of_le sub.length_le)
 ·have nc:CL ≠ []:=fun y=>hp (.inl y)
  have ni:IL ≠ []:=fun y=>hp (.inr (.inl y))
  have s7:=s5.trans s6
  have ecl6:=s6 _ _ ecl5
  have eil6:=s6 _ _ eil
  obtain ⟨c,hc,ec⟩:=aW4 (n * 48271 % 1000003) nc
  obtain ⟨e0,he0,ee0⟩:=aW4 (n * 69621 % 999983) ni
  have lc:0 < (((CL.map V.int).length:Nat):Int):=by rw [List.length_map]; have:=List.length_pos_iff.mpr nc; lia
  have li:0 < (((IL.map V.int).length:Nat):Int):=by rw [List.length_map]; have:=List.length_pos_iff.mpr ni; lia
  refine ⟨_,rfl,_,rfl,_,_,rfl,rfl,.inr ⟨by decide,by decide⟩,_,_,rfl,rfl,(by show (0:Int) < 1000003; decide),_,rfl,cl,_,rfl,.inl (SqL.of ecl6),_,_,rfl,rfl,lc,cl,_,_,_,rfl,rfl,SqL.of ecl6,ec,?_⟩
  refine ⟨_,rfl,_,rfl,_,_,rfl,rfl,.inr ⟨by decide,by decide⟩,_,_,rfl,rfl,(by show (0:Int) < 999983; decide),_,rfl,il,_,rfl,.inl (SqL.of eil6),_,_,rfl,rfl,li,il,_,_,_,rfl,rfl,SqL.of eil6,ee0,?_⟩
  refine ⟨_,rfl,(by show 1 ≤ sizeLine; decide),fun e1 he1=>?_⟩
  have t1:=d9 he1 (.lst [.int e0])
  have f1:=d6 (H:=G6) (a:=e1) (o:=.lst [.int e0])
  have eil7:=t1 _ _ eil6
  generalize upd G6 e1 (.lst [.int e0]) = G7 at t1 f1 eil7 ⊢
  have s8:=s7.trans t1
  obtain ⟨c1,c2⟩:=(cm c).mp hc
  have i1:=(im e0).mp he0
  dsimp only [G0,aM3]
  refine aP2 (fun σ' G=>i4 G7 G ∧ ∃ (ea:Addr) (es:List Int),G ea = some (.lst (es.map V.int)) ∧ es.Nodup ∧ e0 ∈ es ∧ (∀ e ∈ es,e ∈ IL ∧ e / h.e = e0 / h.e) ∧ σ' = [some (.ref a),some (.int g),some (.ref l),some (.int n),some (.ref tk),v5,some (.ref bl),some (.ref cl),some (.ref il),none,some (.int c),some (.int e0),some (.ref ea)]) (fun R rest=>?_) ?_
  ·refine ⟨_,rfl,_,_,rfl,rfl,.inr ⟨by decide,by decide⟩,_,_,rfl,rfl,(by show (0:Int) < 999931; decide),_,_,rfl,rfl,(by show (0:Int) < 3; decide),rfl,_,rfl,C3 (fun z=>?_) (fun z=>?_)⟩
   rotate_left
   ·exact rest _ _ ⟨i4.refl _,e1,[e0],f1,by simp,by simp,fun e he=>by rw [List.mem_singleton.mp he]; exact ⟨he0,rfl⟩,rfl⟩
   refine ⟨_,rfl,il,rfl,⟨_,SqL.of eil7⟩,?_⟩
   refine B2 (xs:=IL.map V.int) (fun i acc σ G=>G = G7 ∧ acc = ((IL.take i).filter fun x=>decide (x / h.e = e0 / h.e)).map V.int ∧ ∃ v,σ = [v,some (.ref a),some (.int e0)])
    ⟨rfl,rfl,none,rfl⟩ (Nat.le_of_lt (j9 (by rw [List.length_map]; lia))) (fun i acc σ G gg=>?_) (fun i acc σ G _ gg=>by rw [gg.1]; exact SqL.of eil7) ?_ ?_
   ·obtain ⟨_,rfl,_⟩:=gg
    rw [List.length_map]
    exact Nat.le_trans (List.length_filter_le _ _) (by rw [List.length_take]; lia)
   ·rintro i y acc σ G hy ⟨rfl,rfl,v,rfl⟩
    rw [List.getElem?_map] at hy
    obtain ⟨x,hx,rfl⟩:=Option.map_eq_some_iff.mp hy
    have hH8:=i4.seqT (K:=K) s8 hH
    have step:(IL.take (i + 1)).filter (fun x=>decide (x / h.e = e0 / h.e)) = (IL.take i).filter (fun x=>decide (x / h.e = e0 / h.e)) ++ (if x / h.e = e0 / h.e then [x] else []):=by
     rw [List.take_succ,hx,List.filter_append]
     by_cases c:x / h.e = e0 / h.e
     ·rw [if_pos c]; simp [c]
     ·rw [if_neg c]; simp [c]
    refine ⟨_,rfl,_,rfl,a,_,_,_,rfl,rfl,hH8,rfl,_,_,rfl,rfl,⟨by show 0 < h.e; lia,by show h.e < 1073741824; lia⟩,_,rfl,_,rfl,a,_,_,_,rfl,rfl,hH8,rfl,_,_,rfl,rfl,⟨by show 0 < h.e; lia,by show h.e < 1073741824; lia⟩,rfl,_,rfl,C3 (fun z=>?_) (fun z=>?_)⟩
    ·have z':x / h.e = e0 / h.e:=V.int.inj (of_decide_eq_true z)
     refine ⟨_,rfl,rfl,?_,_,rfl⟩
     rw [step,if_pos z',List.map_append]
     rfl
    ·have z':¬ x / h.e = e0 / h.e:=fun y=>z (decide_eq_true (congrArg V.int y))
     refine ⟨rfl,?_,_,rfl⟩
     rw [step,if_neg z',List.append_nil]
   ·rintro acc σ G ⟨rfl,rfl,v,rfl⟩ ea hea
    rw [List.length_map,List.take_length]
    refine rest _ _ ⟨d9 hea _,ea,_,d6,ind.sublist List.filter_sublist,List.mem_filter.mpr ⟨he0,decide_eq_true rfl⟩,fun e he=>?_,rfl⟩
    obtain ⟨h1,h2⟩:=List.mem_filter.mp he
    exact ⟨h1,of_decide_eq_true h2⟩
  rintro σ' G8 ⟨t8,ea,es,fea,nd,m0,mes,rfl⟩
  have s9:=s8.trans t8
  obtain ⟨eo,hg⟩:=a97 ok nd m0 fun e he=>⟨((im e).mp (mes e he).1).1,(mes e he).2⟩
  refine ⟨_,rfl,_,rfl,_,rfl,_,rfl,_,rfl,_,rfl,_,rfl,a,h,g,n,rfl,i4.seqT s9 hH,ok,g0,g3,fun b B hB lB=>?_⟩
  have om:=aT8 (h:=h) (sh:=(b:Int)) (B:=B) fun k hk=>hB k (by rw [aB7] at hk; simpa using hk)
  exact ⟨a,l,ea,h,as,ks,c,es,b,e0 / h.e,rfl,i4.seqT s9 hH,ok,s9 _ _ el,h9.same (fun b xs z=>s9 _ _ z) hC,ri,h60,fea,eo,hg,⟨c2,fun e he=>((im e).mp (mes e he).1).2⟩,c1,by lia,by lia,fun r bs ks' H' s' er hbs ri' kl=>q r bs ks' H' (s9.trans s') er hbs ri' kl⟩
end
section
variable {P:Program} {w:World} {K:PySem.W.Frag} {mg:Str → Option Value} {base:Heap}
theorem L9:FnScope ["_law_script","_law_callers","_law_ends","_law_gone","_law_amid","_law_ins","_law_hall","_law_calls","_law_at","_law_number"] ["_law_script"] (d5 (top 62)):=⟨rfl,rfl,rfl,by decide +kernel,rfl,by decide +kernel,by decide +kernel⟩
set_option maxHeartbeats 4000000 in
theorem bf4 (T:Txt K mg) (C__law_size:Callee P w K mg base 2 "_law_size" ["_law_script","_law_k","_law_most"] (aW6 K)) (C__law_deed:Callee P w K mg base 12 "_law_deed" ["_law_hall","_law_gone","_law_calls","_law_number"] (aC3 K)) {f:Addr} {fd:FuncData} (F:Fun K "law" "law" (top 62) f fd):FnOk P w K mg base CX0 13 f fd ["_law_script"] (aP7 K):=by
 refine F.ok L9 (fun vs H Q E h=>?_) (fun cdv A outer s H vs Q E hr h=>?_)
 ·obtain ⟨a,ns,rfl,_⟩:=h
  rfl
 obtain ⟨a,ns,rfl,hS,h63,q⟩:=h
 refine ⟨_,(d8 (j8 (i:=1) L9.nd rfl (Or.inl rfl) (m6 J9 d7 (m7 C__law_size hr rfl (b4 (pv 0) (b4 d7 (b4 d7 d4 q0) q0) b5))))
  (d8 (j8 (i:=2) L9.nd rfl (Or.inl rfl) (m6 J9 d7 (m7 C__law_size hr rfl (b4 (pv 0) (b4 d7 (b4 d7 d4 q0) q0) b5))))
  (d8 (j8 (i:=3) L9.nd rfl (Or.inl rfl) (m7 C__law_size hr rfl (b4 (pv 0) (b4 d7 (b4 d7 d4 q0) q0) b5)))
  (d8 (j8 (i:=4) L9.nd rfl (Or.inl rfl) (m6 J9 (m6 J9 (i7 (aQ8 rfl) rfl T.m_max boot_max (b4 (pv 1) (b4 (pv 2) d4 b5) b5)) (z9 aS2 rfl T.m_int boot_int (b4 (F4 D1 (m7 C__law_size hr rfl (b4 (pv 0) (b4 d7 (b4 d7 d4 q0) q0) b5)) d7 (n9 _)) d4 be6))) (pv 3)))
  (d8 (j8 (i:=5) L9.nd rfl (Or.inl rfl) (m6 J9 d7 (m7 C__law_size hr rfl (b4 (pv 0) (b4 d7 (b4 d7 d4 q0) q0) b5))))
  (d8 (j8 (i:=6) L9.nd rfl (Or.inl rfl) (A9 (b4 (pv 5) (b4 (pv 1) (b4 (pv 4) (b4 (m6 J9 d7 (m7 C__law_size hr rfl (b4 (pv 0) (b4 d7 (b4 d7 d4 q0) q0) b5))) (b4 (pv 2) d4 b5) L5) b5) b5) b5)))
  (d8 (j8 (i:=7) L9.nd rfl (Or.inl rfl) (B0 d4))
  (d8 (y8 PassesOwn.never rfl (aU3 rfl T.m_range (b4 d7 (b4 (i7 (aS4 rfl) rfl T.m_min boot_min (b4 (i7 (u0 K) rfl T.m_len boot_len (b4 (pv 0) d4 b5)) (b4 d7 d4 q0) x0)) d4 x0) q0)) (m9 (i:=8) L9.nd rfl (Or.inl rfl))
  (d8 (j8 (i:=9) L9.nd rfl (Or.inl rfl) (m6 J9 (m6 C6 (i7 aW9 rfl T.m_abs boot_abs (b4 (i6 (C4 K) (pv 0) (pv 8) (fun _ _=>rfl)) d4 n6)) (m6 J9 (m6 C6 d7 (pv 8)) d7)) (m6 C6 (pv 8) (pv 8))))
  (d8 (j8 (i:=7) L9.nd rfl (Or.inl rfl) (m7 C__law_deed hr rfl (b4 (pv 6) (b4 (pv 3) (b4 (pv 7) (b4 (pv 9) d4 b5) b5) b5) b5)))
  (e7 (u3 (m5 W8 (pv 7) y7 (n9 _)) (e7 (i8 K9)) m8)))))
  (e7 (i8 K9)))))))))),?_⟩
 refine ⟨_,rfl,a,ns,1,4,rfl,hS,by decide,by decide,fun c0 c1 c2=>⟨_,_,rfl,rfl,?_⟩⟩
 refine ⟨_,rfl,a,ns,3,4,rfl,hS,by decide,by decide,fun e0 e1 e2=>⟨_,_,rfl,rfl,?_⟩⟩
 refine ⟨_,rfl,a,ns,4,3,rfl,hS,by decide,by decide,fun g0 g1 g2=>?_⟩
 refine ⟨_,rfl,_,rfl,_,_,rfl,?_⟩
 refine ⟨_,rfl,a,ns,5,3,rfl,hS,by decide,by decide,fun b0 b1 b2=>⟨rfl,.inr ⟨_,rfl,_,_,rfl,rfl,_,rfl,_,_,rfl,rfl,?_⟩⟩⟩
 refine ⟨_,rfl,a,ns,0,5,rfl,hS,by decide,by decide,fun i0 i1 i2=>⟨_,_,rfl,rfl,?_⟩⟩
 refine ⟨_,rfl,_,rfl,_,rfl,_,rfl,a,ns,2,5,rfl,hS,by decide,by decide,fun o0 o1 o2=>⟨_,_,rfl,rfl,_,rfl,(by show 5 ≤ sizeLine; decide),fun hp hhp=>?_⟩⟩
 dsimp only
 obtain ⟨M,hM⟩:∃ M:Int,(if 1 + e0 > 1 + c0 then 1 + e0 else 1 + c0) + (if decide (V.int b0 = V.int 1) = true then 1 else 0) + g0 = M:=⟨_,rfl⟩
 have hM':1 + c0 + g0 ≤ M ∧ 1 + e0 + g0 ≤ M ∧ M ≤ 8:=by
  rw [← hM]
  split <;> split <;> lia
 rw [hM]
 have ok:(Hall.mk (1 + i0) (1 + c0) M (1 + o0) (1 + e0)).Ok:=⟨by show 1 ≤ 1 + i0 ∧ 1 + i0 ≤ 12; lia,by show 1 ≤ 1 + c0 ∧ 1 + c0 ≤ 12; lia,by show 1 ≤ M ∧ M ≤ 24; lia,by show 1 ≤ 1 + o0 ∧ 1 + o0 ≤ 12; lia,by show 1 ≤ 1 + e0 ∧ 1 + e0 ≤ 12; lia⟩
 have s1:=d9 hhp (.tup [.int (1 + i0),.int (1 + c0),.int M,.int (1 + o0),.int (1 + e0)])
 have ehp:=d6 (H:=H) (a:=hp) (o:=.tup [.int (1 + i0),.int (1 + c0),.int M,.int (1 + o0),.int (1 + e0)])
 generalize upd H hp (.tup [.int (1 + i0),.int (1 + c0),.int M,.int (1 + o0),.int (1 + e0)]) = H1 at s1 ehp ⊢
 refine ⟨(by show 0 ≤ sizeLine; decide),fun l hl=>?_⟩
 have v1:=d9 hl (.lst [])
 have el:=d6 (H:=H1) (a:=l) (o:=.lst [])
 generalize upd H1 l (.lst []) = G1 at v1 el ⊢
 have sG1:=s1.trans v1
 have hS1:=sG1.seq hS
 have ehp1:=v1 _ _ ehp
 refine ⟨_,rfl,a,_,rfl,.inl hS1,_,_,rfl,_,_,rfl,⟨by decide,by decide,?_,?_⟩,?_⟩
 ·show -(2 ^ 62) ≤ (if (70:Int) < (((ns.map V.int).length:Nat):Int) then 70 else (((ns.map V.int).length:Nat):Int))
  split <;> lia
 ·rw [List.length_map]
  show (if (70:Int) < ((ns.length:Nat):Int) then 70 else ((ns.length:Nat):Int)) < 2 ^ 62
  split <;> lia
 rw [List.length_map]
 have bnd:∀ i:Nat,i < ((if (70:Int) < ((ns.length:Nat):Int) then (70:Int) else ((ns.length:Nat):Int)) - 6).toNat → 6 + i < ns.length ∧ i < 58:=fun i hi=>by
  split at hi <;> lia
 refine O2 (lo:=6) (fun i σ G'=>i4 G1 G' ∧ ∃ (l:Addr) (as:List Addr) (ks:List Call) (v8 v9:Option V),G' l = some (.lst (as.map V.ref)) ∧ h9 G' as ks ∧ Right35 (Hall.mk (1 + i0) (1 + c0) M (1 + o0) (1 + e0)) ks ∧ ks.length ≤ i ∧ σ = [some (.ref a),some (.int (1 + c0)),some (.int (1 + e0)),some (.int g0),some (.int M),some (.int (1 + i0)),some (.ref hp),some (.ref l),v8,v9])
  ⟨i4.refl _,l,[],[],none,none,el,.nil,⟨(fun k hk=>nomatch hk),.nil,.nil,fun k hk=>nomatch hk⟩,Nat.le_refl _,rfl⟩ ?_ ?_
 ·rintro i σ G' hi ⟨b1,l',as,ks,v8,v9,b6,b7,b8,b9,rfl⟩
  obtain ⟨hi1,hi2⟩:=bnd i hi
  have at6:atI (ns.map V.int) (6 + (i:Int)) = some (.int (cell ns (6 + i))):=by
   have:=a61 hi1
   rwa [show (((6 + i:Nat)):Int) = 6 + (i:Int) by lia] at this
  refine ⟨_,rfl,_,rfl,a,_,_,_,rfl,rfl,b1.seq hS1,at6,_,rfl,_,rfl,_,_,rfl,rfl,.inl ⟨by decide,by decide⟩,_,_,rfl,rfl,_,_,rfl,rfl,.inr ⟨by lia,by lia⟩,_,rfl,_,rfl,_,_,rfl,rfl,.inl ⟨by lia,by lia⟩,_,_,rfl,rfl,?_⟩
  refine ⟨_,rfl,_,rfl,_,rfl,_,rfl,hp,l',Hall.mk (1 + i0) (1 + c0) M (1 + o0) (1 + e0),as,ks,g0,_,rfl,SqT.of (b1 _ _ ehp1),ok,g1,by lia,by show 1 + c0 + g0 ≤ M; lia,by show 1 + e0 + g0 ≤ M; lia,b6,b7,b8,by lia,fun r bs ks' G3 s3 er cs ri' kl=>?_⟩
  refine ⟨_,rfl,rfl,_,rfl,C1 ?_⟩
  exact ⟨b1.trans s3,r,bs,ks',_,_,er,cs,ri',by lia,rfl⟩
 ·rintro σ G' ⟨b1,l',as,ks,v8,v9,b6,b7,b8,b9,rfl⟩
  exact q G'
end
section
variable {l:PySem.W.OpenLaw} {w:World} {K:PySem.W.Frag} {h:Heap} {mg:Str → Option Value}
theorem o8 {x:Str} {st:Stmt} {ps:List Str} {f:Addr} {oc:Value} {od an:Option Addr} {sl:Array (Option Value)} {kV dc pm cd ct:Value} (X:K.In h) (G:h.Ns mainGlobals mg) (a:PySem.W.nsIn K mainGlobals x = some (some (.ref f)))
  (l:K.lookup f = some ⟨oc,od,.func (PySem.W.fnOf x x (j6 st) (i9 st) (d5 st) .none kV dc pm an cd ct),sl⟩) (c:PySem.W.codeIn K cd x = true) (k:PySem.W.keepIn K (.ref f) = true)
  (b:∀ us:List Value,us.length = ps.length → bindArgs (PySem.W.fnOf x x (j6 st) (i9 st) (d5 st) .none kV dc pm an cd ct) ⟨us,[]⟩ = pure (ps.zip us)):Def K mg x st ps :=
 ⟨f,_,a60 l c k,.all b,PySem.W.mg_of X G a⟩
theorem bi6 {fa f1 f2 f3 f4 f5 f6 f7 f8 f9 f10 f11 f12 f13 f14 f15 f16 f17 f18 f19 f20 f21 f22 f23 f24 f25 f26 f27 f28 f29 f30 f31 f32 f33 f34 f35 f36 f37 f38 f39 f40 f41 f42 f43 f44 f45 f46 f47 f48 f49 f50   :Addr} (X:K.In h) (G:h.Ns mainGlobals mg) (hfa:mg "law" = some (.ref fa))
  {od1 an1 od2 an2 od3 an3 od4 an4 od5 an5 od6 an6 od7 an7 od8 an8 od9 an9 od10 an10 od11 an11 od12 an12 od13 an13 od14 an14 od15 an15 od16 an16 od17 an17 od18 an18 od19 an19 od20 an20 od21 an21 od22 an22 od23 an23 od24 an24 od25 an25 od26 an26 od27 an27 od28 an28 od29 an29 od30 an30 od31 an31 od32 an32 od33 an33 od34 an34 od35 an35 od36 an36 od37 an37 od38 an38 od39 an39 od40 an40 od41 an41 od42 an42 od43 an43 od44 an44 od45 an45 od46 an46 od47 an47 od48 an48 od49 an49 od50 an50:Option Addr} {sl1 sl2 sl3 sl4 sl5 sl6 sl7 sl8 sl9 sl10 sl11 sl12 sl13 sl14 sl15 sl16 sl17 sl18 sl19 sl20 sl21 sl22 sl23 sl24 sl25 sl26 sl27 sl28 sl29 sl30 sl31 sl32 sl33 sl34 sl35 sl36 sl37 sl38 sl39 sl40 sl41 sl42 sl43 sl44 sl45 sl46 sl47 sl48 sl49 sl50:Array (Option Value)} {oc1 kV1 dc1 pm1 cd1 ct1 oc2 kV2 dc2 pm2 cd2 ct2 oc3 kV3 dc3 pm3 cd3 ct3 oc4 kV4 dc4 pm4 cd4 ct4 oc5 kV5 dc5 pm5 cd5 ct5 oc6 kV6 dc6 pm6 cd6 ct6 oc7 kV7 dc7 pm7 cd7 ct7 oc8 kV8 dc8 pm8 cd8 ct8 oc9 kV9 dc9 pm9 cd9 ct9 oc10 kV10 dc10 pm10 cd10 ct10 oc11 kV11 dc11 pm11 cd11 ct11 oc12 kV12 dc12 pm12 cd12 ct12 oc13 kV13 dc13 pm13 cd13 ct13 oc14 kV14 dc14 pm14 cd14 ct14 oc15 kV15 dc15 pm15 cd15 ct15 oc16 kV16 dc16 pm16 cd16 ct16 oc17 kV17 dc17 pm17 cd17 ct17 oc18 kV18 dc18 pm18 cd18 ct18 oc19 kV19 dc19 pm19 cd19 ct19 oc20 kV20 dc20 pm20 cd20 ct20 oc21 kV21 dc21 pm21 cd21 ct21 oc22 kV22 dc22 pm22 cd22 ct22 oc23 kV23 dc23 pm23 cd23 ct23 oc24 kV24 dc24 pm24 cd24 ct24 oc25 kV25 dc25 pm25 cd25 ct25 oc26 kV26 dc26 pm26 cd26 ct26 oc27 kV27 dc27 pm27 cd27 ct27 oc28 kV28 dc28 pm28 cd28 ct28 oc29 kV29 dc29 pm29 cd29 ct29 oc30 kV30 dc30 pm30 cd30 ct30 oc31 kV31 dc31 pm31 cd31 ct31 oc32 kV32 dc32 pm32 cd32 ct32 oc33 kV33 dc33 pm33 cd33 ct33 oc34 kV34 dc34 pm34 cd34 ct34 oc35 kV35 dc35 pm35 cd35 ct35 oc36 kV36 dc36 pm36 cd36 ct36 oc37 kV37 dc37 pm37 cd37 ct37 oc38 kV38 dc38 pm38 cd38 ct38 oc39 kV39 dc39 pm39 cd39 ct39 oc40 kV40 dc40 pm40 cd40 ct40 oc41 kV41 dc41 pm41 cd41 ct41 oc42 kV42 dc42 pm42 cd42 ct42 oc43 kV43 dc43 pm43 cd43 ct43 oc44 kV44 dc44 pm44 cd44 ct44 oc45 kV45 dc45 pm45 cd45 ct45 oc46 kV46 dc46 pm46 cd46 ct46 oc47 kV47 dc47 pm47 cd47 ct47 oc48 kV48 dc48 pm48 cd48 ct48 oc49 kV49 dc49 pm49 cd49 ct49 oc50 kV50 dc50 pm50 cd50 ct50:Value}
  {dv18:Addr} {odv18:Option Addr} {slv18:Array (Option Value)} {nv18:Nat} {td18_0:Tok}
  {dv19:Addr} {odv19:Option Addr} {slv19:Array (Option Value)} {nv19:Nat} {td19_0:Tok}
  {dv38:Addr} {odv38:Option Addr} {slv38:Array (Option Value)} {nv38:Nat} {td38_0:Tok}
  {dv39:Addr} {odv39:Option Addr} {slv39:Array (Option Value)} {nv39:Nat} {td39_0:Tok}
  (a1:PySem.W.nsIn K mainGlobals "is_number" = some (some (.ref f1))) (l1:K.lookup f1 = some ⟨oc1,od1,.func (PySem.W.fnOf "is_number" "is_number" (j6 (top 7)) (i9 (top 7)) (d5 (top 7)) .none kV1 dc1 pm1 an1 cd1 ct1),sl1⟩) (c1:PySem.W.codeIn K cd1 "is_number" = true) (k1:PySem.W.keepIn K (.ref f1) = true)
  (a2:PySem.W.nsIn K mainGlobals "is_whole" = some (some (.ref f2))) (l2:K.lookup f2 = some ⟨oc2,od2,.func (PySem.W.fnOf "is_whole" "is_whole" (j6 (top 8)) (i9 (top 8)) (d5 (top 8)) .none kV2 dc2 pm2 an2 cd2 ct2),sl2⟩) (c2:PySem.W.codeIn K cd2 "is_whole" = true) (k2:PySem.W.keepIn K (.ref f2) = true)
  (a3:PySem.W.nsIn K mainGlobals "rises" = some (some (.ref f3))) (l3:K.lookup f3 = some ⟨oc3,od3,.func (PySem.W.fnOf "rises" "rises" (j6 (top 9)) (i9 (top 9)) (d5 (top 9)) .none kV3 dc3 pm3 an3 cd3 ct3),sl3⟩) (c3:PySem.W.codeIn K cd3 "rises" = true) (k3:PySem.W.keepIn K (.ref f3) = true)
  (a4:PySem.W.nsIn K mainGlobals "place_in" = some (some (.ref f4))) (l4:K.lookup f4 = some ⟨oc4,od4,.func (PySem.W.fnOf "place_in" "place_in" (j6 (top 10)) (i9 (top 10)) (d5 (top 10)) .none kV4 dc4 pm4 an4 cd4 ct4),sl4⟩) (c4:PySem.W.codeIn K cd4 "place_in" = true) (k4:PySem.W.keepIn K (.ref f4) = true)
  (a5:PySem.W.nsIn K mainGlobals "place_out" = some (some (.ref f5))) (l5:K.lookup f5 = some ⟨oc5,od5,.func (PySem.W.fnOf "place_out" "place_out" (j6 (top 11)) (i9 (top 11)) (d5 (top 11)) .none kV5 dc5 pm5 an5 cd5 ct5),sl5⟩) (c5:PySem.W.codeIn K cd5 "place_out" = true) (k5:PySem.W.keepIn K (.ref f5) = true)
  (a6:PySem.W.nsIn K mainGlobals "are_ends" = some (some (.ref f6))) (l6:K.lookup f6 = some ⟨oc6,od6,.func (PySem.W.fnOf "are_ends" "are_ends" (j6 (top 12)) (i9 (top 12)) (d5 (top 12)) .none kV6 dc6 pm6 an6 cd6 ct6),sl6⟩) (c6:PySem.W.codeIn K cd6 "are_ends" = true) (k6:PySem.W.keepIn K (.ref f6) = true)
  (a7:PySem.W.nsIn K mainGlobals "racks_of" = some (some (.ref f7))) (l7:K.lookup f7 = some ⟨oc7,od7,.func (PySem.W.fnOf "racks_of" "racks_of" (j6 (top 13)) (i9 (top 13)) (d5 (top 13)) .none kV7 dc7 pm7 an7 cd7 ct7),sl7⟩) (c7:PySem.W.codeIn K cd7 "racks_of" = true) (k7:PySem.W.keepIn K (.ref f7) = true)
  (a8:PySem.W.nsIn K mainGlobals "left_open" = some (some (.ref f8))) (l8:K.lookup f8 = some ⟨oc8,od8,.func (PySem.W.fnOf "left_open" "left_open" (j6 (top 15)) (i9 (top 15)) (d5 (top 15)) .none kV8 dc8 pm8 an8 cd8 ct8),sl8⟩) (c8:PySem.W.codeIn K cd8 "left_open" = true) (k8:PySem.W.keepIn K (.ref f8) = true)
  (a9:PySem.W.nsIn K mainGlobals "in_bits" = some (some (.ref f9))) (l9:K.lookup f9 = some ⟨oc9,od9,.func (PySem.W.fnOf "in_bits" "in_bits" (j6 (top 16)) (i9 (top 16)) (d5 (top 16)) .none kV9 dc9 pm9 an9 cd9 ct9),sl9⟩) (c9:PySem.W.codeIn K cd9 "in_bits" = true) (k9:PySem.W.keepIn K (.ref f9) = true)
  (a10:PySem.W.nsIn K mainGlobals "out_bits" = some (some (.ref f10))) (l10:K.lookup f10 = some ⟨oc10,od10,.func (PySem.W.fnOf "out_bits" "out_bits" (j6 (top 17)) (i9 (top 17)) (d5 (top 17)) .none kV10 dc10 pm10 an10 cd10 ct10),sl10⟩) (c10:PySem.W.codeIn K cd10 "out_bits" = true) (k10:PySem.W.keepIn K (.ref f10) = true)
  (a11:PySem.W.nsIn K mainGlobals "held_lines" = some (some (.ref f11))) (l11:K.lookup f11 = some ⟨oc11,od11,.func (PySem.W.fnOf "held_lines" "held_lines" (j6 (top 18)) (i9 (top 18)) (d5 (top 18)) .none kV11 dc11 pm11 an11 cd11 ct11),sl11⟩) (c11:PySem.W.codeIn K cd11 "held_lines" = true) (k11:PySem.W.keepIn K (.ref f11) = true)
  (a12:PySem.W.nsIn K mainGlobals "are_unlike" = some (some (.ref f12))) (l12:K.lookup f12 = some ⟨oc12,od12,.func (PySem.W.fnOf "are_unlike" "are_unlike" (j6 (top 19)) (i9 (top 19)) (d5 (top 19)) .none kV12 dc12 pm12 an12 cd12 ct12),sl12⟩) (c12:PySem.W.codeIn K cd12 "are_unlike" = true) (k12:PySem.W.keepIn K (.ref f12) = true)
  (a13:PySem.W.nsIn K mainGlobals "is_right" = some (some (.ref f13))) (l13:K.lookup f13 = some ⟨oc13,od13,.func (PySem.W.fnOf "is_right" "is_right" (j6 (top 20)) (i9 (top 20)) (d5 (top 20)) .none kV13 dc13 pm13 an13 cd13 ct13),sl13⟩) (c13:PySem.W.codeIn K cd13 "is_right" = true) (k13:PySem.W.keepIn K (.ref f13) = true)
  (a14:PySem.W.nsIn K mainGlobals "is_caller" = some (some (.ref f14))) (l14:K.lookup f14 = some ⟨oc14,od14,.func (PySem.W.fnOf "is_caller" "is_caller" (j6 (top 22)) (i9 (top 22)) (d5 (top 22)) .none kV14 dc14 pm14 an14 cd14 ct14),sl14⟩) (c14:PySem.W.codeIn K cd14 "is_caller" = true) (k14:PySem.W.keepIn K (.ref f14) = true)
  (a15:PySem.W.nsIn K mainGlobals "is_ends" = some (some (.ref f15))) (l15:K.lookup f15 = some ⟨oc15,od15,.func (PySem.W.fnOf "is_ends" "is_ends" (j6 (top 23)) (i9 (top 23)) (d5 (top 23)) .none kV15 dc15 pm15 an15 cd15 ct15),sl15⟩) (c15:PySem.W.codeIn K cd15 "is_ends" = true) (k15:PySem.W.keepIn K (.ref f15) = true)
  (a16:PySem.W.nsIn K mainGlobals "holds_needed" = some (some (.ref f16))) (l16:K.lookup f16 = some ⟨oc16,od16,.func (PySem.W.fnOf "holds_needed" "holds_needed" (j6 (top 24)) (i9 (top 24)) (d5 (top 24)) .none kV16 dc16 pm16 an16 cd16 ct16),sl16⟩) (c16:PySem.W.codeIn K cd16 "holds_needed" = true) (k16:PySem.W.keepIn K (.ref f16) = true)
  (a17:PySem.W.nsIn K mainGlobals "holders" = some (some (.ref f17))) (l17:K.lookup f17 = some ⟨oc17,od17,.func (PySem.W.fnOf "holders" "holders" (j6 (top 25)) (i9 (top 25)) (d5 (top 25)) .none kV17 dc17 pm17 an17 cd17 ct17),sl17⟩) (c17:PySem.W.codeIn K cd17 "holders" = true) (k17:PySem.W.keepIn K (.ref f17) = true)
  (dl18:K.lookup dv18 = some ⟨.type "tuple",odv18,.seq #[.int 0 td18_0] nv18,slv18⟩)
  (a18:PySem.W.nsIn K mainGlobals "ways" = some (some (.ref f18))) (l18:K.lookup f18 = some ⟨oc18,od18,.func (PySem.W.fnOf "ways" "ways" (j6 (top 26)) (i9 (top 26)) (d5 (top 26)) (.ref dv18) kV18 dc18 pm18 an18 cd18 ct18),sl18⟩) (c18:PySem.W.codeIn K cd18 "ways" = true) (k18:PySem.W.keepIn K (.ref f18) = true)
  (dl19:K.lookup dv19 = some ⟨.type "tuple",odv19,.seq #[.int 0 td19_0] nv19,slv19⟩)
  (a19:PySem.W.nsIn K mainGlobals "least_ended" = some (some (.ref f19))) (l19:K.lookup f19 = some ⟨oc19,od19,.func (PySem.W.fnOf "least_ended" "least_ended" (j6 (top 27)) (i9 (top 27)) (d5 (top 27)) (.ref dv19) kV19 dc19 pm19 an19 cd19 ct19),sl19⟩) (c19:PySem.W.codeIn K cd19 "least_ended" = true) (k19:PySem.W.keepIn K (.ref f19) = true)
  (a20:PySem.W.nsIn K mainGlobals "call_of" = some (some (.ref f20))) (l20:K.lookup f20 = some ⟨oc20,od20,.func (PySem.W.fnOf "call_of" "call_of" (j6 (top 29)) (i9 (top 29)) (d5 (top 29)) .none kV20 dc20 pm20 an20 cd20 ct20),sl20⟩) (c20:PySem.W.codeIn K cd20 "call_of" = true) (k20:PySem.W.keepIn K (.ref f20) = true)
  (a21:PySem.W.nsIn K mainGlobals "holder_of" = some (some (.ref f21))) (l21:K.lookup f21 = some ⟨oc21,od21,.func (PySem.W.fnOf "holder_of" "holder_of" (j6 (top 30)) (i9 (top 30)) (d5 (top 30)) .none kV21 dc21 pm21 an21 cd21 ct21),sl21⟩) (c21:PySem.W.codeIn K cd21 "holder_of" = true) (k21:PySem.W.keepIn K (.ref f21) = true)
  (a22:PySem.W.nsIn K mainGlobals "refuse_wrong" = some (some (.ref f22))) (l22:K.lookup f22 = some ⟨oc22,od22,.func (PySem.W.fnOf "refuse_wrong" "refuse_wrong" (j6 (top 31)) (i9 (top 31)) (d5 (top 31)) .none kV22 dc22 pm22 an22 cd22 ct22),sl22⟩) (c22:PySem.W.codeIn K cd22 "refuse_wrong" = true) (k22:PySem.W.keepIn K (.ref f22) = true)
  (a23:PySem.W.nsIn K mainGlobals "refuse_busy" = some (some (.ref f23))) (l23:K.lookup f23 = some ⟨oc23,od23,.func (PySem.W.fnOf "refuse_busy" "refuse_busy" (j6 (top 32)) (i9 (top 32)) (d5 (top 32)) .none kV23 dc23 pm23 an23 cd23 ct23),sl23⟩) (c23:PySem.W.codeIn K cd23 "refuse_busy" = true) (k23:PySem.W.keepIn K (.ref f23) = true)
  (a24:PySem.W.nsIn K mainGlobals "refuse_engaged" = some (some (.ref f24))) (l24:K.lookup f24 = some ⟨oc24,od24,.func (PySem.W.fnOf "refuse_engaged" "refuse_engaged" (j6 (top 33)) (i9 (top 33)) (d5 (top 33)) .none kV24 dc24 pm24 an24 cd24 ct24),sl24⟩) (c24:PySem.W.codeIn K cd24 "refuse_engaged" = true) (k24:PySem.W.keepIn K (.ref f24) = true)
  (a25:PySem.W.nsIn K mainGlobals "with_call" = some (some (.ref f25))) (l25:K.lookup f25 = some ⟨oc25,od25,.func (PySem.W.fnOf "with_call" "with_call" (j6 (top 34)) (i9 (top 34)) (d5 (top 34)) .none kV25 dc25 pm25 an25 cd25 ct25),sl25⟩) (c25:PySem.W.codeIn K cd25 "with_call" = true) (k25:PySem.W.keepIn K (.ref f25) = true)
  (a26:PySem.W.nsIn K mainGlobals "call_racks" = some (some (.ref f26))) (l26:K.lookup f26 = some ⟨oc26,od26,.func (PySem.W.fnOf "call_racks" "call_racks" (j6 (top 36)) (i9 (top 36)) (d5 (top 36)) .none kV26 dc26 pm26 an26 cd26 ct26),sl26⟩) (c26:PySem.W.codeIn K cd26 "call_racks" = true) (k26:PySem.W.keepIn K (.ref f26) = true)
  (a27:PySem.W.nsIn K mainGlobals "calls_by_in" = some (some (.ref f27))) (l27:K.lookup f27 = some ⟨oc27,od27,.func (PySem.W.fnOf "calls_by_in" "calls_by_in" (j6 (top 37)) (i9 (top 37)) (d5 (top 37)) .none kV27 dc27 pm27 an27 cd27 ct27),sl27⟩) (c27:PySem.W.codeIn K cd27 "calls_by_in" = true) (k27:PySem.W.keepIn K (.ref f27) = true)
  (a28:PySem.W.nsIn K mainGlobals "calls_by_out" = some (some (.ref f28))) (l28:K.lookup f28 = some ⟨oc28,od28,.func (PySem.W.fnOf "calls_by_out" "calls_by_out" (j6 (top 38)) (i9 (top 38)) (d5 (top 38)) .none kV28 dc28 pm28 an28 cd28 ct28),sl28⟩) (c28:PySem.W.codeIn K cd28 "calls_by_out" = true) (k28:PySem.W.keepIn K (.ref f28) = true)
  (a29:PySem.W.nsIn K mainGlobals "chain_from" = some (some (.ref f29))) (l29:K.lookup f29 = some ⟨oc29,od29,.func (PySem.W.fnOf "chain_from" "chain_from" (j6 (top 39)) (i9 (top 39)) (d5 (top 39)) .none kV29 dc29 pm29 an29 cd29 ct29),sl29⟩) (c29:PySem.W.codeIn K cd29 "chain_from" = true) (k29:PySem.W.keepIn K (.ref f29) = true)
  (a30:PySem.W.nsIn K mainGlobals "chain_out" = some (some (.ref f30))) (l30:K.lookup f30 = some ⟨oc30,od30,.func (PySem.W.fnOf "chain_out" "chain_out" (j6 (top 40)) (i9 (top 40)) (d5 (top 40)) .none kV30 dc30 pm30 an30 cd30 ct30),sl30⟩) (c30:PySem.W.codeIn K cd30 "chain_out" = true) (k30:PySem.W.keepIn K (.ref f30) = true)
  (a31:PySem.W.nsIn K mainGlobals "chain_in" = some (some (.ref f31))) (l31:K.lookup f31 = some ⟨oc31,od31,.func (PySem.W.fnOf "chain_in" "chain_in" (j6 (top 41)) (i9 (top 41)) (d5 (top 41)) .none kV31 dc31 pm31 an31 cd31 ct31),sl31⟩) (c31:PySem.W.codeIn K cd31 "chain_in" = true) (k31:PySem.W.keepIn K (.ref f31) = true)
  (a32:PySem.W.nsIn K mainGlobals "moves_of" = some (some (.ref f32))) (l32:K.lookup f32 = some ⟨oc32,od32,.func (PySem.W.fnOf "moves_of" "moves_of" (j6 (top 42)) (i9 (top 42)) (d5 (top 42)) .none kV32 dc32 pm32 an32 cd32 ct32),sl32⟩) (c32:PySem.W.codeIn K cd32 "moves_of" = true) (k32:PySem.W.keepIn K (.ref f32) = true)
  (a33:PySem.W.nsIn K mainGlobals "refuse_move" = some (some (.ref f33))) (l33:K.lookup f33 = some ⟨oc33,od33,.func (PySem.W.fnOf "refuse_move" "refuse_move" (j6 (top 43)) (i9 (top 43)) (d5 (top 43)) .none kV33 dc33 pm33 an33 cd33 ct33),sl33⟩) (c33:PySem.W.codeIn K cd33 "refuse_move" = true) (k33:PySem.W.keepIn K (.ref f33) = true)
  (a34:PySem.W.nsIn K mainGlobals "moved" = some (some (.ref f34))) (l34:K.lookup f34 = some ⟨oc34,od34,.func (PySem.W.fnOf "moved" "moved" (j6 (top 44)) (i9 (top 44)) (d5 (top 44)) .none kV34 dc34 pm34 an34 cd34 ct34),sl34⟩) (c34:PySem.W.codeIn K cd34 "moved" = true) (k34:PySem.W.keepIn K (.ref f34) = true)
  (a35:PySem.W.nsIn K mainGlobals "idle_racks" = some (some (.ref f35))) (l35:K.lookup f35 = some ⟨oc35,od35,.func (PySem.W.fnOf "idle_racks" "idle_racks" (j6 (top 46)) (i9 (top 46)) (d5 (top 46)) .none kV35 dc35 pm35 an35 cd35 ct35),sl35⟩) (c35:PySem.W.codeIn K cd35 "idle_racks" = true) (k35:PySem.W.keepIn K (.ref f35) = true)
  (a36:PySem.W.nsIn K mainGlobals "chain_chosen" = some (some (.ref f36))) (l36:K.lookup f36 = some ⟨oc36,od36,.func (PySem.W.fnOf "chain_chosen" "chain_chosen" (j6 (top 47)) (i9 (top 47)) (d5 (top 47)) .none kV36 dc36 pm36 an36 cd36 ct36),sl36⟩) (c36:PySem.W.codeIn K cd36 "chain_chosen" = true) (k36:PySem.W.keepIn K (.ref f36) = true)
  (a37:PySem.W.nsIn K mainGlobals "room_by_chain" = some (some (.ref f37))) (l37:K.lookup f37 = some ⟨oc37,od37,.func (PySem.W.fnOf "room_by_chain" "room_by_chain" (j6 (top 48)) (i9 (top 48)) (d5 (top 48)) .none kV37 dc37 pm37 an37 cd37 ct37),sl37⟩) (c37:PySem.W.codeIn K cd37 "room_by_chain" = true) (k37:PySem.W.keepIn K (.ref f37) = true)
  (dl38:K.lookup dv38 = some ⟨.type "tuple",odv38,.seq #[.int 0 td38_0] nv38,slv38⟩)
  (a38:PySem.W.nsIn K mainGlobals "room" = some (some (.ref f38))) (l38:K.lookup f38 = some ⟨oc38,od38,.func (PySem.W.fnOf "room" "room" (j6 (top 49)) (i9 (top 49)) (d5 (top 49)) (.ref dv38) kV38 dc38 pm38 an38 cd38 ct38),sl38⟩) (c38:PySem.W.codeIn K cd38 "room" = true) (k38:PySem.W.keepIn K (.ref f38) = true)
  (dl39:K.lookup dv39 = some ⟨.type "tuple",odv39,.seq #[.int 0 td39_0] nv39,slv39⟩)
  (a39:PySem.W.nsIn K mainGlobals "joined_turning" = some (some (.ref f39))) (l39:K.lookup f39 = some ⟨oc39,od39,.func (PySem.W.fnOf "joined_turning" "joined_turning" (j6 (top 50)) (i9 (top 50)) (d5 (top 50)) (.ref dv39) kV39 dc39 pm39 an39 cd39 ct39),sl39⟩) (c39:PySem.W.codeIn K cd39 "joined_turning" = true) (k39:PySem.W.keepIn K (.ref f39) = true)
  (a40:PySem.W.nsIn K mainGlobals "_law_cell_at" = some (some (.ref f40))) (l40:K.lookup f40 = some ⟨oc40,od40,.func (PySem.W.fnOf "_law_cell_at" "_law_cell_at" (j6 (top 52)) (i9 (top 52)) (d5 (top 52)) .none kV40 dc40 pm40 an40 cd40 ct40),sl40⟩) (c40:PySem.W.codeIn K cd40 "_law_cell_at" = true) (k40:PySem.W.keepIn K (.ref f40) = true)
  (a41:PySem.W.nsIn K mainGlobals "_law_alike" = some (some (.ref f41))) (l41:K.lookup f41 = some ⟨oc41,od41,.func (PySem.W.fnOf "_law_alike" "_law_alike" (j6 (top 53)) (i9 (top 53)) (d5 (top 53)) .none kV41 dc41 pm41 an41 cd41 ct41),sl41⟩) (c41:PySem.W.codeIn K cd41 "_law_alike" = true) (k41:PySem.W.keepIn K (.ref f41) = true)
  (a42:PySem.W.nsIn K mainGlobals "_law_lines" = some (some (.ref f42))) (l42:K.lookup f42 = some ⟨oc42,od42,.func (PySem.W.fnOf "_law_lines" "_law_lines" (j6 (top 54)) (i9 (top 54)) (d5 (top 54)) .none kV42 dc42 pm42 an42 cd42 ct42),sl42⟩) (c42:PySem.W.codeIn K cd42 "_law_lines" = true) (k42:PySem.W.keepIn K (.ref f42) = true)
  (a43:PySem.W.nsIn K mainGlobals "_law_right" = some (some (.ref f43))) (l43:K.lookup f43 = some ⟨oc43,od43,.func (PySem.W.fnOf "_law_right" "_law_right" (j6 (top 55)) (i9 (top 55)) (d5 (top 55)) .none kV43 dc43 pm43 an43 cd43 ct43),sl43⟩) (c43:PySem.W.codeIn K cd43 "_law_right" = true) (k43:PySem.W.keepIn K (.ref f43) = true)
  (a44:PySem.W.nsIn K mainGlobals "_law_size" = some (some (.ref f44))) (l44:K.lookup f44 = some ⟨oc44,od44,.func (PySem.W.fnOf "_law_size" "_law_size" (j6 (top 56)) (i9 (top 56)) (d5 (top 56)) .none kV44 dc44 pm44 an44 cd44 ct44),sl44⟩) (c44:PySem.W.codeIn K cd44 "_law_size" = true) (k44:PySem.W.keepIn K (.ref f44) = true)
  (a45:PySem.W.nsIn K mainGlobals "_law_shut" = some (some (.ref f45))) (l45:K.lookup f45 = some ⟨oc45,od45,.func (PySem.W.fnOf "_law_shut" "_law_shut" (j6 (top 57)) (i9 (top 57)) (d5 (top 57)) .none kV45 dc45 pm45 an45 cd45 ct45),sl45⟩) (c45:PySem.W.codeIn K cd45 "_law_shut" = true) (k45:PySem.W.keepIn K (.ref f45) = true)
  (a46:PySem.W.nsIn K mainGlobals "_law_is_move" = some (some (.ref f46))) (l46:K.lookup f46 = some ⟨oc46,od46,.func (PySem.W.fnOf "_law_is_move" "_law_is_move" (j6 (top 58)) (i9 (top 58)) (d5 (top 58)) .none kV46 dc46 pm46 an46 cd46 ct46),sl46⟩) (c46:PySem.W.codeIn K cd46 "_law_is_move" = true) (k46:PySem.W.keepIn K (.ref f46) = true)
  (a47:PySem.W.nsIn K mainGlobals "_law_behind" = some (some (.ref f47))) (l47:K.lookup f47 = some ⟨oc47,od47,.func (PySem.W.fnOf "_law_behind" "_law_behind" (j6 (top 59)) (i9 (top 59)) (d5 (top 59)) .none kV47 dc47 pm47 an47 cd47 ct47),sl47⟩) (c47:PySem.W.codeIn K cd47 "_law_behind" = true) (k47:PySem.W.keepIn K (.ref f47) = true)
  (a48:PySem.W.nsIn K mainGlobals "_law_joined" = some (some (.ref f48))) (l48:K.lookup f48 = some ⟨oc48,od48,.func (PySem.W.fnOf "_law_joined" "_law_joined" (j6 (top 60)) (i9 (top 60)) (d5 (top 60)) .none kV48 dc48 pm48 an48 cd48 ct48),sl48⟩) (c48:PySem.W.codeIn K cd48 "_law_joined" = true) (k48:PySem.W.keepIn K (.ref f48) = true)
  (a49:PySem.W.nsIn K mainGlobals "_law_deed" = some (some (.ref f49))) (l49:K.lookup f49 = some ⟨oc49,od49,.func (PySem.W.fnOf "_law_deed" "_law_deed" (j6 (top 61)) (i9 (top 61)) (d5 (top 61)) .none kV49 dc49 pm49 an49 cd49 ct49),sl49⟩) (c49:PySem.W.codeIn K cd49 "_law_deed" = true) (k49:PySem.W.keepIn K (.ref f49) = true)
  (a50:PySem.W.nsIn K mainGlobals "law" = some (some (.ref f50))) (l50:K.lookup f50 = some ⟨oc50,od50,.func (PySem.W.fnOf "law" "law" (j6 (top 62)) (i9 (top 62)) (d5 (top 62)) .none kV50 dc50 pm50 an50 cd50 ct50),sl50⟩) (c50:PySem.W.codeIn K cd50 "law" = true) (k50:PySem.W.keepIn K (.ref f50) = true)
  (z_len:PySem.W.nsIn K mainGlobals "len" = some none) (z_isinstance:PySem.W.nsIn K mainGlobals "isinstance" = some none) (z_int:PySem.W.nsIn K mainGlobals "int" = some none) (z_bool:PySem.W.nsIn K mainGlobals "bool" = some none) (z_tuple:PySem.W.nsIn K mainGlobals "tuple" = some none) (z_list:PySem.W.nsIn K mainGlobals "list" = some none) (z_set:PySem.W.nsIn K mainGlobals "set" = some none) (z_sorted:PySem.W.nsIn K mainGlobals "sorted" = some none) (z_divmod:PySem.W.nsIn K mainGlobals "divmod" = some none) (z_range:PySem.W.nsIn K mainGlobals "range" = some none) (z_abs:PySem.W.nsIn K mainGlobals "abs" = some none) (z_min:PySem.W.nsIn K mainGlobals "min" = some none) (z_max:PySem.W.nsIn K mainGlobals "max" = some none) (z_any:PySem.W.nsIn K mainGlobals "any" = some none) (z_all:PySem.W.nsIn K mainGlobals "all" = some none) (z_zip:PySem.W.nsIn K mainGlobals "zip" = some none) (z_dict:PySem.W.nsIn K mainGlobals "dict" = some none) :
  ∃ fd:FuncData,(∀ (s:Shared) (v:Value),BindsTo s fd ⟨[v],[]⟩ [("_law_script",v)]) ∧ ∀ base:Heap,K.In base → base.Ns mainGlobals mg → FnOk l.prog w K mg base CX0 13 fa fd ["_law_script"] (aP7 K):=by
 have e:=hfa.symm.trans (PySem.W.mg_of X G a50)
 cases e
 have T:Txt K mg:=⟨PySem.W.mg_none_of X G z_len,PySem.W.mg_none_of X G z_isinstance,PySem.W.mg_none_of X G z_int,PySem.W.mg_none_of X G z_bool,PySem.W.mg_none_of X G z_tuple,PySem.W.mg_none_of X G z_list,PySem.W.mg_none_of X G z_set,PySem.W.mg_none_of X G z_sorted,PySem.W.mg_none_of X G z_divmod,PySem.W.mg_none_of X G z_range,PySem.W.mg_none_of X G z_abs,PySem.W.mg_none_of X G z_min,PySem.W.mg_none_of X G z_max,PySem.W.mg_none_of X G z_any,PySem.W.mg_none_of X G z_all,PySem.W.mg_none_of X G z_zip,PySem.W.mg_none_of X G z_dict⟩
 have D_is_number:Def K mg "is_number" (top 7) ["thing"]:=o8 X G a1 l1 c1 k1 fun us hl=>match us,hl with | [_],_=>rfl
 have D_is_whole:Def K mg "is_whole" (top 8) ["thing","least","most"]:=o8 X G a2 l2 c2 k2 fun us hl=>match us,hl with | [_,_,_],_=>rfl
 have D_rises:Def K mg "rises" (top 9) ["numbers"]:=o8 X G a3 l3 c3 k3 fun us hl=>match us,hl with | [_],_=>rfl
 have D_place_in:Def K mg "place_in" (top 10) ["hall","caller"]:=o8 X G a4 l4 c4 k4 fun us hl=>match us,hl with | [_,_],_=>rfl
 have D_place_out:Def K mg "place_out" (top 11) ["hall","end"]:=o8 X G a5 l5 c5 k5 fun us hl=>match us,hl with | [_,_],_=>rfl
 have D_are_ends:Def K mg "are_ends" (top 12) ["hall","things"]:=o8 X G a6 l6 c6 k6 fun us hl=>match us,hl with | [_,_],_=>rfl
 have D_racks_of:Def K mg "racks_of" (top 13) ["hall","ends"]:=o8 X G a7 l7 c7 k7 fun us hl=>match us,hl with | [_,_],_=>rfl
 have D_left_open:Def K mg "left_open" (top 15) ["hall","shut"]:=o8 X G a8 l8 c8 k8 fun us hl=>match us,hl with | [_,_],_=>rfl
 have D_in_bits:Def K mg "in_bits" (top 16) ["hall","calls"]:=o8 X G a9 l9 c9 k9 fun us hl=>match us,hl with | [_,_],_=>rfl
 have D_out_bits:Def K mg "out_bits" (top 17) ["hall","calls"]:=o8 X G a10 l10 c10 k10 fun us hl=>match us,hl with | [_,_],_=>rfl
 have D_held_lines:Def K mg "held_lines" (top 18) ["hall","call"]:=o8 X G a11 l11 c11 k11 fun us hl=>match us,hl with | [_,_],_=>rfl
 have D_are_unlike:Def K mg "are_unlike" (top 19) ["some"]:=o8 X G a12 l12 c12 k12 fun us hl=>match us,hl with | [_],_=>rfl
 have D_is_right:Def K mg "is_right" (top 20) ["hall","calls"]:=o8 X G a13 l13 c13 k13 fun us hl=>match us,hl with | [_,_],_=>rfl
 have D_is_caller:Def K mg "is_caller" (top 22) ["hall","thing"]:=o8 X G a14 l14 c14 k14 fun us hl=>match us,hl with | [_,_],_=>rfl
 have D_is_ends:Def K mg "is_ends" (top 23) ["hall","thing"]:=o8 X G a15 l15 c15 k15 fun us hl=>match us,hl with | [_,_],_=>rfl
 have D_holds_needed:Def K mg "holds_needed" (top 24) ["hall","call","start","goals"]:=o8 X G a16 l16 c16 k16 fun us hl=>match us,hl with | [_,_,_,_],_=>rfl
 have D_holders:Def K mg "holders" (top 25) ["hall","calls","caller","ends"]:=o8 X G a17 l17 c17 k17 fun us hl=>match us,hl with | [_,_,_,_],_=>rfl
 have D_ways:DefD K mg "ways" (top 26) ["hall","calls","caller","ends","shut"] [.int 0]:=⟨f18,_,⟨_,_,_,_,_,_,_,_,_,_,rfl,l18,c18⟩,k18,fun m hm=>match m,hm with | 0,_=>⟨[.int 0 td18_0],(.cons ⟨_,rfl⟩ .nil),fun s us X hl=>match us,(show us.length = 4 from by simpa using hl) with | [_,_,_,_],_=>BindsTo.of_defaults rfl (X _ _ dl18) rfl rfl rfl⟩ | 1,_=>⟨[],.nil,fun s us X hl=>match us,(show us.length = 5 from by simpa using hl) with | [_,_,_,_,_],_=>BindsTo.of_defaults rfl (X _ _ dl18) rfl rfl rfl⟩ | _ + 2,h=>absurd h (by simp),PySem.W.mg_of X G a18⟩
 have D_least_ended:DefD K mg "least_ended" (top 27) ["hall","calls","caller","ends","shut"] [.int 0]:=⟨f19,_,⟨_,_,_,_,_,_,_,_,_,_,rfl,l19,c19⟩,k19,fun m hm=>match m,hm with | 0,_=>⟨[.int 0 td19_0],(.cons ⟨_,rfl⟩ .nil),fun s us X hl=>match us,(show us.length = 4 from by simpa using hl) with | [_,_,_,_],_=>BindsTo.of_defaults rfl (X _ _ dl19) rfl rfl rfl⟩ | 1,_=>⟨[],.nil,fun s us X hl=>match us,(show us.length = 5 from by simpa using hl) with | [_,_,_,_,_],_=>BindsTo.of_defaults rfl (X _ _ dl19) rfl rfl rfl⟩ | _ + 2,h=>absurd h (by simp),PySem.W.mg_of X G a19⟩
 have D_call_of:Def K mg "call_of" (top 29) ["calls","caller"]:=o8 X G a20 l20 c20 k20 fun us hl=>match us,hl with | [_,_],_=>rfl
 have D_holder_of:Def K mg "holder_of" (top 30) ["calls","end"]:=o8 X G a21 l21 c21 k21 fun us hl=>match us,hl with | [_,_],_=>rfl
 have D_refuse_wrong:Def K mg "refuse_wrong" (top 31) ["hall","caller","ends"]:=o8 X G a22 l22 c22 k22 fun us hl=>match us,hl with | [_,_,_],_=>rfl
 have D_refuse_busy:Def K mg "refuse_busy" (top 32) ["calls","caller","ends"]:=o8 X G a23 l23 c23 k23 fun us hl=>match us,hl with | [_,_,_],_=>rfl
 have D_refuse_engaged:Def K mg "refuse_engaged" (top 33) ["hall","calls","caller","ends","shut"]:=o8 X G a24 l24 c24 k24 fun us hl=>match us,hl with | [_,_,_,_,_],_=>rfl
 have D_with_call:Def K mg "with_call" (top 34) ["calls","caller","ends","k"]:=o8 X G a25 l25 c25 k25 fun us hl=>match us,hl with | [_,_,_,_],_=>rfl
 have D_call_racks:Def K mg "call_racks" (top 36) ["hall","call"]:=o8 X G a26 l26 c26 k26 fun us hl=>match us,hl with | [_,_],_=>rfl
 have D_calls_by_in:Def K mg "calls_by_in" (top 37) ["hall","calls","k"]:=o8 X G a27 l27 c27 k27 fun us hl=>match us,hl with | [_,_,_],_=>rfl
 have D_calls_by_out:Def K mg "calls_by_out" (top 38) ["hall","calls","k"]:=o8 X G a28 l28 c28 k28 fun us hl=>match us,hl with | [_,_,_],_=>rfl
 have D_chain_from:Def K mg "chain_from" (top 39) ["hall","calls","side","rack","a","b"]:=o8 X G a29 l29 c29 k29 fun us hl=>match us,hl with | [_,_,_,_,_,_],_=>rfl
 have D_chain_out:Def K mg "chain_out" (top 40) ["hall","calls","rack","a","b"]:=o8 X G a30 l30 c30 k30 fun us hl=>match us,hl with | [_,_,_,_,_],_=>rfl
 have D_chain_in:Def K mg "chain_in" (top 41) ["hall","calls","rack","a","b"]:=o8 X G a31 l31 c31 k31 fun us hl=>match us,hl with | [_,_,_,_,_],_=>rfl
 have D_moves_of:Def K mg "moves_of" (top 42) ["calls","chain","a","b"]:=o8 X G a32 l32 c32 k32 fun us hl=>match us,hl with | [_,_,_,_],_=>rfl
 have D_refuse_move:Def K mg "refuse_move" (top 43) ["hall","calls","goals","move"]:=o8 X G a33 l33 c33 k33 fun us hl=>match us,hl with | [_,_,_,_],_=>rfl
 have D_moved:Def K mg "moved" (top 44) ["hall","calls","moves"]:=o8 X G a34 l34 c34 k34 fun us hl=>match us,hl with | [_,_,_],_=>rfl
 have D_idle_racks:Def K mg "idle_racks" (top 46) ["racks","bits"]:=o8 X G a35 l35 c35 k35 fun us hl=>match us,hl with | [_,_],_=>rfl
 have D_chain_chosen:Def K mg "chain_chosen" (top 47) ["hall","calls","start","goal","a","b"]:=o8 X G a36 l36 c36 k36 fun us hl=>match us,hl with | [_,_,_,_,_,_],_=>rfl
 have D_room_by_chain:Def K mg "room_by_chain" (top 48) ["hall","calls","start","goal","shut"]:=o8 X G a37 l37 c37 k37 fun us hl=>match us,hl with | [_,_,_,_,_],_=>rfl
 have D_room:DefD K mg "room" (top 49) ["hall","calls","caller","ends","shut"] [.int 0]:=⟨f38,_,⟨_,_,_,_,_,_,_,_,_,_,rfl,l38,c38⟩,k38,fun m hm=>match m,hm with | 0,_=>⟨[.int 0 td38_0],(.cons ⟨_,rfl⟩ .nil),fun s us X hl=>match us,(show us.length = 4 from by simpa using hl) with | [_,_,_,_],_=>BindsTo.of_defaults rfl (X _ _ dl38) rfl rfl rfl⟩ | 1,_=>⟨[],.nil,fun s us X hl=>match us,(show us.length = 5 from by simpa using hl) with | [_,_,_,_,_],_=>BindsTo.of_defaults rfl (X _ _ dl38) rfl rfl rfl⟩ | _ + 2,h=>absurd h (by simp),PySem.W.mg_of X G a38⟩
 have D_joined_turning:DefD K mg "joined_turning" (top 50) ["hall","calls","caller","ends","shut"] [.int 0]:=⟨f39,_,⟨_,_,_,_,_,_,_,_,_,_,rfl,l39,c39⟩,k39,fun m hm=>match m,hm with | 0,_=>⟨[.int 0 td39_0],(.cons ⟨_,rfl⟩ .nil),fun s us X hl=>match us,(show us.length = 4 from by simpa using hl) with | [_,_,_,_],_=>BindsTo.of_defaults rfl (X _ _ dl39) rfl rfl rfl⟩ | 1,_=>⟨[],.nil,fun s us X hl=>match us,(show us.length = 5 from by simpa using hl) with | [_,_,_,_,_],_=>BindsTo.of_defaults rfl (X _ _ dl39) rfl rfl rfl⟩ | _ + 2,h=>absurd h (by simp),PySem.W.mg_of X G a39⟩
 have D__law_cell_at:Def K mg "_law_cell_at" (top 52) ["_law_script","_law_k"]:=o8 X G a40 l40 c40 k40 fun us hl=>match us,hl with | [_,_],_=>rfl
 have D__law_alike:Def K mg "_law_alike" (top 53) ["_law_found","_law_due"]:=o8 X G a41 l41 c41 k41 fun us hl=>match us,hl with | [_,_],_=>rfl
 have D__law_lines:Def K mg "_law_lines" (top 54) ["_law_hall","_law_caller","_law_ends","_law_k"]:=o8 X G a42 l42 c42 k42 fun us hl=>match us,hl with | [_,_,_,_],_=>rfl
 have D__law_right:Def K mg "_law_right" (top 55) ["_law_hall","_law_calls"]:=o8 X G a43 l43 c43 k43 fun us hl=>match us,hl with | [_,_],_=>rfl
 have D__law_size:Def K mg "_law_size" (top 56) ["_law_script","_law_k","_law_most"]:=o8 X G a44 l44 c44 k44 fun us hl=>match us,hl with | [_,_,_],_=>rfl
 have D__law_shut:Def K mg "_law_shut" (top 57) ["_law_hall","_law_gone","_law_number"]:=o8 X G a45 l45 c45 k45 fun us hl=>match us,hl with | [_,_,_],_=>rfl
 have D__law_is_move:Def K mg "_law_is_move" (top 58) ["_law_hall","_law_calls","_law_move","_law_shut_here"]:=o8 X G a46 l46 c46 k46 fun us hl=>match us,hl with | [_,_,_,_],_=>rfl
 have D__law_behind:Def K mg "_law_behind" (top 59) ["_law_hall","_law_calls","_law_moves","_law_shut_here"]:=o8 X G a47 l47 c47 k47 fun us hl=>match us,hl with | [_,_,_,_],_=>rfl
 have D__law_joined:Def K mg "_law_joined" (top 60) ["_law_hall","_law_calls","_law_caller","_law_ends","_law_shut_here"]:=o8 X G a48 l48 c48 k48 fun us hl=>match us,hl with | [_,_,_,_,_],_=>rfl
 have D__law_deed:Def K mg "_law_deed" (top 61) ["_law_hall","_law_gone","_law_calls","_law_number"]:=o8 X G a49 l49 c49 k49 fun us hl=>match us,hl with | [_,_,_,_],_=>rfl
 have F:=a60 (st:=top 62) l50 c50 k50
 refine ⟨PySem.W.fnOf "law" "law" (j6 (top 62)) (i9 (top 62)) (d5 (top 62)) .none kV50 dc50 pm50 an50 cd50 ct50,fun s v=>.of_eq rfl,fun base _ _=>?_⟩
 have C_cell:=ba7 (P:=l.prog) (w:=w) (base:=base) T D__law_cell_at
 have C_lines:=aY6 (P:=l.prog) (w:=w) (base:=base) T D__law_lines
 have C_pi:=ax3 (P:=l.prog) (w:=w) (base:=base) T D_place_in
 have C_ra:=a01 (P:=l.prog) (w:=w) (base:=base) T (at7 T D_place_out) D_racks_of
 have C_hold:=aJ3 T C_pi C_ra (aR0 T C_pi C_ra D_holds_needed) D_holders
 have C_open:=bc6 (P:=l.prog) (w:=w) (base:=base) T D_left_open
 have C_isn:=aw3 (P:=l.prog) (w:=w) (base:=base) T D_is_number
 have C_isw:=aC4 T C_isn D_is_whole
 have C_ise:=aG8 T (ay2 T C_isw D_are_ends) (aV1 T D_are_unlike) D_is_ends
 have C_co:=aK7 T C_isn D_call_of
 have C_ho:=at9 T C_isn D_holder_of
 have C_wr:=aS3 T (at3 T C_isw D_is_caller) C_ise D_refuse_wrong
 have C_bu:=a69 T C_co C_ho D_refuse_busy
 have C_cr:=am4 T C_pi C_ra D_call_racks
 have C_cf:=am5 T C_cr (aW2 T C_cr D_calls_by_in) (aU2 T C_ra D_calls_by_out) D_chain_from
 have C_ch:=aQ6 T (av1 C_cf D_chain_out) (aE3 C_cf D_chain_in) D_chain_chosen
 have C_bc:=aI4 T C_open (aI2 T C_pi D_in_bits) (aA1 T C_ra D_out_bits) (bc4 T D_idle_racks) C_ch (aD4 T C_co D_moves_of) D_room_by_chain
 have C_rm:=aT7 T (a_6 T C_hold C_open D_ways) C_ra C_pi C_bc D_room
 have C_right:=aF6 (P:=l.prog) (w:=w) (base:=base) T (aW5 T C_pi C_ra D_held_lines) (aS5 T D_rises) (aK8 T D_are_unlike) D_is_right
 have C_mv:=a65 T (aV3 T C_co C_isw D_refuse_move) C_right D_moved
 have C_jt:=bc1 T C_wr C_bu C_rm C_mv (a_8 T D_with_call) D_joined_turning
 have C_lj:=aD3 T C_jt (aT5 T (aJ6 T D__law_is_move) D__law_behind) (aB8 T D__law_alike 3) (aG5 T C_lines D__law_right) D__law_joined
 exact bf4 T (bc0 T C_cell D__law_size) (aU9 T (aR2 T D__law_shut) C_lj D__law_deed) F
end
theorem walk {l:PySem.W.OpenLaw} {q:Program} {loose:List Str} {XP:(Str → Option Value) → Heap → Prop} {YP:World → Heap → Prop} {d:DefRec} {K:Params → PySem.W.Frag} (hn:l.most = some 63) (hdf:d.params.defaults = [])
  (hY:∀ (w:World) (h:Heap),YP w h → (K w.params).In h)
  (F:∀ (w:World) (mg:Str → Option Value) (fa:Addr) (h:Heap),(K w.params).In h → h.Ns mainGlobals mg → mg d.name = some (.ref fa) →
   ∃ fd:FuncData,(∀ (s:Shared) (u:Value),BindsTo s fd ⟨[u],[]⟩ [("_law_script",u)]) ∧ ∀ base:Heap,(K w.params).In base → base.Ns mainGlobals mg → FnOk l.prog w (K w.params) mg base CX0 13 fa fd ["_law_script"] (aP7 (K w.params))) :
  PySem.W.WalkO q loose XP YP l.row.toRowW d [] (fun f vs=>PySem.call f vs) :=
 L2.a_2 (n:=63) (k:=13) (x:="_law_script") (CX:=fun _=>CX0) (sp:=fun w=>aP7 (K w.params)) hn (by decide) hdf ⟨rfl,by decide,by decide⟩ hY F (fun _ _ a ns hl _ hS=>⟨a,ns,rfl,hS,hl,fun _=>rfl⟩) fun _ _ _ _ _ z=>z
end My
open PySem PySem.W PyProof.Rows
set_option maxRecDepth 100000 in
set_option maxHeartbeats 0 in
theorem PySem.Challenge.cw_crossracks_k35_whole_joined_by_turning_holds : PySem.Challenge.rw_crossracks_k35_whole_joined_by_turning.Holds := by
 w_on; o_law; k_head; (case hw=>w_witness2)
 k_fill
 refine My.walk (l:=PySem.Challenge.rw_crossracks_k35_whole_joined_by_turning) rfl rfl (fun w h Y=>PySem.W.kIn_of Y) ?F
 case F =>
  intro w mg fa h KX G hmg
  refine' My.bi6 KX G hmg ?a1 ?l1 ?c1 ?k1 ?a2 ?l2 ?c2 ?k2 ?a3 ?l3 ?c3 ?k3 ?a4 ?l4 ?c4 ?k4 ?a5 ?l5 ?c5 ?k5 ?a6 ?l6 ?c6 ?k6 ?a7 ?l7 ?c7 ?k7 ?a8 ?l8 ?c8 ?k8 ?a9 ?l9 ?c9 ?k9 ?a10 ?l10 ?c10 ?k10 ?a11 ?l11 ?c11 ?k11 ?a12 ?l12 ?c12 ?k12 ?a13 ?l13 ?c13 ?k13 ?a14 ?l14 ?c14 ?k14 ?a15 ?l15 ?c15 ?k15 ?a16 ?l16 ?c16 ?k16 ?a17 ?l17 ?c17 ?k17 ?dl18 ?a18 ?l18 ?c18 ?k18 ?dl19 ?a19 ?l19 ?c19 ?k19 ?a20 ?l20 ?c20 ?k20 ?a21 ?l21 ?c21 ?k21 ?a22 ?l22 ?c22 ?k22 ?a23 ?l23 ?c23 ?k23 ?a24 ?l24 ?c24 ?k24 ?a25 ?l25 ?c25 ?k25 ?a26 ?l26 ?c26 ?k26 ?a27 ?l27 ?c27 ?k27 ?a28 ?l28 ?c28 ?k28 ?a29 ?l29 ?c29 ?k29 ?a30 ?l30 ?c30 ?k30 ?a31 ?l31 ?c31 ?k31 ?a32 ?l32 ?c32 ?k32 ?a33 ?l33 ?c33 ?k33 ?a34 ?l34 ?c34 ?k34 ?a35 ?l35 ?c35 ?k35 ?a36 ?l36 ?c36 ?k36 ?a37 ?l37 ?c37 ?k37 ?dl38 ?a38 ?l38 ?c38 ?k38 ?dl39 ?a39 ?l39 ?c39 ?k39 ?a40 ?l40 ?c40 ?k40 ?a41 ?l41 ?c41 ?k41 ?a42 ?l42 ?c42 ?k42 ?a43 ?l43 ?c43 ?k43 ?a44 ?l44 ?c44 ?k44 ?a45 ?l45 ?c45 ?k45 ?a46 ?l46 ?c46 ?k46 ?a47 ?l47 ?c47 ?k47 ?a48 ?l48 ?c48 ?k48 ?a49 ?l49 ?c49 ?k49 ?a50 ?l50 ?c50 ?k50    ?z_len ?z_isinstance ?z_int ?z_bool ?z_tuple ?z_list ?z_set ?z_sorted ?z_divmod ?z_range ?z_abs ?z_min ?z_max ?z_any ?z_all ?z_zip ?z_dict
  (case a1=>k_is); (case l1=>k_is); (case c1=>k_is); (case k1=>k_is)
  (case a2=>k_is); (case l2=>k_is); (case c2=>k_is); (case k2=>k_is)
  (case a3=>k_is); (case l3=>k_is); (case c3=>k_is); (case k3=>k_is)
  (case a4=>k_is); (case l4=>k_is); (case c4=>k_is); (case k4=>k_is)
  (case a5=>k_is); (case l5=>k_is); (case c5=>k_is); (case k5=>k_is)
  (case a6=>k_is); (case l6=>k_is); (case c6=>k_is); (case k6=>k_is)
  (case a7=>k_is); (case l7=>k_is); (case c7=>k_is); (case k7=>k_is)
  (case a8=>k_is); (case l8=>k_is); (case c8=>k_is); (case k8=>k_is)
  (case a9=>k_is); (case l9=>k_is); (case c9=>k_is); (case k9=>k_is)
  (case a10=>k_is); (case l10=>k_is); (case c10=>k_is); (case k10=>k_is)
  (case a11=>k_is); (case l11=>k_is); (case c11=>k_is); (case k11=>k_is)
  (case a12=>k_is); (case l12=>k_is); (case c12=>k_is); (case k12=>k_is)
  (case a13=>k_is); (case l13=>k_is); (case c13=>k_is); (case k13=>k_is)
  (case a14=>k_is); (case l14=>k_is); (case c14=>k_is); (case k14=>k_is)
  (case a15=>k_is); (case l15=>k_is); (case c15=>k_is); (case k15=>k_is)
  (case a16=>k_is); (case l16=>k_is); (case c16=>k_is); (case k16=>k_is)
  (case a17=>k_is); (case l17=>k_is); (case c17=>k_is); (case k17=>k_is)
  (case a18=>k_is); (case l18=>k_is); (case dl18=>k_is); (case c18=>k_is); (case k18=>k_is)
  (case a19=>k_is); (case l19=>k_is); (case dl19=>k_is); (case c19=>k_is); (case k19=>k_is)
  (case a20=>k_is); (case l20=>k_is); (case c20=>k_is); (case k20=>k_is)
  (case a21=>k_is); (case l21=>k_is); (case c21=>k_is); (case k21=>k_is)
  (case a22=>k_is); (case l22=>k_is); (case c22=>k_is); (case k22=>k_is)
  (case a23=>k_is); (case l23=>k_is); (case c23=>k_is); (case k23=>k_is)
  (case a24=>k_is); (case l24=>k_is); (case c24=>k_is); (case k24=>k_is)
  (case a25=>k_is); (case l25=>k_is); (case c25=>k_is); (case k25=>k_is)
  (case a26=>k_is); (case l26=>k_is); (case c26=>k_is); (case k26=>k_is)
  (case a27=>k_is); (case l27=>k_is); (case c27=>k_is); (case k27=>k_is)
  (case a28=>k_is); (case l28=>k_is); (case c28=>k_is); (case k28=>k_is)
  (case a29=>k_is); (case l29=>k_is); (case c29=>k_is); (case k29=>k_is)
  (case a30=>k_is); (case l30=>k_is); (case c30=>k_is); (case k30=>k_is)
  (case a31=>k_is); (case l31=>k_is); (case c31=>k_is); (case k31=>k_is)
  (case a32=>k_is); (case l32=>k_is); (case c32=>k_is); (case k32=>k_is)
  (case a33=>k_is); (case l33=>k_is); (case c33=>k_is); (case k33=>k_is)
  (case a34=>k_is); (case l34=>k_is); (case c34=>k_is); (case k34=>k_is)
  (case a35=>k_is); (case l35=>k_is); (case c35=>k_is); (case k35=>k_is)
  (case a36=>k_is); (case l36=>k_is); (case c36=>k_is); (case k36=>k_is)
  (case a37=>k_is); (case l37=>k_is); (case c37=>k_is); (case k37=>k_is)
  (case a38=>k_is); (case l38=>k_is); (case dl38=>k_is); (case c38=>k_is); (case k38=>k_is)
  (case a39=>k_is); (case l39=>k_is); (case dl39=>k_is); (case c39=>k_is); (case k39=>k_is)
  (case a40=>k_is); (case l40=>k_is); (case c40=>k_is); (case k40=>k_is)
  (case a41=>k_is); (case l41=>k_is); (case c41=>k_is); (case k41=>k_is)
  (case a42=>k_is); (case l42=>k_is); (case c42=>k_is); (case k42=>k_is)
  (case a43=>k_is); (case l43=>k_is); (case c43=>k_is); (case k43=>k_is)
  (case a44=>k_is); (case l44=>k_is); (case c44=>k_is); (case k44=>k_is)
  (case a45=>k_is); (case l45=>k_is); (case c45=>k_is); (case k45=>k_is)
  (case a46=>k_is); (case l46=>k_is); (case c46=>k_is); (case k46=>k_is)
  (case a47=>k_is); (case l47=>k_is); (case c47=>k_is); (case k47=>k_is)
  (case a48=>k_is); (case l48=>k_is); (case c48=>k_is); (case k48=>k_is)
  (case a49=>k_is); (case l49=>k_is); (case c49=>k_is); (case k49=>k_is)
  (case a50=>k_is); (case l50=>k_is); (case c50=>k_is); (case k50=>k_is)
  (case z_len=>k_is)
  (case z_isinstance=>k_is)
  (case z_int=>k_is)
  (case z_bool=>k_is)
  (case z_tuple=>k_is)
  (case z_list=>k_is)
  (case z_set=>k_is)
  (case z_sorted=>k_is)
  (case z_divmod=>k_is)
  (case z_range=>k_is)
  (case z_abs=>k_is)
  (case z_min=>k_is)
  (case z_max=>k_is)
  (case z_any=>k_is)
  (case z_all=>k_is)
  (case z_zip=>k_is)
  (case z_dict=>k_is)
