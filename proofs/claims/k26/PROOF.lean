import PyProof.Rows.All
import Wide.All
import OpenK.AllK
import Wide.FinOn
import Lean
import PyProof.EqAt
import PyProof.EqKinds
import PyProof.TupleCall
import PySem.SetOps
import PyProof.SetKind
import PyProof.CollectWalk
import PyProof.FactsAll.set
import PyProof.ForAny
import PyProof.Rows.SortWalk
import PyProof.Rows.SetFrom
import KE.KSortAsk
import KE.KSortTup
import KE.KLam
import KE.KNestM
import KE.KMinBuiltin
import PyProof.NsDelKeeps
import PyProof.TupleKey
import PyProof.IsRules
import KE.KRevIter
import PyProof.WalksMore
import PyProof.TupleOfSeq
import PySem.Challenge.RW_crossracks_k26_whole_never_engaged
set_option Elab.async false
set_option linter.all false
set_option maxRecDepth 100000
namespace L2
open PySem PySem.Spec PyProof.Rows
abbrev Key := Sum Int Str
def keyIs : Key → Value → Bool
 | .inl k, v => Value.isInt k v
 | .inr x, v => Value.isStrOf x v
def keyH (w : World) : Key → Int
 | .inl k => hashInt k
 | .inr x => hashStr w x
theorem keyIs_shape : ∀ {k : Key} {v : Value}, keyIs k v = true → (∃ i t, k = Sum.inl i ∧ v = Value.int i t) ∨ (∃ x t, k = Sum.inr x ∧ v = Value.str x t)
 | .inl i, v, h => by
  obtain ⟨t, e⟩ := Value.isInt_shape (k := i) (v := v) h
  exact .inl ⟨i, t, rfl, e⟩
 | .inr x, v, h => by
  obtain ⟨t, e⟩ := Value.isStrOf_shape (x := x) (v := v) h
  exact .inr ⟨x, t, rfl, e⟩
theorem key_ll (a b : Int) : decide ((Sum.inl a : Key) = Sum.inl b) = (a == b) := by
 by_cases e : a = b
 ·subst e; simp
 ·have h : ¬ (Sum.inl a : Key) = Sum.inl b := fun q => e (Sum.inl.inj q)
  rw [decide_eq_false h]
  exact (beq_eq_false_iff_ne.mpr e).symm
theorem key_rr (a b : Str) : decide ((Sum.inr a : Key) = Sum.inr b) = decide (a = b) := by
 by_cases e : a = b
 ·subst e; simp
 ·have h : ¬ (Sum.inr a : Key) = Sum.inr b := fun q => e (Sum.inr.inj q)
  rw [decide_eq_false h, decide_eq_false e]
theorem key_lr (a : Int) (b : Str) : decide ((Sum.inl a : Key) = Sum.inr b) = false := decide_eq_false (fun q => nomatch q)
theorem key_rl (a : Str) (b : Int) : decide ((Sum.inr a : Key) = Sum.inl b) = false := decide_eq_false (fun q => nomatch q)
def mixKind (prog : Program) (w : World) : PySem.KeyKind prog w Key where
 is := keyIs
 hash := keyH w
 inj := fun v a b ha hb => by
  rcases keyIs_shape ha with ⟨i, t, rfl, rfl⟩ | ⟨x, t, rfl, rfl⟩
  ·rcases keyIs_shape hb with ⟨j, u, rfl, e⟩ | ⟨y, u, rfl, e⟩
   ·injection e with e1 _; rw [e1]
   ·exact nomatch e
  ·rcases keyIs_shape hb with ⟨j, u, rfl, e⟩ | ⟨y, u, rfl, e⟩
   ·exact nomatch e
   ·injection e with e1 _; rw [e1]
 byValue := fun k v h => by
  rcases keyIs_shape h with ⟨i, t, rfl, rfl⟩ | ⟨x, t, rfl, rfl⟩ <;> rfl
 pyHash := fun hv h => by
  rcases keyIs_shape hv with ⟨i, t, rfl, rfl⟩ | ⟨x, t, rfl, rfl⟩
  ·exact wpAny_pyHash_int h
  ·exact wpAny_pyHash_str h
 eqBool := fun hu hv h => by
  rcases keyIs_shape hu with ⟨i, t, rfl, rfl⟩ | ⟨x, t, rfl, rfl⟩
  ·rcases keyIs_shape hv with ⟨j, u, rfl, rfl⟩ | ⟨y, u, rfl, rfl⟩
   ·rw [key_ll] at h; exact wpAny_eqBool_int h
   ·rw [key_lr] at h; exact SeqAt.EqAt.int_str i t y u _ _ _ _ h
  ·rcases keyIs_shape hv with ⟨j, u, rfl, rfl⟩ | ⟨y, u, rfl, rfl⟩
   ·rw [key_rl] at h; exact SeqAt.EqAt.str_int x t j u _ _ _ _ h
   ·rw [key_rr] at h; exact wpAny_eqBool_str h
 «strs» := fun k x t v h => by
  rcases keyIs_shape h with ⟨i, u, rfl, e⟩ | ⟨y, u, rfl, e⟩
  ·exact nomatch e
  ·injection e with e1 _
   subst e1
   cases v <;> rfl
end L2
namespace L2
open PySem PySem.Spec PyProof.Rows
inductive V where
 | non | bl (b : Bool) | int (i : Int) | str (x : Str) | byt (b : Array UInt8) | flt (b : UInt64) | ref (a : Addr) | ty (n : String)
 deriving DecidableEq
def RelV : V → Value → Prop
 | .non, u => u = Value.none
 | .bl b, u => u = Value.bool b
 | .int i, u => ∃ t, u = Value.int i t
 | .str x, u => ∃ t, u = Value.str x t
 | .byt b, u => ∃ t, u = Value.bytes b t
 | .flt b, u => ∃ t, u = Value.float b t
 | .ref a, u => u = Value.ref a
 | .ty n, u => u = Value.type n
abbrev Vals : List V → List Value → Prop := Paired RelV
theorem Vals.length {xs : List V} {us : List Value} (r : Vals xs us) : xs.length = us.length := Paired.length r
theorem Vals.get : ∀ {xs : List V} {us : List Value} {i : Nat} {x : V}, Vals xs us → xs[i]? = some x → ∃ u, us[i]? = some u ∧ RelV x u
 | _, _, _, _, .nil, e => by simp at e
 | _, _, 0, _, .cons r _, e => by simp at e; subst e; exact ⟨_, rfl, r⟩
 | _, _, i + 1, x, .cons _ t, e => by
  obtain ⟨u, h1, h2⟩ := Vals.get (i := i) (x := x) t (by simpa using e)
  exact ⟨u, by simpa using h1, h2⟩
theorem Vals.set {x : V} {u : Value} (r : RelV x u) : ∀ {xs : List V} {us : List Value} (i : Nat), Vals xs us → Vals (xs.set i x) (us.set i u)
 | _, _, _, .nil => .nil
 | _, _, 0, .cons _ t => .cons r t
 | _, _, i + 1, .cons q t => .cons q (Vals.set r i t)
theorem Vals.append : ∀ {xs ys : List V} {us ws : List Value}, Vals xs us → Vals ys ws → Vals (xs ++ ys) (us ++ ws)
 | _, _, _, _, .nil, s => s
 | _, _, _, _, .cons r t, s => .cons r (Vals.append t s)
def RelO : Option V → Option Value → Prop
 | some v, some u => RelV v u
 | none, none => True
 | _, _ => False
def KV {κ : Type} : List (κ × V) → List (κ × Value) → Prop := Paired fun (p : κ × V) (q : κ × Value) => p.1 = q.1 ∧ RelV p.2 q.2
def kV : Key → V
 | .inl i => .int i
 | .inr x => .str x
inductive HO where
 /-- a list -/
 | lst (xs : List V)
 /-- a tuple (never changes) -/
 | tup (xs : List V)
 /-- a dict whose keys are ints and texts; one whose keys are tuples of ints and texts (the empty one is both) -/
 | dK (kvs : List (Key × V)) | dT (kvs : List (List Key × V))
 /-- a set of ints: its members, its size -/
 | set (S : Int → Bool) (n : Nat)
 /-- an instance of the class at C, its dict at dx, its attributes -/
 | ins (C dx : Addr) (fs : List (Str × V))
 /-- the dict of the instance at x -/
 | own (x : Addr)
 /-- the dict of an exception -/
 | xd (fs : List (Str × V))
 /-- a bound method, f of x -/
 | met (f x : Addr)
 /-- a range object lo, lo + 1, .. below hi -/
 | rng (lo hi : Int)
 /-- a thing that is known to the object (the script; a dict while a loop walks it): read, never written while it is so -/
 | frz (o : Obj) (u : HO)
 /-- a code object's table -/
 | tbl (ps : Array Value)
 /-- any other thing, by what is true of its one object (a def of one's own: SetO a S n := HO.ext fun h => ..) -/
 | ext (φ : Heap → Prop)
abbrev Hp := Addr → Option HO
def upd (H : Hp) (a : Addr) (o : HO) : Hp := fun b => if b = a then some o else H b
theorem upd_same {H : Hp} {a : Addr} {o : HO} : upd H a o a = some o := by unfold upd; rw [if_pos rfl]
theorem upd_ne {H : Hp} {a b : Addr} {o : HO} (h : b ≠ a) : upd H a o b = H b := by unfold upd; rw [if_neg h]
theorem ne_of_none {H : Hp} {a b : Addr} {o : HO} (h : H a = some o) (h' : H b = none) : a ≠ b := by
 intro e; subst e; rw [h] at h'; cases h'
section
variable (P : Program) (w : World)
def ObjOk (H : Hp) (h : Heap) (a : Addr) : HO → Prop
 | .lst xs => xs.length ≤ sizeLine ∧ ∃ (its : List Value) (n : Nat), Vals xs its ∧ h.get? a = some { cls := .type "list", data := .seq its.toArray n }
 | .tup xs => xs.length ≤ sizeLine ∧ ∃ its : List Value, Vals xs its ∧ IsTup h a its.toArray
 | .dK kvs => kvs.length ≤ sizeLine ∧ (a == sysModules) = false ∧ ∃ vs, KV kvs vs ∧ h.DictOf (mixKind P w) a vs
 | .dT kvs => kvs.length ≤ sizeLine ∧ (a == sysModules) = false ∧ ∃ xs : List (List Key × Addr × Value),
   Paired (fun (p : List Key × V) (q : List Key × Addr × Value) => p.1 = q.1 ∧ H q.2.1 = some (.tup (p.1.map kV)) ∧ RelV p.2 q.2.2) kvs xs ∧
   ∃ o es ep, h.get? a = some o ∧ o.ExactDict ∧ o.data = .dict es ep ∧ es.toList = xs.map (entryOfKey (tupleKind (mixKind P w))) ∧ (xs.map (·.1)).Nodup
 | .set S n => h.SetOf (intKind P w) a S n
 | .ins C dx fs => H dx = some (.own a) ∧ fs.length ≤ 1000 ∧ dx ≠ a ∧ h.get? a = some (PySem.W.instObj C dx) ∧
   ∃ mA, h.Ns1 dx mA ∧ (∀ f, RelO (fs.lookup f) (mA f)) ∧ PySem.Within mA (fs.map (·.1))
 | .own _ => ∃ o, h.get? a = some o
 | .xd fs => ∃ mA, h.Ns1 a mA ∧ ∀ f, RelO (fs.lookup f) (mA f)
 | .rng lo hi => ∃ t u v, h.get? a = some { cls := .type "range", data := .fields #[.int lo t, .int hi u, .int 1 v] }
 | .frz o u => h.get? a = some o ∧ ObjOk H h a u
 | .tbl ps => h.get? a = some { cls := .none, data := .fields ps }
 | .met f x => h.get? a = some (PySem.W.methodObj (.ref f) (.ref x))
 | .ext φ => φ h ∧ (∃ o, h.get? a = some o) ∧ ∀ h1 h2 : Heap, φ h1 → (∀ o, h1.get? a = some o → h2.get? a = some o) → φ h2
def HOk (H : Hp) (h : Heap) : Prop := ∀ a o, H a = some o → ObjOk P w H h a o
end
section
variable {P : Program} {w : World} {H H' : Hp} {h h' : Heap} {a : Addr} {o : HO}
theorem ObjOk.lt (x : ObjOk P w H h a o) : a < h.objs.size := by
 cases o with
 | lst xs => obtain ⟨_, _, _, _, e⟩ := x; exact Heap.lt_size e
 | tup xs => obtain ⟨_, _, _, p⟩ := x; exact p.lt
 | dK kvs => obtain ⟨_, _, _, _, o, _, _, e, _⟩ := x; exact Heap.lt_size e
 | dT kvs => obtain ⟨_, _, _, _, o, _, _, e, _⟩ := x; exact Heap.lt_size e
 | set S n => obtain ⟨o, _, _, _, e, _⟩ := x; exact Heap.lt_size e
 | ins C dx fs => obtain ⟨_, _, _, e, _⟩ := x; exact Heap.lt_size e
 | own y => obtain ⟨_, e⟩ := x; exact Heap.lt_size e
 | xd fs => obtain ⟨_, ⟨_, _, _, e, _⟩, _⟩ := x; exact Heap.lt_size e
 | rng lo hi => obtain ⟨_, _, _, e⟩ := x; exact Heap.lt_size e
 | frz ob u => obtain ⟨e, _⟩ := x; exact Heap.lt_size e
 | tbl ps => exact Heap.lt_size (show h.get? a = some _ from x)
 | met f y => exact Heap.lt_size (show h.get? a = some _ from x)
 | ext φ => obtain ⟨_, ⟨_, e⟩, _⟩ := x; exact Heap.lt_size e
theorem Paired.mapP {α β : Type} {F G : α → β → Prop} : ∀ {l₁ : List α} {l₂ : List β}, Paired F l₁ l₂ → (∀ a b, F a b → G a b) → Paired G l₁ l₂
 | _, _, .nil, _ => .nil
 | _, _, .cons r t, f => .cons (f _ _ r) (Paired.mapP t f)
theorem ObjOk.stay (x : ObjOk P w H h a o) (k : ∀ b u, (b = a ∨ H b = some (.own a)) → h.get? b = some u → h'.get? b = some u)
  (ho : ∀ b, H b = some (.own a) → H' b = some (.own a)) (ht : ∀ b xs, H b = some (.tup xs) → H' b = some (.tup xs)) : ObjOk P w H' h' a o := by
 induction o with
 | lst xs => obtain ⟨z, its, n, r, e⟩ := x; exact ⟨z, its, n, r, k _ _ (.inl rfl) e⟩
 | tup xs => obtain ⟨z, its, r, ob, e, c⟩ := x; exact ⟨z, its, r, ob, k _ _ (.inl rfl) e, c⟩
 | dK kvs => obtain ⟨z, y, vs, r, ob, es, ep, e, c⟩ := x; exact ⟨z, y, vs, r, ob, es, ep, k _ _ (.inl rfl) e, c⟩
 | dT kvs =>
  obtain ⟨z, y, xs, r, ob, es, ep, e, c⟩ := x
  exact ⟨z, y, xs, Paired.mapP r fun p q z => ⟨z.1, ht _ _ z.2.1, z.2.2⟩, ob, es, ep, k _ _ (.inl rfl) e, c⟩
 | set S n => obtain ⟨ob, es, ep, t, e, c⟩ := x; exact ⟨ob, es, ep, t, k _ _ (.inl rfl) e, c⟩
 | ins C dx fs =>
  obtain ⟨d, z, ne, e, mA, ⟨od, es, ep, e2, c⟩, r⟩ := x
  exact ⟨ho _ d, z, ne, k _ _ (.inl rfl) e, mA, ⟨od, es, ep, k _ _ (.inr d) e2, c⟩, r⟩
 | own y => obtain ⟨ob, e⟩ := x; exact ⟨ob, k _ _ (.inl rfl) e⟩
 | xd fs => obtain ⟨mA, ⟨od, es, ep, e, c⟩, r⟩ := x; exact ⟨mA, ⟨od, es, ep, k _ _ (.inl rfl) e, c⟩, r⟩
 | rng lo hi => obtain ⟨t, u, v, e⟩ := x; exact ⟨t, u, v, k _ _ (.inl rfl) e⟩
 | frz ob u ih => obtain ⟨e, q⟩ := x; exact ⟨k _ _ (.inl rfl) e, ih q⟩
 | tbl ps =>
  have e : h.get? a = some { cls := .none, data := .fields ps } := x
  show h'.get? a = some { cls := .none, data := .fields ps }
  exact k a _ (.inl rfl) e
 | met f y =>
  have e : h.get? a = some (PySem.W.methodObj (.ref f) (.ref y)) := x
  show h'.get? a = some (PySem.W.methodObj (.ref f) (.ref y))
  exact k a _ (.inl rfl) e
 | ext φ => obtain ⟨p, ⟨o, e⟩, st⟩ := x; exact ⟨st _ _ p fun o q => k _ _ (.inl rfl) q, ⟨o, k _ _ (.inl rfl) e⟩, st⟩
theorem HOk.lt (x : HOk P w H h) (e : H a = some o) : a < h.objs.size := (x a o e).lt
theorem HOk.fresh (x : HOk P w H h) (e : h.objs.size ≤ a) : H a = none := by
 cases q : H a with
 | none => rfl
 | some u => exact absurd (Nat.lt_of_lt_of_le (x.lt q) e) (Nat.lt_irrefl _)
theorem HOk.kept (x : HOk P w H h) (k : ∀ b u, h.get? b = some u → h'.get? b = some u) : HOk P w H h' := fun a o e =>
 (x a o e).stay (fun b u _ q => k b u q) (fun _ q => q) fun _ _ q => q
theorem HOk.laid (x : HOk P w H h) (k : ∀ b u, h.get? b = some u → h'.get? b = some u) (hp : h.objs.size ≤ a) (new : ObjOk P w (upd H a o) h' a o) : HOk P w (upd H a o) h' := fun b u e => by
 have hn := x.fresh hp
 by_cases hb : b = a
 ·subst hb; rw [upd_same] at e; cases e; exact new
 ·rw [upd_ne hb] at e
  exact (x b u e).stay (fun c v _ q => k c v q) (fun c q => by rw [upd_ne (ne_of_none q hn)]; exact q) fun c xs q => by rw [upd_ne (ne_of_none q hn)]; exact q
end
def Rd (H : Hp) (a : Addr) (u : HO) : Prop := H a = some u ∨ ∃ o, H a = some (.frz o u)
theorem Rd.ok {P : Program} {w : World} {H : Hp} {h : Heap} {a : Addr} {u : HO} (r : Rd H a u) (x : HOk P w H h) : ObjOk P w H h a u := by
 rcases r with r | ⟨o, r⟩
 ·exact x a u r
 ·obtain ⟨_, q⟩ := x a _ r
  exact q
def Mut : Option HO → Prop
 | some (.lst _) => True
 | some (.dK _) => True
 | some (.dT _) => True
 | some (.set _ _) => True
 | some (.ins _ _ _) => True
 | some (.ext _) => True
 | _ => False
section
variable {P : Program} {w : World} {H : Hp} {h h' : Heap} {x e : Addr} {o' : HO}
theorem HOk.write (ok : HOk P w H h) (mu : Mut (H x)) (he : e = x ∨ H e = some (.own x)) (k : ∀ b u, b ≠ e → h.get? b = some u → h'.get? b = some u) (heo : ∃ u, h'.get? e = some u)
  (new : ObjOk P w (upd H x o') h' x o') : HOk P w (upd H x o') h' := fun b u q => by
 have nown : ∀ c y, H c = some (.own y) → c ≠ x := fun c y r z => by subst z; rw [r] at mu; exact mu
 have ntup : ∀ c xs, H c = some (.tup xs) → c ≠ x := fun c xs r z => by subst z; rw [r] at mu; exact mu
 by_cases hb : b = x
 ·subst hb; rw [upd_same] at q; cases q; exact new
 ·rw [upd_ne hb] at q
  by_cases hbe : b = e
  ·have q' : H b = some (.own x) := by
    rcases he with z | z
    ·exact absurd (hbe.trans z) hb
    ·rw [hbe]; exact z
   rw [q] at q'; cases q'
   obtain ⟨v, hv⟩ := heo
   exact ⟨v, by rw [hbe]; exact hv⟩
  ·refine (ok b u q).stay (fun c v hc r => k c v ?_ r) (fun c r => by rw [upd_ne (nown c b r)]; exact r) fun c xs r => by rw [upd_ne (ntup c xs r)]; exact r
   rcases hc with rfl | hc
   ·exact hbe
   ·rintro rfl
    rcases he with z | z
    ·exact nown c b hc z
    ·rw [hc] at z; cases z; exact hb rfl
end
structure Un (fs ex : List Addr) (H H' : Hp) (h h' : Heap) : Prop where
 keep : ∀ b o, h.get? b = some o → H b = none → b ∉ fs → b ∉ ex → h'.get? b = some o
 slot : ∀ b o, h.get? b = some o → H b = none → b ∈ fs → b ∉ ex → ∃ sl, h'.get? b = some { o with slots := sl }
 free : ∀ b o, h.get? b = some o → H b = none → b ∉ ex → H' b = none
 there : ∀ b o, h.get? b = some o → b ∉ ex → ∃ o', h'.get? b = some o'
 tups : ∀ b xs, H b = some (.tup xs) → H' b = some (.tup xs)
 frzs : ∀ b o u, H b = some (.frz o u) → H' b = some (.frz o u)
 tbls : ∀ b ps, H b = some (.tbl ps) → ∃ more, H' b = some (.tbl (ps ++ more))
section
variable {fs fs' ex ex' : List Addr} {H H1 H2 : Hp} {h h1 h2 h' : Heap} {a x e : Addr} {o : HO}
theorem Un.any (u : Un fs ex H H1 h h1) {b : Addr} {ob : Obj} (q : h.get? b = some ob) (n : H b = none) (hx : b ∉ ex) : ∃ sl, h1.get? b = some { ob with slots := sl } := by
 by_cases hb : b ∈ fs
 ·exact u.slot b ob q n hb hx
 ·exact ⟨ob.slots, u.keep b ob q n hb hx⟩
theorem Un.kept (k : ∀ b u, h.get? b = some u → h'.get? b = some u) : Un fs ex H H h h' :=
 ⟨fun b ob q _ _ _ => k b ob q, fun b ob q _ _ _ => ⟨ob.slots, k b ob q⟩, fun _ _ _ n _ => n, fun b ob q _ => ⟨ob, k b ob q⟩, fun _ _ q => q, fun _ _ _ q => q, fun _ ps q => ⟨#[], by rw [q]; simp⟩⟩
theorem Un.refl : Un fs ex H H h h := Un.kept fun _ _ q => q
theorem Un.laid (k : ∀ b u, h.get? b = some u → h'.get? b = some u) (hp : h.objs.size ≤ a) (hn : H a = none) : Un fs ex H (upd H a o) h h' where
 keep := fun b u q _ _ _ => k b u q
 slot := fun b u q _ _ _ => ⟨u.slots, k b u q⟩
 free := fun b u q n _ => by rw [upd_ne (Nat.ne_of_lt (Nat.lt_of_lt_of_le (Heap.lt_size q) hp))]; exact n
 there := fun b u q _ => ⟨u, k b u q⟩
 tups := fun b xs q => by rw [upd_ne (ne_of_none q hn)]; exact q
 frzs := fun b u xs q => by rw [upd_ne (ne_of_none q hn)]; exact q
 tbls := fun b ps q => ⟨#[], by rw [upd_ne (ne_of_none q hn), q]; simp⟩
theorem Un.write (mu : Mut (H x)) (he : e = x ∨ H e = some (.own x)) (k : ∀ b u, b ≠ e → h.get? b = some u → h'.get? b = some u) (heo : ∃ u, h'.get? e = some u) : Un fs ex H (upd H x o) h h' := by
 have hx : ∀ b, H b = none → b ≠ x := fun b n z => by subst z; rw [n] at mu; exact mu
 have hb : ∀ b, H b = none → b ≠ e := fun b n z => by
  subst z
  rcases he with r | r
  ·exact hx b n r
  ·rw [n] at r; cases r
 have hm : ∀ b u, H b = some u → ¬ Mut (some u) → b ≠ x := fun b u q nm z => by subst z; rw [q] at mu; exact nm mu
 refine ⟨fun b u q n _ _ => k b u (hb b n) q, fun b u q n _ _ => ⟨u.slots, k b u (hb b n) q⟩, fun b u q n _ => by rw [upd_ne (hx b n)]; exact n, fun b u q _ => ?_,
  fun b xs q => by rw [upd_ne (hm b _ q fun z => z)]; exact q, fun b u xs q => by rw [upd_ne (hm b _ q fun z => z)]; exact q, fun b ps q => ⟨#[], by rw [upd_ne (hm b _ q fun z => z), q]; simp⟩⟩
 by_cases hbe : b = e
 ·subst hbe; exact heo
 ·exact ⟨u, k b u hbe q⟩
end
def trk (h : Heap) (H : Hp) : List Addr := (List.range h.objs.size).filter fun a => (H a).isSome
def hidT (h : Heap) (H : Hp) : Heap := PySem.W.hideAll h (trk h H)
theorem hidT_size (h : Heap) (H : Hp) : (hidT h H).objs.size = h.objs.size := PySem.W.hideAll_size _ _
theorem hidT_get {h : Heap} {H : Hp} {b : Addr} {o : Obj} (e : h.get? b = some o) (n : H b = none) : (hidT h H).get? b = some o :=
 PySem.W.hideAll_get _ e fun hm => by
  have q : (H b).isSome = true := (List.mem_filter.mp hm).2
  rw [n] at q; simp at q
theorem of_hidT {h : Heap} {H : Hp} {b : Addr} {o : Obj} (e : (hidT h H).get? b = some o) : h.get? b = some o ∧ H b = none := by
 have e' : h.get? b = some o := PySem.W.of_hideAll (trk h H) e
 refine ⟨e', ?_⟩
 cases q : H b with
 | none => rfl
 | some x =>
  have hm : b ∈ trk h H := List.mem_filter.mpr ⟨List.mem_range.mpr (Heap.lt_size e'), by simp [q]⟩
  have z : (hidT h H).get? b = none := PySem.W.hideAll_none (trk h H) hm
  rw [z] at e; cases e
end L2
namespace L2
open PySem PySem.Spec PyProof.Rows
structure Mod (K : PySem.W.Frag) (mg : Str → Option Value) (base : Heap) : Prop where
 kin : K.In base
 glob : base.Ns mainGlobals mg
 blt : ∃ mb, base.Ns builtinsNs mb ∧ ∀ x : Str, x ≠ "__name__" → mb x = bootBuiltins x
 nolimit : base.NoLimit
structure Cx where
 prog : Program
 w : World
 K : PySem.W.Frag
 mg : Str → Option Value
 base : Heap
 A : Around
 N : List Str
 s₀ : Shared
 H₀ : Hp
 env : Env
 outer : List Env
 stack : List Env
 ex : List Addr
 fn : Str → Bool
 calm : Bool
 pn : List (Addr × Obj)
 xe : Value → Shared → Prop
def frs (l : List Env) : List Addr := l.filterMap (·.frame)
abbrev Cx.fs (X : Cx) : List Addr := frs X.outer
def Vis (sc : Scope) (x : Str) : Prop := sc.names.lookup x = some .local ∨ sc.names.lookup x = some .cell ∨ sc.names.lookup x = some .free
def Loc (sc : Scope) (x : Str) : Prop := sc.names.lookup x = some .local ∨ sc.names.lookup x = some .cell
def Look (env : Env) (h : Heap) (m : Str → Option Value) (x : Str) (u : Value) : Prop :=
 (env.kindOf x = some .local ∧ m x = some u) ∨ ((env.kindOf x = some .cell ∨ env.kindOf x = some .free) ∧ ∃ c, env.cells.lookup x = some c ∧ h.IsCell c (some u))
structure Cx.Ok (X : Cx) : Prop where
 mod : Mod X.K X.mg X.base
 kind : X.env.scope.kind = .function
 glob : X.env.globals = mainGlobals
 blt : X.env.builtins = builtinsNs
 above : X.s₀.heap.objs.size ≤ X.env.locals
 inj : ∀ x y c, X.env.cells.lookup x = some c → X.env.cells.lookup y = some c → x = y
 has : ∀ x, (X.env.kindOf x = some .cell ∨ X.env.kindOf x = some .free) → ∃ c, X.env.cells.lookup x = some c
 cab : ∀ x c, X.fn x = true → X.env.cells.lookup x = some c → X.s₀.heap.objs.size ≤ c
 hd : X.calm = true → X.A.handled = none
 frames : X.A.frames = some X.stack
 stk : X.stack = X.outer ∨ (X.stack = X.env :: X.outer ∧ X.env.frame = some X.env.locals)
 exf : ∀ b ∈ X.ex, b ≠ X.env.locals ∧ ∀ x c, X.env.cells.lookup x = some c → c ≠ b
 bs : ∀ b o, X.base.get? b = some o → X.s₀.heap.get? b = some o ∧ X.H₀ b = none
 bsz : X.base.objs.size ≤ X.s₀.heap.objs.size
 noex : ∀ b o, X.base.get? b = some o → b ∉ X.ex
 exfs : ∀ b ∈ X.ex, b ∉ X.fs
 funs : X.s₀.heap.FunFrames X.base X.outer
 frf : ∀ b ∈ X.fs, X.H₀ b = none
structure Inv (X : Cx) (pins : List (Addr × Obj)) (σ : List (Option V)) (H : Hp) (s : Shared) : Prop where
 ok : X.Ok
 os : s.os = X.s₀.os
 bare : AllBare s.gens
 base : Un X.fs X.ex X.H₀ H X.s₀.heap s.heap
 loc : ∃ m, s.heap.Ns X.env.locals m ∧ ∀ (i : Nat) (x : Str) (v : V), X.N[i]? = some x → σ[i]? = some (some v) → Vis X.env.scope x → ∃ u, RelV v u ∧ Look X.env s.heap m x u
 cell : ∀ x c, X.env.cells.lookup x = some c → ∃ v, s.heap.IsCell c v
 free : H X.env.locals = none
 freeC : ∀ x c, X.env.cells.lookup x = some c → H c = none
 pin : ∀ p ∈ X.pn ++ pins, s.heap.get? p.1 = some p.2 ∧ H p.1 = none ∧ p.1 ≠ X.env.locals ∧ p.1 ∉ X.fs ∧ ∀ v, p.2.data ≠ .cell v
 hok : HOk X.prog X.w H s.heap
 len : σ.length = X.N.length
section
variable {X : Cx} {pins : List (Addr × Obj)} {σ : List (Option V)} {H H' : Hp} {s : Shared} {h' : Heap}
theorem Cx.Ok.nofr (ok : X.Ok) {b : Addr} {o : Obj} (e : X.base.get? b = some o) : b ∉ X.fs := fun hb => by
 have := (ok.funs.mem hb).1
 rw [e] at this; cases this
theorem Inv.bs (I : Inv X pins σ H s) : ∀ b o, X.base.get? b = some o → s.heap.get? b = some o ∧ H b = none := fun b o e =>
 ⟨I.base.keep b o (I.ok.bs b o e).1 (I.ok.bs b o e).2 (I.ok.nofr e) (I.ok.noex b o e), I.base.free b o (I.ok.bs b o e).1 (I.ok.bs b o e).2 (I.ok.noex b o e)⟩
theorem Inv.bk (I : Inv X pins σ H s) : ∀ b o, X.base.get? b = some o → s.heap.get? b = some o := fun b o e => (I.bs b o e).1
theorem Inv.mod (I : Inv X pins σ H s) : Mod X.K X.mg X.base := I.ok.mod
theorem Inv.kIn (I : Inv X pins σ H s) : X.K.In s.heap := I.ok.mod.kin.keeps I.bk
theorem Inv.nolimit (I : Inv X pins σ H s) : s.heap.NoLimit := I.ok.mod.nolimit.keeps I.bk
theorem Inv.lt (I : Inv X pins σ H s) : X.env.locals < s.heap.objs.size := let ⟨_, hn, _⟩ := I.loc; hn.lt
theorem Inv.sz (I : Inv X pins σ H s) : X.s₀.heap.objs.size ≤ s.heap.objs.size := Nat.le_trans I.ok.above (Nat.le_of_lt I.lt)
theorem Inv.nofs (I : Inv X pins σ H s) {a : Addr} (h : s.heap.objs.size ≤ a) : a ∉ X.fs := fun hb => by
 obtain ⟨_, o, ho, _⟩ := I.ok.funs.mem hb
 exact absurd (Nat.lt_of_lt_of_le (Heap.lt_size ho) (Nat.le_trans I.sz h)) (Nat.lt_irrefl _)
theorem Inv.cne (I : Inv X pins σ H s) : ∀ x c, X.env.cells.lookup x = some c → c ≠ X.env.locals := fun x c e z => by
 obtain ⟨v, o, ho, hd⟩ := I.cell x c e
 obtain ⟨m, ⟨o', es, ep, ho', hd', _⟩, _⟩ := I.loc
 rw [z, ho'] at ho; cases ho; rw [hd'] at hd; cases hd
theorem Inv.funs (I : Inv X pins σ H s) : s.heap.FunFrames X.base X.outer := by
 have all : ∀ (l : List Env), (∀ b ∈ frs l, b ∈ X.fs) → X.s₀.heap.FunFrames X.base l → s.heap.FunFrames X.base l := by
  intro l
  induction l with
  | nil => intro _ _; trivial
  | cons env r ih =>
   intro hs hl
   obtain ⟨hk, ⟨L, o, hf, hn, ho, hd⟩, hr⟩ := hl
   have hL : L ∈ X.fs := hs L (by unfold frs; rw [List.filterMap_cons, hf]; exact List.mem_cons_self)
   obtain ⟨sl, e⟩ := I.base.slot L o ho (I.ok.frf L hL) hL fun z => I.ok.exfs L z hL
   exact ⟨hk, ⟨L, _, hf, hn, e, hd⟩, ih (fun b hb => hs b (by unfold frs; rw [List.filterMap_cons, hf]; exact List.mem_cons_of_mem _ hb)) hr⟩
 exact all X.outer (fun _ hb => hb) I.ok.funs
theorem Inv.stack (I : Inv X pins σ H s) : s.heap.FunFrames X.base X.stack := by
 rcases I.ok.stk with e | ⟨e, hf⟩
 ·rw [e]; exact I.funs
 ·rw [e]
  obtain ⟨m, hn, _⟩ := I.loc
  refine .cons (by rw [I.ok.kind]; decide) hf hn ?_ I.funs
  exact Heap.get?_none_of_le (Nat.le_trans I.ok.bsz I.ok.above)
theorem Inv.stkSub (I : Inv X pins σ H s) : ∀ b ∈ frs X.stack, b ∈ X.env.locals :: X.fs := fun b hb => by
 rcases I.ok.stk with e | ⟨e, hf⟩
 ·rw [e] at hb; exact List.mem_cons_of_mem _ hb
 ·rw [e] at hb
  unfold frs at hb
  rw [List.filterMap_cons, hf] at hb
  exact hb
theorem Inv.stkFree (I : Inv X pins σ H s) : ∀ b ∈ frs X.stack, H b = none := fun b hb => by
 rcases List.mem_cons.mp (I.stkSub b hb) with e | hb
 ·rw [e]; exact I.free
 ·obtain ⟨_, o, ho, _⟩ := I.ok.funs.mem hb
  exact I.base.free b o ho (I.ok.frf b hb) fun z => I.ok.exfs b z hb
theorem Inv.step {g' : Array GenState} {t' : Nat} {d' : Drawn} {ch : List Addr} (I : Inv X pins σ H s)
  (hch : ∀ b ∈ ch, (b ∈ X.ex ∨ X.s₀.heap.objs.size ≤ b) ∧ b ≠ X.env.locals ∧ (∀ x c, X.env.cells.lookup x = some c → c ≠ b) ∧ ∀ p ∈ X.pn ++ pins, p.1 ≠ b)
  (keep : ∀ b o, b ≠ X.env.locals → b ∉ X.fs → b ∉ ch → s.heap.get? b = some o → H b = none → h'.get? b = some o)
  (slot : ∀ b o, b ≠ X.env.locals → b ∈ X.fs → b ∉ ch → s.heap.get? b = some o → H b = none → ∃ sl, h'.get? b = some { o with slots := sl }) (free : ∀ b o, b ∉ ch → s.heap.get? b = some o → H b = none → H' b = none)
  (there : ∀ b o, b ∉ ch → s.heap.get? b = some o → ∃ o', h'.get? b = some o')
  (tups : ∀ b xs, H b = some (.tup xs) → H' b = some (.tup xs)) (frzs : ∀ b o u, H b = some (.frz o u) → H' b = some (.frz o u)) (tbls : ∀ b ps, H b = some (.tbl ps) → ∃ more, H' b = some (.tbl (ps ++ more)))
  (ns : ∀ m, s.heap.Ns X.env.locals m → h'.Ns X.env.locals m) (hok : HOk X.prog X.w H' h') (hg : AllBare g') :
  Inv X pins σ H' { s with heap := h', gens := g', drawn := d', toks := t' } := by
 have neL : ∀ b o, X.s₀.heap.get? b = some o → b ≠ X.env.locals := fun b o e => Nat.ne_of_lt (Nat.lt_of_lt_of_le (Heap.lt_size e) I.ok.above)
 have neC : ∀ b o, X.s₀.heap.get? b = some o → b ∉ X.ex → b ∉ ch := fun b o e hx hb => by
  rcases (hch b hb).1 with z | z
  ·exact hx z
  ·exact absurd (Nat.lt_of_lt_of_le (Heap.lt_size e) z) (Nat.lt_irrefl _)
 have cellK : ∀ x c, X.env.cells.lookup x = some c → ∀ v, s.heap.IsCell c v → h'.IsCell c v := fun x c e v ⟨o, ho, hd⟩ => by
  have nch : c ∉ ch := fun z => (hch c z).2.2.1 x c e rfl
  by_cases hc : c ∈ X.fs
  ·obtain ⟨sl, q⟩ := slot c o (I.cne x c e) hc nch ho (I.freeC x c e)
   exact ⟨_, q, hd⟩
  ·exact ⟨o, keep c o (I.cne x c e) hc nch ho (I.freeC x c e), hd⟩
 refine ⟨I.ok, I.os, hg, ⟨fun b o e n hb hx => ?_, fun b o e n hb hx => ?_, fun b o e n hx => ?_, fun b o e hx => ?_, fun b xs e => tups b xs (I.base.tups b xs e), fun b o xs e => frzs b o xs (I.base.frzs b o xs e), fun b ps e => ?_⟩, ?_, fun x c e => ?_, ?_, fun x c e => ?_, fun p hp => ?_, hok, I.len⟩
 ·exact keep b o (neL b o e) hb (neC b o e hx) (I.base.keep b o e n hb hx) (I.base.free b o e n hx)
 ·obtain ⟨sl, e1⟩ := I.base.slot b o e n hb hx
  obtain ⟨sl', e2⟩ := slot b _ (neL b o e) hb (neC b o e hx) e1 (I.base.free b o e n hx)
  exact ⟨sl', e2⟩
 ·obtain ⟨o', e1⟩ := I.base.there b o e hx
  exact free b o' (neC b o e hx) e1 (I.base.free b o e n hx)
 ·obtain ⟨o', e1⟩ := I.base.there b o e hx
  exact there b o' (neC b o e hx) e1
 ·obtain ⟨m1, e1⟩ := I.base.tbls b ps e
  obtain ⟨m2, e2⟩ := tbls b _ e1
  exact ⟨m1 ++ m2, by rw [e2, Array.append_assoc]⟩
 ·obtain ⟨m, hn, hl⟩ := I.loc
  refine ⟨m, ns m hn, fun i x v e1 e2 e3 => ?_⟩
  obtain ⟨u, r, l⟩ := hl i x v e1 e2 e3
  refine ⟨u, r, ?_⟩
  rcases l with l | ⟨k, c, e, z⟩
  ·exact .inl l
  ·exact .inr ⟨k, c, e, cellK x c e _ z⟩
 ·obtain ⟨v, z⟩ := I.cell x c e
  exact ⟨v, cellK x c e v z⟩
 ·obtain ⟨m, ⟨o, _, _, ho, _⟩, _⟩ := I.loc
  exact free _ o (fun z => (hch _ z).2.1 rfl) ho I.free
 ·obtain ⟨v, o, ho, hd⟩ := I.cell x c e
  exact free c o (fun z => (hch c z).2.2.1 x c e rfl) ho (I.freeC x c e)
 ·obtain ⟨e, n, ne, nf, d⟩ := I.pin p hp
  have nch : p.1 ∉ ch := fun z => (hch p.1 z).2.2.2 p hp rfl
  exact ⟨keep p.1 p.2 ne nf nch e n, free p.1 p.2 nch e n, ne, nf, d⟩
theorem Inv.un {t' : Nat} (I : Inv X pins σ H s) (u : Un X.fs [] H H' s.heap h') (hok : HOk X.prog X.w H' h') : Inv X pins σ H' { s with heap := h', toks := t' } := by
 obtain ⟨m, ⟨o, es, ep, ho, r⟩, _⟩ := id I.loc
 obtain ⟨sl, hL⟩ := u.any ho I.free (by simp)
 exact I.step (g' := s.gens) (d' := s.drawn) (ch := []) (fun _ z => nomatch z) (fun b o _ hb _ e n => u.keep b o e n hb (by simp)) (fun b o _ hb _ e n => u.slot b o e n hb (by simp)) (fun b o _ e n => u.free b o e n (by simp)) (fun b o _ e => u.there b o e (by simp)) u.tups u.frzs u.tbls (fun m' hm => by
  obtain ⟨o', es', ep', ho', r'⟩ := hm
  rw [ho] at ho'; cases ho'
  exact ⟨_, es', ep', hL, r'⟩) hok I.bare
theorem Inv.call {g' : Array GenState} {t' : Nat} {d' : Drawn} {ch : List Addr} (I : Inv X pins σ H s) (u : Un (frs X.stack) ch H H' s.heap h') (hok : HOk X.prog X.w H' h') (hg : AllBare g')
  (hch : ∀ b ∈ ch, (b ∈ X.ex ∨ X.s₀.heap.objs.size ≤ b) ∧ b ≠ X.env.locals ∧ (∀ x c, X.env.cells.lookup x = some c → c ≠ b) ∧ ∀ p ∈ X.pn ++ pins, p.1 ≠ b) :
  Inv X pins σ H' { s with heap := h', gens := g', drawn := d', toks := t' } := by
 obtain ⟨m, ⟨o, es, ep, ho, r⟩, _⟩ := id I.loc
 obtain ⟨sl, hL⟩ := u.any ho I.free fun z => (hch _ z).2.1 rfl
 exact I.step (ch := ch) hch (fun b o hL hb hc e n => u.keep b o e n (fun z => (List.mem_cons.mp (I.stkSub b z)).elim hL hb) hc) (fun b o _ _ hc e n => u.any e n hc) (fun b o hc e n => u.free b o e n hc) (fun b o hc e => u.there b o e hc) u.tups u.frzs u.tbls (fun m' hm => by
  obtain ⟨o', es', ep', ho', r'⟩ := hm
  rw [ho] at ho'; cases ho'
  exact ⟨_, es', ep', hL, r'⟩) hok hg
theorem Inv.turned {t' : Nat} {it : Addr} (I : Inv X pins σ H s) (k : ∀ b o, b ≠ it → s.heap.get? b = some o → h'.get? b = some o) (hn : H it = none) (hL : it ≠ X.env.locals)
  (h1 : it ∈ X.ex ∨ X.s₀.heap.objs.size ≤ it) (h2 : ∀ x c, X.env.cells.lookup x = some c → c ≠ it) (h3 : ∀ p ∈ X.pn ++ pins, p.1 ≠ it) : Inv X pins σ H { s with heap := h', toks := t' } := by
 have nit : ∀ b u, H b = some u → b ≠ it := fun b u e z => by rw [z, hn] at e; cases e
 refine I.step (g' := s.gens) (d' := s.drawn) (ch := [it]) (fun b hb => ?_) (fun b o _ _ hc e _ => k b o (fun z => hc (by simp [z])) e) (fun b o _ _ hc e _ => ⟨o.slots, k b o (fun z => hc (by simp [z])) e⟩) (fun _ _ _ _ n => n)
  (fun b o hc e => ⟨o, k b o (fun z => hc (by simp [z])) e⟩) (fun _ _ e => e) (fun _ _ _ e => e) (fun b ps e => ⟨#[], by rw [e]; simp⟩) (fun m hm => ?_) (fun b u e => ?_) I.bare
 ·have e : b = it := by simpa using hb
  subst e
  exact ⟨h1, hL, h2, h3⟩
 ·obtain ⟨o, es, ep, ho, r⟩ := hm
  exact ⟨o, es, ep, k _ o (Ne.symm hL) ho, r⟩
 ·refine (I.hok b u e).stay (fun c v hc q => k c v ?_ q) (fun _ q => q) fun _ _ q => q
  rcases hc with z | z
  ·rw [z]; exact nit b u e
  ·exact nit c _ z
theorem Inv.tok (I : Inv X pins σ H s) (t : Nat) : Inv X pins σ H { s with toks := t } := I.un (h' := s.heap) (t' := t) Un.refl I.hok
theorem Inv.kept {t' : Nat} (I : Inv X pins σ H s) (k : ∀ b u, s.heap.get? b = some u → h'.get? b = some u) : Inv X pins σ H { s with heap := h', toks := t' } := I.un (Un.kept k) (I.hok.kept k)
theorem Inv.laid {a : Addr} {o : HO} {t' : Nat} (I : Inv X pins σ H s) (k : ∀ b u, s.heap.get? b = some u → h'.get? b = some u) (hp : s.heap.objs.size ≤ a) (new : ObjOk X.prog X.w (upd H a o) h' a o) :
  Inv X pins σ (upd H a o) { s with heap := h', toks := t' } := I.un (Un.laid k hp (I.hok.fresh hp)) (I.hok.laid k hp new)
theorem Inv.write {x e : Addr} {o : HO} {t' : Nat} (I : Inv X pins σ H s) (mu : Mut (H x)) (he : e = x ∨ H e = some (.own x)) (k : ∀ b u, b ≠ e → s.heap.get? b = some u → h'.get? b = some u) (heo : ∃ u, h'.get? e = some u)
  (new : ObjOk X.prog X.w (upd H x o) h' x o) : Inv X pins σ (upd H x o) { s with heap := h', toks := t' } := I.un (Un.write mu he k heo) (I.hok.write mu he k heo new)
theorem Inv.pins_of {pins' : List (Addr × Obj)} (I : Inv X pins σ H s) (h : ∀ p ∈ pins', s.heap.get? p.1 = some p.2 ∧ H p.1 = none ∧ p.1 ≠ X.env.locals ∧ p.1 ∉ X.fs ∧ ∀ v, p.2.data ≠ .cell v) : Inv X pins' σ H s :=
 ⟨I.ok, I.os, I.bare, I.base, I.loc, I.cell, I.free, I.freeC, fun p hp => (List.mem_append.mp hp).elim (fun z => I.pin p (List.mem_append_left _ z)) (h p), I.hok, I.len⟩
theorem nodup_ix {N : List Str} (hN : N.Nodup) {i j : Nat} {x : Str} (a : N[i]? = some x) (b : N[j]? = some x) : i = j := by
 obtain ⟨h1, e1⟩ := List.getElem?_eq_some_iff.mp a
 obtain ⟨h2, e2⟩ := List.getElem?_eq_some_iff.mp b
 exact (List.getElem_inj hN).mp (e1.trans e2.symm)
theorem store_ok2 {M : Model} {A : Around} {E : Value → Shared → Prop} {i : Nat} {x : Str} {v : V} {u : Value} {Q : Unit → Shared → Prop} (I : Inv X pins σ H s) (hN : X.N.Nodup) (hi : X.N[i]? = some x) (hx : Loc X.env.scope x) (r : RelV v u)
  (h : ∀ s', Inv X pins (σ.set i (some v)) H s' → (∃ a, Heap.SameBut a s.heap s'.heap ∧ (a = X.env.locals ∨ X.env.cells.lookup x = some a)) → Q () s') (hf : X.fn x = true ∨ X.env.scope.names.lookup x = some .local := by first | exact .inl rfl | exact .inr rfl | assumption) : wpAny M A (storeName X.env x u) Q E s := by
 obtain ⟨m, hn, hl⟩ := id I.loc
 have hcls : (X.env.scope.kind == .class || (X.env.scope.kind == .module && X.env.locals != X.env.globals)) = false := by rw [I.ok.kind]; rfl
 have hiσ : i < σ.length := by rw [I.len]; exact (List.getElem?_eq_some_iff.mp hi).1
 have cne := I.cne
 have tracked : ∀ {a : Addr} {h' : Heap}, (∃ o, s.heap.get? a = some o ∧ H a = none) → Heap.SameBut a s.heap h' → HOk X.prog X.w H h' := fun {a h'} ha hs b ob e => by
  obtain ⟨_, _, hfree⟩ := ha
  refine (I.hok b ob e).stay (fun c w' hc q => (hs.2 c ?_).trans q) (fun _ q => q) fun _ _ q => q
  rintro rfl
  rcases hc with rfl | hc
  ·rw [hfree] at e; cases e
  ·rw [hfree] at hc; cases hc
 rcases hx with hk | hk
 ·refine wpAny_storeName_local hk hn (fun h' hn' hs => ?_) hcls
  obtain ⟨oL, _, _, hoL, _⟩ := id hn
  refine h _ ⟨I.ok, I.os, I.bare, ⟨fun b o e n hb hx => ?_, fun b o e n hb hx => ?_, I.base.free, fun b o e hx => ?_, I.base.tups, I.base.frzs, I.base.tbls⟩, ⟨_, hn', fun j y v' e1 e2 e3 => ?_⟩, fun y c e => ?_, I.free, I.freeC, fun p hp => ?_, tracked ⟨oL, hoL, I.free⟩ hs, by simpa using I.len⟩ ⟨_, hs, .inl rfl⟩
  ·exact (hs.2 b (Nat.ne_of_lt (Nat.lt_of_lt_of_le (Heap.lt_size e) I.ok.above))).trans (I.base.keep b o e n hb hx)
  ·obtain ⟨sl, e1⟩ := I.base.slot b o e n hb hx
   exact ⟨sl, (hs.2 b (Nat.ne_of_lt (Nat.lt_of_lt_of_le (Heap.lt_size e) I.ok.above))).trans e1⟩
  ·obtain ⟨o', e1⟩ := I.base.there b o e hx
   exact ⟨o', (hs.2 b (Nat.ne_of_lt (Nat.lt_of_lt_of_le (Heap.lt_size e) I.ok.above))).trans e1⟩
  ·by_cases hj : j = i
   ·subst hj
    rw [hi] at e1; cases e1
    rw [List.getElem?_set_self hiσ] at e2
    cases e2
    exact ⟨u, r, .inl ⟨hk, by simp⟩⟩
   ·rw [List.getElem?_set_ne (Ne.symm hj)] at e2
    obtain ⟨u', r', q⟩ := hl j y v' e1 e2 e3
    refine ⟨u', r', ?_⟩
    rcases q with ⟨k, e⟩ | ⟨k, c, e, z⟩
    ·refine .inl ⟨k, ?_⟩
     have : y ≠ x := fun e => hj (nodup_ix hN e1 (e ▸ hi))
     simp [this, e]
    ·exact .inr ⟨k, c, e, z.sameBut hs (cne y c e)⟩
  ·obtain ⟨w', z⟩ := I.cell y c e
   exact ⟨w', z.sameBut hs (cne y c e)⟩
  ·obtain ⟨e, n, ne, nf, d⟩ := I.pin p hp
   exact ⟨(hs.2 p.1 ne).trans e, n, ne, nf, d⟩
 ·have hfn : X.fn x = true := by
   rcases hf with z | z
   ·exact z
   ·rw [z] at hk; cases hk
  obtain ⟨c, hc⟩ := I.ok.has x (.inl hk)
  obtain ⟨w', z⟩ := I.cell x c hc
  refine wpAny_storeName_cell I.ok.kind hk hc z (fun h' hc' hs => ?_)
  obtain ⟨oc, hoc, hocd⟩ := id z
  refine h { s with heap := h' } ⟨I.ok, I.os, I.bare, ⟨fun b o e n hb hx => ?_, fun b o e n hb hx => ?_, I.base.free, fun b o e hx => ?_, I.base.tups, I.base.frzs, I.base.tbls⟩, ⟨m, hn.sameBut hs (Ne.symm (cne x c hc)), fun j y v' e1 e2 e3 => ?_⟩, fun y c' e => ?_, I.free, I.freeC, fun p hp => ?_, tracked ⟨oc, hoc, I.freeC x c hc⟩ hs, by simpa using I.len⟩ ⟨c, hs, .inr hc⟩
  ·exact (hs.2 b (Nat.ne_of_lt (Nat.lt_of_lt_of_le (Heap.lt_size e) (I.ok.cab x c hfn hc)))).trans (I.base.keep b o e n hb hx)
  ·obtain ⟨sl, e1⟩ := I.base.slot b o e n hb hx
   exact ⟨sl, (hs.2 b (Nat.ne_of_lt (Nat.lt_of_lt_of_le (Heap.lt_size e) (I.ok.cab x c hfn hc)))).trans e1⟩
  ·obtain ⟨o', e1⟩ := I.base.there b o e hx
   exact ⟨o', (hs.2 b (Nat.ne_of_lt (Nat.lt_of_lt_of_le (Heap.lt_size e) (I.ok.cab x c hfn hc)))).trans e1⟩
  ·by_cases hj : j = i
   ·subst hj
    rw [hi] at e1; cases e1
    rw [List.getElem?_set_self hiσ] at e2
    cases e2
    exact ⟨u, r, .inr ⟨.inl hk, c, hc, hc'⟩⟩
   ·rw [List.getElem?_set_ne (Ne.symm hj)] at e2
    obtain ⟨u', r', q⟩ := hl j y v' e1 e2 e3
    refine ⟨u', r', ?_⟩
    rcases q with q | ⟨k, c', e, z'⟩
    ·exact .inl q
    ·refine .inr ⟨k, c', e, z'.sameBut hs ?_⟩
     rintro rfl
     exact hj (nodup_ix hN e1 (I.ok.inj _ _ _ e hc ▸ hi))
  ·by_cases hcc : c' = c
   ·subst hcc; exact ⟨_, hc'⟩
   ·obtain ⟨w2, z2⟩ := I.cell y c' e
    exact ⟨w2, z2.sameBut hs hcc⟩
  ·obtain ⟨e, n, ne, nf, d⟩ := I.pin p hp
   refine ⟨(hs.2 p.1 ?_).trans e, n, ne, nf, d⟩
   intro q
   rw [q, hoc] at e
   have q' : oc = p.2 := Option.some.inj e
   exact d w' (by rw [← q']; exact hocd)
theorem store_ok {M : Model} {A : Around} {E : Value → Shared → Prop} {i : Nat} {x : Str} {v : V} {u : Value} {Q : Unit → Shared → Prop} (I : Inv X pins σ H s) (hN : X.N.Nodup) (hi : X.N[i]? = some x) (hx : Loc X.env.scope x) (r : RelV v u)
  (h : ∀ s', Inv X pins (σ.set i (some v)) H s' → Q () s') (hf : X.fn x = true ∨ X.env.scope.names.lookup x = some .local := by first | exact .inl rfl | exact .inr rfl | assumption) : wpAny M A (storeName X.env x u) Q E s :=
 store_ok2 I hN hi hx r (fun s' I' _ => h s' I') hf
theorem Inv.call' {s' : Shared} {ch : List Addr} (I : Inv X pins σ H s) (ho : s'.os = s.os) (u : Un (frs X.stack) ch H H' s.heap s'.heap) (hok : HOk X.prog X.w H' s'.heap) (hg : AllBare s'.gens)
  (hch : ∀ b ∈ ch, (b ∈ X.ex ∨ X.s₀.heap.objs.size ≤ b) ∧ b ≠ X.env.locals ∧ (∀ x c, X.env.cells.lookup x = some c → c ≠ b) ∧ ∀ p ∈ X.pn ++ pins, p.1 ≠ b) : Inv X pins σ H' s' := by
 obtain ⟨h', g', d', t', o'⟩ := s'
 have e : o' = s.os := ho
 subst e
 exact I.call (g' := g') (t' := t') (d' := d') u hok hg hch
end
abbrev XK := Value → Option Addr → Hp → Prop
abbrev St := List (Option V)
abbrev VK := V → Hp → Prop
abbrev TE := St → Hp → VK → Prop
abbrev TT := St → Hp → (Bool → Hp → Prop) → Prop
abbrev TA := St → Hp → (List V → Hp → Prop) → Prop
structure Ends where
 nx : St → Hp → Prop
 rt : VK
 bk : St → Hp → Prop := fun _ _ => False
 ct : St → Hp → Prop := fun _ _ => False
abbrev TS := Ends → St → Hp → Prop
def EP (X : Cx) (pins : List (Addr × Obj)) (σ : St) (Q : VK) (u : Value) (s' : Shared) : Prop := ∃ v H', Inv X pins σ H' s' ∧ RelV v u ∧ Q v H'
def TP (X : Cx) (pins : List (Addr × Obj)) (σ : St) (Q : Bool → Hp → Prop) (b : Bool) (s' : Shared) : Prop := ∃ H', Inv X pins σ H' s' ∧ Q b H'
def AP (X : Cx) (pins : List (Addr × Obj)) (σ : St) (Q : List V → Hp → Prop) (us : List Value) (s' : Shared) : Prop := ∃ vs H', Inv X pins σ H' s' ∧ Vals vs us ∧ Q vs H'
def SP (X : Cx) (pins : List (Addr × Obj)) (D : Ends) (f : Flow) (s' : Shared) : Prop :=
 match f with
 | .next => ∃ σ' H', Inv X pins σ' H' s' ∧ D.nx σ' H'
 | .brk => ∃ σ' H', Inv X pins σ' H' s' ∧ D.bk σ' H'
 | .cont => ∃ σ' H', Inv X pins σ' H' s' ∧ D.ct σ' H'
 | .ret u => ∃ v σ' H', Inv X pins σ' H' s' ∧ RelV v u ∧ D.rt v H'
def PE (X : Cx) (e : Expr) (t : TE) : Prop :=
 ∀ (pins : List (Addr × Obj)) (s : Shared) (σ : St) (H : Hp) (Q : VK), Inv X pins σ H s → t σ H Q → wpAny (model X.prog X.w) X.A (eval e X.env) (EP X pins σ Q) X.xe s
def PT (X : Cx) (e : Expr) (t : TT) : Prop :=
 ∀ (pins : List (Addr × Obj)) (s : Shared) (σ : St) (H : Hp) (Q : Bool → Hp → Prop), Inv X pins σ H s → t σ H Q → wpAny (model X.prog X.w) X.A (isTrue e X.env (eval e X.env)) (TP X pins σ Q) X.xe s
def PW (X : Cx) (e : Expr) (t : TT) : Prop :=
 ∀ (whole : Sem Value) (pins : List (Addr × Obj)) (s : Shared) (σ : St) (H : Hp) (Q : Bool → Hp → Prop), Inv X pins σ H s → t σ H Q → wpAny (model X.prog X.w) X.A (isTrue e X.env whole) (TP X pins σ Q) X.xe s
theorem PW.pt {X : Cx} {e : Expr} {t : TT} (h : PW X e t) : PT X e t := h _
def PA (X : Cx) (es : List Expr) (t : TA) : Prop :=
 ∀ (pos : Pos) (pins : List (Addr × Obj)) (s : Shared) (σ : St) (H : Hp) (Q : List V → Hp → Prop), Inv X pins σ H s → t σ H Q → wpAny (model X.prog X.w) X.A (spliced (backTo pos (starEach es X.env))) (AP X pins σ Q) X.xe s
def PS (X : Cx) (st : Stmt) (t : TS) : Prop :=
 ∀ (pins : List (Addr × Obj)) (s : Shared) (σ : St) (H : Hp) (D : Ends), Inv X pins σ H s → t D σ H → wpAny (model X.prog X.w) X.A (exec st X.env) (SP X pins D) X.xe s
def PSs (X : Cx) (st : List Stmt) (t : TS) : Prop :=
 ∀ (pins : List (Addr × Obj)) (s : Shared) (σ : St) (H : Hp) (D : Ends), Inv X pins σ H s → t D σ H → wpAny (model X.prog X.w) X.A (execs st X.env) (SP X pins D) X.xe s
theorem thn {α : Type} {t : Sem α} {Q Q' : α → Shared → Prop} {M : Model} {A : Around} {E : Value → Shared → Prop} {s : Shared} (h : wpAny M A t Q E s) (hQ : ∀ a s, Q a s → Q' a s) : wpAny M A t Q' E s := wpAny_mono h hQ fun _ _ x => x
end L2
namespace L2
open PySem PySem.Spec PyProof.Rows
section
variable {X : Cx}
theorem bin {a b : Expr} {ta tb : TE} (ha : PE X a ta) (hb : PE X b tb) {pins : List (Addr × Obj)} {s : Shared} {σ : St} {H : Hp} {R : V → V → Hp → Prop} (I : Inv X pins σ H s) (h : ta σ H fun x H1 => tb σ H1 fun y H2 => R x y H2)
  {α : Type} {Q : α → Shared → Prop} {f : Value → Value → Sem α}
  (hf : ∀ v u s2 x y H2, Inv X pins σ H2 s2 → RelV x v → RelV y u → R x y H2 → wpAny (model X.prog X.w) X.A (f v u) Q X.xe s2) :
  wpAny (model X.prog X.w) X.A (eval a X.env) (fun v s₁ => wpAny (model X.prog X.w) X.A (eval b X.env) (fun u s₂ => wpAny (model X.prog X.w) X.A (f v u) Q X.xe s₂) X.xe s₁) X.xe s := by
 refine thn (ha pins s σ H _ I h) fun v s1 ⟨x, H1, I1, r1, q1⟩ => ?_
 refine thn (hb pins s1 σ H1 _ I1 q1) fun u s2 ⟨y, H2, I2, r2, q2⟩ => ?_
 exact hf v u s2 x y H2 I2 r1 r2 q2
def tVar (i : Nat) : TE := fun σ H Q => ∃ v, σ[i]? = some (some v) ∧ Q v H
def tC (v : V) : TE := fun _ H Q => Q v H
theorem pe_var {i : Nat} {x : Str} {pos : Pos} (hN : X.N[i]? = some x) (hv : Vis X.env.scope x) (hd : (x == ("__debug__" : Str)) = false := by decide) (hcd : (x == ("__classdict__" : Str)) = false := by decide) : PE X (.Name x pos) (tVar i) := by
 intro pins s σ H Q I h
 obtain ⟨v, e, h⟩ := h
 obtain ⟨m, hn, hl⟩ := I.loc
 obtain ⟨u, r, l⟩ := hl i x v hN e hv
 have fin : EP X pins σ Q u s := ⟨v, H, I, r, h⟩
 rcases l with ⟨hk, hm⟩ | ⟨hk, c, hc, hcell⟩
 ·exact wpAny_Name (wpAny_loadName_local I.ok.kind hk hn hm fin) hd
 ·rcases hk with hk | hk
  ·exact wpAny_Name (wpAny_loadName_cell I.ok.kind hk hc hcell fin) hd
  ·exact wpAny_Name (wpAny_loadName_free I.ok.kind hk hc hcell fin hcd) hd
theorem pe_int {i j pos} : PE X (.Constant (.int i) j pos) (tC (.int i)) := fun _ _ _ H _ I h => wpAny_Constant_int ⟨.int i, H, I.tok _, ⟨_, rfl⟩, h⟩
theorem pe_bl {b j pos} : PE X (.Constant (.bool b) j pos) (tC (.bl b)) := fun _ _ _ H _ I h => Constant_bool ⟨.bl b, H, I, rfl, h⟩
theorem pe_non {j pos} : PE X (.Constant .none j pos) (tC .non) := fun _ _ _ H _ I h => Constant_none ⟨.non, H, I, rfl, h⟩
def Gl (X : Cx) (x : Str) : Prop := X.env.kindOf x = some .globalImplicit
theorem ld_glob {E : Value → Shared → Prop} {pins : List (Addr × Obj)} {s : Shared} {σ : St} {H : Hp} {x : Str} {u : Value} {pos : Pos} {Q : Value → Shared → Prop} (I : Inv X pins σ H s) (hg : Gl X x) (hm : X.mg x = some u) (h : Q u s)
  (hd : (x == ("__debug__" : Str)) = false := by decide) : wpAny (model X.prog X.w) X.A (eval (.Name x pos) X.env) Q E s :=
 Calls.Name_function_global I.ok.kind hg (Calls.loadGlobal_global (by rw [I.ok.glob]; exact I.mod.glob.keeps I.bk) hm h) hd
theorem ld_blt {E : Value → Shared → Prop} {pins : List (Addr × Obj)} {s : Shared} {σ : St} {H : Hp} {x : Str} {u : Value} {pos : Pos} {Q : Value → Shared → Prop} (I : Inv X pins σ H s) (hg : Gl X x) (hm : X.mg x = none) (hv : bootBuiltins x = some u) (h : Q u s)
  (hn : x ≠ "__name__" := by decide) (hd : (x == ("__debug__" : Str)) = false := by decide) : wpAny (model X.prog X.w) X.A (eval (.Name x pos) X.env) Q E s := by
 obtain ⟨mb, h1, h2⟩ := I.mod.blt
 exact Calls.Name_function_global I.ok.kind hg (Calls.loadGlobal_builtin (by rw [I.ok.glob]; exact I.mod.glob.keeps I.bk) hm (by rw [I.ok.blt]; exact h1.keeps I.bk) ((h2 x hn).trans hv) h) hd
theorem pe_bltn {x : Str} {v : V} {u : Value} {pos : Pos} (hg : Gl X x) (hm : X.mg x = none) (hv : bootBuiltins x = some u) (r : RelV v u) (hn : x ≠ "__name__" := by decide) (hd : (x == ("__debug__" : Str)) = false := by decide) : PE X (.Name x pos) (tC v) :=
 fun _ _ _ H _ I h => ld_blt I hg hm hv ⟨v, H, I, r, h⟩ hn hd
variable {a b : Expr} {ta tb : TE} {pos : Pos}
variable {tA tB' : TT} {rest : List Expr}
def tAnd (t u : TT) : TT := fun σ H Q => t σ H fun c H1 => if c = true then u σ H1 Q else Q false H1
def tOr (t u : TT) : TT := fun σ H Q => t σ H fun c H1 => if c = true then Q true H1 else u σ H1 Q
def tNot (t : TT) : TT := fun σ H Q => t σ H fun c H1 => Q (!c) H1
theorem pw_and1 (ha : PT X a tA) : PW X (.BoolOp .And [a] pos) tA := by
 intro wh pins s σ H Q I h
 refine isTrue_and (thn (ha pins s σ H Q I h) fun c s1 e => ?_)
 cases c with
 | true => exact isTrue_and_nil e
 | false => exact e
theorem pw_or1 (ha : PT X a tA) : PW X (.BoolOp .Or [a] pos) tA := by
 intro wh pins s σ H Q I h
 refine isTrue_or (thn (ha pins s σ H Q I h) fun c s1 e => ?_)
 cases c with
 | false => exact isTrue_or_nil e
 | true => exact e
theorem pw_and (ha : PT X a tA) (hb : PW X (.BoolOp .And (b :: rest) pos) tB') : PW X (.BoolOp .And (a :: b :: rest) pos) (tAnd tA tB') := by
 intro wh pins s σ H Q I h
 refine isTrue_and (thn (ha pins s σ H _ I h) fun c s1 ⟨H1, I1, q1⟩ => ?_)
 cases c with
 | true => exact hb wh pins s1 σ H1 Q I1 q1
 | false => exact ⟨H1, I1, q1⟩
theorem pw_or (ha : PT X a tA) (hb : PW X (.BoolOp .Or (b :: rest) pos) tB') : PW X (.BoolOp .Or (a :: b :: rest) pos) (tOr tA tB') := by
 intro wh pins s σ H Q I h
 refine isTrue_or (thn (ha pins s σ H _ I h) fun c s1 ⟨H1, I1, q1⟩ => ?_)
 cases c with
 | true => exact ⟨H1, I1, q1⟩
 | false => exact hb wh pins s1 σ H1 Q I1 q1
theorem pt_not (ha : PT X a tA) : PT X (.UnaryOp .Not a pos) (tNot tA) := by
 intro pins s σ H Q I h
 exact isTrue_not (ha pins s σ H (fun c H1 => Q (!c) H1) I h)
def tAndV (ta tb : TE) : TE := fun σ H Q => ta σ H fun x H1 => ∃ c, x = .bl c ∧ if c = true then tb σ H1 Q else Q (.bl false) H1
def tNotV (ta : TE) : TE := fun σ H Q => ta σ H fun x H1 => ∃ c, x = .bl c ∧ Q (.bl (!c)) H1
theorem pe_one {op} {t : TE} (h : PE X a t) : PE X (.BoolOp op [a] pos) t := fun pins s σ H Q I hw => BoolOp_one (h pins s σ H Q I hw)
theorem pe_and (ha : PE X a ta) (hb : PE X (.BoolOp .And (b :: rest) pos) tb) : PE X (.BoolOp .And (a :: b :: rest) pos) (tAndV ta tb) := by
 intro pins s σ H Q I h
 refine BoolOp_and (thn (ha pins s σ H _ I h) fun v s1 ⟨x, H1, I1, r1, q1⟩ => ?_)
 obtain ⟨c, rfl, q1⟩ := q1
 cases r1
 refine wpAny_truthy_bool ?_
 cases c with
 | true => exact hb pins s1 σ H1 Q I1 q1
 | false => exact ⟨.bl false, H1, I1, rfl, q1⟩
theorem pe_not (ha : PE X a ta) : PE X (.UnaryOp .Not a pos) (tNotV ta) := by
 intro pins s σ H Q I h
 refine UnaryOp_ (thn (ha pins s σ H _ I h) fun v s1 ⟨x, H1, I1, r1, q1⟩ => ?_)
 obtain ⟨c, rfl, q1⟩ := q1
 cases r1
 exact not_of (wpAny_truthy_bool ⟨.bl (!c), H1, I1, rfl, q1⟩)
def tIf (t : TT) (ta tb : TE) : TE := fun σ H Q => t σ H fun c H1 => if c = true then ta σ H1 Q else tb σ H1 Q
theorem pe_ifExp {c : Expr} (hc : PT X c tA) (ha : PE X a ta) (hb : PE X b tb) : PE X (.IfExp c a b pos) (tIf tA ta tb) := by
 intro pins s σ H Q I h
 refine wpAny_IfExp (thn (hc pins s σ H _ I h) fun d s1 ⟨H1, I1, q1⟩ => ?_)
 cases d with
 | true => exact ha pins s1 σ H1 Q I1 q1
 | false => exact hb pins s1 σ H1 Q I1 q1
end
end L2
namespace L2
open PySem PySem.Spec PyProof.Rows
def SqL (K : PySem.W.Frag) (H : Hp) (a : Addr) (xs : List V) : Prop :=
 Rd H a (.lst xs) ∨
  ∃ (o : Obj) (its : Array Value) (n : Nat), K.lookup a = some o ∧ o.cls = .type "list" ∧ o.dict = none ∧ o.data = .seq its n ∧ its.size ≤ sizeLine ∧ Vals xs its.toList
def SqT (K : PySem.W.Frag) (H : Hp) (a : Addr) (xs : List V) : Prop :=
 Rd H a (.tup xs) ∨
  ∃ (o : Obj) (its : Array Value) (n : Nat), K.lookup a = some o ∧ o.cls = .type "tuple" ∧ o.data = .seq its n ∧ its.size ≤ sizeLine ∧ Vals xs its.toList
def absV : Value → Option V
 | .none => some .non
 | .bool b => some (.bl b)
 | .int i _ => some (.int i)
 | .str x _ => some (.str x)
 | .bytes b _ => some (.byt b)
 | .float b _ => some (.flt b)
 | .ref a => some (.ref a)
 | .type n => some (.ty n)
 | _ => none
theorem RelV.abs {x : V} {u : Value} (r : RelV x u) : absV u = some x := by
 cases x with
 | non => cases r; rfl
 | bl _ => cases r; rfl
 | int _ => obtain ⟨t, rfl⟩ := r; rfl
 | str _ => obtain ⟨t, rfl⟩ := r; rfl
 | byt _ => obtain ⟨t, rfl⟩ := r; rfl
 | flt _ => obtain ⟨t, rfl⟩ := r; rfl
 | ref _ => cases r; rfl
 | ty _ => cases r; rfl
theorem RelV.inj {x y : V} {u : Value} (r : RelV x u) (q : RelV y u) : x = y := Option.some.inj (r.abs.symm.trans q.abs)
theorem Vals.inj : ∀ {xs ys : List V} {us : List Value}, Vals xs us → Vals ys us → xs = ys
 | _, _, _, .nil, .nil => rfl
 | _, _, _, .cons r t, .cons r' t' => by rw [r.inj r', Vals.inj t t']
section
variable {X : Cx} {pins : List (Addr × Obj)} {σ : St} {H : Hp} {s : Shared} {a : Addr} {xs ys : List V}
theorem SqL.of {K : PySem.W.Frag} (h : H a = some (.lst xs)) : SqL K H a xs := .inl (.inl h)
theorem SqT.of {K : PySem.W.Frag} (h : H a = some (.tup xs)) : SqT K H a xs := .inl (.inl h)
theorem Inv.list (I : Inv X pins σ H s) (h : SqL X.K H a xs) : ∃ its : List Value, Vals xs its ∧ PlainL s.heap a its.toArray ∧ xs.length ≤ sizeLine := by
 rcases h with h | ⟨o, its, n, hk, hc, hd, hs, hz, r⟩
 ·obtain ⟨z, its, n, r, e⟩ := h.ok I.hok
  exact ⟨its, r, ⟨_, n, e, rfl, rfl, rfl⟩, z⟩
 ·refine ⟨its.toList, r, ⟨o, n, I.kIn a o hk, hc, hd, by simpa using hs⟩, ?_⟩
  have e := r.length
  simp only [Array.length_toList] at e
  lia
theorem Inv.tuple (I : Inv X pins σ H s) (h : SqT X.K H a xs) : ∃ its : List Value, Vals xs its ∧ IsTup s.heap a its.toArray ∧ xs.length ≤ sizeLine := by
 rcases h with h | ⟨o, its, n, hk, hc, hs, hz, r⟩
 ·obtain ⟨z, its, r, p⟩ := h.ok I.hok
  exact ⟨its, r, p, z⟩
 ·refine ⟨its.toList, r, ⟨o, I.kIn a o hk, hc, n, by simpa using hs⟩, ?_⟩
  have e := r.length
  simp only [Array.length_toList] at e
  lia
theorem Inv.list_inj (I : Inv X pins σ H s) (h : SqL X.K H a xs) (h' : SqL X.K H a ys) : xs = ys := by
 obtain ⟨its, r, ⟨o, n, e, _, _, d⟩, _⟩ := I.list h
 obtain ⟨its', r', ⟨o', n', e', _, _, d'⟩, _⟩ := I.list h'
 rw [e] at e'; cases e'
 rw [d] at d'
 injection d' with d1 _
 have : its = its' := by simpa using congrArg Array.toList d1
 subst this
 exact r.inj r'
theorem Inv.tuple_inj (I : Inv X pins σ H s) (h : SqT X.K H a xs) (h' : SqT X.K H a ys) : xs = ys := by
 obtain ⟨its, r, ⟨o, e, _, n, d⟩, _⟩ := I.tuple h
 obtain ⟨its', r', ⟨o', e', _, n', d'⟩, _⟩ := I.tuple h'
 rw [e] at e'; cases e'
 rw [d] at d'
 injection d' with d1 _
 have : its = its' := by simpa using congrArg Array.toList d1
 subst this
 exact r.inj r'
end
abbrev Cx.wish (X : Cx) (E : Value → Shared → Prop) : Cx := { X with xe := E }
abbrev Cx.nox (X : Cx) : Cx := X.wish fun _ _ => False
theorem Cx.Ok.wish {X : Cx} (ok : X.Ok) (E : Value → Shared → Prop) : (X.wish E).Ok :=
 ⟨ok.mod, ok.kind, ok.glob, ok.blt, ok.above, ok.inj, ok.has, ok.cab, ok.hd, ok.frames, ok.stk, ok.exf, ok.bs, ok.bsz, ok.noex, ok.exfs, ok.funs, ok.frf⟩
theorem Cx.Ok.unwish {X : Cx} {E : Value → Shared → Prop} (ok : (X.wish E).Ok) : X.Ok :=
 ⟨ok.mod, ok.kind, ok.glob, ok.blt, ok.above, ok.inj, ok.has, ok.cab, ok.hd, ok.frames, ok.stk, ok.exf, ok.bs, ok.bsz, ok.noex, ok.exfs, ok.funs, ok.frf⟩
section
variable {X : Cx} {pins : List (Addr × Obj)} {σ : St} {H : Hp} {s : Shared} {E : Value → Shared → Prop}
theorem Inv.wish (I : Inv X pins σ H s) (E : Value → Shared → Prop) : Inv (X.wish E) pins σ H s := ⟨I.ok.wish E, I.os, I.bare, I.base, I.loc, I.cell, I.free, I.freeC, I.pin, I.hok, I.len⟩
theorem Inv.unwish (I : Inv (X.wish E) pins σ H s) : Inv X pins σ H s := ⟨I.ok.unwish, I.os, I.bare, I.base, I.loc, I.cell, I.free, I.freeC, I.pin, I.hok, I.len⟩
theorem SP.unwish {D : Ends} {f : Flow} {s' : Shared} (h : SP (X.wish E) pins D f s') : SP X pins D f s' := by
 cases f with
 | next => obtain ⟨σ', H', I, q⟩ := h; exact ⟨σ', H', I.unwish, q⟩
 | brk => obtain ⟨σ', H', I, q⟩ := h; exact ⟨σ', H', I.unwish, q⟩
 | cont => obtain ⟨σ', H', I, q⟩ := h; exact ⟨σ', H', I.unwish, q⟩
 | ret u => obtain ⟨v, σ', H', I, r, q⟩ := h; exact ⟨v, σ', H', I.unwish, r, q⟩
theorem PSs.nox {st : List Stmt} {t : TS} (h : PSs X.nox st t) : PSs X st t := fun pins s σ H D I hw =>
 wpAny_mono (h pins s σ H D (I.wish _) hw) (fun _ _ q => q.unwish) fun _ _ z => False.elim z
end
section
variable {X : Cx} {st : Stmt} {rest : List Stmt} {t u : TS} {e : Expr} {te : TE} {pos : Pos}
def tNext : TS := fun D σ H => D.nx σ H
def tSeq (t u : TS) : TS := fun D σ H => t { D with nx := u D } σ H
theorem pss_nil : PSs X [] tNext := fun _ _ σ H _ I h => wpAny_execs_nil ⟨σ, H, I, h⟩
theorem pss_cons (h1 : PS X st t) (h2 : PSs X rest u) : PSs X (st :: rest) (tSeq t u) := by
 intro pins s σ H D I h
 refine wpAny_execs_cons (thn (h1 pins s σ H { D with nx := u D } I h) fun f s1 q => ?_)
 cases f with
 | next =>
  obtain ⟨σ', H', I', q⟩ := q
  exact h2 pins s1 σ' H' D I' q
 | ret v => exact q
 | brk => exact q
 | cont => exact q
theorem pss_one (h1 : PS X st t) : PSs X [st] t := by
 intro pins s σ H D I h
 refine wpAny_execs_cons (thn (h1 pins s σ H D I h) fun f s1 q => ?_)
 cases f with
 | next => exact wpAny_execs_nil q
 | ret v => exact q
 | brk => exact q
 | cont => exact q
theorem Inv.quiet {pins : List (Addr × Obj)} {σ : St} {H : Hp} {s : Shared} (I : Inv X pins σ H s) : interactive X.env = false := by simp [interactive, I.ok.kind]
def tDrop (te : TE) : TS := fun D σ H => te σ H fun _ H1 => D.nx σ H1
theorem ps_expr (he : PE X e te) (hs : swapsWith e none pos.line X.env = pure false := by rfl) : PS X (.Expr e pos) (tDrop te) := by
 intro pins s σ H D I h
 exact wpAny_Expr_any (thn (he pins s σ H _ I h) fun v s1 ⟨x, H1, I1, r1, q1⟩ => ⟨σ, H1, I1, q1⟩) I.quiet hs
def tRet (te : TE) : TS := fun D σ H => te σ H D.rt
theorem ps_ret (he : PE X e te) : PS X (.Return (some e) pos) (tRet te) := by
 intro pins s σ H D I h
 exact wpAny_Return_some (thn (he pins s σ H _ I h) fun v s1 ⟨x, H1, I1, r1, q1⟩ => ⟨x, σ, H1, I1, r1, q1⟩)
def tIfS (c : TT) (t u : TS) : TS := fun D σ H => c σ H fun b H1 => if b = true then t D σ H1 else u D σ H1
theorem ps_if {c : Expr} {a b : List Stmt} {tc : TT} (hc : PT X c tc) (ha : PSs X a t) (hb : PSs X b u) : PS X (.If c a b pos) (tIfS tc t u) := by
 intro pins s σ H D I h
 refine wpAny_If (thn (hc pins s σ H _ I h) fun d s1 ⟨H1, I1, q1⟩ => ?_)
 cases d with
 | true => exact ha pins s1 σ H1 D I1 q1
 | false => exact hb pins s1 σ H1 D I1 q1
def tNever : TS := fun _ _ _ => False
theorem ps_never : PS X st tNever := fun _ _ _ _ _ _ h => h.elim
end
abbrev TG := V → St → Hp → (St → Hp → Prop) → Prop
def PG (X : Cx) (target : Expr) (t : TG) : Prop :=
 ∀ (pins : List (Addr × Obj)) (s : Shared) (σ : St) (H : Hp) (v : V) (u : Value) (Q : St → Hp → Prop), Inv X pins σ H s → RelV v u → t v σ H Q →
  wpAny (model X.prog X.w) X.A (assign target X.env u) (fun _ s' => ∃ σ' H', Inv X pins σ' H' s' ∧ Q σ' H') X.xe s
abbrev TSet := V → V → V → Hp → (Hp → Prop) → Prop
def PSet (X : Cx) (t : TSet) : Prop :=
 ∀ (pins : List (Addr × Obj)) (s : Shared) (σ : St) (H : Hp) (o i v : V) (ov iv u : Value) (Q : Hp → Prop), Inv X pins σ H s → RelV o ov → RelV i iv → RelV v u → t o i v H Q →
  wpAny (model X.prog X.w) X.A (setItem ov iv u) (fun _ s' => ∃ H', Inv X pins σ H' s' ∧ Q H') X.xe s
abbrev TIp := V → V → Hp → VK → Prop
def PIp (X : Cx) (op : Operator) (t : TIp) : Prop :=
 ∀ (pins : List (Addr × Obj)) (s : Shared) (σ : St) (H : Hp) (x y : V) (v u : Value) (Q : VK), Inv X pins σ H s → RelV x v → RelV y u → t x y H Q →
  wpAny (model X.prog X.w) X.A (inplaceOp op v u) (EP X pins σ Q) X.xe s
section
variable {X : Cx} {pos : Pos}
def gName (i : Nat) : TG := fun v σ H Q => Q (σ.set i (some v)) H
theorem pg_name {i : Nat} {x : Str} (hN : X.N.Nodup) (hi : X.N[i]? = some x) (hx : Loc X.env.scope x) (hf : X.fn x = true ∨ X.env.scope.names.lookup x = some .local := by first | exact .inl rfl | exact .inr rfl | assumption) : PG X (.Name x pos) (gName i) := by
 intro pins s σ H v u Q I r h
 exact wpAny_assign_Name (store_ok I hN hi hx r (fun s' I' => ⟨_, H, I', h⟩) hf)
def gSub (to ti : TE) (t : TSet) : TG := fun v σ H Q => to σ H fun o H1 => ti σ H1 fun i H2 => t o i v H2 fun H3 => Q σ H3
theorem pg_sub {o i : Expr} {to ti : TE} {t : TSet} (ho : PE X o to) (hi : PE X i ti) (hs : PSet X t)
  (ha : ∀ v, assign (.Subscript o i pos) X.env v = (do
   let ov ← holding [v] (eval o X.env)
   let iv ← holding [v, ov] (eval i X.env)
   standAt pos
   holding [v, ov, iv] (setItem ov iv v)
   release [v, ov, iv] []) := by intro _; rfl) : PG X (.Subscript o i pos) (gSub to ti t) := by
 intro pins s σ H v u Q I r h
 rw [ha]
 refine wpAny_bind (wpAny_holding (thn (ho pins s σ H _ I h) fun ov s1 ⟨x, H1, I1, r1, q1⟩ => ?_))
 refine wpAny_bind (wpAny_holding (thn (hi pins s1 σ H1 _ I1 q1) fun iv s2 ⟨y, H2, I2, r2, q2⟩ => ?_))
 refine wpAny_bind (wpAny_standAt (wpAny_bind (wpAny_holding (thn (hs pins s2 σ H2 x y v ov iv u _ I2 r1 r2 r q2) fun _ s3 ⟨H3, I3, q3⟩ => ?_))))
 exact wpAny_release ⟨σ, H3, I3, q3⟩
def tAsg (te : TE) (g : TG) : TS := fun D σ H => te σ H fun x H1 => g x σ H1 D.nx
theorem ps_asg {tg e : Expr} {te : TE} {g : TG} (he : PE X e te) (hg : PG X tg g) (hs : swapsWithSole [tg] e pos.line X.env = pure false := by rfl) (hw : swappedStores [tg] e X.env = pure none := by rfl)
  (h1 : (assignEach [tg] X.env).map (·.2) = [assign tg X.env] := by rfl) : PS X (.Assign [tg] e pos) (tAsg te g) := by
 intro pins s σ H D I h
 refine wpAny_Assign_stores (thn (he pins s σ H _ I h) fun v s1 ⟨x, H1, I1, r1, q1⟩ => ?_) hs hw
 rw [h1]
 exact thn (hg pins s1 σ H1 x v _ I1 r1 q1) fun _ s2 q => q
theorem ps_set {i : Nat} {x : Str} {e : Expr} {te : TE} {pos' : Pos} (hN : X.N.Nodup) (hi : X.N[i]? = some x) (hx : Loc X.env.scope x) (he : PE X e te) (hs : swapsWith e (some (.Name x pos')) pos.line X.env = pure false := by rfl) (hf : X.fn x = true ∨ X.env.scope.names.lookup x = some .local := by first | exact .inl rfl | exact .inr rfl | assumption) :
  PS X (.Assign [.Name x pos'] e pos) (tAsg te (gName i)) := by
 intro pins s σ H D I h
 refine wpAny_Assign_Name (thn (he pins s σ H _ I h) fun v s1 ⟨y, H1, I1, r1, q1⟩ => ?_) hs
 exact store_ok I1 hN hi hx r1 (fun s2 I2 => ⟨_, H1, I2, q1⟩) hf
def tAugS (to ti te : TE) (tget : V → V → Hp → VK → Prop) (tip : TIp) (tset : TSet) : TS := fun D σ H => to σ H fun o H1 => ti σ H1 fun i H2 => tget o i H2 fun x H3 => te σ H3 fun y H4 => tip x y H4 fun z H5 => tset o i z H5 fun H6 => D.nx σ H6
def PGet (X : Cx) (t : V → V → Hp → VK → Prop) : Prop :=
 ∀ (pins : List (Addr × Obj)) (s : Shared) (σ : St) (H : Hp) (o i : V) (ov iv : Value) (Q : VK), Inv X pins σ H s → RelV o ov → RelV i iv → t o i H Q →
  wpAny (model X.prog X.w) X.A (getItem ov iv) (EP X pins σ Q) X.xe s
theorem ps_augS {o i e : Expr} {to ti te : TE} {tget : V → V → Hp → VK → Prop} {tip : TIp} {tset : TSet} {op : Operator} {tpos : Pos} (ho : PE X o to) (hi : PE X i ti) (hg : PGet X tget) (he : PE X e te) (hp : PIp X op tip) (hs : PSet X tset)
  (ha : ∀ ov iv new, augStore i ov iv new = (do holding [new, ov, iv] (setItem ov iv new); release [new, ov, iv] []; pure .next) := by intros; rfl) : PS X (.AugAssign (.Subscript o i tpos) op e pos) (tAugS to ti te tget tip tset) := by
 intro pins s σ H D I h
 refine wpAny_AugAssign_SubscriptAny (thn (ho pins s σ H _ I h) fun ov s1 ⟨x1, H1, I1, r1, q1⟩ => ?_) ha
 refine thn (hi pins s1 σ H1 _ I1 q1) fun iv s2 ⟨x2, H2, I2, r2, q2⟩ => ?_
 refine thn (hg pins s2 σ H2 x1 x2 ov iv _ I2 r1 r2 q2) fun old s3 ⟨x3, H3, I3, r3, q3⟩ => ?_
 refine thn (he pins s3 σ H3 _ I3 q3) fun v s4 ⟨x4, H4, I4, r4, q4⟩ => ?_
 refine thn (hp pins s4 σ H4 x3 x4 old v _ I4 r3 r4 q4) fun new s5 ⟨x5, H5, I5, r5, q5⟩ => ?_
 exact thn (hs pins s5 σ H5 x1 x2 x5 ov iv new _ I5 r1 r2 r5 q5) fun _ s6 ⟨H6, I6, q6⟩ => ⟨σ, H6, I6, q6⟩
end
structure It where
 go : Nat → Hp → Prop
 yld : Nat → Hp → V → Hp → Prop
 stop : Nat → Hp → Prop
def FpOk (X : Cx) (pins : List (Addr × Obj)) (H : Hp) (b : Addr) : Prop :=
 H b = none ∧ b ≠ X.env.locals ∧ b ∉ X.fs ∧ (b ∈ X.ex ∨ X.s₀.heap.objs.size ≤ b) ∧ (∀ x c, X.env.cells.lookup x = some c → c ≠ b) ∧ ∀ p ∈ X.pn ++ pins, p.1 ≠ b
theorem Inv.fpOk {X : Cx} {pins : List (Addr × Obj)} {σ : St} {H H' : Hp} {s : Shared} {b : Addr} (I : Inv X pins σ H s) (hb : s.heap.objs.size ≤ b) (hn : H' b = none) : FpOk X pins H' b := by
 refine ⟨hn, Nat.ne_of_gt (Nat.lt_of_lt_of_le I.lt hb), I.nofs hb, .inr (Nat.le_trans I.sz hb), fun x c e z => ?_, fun p hp z => ?_⟩
 ·obtain ⟨v, q⟩ := I.cell x c e
  exact absurd (Nat.lt_of_lt_of_le q.lt (by rw [z]; exact hb)) (Nat.lt_irrefl _)
 ·exact absurd (Nat.lt_of_lt_of_le (Heap.lt_size (I.pin p hp).1) (by rw [z]; exact hb)) (Nat.lt_irrefl _)
structure Turn (P : Program) (w : World) (K : PySem.W.Frag) (tg : Expr) (J : It) (fp : List Addr) (it : Addr) (tn : Nat → Heap → Prop) : Prop where
 mem : it ∈ fp
 obj : ∀ i h, tn i h → ∀ b ∈ fp, ∃ o, h.get? b = some o ∧ ∀ v, o.data ≠ .cell v
 keep : ∀ i h h', tn i h → (∀ b ∈ fp, ∀ o, h.get? b = some o → h'.get? b = some o) → tn i h'
 item : ∀ (X : Cx), X.prog = P → X.w = w → X.K = K → X.calm = true → ∀ (i : Nat) (pins : List (Addr × Obj)) (s : Shared) (σ : St) (H : Hp) (E : Value → Shared → Prop), Inv X pins σ H s → (∀ b ∈ fp, FpOk X pins H b) → tn i s.heap → J.go i H →
  wpAny (model P w) X.A (pyNext (.ref it)) (fun r s1 => ∃ u, r = some u ∧
   wpAny (model P w) X.A (letOwnedTupleGo tg (.ref it) u) (fun _ s2 => ∃ x H', Inv X pins σ H' s2 ∧ RelV x u ∧ J.yld i H x H' ∧ tn (i + 1) s2.heap ∧ ∀ b ∈ fp, H' b = none) E s1) E s
 done : ∀ (X : Cx), X.prog = P → X.w = w → X.K = K → X.calm = true → ∀ (i : Nat) (pins : List (Addr × Obj)) (s : Shared) (σ : St) (H : Hp) (E : Value → Shared → Prop), Inv X pins σ H s → (∀ b ∈ fp, FpOk X pins H b) → tn i s.heap → J.stop i H →
  wpAny (model P w) X.A (pyNext (.ref it)) (fun r s1 => r = none ∧ Inv X pins σ H s1) E s
 self : ∀ (A : Around) (i : Nat) (s : Shared) (Q : Value → Shared → Prop) (E : Value → Shared → Prop), tn i s.heap → Q (.ref it) s → wpAny (model P w) A (pyIter (.ref it)) Q E s
abbrev TI := St → Hp → (It → Hp → Prop) → Prop
def PIE (X : Cx) (pins : List (Addr × Obj)) (σ : St) (tg : Expr) (R : It → Hp → Prop) (itv : Value) (s2 : Shared) : Prop :=
 ∃ (it : Addr) (fp : List Addr) (tn : Nat → Heap → Prop) (J : It) (H' : Hp), itv = .ref it ∧ Inv X pins σ H' s2 ∧ Turn X.prog X.w X.K tg J fp it tn ∧ tn 0 s2.heap ∧ (∀ b ∈ fp, FpOk X pins H' b) ∧ R J H'
def PI (X : Cx) (tg iter : Expr) (wi : TI) : Prop :=
 ∀ (pins : List (Addr × Obj)) (s : Shared) (σ : St) (H : Hp) (R : It → Hp → Prop), Inv X pins σ H s → wi σ H R →
  wpAny (model X.prog X.w) X.A (eval iter X.env) (fun v s1 => wpAny (model X.prog X.w) X.A (pyIter v) (PIE X pins σ tg R) X.xe s1) X.xe s
theorem go_of {M : Model} {A : Around} {E : Value → Shared → Prop} {s : Shared} {tg : Expr} {it : Addr} {u : Value} {o : Obj} {n : String} {vs : Array Value} {Q : Unit → Shared → Prop} (ho : s.heap.get? it = some o) (hc : o.cls = .type n) (hd : o.data = .fields vs)
    (hn : ["enumerate", "zip", "dict_itemiterator", "dict_reverseitemiterator", "odict_iterator", "itertools.zip_longest", "itertools.pairwise"].contains n = false) (hQ : Q () s) : wpAny M A (letOwnedTupleGo tg (.ref it) u) Q E s := by
  unfold letOwnedTupleGo
  cases tg <;> first
    | exact wpAny_pure hQ
    | (cases u <;> first
        | exact wpAny_pure hQ
        | (refine wpAny_bind (wpAny_load ho ?_)
           rw [hc, hd]
           show wpAny M A (if (["enumerate", "zip", "dict_itemiterator", "dict_reverseitemiterator", "odict_iterator", "itertools.zip_longest", "itertools.pairwise"].contains n && vs[0]? == some (rawInt _)) = true then _ else _) Q E s
           rw [if_neg (by intro h; rw [hn, Bool.false_and] at h; cases h)]
           exact wpAny_pure hQ))
def Itl (K : PySem.W.Frag) (a : Addr) : It :=
 ⟨fun i H => ∃ xs x, SqL K H a xs ∧ xs[i]? = some x, fun i H x H' => H' = H ∧ ∀ xs, SqL K H a xs → xs[i]? = some x, fun i H => ∃ xs, SqL K H a xs ∧ xs.length ≤ i⟩
def Itt (K : PySem.W.Frag) (a : Addr) : It :=
 ⟨fun i H => ∃ xs x, SqT K H a xs ∧ xs[i]? = some x, fun i H x H' => H' = H ∧ ∀ xs, SqT K H a xs → xs[i]? = some x, fun i H => ∃ xs, SqT K H a xs ∧ xs.length ≤ i⟩
def Itr (lo : Int) (n : Nat) : It := ⟨fun i _ => i < n, fun i H x H' => H' = H ∧ x = .int (lo + i), fun i _ => n ≤ i⟩
theorem turn_list {P : Program} {w : World} {K : PySem.W.Frag} {tg : Expr} (a it : Addr) : Turn P w K tg (Itl K a) [it] it (fun i h => h.IsListIter it a i) where
 mem := by simp
 obj := fun i h st b hb => by
  have e : b = it := by simpa using hb
  subst e
  obtain ⟨o, e, c, d⟩ := st
  exact ⟨o, e, fun v z => by rw [d] at z; cases z⟩
 keep := fun i h h' st k => st.at fun o e => k it (by simp) o e
 item := by
  intro X hP hw hK hc i pins s σ H E I hf st hg
  subst hP hw hK
  obtain ⟨xs, x, hq, hx⟩ := hg
  obtain ⟨its, rv, p, hz⟩ := I.list hq
  obtain ⟨u, hu, ru⟩ := rv.get hx
  obtain ⟨f0, f1, f2, f3, f4, f5⟩ := hf it (by simp)
  refine wpAny_pyNext_list_item st p.isList (x := u) (by simpa using hu) fun h' st' sb => ?_
  have I1 : Inv X pins σ H { s with heap := h' } := I.turned (t' := s.toks) (fun b o hb e => (sb.2 b hb).trans e) f0 f1 f3 f4 f5
  obtain ⟨o, e, c, d⟩ := id st'
  exact ⟨u, rfl, go_of (s := { s with heap := h' }) e c d (by decide) ⟨x, H, I1, ru, ⟨rfl, fun ys hy => by rw [I.list_inj hy hq]; exact hx⟩, st', fun b hb => (hf b hb).1⟩⟩
 done := by
  intro X hP hw hK hc i pins s σ H E I hf st hg
  subst hP hw hK
  obtain ⟨xs, hq, hx⟩ := hg
  obtain ⟨its, rv, p, hz⟩ := I.list hq
  obtain ⟨f0, f1, f2, f3, f4, f5⟩ := hf it (by simp)
  have hl := rv.length
  exact wpAny_pyNext_list_end (I.ok.hd hc) st p.isList (by simp; lia) fun h' eb => ⟨rfl, I.turned (t' := s.toks) (fun b o hb e => eb b o hb e) f0 f1 f3 f4 f5⟩
 self := fun _ _ _ _ _ st h => wpAny_pyIter_listiter st h
theorem turn_tuple {P : Program} {w : World} {K : PySem.W.Frag} {tg : Expr} (a it : Addr) : Turn P w K tg (Itt K a) [it] it (fun i h => h.IsTupleIter it a i) where
 mem := by simp
 obj := fun i h st b hb => by
  have e : b = it := by simpa using hb
  subst e
  obtain ⟨o, e, c, d⟩ := st
  exact ⟨o, e, fun v z => by rw [d] at z; cases z⟩
 keep := fun i h h' st k => st.at fun o e => k it (by simp) o e
 item := by
  intro X hP hw hK hc i pins s σ H E I hf st hg
  subst hP hw hK
  obtain ⟨xs, x, hq, hx⟩ := hg
  obtain ⟨its, rv, p, hz⟩ := I.tuple hq
  obtain ⟨u, hu, ru⟩ := rv.get hx
  obtain ⟨f0, f1, f2, f3, f4, f5⟩ := hf it (by simp)
  refine wpAny_pyNext_tuple_item st (show s.heap.IsTuple a its.toArray from p) (x := u) (by simpa using hu) fun h' st' sb => ?_
  have I1 : Inv X pins σ H { s with heap := h' } := I.turned (t' := s.toks) (fun b o hb e => (sb.2 b hb).trans e) f0 f1 f3 f4 f5
  obtain ⟨o, e, c, d⟩ := id st'
  exact ⟨u, rfl, go_of (s := { s with heap := h' }) e c d (by decide) ⟨x, H, I1, ru, ⟨rfl, fun ys hy => by rw [I.tuple_inj hy hq]; exact hx⟩, st', fun b hb => (hf b hb).1⟩⟩
 done := by
  intro X hP hw hK hc i pins s σ H E I hf st hg
  subst hP hw hK
  obtain ⟨xs, hq, hx⟩ := hg
  obtain ⟨its, rv, p, hz⟩ := I.tuple hq
  obtain ⟨f0, f1, f2, f3, f4, f5⟩ := hf it (by simp)
  have hl := rv.length
  exact wpAny_pyNext_tuple_end (I.ok.hd hc) st (show s.heap.IsTuple a its.toArray from p) (by simp; lia) fun h' eb => ⟨rfl, I.turned (t' := s.toks) (fun b o hb e => eb b o hb e) f0 f1 f3 f4 f5⟩
 self := fun _ _ _ _ _ st h => wpAny_pyIter_tupleiter st h
theorem turn_range {P : Program} {w : World} {K : PySem.W.Frag} {tg : Expr} (it : Addr) (lo : Int) (n : Nat) : Turn P w K tg (Itr lo n) [it] it (fun i h => IsRangeIter h it (lo + (i : Nat) * 1) ((n : Int) - (i : Nat)) 1) where
 mem := by simp
 obj := fun i h st b hb => by
  have e : b = it := by simpa using hb
  subst e
  exact ⟨_, st, fun v z => by
   have z' : Data.fields _ = Data.cell v := z
   cases z'⟩
 keep := fun i h h' st k => k it (by simp) _ st
 item := by
  intro X hP hw hK hc i pins s σ H E I hf st hg
  subst hP hw hK
  obtain ⟨f0, f1, f2, f3, f4, f5⟩ := hf it (by simp)
  have W := Walks.range (prog := X.prog) (w := X.w) (I.ok.hd hc) it lo 1 n
  refine W.item i s _ _ hg st fun v h' tk hv st' kk => ?_
  obtain ⟨t, rfl⟩ := hv
  have I1 : Inv X pins σ H { s with heap := h', toks := tk } := I.turned (fun b o hb e => kk b o (by simpa using hb) e) f0 f1 f3 f4 f5
  refine ⟨_, rfl, go_of (s := { s with heap := h', toks := tk }) (n := "range_iterator") st' rfl rfl (by decide) ⟨.int (lo + i), H, I1, ⟨t, ?_⟩, ⟨rfl, rfl⟩, st', fun b hb => (hf b hb).1⟩⟩
  rw [Int.mul_one]
 done := by
  intro X hP hw hK hc i pins s σ H E I hf st hg
  subst hP hw hK
  obtain ⟨f0, f1, f2, f3, f4, f5⟩ := hf it (by simp)
  exact wpAny_pyNext_range_end (I.ok.hd hc) st (by have : n ≤ i := hg; lia) fun h' eb => ⟨rfl, I.turned (t' := s.toks) (fun b o hb e => eb b o hb e) f0 f1 f3 f4 f5⟩
 self := fun _ _ _ _ _ st h => wpAny_pyIter_rangeiter st h
end L2
namespace L2
open PySem PySem.Spec PyProof.Rows
section
variable {X : Cx} {tg : Expr}
def iList (K : PySem.W.Frag) (tl : TE) : TI := fun σ H R => tl σ H fun x H1 => ∃ a, x = .ref a ∧ (∃ xs, SqL K H1 a xs) ∧ R (Itl K a) H1
def iTup (K : PySem.W.Frag) (tl : TE) : TI := fun σ H R => tl σ H fun x H1 => ∃ a, x = .ref a ∧ (∃ xs, SqT K H1 a xs) ∧ R (Itt K a) H1
theorem pi_list {l : Expr} {tl : TE} (hl : PE X l tl) : PI X tg l (iList X.K tl) := by
 intro pins s σ H R I h
 refine thn (hl pins s σ H _ I h) fun v s1 ⟨x, H1, I1, r1, q1⟩ => ?_
 obtain ⟨a, e, ⟨xs, hq⟩, q⟩ := q1
 subst e
 cases r1
 obtain ⟨its, rv, p, hz⟩ := I1.list hq
 refine wpAny_pyIter_list p.isList ?_
 refine ⟨s1.heap.objs.size, [s1.heap.objs.size], _, _, H1, rfl, I1.kept (t' := s1.toks) fun b o e => Heap.get?_push_of_some _ e, turn_list a _, ⟨_, Heap.get?_push_size _ rfl, rfl, rfl⟩, fun b hb => ?_, q⟩
 have e : b = s1.heap.objs.size := by simpa using hb
 subst e
 exact I1.fpOk (Nat.le_refl _) (I1.hok.fresh (Nat.le_refl _))
theorem pi_tup {l : Expr} {tl : TE} (hl : PE X l tl) : PI X tg l (iTup X.K tl) := by
 intro pins s σ H R I h
 refine thn (hl pins s σ H _ I h) fun v s1 ⟨x, H1, I1, r1, q1⟩ => ?_
 obtain ⟨a, e, ⟨xs, hq⟩, q⟩ := q1
 subst e
 cases r1
 obtain ⟨its, rv, p, hz⟩ := I1.tuple hq
 refine wpAny_pyIter_tuple (show s1.heap.IsTuple a its.toArray from p) ?_
 refine ⟨s1.heap.objs.size, [s1.heap.objs.size], _, _, H1, rfl, I1.kept (t' := s1.toks) fun b o e => Heap.get?_push_of_some _ e, turn_tuple a _, ⟨_, Heap.get?_push_size _ rfl, rfl, rfl⟩, fun b hb => ?_, q⟩
 have e : b = s1.heap.objs.size := by simpa using hb
 subst e
 exact I1.fpOk (Nat.le_refl _) (I1.hok.fresh (Nat.le_refl _))
theorem range_it {pins : List (Addr × Obj)} {σ : St} {H : Hp} {s : Shared} {R : It → Hp → Prop} {E : Value → Shared → Prop} {lo hi : Int} {t u v : Tok} {tk : Nat} (I : Inv X pins σ H s) (h1 : -(2 ^ 62) ≤ lo) (h2 : lo < 2 ^ 62) (h3 : -(2 ^ 62) ≤ hi) (h4 : hi < 2 ^ 62)
  (q : R (Itr lo (hi - lo).toNat) H) : wpAny (model X.prog X.w) X.A (pyIter (.ref s.heap.objs.size)) (PIE X pins σ tg R) E { s with heap := s.heap.push { cls := .type "range", data := .fields #[.int lo t, .int hi u, .int 1 v] }, toks := tk } := by
 refine wpAny_pyIter_range (IsRange.new ..) (small_one h1 h2 h3 h4) ?_
 have I1 : Inv X pins σ H { s with heap := s.heap.push { cls := .type "range", data := .fields #[.int lo t, .int hi u, .int 1 v] }, toks := tk } := I.kept fun b o e => Heap.get?_push_of_some _ e
 refine ⟨(s.heap.push { cls := .type "range", data := .fields #[.int lo t, .int hi u, .int 1 v] }).objs.size, [(s.heap.push { cls := .type "range", data := .fields #[.int lo t, .int hi u, .int 1 v] }).objs.size], _, _, H, rfl,
  I1.kept (t' := tk) fun b o e => Heap.get?_push_of_some _ e, turn_range _ lo (hi - lo).toNat, ?_, fun b hb => ?_, q⟩
 ·have e1 : lo + ((0 : Nat) : Int) * 1 = lo := by simp
  have e2 : (((hi - lo).toNat : Nat) : Int) - ((0 : Nat) : Int) = Builtin.Range.rangeSize lo hi 1 := by rw [rangeSize_one]; split <;> lia
  show IsRangeIter _ _ (lo + ((0 : Nat) : Int) * 1) ((((hi - lo).toNat : Nat) : Int) - ((0 : Nat) : Int)) 1
  rw [e1, e2]
  exact Heap.get?_push_size _ rfl
 ·have e : b = (s.heap.push { cls := .type "range", data := .fields #[.int lo t, .int hi u, .int 1 v] }).objs.size := by simpa using hb
  subst e
  exact I1.fpOk (Nat.le_refl _) (I1.hok.fresh (Nat.le_refl _))
def iRng1 (ta : TA) : TI := fun σ H R => ta σ H fun vs H1 => ∃ j : Int, vs = [.int j] ∧ -(2 ^ 62) ≤ j ∧ j < 2 ^ 62 ∧ R (Itr 0 j.toNat) H1
def iRng2 (ta : TA) : TI := fun σ H R => ta σ H fun vs H1 => ∃ i j : Int, vs = [.int i, .int j] ∧ (-(2 ^ 62) ≤ i ∧ i < 2 ^ 62 ∧ -(2 ^ 62) ≤ j ∧ j < 2 ^ 62) ∧ R (Itr i (j - i).toNat) H1
theorem pi_range1 {a : Expr} {ta : TA} {p pos : Pos} (hg : Gl X "range") (hm : X.mg "range" = none) (ha : PA X [a] ta) (hs : starEach [a] X.env = [(false, eval a X.env)] := by rfl) : PI X tg (.Call (.Name "range" p) [a] [] pos) (iRng1 ta) := by
 intro pins s σ H R I h
 refine Call_ (ld_blt I hg hm boot_range (PyProof.Rows.callWith_type1 (thn (ha pos pins s σ H _ I h) fun us s1 ⟨vs, H1, I1, r1, q1⟩ => ?_) hs rfl))
 obtain ⟨j, e, q1, q2, q⟩ := q1
 subst e
 cases r1 with
 | cons r rr =>
  cases rr
  obtain ⟨t, rfl⟩ := r
  exact call_range_1 (range_it I1 (by lia) (by lia) q1 q2 (by simpa using q))
theorem pi_range2 {a b : Expr} {ta : TA} {p pos : Pos} (hg : Gl X "range") (hm : X.mg "range" = none) (ha : PA X [a, b] ta) (hs : starEach [a, b] X.env = [(false, eval a X.env), (false, eval b X.env)] := by rfl) (hs2 : starEach [b] X.env = [(false, eval b X.env)] := by rfl) :
  PI X tg (.Call (.Name "range" p) [a, b] [] pos) (iRng2 ta) := by
 intro pins s σ H R I h
 refine Call_ (ld_blt I hg hm boot_range (PyProof.Rows.callWith_type1 (thn (ha pos pins s σ H _ I h) fun us s1 ⟨vs, H1, I1, r1, q1⟩ => ?_) (by rw [hs, hs2]) (by rw [hs2]; rfl)))
 obtain ⟨i, j, e, ⟨q1, q2, q3, q4⟩, q⟩ := q1
 subst e
 cases r1 with
 | cons r rr =>
  cases rr with
  | cons r' rr =>
   cases rr
   obtain ⟨t, rfl⟩ := r
   obtain ⟨t', rfl⟩ := r'
   exact call_range_2 (range_it I1 q1 q2 q3 q4 q)
def tFor (wi : TI) (g : TG) (tb : TS) : TS := fun D σ H => wi σ H fun J H1 => ∃ W : Nat → Nat → St → Hp → Prop, (∃ m, W 0 m σ H1) ∧ ∀ i m σ H, W i m σ H →
 (J.stop i H ∧ D.nx σ H) ∨ (J.go i H ∧ ∃ N : St → Hp → Prop, (∀ σ' H', N σ' H' → ∃ m', m' < m ∧ W (i + 1) m' σ' H') ∧ ∀ x H', J.yld i H x H' → g x σ H' fun σ2 H2 => tb { D with nx := N, ct := N, bk := D.nx } σ2 H2)
def pinsAt (fp : List Addr) (h : Heap) : List (Addr × Obj) := fp.filterMap fun b => (h.get? b).map fun o => (b, o)
theorem mem_pinsAt {fp : List Addr} {h : Heap} {b : Addr} {o : Obj} (hb : b ∈ fp) (e : h.get? b = some o) : (b, o) ∈ pinsAt fp h := List.mem_filterMap.mpr ⟨b, hb, by rw [e]; rfl⟩
theorem of_pinsAt {fp : List Addr} {h : Heap} {p : Addr × Obj} (hp : p ∈ pinsAt fp h) : p.1 ∈ fp ∧ h.get? p.1 = some p.2 := by
 obtain ⟨b, hb, e⟩ := List.mem_filterMap.mp hp
 cases q : h.get? b with
 | none => rw [q] at e; cases e
 | some o =>
  rw [q] at e
  have e' : (b, o) = p := Option.some.inj e
  subst e'
  exact ⟨hb, q⟩
theorem Inv.pinned {pins : List (Addr × Obj)} {σ : St} {H : Hp} {s : Shared} {fp : List Addr} (I : Inv X pins σ H s) (hf : ∀ b ∈ fp, FpOk X pins H b) (ho : ∀ b ∈ fp, ∃ o, s.heap.get? b = some o ∧ ∀ v, o.data ≠ .cell v) : Inv X (pins ++ pinsAt fp s.heap) σ H s :=
 I.pins_of fun p hp => (List.mem_append.mp hp).elim (fun z => I.pin p (List.mem_append_right _ z)) fun z => by
  obtain ⟨hb, e⟩ := of_pinsAt z
  obtain ⟨f0, f1, f2, _⟩ := hf p.1 hb
  obtain ⟨o, e', d⟩ := ho p.1 hb
  rw [e] at e'; cases e'
  exact ⟨e, f0, f1, f2, d⟩
theorem Inv.unpinned {pins pl : List (Addr × Obj)} {σ : St} {H : Hp} {s : Shared} (I : Inv X (pins ++ pl) σ H s) : Inv X pins σ H s := I.pins_of fun p hp => I.pin p (List.mem_append_right _ (List.mem_append_left _ hp))
theorem ps_for {iter : Expr} {body : List Stmt} {wi : TI} {g : TG} {tb : TS} {pos : Pos} (hp : PassesOwn (model X.prog X.w) X.A X.env X.xe) (hc : X.calm = true) (hi : PI X tg iter wi) (hg : PG X tg g) (hb : PSs X body tb)
  (hs : ∀ x, foldedSetIterable iter X.env x = pure x := by intro _; rfl) : PS X (.For tg iter body [] pos) (tFor wi g tb) := by
 intro pins s σ H D I h
 refine wpAny_For (thn (hi pins s σ H _ I h) fun v s1 h1 => thn h1 fun itv s2 h2 => ?_) hs
 obtain ⟨it, fp, tn, J, H2, e, I2, T, st2, f2, W, ⟨m0, w0⟩, turn⟩ := h2
 subst e
 have stat : ∀ {H' : Hp}, (∀ b ∈ fp, H' b = none) → ∀ b ∈ fp, FpOk X pins H' b := fun hn b hb => ⟨hn b hb, (f2 b hb).2⟩
 refine codeAny_forLoop_any (fun n s' => ∃ i σ' H', Inv X pins σ' H' s' ∧ tn i s'.heap ∧ (∀ b ∈ fp, H' b = none) ∧ W i n σ' H') ?_ m0 ⟨0, σ, H2, I2, st2, fun b hb => (f2 b hb).1, w0⟩
 rintro n s3 ⟨i, σ3, H3, I3, st3, fr3, w3⟩
 rcases turn i n σ3 H3 w3 with ⟨stop, qn⟩ | ⟨go, N, hN, step⟩
 ·refine wpAny_passesOwn hp (thn (T.done X rfl rfl rfl hc i pins s3 σ3 H3 X.xe I3 (stat fr3) st3 stop) fun r s4 ⟨hr, I4⟩ => ?_)
  subst hr
  exact wpAny_execs_nil ⟨σ3, H3, I4, qn⟩
 ·refine wpAny_passesOwn hp (thn (T.item X rfl rfl rfl hc i pins s3 σ3 H3 X.xe I3 (stat fr3) st3 go) fun r s4 ⟨u, hr, h4⟩ => ?_)
  subst hr
  refine wpAny_passesOwn hp (thn h4 fun _ s5 ⟨x, H5, I5, r5, y5, st5, fr5⟩ => ?_)
  have I5' := I5.pinned (stat fr5) (T.obj _ _ st5)
  refine wpAny_passesOwn hp (thn (hg _ s5 σ3 H5 x u _ I5' r5 (step x H5 y5)) fun _ s6 ⟨σ6, H6, I6, q6⟩ => ?_)
  refine wpAny_passesOwn hp (thn (hb _ s6 σ6 H6 _ I6 q6) fun f s7 q7 => ?_)
  have again : ∀ {σ7 : St} {H7 : Hp}, Inv X (pins ++ pinsAt fp s5.heap) σ7 H7 s7 → N σ7 H7 → ∃ m, m < n ∧ ∃ i σ' H', Inv X pins σ' H' s7 ∧ tn i s7.heap ∧ (∀ b ∈ fp, H' b = none) ∧ W i m σ' H' := fun {σ7 H7} I7 n7 => by
   obtain ⟨m', hm, w7⟩ := hN σ7 H7 n7
   refine ⟨m', hm, i + 1, σ7, H7, I7.unpinned, T.keep _ _ _ st5 fun b hb o e => (I7.pin (b, o) (List.mem_append_right _ (List.mem_append_right _ (mem_pinsAt hb e)))).1, fun b hb => ?_, w7⟩
   obtain ⟨o, e, d⟩ := T.obj _ _ st5 b hb
   exact (I7.pin (b, o) (List.mem_append_right _ (List.mem_append_right _ (mem_pinsAt hb e)))).2.1
  cases f with
  | next => obtain ⟨σ7, H7, I7, n7⟩ := q7; exact again I7 n7
  | cont => obtain ⟨σ7, H7, I7, n7⟩ := q7; exact again I7 n7
  | brk => obtain ⟨σ7, H7, I7, q7⟩ := q7; exact ⟨σ7, H7, I7.unpinned, q7⟩
  | ret v => obtain ⟨x7, σ7, H7, I7, r7, q7⟩ := q7; exact ⟨x7, σ7, H7, I7.unpinned, r7, q7⟩
end
theorem for_list {K : PySem.W.Frag} {a : Addr} {xs : List V} {g : TG} {tb : TS} {D : Ends} {σ : St} {H : Hp} (Pv : Nat → St → Hp → Prop) (h0 : Pv 0 σ H) (hl : ∀ i σ H, i ≤ xs.length → Pv i σ H → SqL K H a xs)
  (hs : ∀ i x σ H, xs[i]? = some x → Pv i σ H → g x σ H fun σ2 H2 => tb { D with nx := Pv (i + 1), ct := Pv (i + 1), bk := D.nx } σ2 H2) (hd : ∀ σ H, Pv xs.length σ H → D.nx σ H) :
  ∃ W : Nat → Nat → St → Hp → Prop, (∃ m, W 0 m σ H) ∧ ∀ i m σ H, W i m σ H →
   ((Itl K a).stop i H ∧ D.nx σ H) ∨ ((Itl K a).go i H ∧ ∃ N : St → Hp → Prop, (∀ σ' H', N σ' H' → ∃ m', m' < m ∧ W (i + 1) m' σ' H') ∧ ∀ x H', (Itl K a).yld i H x H' → g x σ H' fun σ2 H2 => tb { D with nx := N, ct := N, bk := D.nx } σ2 H2) := by
 refine ⟨fun i m σ H => m = xs.length - i ∧ i ≤ xs.length ∧ Pv i σ H, ⟨xs.length, by simp, Nat.zero_le _, h0⟩, ?_⟩
 rintro i m σ H ⟨rfl, hi, p⟩
 have q := hl i σ H hi p
 by_cases hlt : i < xs.length
 ·refine .inr ⟨⟨xs, xs[i], q, by simp [hlt]⟩, Pv (i + 1), fun σ' H' p' => ⟨xs.length - (i + 1), by lia, rfl, hlt, p'⟩, fun x H' y => ?_⟩
  obtain ⟨e, y⟩ := y
  subst e
  exact hs i x σ _ (y xs q) p
 ·have e : i = xs.length := by lia
  subst e
  exact .inl ⟨⟨xs, q, Nat.le_refl _⟩, hd σ H p⟩
theorem for_range {lo : Int} {n : Nat} {g : TG} {tb : TS} {D : Ends} {σ : St} {H : Hp} (Pv : Nat → St → Hp → Prop) (h0 : Pv 0 σ H)
  (hs : ∀ i σ H, i < n → Pv i σ H → g (.int (lo + i)) σ H fun σ2 H2 => tb { D with nx := Pv (i + 1), ct := Pv (i + 1), bk := D.nx } σ2 H2) (hd : ∀ σ H, Pv n σ H → D.nx σ H) :
  ∃ W : Nat → Nat → St → Hp → Prop, (∃ m, W 0 m σ H) ∧ ∀ i m σ H, W i m σ H →
   ((Itr lo n).stop i H ∧ D.nx σ H) ∨ ((Itr lo n).go i H ∧ ∃ N : St → Hp → Prop, (∀ σ' H', N σ' H' → ∃ m', m' < m ∧ W (i + 1) m' σ' H') ∧ ∀ x H', (Itr lo n).yld i H x H' → g x σ H' fun σ2 H2 => tb { D with nx := N, ct := N, bk := D.nx } σ2 H2) := by
 refine ⟨fun i m σ H => m = n - i ∧ i ≤ n ∧ Pv i σ H, ⟨n, by simp, Nat.zero_le _, h0⟩, ?_⟩
 rintro i m σ H ⟨rfl, hi, p⟩
 by_cases hlt : i < n
 ·refine .inr ⟨hlt, Pv (i + 1), fun σ' H' p' => ⟨n - (i + 1), by lia, rfl, hlt, p'⟩, fun x H' y => ?_⟩
  obtain ⟨e, y⟩ := y
  subst e y
  exact hs i σ _ hlt p
 ·have e : i = n := by lia
  subst e
  exact .inl ⟨Nat.le_refl _, hd σ H p⟩
end L2
namespace L2
open PySem PySem.Spec PyProof.Rows
abbrev R2 := V → V → Hp → VK → Prop
def OpR (X : Cx) (f : Value → Value → Sem Value) (r : R2) : Prop :=
 ∀ (pins : List (Addr × Obj)) (s : Shared) (σ : St) (H : Hp) (x y : V) (v u : Value) (Q : VK), Inv X pins σ H s → RelV x v → RelV y u → r x y H Q →
  wpAny (model X.prog X.w) X.A (f v u) (EP X pins σ Q) X.xe s
def CallR (X : Cx) (f : Value) (r : List V → Hp → VK → Prop) : Prop :=
 ∀ (pins : List (Addr × Obj)) (s : Shared) (σ : St) (H : Hp) (xs : List V) (us : List Value) (Q : VK), Inv X pins σ H s → Vals xs us → r xs H Q →
  wpAny (model X.prog X.w) X.A (call f us) (EP X pins σ Q) X.xe s
def TruR (X : Cx) (r : V → Hp → (Bool → Hp → Prop) → Prop) : Prop :=
 ∀ (pins : List (Addr × Obj)) (s : Shared) (σ : St) (H : Hp) (x : V) (v : Value) (Q : Bool → Hp → Prop), Inv X pins σ H s → RelV x v → r x H Q →
  wpAny (model X.prog X.w) X.A (truthy v) (TP X pins σ Q) X.xe s
def tOp (r : R2) (ta tb : TE) : TE := fun σ H Q => ta σ H fun x H1 => tb σ H1 fun y H2 => r x y H2 Q
def rI (C : Int → Int → Prop) (g : Int → Int → V) : R2 := fun x y H Q => ∃ i j, x = .int i ∧ y = .int j ∧ C i j ∧ Q (g i j) H
def rI0 (g : Int → Int → V) : R2 := fun x y H Q => ∃ i j, x = .int i ∧ y = .int j ∧ Q (g i j) H
section
variable {X : Cx} {a b c : Expr} {ta tb tc : TE} {pos : Pos}
theorem binT (ha : PE X a ta) (hb : PE X b tb) {pins : List (Addr × Obj)} {s : Shared} {σ : St} {H : Hp} {R : V → V → Hp → Prop} (I : Inv X pins σ H s)
  (h : ta σ H fun x H1 => tb σ H1 fun y H2 => R x y H2) {Q : Value → Shared → Prop} {f : Value → Value → Sem Value}
  (hf : ∀ v u s2 x y H2, Inv X pins σ H2 s2 → RelV x v → RelV y u → R x y H2 → wpAny (model X.prog X.w) X.A (f v u) Q X.xe s2) :
  wpAny (model X.prog X.w) X.A (eval a X.env) (fun v s₁ => wpAny (model X.prog X.w) X.A (eval b X.env) (fun u s₂ => wpAny (model X.prog X.w) X.A (f v u) Q X.xe s₂) X.xe s₁) X.xe s := by
 refine thn (ha pins s σ H _ I h) fun v s1 ⟨x, H1, I1, r1, q1⟩ => ?_
 refine thn (hb pins s1 σ H1 _ I1 q1) fun u s2 ⟨y, H2, I2, r2, q2⟩ => ?_
 exact hf v u s2 x y H2 I2 r1 r2 q2
theorem pe_op {op : Operator} {r : R2} (ho : OpR X (binaryOp op) r) (ha : PE X a ta) (hb : PE X b tb) : PE X (.BinOp a op b pos) (tOp r ta tb) := by
 intro pins s σ H Q I h
 exact wpAny_BinOp (binT ha hb I h fun v u s2 x y H2 I2 rx ry q => ho pins s2 σ H2 x y v u Q I2 rx ry q)
theorem opI {f : Value → Value → Sem Value} {C : Int → Int → Prop} {g : Int → Int → Int}
  (rule : ∀ (i j : Int) (t u : Tok) (s : Shared) (Q : Value → Shared → Prop) (E : Value → Shared → Prop), C i j → Q (.int (g i j) s.toks) { s with toks := s.toks + 1 } → wpAny (model X.prog X.w) X.A (f (.int i t) (.int j u)) Q E s) :
  OpR X f (rI C fun i j => .int (g i j)) := by
 intro pins s σ H x y v u Q I rx ry h
 obtain ⟨i, j, rfl, rfl, hc, q⟩ := h
 obtain ⟨t, rfl⟩ := rx
 obtain ⟨t', rfl⟩ := ry
 exact rule i j t t' s _ _ hc ⟨.int (g i j), H, I.tok _, ⟨_, rfl⟩, q⟩
theorem opI0 {f : Value → Value → Sem Value} {g : Int → Int → Int}
  (rule : ∀ (i j : Int) (t u : Tok) (s : Shared) (Q : Value → Shared → Prop) (E : Value → Shared → Prop), Q (.int (g i j) s.toks) { s with toks := s.toks + 1 } → wpAny (model X.prog X.w) X.A (f (.int i t) (.int j u)) Q E s) :
  OpR X f (rI0 fun i j => .int (g i j)) := by
 intro pins s σ H x y v u Q I rx ry h
 obtain ⟨i, j, rfl, rfl, q⟩ := h
 obtain ⟨t, rfl⟩ := rx
 obtain ⟨t', rfl⟩ := ry
 exact rule i j t t' s _ _ ⟨.int (g i j), H, I.tok _, ⟨_, rfl⟩, q⟩
theorem opB0 {f : Value → Value → Sem Value} {g : Int → Int → Bool}
  (rule : ∀ (i j : Int) (t u : Tok) (s : Shared) (Q : Value → Shared → Prop) (E : Value → Shared → Prop), Q (.bool (g i j)) s → wpAny (model X.prog X.w) X.A (f (.int i t) (.int j u)) Q E s) :
  OpR X f (rI0 fun i j => .bl (g i j)) := by
 intro pins s σ H x y v u Q I rx ry h
 obtain ⟨i, j, rfl, rfl, q⟩ := h
 obtain ⟨t, rfl⟩ := rx
 obtain ⟨t', rfl⟩ := ry
 exact rule i j t t' s _ _ ⟨.bl (g i j), H, I, rfl, q⟩
def CDiv (i j : Int) : Prop := 0 < j ∧ j < 1073741824
def CPow (i j : Int) : Prop := 0 ≤ j ∧ j ≤ 1000000 ∧ i.natAbs < 2 ^ 64
def CMul (i j : Int) : Prop := (-(2 ^ 64) < i ∧ i < 2 ^ 64) ∨ (-(2 ^ 64) < j ∧ j < 2 ^ 64)
theorem CMul.ok {i j : Int} (h : CMul i j) : IntMulOk i j := by
 rcases h with ⟨h1, h2⟩ | ⟨h1, h2⟩
 ·exact .of_left (intBits_le_64 h1 h2)
 ·exact .of_right (intBits_le_64 h1 h2)
theorem two_pow_nn (k : Nat) : (0 : Int) ≤ 2 ^ k := by
 rw [two_pow_cast]
 exact Int.natCast_nonneg _
theorem op_add : OpR X (binaryOp .Add) (rI0 fun i j => .int (i + j)) := opI0 fun _ _ _ _ _ _ _ q => add_int q
theorem op_sub : OpR X (binaryOp .Sub) (rI0 fun i j => .int (i - j)) := opI0 fun _ _ _ _ _ _ _ q => sub_int q
theorem op_mul : OpR X (binaryOp .Mult) (rI CMul fun i j => .int (i * j)) := opI fun _ _ _ _ _ _ _ hc q => mul_int q hc.ok
theorem op_fdiv : OpR X (binaryOp .FloorDiv) (rI CDiv fun i j => .int (i / j)) := opI fun i j _ _ _ _ _ hc q => by
 have h1 : (0 : Int) < j := hc.1
 have h2 : j < 1073741824 := hc.2
 exact floordiv_int (by lia) (by rw [Int.fdiv_eq_ediv_of_nonneg i (by lia)]; exact q) (.inl (PyProof.noPylong_small (by lia)))
theorem op_mod : OpR X (binaryOp .Mod) (rI (fun _ j => 0 < j) fun i j => .int (i % j)) := opI fun i j _ _ _ _ _ hc q => by
 have h1 : (0 : Int) < j := hc
 exact mod_int' (by lia) (by rw [Int.fmod_eq_emod_of_nonneg i (by lia)]; exact q)
theorem op_pow : OpR X (binaryOp .Pow) (rI CPow fun i j => .int (i ^ j.toNat)) := opI fun _ _ _ _ _ _ _ hc q => pow_int_small hc.1 hc.2.1 hc.2.2 q
theorem op_shl : OpR X (binaryOp .LShift) (rI CPow fun i j => .int (i * 2 ^ j.toNat)) := opI fun _ _ _ _ _ _ _ hc q => lshift_int_small hc.1 hc.2.1 hc.2.2 q
theorem op_shr : OpR X (binaryOp .RShift) (rI (fun _ j => 0 ≤ j) fun i j => .int (i / 2 ^ j.toNat)) := opI fun i j _ _ _ _ _ hc q =>
 rshift_int hc (by rw [Int.fdiv_eq_ediv_of_nonneg i (two_pow_nn _)]; exact q)
theorem op_and : OpR X (binaryOp .BitAnd) (rI0 fun i j => .int (Builtin.bitAnd i j)) := opI0 fun _ _ _ _ _ _ _ q => and_int q
theorem op_or : OpR X (binaryOp .BitOr) (rI0 fun i j => .int (Builtin.bitOr i j)) := opI0 fun _ _ _ _ _ _ _ q => or_int q
theorem iop_add : OpR X (inplaceOp .Add) (rI0 fun i j => .int (i + j)) := opI0 fun _ _ _ _ _ _ _ q => iadd_int q
end
def scal : V → V → Bool
 | .non, .non => true | .non, .int _ => true | .int _, .non => true | .non, .bl _ => true | .bl _, .non => true | .non, .str _ => true | .str _, .non => true
 | .int _, .int _ => true | .bl _, .bl _ => true | .str _, .str _ => true | .byt _, .byt _ => true
 | .int _, .str _ => true | .str _, .int _ => true | .bl _, .str _ => true | .str _, .bl _ => true
 | _, _ => false
def rEq : R2 := fun x y H Q => scal x y = true ∧ Q (.bl (decide (x = y))) H
def rNe : R2 := fun x y H Q => scal x y = true ∧ Q (.bl (!decide (x = y))) H
theorem dec_int {i j : Int} : decide (V.int i = V.int j) = (i == j) := by
 rw [Bool.eq_iff_iff]
 simp
theorem dec_bl {i j : Bool} : decide (V.bl i = V.bl j) = (i == j) := by
 rw [Bool.eq_iff_iff]
 simp
theorem dec_str {i j : Str} : decide (V.str i = V.str j) = (i == j) := by
 rw [Bool.eq_iff_iff]
 simp
theorem dec_byt {i j : Array UInt8} : decide (V.byt i = V.byt j) = (i.toList == j.toList) := by
 rw [Bool.eq_iff_iff]
 cases i
 cases j
 simp
section
variable {X : Cx} {a b c : Expr} {ta tb tc : TE} {pos : Pos}
theorem fin_bl {pins : List (Addr × Obj)} {σ : St} {H : Hp} {s : Shared} {Q : VK} {k k' : Bool} (I : Inv X pins σ H s) (q : Q (.bl k) H) (e : k = k') : EP X pins σ Q (.bool k') s := by
 subst e
 exact ⟨.bl k, H, I, rfl, q⟩
theorem op_eq : OpR X (compareOp .Eq) rEq := by
 intro pins s σ H x y v u Q I rx ry h
 obtain ⟨hs, q⟩ := h
 cases x with
 | non =>
  cases rx
  cases y with
  | non => cases ry; exact PySem.EqNone.eq_none_none (fin_bl I q (by simp))
  | bl j => cases ry; exact PySem.EqNone.eq_none_bool (fin_bl I q (by simp))
  | int j => obtain ⟨t', rfl⟩ := ry; exact PySem.EqNone.eq_none_int (fin_bl I q (by simp))
  | str j => obtain ⟨t', rfl⟩ := ry; exact PySem.EqNone.eq_none_str (fin_bl I q (by simp))
  | _ => exact absurd (show false = true from hs) Bool.false_ne_true
 | bl i =>
  cases rx
  cases y with
  | non => cases ry; exact PySem.EqNone.eq_bool_none (fin_bl I q (by simp))
  | bl j => cases ry; exact eq_bool (fin_bl I q dec_bl)
  | str j => obtain ⟨t', rfl⟩ := ry; exact PySem.EqMixed.eq_bool_str (fin_bl I q (by simp))
  | _ => exact absurd (show false = true from hs) Bool.false_ne_true
 | int i =>
  obtain ⟨t, rfl⟩ := rx
  cases y with
  | non => cases ry; exact PySem.EqNone.eq_int_none (fin_bl I q (by simp))
  | int j => obtain ⟨t', rfl⟩ := ry; exact eq_int (fin_bl I q dec_int)
  | str j => obtain ⟨t', rfl⟩ := ry; exact PySem.EqMixed.eq_int_str (fin_bl I q (by simp))
  | _ => exact absurd (show false = true from hs) Bool.false_ne_true
 | str i =>
  obtain ⟨t, rfl⟩ := rx
  cases y with
  | non => cases ry; exact PySem.EqNone.eq_str_none (fin_bl I q (by simp))
  | bl j => cases ry; exact PySem.EqMixed.eq_str_bool (fin_bl I q (by simp))
  | int j => obtain ⟨t', rfl⟩ := ry; exact PySem.EqMixed.eq_str_int (fin_bl I q (by simp))
  | str j => obtain ⟨t', rfl⟩ := ry; exact eq_str (fin_bl I q dec_str)
  | _ => exact absurd (show false = true from hs) Bool.false_ne_true
 | byt i =>
  obtain ⟨t, rfl⟩ := rx
  cases y with
  | byt j => obtain ⟨t', rfl⟩ := ry; exact PySem.W.eq_bytes (fin_bl I q dec_byt)
  | _ => exact absurd (show false = true from hs) Bool.false_ne_true
 | _ => cases y <;> exact absurd (show false = true from hs) Bool.false_ne_true
theorem op_ne : OpR X (compareOp .NotEq) rNe := by
 intro pins s σ H x y v u Q I rx ry h
 obtain ⟨hs, q⟩ := h
 cases x with
 | non =>
  cases rx
  cases y with
  | non => cases ry; exact PySem.EqNone.ne_none_none (fin_bl I q (by simp))
  | bl j => cases ry; exact PySem.EqNone.ne_none_bool (fin_bl I q (by simp))
  | int j => obtain ⟨t', rfl⟩ := ry; exact PySem.EqNone.ne_none_int (fin_bl I q (by simp))
  | str j => obtain ⟨t', rfl⟩ := ry; exact PySem.EqNone.ne_none_str (fin_bl I q (by simp))
  | _ => exact absurd (show false = true from hs) Bool.false_ne_true
 | bl i =>
  cases rx
  cases y with
  | non => cases ry; exact PySem.EqNone.ne_bool_none (fin_bl I q (by simp))
  | bl j => cases ry; exact ne_bool (fin_bl I q (congrArg not dec_bl))
  | str j => obtain ⟨t', rfl⟩ := ry; exact PySem.EqMixed.ne_bool_str (fin_bl I q (by simp))
  | _ => exact absurd (show false = true from hs) Bool.false_ne_true
 | int i =>
  obtain ⟨t, rfl⟩ := rx
  cases y with
  | non => cases ry; exact PySem.EqNone.ne_int_none (fin_bl I q (by simp))
  | int j => obtain ⟨t', rfl⟩ := ry; exact ne_int (fin_bl I q (congrArg not dec_int))
  | str j => obtain ⟨t', rfl⟩ := ry; exact PySem.EqMixed.ne_int_str (fin_bl I q (by simp))
  | _ => exact absurd (show false = true from hs) Bool.false_ne_true
 | str i =>
  obtain ⟨t, rfl⟩ := rx
  cases y with
  | non => cases ry; exact PySem.EqNone.ne_str_none (fin_bl I q (by simp))
  | bl j => cases ry; exact PySem.EqMixed.ne_str_bool (fin_bl I q (by simp))
  | int j => obtain ⟨t', rfl⟩ := ry; exact PySem.EqMixed.ne_str_int (fin_bl I q (by simp))
  | str j => obtain ⟨t', rfl⟩ := ry; exact ne_str (fin_bl I q (congrArg not dec_str))
  | _ => exact absurd (show false = true from hs) Bool.false_ne_true
 | byt i =>
  obtain ⟨t, rfl⟩ := rx
  cases y with
  | byt j => obtain ⟨t', rfl⟩ := ry; exact PySem.W.ne_bytes (fin_bl I q (congrArg not dec_byt))
  | _ => exact absurd (show false = true from hs) Bool.false_ne_true
 | _ => cases y <;> exact absurd (show false = true from hs) Bool.false_ne_true
theorem op_lt : OpR X (compareOp .Lt) (rI0 fun i j => .bl (decide (i < j))) := opB0 fun _ _ _ _ _ _ _ q => lt_int q
theorem op_le : OpR X (compareOp .LtE) (rI0 fun i j => .bl (decide (i ≤ j))) := opB0 fun _ _ _ _ _ _ _ q => le_int q
theorem op_gt : OpR X (compareOp .Gt) (rI0 fun i j => .bl (decide (j < i))) := opB0 fun _ _ _ _ _ _ _ q => gt_int q
theorem op_ge : OpR X (compareOp .GtE) (rI0 fun i j => .bl (decide (j ≤ i))) := opB0 fun _ _ _ _ _ _ _ q => ge_int q
theorem op_isN : OpR X (compareOp .Is) (fun x y H Q => y = .non ∧ Q (.bl (decide (x = .non))) H) := by
 intro pins s σ H x y v u Q I rx ry h
 obtain ⟨rfl, q⟩ := h
 cases ry
 refine is_none_gen (fin_bl I q ?_)
 cases x <;> first
  | (cases rx; rfl)
  | (obtain ⟨t, rfl⟩ := rx; rfl)
theorem op_notN : OpR X (compareOp .IsNot) (fun x y H Q => y = .non ∧ Q (.bl (!decide (x = .non))) H) := by
 intro pins s σ H x y v u Q I rx ry h
 obtain ⟨rfl, q⟩ := h
 cases ry
 refine isnot_none_gen (fin_bl I q ?_)
 cases x <;> first
  | (cases rx; rfl)
  | (obtain ⟨t, rfl⟩ := rx; rfl)
theorem nomark (b : Expr) {op : CmpOp} (h : op ≠ .In := by decide) (h2 : op ≠ .NotIn := by decide) : behindInMarks op b = false := by
 have e1 : (op == CmpOp.In) = false := by cases op <;> first | rfl | exact absurd rfl h
 have e2 : (op == CmpOp.NotIn) = false := by cases op <;> first | rfl | exact absurd rfl h2
 cases b <;> simp [behindInMarks, e1, e2]
theorem pe_cmpR {op : CmpOp} {r : R2} (ho : OpR X (compareOp op) r) (ha : PE X a ta) (hb : PE X b tb) (hm : behindInMarks op b = false) : PE X (.Compare a [op] [b] pos) (tOp r ta tb) := by
 intro pins s σ H Q I h
 exact wpAny_Compare1 (binT ha hb I h fun v u s2 x y H2 I2 rx ry q => ho pins s2 σ H2 x y v u Q I2 rx ry q) hm
def tTest (t : TE) : TT := fun σ H Q => t σ H fun x H' => ∃ k, x = .bl k ∧ Q k H'
theorem pt_cmpR {op : CmpOp} {r : R2} (ho : OpR X (compareOp op) r) (ha : PE X a ta) (hb : PE X b tb) (hm : behindInMarks op b = false) : PT X (.Compare a [op] [b] pos) (tTest (tOp r ta tb)) := by
 intro pins s σ H Q I h
 refine wpAny_isTrue_Compare1 (thn (ha pins s σ H _ I h) fun v s1 ⟨x, H1, I1, r1, q1⟩ => thn (hb pins s1 σ H1 _ I1 q1) fun u s2 ⟨y, H2, I2, r2, q2⟩ =>
  thn (ho pins s2 σ H2 x y v u _ I2 r1 r2 q2) fun c s3 ⟨z, H3, I3, r3, k, e, q3⟩ => ?_) hm
 subst e
 cases r3
 exact wpAny_truthy_bool ⟨H3, I3, q3⟩
def tChain (r r' : R2) (ta tb tc : TE) : TE := fun σ H Q => ta σ H fun x H1 => tb σ H1 fun y H2 => r x y H2 fun z H3 => ∃ k, z = .bl k ∧
 (if k = true then tc σ H3 fun w' H4 => r' y w' H4 Q else Q (.bl false) H3)
theorem pe_chain {op op' : CmpOp} {r r' : R2} (ho : OpR X (compareOp op) r) (ho' : OpR X (compareOp op') r') (ha : PE X a ta) (hb : PE X b tb) (hc : PE X c tc)
  (hm : lastMarks [op, op'] [b, c] = false := by with_unfolding_all rfl) : PE X (.Compare a [op, op'] [b, c] pos) (tChain r r' ta tb tc) := by
 intro pins s σ H Q I h
 refine Compare_chain (thn (ha pins s σ H _ I h) fun v s1 ⟨x, H1, I1, r1, q1⟩ => chain_link (thn (hb pins s1 σ H1 _ I1 q1) fun u s2 ⟨y, H2, I2, r2, q2⟩ =>
  thn (ho pins s2 σ H2 x y v u _ I2 r1 r2 q2) fun d s3 ⟨z, H3, I3, r3, k, e, q3⟩ => ?_)) hm
 subst e
 cases r3
 refine wpAny_truthy_bool ?_
 cases k with
 | false => exact ite_ff ⟨.bl false, H3, I3, rfl, q3⟩
 | true => exact ite_tt (chain_last (thn (hc pins s3 σ H3 _ I3 q3) fun w' s4 ⟨z', H4, I4, r4, q4⟩ => ho' pins s4 σ H4 y z' u w' Q I4 r2 r4 q4))
theorem pt_chain {op op' : CmpOp} {r r' : R2} (ho : OpR X (compareOp op) r) (ho' : OpR X (compareOp op') r') (ha : PE X a ta) (hb : PE X b tb) (hc : PE X c tc)
  (hm : lastMarks [op, op'] [b, c] = false := by with_unfolding_all rfl) : PT X (.Compare a [op, op'] [b, c] pos) (tTest (tChain r r' ta tb tc)) := by
 intro pins s σ H Q I h
 refine isTrue_chain (thn (ha pins s σ H _ I h) fun v s1 ⟨x, H1, I1, r1, q1⟩ => test_link (thn (hb pins s1 σ H1 _ I1 q1) fun u s2 ⟨y, H2, I2, r2, q2⟩ =>
  thn (ho pins s2 σ H2 x y v u _ I2 r1 r2 q2) fun d s3 ⟨z, H3, I3, r3, k, e, q3⟩ => ?_)) hm
 subst e
 cases r3
 refine wpAny_truthy_bool ?_
 cases k with
 | false =>
  obtain ⟨k', e', q'⟩ := q3
  cases e'
  exact ite_ff ⟨H3, I3, q'⟩
 | true =>
  refine ite_tt (test_last (thn (hc pins s3 σ H3 _ I3 q3) fun w' s4 ⟨z', H4, I4, r4, q4⟩ => thn (ho' pins s4 σ H4 y z' u w' _ I4 r2 r4 q4) fun d' s5 ⟨z2, H5, I5, r5, k2, e2, q5⟩ => ?_))
  subst e2
  cases r5
  exact wpAny_truthy_bool ⟨H5, I5, q5⟩
def TruV (K : PySem.W.Frag) (x : V) (H : Hp) (k : Bool) : Prop :=
 match x with
 | .non => k = false
 | .bl b => k = b
 | .int i => k = (i != 0)
 | .str y => y.length ≤ sizeLine ∧ k = ((y.length : Int) != 0)
 | .byt y => y.size ≤ sizeLine ∧ k = ((y.size : Int) != 0)
 | .ref p => (∃ xs, SqL K H p xs ∧ k = !xs.isEmpty) ∨ (∃ xs, SqT K H p xs ∧ k = !xs.isEmpty) ∨ ∃ kvs, H p = some (.dK kvs) ∧ k = !kvs.isEmpty
 | _ => False
theorem isEmpty_kv {κ : Type} {kvs : List (κ × V)} {vs : List (κ × Value)} (r : KV kvs vs) : (!vs.isEmpty) = !kvs.isEmpty := by
 cases r <;> rfl
theorem isEmpty_of {xs : List V} {its : List Value} (r : Vals xs its) : (!its.toArray.isEmpty) = !xs.isEmpty := by
 cases r <;> simp
theorem line63 : (sizeLine : Nat) < 2 ^ 63 := by rw [sizeLine_eq]; decide
theorem tru_ok : TruR X (fun x H Q => ∃ k, TruV X.K x H k ∧ Q k H) := by
 intro pins s σ H x v Q I rx h
 obtain ⟨k, e, q⟩ := h
 have hl := line63
 have hs : sizeLine = 16777216 := sizeLine_eq
 cases x with
 | non =>
  cases rx
  have e' : k = false := e
  subst e'
  exact truthy_none ⟨H, I, q⟩
 | bl b =>
  cases rx
  have e' : k = b := e
  subst e'
  exact wpAny_truthy_bool ⟨H, I, q⟩
 | int i =>
  obtain ⟨t, rfl⟩ := rx
  have e' : k = (i != 0) := e
  subst e'
  exact PySem.P.truthy_int ⟨H, I, q⟩
 | str y =>
  obtain ⟨t, rfl⟩ := rx
  obtain ⟨hy, e'⟩ : y.length ≤ sizeLine ∧ k = ((y.length : Int) != 0) := e
  subst e'
  exact PySem.P.truthy_str (by lia) ⟨H, I.tok _, q⟩
 | byt y =>
  obtain ⟨t, rfl⟩ := rx
  obtain ⟨hy, e'⟩ : y.size ≤ sizeLine ∧ k = ((y.size : Int) != 0) := e
  subst e'
  exact PySem.W.truthy_bytes (by lia) ⟨H, I.tok _, q⟩
 | ref p =>
  cases rx
  have e' : (∃ xs, SqL X.K H p xs ∧ k = !xs.isEmpty) ∨ (∃ xs, SqT X.K H p xs ∧ k = !xs.isEmpty) ∨ ∃ kvs, H p = some (.dK kvs) ∧ k = !kvs.isEmpty := e
  rcases e' with ⟨xs, hx, e'⟩ | ⟨xs, hx, e'⟩ | ⟨kvs, hx, e'⟩
  ·subst e'
   obtain ⟨its, r, pl, hz⟩ := I.list hx
   have hlen := r.length
   exact wpAny_truthy_list pl.isList (by simp only [List.size_toArray]; lia) ⟨H, I.tok _, by rw [isEmpty_of r]; exact q⟩
  ·subst e'
   obtain ⟨its, r, pl, hz⟩ := I.tuple hx
   have hlen := r.length
   exact truthy_tuple pl (by simp only [List.size_toArray]; lia) ⟨H, I.tok _, by rw [isEmpty_of r]; exact q⟩
  ·subst e'
   obtain ⟨hz, hS, vs, r, m⟩ : kvs.length ≤ sizeLine ∧ (p == sysModules) = false ∧ ∃ vs, KV kvs vs ∧ s.heap.DictOf (mixKind X.prog X.w) p vs := I.hok p _ hx
   have hlen : kvs.length = vs.length := Paired.length r
   exact wpAny_truthy_dict hS m (by lia) ⟨H, I.tok _, by rw [isEmpty_kv r]; exact q⟩
 | _ => exact (show False from e).elim
theorem pt_truth (ha : PE X a ta) (he : ∀ whole, isTrue a X.env whole = (do let v ← whole; standAt a.pos; holding [v] (truthy v))) :
  PT X a (fun σ H Q => ta σ H fun x H' => ∃ k, TruV X.K x H' k ∧ Q k H') := by
 intro pins s σ H Q I h
 exact isTrue_plain (thn (ha pins s σ H _ I h) fun v s1 ⟨x, H1, I1, r1, q1⟩ => tru_ok pins s1 σ H1 x v Q I1 r1 q1) (he _)
theorem vals1 {x : V} {us : List Value} (r : Vals [x] us) : ∃ u, us = [u] ∧ RelV x u := by
 cases r with
 | cons r1 r2 => cases r2; exact ⟨_, rfl, r1⟩
theorem vals2 {x y : V} {us : List Value} (r : Vals [x, y] us) : ∃ u w', us = [u, w'] ∧ RelV x u ∧ RelV y w' := by
 cases r with
 | cons r1 r2 =>
  cases r2 with
  | cons r3 r4 => cases r4; exact ⟨_, _, rfl, r1, r3⟩
theorem call_abs : CallR X (.builtin "abs") (fun xs H Q => ∃ i, xs = [.int i] ∧ Q (.int (if i < 0 then -i else i)) H) := by
 intro pins s σ H xs us Q I r h
 obtain ⟨i, rfl, q⟩ := h
 obtain ⟨u, rfl, t, rfl⟩ := vals1 r
 exact call_abs_int fun u tk => ⟨.int (if i < 0 then -i else i), H, I.tok _, ⟨_, rfl⟩, q⟩
theorem call_min2 (hc : X.calm = true) : CallR X (.builtin "min") (fun xs H Q => ∃ i j, xs = [.int i, .int j] ∧ Q (.int (if j < i then j else i)) H) := by
 intro pins s σ H xs us Q I r h
 obtain ⟨i, j, rfl, q⟩ := h
 obtain ⟨u, w', rfl, ⟨t, rfl⟩, ⟨t', rfl⟩⟩ := vals2 r
 refine min_two_ints (I.ok.hd hc) fun h' tk k => ⟨_, H, I.kept k, ?_, q⟩
 by_cases hj : j < i
 ·rw [if_pos hj, if_pos hj]; exact ⟨_, rfl⟩
 ·rw [if_neg hj, if_neg hj]; exact ⟨_, rfl⟩
theorem call_divmod : CallR X (.builtin "divmod") (fun xs H Q => ∃ i j, xs = [.int i, .int j] ∧ CDiv i j ∧ ∀ p, H p = none → Q (.ref p) (upd H p (.tup [.int (i / j), .int (i % j)]))) := by
 intro pins s σ H xs us Q I r h
 obtain ⟨i, j, rfl, ⟨h1, h2⟩, q⟩ := h
 obtain ⟨u, w', rfl, ⟨t, rfl⟩, ⟨t', rfl⟩⟩ := vals2 r
 refine divmod_int (by lia) ?_ (.inl (PyProof.noPylong_small (by lia)))
 rw [Int.fdiv_eq_ediv_of_nonneg i (by lia), Int.fmod_eq_emod_of_nonneg i (by lia)]
 have hn : H s.heap.objs.size = none := I.hok.fresh (Nat.le_refl _)
 refine ⟨.ref s.heap.objs.size, _, ?_, rfl, q _ hn⟩
 refine I.laid (fun b o e => Heap.get?_push_of_some _ e) (Nat.le_refl _) ⟨by simp only [List.length_cons, List.length_nil]; rw [sizeLine_eq]; decide, [.int (i / j) s.toks, .int (i % j) (s.toks + 1)], .cons ⟨_, rfl⟩ (.cons ⟨_, rfl⟩ .nil), ?_⟩
 exact ⟨_, Heap.get?_push_size s.heap rfl, rfl, 0, rfl⟩
end
end L2
namespace L2
open PySem PySem.Spec PyProof.Rows
structure ObjM (h : Heap) (x dx C : Addr) (mA : Str → Option Value) : Prop where
 obj : h.get? x = some (PySem.W.instObj C dx)
 ns : h.Ns1 dx mA
 ne : dx ≠ x
theorem lookIn_ns {h : Heap} {dx : Addr} {mA : Str → Option Value} (n : h.Ns1 dx mA) : ∃ od, h.get? dx = some od ∧ ∀ name, PySem.W.lookIn name od = some (mA name) := by
 obtain ⟨o, es, ep, ho, hd, hk, _, hm⟩ := n
 refine ⟨o, ho, fun name => ?_⟩
 have e := hm name
 unfold nsFind findBy at e
 rw [← Array.find?_toList] at e
 unfold PySem.W.lookIn
 rw [hd]
 dsimp only
 split
 ·rename_i y q
  rw [q] at e
  exact congrArg some e
 ·rename_i q
  rw [q] at e
  have a : es.toList.any (·.refKey) = false := by
   rw [List.any_eq_false]
   intro y hy
   obtain ⟨z, t, hkey⟩ := hk y (Array.mem_toList_iff.mp hy)
   simp [DictEntry.refKey, hkey]
  have a' : ¬ es.toList.any (·.refKey) = true := by rw [a]; exact Bool.false_ne_true
  rw [if_neg a']
  exact congrArg some e
theorem ObjM.look {h : Heap} {x dx C : Addr} {mA : Str → Option Value} (I : ObjM h x dx C mA) : ∃ od, PySem.W.InstAt h x (PySem.W.instObj C dx) C (some od) ∧ ∀ name, PySem.W.lookIn name od = some (mA name) :=
 let ⟨od, ho, hl⟩ := lookIn_ns I.ns
 ⟨od, ⟨I.obj, rfl, rfl, ho⟩, hl⟩
section
variable {prog : Program} {w : World} {A : Around} {E : Value → Shared → Prop} {s : Shared} {K : PySem.W.Frag} {x dx C f : Addr} {mA : Str → Option Value} {name : Str} {v : Value}
theorem get_map {expr : Bool} {Q : Value → Shared → Prop} (X : K.In s.heap) (I : ObjM s.heap x dx C mA) (hg : PySem.W.plainGet K C name = true) (hh : PySem.W.hasDictIn K C = true)
  (ha : PySem.W.findIn K (.ref C) name = some none) (hv : mA name = some v) (hv' : PySem.W.handedIn v = true) (h : Q v { s with toks := s.toks + 1 }) :
  wpAny (model prog w) A (getAttr (.ref x) name expr) Q E s := by
 obtain ⟨od, J, hl⟩ := I.look
 exact PySem.W.get_value X J (PySem.W.plainGet_of hg).1 (PySem.W.findObj_own hh ha rfl (by rw [hl, hv])) hv' h
theorem get_meth {pl : Sem Bool} {Q : Value × List Value → Shared → Prop} (X : K.In s.heap) (I : ObjM s.heap x dx C mA) (hg : PySem.W.plainGet K C name = true)
  (hf : PySem.W.findIn K (.ref C) name = some (some (.ref f))) (ht : PySem.W.isFn K (.ref f) = true) (hv : mA name = none) (h : Q (.ref f, [.ref x]) s) :
  wpAny (model prog w) A (getMethod (.ref x) name pl) Q E s := by
 obtain ⟨od, J, hl⟩ := I.look
 exact PySem.W.method_fn X J (PySem.W.plainGet_of hg).1 (PySem.W.plainGet_of hg).2 hf (beq_iff_eq.mp ht) (by show (PySem.W.lookIn name od).map (·.isSome) = some false; rw [hl, hv]; rfl) h
theorem set_map {ns : List Str} {Q : Unit → Shared → Prop} (X : K.In s.heap) (I : ObjM s.heap x dx C mA)
  (hs : PySem.W.findIn K (.ref C) "__setattr__" = some (some (.builtin "object.__setattr__"))) (hp : PySem.W.plainOver K C = true) (ht : PySem.W.takerIn K C name = some none) (hh : PySem.W.hasDictIn K C = true)
  (hw : PySem.Within mA ns) (hsz : ns.length ≤ sizeLine)
  (h : ∀ h', ObjM h' x dx C (fun y => if y = name then some v else mA y) → Heap.SameBut dx s.heap h' → Q () { s with heap := h', toks := s.toks + 2 }) :
  wpAny (model prog w) A (setAttr (.ref x) name v) Q E s := by
 obtain ⟨od, J, hl⟩ := I.look
 refine PySem.W.set_plain X J hs (PySem.W.osa_open (s := { s with toks := s.toks + 1 }) (r := none) X J hp ht fun b => ?_)
 obtain ⟨cd, hc, hd'⟩ := PySem.W.any_some hh
 have hx : s.heap.get? x = some ⟨.ref C, some dx, .plain, #[]⟩ := I.obj
 refine wpAny_bind (wpAny_pure (wpAny_bind (wpAny_bind (wpAny_loadPart hx (wpAny_bind (PySem.W.Looks.here (s := { s with toks := s.toks + 1 }) (PySem.W.looks_clsIn X hc) ?_))))))
 rw [hd']
 refine wpAny_pure (a := some dx) (wpAny_bind (wpAny_pure (wpAny_bind ?_)))
 refine wpAny_nsSet1 (s := { s with toks := s.toks + 1 }) I.ns fun h' hn2 hs2 => ?_
 obtain ⟨oD, esD, epD, hoD, hdD, hcD⟩ := hn2.count (PySem.Within.cons name v hw)
 refine wpAny_bind (wpAny_lookBehind hoD (by rw [hdD]; exact pastItsLine_dict (Nat.le_trans hcD (by rw [List.length_cons]; lia))) ?_)
 exact wpAny_pure (h _ ⟨(hs2.2 _ (Ne.symm I.ne)).trans I.obj, hn2, I.ne⟩ hs2)
theorem make_map {R : Result → Shared → Prop} {vs : List Value} {kw : List (Str × Value)} (X : K.In s.heap) (hm : PySem.W.makesIn K C = true)
  (hi : PySem.W.findIn K (.ref C) "__init__" = some (some (.ref f))) (hf : PySem.W.typeIn K (.ref f) = some (.type "function"))
  (h : codeAny (model prog w) (A.under (.builtin "type.__call__" ⟨.ref C :: vs, kw⟩)) (.call (.ref f) ⟨.ref (s.heap.objs.size + 1) :: vs, kw⟩) (PySem.W.InitBack (s.heap.objs.size + 1) R)
   { s with heap := (s.heap.push PySem.W.emptyDict).push (PySem.W.instObj C s.heap.objs.size) }) :
  codeAny (model prog w) A (.call (.ref C) ⟨vs, kw⟩) R s := by
 obtain ⟨hh, g, d, t, os⟩ := s
 exact PySem.W.make_core (PySem.W.makes_of X hm) (PySem.W.looks_findIn X hi) (fun self => PySem.W.bind_fn X self hf) (.inl rfl) h
end
def putF (f : Str) (v : V) : List (Str × V) → List (Str × V)
 | [] => [(f, v)]
 | (g, x) :: r => if g = f then (g, v) :: r else (g, x) :: putF f v r
theorem lookup_putF (f g : Str) (v : V) : ∀ fs : List (Str × V), (putF f v fs).lookup g = if g = f then some v else fs.lookup g
 | [] => by
  show List.lookup g [(f, v)] = _
  by_cases h : g = f
  ·have hb : (g == f) = true := beq_iff_eq.mpr h
   simp only [List.lookup, hb, if_pos h]
  ·have hb : (g == f) = false := beq_eq_false_iff_ne.mpr h
   simp only [List.lookup, hb, if_neg h]
 | (k, x) :: r => by
  have ih := lookup_putF f g v r
  rw [show putF f v ((k, x) :: r) = (if k = f then (k, v) :: r else (k, x) :: putF f v r) from rfl]
  by_cases hk : k = f
  ·rw [if_pos hk]
   by_cases h : g = k
   ·have hb : (g == k) = true := beq_iff_eq.mpr h
    simp only [List.lookup, hb, if_pos (h.trans hk)]
   ·have hb : (g == k) = false := beq_eq_false_iff_ne.mpr h
    simp only [List.lookup, hb, if_neg (fun e : g = f => h (e.trans hk.symm))]
  ·rw [if_neg hk]
   by_cases h : g = k
   ·have hb : (g == k) = true := beq_iff_eq.mpr h
    simp only [List.lookup, hb, if_neg (fun e : g = f => hk (h.symm.trans e))]
   ·have hb : (g == k) = false := beq_eq_false_iff_ne.mpr h
    simp only [List.lookup, hb]
    exact ih
theorem keys_putF (f : Str) (v : V) : ∀ fs : List (Str × V), f ∈ (putF f v fs).map (·.1) ∧ ∀ g, g ∈ fs.map (·.1) → g ∈ (putF f v fs).map (·.1)
 | [] => ⟨by simp [putF], fun g h => by simp at h⟩
 | (k, x) :: r => by
  obtain ⟨i1, i2⟩ := keys_putF f v r
  rw [show putF f v ((k, x) :: r) = (if k = f then (k, v) :: r else (k, x) :: putF f v r) from rfl]
  by_cases hk : k = f
  ·rw [if_pos hk]
   subst hk
   exact ⟨by simp, fun g h => by simpa using h⟩
  ·rw [if_neg hk]
   refine ⟨?_, fun g h => ?_⟩
   ·rw [List.map_cons]
    exact List.mem_cons_of_mem _ i1
   ·rw [List.map_cons] at h ⊢
    rcases List.mem_cons.mp h with e | e
    ·exact List.mem_cons.mpr (.inl e)
    ·exact List.mem_cons_of_mem _ (i2 g e)
theorem length_putF (f : Str) (v : V) : ∀ fs : List (Str × V), (putF f v fs).length ≤ fs.length + 1
 | [] => by simp [putF]
 | (k, x) :: r => by
  have ih := length_putF f v r
  rw [show putF f v ((k, x) :: r) = (if k = f then (k, v) :: r else (k, x) :: putF f v r) from rfl]
  by_cases hk : k = f
  ·rw [if_pos hk, List.length_cons, List.length_cons]; lia
  ·rw [if_neg hk, List.length_cons, List.length_cons]; lia
theorem RelO.some_of {v : V} {o : Option Value} (r : RelO (some v) o) : ∃ u, o = some u ∧ RelV v u := by
 cases o with
 | none => exact (show False from r).elim
 | some u => exact ⟨u, rfl, r⟩
theorem RelO.none_of {o : Option Value} (r : RelO none o) : o = none := by
 cases o with
 | none => rfl
 | some u => exact (show False from r).elim
theorem handed_of {v : V} {u : Value} (r : RelV v u) : PySem.W.handedIn u = true := by
 cases v with
 | non => cases (show u = Value.none from r); rfl
 | bl b => cases (show u = Value.bool b from r); rfl
 | int i => obtain ⟨t, e⟩ := (show ∃ t, u = Value.int i t from r); cases e; rfl
 | str x => obtain ⟨t, e⟩ := (show ∃ t, u = Value.str x t from r); cases e; rfl
 | byt b => obtain ⟨t, e⟩ := (show ∃ t, u = Value.bytes b t from r); cases e; rfl
 | flt b => obtain ⟨t, e⟩ := (show ∃ t, u = Value.float b t from r); cases e; rfl
 | ref a => cases (show u = Value.ref a from r); rfl
 | ty n => cases (show u = Value.type n from r); rfl
section
variable {P : Program} {w : World} {H H' : Hp} {h h' : Heap} {a C dx : Addr} {fs fs' : List (Str × V)}
theorem ins_get (hok : HOk P w H h) (e : H a = some (.ins C dx fs)) : ∃ mA, ObjM h a dx C mA ∧ (∀ f, RelO (fs.lookup f) (mA f)) ∧ PySem.Within mA (fs.map (·.1)) ∧ fs.length ≤ 1000 ∧ H dx = some (.own a) := by
 obtain ⟨d, z, ne, ob, mA, n, r, q⟩ := (show ObjOk P w H h a (.ins C dx fs) from hok a _ e)
 exact ⟨mA, ⟨ob, n, ne⟩, r, q, z, d⟩
end
structure Cls (K : PySem.W.Frag) (C : Addr) : Prop where
 pg : PySem.W.plainGet K C Str.empty = true
 hd : PySem.W.hasDictIn K C = true
 po : PySem.W.plainOver K C = true
 sa : PySem.W.findIn K (.ref C) "__setattr__" = some (some (.builtin "object.__setattr__"))
theorem Cls.get {K : PySem.W.Frag} {C : Addr} (c : Cls K C) (f : Str) : PySem.W.plainGet K C f = true := c.pg
def NoAttr (K : PySem.W.Frag) (C : Addr) (f : Str) : Prop := PySem.W.findIn K (.ref C) f = some none
theorem NoAttr.taker {K : PySem.W.Frag} {C : Addr} {f : Str} (n : NoAttr K C f) : PySem.W.takerIn K C f = some none := by
 unfold PySem.W.takerIn
 rw [show PySem.W.findIn K (.ref C) f = some none from n]
 rfl
structure Meth (K : PySem.W.Frag) (C : Addr) (m : Str) (f : Addr) : Prop where
 at_ : PySem.W.findIn K (.ref C) m = some (some (.ref f))
 fn : PySem.W.isFn K (.ref f) = true
 kp : PySem.W.keepIn K (.ref f) = true
section
variable {X : Cx} {pins : List (Addr × Obj)} {σ : St} {H : Hp} {s : Shared} {a C dx : Addr} {fs : List (Str × V)} {f : Str} {v : V} {A : Around} {E : Value → Shared → Prop}
theorem getattr_ok {b : Bool} {Q : Value → Shared → Prop} (I : Inv X pins σ H s) (e : H a = some (.ins C dx fs)) (c : Cls X.K C) (n : NoAttr X.K C f) (l : fs.lookup f = some v)
  (h : ∀ u s', Inv X pins σ H s' → RelV v u → Q u s') : wpAny (model X.prog X.w) A (getAttr (.ref a) f b) Q E s := by
 obtain ⟨mA, O, r, _, _, _⟩ := ins_get I.hok e
 obtain ⟨u, hu, ru⟩ := RelO.some_of (v := v) (o := mA f) (by rw [← l]; exact r f)
 exact get_map I.kIn O (c.get f) c.hd n hu (handed_of ru) (h u _ (I.tok _) ru)
theorem getmeth_ok {m : Str} {g : Addr} {pl : Sem Bool} {Q : Value × List Value → Shared → Prop} (I : Inv X pins σ H s) (e : H a = some (.ins C dx fs)) (c : Cls X.K C) (k : Meth X.K C m g) (l : fs.lookup m = none)
  (h : Q (.ref g, [.ref a]) s) : wpAny (model X.prog X.w) A (getMethod (.ref a) m pl) Q E s := by
 obtain ⟨mA, O, r, _, _, _⟩ := ins_get I.hok e
 have hn : mA m = none := RelO.none_of (by rw [← l]; exact r m)
 exact get_meth I.kIn O (c.get m) k.at_ k.fn hn h
theorem setattr_ok {y : V} {u : Value} {Q : Unit → Shared → Prop} (I : Inv X pins σ H s) (e : H a = some (.ins C dx fs)) (c : Cls X.K C) (n : NoAttr X.K C f) (hl : fs.length < 1000) (ry : RelV y u)
  (h : ∀ s', Inv X pins σ (upd H a (.ins C dx (putF f y fs))) s' → Q () s') : wpAny (model X.prog X.w) A (setAttr (.ref a) f u) Q E s := by
 obtain ⟨mA, O, r, wi, _, ho⟩ := ins_get I.hok e
 have hz : (fs.map (·.1)).length ≤ sizeLine := by rw [List.length_map, sizeLine_eq]; lia
 refine set_map I.kIn O c.sa c.po n.taker c.hd wi hz fun h' O' sb => h _ ?_
 have hd : ∃ o, h'.get? dx = some o := let ⟨o, _, _, e', _⟩ := O'.ns; ⟨o, e'⟩
 refine I.write (x := a) (e := dx) (by rw [e]; exact True.intro) (.inr ho) (fun b q hb z => (sb.2 b hb).trans z) hd ?_
 refine ⟨by rw [upd_ne O.ne]; exact ho, ?_, O.ne, O'.obj, _, O'.ns, fun g => ?_, fun g hg => ?_⟩
 ·have := length_putF f y fs; lia
 ·show RelO ((putF f y fs).lookup g) (if g = f then some u else mA g)
  rw [lookup_putF]
  by_cases q : g = f
  ·rw [if_pos q, if_pos q]; exact ry
  ·rw [if_neg q, if_neg q]; exact r g
 ·by_cases q : g = f
  ·rw [q]; exact (keys_putF f y fs).1
  ·refine (keys_putF f y fs).2 g (wi g fun z => hg ?_)
   show (if g = f then some u else mA g) = none
   rw [if_neg q]; exact z
theorem Inv.made (I : Inv X pins σ H s) : Inv X pins σ (upd (upd H s.heap.objs.size (.own (s.heap.objs.size + 1))) (s.heap.objs.size + 1) (.ins C s.heap.objs.size []))
  { s with heap := (s.heap.push PySem.W.emptyDict).push (PySem.W.instObj C s.heap.objs.size) } := by
 have e1 : (s.heap.push PySem.W.emptyDict).get? s.heap.objs.size = some PySem.W.emptyDict := Heap.get?_push_size s.heap rfl
 have e2 : ((s.heap.push PySem.W.emptyDict).push (PySem.W.instObj C s.heap.objs.size)).get? (s.heap.objs.size + 1) = some (PySem.W.instObj C s.heap.objs.size) := by
  have := Heap.get?_push_size (s.heap.push PySem.W.emptyDict) (o := PySem.W.instObj C s.heap.objs.size) rfl
  rwa [Heap.size_push] at this
 have e3 : (s.heap.push PySem.W.emptyDict).Ns s.heap.objs.size (fun _ => none) := ⟨PySem.W.emptyDict, #[], _, e1, rfl, (fun e he => absurd he (by simp)), fun _ => rfl⟩
 have I1 := I.laid (a := s.heap.objs.size) (o := .own (s.heap.objs.size + 1)) (h' := s.heap.push PySem.W.emptyDict) (t' := s.toks) (fun b u q => Heap.get?_push_of_some _ q) (Nat.le_refl _) ⟨_, e1⟩
 refine I1.laid (a := s.heap.objs.size + 1) (o := .ins C s.heap.objs.size []) (t' := s.toks) (fun b u q => Heap.get?_push_of_some _ q) (Nat.le_of_eq (Heap.size_push _ _)) ?_
 have ne : s.heap.objs.size ≠ s.heap.objs.size + 1 := Nat.ne_of_lt (Nat.lt_succ_self _)
 refine ⟨by rw [upd_ne ne, upd_same], Nat.zero_le _, ne, e2, fun _ => none, (Heap.Ns1.of_empty e3).at fun o q => Heap.get?_push_of_some _ q, fun _ => True.intro, fun y hy => absurd rfl hy⟩
theorem attr_of {prog : Program} {w : World} {env : Env} {e : Expr} {f : Str} {pos : Pos} {s : Shared} {Q : Value → Shared → Prop} (hb : attributeBase e f env (eval e env) = eval e env)
  (h : wpAny (model prog w) A (eval e env) (fun o s₁ => wpAny (model prog w) A (getAttr o f true) Q E s₁) E s) : wpAny (model prog w) A (eval (.Attribute e f pos) env) Q E s :=
 Attribute_any_ h (by rw [arm_eval_Attribute, hb])
end
def tFld (K : PySem.W.Frag) (ta : TE) (f : Str) : TE := fun σ H Q => ta σ H fun x H1 => ∃ a C dx fs v, x = .ref a ∧ H1 a = some (.ins C dx fs) ∧ Cls K C ∧ NoAttr K C f ∧ fs.lookup f = some v ∧ Q v H1
def sFld (K : PySem.W.Frag) (ta tv : TE) (f : Str) : TS := fun D σ H => tv σ H fun y H1 => ta σ H1 fun x H2 => ∃ a C dx fs, x = .ref a ∧ H2 a = some (.ins C dx fs) ∧ Cls K C ∧ NoAttr K C f ∧ fs.length < 1000 ∧
 D.nx σ (upd H2 a (.ins C dx (putF f y fs)))
section
variable {X : Cx} {o e value : Expr} {f : Str} {pos pos' tpos : Pos} {ta tv : TE}
theorem pe_fld (he : PE X e ta) (hb : attributeBase e f X.env (eval e X.env) = eval e X.env) : PE X (.Attribute e f pos) (tFld X.K ta f) := by
 intro pins s σ H Q I h
 refine attr_of hb (thn (he pins s σ H _ I h) fun u s1 ⟨x, H1, I1, rx, a, C, dx, fs, v, ex, ea, c, n, l, q⟩ => ?_)
 subst ex
 obtain rfl : u = Value.ref a := rx
 exact getattr_ok I1 ea c n l fun u' s2 I2 ru => ⟨v, H1, I2, ru, q⟩
theorem ps_fld (ha : PE X o ta) (hv : PE X value tv) (hs : swapsWith value (some (.Attribute o f pos')) pos.line X.env = pure false) : PS X (.Assign [.Attribute o f pos'] value pos) (sFld X.K ta tv f) := by
 intro pins s σ H D I h
 refine plainObj_wpAny_Assign_Attribute (thn (hv pins s σ H _ I h) fun u s1 ⟨y, H1, I1, ry, q⟩ => thn (ha pins s1 σ H1 _ I1 q) fun ov s2 ⟨x, H2, I2, rx, a, C, dx, fs, ex, ea, c, n, l, q2⟩ => ?_) hs
 subst ex
 obtain rfl : ov = Value.ref a := rx
 exact setattr_ok I2 ea c n l ry fun s3 I3 => ⟨σ, _, I3, q2⟩
theorem methcall_of {pl : Sem Bool} {m : Str} {apos : Pos} {args : List Expr} {pins : List (Addr × Obj)} {s : Shared} {σ : St} {H : Hp} {Q : Value → Shared → Prop} {te : TE} (he : PE X e te) (I : Inv X pins σ H s)
  (h : te σ H fun x H1 => ∃ a C dx fs g, x = .ref a ∧ H1 a = some (.ins C dx fs) ∧ Cls X.K C ∧ Meth X.K C m g ∧ fs.lookup m = none ∧
   ∀ s1, Inv X pins σ H1 s1 → wpAny (model X.prog X.w) X.A (callWith pos (.ref g) [.ref a] (backTo pos (starEach args X.env)) (backToKw pos (keywordEach [] X.env))) Q X.xe s1)
  (ht : eval (.Call (.Attribute e m apos) args [] pos) X.env = (do
   let ov ← eval e X.env
   standAt apos.atName
   let (f, first) ← holding [ov] (getMethod ov m pl)
   callWith pos f first (backTo pos (starEach args X.env)) (backToKw pos (keywordEach [] X.env)))) :
  wpAny (model X.prog X.w) X.A (eval (.Call (.Attribute e m apos) args [] pos) X.env) Q X.xe s := by
 refine PySem.W.methodCall_KW (pl := pl) (thn (he pins s σ H _ I h) fun u s1 ⟨x, H1, I1, rx, a, C, dx, fs, g, ex, ea, c, k, l, q⟩ => ?_) ht
 subst ex
 obtain rfl : u = Value.ref a := rx
 exact getmeth_ok I1 ea c k l (q s1 I1)
end
section
variable {X : Cx} {pins : List (Addr × Obj)} {σ : St} {H : Hp} {s : Shared} {A : Around} {E : Value → Shared → Prop} {Q : Value → Shared → Prop} {c : Value} {b : Bool}
inductive TyOf (K : PySem.W.Frag) (H : Hp) : V → Value → Prop where
 | non : TyOf K H .non (.type "NoneType")
 | bl (x : Bool) : TyOf K H (.bl x) (.type "bool")
 | int (i : Int) : TyOf K H (.int i) (.type "int")
 | str (x : Str) : TyOf K H (.str x) (.type "str")
 | flt (x : UInt64) : TyOf K H (.flt x) (.type "float")
 | lst {a : Addr} {xs : List V} (e : H a = some (.lst xs)) : TyOf K H (.ref a) (.type "list")
 | frz {a : Addr} {o : Obj} {xs : List V} (e : H a = some (.frz o (.lst xs))) : TyOf K H (.ref a) (.type "list")
 | tup {a : Addr} {xs : List V} (e : H a = some (.tup xs)) : TyOf K H (.ref a) (.type "tuple")
 | dK {a : Addr} {kvs : List (Key × V)} (e : H a = some (.dK kvs)) : TyOf K H (.ref a) (.type "dict")
 | dT {a : Addr} {kvs : List (List Key × V)} (e : H a = some (.dT kvs)) : TyOf K H (.ref a) (.type "dict")
 | ins {a C dx : Addr} {fs : List (Str × V)} (e : H a = some (.ins C dx fs)) (cl : Cls K C) (ha : PySem.W.findIn K (.ref C) "__class__" = some (some (.builtin "object.__class__")))
   (hn : PySem.W.specialIn K (.builtin "object.__class__") "__get__" = some (some (.builtin "getset_descriptor.__get__"))) (htk : PySem.W.takesIn K (.builtin "object.__class__") = some true)
   (hm : PySem.W.mroIn K C (.type "object") = some true) : TyOf K H (.ref a) (.ref C)
theorem isinst_ok {x : V} {u t : Value} (I : Inv X pins σ H s) (rx : RelV x u) (ty : TyOf X.K H x t) (e : PySem.W.kitOne X.K t c = some b) (h : ∀ tk, Q (.bool b) { s with toks := tk }) :
  wpAny (model X.prog X.w) A (call (.builtin "isinstance") [u, c]) Q E s := by
 cases ty with
 | non => cases (show u = Value.none from rx); exact PySem.W.kia_one PySem.W.kitx_none I.kIn True.intro e (fun z => nomatch z) h
 | bl y => cases (show u = Value.bool y from rx); exact PySem.W.kia_one PySem.W.kitx_bool I.kIn True.intro e (fun z => nomatch z) h
 | int i => obtain ⟨t, q⟩ := (show ∃ t, u = Value.int i t from rx); cases q; exact PySem.W.kia_one PySem.W.kitx_int I.kIn True.intro e (fun z => nomatch z) h
 | str y => obtain ⟨t, q⟩ := (show ∃ t, u = Value.str y t from rx); cases q; exact PySem.W.kia_one PySem.W.kitx_str I.kIn True.intro e (fun z => nomatch z) h
 | flt y => obtain ⟨t, q⟩ := (show ∃ t, u = Value.float y t from rx); cases q; exact PySem.W.kia_one PySem.W.kitx_float I.kIn True.intro e (fun z => nomatch z) h
 | @lst a xs ea =>
  cases (show u = Value.ref a from rx)
  obtain ⟨_, _, n, _, h1⟩ := (show ObjOk X.prog X.w H s.heap a (.lst xs) from I.hok a _ ea)
  exact PySem.W.kia_one PySem.W.kitx_list I.kIn ⟨_, h1, rfl⟩ e (fun z => nomatch z) h
 | @frz a ob xs ea =>
  cases (show u = Value.ref a from rx)
  obtain ⟨_, _, _, n, _, h1⟩ := (show ObjOk X.prog X.w H s.heap a (.frz ob (.lst xs)) from I.hok a _ ea)
  exact PySem.W.kia_one PySem.W.kitx_list I.kIn ⟨_, h1, rfl⟩ e (fun z => nomatch z) h
 | @tup a xs ea =>
  cases (show u = Value.ref a from rx)
  obtain ⟨_, _, _, p⟩ := (show ObjOk X.prog X.w H s.heap a (.tup xs) from I.hok a _ ea)
  obtain ⟨o, h1, h2, _⟩ := p
  exact PySem.W.kia_one PySem.W.kitx_tuple I.kIn ⟨o, h1, h2⟩ e (fun z => nomatch z) h
 | @dK a kvs ea =>
  cases (show u = Value.ref a from rx)
  obtain ⟨_, _, vs, _, p⟩ := (show ObjOk X.prog X.w H s.heap a (.dK kvs) from I.hok a _ ea)
  obtain ⟨o, es, ep, h1, h2, _⟩ := p
  exact PySem.W.kia_one PySem.W.kitx_dict I.kIn ⟨o, h1, h2.1⟩ e (fun z => nomatch z) h
 | @dT a kvs ea =>
  cases (show u = Value.ref a from rx)
  obtain ⟨_, _, xs, _, o, es, ep, h1, h2, _⟩ := (show ObjOk X.prog X.w H s.heap a (.dT kvs) from I.hok a _ ea)
  exact PySem.W.kia_one PySem.W.kitx_dict I.kIn ⟨o, h1, h2.1⟩ e (fun z => nomatch z) h
 | @ins a C dx fs ea cl ha hn htk hm =>
  cases (show u = Value.ref a from rx)
  obtain ⟨mA, O, _⟩ := ins_get I.hok ea
  obtain ⟨od, J, _⟩ := O.look
  exact PySem.W.kia_one (PySem.W.kitx_own (cl.get _) cl.hd ha hn htk hm) I.kIn J e (fun z => nomatch z) h
end
end L2
namespace L2
open PySem PySem.Spec PyProof.Rows
structure Room (k : Nat) (A : Around) : Prop where
 hd : A.handled = none
 dp : A.depth + 3 * k + 5 < recursionLimit
 un : A.units + 16 * k + 200 < cLine
theorem Room.mono {j k : Nat} {A : Around} (r : Room k A) (h : j ≤ k) : Room j A := ⟨r.hd, by have := r.dp; lia, by have := r.un; lia⟩
theorem Room.deeper {k : Nat} {A : Around} (r : Room (k + 1) A) (env : Env) : Room k (A.deeper env) :=
 ⟨r.hd, by have := r.dp; show A.depth + 1 + 3 * k + 5 < _; lia, by have := r.un; show A.units + 3 + 16 * k + 200 < _; lia⟩
theorem make_depth {A : Around} {C : Addr} {us : List Value} {kw : List (Str × Value)} : (A.under (.builtin "type.__call__" ⟨.ref C :: us, kw⟩)).depth = A.depth + 1 := by
 first | rfl | simp [Around.under, Code.weight, Code.isCreation, Code.isGuard, Code.isCaller, Code.frames, Code.isFrame, guardIds]
theorem make_units {A : Around} {C : Addr} {us : List Value} {kw : List (Str × Value)} : (A.under (.builtin "type.__call__" ⟨.ref C :: us, kw⟩)).units = A.units + 1 := by
 first | rfl | simp [Around.under, Code.cUnits, Code.frames, Code.isFrame]
theorem Room.make {k : Nat} {A : Around} (r : Room (k + 1) A) (C : Addr) (us : List Value) (kw : List (Str × Value)) : Room k (A.under (.builtin "type.__call__" ⟨.ref C :: us, kw⟩)) :=
 ⟨r.hd, by have := r.dp; rw [make_depth]; lia, by have := r.un; rw [make_units]; lia⟩
theorem Room.depth {k : Nat} {A : Around} (r : Room k A) : A.depth < recursionLimit := by have := r.dp; lia
theorem Room.units0 {k : Nat} {A : Around} (r : Room k A) : A.units < cLine := by have := r.un; lia
def tNil : TA := fun _ H Q => Q [] H
def tCons (ta : TE) (tr : TA) : TA := fun σ H Q => ta σ H fun x H1 => tr σ H1 fun xs H2 => Q (x :: xs) H2
section
variable {X : Cx} {e : Expr} {es : List Expr} {te : TE} {t : TA} {pos : Pos}
theorem pa_nil : PA X [] tNil := fun _ _ _ _ H Q I h => Calls.spliced_nil ⟨[], H, I, .nil, h⟩
theorem pa_cons (ha : PE X e te) (hr : PA X es t) (hs : starEach (e :: es) X.env = (false, eval e X.env) :: starEach es X.env := by rfl) : PA X (e :: es) (tCons te t) := by
 intro pos pins s σ H Q I h
 rw [hs]
 show wpAny _ _ (spliced ((false, eval e X.env) :: backTo pos (starEach es X.env))) _ _ s
 refine Calls.spliced_cons (thn (ha pins s σ H _ I h) fun u s1 ⟨x, H1, I1, r1, q1⟩ => ?_)
 exact thn (hr pos pins s1 σ H1 _ I1 q1) fun us s2 ⟨xs, H2, I2, r2, q2⟩ => ⟨x :: xs, H2, I2, .cons r1 r2, q2⟩
def tTup (t : TA) : TE := fun σ H Q => t σ H fun xs H1 => xs.length ≤ sizeLine ∧ ∀ p, H1 p = none → Q (.ref p) (upd H1 p (.tup xs))
def tLst (t : TA) : TE := fun σ H Q => t σ H fun xs H1 => xs.length ≤ sizeLine ∧ ∀ p, H1 p = none → Q (.ref p) (upd H1 p (.lst xs))
theorem pe_tup {x1} (h : PA X es t) : PE X (.Tuple es x1 pos) (tTup t) := by
 intro pins s σ H Q I hq
 refine wpAny_Tuple_spliced (thn (h pos pins s σ H _ I hq) fun us s1 ⟨xs, H1, I1, r, z, q⟩ => ⟨by rw [← r.length]; exact z, ?_⟩)
 have hf : H1 s1.heap.objs.size = none := I1.hok.fresh (Nat.le_refl _)
 refine ⟨.ref s1.heap.objs.size, upd H1 s1.heap.objs.size (.tup xs), I1.laid (t' := s1.toks) (fun b u e => Heap.get?_push_of_some _ e) (Nat.le_refl _) ?_, rfl, q _ hf⟩
 exact ⟨z, us, r, ⟨_, Heap.get?_push_size _ rfl, rfl, _, rfl⟩⟩
theorem pe_lst (h : PA X es t) : PE X (.List es pos) (tLst t) := by
 intro pins s σ H Q I hq
 refine wpAny_List_spliced (thn (h pos pins s σ H _ I hq) fun us s1 ⟨xs, H1, I1, r, z, q⟩ => ⟨by rw [← r.length]; exact z, ?_⟩)
 have hf : H1 s1.heap.objs.size = none := I1.hok.fresh (Nat.le_refl _)
 refine ⟨.ref s1.heap.objs.size, upd H1 s1.heap.objs.size (.lst xs), I1.laid (t' := s1.toks) (fun b u e => Heap.get?_push_of_some _ e) (Nat.le_refl _) ?_, rfl, q _ hf⟩
 exact ⟨z, us, 0, r, Heap.get?_push_size _ rfl⟩
end
abbrev Sp := List V → Hp → VK → XK → Prop
abbrev CXT := List Env → Hp → Shared → XK → Value → Shared → Prop
structure Env0 (P : Program) (w : World) (K : PySem.W.Frag) (mg : Str → Option Value) (base : Heap) (A : Around) (outer : List Env) (s : Shared) (H : Hp) : Prop where
 frames : A.frames = some outer
 mod : Mod K mg base
 bs : ∀ b o, base.get? b = some o → s.heap.get? b = some o ∧ H b = none
 bsz : base.objs.size ≤ s.heap.objs.size
 funs : s.heap.FunFrames base outer
 frf : ∀ b ∈ frs outer, H b = none
 hok : HOk P w H s.heap
 bare : AllBare s.gens
def CE (outer : List Env) (P : Program) (w : World) (H : Hp) (s : Shared) (Q : VK) (u : Value) (s' : Shared) : Prop :=
 ∃ v H', s'.os = s.os ∧ AllBare s'.gens ∧ Un (frs outer) [] H H' s.heap s'.heap ∧ HOk P w H' s'.heap ∧ RelV v u ∧ Q v H'
def CR (CX : CXT) (outer : List Env) (P : Program) (w : World) (H : Hp) (s : Shared) (Q : VK) (E : XK) (r : Result) (s' : Shared) : Prop :=
 match r with
 | .ok (.ret u) => CE outer P w H s Q u s'
 | .ok _ => False
 | .error e => CX outer H s E e s'
structure FnOk (P : Program) (w : World) (K : PySem.W.Frag) (mg : Str → Option Value) (base : Heap) (CX : CXT) (k : Nat) (f : Addr) (fd : FuncData) (ps : List Str) (sp : Sp) : Prop where
 len : ∀ vs H Q E, sp vs H Q E → vs.length = ps.length
 run : ∀ (A : Around) (outer : List Env) (s : Shared) (H : Hp) (args : Args) (us : List Value) (vs : List V) (Q : VK) (E : XK), Room k A → Env0 P w K mg base A outer s H → BindsTo s fd args (ps.zip us) → Vals vs us → sp vs H Q E →
  codeAny (model P w) A (.call (.ref f) args) (CR CX outer P w H s Q E) s
theorem Env0.make {P : Program} {w : World} {K : PySem.W.Frag} {mg : Str → Option Value} {base : Heap} {A : Around} {outer : List Env} {s : Shared} {H : Hp} (e : Env0 P w K mg base A outer s H) (C : Addr) (us : List Value) (kw : List (Str × Value)) :
  Env0 P w K mg base (A.under (.builtin "type.__call__" ⟨.ref C :: us, kw⟩)) outer s H := ⟨by first | exact e.frames | (simpa [Around.under, Code.envs, Code.isFrame, pushEnvs] using e.frames), e.mod, e.bs, e.bsz, e.funs, e.frf, e.hok, e.bare⟩
section
variable {X : Cx} {pins : List (Addr × Obj)} {σ : St} {H : Hp} {s s' : Shared}
theorem Inv.env0 (I : Inv X pins σ H s) : Env0 X.prog X.w X.K X.mg X.base X.A X.stack s H :=
 ⟨I.ok.frames, I.ok.mod, I.bs, Nat.le_trans I.ok.bsz I.sz, I.stack, I.stkFree, I.hok, I.bare⟩
theorem Inv.after {Q : VK} {u : Value} (I : Inv X pins σ H s) (h : CE X.stack X.prog X.w H s Q u s') : EP X pins σ Q u s' := by
 obtain ⟨v, H', os, bare, un, hok, r, q⟩ := h
 obtain ⟨hh, g, d, t, os'⟩ := s'
 obtain rfl : os' = s.os := os
 exact ⟨v, H', I.call (h' := hh) (g' := g) (d' := d) (t' := t) (ch := []) un hok bare (fun b z => absurd z (by simp)), r, q⟩
end
def tCall (sp : Sp) (dvs : List V) (E : XK) (t : TA) : TE := fun σ H Q => t σ H fun vs H1 => sp (vs ++ dvs) H1 Q E
def tMeth (C : Addr) (m : Str) (sp : Sp) (dvs : List V) (E : XK) (ta : TE) (t : TA) : TE := fun σ H Q => ta σ H fun x H1 => ∃ a dx fs, x = .ref a ∧ H1 a = some (.ins C dx fs) ∧ fs.lookup m = none ∧
 t σ H1 fun vs H2 => sp (x :: (vs ++ dvs)) H2 Q E
def tMake (C : Addr) (sp : Sp) (dvs : List V) (E : XK) (t : TA) : TE := fun σ H Q => t σ H fun vs H1 => ∀ x dx, H1 x = none → H1 dx = none → dx ≠ x →
 sp (.ref x :: (vs ++ dvs)) (upd (upd H1 dx (.own x)) x (.ins C dx [])) (fun v H2 => v = .non ∧ Q (.ref x) H2) E
def Binds (K : PySem.W.Frag) (fd : FuncData) (ps : List Str) (ds : List Value) : Prop :=
 ∀ (s : Shared) (us : List Value), K.In s.heap → (us ++ ds).length = ps.length → BindsTo s fd ⟨us, []⟩ (ps.zip (us ++ ds))
theorem Binds.all {K : PySem.W.Frag} {fd : FuncData} {ps : List Str} (h : ∀ us : List Value, us.length = ps.length → bindArgs fd ⟨us, []⟩ = pure (ps.zip us)) : Binds K fd ps [] := fun s us _ hl => by
 rw [List.append_nil] at hl ⊢
 exact .of_eq (h us hl)
def Passes (CX : CXT) (X : Cx) (E : XK) : Prop := ∀ (pins : List (Addr × Obj)) (σ : St) (H : Hp) (s : Shared) (e : Value) (s' : Shared), Inv X pins σ H s → CX X.stack H s E e s' → X.xe e s'
section
variable {X : Cx} {CX : CXT} {k : Nat} {f C : Addr} {fd : FuncData} {ps : List Str} {sp : Sp} {dvs : List V} {ds : List Value} {E : XK} {x m : Str} {p pos apos : Pos} {e o : Expr} {es : List Expr} {ta : TE} {t : TA}
theorem run_fn {pins : List (Addr × Obj)} {σ : St} {H : Hp} {s : Shared} {Q : VK} {us : List Value} {vs : List V} (F : FnOk X.prog X.w X.K X.mg X.base CX k f fd ps sp) (hr : Room k X.A) (hb : Binds X.K fd ps ds) (hd : Vals dvs ds) (hx : Passes CX X E)
  (I : Inv X pins σ H s) (r : Vals vs us) (h : sp (vs ++ dvs) H Q E) : wpAny (model X.prog X.w) X.A (call (.ref f) us) (EP X pins σ Q) X.xe s := by
 have r2 : Vals (vs ++ dvs) (us ++ ds) := r.append hd
 have hl : (us ++ ds).length = ps.length := by rw [← r2.length]; exact F.len _ _ _ _ h
 refine wpAny_call (codeAny_mono (F.run X.A X.stack s H ⟨us, []⟩ (us ++ ds) (vs ++ dvs) Q E hr I.env0 (hb s us I.kIn hl) r2 h) fun r s' hq => ?_)
 cases r with
 | error e => exact hx pins σ H s e s' I hq
 | ok fl =>
  cases fl with
  | ret u => exact I.after hq
  | next => exact False.elim hq
  | brk => exact False.elim hq
  | cont => exact False.elim hq
theorem pe_call (F : FnOk X.prog X.w X.K X.mg X.base CX k f fd ps sp) (hr : Room k X.A) (hg : Gl X x) (hm : X.mg x = some (.ref f)) (hk : PySem.W.keepIn X.K (.ref f) = true) (hb : Binds X.K fd ps ds) (hd : Vals dvs ds) (hx : Passes CX X E)
  (ha : PA X (e :: es) t) (hdb : (x == ("__debug__" : Str)) = false := by decide) (he : starEach (e :: es) X.env = (false, eval e X.env) :: starEach es X.env := by rfl) (hpl : (backTo pos (starEach es X.env)).any (·.1) = false := by rfl) :
  PE X (.Call (.Name x p) (e :: es) [] pos) (tCall sp dvs E t) := by
 intro pins s σ H Q I h
 refine wpAny_Call_Name_kw (ld_glob I hg hm ?_ hdb)
 refine PySem.W.callWith_K (h₀ := X.base) I.ok.mod.kin hk (thn (ha pos pins s σ H _ I h) fun us s1 ⟨vs, H1, I1, r, q⟩ => ⟨I1.kIn, ?_⟩) he hpl
 exact run_fn F hr hb hd hx I1 r q
theorem pe_meth {pl : Sem Bool} (he : PE X o ta) (c : Cls X.K C) (hm : Meth X.K C m f) (F : FnOk X.prog X.w X.K X.mg X.base CX k f fd ps sp) (hr : Room k X.A) (hb : Binds X.K fd ps ds) (hd : Vals dvs ds) (hx : Passes CX X E) (ha : PA X (e :: es) t)
  (hst : starEach (e :: es) X.env = (false, eval e X.env) :: starEach es X.env := by rfl) (hpl : (backTo pos (starEach es X.env)).any (·.1) = false := by rfl)
  (ht : eval (.Call (.Attribute o m apos) (e :: es) [] pos) X.env = (do
   let ov ← eval o X.env
   standAt apos.atName
   let (f, first) ← holding [ov] (getMethod ov m pl)
   callWith pos f first (backTo pos (starEach (e :: es) X.env)) (backToKw pos (keywordEach [] X.env))) := by rfl) :
  PE X (.Call (.Attribute o m apos) (e :: es) [] pos) (tMeth C m sp dvs E ta t) := by
 intro pins s σ H Q I h
 refine PySem.W.methodCall_KW (pl := pl) (thn (he pins s σ H _ I h) fun u s1 ⟨x, H1, I1, rx, a, dx, fs, ex, ea, l, q⟩ => ?_) ht
 subst ex
 obtain rfl : u = Value.ref a := rx
 refine getmeth_ok I1 ea c hm l ?_
 refine PySem.W.callWith_K (first := [.ref a]) (h₀ := X.base) I.ok.mod.kin hm.kp (thn (ha pos pins s1 σ H1 _ I1 q) fun us s2 ⟨vs, H2, I2, r, q2⟩ => ⟨I2.kIn, ?_⟩) hst hpl
 exact run_fn (us := .ref a :: us) (vs := .ref a :: vs) F hr hb hd hx I2 (.cons rfl r) q2
structure Mk (K : PySem.W.Frag) (C f : Addr) : Prop where
 makes : PySem.W.makesIn K C = true
 init : PySem.W.findIn K (.ref C) "__init__" = some (some (.ref f))
 fn : PySem.W.isFn K (.ref f) = true
 kp : PySem.W.keepIn K (.ref C) = true
theorem run_make {pins : List (Addr × Obj)} {σ : St} {H : Hp} {s : Shared} {Q : VK} {us : List Value} {vs : List V} (M : Mk X.K C f) (F : FnOk X.prog X.w X.K X.mg X.base CX k f fd ps sp) (hr : Room (k + 1) X.A) (hb : Binds X.K fd ps ds) (hd : Vals dvs ds)
  (hx : Passes CX X E) (I : Inv X pins σ H s) (r : Vals vs us)
  (h : ∀ x dx, H x = none → H dx = none → dx ≠ x → sp (.ref x :: (vs ++ dvs)) (upd (upd H dx (.own x)) x (.ins C dx [])) (fun v H2 => v = .non ∧ Q (.ref x) H2) E) :
  wpAny (model X.prog X.w) X.A (call (.ref C) us) (EP X pins σ Q) X.xe s := by
 have hq := h (s.heap.objs.size + 1) s.heap.objs.size (I.hok.fresh (Nat.le_succ _)) (I.hok.fresh (Nat.le_refl _)) (Nat.ne_of_lt (Nat.lt_succ_self _))
 have I2 := Inv.made (C := C) I
 have r2 : Vals (V.ref (s.heap.objs.size + 1) :: (vs ++ dvs)) (Value.ref (s.heap.objs.size + 1) :: (us ++ ds)) := .cons rfl (r.append hd)
 have hl : (Value.ref (s.heap.objs.size + 1) :: us ++ ds).length = ps.length := by
  have e := r2.length
  rw [F.len _ _ _ _ hq] at e
  exact e.symm
 refine wpAny_call (make_map (f := f) I.kIn M.makes M.init (beq_iff_eq.mp M.fn) (codeAny_mono (F.run _ X.stack _ _ ⟨Value.ref (s.heap.objs.size + 1) :: us, []⟩ (Value.ref (s.heap.objs.size + 1) :: (us ++ ds)) _ _ E (hr.make C us [])
  (I2.env0.make C us []) (hb _ (Value.ref (s.heap.objs.size + 1) :: us) I2.kIn hl) r2 hq) fun r s' hq' => ?_))
 cases r with
 | error e => exact hx pins σ _ _ e s' I2 hq'
 | ok fl =>
  cases fl with
  | ret u =>
   obtain ⟨v, H', I3, rv, ev, q3⟩ := I2.after hq'
   subst ev
   exact ⟨rv, ⟨V.ref (s.heap.objs.size + 1), H', I3, rfl, q3⟩⟩
  | next => exact False.elim hq'
  | brk => exact False.elim hq'
  | cont => exact False.elim hq'
theorem pe_make (M : Mk X.K C f) (F : FnOk X.prog X.w X.K X.mg X.base CX k f fd ps sp) (hr : Room (k + 1) X.A) (hg : Gl X x) (hm : X.mg x = some (.ref C)) (hb : Binds X.K fd ps ds) (hd : Vals dvs ds) (hx : Passes CX X E)
  (ha : PA X (e :: es) t) (hdb : (x == ("__debug__" : Str)) = false := by decide) (he : starEach (e :: es) X.env = (false, eval e X.env) :: starEach es X.env := by rfl) (hpl : (backTo pos (starEach es X.env)).any (·.1) = false := by rfl) :
  PE X (.Call (.Name x p) (e :: es) [] pos) (tMake C sp dvs E t) := by
 intro pins s σ H Q I h
 refine wpAny_Call_Name_kw (ld_glob I hg hm ?_ hdb)
 refine PySem.W.callWith_K (h₀ := X.base) I.ok.mod.kin M.kp (thn (ha pos pins s σ H _ I h) fun us s1 ⟨vs, H1, I1, r, q⟩ => ⟨I1.kIn, ?_⟩) he hpl
 exact run_make M F hr hb hd hx I1 r q
theorem pe_make0 (M : Mk X.K C f) (F : FnOk X.prog X.w X.K X.mg X.base CX k f fd ps sp) (hr : Room (k + 1) X.A) (hg : Gl X x) (hm : X.mg x = some (.ref C)) (hb : Binds X.K fd ps ds) (hd : Vals dvs ds) (hx : Passes CX X E)
  (hdb : (x == ("__debug__" : Str)) = false := by decide) : PE X (.Call (.Name x p) [] [] pos) (tMake C sp dvs E tNil) := by
 intro pins s σ H Q I h
 refine wpAny_Call_Name_kw (ld_glob I hg hm ?_ hdb)
 exact PySem.W.callWith_K0 I.kIn M.kp (run_make (us := []) M F hr hb hd hx I .nil h)
end
structure FnScope (N P : List Str) (sc : Scope) : Prop where
 kind : sc.kind = .function
 co : sc.isCoroutine = false
 gen : sc.isGenerator = false
 nd : N.Nodup
 pre : N.take P.length = P
 par : ∀ x ∈ P, sc.names.lookup x = some .local ∨ sc.names.lookup x = some .cell
 nofree : ∀ y ∈ sc.names, y.2 ≠ .free
theorem bindL_out {kindOf : Str → Option NameKind} {x : Str} : ∀ {binds : List (Str × Value)} {m : Str → Option Value}, (∀ v, (x, v) ∉ binds) → bindL kindOf binds m x = m x
 | [], _, _ => rfl
 | (n, v) :: r, m, h => by
  unfold bindL
  rw [bindL_out fun w hw => h w (List.mem_cons_of_mem _ hw)]
  split
  ·have : x ≠ n := by rintro rfl; exact h v List.mem_cons_self
   simp [this]
  ·rfl
theorem bindC_out {kindOf : Str → Option NameKind} {x : Str} : ∀ {binds : List (Str × Value)} {m : Str → Option Value}, (∀ v, (x, v) ∉ binds) → bindC kindOf binds m x = m x
 | [], _, _ => rfl
 | (n, v) :: r, m, h => by
  unfold bindC
  rw [bindC_out fun w hw => h w (List.mem_cons_of_mem _ hw)]
  split
  ·rfl
  ·have : x ≠ n := by rintro rfl; exact h v List.mem_cons_self
   simp [this]
theorem bindL_get {kindOf : Str → Option NameKind} {x : Str} {v : Value} : ∀ {P : List Str} {vs : List Value} {i : Nat} {m : Str → Option Value}, P.Nodup → P[i]? = some x → vs[i]? = some v → kindOf x = some .local →
  bindL kindOf (P.zip vs) m x = some v
 | [], _, _, _, _, h, _, _ => by simp at h
 | _ :: _, [], _, _, _, _, h, _ => by simp at h
 | p :: P, w :: vs, 0, m, nd, h1, h2, hk => by
  simp at h1 h2; subst h1; subst h2
  show bindL kindOf ((p, w) :: P.zip vs) m p = _
  unfold bindL
  rw [bindL_out fun v hv => (List.nodup_cons.mp nd).1 (List.of_mem_zip hv).1, if_pos hk]
  simp
 | p :: P, w :: vs, i + 1, m, nd, h1, h2, hk => by
  show bindL kindOf ((p, w) :: P.zip vs) m x = _
  unfold bindL
  exact bindL_get (i := i) (List.nodup_cons.mp nd).2 (by simpa using h1) (by simpa using h2) hk
theorem bindC_get {kindOf : Str → Option NameKind} {x : Str} {v : Value} : ∀ {P : List Str} {vs : List Value} {i : Nat} {m : Str → Option Value}, P.Nodup → P[i]? = some x → vs[i]? = some v → kindOf x ≠ some .local →
  bindC kindOf (P.zip vs) m x = some v
 | [], _, _, _, _, h, _, _ => by simp at h
 | _ :: _, [], _, _, _, _, h, _ => by simp at h
 | p :: P, w :: vs, 0, m, nd, h1, h2, hk => by
  simp at h1 h2; subst h1; subst h2
  show bindC kindOf ((p, w) :: P.zip vs) m p = _
  unfold bindC
  rw [bindC_out fun v hv => (List.nodup_cons.mp nd).1 (List.of_mem_zip hv).1, if_neg hk]
  simp
 | p :: P, w :: vs, i + 1, m, nd, h1, h2, hk => by
  show bindC kindOf ((p, w) :: P.zip vs) m x = _
  unfold bindC
  exact bindC_get (i := i) (List.nodup_cons.mp nd).2 (by simpa using h1) (by simpa using h2) hk
def start (N : List Str) (vs : List V) : St := vs.map some ++ List.replicate (N.length - vs.length) none
def cxOf (CX : CXT) (P : Program) (w : World) (K : PySem.W.Frag) (mg : Str → Option Value) (base : Heap) (N : List Str) (qual : Str) (scope : Scope) (f : Addr) (cd : Value) (A : Around) (outer : List Env) (s : Shared) (H : Hp) (E : XK) : Cx where
 prog := P
 w := w
 K := K
 mg := mg
 base := base
 A := A.deeper (envOfC qual scope s.heap.objs.size f cd)
 N := N
 s₀ := s
 H₀ := H
 env := envOfC qual scope s.heap.objs.size f cd
 outer := outer
 stack := envOfC qual scope s.heap.objs.size f cd :: outer
 ex := []
 calm := true
 fn := fun _ => true
 pn := []
 xe := fun e s' => wpAny (model P w) (A.deeper (envOfC qual scope s.heap.objs.size f cd)) (leaving (envOfC qual scope s.heap.objs.size f cd) e) (fun _ s'' => CX outer H s E e s'') (fun e' s'' => CX outer H s E e' s'') s'
theorem cell_has {sc : Scope} {n : Nat} {x : Str} (h : sc.names.lookup x = some .cell) : ∃ c, (cellsFrom n sc.names []).lookup x = some c := by
 have q := PySem.W.cellsFrom_some sc.names n [] (.inl h)
 exact Option.isSome_iff_exists.mp q
theorem inv_start {CX : CXT} {P : Program} {w : World} {K : PySem.W.Frag} {mg : Str → Option Value} {base : Heap} {N ps : List Str} {qual : Str} {scope : Scope} {f : Addr} {cd : Value} {A : Around} {outer : List Env} {s s1 : Shared} {H : Hp} {E : XK} {us : List Value} {vs : List V}
  (S : FnScope N ps scope) (hd : A.handled = none) (e0 : Env0 P w K mg base A outer s H) (hl : vs.length = ps.length) (r : Vals vs us)
  (x : InCallC s s.heap.objs.size (bindL (envOfC qual scope s.heap.objs.size f cd).kindOf (ps.zip us) fun _ => none) (cellsFrom (s.heap.objs.size + 1) scope.names []) (bindC (envOfC qual scope s.heap.objs.size f cd).kindOf (ps.zip us) fun _ => none) s1) :
  Inv (cxOf CX P w K mg base N qual scope f cd A outer s H E) [] (start N vs) H s1 := by
 have hpl : ps.length ≤ N.length := by have := congrArg List.length S.pre; rw [List.length_take] at this; lia
 obtain ⟨h1, tk, rfl, hk⟩ := x.done
 have noA : ∀ b : Addr, b ∉ (cxOf CX P w K mg base N qual scope f cd A outer s H E).ex := fun b z => absurd (show b ∈ ([] : List Addr) from z) (by simp)
 refine ⟨⟨e0.mod, S.kind, rfl, rfl, Nat.le_refl _, fun y z c h1 h2 => ?_, fun y hy => ?_, fun y c _ h => ?_, fun _ => hd, Around.frames_deeper e0.frames, .inr ⟨rfl, rfl⟩, fun b z => absurd z (noA b), e0.bs, e0.bsz, fun b _ _ => noA b, fun b z => absurd z (noA b), e0.funs, e0.frf⟩,
  rfl, e0.bare, Un.kept hk, ⟨_, x.toInCall.ns, fun i y v h1 h2 h3 => ?_⟩, fun y c h => ⟨_, x.cell y c h⟩, e0.hok.fresh (Nat.le_refl _), fun y c h => ?_, fun p hp => absurd (show p ∈ ([] : List (Addr × Obj)) from hp) (by simp), e0.hok.kept hk, ?_⟩
 ·exact name_of_addr x.apart (PySem.mem_of_lookup h1) (PySem.mem_of_lookup h2)
 ·have hy : scope.names.lookup y = some .cell ∨ scope.names.lookup y = some .free := hy
  rcases hy with hy | hy
  ·exact cell_has hy
  ·exact absurd rfl (S.nofree _ (PySem.mem_of_lookup hy))
 ·exact Nat.le_of_lt (x.above y c (PySem.mem_of_lookup h))
 ·have hi : i < vs.length := by
   unfold start at h2
   by_cases hi : i < vs.length
   ·exact hi
   ·rw [List.getElem?_append_right (by simpa using hi)] at h2
    rw [List.getElem?_replicate] at h2
    split at h2 <;> cases h2
  have ha : vs[i]? = some v := by
   unfold start at h2
   rw [List.getElem?_append_left (by simpa using hi), List.getElem?_map] at h2
   cases e : vs[i]? with
   | none => rw [e] at h2; cases h2
   | some a => rw [e] at h2; cases h2; rfl
  obtain ⟨u, hu, rv⟩ := r.get ha
  have hp : ps[i]? = some y := by
   rw [← S.pre, List.getElem?_take_of_lt (by lia)]; exact h1
  have ndP : ps.Nodup := by rw [← S.pre]; exact S.nd.sublist (List.take_sublist _ _)
  refine ⟨u, rv, ?_⟩
  rcases S.par y (List.mem_of_getElem? hp) with k | k
  ·exact .inl ⟨k, bindL_get ndP hp hu k⟩
  ·obtain ⟨c, e⟩ := cell_has (n := s.heap.objs.size + 1) k
   refine .inr ⟨.inl k, c, e, ?_⟩
   have q := x.cell y c e
   rw [bindC_get ndP hp hu (by show scope.names.lookup y ≠ _; rw [k]; decide)] at q
   exact q
 ·exact e0.hok.fresh (Nat.le_of_lt (x.above y c (PySem.mem_of_lookup h)))
 ·unfold start
  show _ = N.length
  rw [List.length_append, List.length_map, List.length_replicate]
  lia
theorem fn_of {CX : CXT} {P : Program} {w : World} {K : PySem.W.Frag} {mg : Str → Option Value} {base : Heap} {k : Nat} {f : Addr} {name qual : Str} {params : Arguments} {body : List Stmt} {scope : Scope} {dV kV doc pm cdv ct oc : Value} {an od : Option Addr}
  {osl : Array (Option Value)} {N ps : List Str} {sp : Sp} (lk : K.lookup f = some ⟨oc, od, .func (PySem.W.fnOf name qual params body scope dV kV doc pm an cdv ct), osl⟩) (hcd : PySem.W.codeIn K cdv qual = true) (S : FnScope N ps scope)
  (len : ∀ vs H Q E, sp vs H Q E → vs.length = ps.length)
  (hbody : ∀ (A : Around) (outer : List Env) (s : Shared) (H : Hp) (vs : List V) (Q : VK) (E : XK), Room k (A.deeper (envOfC qual scope s.heap.objs.size f cdv)) → sp vs H Q E →
   ∃ t, PSs (cxOf CX P w K mg base N qual scope f cdv A outer s H E) body t ∧ t { nx := fun _ H' => Q .non H', rt := Q } (start N vs) H) :
  FnOk P w K mg base CX (k + 1) f (PySem.W.fnOf name qual params body scope dV kV doc pm an cdv ct) ps sp := by
 refine ⟨len, fun A outer s H args us vs Q E hr e0 hb r hsp => ?_⟩
 have hl := len _ _ _ _ hsp
 have KX : K.In s.heap := e0.mod.kin.keeps fun b o e => (e0.bs b o e).1
 have lim : s.heap.NoLimit := e0.mod.nolimit.keeps fun b o e => (e0.bs b o e).1
 have hkind : ∀ y ∈ ps.zip us, scope.names.lookup y.1 = some .local ∨ (scope.names.lookup y.1 = some .cell ∧ ((cellsFrom (s.heap.objs.size + 1) scope.names []).lookup y.1).isSome = true) := fun ⟨n, v⟩ hy => by
  rcases S.par n (List.of_mem_zip hy).1 with q | q
  ·exact .inl q
  ·exact .inr ⟨q, PySem.W.cellsFrom_some _ _ _ (.inl q)⟩
 refine codeAny_call_function hr.depth (KX _ _ lk) rfl S.co S.gen rfl (PySem.W.codeRec_of KX hcd) (hb _ _ _ _ ?_)
 refine wpAny_newFunctionEnv_cells S.kind hkind fun env he s1 x => ?_
 subst he
 refine ⟨lim.keeps x.toInCall.keep, codeAny_func ?_⟩
 obtain ⟨t, ht, hq⟩ := hbody A outer s H vs Q E (hr.deeper _) hsp
 have I : Inv (cxOf CX P w K mg base N qual scope f cdv A outer s H E) [] (start N vs) H s1 := inv_start S hr.hd e0 hl r x
 refine wpAny_mono (ht [] s1 (start N vs) H _ I hq) (fun fl s' hs => ?_) fun e s' hs => hs
 have fin : ∀ {σ' : St} {H' : Hp} {v : V} {u : Value}, Inv (cxOf CX P w K mg base N qual scope f cdv A outer s H E) [] σ' H' s' → RelV v u → Q v H' → CE outer P w H s Q u s' :=
  fun {σ' H' v u} J rv q => ⟨v, H', J.os, J.bare, J.base, J.hok, rv, q⟩
 cases fl with
 | ret u =>
  obtain ⟨v, σ', H', J, rv, q⟩ := hs
  exact fin J rv q
 | next =>
  obtain ⟨σ', H', J, q⟩ := hs
  exact fin (v := V.non) (u := Value.none) J rfl q
 | brk =>
  obtain ⟨_, _, _, q⟩ := hs
  exact False.elim q
 | cont =>
  obtain ⟨_, _, _, q⟩ := hs
  exact False.elim q
end L2
namespace L2
open PySem PySem.Spec PyProof.Rows
section
variable {X : Cx} {x : Str} {p pos : Pos} {e : Expr} {es : List Expr} {t : TA} {id T : String} {r : List V → Hp → VK → Prop}
def tCB (r : List V → Hp → VK → Prop) (t : TA) : TE := fun σ H Q => t σ H fun vs H1 => r vs H1 Q
theorem pe_callB (hc : CallR X (.builtin id) r) (hg : Gl X x) (hm : X.mg x = none) (hv : bootBuiltins x = some (.builtin id)) (ha : PA X (e :: es) t) (hn : x ≠ "__name__" := by decide) (hdb : (x == ("__debug__" : Str)) = false := by decide)
  (he : starEach (e :: es) X.env = (false, eval e X.env) :: starEach es X.env := by rfl) (hpl : (backTo pos (starEach es X.env)).any (·.1) = false := by rfl) : PE X (.Call (.Name x p) (e :: es) [] pos) (tCB r t) := by
 intro pins s σ H Q I h
 refine wpAny_Call_Name_kw (ld_blt I hg hm hv ?_ hn hdb)
 exact PyProof.Rows.callWith_builtin1 (thn (ha pos pins s σ H _ I h) fun us s1 ⟨vs, H1, I1, r1, q1⟩ => hc pins s1 σ H1 vs us Q I1 r1 q1) he hpl
theorem pe_callTy (hc : CallR X (.type T) r) (hg : Gl X x) (hm : X.mg x = none) (hv : bootBuiltins x = some (.type T)) (ha : PA X (e :: es) t) (hn : x ≠ "__name__" := by decide) (hdb : (x == ("__debug__" : Str)) = false := by decide)
  (he : starEach (e :: es) X.env = (false, eval e X.env) :: starEach es X.env := by rfl) (hpl : (backTo pos (starEach es X.env)).any (·.1) = false := by rfl) : PE X (.Call (.Name x p) (e :: es) [] pos) (tCB r t) := by
 intro pins s σ H Q I h
 refine wpAny_Call_Name_kw (ld_blt I hg hm hv ?_ hn hdb)
 exact PyProof.Rows.callWith_type1 (thn (ha pos pins s σ H _ I h) fun us s1 ⟨vs, H1, I1, r1, q1⟩ => hc pins s1 σ H1 vs us Q I1 r1 q1) he hpl
end
end L2
namespace L2
open PySem PySem.Spec PyProof.Rows
theorem intsAre_of {ns : List Int} : ∀ {us : List Value}, Vals (ns.map V.int) us → IntsAre us ns := by
 induction ns with
 | nil => intro us r; rw [List.map_nil] at r; cases r; exact .nil
 | cons n ns ih =>
  intro us r
  rw [List.map_cons] at r
  cases r with
  | cons r1 r2 =>
   obtain ⟨t, e⟩ := r1
   subst e
   exact .cons n t (ih r2)
end L2
namespace L2
open PySem PySem.Spec PyProof.Rows
def ixN (n : Nat) (i : Int) : Option Nat := if 0 ≤ i then (if i < n then some i.toNat else none) else if -(n : Int) ≤ i then some (i + n).toNat else none
def atI {α : Type} (xs : List α) (i : Int) : Option α := (ixN xs.length i).bind fun j => xs[j]?
theorem ixN_seq {n : Nat} {i : Int} {j : Nat} (h : ixN n i = some j) : seqIndex? i n = some j ∧ j < n ∧ -(n : Int) ≤ i ∧ i < n := by
 unfold ixN at h
 by_cases h0 : 0 ≤ i
 ·rw [if_pos h0] at h
  by_cases h1 : i < n
  ·rw [if_pos h1] at h
   have e : i.toNat = j := Option.some.inj h
   exact ⟨by rw [seqIndex_of h0 h1, e], by lia, by lia, h1⟩
  ·rw [if_neg h1] at h; cases h
 ·rw [if_neg h0] at h
  by_cases h1 : -(n : Int) ≤ i
  ·rw [if_pos h1] at h
   have e : (i + n).toNat = j := Option.some.inj h
   exact ⟨by rw [seqIndex_neg (by lia) h1, e], by lia, h1, by lia⟩
  ·rw [if_neg h1] at h; cases h
theorem atI_get {α : Type} {xs : List α} {i : Int} {v : α} (h : atI xs i = some v) : ∃ j, seqIndex? i xs.length = some j ∧ xs[j]? = some v ∧ j < xs.length ∧ -(xs.length : Int) ≤ i ∧ i < xs.length := by
 unfold atI at h
 cases e : ixN xs.length i with
 | none => rw [e] at h; cases h
 | some j =>
  rw [e] at h
  obtain ⟨h1, h2, h3, h4⟩ := ixN_seq e
  exact ⟨j, h1, h, h2, h3, h4⟩
theorem atI_nat {α : Type} {xs : List α} {j : Nat} {v : α} (h : xs[j]? = some v) : atI xs (j : Int) = some v := by
 have hj : j < xs.length := (List.getElem?_eq_some_iff.mp h).1
 have e : ixN xs.length (j : Int) = some j := by
  unfold ixN
  rw [if_pos (by lia), if_pos (by lia)]; simp
 unfold atI; rw [e]; exact h
def PlainIx (b : Expr) : Prop := ∀ o i, subscripted b false o i = operate [o, i] (getItem o i)
def IxR (X : Cx) (r : R2) : Prop :=
 ∀ (value slice : Expr) (pins : List (Addr × Obj)) (s : Shared) (σ : St) (H : Hp) (x y : V) (v u : Value) (Q : VK), Inv X pins σ H s → RelV x v → RelV y u → r x y H Q →
  subscripted slice false v u = operate [v, u] (getItem v u) → wpAny (model X.prog X.w) X.A (subscriptTail value slice v u) (EP X pins σ Q) X.xe s
def MtR (X : Cx) (id : String) (r : V → List V → Hp → VK → Prop) : Prop :=
 ∀ (pins : List (Addr × Obj)) (s : Shared) (σ : St) (H : Hp) (x : V) (xs : List V) (v : Value) (us : List Value) (Q : VK), Inv X pins σ H s → RelV x v → Vals xs us → r x xs H Q →
  wpAny (model X.prog X.w) X.A (call (.builtin id) (v :: us)) (EP X pins σ Q) X.xe s
section
variable {X : Cx} {a b : Expr} {ta tb : TE} {pos : Pos}
theorem IxR.or {r r' : R2} (h : IxR X r) (h' : IxR X r') : IxR X (fun x y H Q => r x y H Q ∨ r' x y H Q) := by
 intro value slice pins s σ H x y v u Q I rx ry q hs
 rcases q with q | q
 ·exact h value slice pins s σ H x y v u Q I rx ry q hs
 ·exact h' value slice pins s σ H x y v u Q I rx ry q hs
theorem pe_ix {r : R2} (hr : IxR X r) (ha : PE X a ta) (hb : PE X b tb) (hs : PlainIx b) : PE X (.Subscript a b pos) (tOp r ta tb) := by
 intro pins s σ H Q I h
 exact Subscript_ (binT ha hb I h fun v u s2 x y H2 I2 rx ry q => hr a b pins s2 σ H2 x y v u Q I2 rx ry q (hs _ _))
def rIxL (K : PySem.W.Frag) : R2 := fun x y H Q => ∃ p xs i v, x = .ref p ∧ y = .int i ∧ SqL K H p xs ∧ atI xs i = some v ∧ Q v H
def rIxT (K : PySem.W.Frag) : R2 := fun x y H Q => ∃ p xs i v, x = .ref p ∧ y = .int i ∧ SqT K H p xs ∧ atI xs i = some v ∧ Q v H
def rIxS : R2 := fun x y H Q => ∃ z i c, x = .str z ∧ y = .int i ∧ z.length ≤ sizeLine ∧ atI z.cps.toList i = some c ∧ Q (.str ⟨#[c]⟩) H
theorem ix_list : IxR X (rIxL X.K) := by
 intro value slice pins s σ H x y v u Q I rx ry h hs
 obtain ⟨p, xs, i, z, rfl, rfl, hq, he, q⟩ := h
 cases rx
 obtain ⟨t, rfl⟩ := ry
 obtain ⟨its, r, pl, hz⟩ := I.list hq
 obtain ⟨j, h1, h2, h3, h4, h5⟩ := atI_get he
 obtain ⟨w, ew, rw'⟩ := r.get h2
 have hl := r.length
 have hn := line63
 have fin : EP X pins σ Q w s := ⟨z, H, I, rw', q⟩
 by_cases h0 : 0 ≤ i
 ·have hj : i.toNat = j := by
   rw [seqIndex_of h0 h5] at h1
   exact Option.some.inj h1
  exact item_listR pl.isList h0 (by lia) (by rw [hj]; simpa using ew) fin hs
 ·have hj : (i + (its.toArray.size : Int)).toNat = j := by
   rw [seqIndex_neg (by lia) h4] at h1
   rw [List.size_toArray, ← hl]
   exact Option.some.inj h1
  exact subscriptTail_builtinR (x := w) pl.isList.typeIs slot_list_getitem.lookup
   (wpAny_getItem_list_neg (Q := fun r s' => r = w ∧ EP X pins σ Q r s') pl.isList (by lia) (by rw [List.size_toArray] <;> lia) (by lia) (by rw [hj]; simpa using ew) ⟨rfl, fin⟩) hs
theorem ix_tup : IxR X (rIxT X.K) := by
 intro value slice pins s σ H x y v u Q I rx ry h hs
 obtain ⟨p, xs, i, z, rfl, rfl, hq, he, q⟩ := h
 cases rx
 obtain ⟨t, rfl⟩ := ry
 obtain ⟨its, r, pl, hz⟩ := I.tuple hq
 obtain ⟨j, h1, h2, h3, h4, h5⟩ := atI_get he
 obtain ⟨w, ew, rw'⟩ := r.get h2
 have hl := r.length
 have hn := line63
 have fin : EP X pins σ Q w s := ⟨z, H, I, rw', q⟩
 exact subscriptTail_builtinR (x := w) pl.typeIs slot_tuple_getitem.lookup
  (getItem_tuple (j := j) (Q := fun r s' => r = w ∧ EP X pins σ Q r s') pl (by lia) (by lia) (by rw [List.size_toArray, ← hl]; exact h1) (by simpa using ew) ⟨rfl, fin⟩) hs
theorem ix_str : IxR X rIxS := by
 intro value slice pins s σ H x y v u Q I rx ry h hs
 obtain ⟨z, i, c, rfl, rfl, hz, he, q⟩ := h
 obtain ⟨t, rfl⟩ := rx
 obtain ⟨t', rfl⟩ := ry
 obtain ⟨j, h1, h2, h3, h4, h5⟩ := atI_get he
 have hl : z.cps.toList.length = z.length := by simp [Str.length]
 rw [hl] at h1 h4 h5
 have hn := line63
 exact tail_any (typeIs_str s z t) slot_str_getitem.lookup (getItem_str (c := c) (by
  have e1 : decide (i < -(2 ^ 63 : Int)) = false := decide_eq_false (by lia)
  have e2 : decide (i ≥ 2 ^ 63) = false := decide_eq_false (by lia)
  rw [e1, e2, Bool.or_false]) (by rw [h1]; simpa using h2) ⟨.str ⟨#[c]⟩, H, I.tok _, ⟨_, rfl⟩, q⟩) hs
def rIx (K : PySem.W.Frag) : R2 := fun x y H Q => rIxL K x y H Q ∨ rIxT K x y H Q ∨ rIxS x y H Q
theorem ix_seq : IxR X (rIx X.K) := ix_list.or (ix_tup.or ix_str)
theorem mapSeq_set (its : List Value) (n j : Nat) (u : Value) : Obj.mapSeq (·.setIfInBounds j u) { cls := .type "list", data := .seq its.toArray n } = { cls := .type "list", data := .seq (its.set j u).toArray n } := by
 simp [Obj.mapSeq]
theorem Inv.lst {pins : List (Addr × Obj)} {σ : St} {H : Hp} {s : Shared} {p : Addr} {xs : List V} (I : Inv X pins σ H s) (h : H p = some (.lst xs)) :
  ∃ (its : List Value) (n : Nat), Vals xs its ∧ s.heap.get? p = some { cls := .type "list", data := .seq its.toArray n } ∧ xs.length ≤ sizeLine := by
 obtain ⟨z, its, n, r, e⟩ := I.hok p _ h
 exact ⟨its, n, r, e, z⟩
theorem Inv.lstUpd {pins : List (Addr × Obj)} {σ : St} {H : Hp} {s : Shared} {p : Addr} {xs ys : List V} {its its' : List Value} {n n' : Nat} {f : Obj → Obj} (I : Inv X pins σ H s) (h : H p = some (.lst xs))
  (ho : s.heap.get? p = some { cls := .type "list", data := .seq its.toArray n }) (hf : f { cls := .type "list", data := .seq its.toArray n } = { cls := .type "list", data := .seq its'.toArray n' }) (r : Vals ys its') (hz : ys.length ≤ sizeLine) (t : Nat) :
  Inv X pins σ (upd H p (.lst ys)) { s with heap := s.heap.update p f, toks := t } := by
 have e : (s.heap.update p f).get? p = some { cls := .type "list", data := .seq its'.toArray n' } := by
  rw [Heap.get?_update_self f ho (by rw [hf] <;> rfl), hf]
 refine I.write (x := p) (e := p) (by rw [h]; trivial) (.inl rfl) (fun b u hb q => (Heap.get?_update_other _ _ (Ne.symm hb)).trans q) ⟨_, e⟩ ?_
 exact ⟨hz, its', n', r, e⟩
def rSetL : V → V → V → Hp → (Hp → Prop) → Prop := fun o i v H Q => ∃ p xs k j, o = .ref p ∧ i = .int k ∧ H p = some (.lst xs) ∧ ixN xs.length k = some j ∧ Q (upd H p (.lst (xs.set j v)))
theorem set_list : PSet X rSetL := by
 intro pins s σ H o i v ov iv u Q I ro ri rv h
 obtain ⟨p, xs, k, j, rfl, rfl, hp, hj, q⟩ := h
 cases ro
 obtain ⟨t, rfl⟩ := ri
 obtain ⟨its, n, r, ho, hz⟩ := I.lst hp
 obtain ⟨h1, h2, h3, h4⟩ := ixN_seq hj
 have hl := r.length
 have hn := line63
 have I' : Inv X pins σ (upd H p (.lst (xs.set j v))) { s with heap := s.heap.update p (Obj.mapSeq (·.setIfInBounds j u)) } :=
  I.lstUpd hp ho (mapSeq_set its n j u) (r.set rv j) (by rw [List.length_set]; exact hz) s.toks
 by_cases h0 : 0 ≤ k
 ·have hk : k.toNat = j := by
   rw [seqIndex_of h0 h4] at h1
   exact Option.some.inj h1
  exact PySem.W.ki_setAt ho h0 (by lia) (by rw [List.size_toArray, ← hl]; exact h4) (by rw [hk]; exact ⟨_, I', q⟩)
 ·have hk : (k + (its.toArray.size : Int)).toNat = j := by
   rw [seqIndex_neg (by lia) h3] at h1
   rw [List.size_toArray, ← hl]
   exact Option.some.inj h1
  exact PySem.W.ki_setBack ho (by lia) (by rw [List.size_toArray, ← hl]; exact h3) (by lia) (by rw [hk]; exact ⟨_, I', q⟩)
def flatV : V → Bool
 | .non => true
 | .bl _ => true
 | .int _ => true
 | .str _ => true
 | _ => false
def eqV : V → V → Bool
 | .non, .non => true
 | .bl a, .bl b => a == b
 | .bl a, .int b => (if a then 1 else 0) == b
 | .int a, .bl b => a == (if b then 1 else 0)
 | .int a, .int b => a == b
 | .str a, .str b => a == b
 | _, _ => false
theorem eqAt_V {A : Around} {s : Shared} {y x : V} {u v : Value} (ry : RelV y u) (rx : RelV x v) (fy : flatV y = true) (fx : flatV x = true) : SeqAt.EqAt A s u v (eqV y x) := by
 cases y with
 | non =>
  cases ry
  cases x with
  | non => cases rx; exact SeqAt.EqAt.same _
  | bl b => cases rx; exact SeqAt.EqAt.none_bool b
  | int b => obtain ⟨t, rfl⟩ := rx; exact SeqAt.EqAt.none_int b t
  | str b => obtain ⟨t, rfl⟩ := rx; exact SeqAt.EqAt.none_str b t
  | _ => exact absurd (show false = true from fx) Bool.false_ne_true
 | bl a =>
  cases ry
  cases x with
  | non => cases rx; exact SeqAt.EqAt.bool_none a
  | bl b => cases rx; exact SeqAt.EqAt.bool_bool a b
  | int b => obtain ⟨t, rfl⟩ := rx; exact SeqAt.EqAt.bool_int a b t
  | str b => obtain ⟨t, rfl⟩ := rx; exact SeqAt.EqAt.bool_str a b t
  | _ => exact absurd (show false = true from fx) Bool.false_ne_true
 | int a =>
  obtain ⟨t', rfl⟩ := ry
  cases x with
  | non => cases rx; exact SeqAt.EqAt.int_none a t'
  | bl b => cases rx; exact SeqAt.EqAt.int_bool a t' b
  | int b => obtain ⟨t, rfl⟩ := rx; exact SeqAt.EqAt.int_int a t' b t
  | str b => obtain ⟨t, rfl⟩ := rx; exact SeqAt.EqAt.int_str a t' b t
  | _ => exact absurd (show false = true from fx) Bool.false_ne_true
 | str a =>
  obtain ⟨t', rfl⟩ := ry
  cases x with
  | non => cases rx; exact SeqAt.EqAt.str_none a t'
  | bl b => cases rx; exact SeqAt.EqAt.str_bool a t' b
  | int b => obtain ⟨t, rfl⟩ := rx; exact SeqAt.EqAt.str_int a t' b t
  | str b => obtain ⟨t, rfl⟩ := rx; exact SeqAt.EqAt.str_str a t' b t
  | _ => exact absurd (show false = true from fx) Bool.false_ne_true
 | _ => exact absurd (show false = true from fy) Bool.false_ne_true
def eqU (x : V) (u : Value) : Bool := match u with
 | .none => eqV .non x
 | .bool b => eqV (.bl b) x
 | .int i _ => eqV (.int i) x
 | .str z _ => eqV (.str z) x
 | _ => false
theorem eqU_of {x y : V} {u : Value} (r : RelV y u) (f : flatV y = true) : eqU x u = eqV y x := by
 cases y with
 | non => cases r; rfl
 | bl b => cases r; rfl
 | int i => obtain ⟨t, rfl⟩ := r; rfl
 | str z => obtain ⟨t, rfl⟩ := r; rfl
 | _ => exact absurd (show false = true from f) Bool.false_ne_true
theorem any_eqU {x : V} : ∀ {xs : List V} {us : List Value}, Vals xs us → xs.all flatV = true → us.any (eqU x) = xs.any fun y => eqV y x
 | _, _, .nil, _ => rfl
 | y :: xs, u :: us, .cons r t, f => by
  rw [List.all_cons, Bool.and_eq_true] at f
  rw [List.any_cons, List.any_cons, eqU_of r f.1, any_eqU t f.2]
theorem mem_eqAt {A : Around} {s : Shared} {x : V} {v : Value} (rx : RelV x v) (fx : flatV x = true) : ∀ {xs : List V} {us : List Value}, Vals xs us → xs.all flatV = true → ∀ u ∈ us, SeqAt.EqAt A s u v (eqU x u)
 | _, _, .nil, _ => fun u hu => by cases hu
 | y :: xs, u :: us, .cons r t, f => fun u' hu => by
  rw [List.all_cons, Bool.and_eq_true] at f
  rcases List.mem_cons.mp hu with rfl | hu
  ·rw [eqU_of r f.1]; exact eqAt_V r rx f.1 fx
  ·exact mem_eqAt rx fx t f.2 u' hu
def inV (x : V) (xs : List V) : Bool := xs.any fun y => eqV y x
def rIn (K : PySem.W.Frag) (neg : Bool) : R2 := fun x y H Q => ∃ p xs, y = .ref p ∧ (SqL K H p xs ∨ SqT K H p xs) ∧ flatV x = true ∧ xs.all flatV = true ∧ Q (.bl (if neg then !inV x xs else inV x xs)) H
theorem op_in_seq : OpR X (compareOp .In) (rIn X.K false) := by
 intro pins s σ H x y v u Q I rx ry h
 obtain ⟨p, xs, rfl, hq, fx, fs, q⟩ := h
 cases ry
 rcases hq with hq | hq
 ·obtain ⟨its, r, pl, hz⟩ := I.list hq
  refine SeqAt.in_listAt (eqU x) pl.isList (fun w hw => mem_eqAt rx fx r fs w (by simpa using hw)) ⟨.bl _, H, I, rfl, ?_⟩
  rw [show its.toArray.any (eqU x) = its.any (eqU x) by simp, any_eqU r fs]
  exact q
 ·obtain ⟨its, r, pl, hz⟩ := I.tuple hq
  refine SeqAt.in_tupleAt (eqU x) pl (fun w hw => mem_eqAt rx fx r fs w (by simpa using hw)) ⟨.bl _, H, I, rfl, ?_⟩
  rw [show its.toArray.any (eqU x) = its.any (eqU x) by simp, any_eqU r fs]
  exact q
theorem op_notIn_seq : OpR X (compareOp .NotIn) (rIn X.K true) := by
 intro pins s σ H x y v u Q I rx ry h
 obtain ⟨p, xs, rfl, hq, fx, fs, q⟩ := h
 cases ry
 rcases hq with hq | hq
 ·obtain ⟨its, r, pl, hz⟩ := I.list hq
  refine SeqAt.notIn_listAt (eqU x) pl.isList (fun w hw => mem_eqAt rx fx r fs w (by simpa using hw)) ⟨.bl _, H, I, rfl, ?_⟩
  rw [show its.toArray.any (eqU x) = its.any (eqU x) by simp, any_eqU r fs]
  exact q
 ·obtain ⟨its, r, pl, hz⟩ := I.tuple hq
  refine SeqAt.notIn_tupleAt (eqU x) pl (fun w hw => mem_eqAt rx fx r fs w (by simpa using hw)) ⟨.bl _, H, I, rfl, ?_⟩
  rw [show its.toArray.any (eqU x) = its.any (eqU x) by simp, any_eqU r fs]
  exact q
theorem call_len_seq : CallR X (.builtin "len") (fun xs H Q => ∃ p ys, xs = [.ref p] ∧ (SqL X.K H p ys ∨ SqT X.K H p ys) ∧ Q (.int ys.length) H) := by
 intro pins s σ H xs us Q I r h
 obtain ⟨p, ys, rfl, hq, q⟩ := h
 obtain ⟨u, rfl, rx⟩ := vals1 r
 cases rx
 have hn := line63
 rcases hq with hq | hq
 ·obtain ⟨its, r', pl, hz⟩ := I.list hq
  have hlen := r'.length
  exact Calls.call_len_list pl.isList (by simp only [List.size_toArray] <;> lia) ⟨.int ys.length, H, I.tok _, ⟨s.toks + 1, by rw [List.size_toArray, hlen]⟩, q⟩
 ·obtain ⟨its, r', pl, hz⟩ := I.tuple hq
  have hlen := r'.length
  exact len_tuple pl (by simp only [List.size_toArray] <;> lia) ⟨.int ys.length, H, I.tok _, ⟨s.toks + 1, by rw [List.size_toArray, hlen]⟩, q⟩
theorem call_list_of : CallR X (.type "list") (fun xs H Q => ∃ p ys, xs = [.ref p] ∧ (SqL X.K H p ys ∨ SqT X.K H p ys) ∧ ∀ l, H l = none → Q (.ref l) (upd H l (.lst ys))) := by
 intro pins s σ H xs us Q I r h
 obtain ⟨p, ys, rfl, hq, q⟩ := h
 obtain ⟨u, rfl, rx⟩ := vals1 r
 cases rx
 have fin : ∀ (its : List Value), Vals ys its → ys.length ≤ sizeLine → ∀ (h' : Heap) (c' : Nat), (∀ b o', s.heap.get? b = some o' → h'.get? b = some o') →
   h'.get? s.heap.objs.size = some { cls := .type "list", dict := none, data := .seq its.toArray c', slots := #[] } → EP X pins σ Q (.ref s.heap.objs.size) { s with heap := h' } := fun its r' hz h' c' kp e =>
  ⟨.ref s.heap.objs.size, _, I.laid (t' := s.toks) kp (Nat.le_refl _) (show ObjOk X.prog X.w _ h' _ (.lst ys) from ⟨hz, its, c', r', e⟩), rfl, q _ (I.hok.fresh (Nat.le_refl _))⟩
 rcases hq with hq | hq
 ·obtain ⟨its, r', pl, hz⟩ := I.list hq
  have hlen := r'.length
  obtain ⟨o, ho, hc, n, hd⟩ := pl.isList
  exact call_list_seq p (.inl rfl) ho hc hd (fun h' c' kp e => fin its r' hz h' c' kp e) (by simp only [List.size_toArray] <;> lia)
 ·obtain ⟨its, r', pl, hz⟩ := I.tuple hq
  have hlen := r'.length
  obtain ⟨o, ho, hc, n, hd⟩ := pl
  exact call_list_seq p (.inr rfl) ho hc hd (fun h' c' kp e => fin its r' hz h' c' kp e) (by simp only [List.size_toArray] <;> lia)
theorem call_tuple_of : CallR X (.type "tuple") (fun xs H Q => ∃ p ys, xs = [.ref p] ∧ ((SqL X.K H p ys ∧ ∀ l, H l = none → Q (.ref l) (upd H l (.tup ys))) ∨ (SqT X.K H p ys ∧ Q (.ref p) H))) := by
 intro pins s σ H xs us Q I r h
 obtain ⟨p, ys, rfl, h⟩ := h
 obtain ⟨u, rfl, rx⟩ := vals1 r
 cases rx
 rcases h with ⟨hq, q⟩ | ⟨hq, q⟩
 ·obtain ⟨its, r', pl, hz⟩ := I.list hq
  have hlen := r'.length
  refine call_tuple_list pl.isList (fun h' kp => ?_) (by simp only [List.size_toArray] <;> lia)
  have I1 : Inv X pins σ H { s with heap := h' } := I.kept (t' := s.toks) kp
  have I2 : Inv X pins σ (upd H h'.objs.size (.tup ys)) { s with heap := h'.push { cls := .type "tuple", data := .seq its.toArray } } :=
   I1.laid (t' := s.toks) (fun b o e => Heap.get?_push_of_some _ e) (Nat.le_refl _) (show ObjOk X.prog X.w _ _ _ (.tup ys) from ⟨hz, its, r', IsTup.new _ _⟩)
  exact ⟨.ref h'.objs.size, _, I2, rfl, q _ (I1.hok.fresh (Nat.le_refl _))⟩
 ·obtain ⟨its, r', pl, hz⟩ := I.tuple hq
  exact call_tuple_same pl ⟨.ref p, H, I, rfl, q⟩
def tyV (K : PySem.W.Frag) (T : String) (x : V) (H : Hp) : Prop := match x with
 | .str _ => T = "str"
 | .int _ => T = "int"
 | .ref p => (T = "list" ∧ ∃ xs, SqL K H p xs) ∨ (T = "tuple" ∧ ∃ o, K.lookup p = some o ∧ o.cls = .type "tuple" ∧ o.dict = none) ∨
   (T = "dict" ∧ ((∃ kvs, H p = some (.dK kvs)) ∨ ∃ kvs, H p = some (.dT kvs))) ∨ (T = "set" ∧ ∃ S n, H p = some (.set S n))
 | _ => False
theorem tyV_is {pins : List (Addr × Obj)} {σ : St} {H : Hp} {s : Shared} {T : String} {x : V} {v : Value} (I : Inv X pins σ H s) (r : RelV x v) (ty : tyV X.K T x H) :
  s.TypeIs v T ∧ ∀ a, v = .ref a → ∃ ob, s.heap.get? a = some ob ∧ ob.dict = none := by
 cases x with
 | str z =>
  obtain ⟨t, rfl⟩ := r
  cases (show T = "str" from ty)
  exact ⟨typeIs_str s z t, fun _ e => nomatch e⟩
 | int i =>
  obtain ⟨t, rfl⟩ := r
  cases (show T = "int" from ty)
  exact ⟨typeIs_int s i t, fun _ e => nomatch e⟩
 | ref p =>
  cases r
  rcases ty with ⟨rfl, xs, hq⟩ | ⟨rfl, o, hk, hc, hd⟩ | ⟨rfl, hk⟩ | ⟨rfl, S, n, hk⟩
  ·obtain ⟨its, _, pl, _⟩ := I.list hq
   refine ⟨pl.isList.typeIs, fun a e => ?_⟩
   cases e
   obtain ⟨o, n, e, c, hd, _⟩ := pl
   exact ⟨o, e, hd⟩
  ·refine ⟨⟨o, I.kIn p o hk, hc⟩, fun a e => ?_⟩
   cases e
   exact ⟨o, I.kIn _ o hk, hd⟩
  ·have z : ∃ o, s.heap.get? p = some o ∧ o.ExactDict := by
    rcases hk with ⟨kvs, hk⟩ | ⟨kvs, hk⟩
    ·obtain ⟨_, _, _, _, o, _, _, e, ex, _⟩ := I.hok p _ hk
     exact ⟨o, e, ex⟩
    ·obtain ⟨_, _, _, _, o, _, _, e, ex, _⟩ := I.hok p _ hk
     exact ⟨o, e, ex⟩
   obtain ⟨o, e, ex⟩ := z
   refine ⟨⟨o, e, ex.1⟩, fun a e2 => ?_⟩
   cases e2
   exact ⟨o, e, ex.2.1⟩
  ·obtain ⟨o, _, _, _, e, ex, _⟩ := I.hok p _ hk
   refine ⟨⟨o, e, ex.1⟩, fun a e2 => ?_⟩
   cases e2
   exact ⟨o, e, ex.2.1⟩
 | _ => exact False.elim ty
def tBM (K : PySem.W.Frag) (T : String) (r : V → List V → Hp → VK → Prop) (to : TE) (t : TA) : TE := fun σ H Q => to σ H fun x H1 => tyV K T x H1 ∧ t σ H1 fun xs H2 => r x xs H2 Q
variable {o e : Expr} {es : List Expr} {to : TE} {t : TA} {name : Str} {apos cpos : Pos} {T id : String} {r : V → List V → Hp → VK → Prop}
theorem pe_bm (pa : PlainAttrs T) (slot : Slot T name id) (hty : typeOf (.builtin id) = pure (.type "method_descriptor")) (hm : MtR X id r) (ho : PE X o to) (ha : PA X (e :: es) t)
  (hbase : attributeBase o name X.env (eval o X.env) = eval o X.env := by rfl)
  (hfew : ((backTo cpos (starEach (e :: es) X.env)).all (fun x => !x.1) && (backToKw cpos (keywordEach [] X.env)).all (fun x => x.1.isSome)
   && decide ((e :: es).length + ([] : List Keyword).length + (if ([] : List Keyword).isEmpty then 0 else 1) < 30)) = true := by rfl)
  (hline : (apos.endLine == cpos.line) = true := by rfl) (hs : starEach (e :: es) X.env = (false, eval e X.env) :: starEach es X.env := by rfl) (hplain : (backTo cpos (starEach es X.env)).any (·.1) = false := by rfl) :
  PE X (.Call (.Attribute o name apos) (e :: es) [] cpos) (tBM X.K T r to t) := by
 intro pins s σ H Q I h
 refine wpAny_Call_method_late hbase hfew hline rfl (thn (ho pins s σ H _ I h) fun v s1 ⟨x, H1, I1, r1, ty, q1⟩ => ?_)
 obtain ⟨h1, h2⟩ := tyV_is I1 r1 ty
 refine ⟨T, id, pa, slot, hty, h1, h2, ?_⟩
 have hA := ha cpos pins s1 σ H1 _ I1 q1
 rw [hs] at hA ⊢
 refine Calls.callWith_builtin (by show (false || (backTo cpos (starEach es X.env)).any (·.1)) = false; rw [hplain] <;> rfl) (Calls.evalArgs_plain ?_)
 exact thn hA fun us s2 ⟨vs, H2, I2, r2, q2⟩ => hm pins s2 σ H2 x vs v us Q I2 r1 r2 q2
end
end L2
namespace L2
open PySem PySem.Spec PyProof.Rows
def MtM (X : Cx) (id : String) (r : V → List V → Hp → VK → Prop) : Prop :=
 ∀ (pins : List (Addr × Obj)) (s : Shared) (σ : St) (H : Hp) (x : V) (xs : List V) (v : Value) (us : List Value) (Q : VK), Inv X pins σ H s → RelV x v → Vals xs us → r x xs H Q →
  wpAny (model X.prog X.w) X.A (call (.builtin id) (v :: us)) (EP X pins σ Q) X.xe s
theorem Vals.one : ∀ {x : V} {us : List Value}, Vals [x] us → ∃ u, us = [u] ∧ RelV x u
 | _, _, .cons r .nil => ⟨_, rfl, r⟩
theorem Vals.rep {xs : List V} {us : List Value} (h : Vals xs us) : ∀ k : Nat, Vals (List.replicate k xs).flatten (List.replicate k us).flatten
 | 0 => .nil
 | k + 1 => by
  rw [List.replicate_succ, List.replicate_succ, List.flatten_cons, List.flatten_cons]
  exact Vals.append h (Vals.rep h k)
theorem foldl_rep (its : List Value) : ∀ (k : Nat) (acc : List Value),
  List.foldl (fun x1 x2 => x1 ++ x2) acc.toArray (List.replicate k its.toArray) = (acc ++ (List.replicate k its).flatten).toArray
 | 0, acc => by simp
 | k + 1, acc => by
  have e : acc.toArray ++ its.toArray = (acc ++ its).toArray := by simp
  have e2 : (acc ++ its) ++ (List.replicate k its).flatten = acc ++ (List.replicate (k + 1) its).flatten := by
   rw [List.replicate_succ, List.flatten_cons, List.append_assoc]
  rw [← e2, ← foldl_rep its k (acc ++ its), ← e, List.replicate_succ, List.foldl_cons]
section
variable {X : Cx} {pins : List (Addr × Obj)} {σ : St} {H : Hp} {s : Shared} {l b : Addr} {xs ys zs : List V}
theorem Inv.lset {its its' : List Value} {n : Nat} {f : Array Value → Array Value} {t' : Nat} (I : Inv X pins σ H s) (hH : H l = some (.lst xs))
  (e : s.heap.get? l = some { cls := .type "list", data := .seq its.toArray n }) (hf : f its.toArray = its'.toArray) (hv : Vals ys its') (hz : ys.length ≤ sizeLine) :
  Inv X pins σ (upd H l (.lst ys)) { s with heap := s.heap.update l (Obj.mapSeq f), toks := t' } := by
 have q := PySem.IsL.update e f
 rw [hf] at q
 refine I.write (x := l) (e := l) (by rw [hH]; exact trivial) (.inl rfl) (fun b' u hb hu => (Heap.get?_update_other s.heap (Obj.mapSeq f) (Ne.symm hb)).trans hu) ⟨_, q⟩ ?_
 exact ⟨hz, its', _, hv, q⟩
theorem Inv.lnew {its : List Value} {t' : Nat} (I : Inv X pins σ H s) (hv : Vals ys its) (hz : ys.length ≤ sizeLine) :
  Inv X pins σ (upd H s.heap.objs.size (.lst ys)) { s with heap := s.heap.push { cls := .type "list", data := .seq its.toArray }, toks := t' } :=
 I.laid (fun _ _ q => Heap.get?_push_of_some _ q) (Nat.le_refl _) ⟨hz, its, 0, hv, Heap.get?_push_size _ rfl⟩
theorem Inv.fresh (I : Inv X pins σ H s) : H s.heap.objs.size = none := I.hok.fresh (Nat.le_refl _)
theorem Inv.lstM (I : Inv X pins σ H s) (hH : H l = some (.lst xs)) : xs.length ≤ sizeLine ∧ ∃ (its : List Value) (n : Nat), Vals xs its ∧ xs.length = its.length ∧ s.heap.get? l = some { cls := .type "list", data := .seq its.toArray n } := by
 obtain ⟨z, its, n, r, e⟩ := I.hok l _ hH
 exact ⟨z, its, n, r, r.length, e⟩
theorem notLongL {n : Nat} (h : n ≤ sizeLine) : Builtin.List.listTooLong n = false := by
 unfold Builtin.List.listTooLong
 exact decide_eq_false (by lia)
end
section
variable {X : Cx}
def rAppend : V → List V → Hp → VK → Prop := fun x vs H Q => ∃ l xs y, x = .ref l ∧ vs = [y] ∧ H l = some (.lst xs) ∧ xs.length < sizeLine ∧ Q .non (upd H l (.lst (xs ++ [y])))
theorem mt_append : MtM X "list.append" rAppend := by
 intro pins s σ H x vs v us Q I rx rv h
 obtain ⟨l, xs, y, rfl, rfl, hH, hz, q⟩ := h
 cases rx
 obtain ⟨u, rfl, ru⟩ := rv.one
 obtain ⟨z, its, n, r, hl, e⟩ := I.lstM hH
 refine call_meets F.slot_list_append ⟨_, e, rfl⟩ F.entry_list_append (F.args_list_append_2 _ _) (PySem.list_append l its.toArray n u (by rw [List.size_toArray]; lia)) ⟨e, ?_⟩
 refine ⟨.non, _, I.lset (its' := its ++ [u]) hH e (by simp) (r.append (.cons ru .nil)) ?_, rfl, q⟩
 rw [List.length_append, List.length_singleton]
 lia
def rCat : R2 := fun x y H Q => ∃ l b xs zs, x = .ref l ∧ y = .ref b ∧ H l = some (.lst xs) ∧ H b = some (.lst zs) ∧ xs.length + zs.length ≤ sizeLine ∧ ∀ p, H p = none → Q (.ref p) (upd H p (.lst (xs ++ zs)))
theorem op_cat : OpR X (binaryOp .Add) rCat := by
 intro pins s σ H x y v u Q I rx ry h
 obtain ⟨l, b, xs, zs, rfl, rfl, hH, hB, hz, q⟩ := h
 cases rx
 cases ry
 obtain ⟨z, its, n, r, hl, e⟩ := I.lstM hH
 obtain ⟨z2, its2, n2, r2, hl2, e2⟩ := I.lstM hB
 refine PySem.P.add_list e e2 ?_ (by rw [List.size_toArray, List.size_toArray]; lia)
 have ea : its.toArray ++ its2.toArray = (its ++ its2).toArray := by simp
 rw [ea]
 exact ⟨.ref _, _, I.lnew (t' := s.toks) (r.append r2) (by rw [List.length_append]; lia), rfl, q _ I.fresh⟩
def rRep : R2 := fun x y H Q => ∃ l k xs, x = .ref l ∧ y = .int k ∧ H l = some (.lst xs) ∧ -(2 ^ 63) ≤ k ∧ k < 2 ^ 63 ∧ xs.length * k.toNat ≤ sizeLine ∧
 ∀ p, H p = none → Q (.ref p) (upd H p (.lst (List.replicate k.toNat xs).flatten))
theorem len_rep {α : Type} (xs : List α) (k : Nat) : (List.replicate k xs).flatten.length = k * xs.length := by
 induction k with
 | zero => simp
 | succ k ih => rw [List.replicate_succ, List.flatten_cons, List.length_append, ih, Nat.succ_mul, Nat.add_comm]
theorem op_rep : OpR X (binaryOp .Mult) rRep := by
 intro pins s σ H x y v u Q I rx ry h
 obtain ⟨l, k, xs, rfl, rfl, hH, h1, h2, hz, q⟩ := h
 cases rx
 obtain ⟨t, rfl⟩ := ry
 obtain ⟨z, its, n, r, hl, e⟩ := I.lstM hH
 have hlen : its.toArray.size * k.toNat ≤ sizeLine := by rw [List.size_toArray, ← hl]; exact hz
 have hcap : ¬ its.toArray.size * k.toNat > (2 ^ 63 - 1) / 8 := by
  have : (sizeLine : Nat) ≤ (2 ^ 63 - 1) / 8 := by decide
  lia
 have hfit : ¬ (!Builtin.List.listFitsIndex k) = true := by
  rw [fitsIndex_both h1 h2]
  exact Bool.false_ne_true
 have hlong : ¬ Builtin.List.listTooLong (its.toArray.size * k.toNat) = true := by
  rw [notLongL hlen]
  exact Bool.false_ne_true
 have hnew : List.foldl (fun x1 x2 => x1 ++ x2) #[] (List.replicate (if its.toArray.isEmpty = true then 0 else k.toNat) its.toArray) = (List.replicate k.toNat its).flatten.toArray := by
  have f0 : ∀ m : Nat, List.foldl (fun x1 x2 => x1 ++ x2) #[] (List.replicate m its.toArray) = (List.replicate m its).flatten.toArray := fun m => by
   have := foldl_rep its m []
   rw [List.nil_append] at this
   exact this
  rw [f0]
  cases its with
  | nil => simp
  | cons a r' => rw [if_neg (by simp)]
 refine wpAny_binaryOp_repeat_ref (T := "list") (U := "int") (by decide) ⟨_, e, rfl⟩ (fun s' => typeIs_int s' k t) noFill_list_mul F.fills_int_mul F.slot_int_rmul repeat_list F.slot_int_index.lookup
  (call_meets F.slot_int_rmul (typeIs_int s k t) F.entry_int_rmul (F.args_int_rmul_2 _ _) (int___rmul___int_list k t l its.toArray n)
   ⟨e, rfl, ⟨_, e, rfl⟩, call_meets F.slot_list_mul ⟨_, e, rfl⟩ F.entry_list_mul (F.args_list_mul_2 _ _) (AutoListH.list___mul___list_int_3 l its.toArray n k t hfit hcap hlong) ⟨e, ?_⟩⟩)
 rw [hnew]
 exact ⟨.ref _, _, I.lnew (t' := s.toks) (r.rep k.toNat) (by rw [len_rep, Nat.mul_comm]; exact hz), rfl, q _ I.fresh⟩
end
end L2
namespace Att
open PySem PySem.W PySem.Calls PyProof.Rows
theorem ints_of_wellAll {P : Params} {h : Heap} : ∀ (ns : List Int) (vs : List Value), WellAll P h vs (ns.map WData.int) → IntsAre vs ns := by
 intro ns
 induction ns with
 | nil =>
  intro vs w
  rw [List.map_nil] at w
  cases w
  exact .nil
 | cons n ns ih =>
  intro vs w
  rw [List.map_cons] at w
  cases w with
  | cons a b =>
   cases a
   exact .cons _ _ (ih _ b)
theorem script_of {l : OpenLaw} {n : Nat} (hn : l.most = some n) {P : Params} {h : Heap} {args : List WData} {vals : List Value}
  (hpre : l.row.toRowW.claim.pre args = true) (hwl : WellAll P h vals args) :
  ∃ a vs ns, vals = [Value.ref a] ∧ args = [WData.list (ns.map WData.int)] ∧ h.get? a = some { cls := .type "list", data := .seq vs.toArray } ∧ IntsAre vs ns ∧ ns.length ≤ n := by
 have hsh : WShape.hasAll [] args [.list .int] = true := (pre_splitW hpre).1
 have hc : l.pre.holds [] { args := args } = true := (pre_splitW hpre).2
 obtain ⟨d, r, rfl, h1, h2⟩ := hasAllW_cons hsh
 obtain rfl := hasAllW_nil h2
 obtain ⟨xs, rfl, h3⟩ := hasW_list h1
 obtain ⟨ns, rfl⟩ := items_int h3
 have hlen : ns.length ≤ n := by
  unfold OpenLaw.pre at hc
  have h4 : (WTm.not (.lt (.lit (.int (n : Int))) (.len (.arg 0)))).holds [] { args := [.list (ns.map .int)] } = true := by
   have h4 := (holds_andW hc).1
   rw [hn] at h4
   exact h4
  have h5 := condW_of h4 (w_not (w_lt w_lit (w_len_list (w_arg rfl))))
  rw [List.length_map] at h5
  refine Nat.le_of_not_lt fun q => ?_
  have q' : (n : Int) < ((ns.length : Nat) : Int) := by lia
  first
   | (rw [decide_eq_true q'] at h5; exact absurd h5 (by decide))
   | (simp at h5; lia)
 cases hwl with
 | cons w1 w2 =>
  cases w2
  cases w1 with
  | list ho hall => exact ⟨_, _, ns, rfl, rfl, ho, ints_of_wellAll ns _ hall, hlen⟩
theorem post_true (l : OpenLaw) (args : List WData) : l.row.toRowW.claim.post args (.bool true) args = true :=
 postW_of (r := l.row.toRowW) (X := (true == true))
  (show WShape.has [] (.bool true) .bool = true by first | rfl | decide | simp [WShape.has, WShape.arms, WShape.armsAll])
  (show (WTm.eq .res (.lit (.bool true))).value [] { args := args, res := some (.bool true), after := args } = some (.bool (true == true)) from w_eq_bool (w_res rfl) w_lit) rfl
theorem attach_call {l : OpenLaw} {n : Nat} {q : Program} {loose : List Str} {XP : (Str → Option Value) → Heap → Prop} {YP : World → Heap → Prop} {d : DefRec}
  (hn : l.most = some n) (hdf : d.params.defaults = [])
  (call : ∀ (w : World) (s₀ s₁ : Shared) (mg mb : Str → Option Value) (fa : Addr) (o : Obj) (pm cd doc : Value) (a : Addr) (vs : List Value) (ns : List Int),
   Ground q loose [] XP w s₀ mg mb s₁.heap → YP w s₁.heap →
   s₁.heap.get? fa = some o → o.data = .func (docDef d.name d.params d.body d.scope pm cd doc) → s₁.heap.CodeRec cd d.name → mg d.name = some (.ref fa) →
   s₁.heap.get? a = some { cls := .type "list", data := .seq vs.toArray } → IntsAre vs ns → ns.length ≤ n → s₁.gens = #[] →
   codeAny (model l.prog w) callerA (.call (.ref fa) ⟨[.ref a], []⟩) (fun r s' => r = .ok (.ret (.bool true)) ∧ OldK s₁.heap s'.heap ∧ s'.os = s₁.os ∧ AllBare s'.gens) s₁) :
  WalkO q loose XP YP l.row.toRowW d [] (fun f vs => PySem.call f vs) := by
 intro w s₀ s₁ mg mb G Y fa o pm cd doc dV kV ho hd hcd hD hmg hg args vals as hpre hlay hrd hwl hlo
 obtain rfl : dV = .none := Dflts.none hD hdf
 obtain rfl : kV = .none := Dflts.noKw hD
 obtain ⟨a, vs, ns, rfl, rfl, hobj, hints, hlen⟩ := script_of hn hpre hwl
 refine enter_call (codeAny_mono (call w s₀ s₁ mg mb fa o pm cd doc a vs ns G Y ho (fd_plain hd) hcd hmg hobj hints hlen hg) fun r s' hq => ?_)
 obtain ⟨rfl, h2, h3, h4⟩ := hq
 exact ⟨.inl ⟨.bool true, .bool true, [], rfl, fun _ => rfl, .bool true, post_true l _, fun _ => ⟨List.Pairwise.nil, fun _ hm => (nomatch hm)⟩⟩, h2, h3, h4⟩
end Att
namespace L2
open PySem PySem.Spec PyProof.Rows
theorem vals_ints : ∀ {vs : List Value} {ns : List Int}, IntsAre vs ns → Vals (ns.map V.int) vs
 | _, _, .nil => .nil
 | _, _, .cons n t h => .cons ⟨t, rfl⟩ (vals_ints h)
end L2
namespace L2
open PySem PySem.Spec PyProof.Rows
def inClass (s : Stmt) (j : Nat) : Stmt := match s with
 | .ClassDef _ _ _ body _ _ _ _ _ _ _ => body.getD j (.Pass ⟨0, 0, 0, 0⟩)
 | _ => .Pass ⟨0, 0, 0, 0⟩
def defArgs (s : Stmt) : Arguments := match s with
 | .FunctionDef _ a _ _ _ _ _ _ _ _ => a
 | _ => { posonlyargs := [], args := [], vararg := none, kwonlyargs := [], kw_defaults := [], kwarg := none, defaults := [] }
def defBody (s : Stmt) : List Stmt := match s with
 | .FunctionDef _ _ b _ _ _ _ _ _ _ => b
 | _ => []
def defScope (s : Stmt) : Scope := match s with
 | .FunctionDef _ _ _ _ _ _ sc _ _ _ => sc
 | _ => { kind := .function, names := [], isGenerator := false, isCoroutine := false }
abbrev CX0 : CXT := fun _ _ _ _ _ _ => False
abbrev E0 : XK := fun _ _ _ => False
theorem pass0 {X : Cx} : Passes CX0 X E0 := fun _ _ _ _ _ _ _ h => h.elim
structure Fun (K : PySem.W.Frag) (x qual : Str) (st : Stmt) (f : Addr) (fd : FuncData) : Prop where
 ex : ∃ (oc : Value) (od : Option Addr) (kV doc pm : Value) (an : Option Addr) (cdv ct : Value) (osl : Array (Option Value)),
  fd = PySem.W.fnOf x qual (defArgs st) (defBody st) (defScope st) .none kV doc pm an cdv ct ∧ K.lookup f = some ⟨oc, od, .func fd, osl⟩ ∧ PySem.W.codeIn K cdv qual = true
 kp : PySem.W.keepIn K (.ref f) = true
section
variable {P : Program} {w : World} {K : PySem.W.Frag} {mg : Str → Option Value} {base : Heap}
theorem Fun.ok {x qual : Str} {st : Stmt} {f : Addr} {fd : FuncData} {N ps : List Str} {k : Nat} {sp : Sp} (F : Fun K x qual st f fd) (S : FnScope N ps (defScope st)) (len : ∀ vs H Q E, sp vs H Q E → vs.length = ps.length)
  (hbody : ∀ (cdv : Value) (A : Around) (outer : List Env) (s : Shared) (H : Hp) (vs : List V) (Q : VK) (E : XK), Room k (A.deeper (envOfC qual (defScope st) s.heap.objs.size f cdv)) → sp vs H Q E →
   ∃ t, PSs (cxOf CX0 P w K mg base N qual (defScope st) f cdv A outer s H E).nox (defBody st) t ∧ t { nx := fun _ H' => Q .non H', rt := Q } (start N vs) H) : FnOk P w K mg base CX0 (k + 1) f fd ps sp := by
 obtain ⟨oc, od, kV, doc, pm, an, cdv, ct, osl, rfl, lk, hcd⟩ := F.ex
 refine fn_of lk hcd S len fun A outer s H vs Q E hr hsp => ?_
 obtain ⟨t, h, q⟩ := hbody cdv A outer s H vs Q E hr hsp
 exact ⟨t, h.nox, q⟩
theorem fun_mk {x qual : Str} {st : Stmt} {f : Addr} {oc : Value} {od an : Option Addr} {osl : Array (Option Value)} {kV doc pm cdv ct : Value} (l : K.lookup f = some ⟨oc, od, .func (PySem.W.fnOf x qual (defArgs st) (defBody st) (defScope st) .none kV doc pm an cdv ct), osl⟩)
  (c : PySem.W.codeIn K cdv qual = true) (k : PySem.W.keepIn K (.ref f) = true) : Fun K x qual st f (PySem.W.fnOf x qual (defArgs st) (defBody st) (defScope st) .none kV doc pm an cdv ct) := ⟨⟨oc, od, kV, doc, pm, an, cdv, ct, osl, rfl, l, c⟩, k⟩
end
theorem small1000 {n : Nat} (h : n ≤ 1000) : n < sizeLine := Nat.lt_of_le_of_lt h (by decide)
section
variable {X : Cx}
theorem pv (i : Nat) {x : Str} {pos : Pos} (hN : X.N[i]? = some x := by rfl) (hv : Vis X.env.scope x := by first | exact Or.inl rfl | exact Or.inr (Or.inl rfl) | exact Or.inr (Or.inr rfl)) (hd : (x == ("__debug__" : Str)) = false := by decide)
  (hcd : (x == ("__classdict__" : Str)) = false := by decide) : PE X (.Name x pos) (tVar i) := pe_var hN hv hd hcd
end
theorem iteF {A B : Prop} (h : B) : if false = true then A else B := by
 rw [if_neg Bool.false_ne_true]
 exact h
theorem iteT {A B : Prop} (h : A) : if true = true then A else B := by
 rw [if_pos rfl]
 exact h
theorem ite2 {c A B : Prop} [Decidable c] (h1 : c → A) (h2 : ¬ c → B) : if c then A else B := by
 by_cases h : c
 ·rw [if_pos h]
  exact h1 h
 ·rw [if_neg h]
  exact h2 h
def Same (H H' : Hp) : Prop := ∀ b o, H b = some o → H' b = some o
theorem Same.refl (H : Hp) : Same H H := fun _ _ h => h
theorem Same.trans {H H1 H2 : Hp} (a : Same H H1) (b : Same H1 H2) : Same H H2 := fun c o h => b c o (a c o h)
theorem Same.free {H H' : Hp} (e : Same H H') {l : Addr} (h : H' l = Option.none) : H l = Option.none := by
 cases q : H l with
 | none => rfl
 | some o =>
  rw [e l o q] at h
  cases h
theorem Same.seq {K : PySem.W.Frag} {H H' : Hp} {a : Addr} {xs : List V} (e : Same H H') (h : SqL K H a xs) : SqL K H' a xs := by
 rcases h with (h | ⟨o, h⟩) | h
 ·exact .inl (.inl (e _ _ h))
 ·exact .inl (.inr ⟨o, e _ _ h⟩)
 ·exact .inr h
end L2
set_option maxHeartbeats 1000000
namespace L2
open PySem PySem.Spec PyProof.Rows
theorem closure_ok {scope : Scope} {env : Env} (h : ∀ x, (x, NameKind.free) ∈ scope.names → ∃ c, env.cells.lookup x = some c) :
  ∃ cl, closureFor scope env = pure cl ∧ (∀ x c, cl.lookup x = some c → env.cells.lookup x = some c) ∧ ∀ x, (x, NameKind.free) ∈ scope.names → ∃ c, cl.lookup x = some c := by
 have go : ∀ (names : List (Str × NameKind)) (acc : List (Str × Addr)), (∀ x, (x, NameKind.free) ∈ names → ∃ c, env.cells.lookup x = some c) → (∀ x c, acc.lookup x = some c → env.cells.lookup x = some c) →
   ∃ cl, (forIn names acc fun (p : Str × NameKind) (r : List (Str × Addr)) => if p.2 == .free then (do let a ← cellOf env p.1; pure (ForInStep.yield ((p.1, a) :: r))) else pure (ForInStep.yield r) : Sem (List (Str × Addr))) = pure cl ∧
    (∀ x c, cl.lookup x = some c → env.cells.lookup x = some c) ∧ (∀ x c, acc.lookup x = some c → ∃ c', cl.lookup x = some c') ∧ ∀ x, (x, NameKind.free) ∈ names → ∃ c, cl.lookup x = some c := by
  intro names
  induction names with
  | nil => intro acc _ ha; exact ⟨acc, rfl, ha, fun x c e => ⟨c, e⟩, fun x z => nomatch z⟩
  | cons p r ih =>
   intro acc hn ha
   obtain ⟨n, k⟩ := p
   rw [List.forIn_cons]
   cases hk : (k == NameKind.free) with
   | false =>
    obtain ⟨cl, h1, h2, h3, h4⟩ := ih acc (fun x z => hn x (List.mem_cons_of_mem _ z)) ha
    refine ⟨cl, ?_, h2, h3, fun x z => ?_⟩
    ·simp only [hk, Bool.false_eq_true, if_false, pure_bind]
     exact h1
    ·rcases List.mem_cons.mp z with e | z
     ·injection e with e1 e2
      rw [← e2] at hk
      exact absurd hk (by decide)
     ·exact h4 x z
   | true =>
    have ek : k = .free := by simpa using hk
    subst ek
    obtain ⟨c, hc⟩ := hn n List.mem_cons_self
    have hcell : cellOf env n = pure c := by unfold cellOf; rw [hc]
    obtain ⟨cl, h1, h2, h3, h4⟩ := ih ((n, c) :: acc) (fun x z => hn x (List.mem_cons_of_mem _ z)) (fun x c' e => by
     rw [List.lookup_cons] at e
     cases hx : x == n with
     | true =>
      rw [hx] at e
      have e' : c = c' := Option.some.inj e
      have ex : x = n := by simpa using hx
      rw [ex, ← e']; exact hc
     | false => rw [hx] at e; exact ha x c' e)
    refine ⟨cl, ?_, h2, fun x c' e => ?_, fun x z => ?_⟩
    ·simp only [beq_self_eq_true, if_true, hcell, pure_bind]
     exact h1
    ·cases hx : x == n with
     | true => exact h3 x c (by rw [List.lookup_cons, hx])
     | false => exact h3 x c' (by rw [List.lookup_cons, hx]; exact e)
    ·rcases List.mem_cons.mp z with e | z
     ·injection e with e1 e2
      exact h3 x c (by rw [e1, List.lookup_cons]; simp)
     ·exact h4 x z
 obtain ⟨cl, h1, h2, _, h4⟩ := go scope.names [] h (fun x c e => nomatch e)
 refine ⟨cl, ?_, h2, h4⟩
 rw [← h1]
 unfold closureFor
 simp only [bind_pure]
def cxComp (X : Cx) (scope : Scope) (cl : List (Str × Addr)) (C : Addr) (N : List Str) (s : Shared) (H : Hp) (ex : List Addr) : Cx where
 prog := X.prog
 w := X.w
 K := X.K
 mg := X.mg
 base := X.base
 A := X.A
 N := N
 s₀ := s
 H₀ := H
 env := compEnvC scope cl C X.env
 outer := X.stack
 stack := X.stack
 ex := ex
 calm := X.calm
 fn := fun x => match scope.names.lookup x with | some .cell => true | _ => false
 pn := []
 xe := fun _ _ => False
theorem lookup_relabel {env : Env} : ∀ {names : List (Str × NameKind)} {x : Str} {k : NameKind},
  (names.map fun (n, k) => if (k == NameKind.free && env.scope.kind == .function && env.kindOf n == some .cell) then (n, NameKind.cell) else (n, k)).lookup x = some k →
  ∃ k', names.lookup x = some k' ∧ (k' = k ∨ (k' = .free ∧ k = .cell))
 | [], _, _, h => by simp at h
 | (n, kk) :: r, x, k, h => by
  have ih := @lookup_relabel env r x k
  have h' : List.lookup x ((if (kk == NameKind.free && env.scope.kind == .function && env.kindOf n == some .cell) = true then (n, NameKind.cell) else (n, kk)) :: r.map fun (n, k) => if (k == NameKind.free && env.scope.kind == .function && env.kindOf n == some .cell) then (n, NameKind.cell) else (n, k)) = some k := h
  cases hx : x == n with
  | true =>
   by_cases hc : (kk == NameKind.free && env.scope.kind == .function && env.kindOf n == some .cell) = true
   ·rw [if_pos hc, List.lookup_cons, hx] at h'
    have e : NameKind.cell = k := Option.some.inj h'
    have hf : kk = .free := by
     rw [Bool.and_eq_true, Bool.and_eq_true] at hc
     simpa using hc.1.1
    exact ⟨kk, by rw [List.lookup_cons, hx], .inr ⟨hf, e.symm⟩⟩
   ·rw [if_neg hc, List.lookup_cons, hx] at h'
    exact ⟨kk, by rw [List.lookup_cons, hx], .inl (Option.some.inj h')⟩
  | false =>
   have h2 : List.lookup x (r.map fun (n, k) => if (k == NameKind.free && env.scope.kind == .function && env.kindOf n == some .cell) then (n, NameKind.cell) else (n, k)) = some k := by
    by_cases hc : (kk == NameKind.free && env.scope.kind == .function && env.kindOf n == some .cell) = true
    ·rw [if_pos hc, List.lookup_cons, hx] at h'; exact h'
    ·rw [if_neg hc, List.lookup_cons, hx] at h'; exact h'
   obtain ⟨k', e1, e2⟩ := ih h2
   exact ⟨k', by rw [List.lookup_cons, hx]; exact e1, e2⟩
structure CompScope (N : List Str) (osc scope : Scope) (own : List Str) (fr : List (Nat × Str)) : Prop where
 kind : scope.kind = .function
 cells : ∀ y ∈ scope.names, y.2 = .cell → scope.names.lookup y.1 = some .cell
 locs : ∀ y ∈ scope.names, y.2 = .local → scope.names.lookup y.1 = some .local
 free : ∀ y ∈ scope.names, y.2 = .free → osc.names.lookup y.1 = some .cell ∨ osc.names.lookup y.1 = some .free
 slot : ∀ p ∈ fr, N[p.1]? = some p.2 ∧ scope.names.lookup p.2 = some .free
theorem HOk.track {P : Program} {w : World} {H : Hp} {h : Heap} {a : Addr} {o : HO} (x : HOk P w H h) (hn : H a = none) (new : ObjOk P w (upd H a o) h a o) : HOk P w (upd H a o) h := fun b u e => by
 by_cases hb : b = a
 ·subst hb; rw [upd_same] at e; cases e; exact new
 ·rw [upd_ne hb] at e
  exact (x b u e).stay (fun c v _ q => q) (fun c q => by rw [upd_ne (ne_of_none q hn)]; exact q) fun c xs q => by rw [upd_ne (ne_of_none q hn)]; exact q
theorem HOk.but {P : Program} {w : World} {H : Hp} {h h' : Heap} {a : Addr} (x : HOk P w H h) (hn : H a = none) (k : ∀ b o, b ≠ a → h.get? b = some o → h'.get? b = some o) : HOk P w H h' := fun b u e =>
 (x b u e).stay (fun c v hc q => k c v (by
  rintro rfl
  rcases hc with rfl | hc
  ·rw [hn] at e; cases e
  ·rw [hn] at hc; cases hc) q) (fun _ q => q) fun _ _ q => q
theorem Un.track {fs ex : List Addr} {H H' : Hp} {h h' : Heap} {a : Addr} {o : HO} (u : Un fs ex H H' h h') (ha : h.objs.size ≤ a) (hn : H a = none) : Un fs ex H (upd H' a o) h h' where
 keep := u.keep
 slot := u.slot
 free := fun b ob q n hx => by rw [upd_ne (Nat.ne_of_lt (Nat.lt_of_lt_of_le (Heap.lt_size q) ha))]; exact u.free b ob q n hx
 there := u.there
 tups := fun b xs q => by rw [upd_ne (ne_of_none q hn)]; exact u.tups b xs q
 frzs := fun b ob v q => by rw [upd_ne (ne_of_none q hn)]; exact u.frzs b ob v q
 tbls := fun b ps q => by rw [upd_ne (ne_of_none q hn)]; exact u.tbls b ps q
theorem Un.but {fs ex : List Addr} {H H' : Hp} {h h' h'' : Heap} {a : Addr} (u : Un fs ex H H' h h') (ha : h.objs.size ≤ a) (k : ∀ b o, b ≠ a → h'.get? b = some o → h''.get? b = some o) : Un fs ex H H' h h'' where
 keep := fun b ob q n hb hx => k b ob (Nat.ne_of_lt (Nat.lt_of_lt_of_le (Heap.lt_size q) ha)) (u.keep b ob q n hb hx)
 slot := fun b ob q n hb hx => let ⟨sl, e⟩ := u.slot b ob q n hb hx; ⟨sl, k b _ (Nat.ne_of_lt (Nat.lt_of_lt_of_le (Heap.lt_size q) ha)) e⟩
 free := u.free
 there := fun b ob q hx => let ⟨o', e⟩ := u.there b ob q hx; ⟨o', k b _ (Nat.ne_of_lt (Nat.lt_of_lt_of_le (Heap.lt_size q) ha)) e⟩
 tups := u.tups
 frzs := u.frzs
 tbls := u.tbls
structure NewCells (scope : Scope) (nw : List (Str × Addr)) (h1 : Heap) (C : Addr) : Prop where
 ok : ∀ n c, (n, c) ∈ nw → h1.IsCell c none ∧ C < c
 apart : nw.Pairwise fun x y => x.2 ≠ y.2
 has : ∀ x, scope.names.lookup x = some .cell → ∃ c, nw.lookup x = some c
 of : ∀ x c, nw.lookup x = some c → (x, NameKind.cell) ∈ scope.names
theorem cellsFrom_acc : ∀ (names : List (Str × NameKind)) (n : Nat) (acc : List (Str × Addr)), cellsFrom n names acc = cellsFrom n names [] ++ acc
 | [], _, _ => rfl
 | (x, k) :: r, n, acc => by
  unfold cellsFrom
  split
  ·rw [cellsFrom_acc r (n + 1) ((x, n) :: acc), cellsFrom_acc r (n + 1) [(x, n)], List.append_assoc]
   rfl
  ·exact cellsFrom_acc r n acc
theorem cellsFrom_of : ∀ (names : List (Str × NameKind)) (n : Nat) (x : Str) (c : Addr), (x, c) ∈ cellsFrom n names [] → (x, NameKind.cell) ∈ names
 | [], _, _, _, h => nomatch h
 | (y, k) :: r, n, x, c, h => by
  unfold cellsFrom at h
  split at h
  ·rename_i hk
   rw [cellsFrom_acc] at h
   rcases List.mem_append.mp h with h | h
   ·exact List.mem_cons_of_mem _ (cellsFrom_of r _ x c h)
   ·rw [List.mem_singleton] at h
    cases h
    have : k = .cell := by simpa using hk
    rw [this]
    exact List.mem_cons_self ..
  ·exact List.mem_cons_of_mem _ (cellsFrom_of r _ x c h)
theorem lookup_app {α : Type} {x : Str} {a b : List (Str × α)} {c : α} (h : (a ++ b).lookup x = some c) : a.lookup x = some c ∨ (a.lookup x = none ∧ b.lookup x = some c) := by
 induction a with
 | nil => exact .inr ⟨rfl, h⟩
 | cons p r ih =>
  rw [List.cons_append, List.lookup_cons] at h
  rw [List.lookup_cons]
  cases hx : x == p.1 with
  | true => rw [hx] at h; exact .inl h
  | false => rw [hx] at h; exact ih h
theorem lookup_app_l {α : Type} {x : Str} {a b : List (Str × α)} {c : α} (h : a.lookup x = some c) : (a ++ b).lookup x = some c := by
 induction a with
 | nil => cases h
 | cons p r ih =>
  rw [List.lookup_cons] at h
  rw [List.cons_append, List.lookup_cons]
  cases hx : x == p.1 with
  | true => rw [hx] at h; exact h
  | false => rw [hx] at h; exact ih h
theorem lookup_app_r {α : Type} {x : Str} {a b : List (Str × α)} {c : α} (h : a.lookup x = none) (h2 : b.lookup x = some c) : (a ++ b).lookup x = some c := by
 induction a with
 | nil => exact h2
 | cons p r ih =>
  rw [List.lookup_cons] at h
  rw [List.cons_append, List.lookup_cons]
  cases hx : x == p.1 with
  | true => rw [hx] at h; cases h
  | false => rw [hx] at h; exact ih h
theorem newEnv_around {M : Model} {A : Around} {E : Value → Shared → Prop} {s : Shared} {scope : Scope} {globals : Addr} {closure : List (Str × Addr)} {qual : Str} {outer : Env} {Q : Env → Shared → Prop}
  (hQ : ∀ nw h1, NewCells scope nw h1 s.heap.objs.size → h1.Ns s.heap.objs.size (fun _ => none) → (∀ b o, s.heap.get? b = some o → h1.get? b = some o) →
   Q { scope, locals := s.heap.objs.size, globals, cells := nw ++ closure, qual, func := none, code := outer.code, frame := outer.frame, builtins := outer.builtins } { s with heap := h1 }) :
  wpAny M A (newFunctionEnv scope globals closure [] qual none .none (some outer)) Q E s := by
 simp only [newFunctionEnv, Option.isSome_some, if_true]
 refine wpAny_bind (wpAny_alloc ?_)
 refine wpAny_bind (wpAny_layCells _ (fun name kind cells => by cases hkc : kind == NameKind.cell <;> simp [hkc]) _ _ _ _ ?_)
 have ok := cellsFrom_ok scope.names (s.heap.push { cls := .type "dict", data := .dict #[] }) (s.heap.objs.size + 1) [] ⟨fun _ _ hm => (nomatch hm), List.Pairwise.nil⟩ (by rw [Heap.size_push]; exact Nat.le_refl _)
 rw [Heap.size_push] at ok
 rw [show ({ s with heap := s.heap.push { cls := .type "dict", data := .dict #[] } } : Shared).heap.objs.size = s.heap.objs.size + 1 from Heap.size_push ..]
 rw [List.forIn_nil]
 refine wpAny_bind (wpAny_pure (wpAny_pure ?_))
 rw [cellsFrom_acc]
 exact hQ _ _ ⟨fun n c h => ⟨(ok.empty n c h).1, (ok.empty n c h).2⟩, ok.apart, fun x h => cell_has h, fun x c h => cellsFrom_of _ _ x c (PySem.mem_of_lookup h)⟩
  ((Heap.Ns.new s.heap (.type "dict")).keeps (pushCells_keeps _ _)) fun b o e => pushCells_keeps _ _ b o (Heap.get?_push_of_some _ e)
def PIfs (X : Cx) (ifs : List Expr) (t : TT) : Prop :=
 ∀ (pins : List (Addr × Obj)) (s : Shared) (σ : St) (H : Hp) (Q : Bool → Hp → Prop), Inv X pins σ H s → t σ H Q →
  wpAny (model X.prog X.w) X.A (forIn ifs true fun c r => if r = true then do let ok ← isTrue c X.env (eval c X.env); pure (ForInStep.yield ok) else pure (ForInStep.yield r)) (TP X pins σ Q) X.xe s
def tYes : TT := fun _ H Q => Q true H
theorem pif_nil {X : Cx} : PIfs X [] tYes := fun _ _ _ H Q I h => wpAny_tests_nil ⟨H, I, h⟩
theorem pif_one {X : Cx} {c : Expr} {t : TT} (h : PT X c t) : PIfs X [c] t := fun pins s σ H Q I q => wpAny_tests_one (h pins s σ H Q I q)
def compStart' (own : List Str) (fr : List (Nat × Str)) (σ : St) : St := own.map (fun _ => none) ++ fr.map fun p => (σ[p.1]?).join
def CompGo (J : It) (g : TG) (tt : TT) (te : TE) (Q : VK) (σ₀ : St) (H1 : Hp) : Prop :=
 ∃ W : Nat → Nat → List V → St → Hp → Prop, (∃ m, W 0 m [] σ₀ H1) ∧ ∀ i m acc σ' H', W i m acc σ' H' →
  (J.stop i H' ∧ acc.length ≤ sizeLine ∧ ∀ p, H' p = none → Q (.ref p) (upd H' p (.lst acc))) ∨
  (J.go i H' ∧ acc.length < sizeLine ∧ ∃ N : List V → St → Hp → Prop, (∀ acc σ' H', N acc σ' H' → ∃ m', m' < m ∧ W (i + 1) m' acc σ' H') ∧ ∀ x H'', J.yld i H' x H'' → g x σ' H'' fun σ2 H2 => tt σ2 H2 fun ok H3 => if ok = true then te σ2 H3 fun y H4 => N (acc ++ [y]) σ2 H4 else N acc σ2 H3)
def tComp (own : List Str) (fr : List (Nat × Str)) (wi : TI) (g : TG) (tt : TT) (te : TE) : TE := fun σ H Q => wi σ H fun J H1 => CompGo J g tt te Q (compStart' own fr σ) H1
section
variable {X : Cx} {tg iter elt : Expr} {ifs : List Expr} {scope : Scope} {own : List Str} {fr : List (Nat × Str)} {pos : Pos}
theorem inv_comp {pins : List (Addr × Obj)} {σ : St} {H : Hp} {s : Shared} {cl : List (Str × Addr)} {ex : List Addr} {h1 : Heap} {m : Str → Option Value} {C : Addr} {t' : Nat} (S : CompScope X.N X.env.scope scope own fr) (I : Inv X pins σ H s)
  (hcl : ∀ x c, cl.lookup x = some c → X.env.cells.lookup x = some c) (hcl2 : ∀ x, (x, NameKind.free) ∈ scope.names → ∃ c, cl.lookup x = some c) (hex : ∀ b ∈ ex, FpOk X pins H b ∧ b < s.heap.objs.size)
  (hC : s.heap.objs.size ≤ C) (k : ∀ b o, s.heap.get? b = some o → h1.get? b = some o) (hn : h1.Ns C m) {nw : List (Str × Addr)} (nc : NewCells scope nw h1 C) :
  Inv (cxComp X scope (nw ++ cl) C (own ++ fr.map (·.2)) s H ex) [] (compStart' own fr σ) H { s with heap := h1, toks := t' } := by
 have okX := I.ok
 have isNew : ∀ x c, nw.lookup x = some c → C < c := fun x c e => (nc.ok x c (PySem.mem_of_lookup e)).2
 have isOld : ∀ x c, cl.lookup x = some c → c < C := fun x c e => by
  obtain ⟨v, o, ho, _⟩ := I.cell x c (hcl x c e)
  exact Nat.lt_of_lt_of_le (Heap.lt_size ho) hC
 have hinj : ∀ x y c, (nw ++ cl).lookup x = some c → (nw ++ cl).lookup y = some c → x = y := fun x y c e1 e2 => by
  rcases lookup_app e1 with a | ⟨_, a⟩ <;> rcases lookup_app e2 with b | ⟨_, b⟩
  ·exact name_of_addr nc.apart (PySem.mem_of_lookup a) (PySem.mem_of_lookup b)
  ·exact absurd (Nat.lt_trans (isNew x c a) (isOld y c b)) (Nat.lt_irrefl _)
  ·exact absurd (Nat.lt_trans (isNew y c b) (isOld x c a)) (Nat.lt_irrefl _)
  ·exact okX.inj x y c (hcl x c a) (hcl y c b)
 have hasF : ∀ x, (x, NameKind.free) ∈ scope.names → ∃ c, (nw ++ cl).lookup x = some c := fun x hx => by
  obtain ⟨c, e⟩ := hcl2 x hx
  cases z : nw.lookup x with
  | none => exact ⟨c, lookup_app_r z e⟩
  | some c' => exact ⟨c', lookup_app_l z⟩
 refine ⟨⟨okX.mod, ?_, okX.glob, okX.blt, hC, hinj, fun x hx => ?_, fun x c e1 e2 => ?_, okX.hd, okX.frames, .inl rfl, fun b hb => ?_, I.bs, Nat.le_trans okX.bsz I.sz, fun b o e hb => ?_, fun b hb hf => ?_, I.stack, I.stkFree⟩,
  rfl, I.bare, Un.kept k, ⟨m, hn, fun i x v e1 e2 e3 => ?_⟩, fun x c e => ?_, I.hok.fresh hC, fun x c e => ?_, fun p hp => absurd (show p ∈ ([] : List (Addr × Obj)) from hp) (by simp), I.hok.kept k, ?_⟩
 ·exact S.kind
 ·-- a cell's or a free name
  have hx' : (relabel scope X.env).names.lookup x = some .cell ∨ (relabel scope X.env).names.lookup x = some .free := hx
  have hfree : scope.names.lookup x = some .cell ∨ scope.names.lookup x = some .free := by
   rcases hx' with q | q
   ·obtain ⟨k', e1, e2⟩ := lookup_relabel q
    rcases e2 with e2 | ⟨e2, _⟩
    ·exact .inl (by rw [e1, e2])
    ·exact .inr (by rw [e1, e2])
   ·obtain ⟨k', e1, e2⟩ := lookup_relabel q
    rcases e2 with e2 | ⟨e2, e3⟩
    ·exact .inr (by rw [e1, e2])
    ·cases e3
  rcases hfree with hfree | hfree
  ·obtain ⟨c, e⟩ := nc.has x hfree
   exact ⟨c, lookup_app_l e⟩
  ·exact hasF x (PySem.mem_of_lookup hfree)
 ·-- an own cell is new
  have e1' : (match scope.names.lookup x with | some .cell => true | _ => false) = true := e1
  have hce : scope.names.lookup x = some .cell := by
   split at e1'
   ·assumption
   ·cases e1'
  obtain ⟨c', e⟩ := nc.has x hce
  have e2' : (nw ++ cl).lookup x = some c := e2
  rw [lookup_app_l e] at e2'
  cases e2'
  exact Nat.le_trans hC (Nat.le_of_lt (isNew x c e))
 ·obtain ⟨⟨f0, f1, f2, f3, f4, f5⟩, f6⟩ := hex b hb
  refine ⟨Nat.ne_of_lt (Nat.lt_of_lt_of_le f6 hC), fun x c e => ?_⟩
  rcases lookup_app (show (nw ++ cl).lookup x = some c from e) with a | ⟨_, a⟩
  ·exact Nat.ne_of_gt (Nat.lt_trans (Nat.lt_of_lt_of_le f6 hC) (isNew x c a))
  ·exact f4 x c (hcl x c a)
 ·obtain ⟨⟨f0, f1, f2, f3, f4, f5⟩, f6⟩ := hex b hb
  rcases f3 with f3 | f3
  ·exact okX.noex b o e f3
  ·exact absurd (Nat.lt_of_lt_of_le (Heap.lt_size e) (Nat.le_trans okX.bsz f3)) (Nat.lt_irrefl _)
 ·obtain ⟨⟨f0, f1, f2, f3, f4, f5⟩, f6⟩ := hex b hb
  rcases List.mem_cons.mp (I.stkSub b hf) with z | z
  ·exact f1 z
  ·exact f2 z
 ·-- the values of the free names
  have e1' : (own ++ fr.map (·.2))[i]? = some x := e1
  have hi : own.length ≤ i := by
   by_cases h : i < own.length
   ·unfold compStart' at e2
    rw [List.getElem?_append_left (by simpa using h), List.getElem?_map] at e2
    cases q : own[i]? with
    | none => rw [q] at e2; cases e2
    | some z => rw [q] at e2; cases e2
   ·lia
  unfold compStart' at e2
  rw [List.getElem?_append_right (by simpa using hi), List.getElem?_map, List.length_map] at e2
  rw [List.getElem?_append_right hi, List.getElem?_map] at e1'
  cases q : fr[i - own.length]? with
  | none => rw [q] at e2; cases e2
  | some p =>
   rw [q] at e2 e1'
   have e1' : p.2 = x := Option.some.inj e1'
   have e2' : (σ[p.1]?).join = some v := Option.some.inj e2
   obtain ⟨hs1, hs2⟩ := S.slot p (List.mem_of_getElem? q)
   rw [e1'] at hs1 hs2
   have e2'' : σ[p.1]? = some (some v) := by
    cases z : σ[p.1]? with
    | none => rw [z] at e2'; cases e2'
    | some y => rw [z] at e2'; exact congrArg some e2'
   obtain ⟨mX, hnX, hlX⟩ := I.loc
   have hfr := S.free (x, .free) (PySem.mem_of_lookup hs2) rfl
   have hvis : Vis X.env.scope x := by
    rcases hfr with z | z
    ·exact .inr (.inl z)
    ·exact .inr (.inr z)
   obtain ⟨u, r, l⟩ := hlX p.1 x v hs1 e2'' hvis
   refine ⟨u, r, ?_⟩
   have hkc : X.env.kindOf x = some .cell ∨ X.env.kindOf x = some .free := hfr
   rcases l with ⟨kx, _⟩ | ⟨kx, c, hc, z⟩
   ·rcases hkc with w | w
    ·rw [w] at kx; cases kx
    ·rw [w] at kx; cases kx
   ·obtain ⟨c', hc'⟩ := hcl2 x (PySem.mem_of_lookup hs2)
    have hcc := hcl x c' hc'
    rw [hc] at hcc
    cases hcc
    have e3' : (relabel scope X.env).names.lookup x = some .local ∨ (relabel scope X.env).names.lookup x = some .cell ∨ (relabel scope X.env).names.lookup x = some .free := e3
    have hnew : nw.lookup x = none := by
     cases z : nw.lookup x with
     | none => rfl
     | some c'' =>
      have := S.cells _ (nc.of x c'' z) rfl
      rw [hs2] at this
      cases this
    refine .inr ⟨?_, c, lookup_app_r hnew hc', ?_⟩
    ·rcases e3' with w | w | w
     ·obtain ⟨k', q1, q2⟩ := lookup_relabel w
      rw [hs2] at q1
      cases q1
      rcases q2 with q2 | ⟨_, q2⟩ <;> cases q2
     ·exact .inl w
     ·exact .inr w
    ·obtain ⟨o, ho, hd⟩ := z
     exact ⟨o, k _ _ ho, hd⟩
 ·rcases lookup_app (show (nw ++ cl).lookup x = some c from e) with a | ⟨_, a⟩
  ·exact ⟨none, (nc.ok x c (PySem.mem_of_lookup a)).1⟩
  ·obtain ⟨v, o, ho, hd⟩ := I.cell x c (hcl x c a)
   exact ⟨v, o, k _ _ ho, hd⟩
 ·rcases lookup_app (show (nw ++ cl).lookup x = some c from e) with a | ⟨_, a⟩
  ·exact I.hok.fresh (Nat.le_trans hC (Nat.le_of_lt (isNew x c a)))
  ·exact I.freeC x c (hcl x c a)
 ·show (compStart' own fr σ).length = (own ++ fr.map (·.2)).length
  unfold compStart'
  rw [List.length_append, List.length_append, List.length_map, List.length_map, List.length_map]
theorem comp_block {pins : List (Addr × Obj)} {σ : St} {H2 : Hp} {s2 : Shared} {cl : List (Str × Addr)} {it : Addr} {fp : List Addr} {tn : Nat → Heap → Prop} {J : It} {g : TG} {tt : TT} {te : TE} {Q : VK} {E : Value → Shared → Prop}
  {RR : Value → Addr → Result → Shared → Prop} (hc : X.calm = true) (S : CompScope X.N X.env.scope scope own fr) (I : Inv X pins σ H2 s2) (hcl : ∀ x c, cl.lookup x = some c → X.env.cells.lookup x = some c)
  (hcl2 : ∀ x, (x, NameKind.free) ∈ scope.names → ∃ c, cl.lookup x = some c) (T : Turn X.prog X.w X.K tg J fp it tn) (st : tn 0 s2.heap) (hfp : ∀ b ∈ fp, FpOk X pins H2 b)
  (hb : ∀ (cl : List (Str × Addr)) (C : Addr) (s : Shared) (H : Hp) (ex : List Addr), PG (cxComp X scope cl C (own ++ fr.map (·.2)) s H ex) tg g ∧ PIfs (cxComp X scope cl C (own ++ fr.map (·.2)) s H ex) ifs tt ∧ PE (cxComp X scope cl C (own ++ fr.map (·.2)) s H ex) elt te)
  (hq : CompGo J g tt te Q (compStart' own fr σ) H2)
  (fin : ∀ (D C : Addr) (s' : Shared) (H' : Hp), (∃ m, s'.heap.Ns C m) → s2.heap.objs.size ≤ C → C ≠ D → H' C = none → Q (.ref D) H' → (∀ h'', (∀ b o, b ≠ C → s'.heap.get? b = some o → h''.get? b = some o) → Inv X pins σ H' { s' with heap := h'' }) → RR (.ref D) C (.ok .next) s') :
  wpAny (model X.prog X.w) X.A (newList []) (fun acc s₃ => wpAny (model X.prog X.w) X.A (newFunctionEnv scope X.env.globals cl [] X.env.qual none .none (some X.env)) (fun cenv s₄ =>
   codeAny (model X.prog X.w) X.A (.compStart (.ListComp elt [⟨tg, iter, ifs, 0⟩] scope pos) 0 (.ref it) acc { cenv with scope := relabel scope X.env }) (RR acc cenv.locals) s₄) E s₃) E s2 := by
 obtain ⟨W, ⟨m0, w0⟩, turn⟩ := hq
 refine wpAny_newObj_type (newEnv_around (fun nw h₁ nc hns₁ hsb₁ => ?_))
 dsimp only at nc hns₁ hsb₁ ⊢
 generalize hH2 : s2.heap.push { cls := .type "list", dict := none, data := .seq ([] : List Value).toArray } = HH at nc hns₁ hsb₁ ⊢
 have hC : HH.objs.size = s2.heap.objs.size + 1 := by rw [← hH2, Heap.size_push]
 have hDC : s2.heap.objs.size ≠ HH.objs.size := by rw [hC]; exact Nat.ne_of_lt (Nat.lt_succ_self _)
 have hCle : s2.heap.objs.size ≤ HH.objs.size := by rw [hC]; exact Nat.le_succ _
 have old : ∀ b o, s2.heap.get? b = some o → h₁.get? b = some o := fun b o e =>
  hsb₁ b o (hH2 ▸ Heap.get?_push_of_some _ e)
 have hacc : h₁.get? s2.heap.objs.size = some { cls := .type "list", data := .seq ([] : List Value).toArray } := hsb₁ _ _ (hH2 ▸ Heap.get?_push_size _ rfl)
 have flt : ∀ b ∈ fp, b < s2.heap.objs.size := fun b hb => by
  obtain ⟨o, e, _⟩ := T.obj _ _ st b hb
  exact Heap.lt_size e
 have hlt : s2.heap.objs.size < HH.objs.size := by rw [hC]; exact Nat.lt_succ_self _
 obtain ⟨D, hD⟩ : ∃ D : Nat, D = s2.heap.objs.size := ⟨_, rfl⟩
 obtain ⟨C, hCC⟩ : ∃ C : Nat, C = HH.objs.size := ⟨_, rfl⟩
 rw [← hD] at hacc ⊢
 rw [← hCC] at nc hns₁ ⊢
 have hDlt : D < C := by rw [hD, hCC]; exact hlt
 have hDs : s2.heap.objs.size ≤ D := Nat.le_of_eq hD.symm
 have hCs : s2.heap.objs.size ≤ C := Nat.le_trans hDs (Nat.le_of_lt hDlt)
 have nDC : D ≠ C := Nat.ne_of_lt hDlt
 have nfD : ∀ b ∈ fp, b ≠ D := fun b hb => Nat.ne_of_lt (Nat.lt_of_lt_of_le (flt b hb) hDs)
 have nfC : ∀ b ∈ fp, b ≠ C := fun b hb => Nat.ne_of_lt (Nat.lt_of_lt_of_le (flt b hb) hCs)
 have I0 : Inv (cxComp X scope (nw ++ cl) C (own ++ fr.map (·.2)) s2 H2 fp) [] (compStart' own fr σ) H2 { s2 with heap := h₁, toks := s2.toks } :=
  inv_comp S I hcl hcl2 (fun b hb => ⟨hfp b hb, flt b hb⟩) hCs old hns₁ nc
 obtain ⟨pg, pt, pe⟩ := hb (nw ++ cl) C s2 H2 fp
 have Dcell : ∀ x c, (nw ++ cl).lookup x = some c → c ≠ D := fun x c e => by
  rcases lookup_app e with a | ⟨_, a⟩
  ·exact Nat.ne_of_gt (Nat.lt_trans hDlt (nc.ok x c (PySem.mem_of_lookup a)).2)
  ·obtain ⟨v, q⟩ := I.cell x c (hcl x c a)
   exact Nat.ne_of_lt (Nat.lt_of_lt_of_le q.lt hDs)
 have Dstk : D ∉ frs X.stack := fun hf => by
  rcases List.mem_cons.mp (I.stkSub D hf) with z | z
  ·have h1 := I.lt
   rw [← z] at h1
   exact Nat.lt_irrefl _ (Nat.lt_of_lt_of_le h1 hDs)
  ·exact I.nofs hDs z
 have stat : ∀ {H' : Hp} {pl : List (Addr × Obj)}, (∀ b ∈ fp, H' b = none) → (∀ p ∈ pl, p.1 = D) → ∀ b ∈ fp, FpOk (cxComp X scope (nw ++ cl) C (own ++ fr.map (·.2)) s2 H2 fp) pl H' b := fun {H' pl} hn hpl b hb => by
  obtain ⟨f0, f1, f2, f3, f4, f5⟩ := hfp b hb
  refine ⟨hn b hb, nfC b hb, fun hf => ?_, .inl hb, fun x c e => (by
   rcases lookup_app (show (nw ++ cl).lookup x = some c from e) with a | ⟨_, a⟩
   ·exact Nat.ne_of_gt (Nat.lt_trans (Nat.lt_of_lt_of_le (flt b hb) hCs) (nc.ok x c (PySem.mem_of_lookup a)).2)
   ·exact f4 x c (hcl x c a)), fun p hp z => ?_⟩
  ·rcases List.mem_cons.mp (I.stkSub b hf) with z | z
   ·exact f1 z
   ·exact f2 z
  ·have h1 : p.1 = D := hpl p (by simpa [cxComp] using hp)
   exact nfD b hb (z.symm.trans h1)
 have loop : ∀ s₃ : Shared, s₃ = { s2 with heap := h₁, toks := s2.toks } →
   codeAny (model X.prog X.w) X.A (.compLoop (.ListComp elt [⟨tg, iter, ifs, 0⟩] scope pos) 0 (.ref it) (.ref D) (compEnvC scope (nw ++ cl) C X.env)) (RR (.ref D) C) s₃ := by
  rintro s₃ rfl
  refine codeAny_loop rfl (fun n s' => ∃ i σ' H' acc its k, Inv (cxComp X scope (nw ++ cl) C (own ++ fr.map (·.2)) s2 H2 fp) [] σ' H' s' ∧ tn i s'.heap ∧ (∀ b ∈ fp, H' b = none) ∧ H' D = none ∧
   s'.heap.get? D = some { cls := .type "list", data := .seq its.toArray k } ∧ Vals acc its ∧ W i n acc σ' H') ?_ m0
   ⟨0, _, H2, [], [], 0, I0, T.keep _ _ _ st fun b hb o e => old b o e, fun b hb => (hfp b hb).1, I.hok.fresh hDs, hacc, .nil, w0⟩
  rintro n s' ⟨i, σ', H', acc, its, k, I1, st1, fr1, nD, gD, rv, w1⟩
  show wpAny _ X.A ((compTurn (.ListComp elt [⟨tg, iter, ifs, 0⟩] scope pos) 0 (.ref it) (.ref D) (compEnvC scope (nw ++ cl) C X.env)).onRaise (fun x => do noteFrame x (compEnvC scope (nw ++ cl) C X.env); theTreesLotGoes x)) _ _ s'
  refine wpAny_noted ?_
  rw [compTurn_list]
  have I1' : Inv (cxComp X scope (nw ++ cl) C (own ++ fr.map (·.2)) s2 H2 fp) [(D, { cls := .type "list", data := .seq its.toArray k })] σ' H' s' := I1.pins_of fun p hp => by
   have e : p = (D, { cls := .type "list", data := .seq its.toArray k }) := by simpa using hp
   subst e
   exact ⟨gD, nD, nDC, Dstk, fun v z => nomatch z⟩
  rcases turn i n acc σ' H' w1 with ⟨stop, hz, qq⟩ | ⟨go, hz, NN, hNN, step⟩
  ·refine wpAny_bind (wpAny_standAt (wpAny_bind (wpAny_mono (T.done (cxComp X scope (nw ++ cl) C (own ++ fr.map (·.2)) s2 H2 fp) rfl rfl rfl hc i _ s' σ' H' (fun _ _ => False) I1' (stat fr1 (by simp)) st1 stop) (fun r s4 ⟨hr, I4⟩ => ?_) fun _ _ z => z.elim)))
   subst hr
   refine wpAny_pure ?_
   have gD4 := (I4.pin (D, _) (List.mem_append_right _ (List.mem_singleton.mpr rfl))).1
   have hC4 : H' C = none := I4.free
   have hC5 : (upd H' D (.lst acc)) C = none := by rw [upd_ne (Ne.symm nDC)]; exact hC4
   refine fin D C s4 (upd H' D (.lst acc)) ?_ hCs (Ne.symm nDC) hC5 (qq D nD) fun h'' kk => ?_
   ·obtain ⟨m, hn, _⟩ := I4.loc
    exact ⟨m, hn⟩
   ·have un : Un (frs X.stack) fp H2 (upd H' D (.lst acc)) s2.heap h'' := Un.but (a := C) (Un.track (o := .lst acc) I4.base hDs (I.hok.fresh hDs)) hCs kk
    have hok : HOk X.prog X.w (upd H' D (.lst acc)) s4.heap := HOk.track I4.hok nD ⟨hz, its, k, rv, gD4⟩
    exact I.call' (s' := { s4 with heap := h'' }) (ch := fp) I4.os un (HOk.but hok hC5 kk) I4.bare fun b hb => by
     obtain ⟨f0, f1, f2, f3, f4, f5⟩ := hfp b hb
     exact ⟨f3, f1, f4, f5⟩
  ·refine wpAny_bind (wpAny_standAt (wpAny_bind (wpAny_mono (T.item (cxComp X scope (nw ++ cl) C (own ++ fr.map (·.2)) s2 H2 fp) rfl rfl rfl hc i _ s' σ' H' (fun _ _ => False) I1' (stat fr1 (by simp)) st1 go) (fun r s4 ⟨u, hr, h4⟩ => ?_) fun _ _ z => z.elim)))
   subst hr
   refine wpAny_bind (wpAny_mono h4 (fun _ s5 ⟨x, H5, I5, r5, y5, st5, fr5⟩ => ?_) fun _ _ z => z.elim)
   have I5' := I5.pinned (stat fr5 (by simp)) (T.obj _ _ st5)
   refine wpAny_bind (wpAny_mono (pg _ s5 σ' H5 x u _ I5' r5 (step x H5 y5)) (fun _ s6 ⟨σ6, H6, I6, q6⟩ => ?_) fun _ _ z => z.elim)
   refine wpAny_bind (wpAny_mono (pt _ s6 σ6 H6 _ I6 q6) (fun ok s7 ⟨H7, I7, q7⟩ => ?_) fun _ _ z => z.elim)
   have again : ∀ {s8 : Shared} {H8 : Hp} {acc' : List V} {its' : List Value} {k' m' : Nat}, Inv (cxComp X scope (nw ++ cl) C (own ++ fr.map (·.2)) s2 H2 fp) (pinsAt fp s5.heap) σ6 H8 s8 → H8 D = none →
     s8.heap.get? D = some { cls := .type "list", data := .seq its'.toArray k' } → Vals acc' its' → m' < n → W (i + 1) m' acc' σ6 H8 →
     ∃ m, m < n ∧ ∃ i σ' H' acc its k, Inv (cxComp X scope (nw ++ cl) C (own ++ fr.map (·.2)) s2 H2 fp) [] σ' H' s8 ∧ tn i s8.heap ∧ (∀ b ∈ fp, H' b = none) ∧ H' D = none ∧
      s8.heap.get? D = some { cls := .type "list", data := .seq its.toArray k } ∧ Vals acc its ∧ W i m acc σ' H' := fun {s8 H8 acc' its' k' m'} I8 n8 g8 rv8 hm w8 => by
    refine ⟨m', hm, i + 1, σ6, H8, acc', its', k', I8.pins_of (fun p hp => nomatch hp), T.keep _ _ _ st5 fun b hb o e => (I8.pin (b, o) (List.mem_append_right _ (mem_pinsAt hb e))).1, fun b hb => ?_, n8, g8, rv8, w8⟩
    obtain ⟨o, e, d⟩ := T.obj _ _ st5 b hb
    exact (I8.pin (b, o) (List.mem_append_right _ (mem_pinsAt hb e))).2.1
   have dropD : ∀ {s8 : Shared} {H8 : Hp}, Inv (cxComp X scope (nw ++ cl) C (own ++ fr.map (·.2)) s2 H2 fp) ([(D, { cls := .type "list", data := .seq its.toArray k })] ++ pinsAt fp s5.heap) σ6 H8 s8 →
     Inv (cxComp X scope (nw ++ cl) C (own ++ fr.map (·.2)) s2 H2 fp) (pinsAt fp s5.heap) σ6 H8 s8 := fun I8 => I8.pins_of fun p hp => I8.pin p (List.mem_append_right _ (List.mem_append_right _ hp))
   cases ok with
   | false =>
    rw [if_neg Bool.false_ne_true] at q7
    obtain ⟨m', hm, w7⟩ := hNN _ _ _ q7
    have pD := I7.pin (D, _) (List.mem_append_right _ (List.mem_append_left _ (List.mem_singleton.mpr rfl)))
    simp only [Bool.false_eq_true, if_false]
    exact wpAny_pure ⟨rfl, again (dropD I7) pD.2.1 pD.1 rv hm w7⟩
   | true =>
    rw [if_pos rfl] at q7
    simp only [if_true]
    refine wpAny_bind (wpAny_bind (wpAny_mono (pe _ s7 σ6 H7 _ I7 q7) (fun u8 s8 ⟨y, H8, I8, r8, q8⟩ => ?_) fun _ _ z => z.elim))
    obtain ⟨m', hm, w8⟩ := hNN _ _ _ q8
    have pD := I8.pin (D, _) (List.mem_append_right _ (List.mem_append_left _ (List.mem_singleton.mpr rfl)))
    obtain ⟨gD8, nD8, _⟩ := pD
    have hlen := rv.length
    refine wpAny_bind (call_meets F.slot_list_append ⟨_, gD8, rfl⟩ F.entry_list_append (F.args_list_append_2 _ _) (PySem.list_append D its.toArray k u8 (by rw [List.size_toArray]; lia)) ⟨gD8, ?_⟩)
    refine wpAny_pure (wpAny_pure ⟨rfl, ?_⟩)
    have q := PySem.IsL.update gD8 (·.push u8)
    have e9 : its.toArray.push u8 = (its ++ [u8]).toArray := by simp
    rw [e9] at q
    refine again (its' := its ++ [u8]) ((dropD I8).turned (it := D) (t' := _) (fun b o hb e => (Heap.get?_update_other s8.heap _ (Ne.symm hb)).trans e) nD8 nDC (.inr hDs) (fun x c e => Dcell x c e) fun p hp z => ?_) nD8 q (rv.append (.cons r8 .nil)) hm w8
    have hp' : p ∈ pinsAt fp s5.heap := by simpa [cxComp] using hp
    exact nfD p.1 (of_pinsAt hp').1 z
 exact codeAny_compStart_list (loop _ rfl) (T.self _ 0 _ _ _ (T.keep _ _ _ st fun b hb o e => old b o e) (loop _ rfl))
theorem pe_comp {wi : TI} {g : TG} {tt : TT} {te : TE} (hc : X.calm = true) (S : CompScope X.N X.env.scope scope own fr) (hi : PI X tg iter wi)
  (hb : ∀ (cl : List (Str × Addr)) (C : Addr) (s : Shared) (H : Hp) (ex : List Addr), PG (cxComp X scope cl C (own ++ fr.map (·.2)) s H ex) tg g ∧ PIfs (cxComp X scope cl C (own ++ fr.map (·.2)) s H ex) ifs tt ∧ PE (cxComp X scope cl C (own ++ fr.map (·.2)) s H ex) elt te)
  (hs : ∀ x, foldedSetIterable iter X.env x = pure x := by intro _; rfl) : PE X (.ListComp elt [⟨tg, iter, ifs, 0⟩] scope pos) (tComp own fr wi g tt te) := by
 intro pins s σ H Q I h
 obtain ⟨cl, hclos, hcl, hcl2⟩ := closure_ok (scope := scope) (env := X.env) fun x hx => I.ok.has x (S.free (x, .free) hx rfl)
 rw [eval_ListComp]
 refine wpAny_comprehension_free (use := none) rfl hs hclos S.kind S.locs (thn (hi pins s σ H _ I h) fun xv s₁ h₁ => thn h₁ fun itv s₂ h₂ => ?_)
 obtain ⟨it, fp, tn, J, H2, e, I2, T, st2, f2, hq⟩ := h₂
 subst e
 refine comp_block hc S I2 hcl hcl2 T st2 f2 hb hq (RR := fun acc C => compPost (model X.prog X.w) X.A X.xe none (EP X pins σ Q) acc C) fun D C s' H' hn hC1 hCD hC2 q inv => ?_
 obtain ⟨m, hn⟩ := hn
 exact ⟨m, hn, fun h'' sb => ⟨.ref D, H', inv h'' fun b o hb e => sb.extBut b o hb e, rfl, q⟩⟩
theorem ps_comp {i : Nat} {x : Str} {px spos : Pos} {wi : TI} {g : TG} {tt : TT} {te : TE} (hc : X.calm = true) (hN : X.N.Nodup) (hix : X.N[i]? = some x) (hx : X.env.scope.names.lookup x = some .local) (S : CompScope X.N X.env.scope scope own fr) (hi : PI X tg iter wi)
  (hb : ∀ (cl : List (Str × Addr)) (C : Addr) (s : Shared) (H : Hp) (ex : List Addr), PG (cxComp X scope cl C (own ++ fr.map (·.2)) s H ex) tg g ∧ PIfs (cxComp X scope cl C (own ++ fr.map (·.2)) s H ex) ifs tt ∧ PE (cxComp X scope cl C (own ++ fr.map (·.2)) s H ex) elt te)
  (hsw : swapsWith (.ListComp elt [⟨tg, iter, ifs, 0⟩] scope pos) (some (.Name x px)) spos.line X.env = pure true) (hs : ∀ x, foldedSetIterable iter X.env x = pure x := by intro _; rfl) :
  PS X (.Assign [.Name x px] (.ListComp elt [⟨tg, iter, ifs, 0⟩] scope pos) spos) (tAsg (tComp own fr wi g tt te) (gName i)) := by
 intro pins s σ H D I h
 obtain ⟨cl, hclos, hcl, hcl2⟩ := closure_ok (scope := scope) (env := X.env) fun x hx => I.ok.has x (S.free (x, .free) hx rfl)
 rw [exec_Assign_Name_used _ _ _ _ hsw]
 refine wpAny_bind (wpAny_standAt (wpAny_bind ?_))
 show wpAny _ X.A (do let _ ← comprehension (.ListComp elt [⟨tg, iter, ifs, 0⟩] scope pos) scope X.env _ (newList []) false (eval iter X.env) (some (assign (.Name x px) X.env))) _ _ s
 refine wpAny_bind (wpAny_mono (wpAny_comprehension_free (use := some (assign (.Name x px) X.env)) (Q := fun _ s' => SP X pins D .next s') rfl hs hclos S.kind S.locs (thn (hi pins s σ H _ I h) fun xv s₁ h₁ => thn h₁ fun itv s₂ h₂ => ?_)) (fun _ s' hq => wpAny_pure (wpAny_pure hq)) fun _ _ e => e)
 obtain ⟨it, fp, tn, J, H2, e, I2, T, st2, f2, hq⟩ := h₂
 subst e
 refine comp_block (Q := fun x H1 => gName i x σ H1 D.nx) hc S I2 hcl hcl2 T st2 f2 hb hq (RR := fun acc C => compPost (model X.prog X.w) X.A X.xe (some (assign (.Name x px) X.env)) (fun _ s' => SP X pins D .next s') acc C) fun Da C s' H' hn hC1 hCD hC2 q inv => ?_
 obtain ⟨m, hn⟩ := hn
 have I3 : Inv X pins σ H' { s' with heap := s'.heap } := inv s'.heap fun _ _ _ e => e
 show wpAny _ X.A (assign (.Name x px) X.env (.ref Da)) _ _ s'
 refine wpAny_assign_Name (store_ok2 I3 hN hix (.inl hx) (v := .ref Da) rfl (fun s4 I4 ⟨a, sb, ha⟩ => ?_) (.inr hx))
 have hCL : C ≠ X.env.locals := Nat.ne_of_gt (Nat.lt_of_lt_of_le I2.lt hC1)
 have hCc : ∀ y c, X.env.cells.lookup y = some c → c ≠ C := fun y c e => by
  obtain ⟨v, w⟩ := I2.cell y c e
  exact Nat.ne_of_lt (Nat.lt_of_lt_of_le w.lt hC1)
 have haC : C ≠ a := by
  rcases ha with ha | ha
  ·rw [ha]; exact hCL
  ·exact (hCc _ _ ha).symm
 refine ⟨m, hn.sameBut sb haC, fun h'' sb2 => ⟨_, H', I4.turned (it := C) (t' := s4.toks) (fun b o hb e => sb2.extBut b o hb e) hC2 hCL (.inr (Nat.le_trans I2.sz hC1)) hCc fun p hp z => ?_, q⟩⟩
 exact Nat.ne_of_lt (Nat.lt_of_lt_of_le (Heap.lt_size (I2.pin p hp).1) hC1) z
end
theorem comp_list {K : PySem.W.Frag} {a : Addr} {xs : List V} {g : TG} {tt : TT} {te : TE} {σ₀ : St} {H : Hp} {Q : VK} (Pv : Nat → List V → St → Hp → Prop) (h0 : Pv 0 [] σ₀ H) (hz : xs.length ≤ sizeLine) (hn : ∀ i acc σ H, Pv i acc σ H → acc.length ≤ i)
  (hl : ∀ i acc σ H, i ≤ xs.length → Pv i acc σ H → SqL K H a xs)
  (hs : ∀ i x acc σ H, xs[i]? = some x → Pv i acc σ H → g x σ H fun σ2 H2 => tt σ2 H2 fun ok H3 => if ok = true then te σ2 H3 fun y H4 => Pv (i + 1) (acc ++ [y]) σ2 H4 else Pv (i + 1) acc σ2 H3)
  (hd : ∀ acc σ H, Pv xs.length acc σ H → ∀ p, H p = none → Q (.ref p) (upd H p (.lst acc))) :
  CompGo (Itl K a) g tt te Q σ₀ H := by
 refine ⟨fun i m acc σ H => m = xs.length - i ∧ i ≤ xs.length ∧ Pv i acc σ H, ⟨xs.length, by simp, Nat.zero_le _, h0⟩, ?_⟩
 rintro i m acc σ H ⟨rfl, hi, p⟩
 have q := hl i acc σ H hi p
 have hlen := hn i acc σ H p
 by_cases hlt : i < xs.length
 ·refine .inr ⟨⟨xs, xs[i], q, by simp [hlt]⟩, by lia, Pv (i + 1), fun acc' σ' H' p' => ⟨xs.length - (i + 1), by lia, rfl, hlt, p'⟩, fun x H' y => ?_⟩
  obtain ⟨e, y⟩ := y
  subst e
  exact hs i x acc σ _ (y xs q) p
 ·have e : i = xs.length := by lia
  subst e
  exact .inl ⟨⟨xs, q, Nat.le_refl _⟩, by lia, hd acc σ H p⟩
theorem comp_tup {K : PySem.W.Frag} {a : Addr} {xs : List V} {g : TG} {tt : TT} {te : TE} {σ₀ : St} {H : Hp} {Q : VK} (Pv : Nat → List V → St → Hp → Prop) (h0 : Pv 0 [] σ₀ H) (hz : xs.length ≤ sizeLine) (hn : ∀ i acc σ H, Pv i acc σ H → acc.length ≤ i)
  (hl : ∀ i acc σ H, i ≤ xs.length → Pv i acc σ H → SqT K H a xs)
  (hs : ∀ i x acc σ H, xs[i]? = some x → Pv i acc σ H → g x σ H fun σ2 H2 => tt σ2 H2 fun ok H3 => if ok = true then te σ2 H3 fun y H4 => Pv (i + 1) (acc ++ [y]) σ2 H4 else Pv (i + 1) acc σ2 H3)
  (hd : ∀ acc σ H, Pv xs.length acc σ H → ∀ p, H p = none → Q (.ref p) (upd H p (.lst acc))) :
  CompGo (Itt K a) g tt te Q σ₀ H := by
 refine ⟨fun i m acc σ H => m = xs.length - i ∧ i ≤ xs.length ∧ Pv i acc σ H, ⟨xs.length, by simp, Nat.zero_le _, h0⟩, ?_⟩
 rintro i m acc σ H ⟨rfl, hi, p⟩
 have q := hl i acc σ H hi p
 have hlen := hn i acc σ H p
 by_cases hlt : i < xs.length
 ·refine .inr ⟨⟨xs, xs[i], q, by simp [hlt]⟩, by lia, Pv (i + 1), fun acc' σ' H' p' => ⟨xs.length - (i + 1), by lia, rfl, hlt, p'⟩, fun x H' y => ?_⟩
  obtain ⟨e, y⟩ := y
  subst e
  exact hs i x acc σ _ (y xs q) p
 ·have e : i = xs.length := by lia
  subst e
  exact .inl ⟨⟨xs, q, Nat.le_refl _⟩, by lia, hd acc σ H p⟩
theorem comp_range {lo : Int} {n : Nat} {g : TG} {tt : TT} {te : TE} {σ₀ : St} {H : Hp} {Q : VK} (Pv : Nat → List V → St → Hp → Prop) (h0 : Pv 0 [] σ₀ H) (hz : n ≤ sizeLine) (hn : ∀ i acc σ H, Pv i acc σ H → acc.length ≤ i)
  (hs : ∀ i acc σ H, i < n → Pv i acc σ H → g (.int (lo + i)) σ H fun σ2 H2 => tt σ2 H2 fun ok H3 => if ok = true then te σ2 H3 fun y H4 => Pv (i + 1) (acc ++ [y]) σ2 H4 else Pv (i + 1) acc σ2 H3)
  (hd : ∀ acc σ H, Pv n acc σ H → ∀ p, H p = none → Q (.ref p) (upd H p (.lst acc))) :
  CompGo (Itr lo n) g tt te Q σ₀ H := by
 refine ⟨fun i m acc σ H => m = n - i ∧ i ≤ n ∧ Pv i acc σ H, ⟨n, by simp, Nat.zero_le _, h0⟩, ?_⟩
 rintro i m acc σ H ⟨rfl, hi, p⟩
 have hlen := hn i acc σ H p
 by_cases hlt : i < n
 ·refine .inr ⟨hlt, by lia, Pv (i + 1), fun acc' σ' H' p' => ⟨n - (i + 1), by lia, rfl, hlt, p'⟩, fun x H' y => ?_⟩
  obtain ⟨e, y⟩ := y
  subst e y
  exact hs i acc σ _ hlt p
 ·have e : i = n := by lia
  subst e
  exact .inl ⟨Nat.le_refl _, by lia, hd acc σ H p⟩
end L2
namespace L2
open PySem PySem.Spec PyProof.Rows
theorem iteN {c A B : Prop} [Decidable c] (h : ¬ c) (b : B) : if c then A else B := by rw [if_neg h]; exact b
structure Callee (P : Program) (w : World) (K : PySem.W.Frag) (mg : Str → Option Value) (base : Heap) (k : Nat) (x : Str) (ps : List Str) (sp : Sp) : Prop where
 ex : ∃ (f : Addr) (fd : FuncData), FnOk P w K mg base CX0 k f fd ps sp ∧ Binds K fd ps [] ∧ PySem.W.keepIn K (.ref f) = true ∧ mg x = some (.ref f)
structure Def (K : PySem.W.Frag) (mg : Str → Option Value) (x : Str) (st : Stmt) (ps : List Str) : Prop where
 ex : ∃ (f : Addr) (fd : FuncData), Fun K x x st f fd ∧ Binds K fd ps [] ∧ mg x = some (.ref f)
section
variable {P : Program} {w : World} {K : PySem.W.Frag} {mg : Str → Option Value} {base : Heap}
theorem Def.ok {x : Str} {st : Stmt} {N ps : List Str} {k : Nat} {sp : Sp} (D : Def K mg x st ps) (S : FnScope N ps (defScope st)) (len : ∀ vs H Q E, sp vs H Q E → vs.length = ps.length)
  (hbody : ∀ (f : Addr) (cdv : Value) (A : Around) (outer : List Env) (s : Shared) (H : Hp) (vs : List V) (Q : VK) (E : XK), Room k (A.deeper (envOfC x (defScope st) s.heap.objs.size f cdv)) → sp vs H Q E →
   ∃ t, PSs (cxOf CX0 P w K mg base N x (defScope st) f cdv A outer s H E).nox (defBody st) t ∧ t { nx := fun _ H' => Q .non H', rt := Q } (start N vs) H) : Callee P w K mg base (k + 1) x ps sp := by
 obtain ⟨f, fd, F, b, m⟩ := D.ex
 exact ⟨f, fd, F.ok S len fun cdv A outer s H vs Q E hr h => hbody f cdv A outer s H vs Q E hr h, b, F.kp, m⟩
end
section
variable {X : Cx} {k n : Nat} {ps : List Str} {sp : Sp} {x : Str} {p pos : Pos} {e : Expr} {es : List Expr} {t : TA}
theorem pe_fn (C : Callee X.prog X.w X.K X.mg X.base k x ps sp) (hr : Room n X.A) (hg : Gl X x) (ha : PA X (e :: es) t) (hk : k ≤ n := by decide) (hdb : (x == ("__debug__" : Str)) = false := by decide)
  (he : starEach (e :: es) X.env = (false, eval e X.env) :: starEach es X.env := by rfl) (hpl : (backTo pos (starEach es X.env)).any (·.1) = false := by rfl) :
  PE X (.Call (.Name x p) (e :: es) [] pos) (tCall sp [] E0 t) := by
 obtain ⟨f, fd, F, b, kp, m⟩ := C.ex
 exact pe_call F (hr.mono hk) hg m kp b .nil pass0 ha hdb he hpl
theorem call_isinst : CallR X (.builtin "isinstance") (fun xs H Q => ∃ v T t b, xs = [v, .ty T] ∧ TyOf X.K H v t ∧ PySem.W.kitOne X.K t (.type T) = some b ∧ Q (.bl b) H) := by
 intro pins s σ H xs us Q I r h
 obtain ⟨v, T, t, b, rfl, ty, e, q⟩ := h
 obtain ⟨u, u', rfl, r1, r2⟩ := vals2 r
 cases r2
 exact isinst_ok I r1 ty e fun tk => ⟨.bl b, H, I.tok _, rfl, q⟩
def kitB (S T : String) : Option Bool := if (Value.type S == Value.type T) = true then some true else if PySem.W.kitMeta T = true then (fastBuiltinMro S).map (·.contains (.type T)) else none
theorem kit_of {K : PySem.W.Frag} {S T : String} {b : Bool} (h : kitB S T = some b) : PySem.W.kitOne K (.type S) (.type T) = some b := h
section
variable {K : PySem.W.Frag}
theorem kit_int_int : PySem.W.kitOne K (.type "int") (.type "int") = some true := kit_of (by decide +kernel)
theorem kit_int_bool : PySem.W.kitOne K (.type "int") (.type "bool") = some false := kit_of (by decide +kernel)
theorem kit_tup_tup : PySem.W.kitOne K (.type "tuple") (.type "tuple") = some true := kit_of (by decide +kernel)
theorem kit_lst_lst : PySem.W.kitOne K (.type "list") (.type "list") = some true := kit_of (by decide +kernel)
theorem kit_lst_tup : PySem.W.kitOne K (.type "list") (.type "tuple") = some false := kit_of (by decide +kernel)
theorem kit_tup_lst : PySem.W.kitOne K (.type "tuple") (.type "list") = some false := kit_of (by decide +kernel)
theorem kit_tup_int : PySem.W.kitOne K (.type "tuple") (.type "int") = some false := kit_of (by decide +kernel)
theorem kit_lst_int : PySem.W.kitOne K (.type "list") (.type "int") = some false := kit_of (by decide +kernel)
end
theorem call_sorted_ints : CallR X (.builtin "sorted") (fun xs H Q => ∃ (p : Addr) (ns : List Int), xs = [.ref p] ∧ SqL X.K H p (ns.map V.int) ∧ ns.length < 64 ∧ ∀ ns' : List Int, ns'.Perm ns → ns'.Pairwise (· ≤ ·) → ∀ l, H l = none → Q (.ref l) (upd H l (.lst (ns'.map V.int)))) := by
 intro pins s σ H xs us Q I r h
 obtain ⟨p, ns, rfl, hq, h64, q⟩ := h
 obtain ⟨u, rfl, rx⟩ := vals1 r
 cases rx
 obtain ⟨its, r', pl, hz⟩ := I.list hq
 have hi : IntsAre its ns := intsAre_of r'
 have hlen : its.length = ns.length := hi.length
 refine sorted_ints pl.isList hi (by lia) fun out ns' a1 a2 a3 => ?_
 obtain ⟨e, he⟩ := sortedAll_at s.heap its out
 have hz' : (ns'.map V.int).length ≤ sizeLine := by
  rw [List.length_map, a2.length_eq]
  rw [List.length_map] at hz
  exact hz
 exact ⟨.ref (s.heap.objs.size + 1), _, I.laid (t' := s.toks) (o := .lst (ns'.map V.int)) (fun b o e => sortedAll_old e) (Nat.le_succ _) ⟨hz', out.toList, e, vals_ints a1, by simpa [seqObj] using he⟩, rfl, q ns' a2 a3 _ (I.hok.fresh (Nat.le_succ _))⟩
theorem ints_at {ns : List Int} {us : List Value} (h : IntsAre us ns) : ∀ (i : Nat) (v : Value), us[i]? = some v → ∃ t, v = .int (ns.getD i 0) t := by
 induction h with
 | nil => intro i v e; simp at e
 | cons n t h ih =>
  intro i v e
  cases i with
  | zero => exact ⟨t, by simpa using e.symm⟩
  | succ i =>
   obtain ⟨t', e'⟩ := ih i v (by simpa using e)
   exact ⟨t', by simpa using e'⟩
theorem bools_at {bs : List Bool} : ∀ {us : List Value}, Vals (bs.map V.bl) us → ∀ (i : Nat) (v : Value), us[i]? = some v → v = .bool (bs.getD i false) := by
 induction bs with
 | nil => intro us r i v e; rw [List.map_nil] at r; cases r; simp at e
 | cons b bs ih =>
  intro us r i v e
  rw [List.map_cons] at r
  cases r with
  | cons r1 r2 =>
   cases i with
   | zero =>
    have e' := Option.some.inj e
    rw [← e']
    exact r1
   | succ i => exact ih r2 i v (by simpa using e)
theorem all_range (bs : List Bool) : (List.range bs.length).all (fun i => bs.getD i false) = bs.all id := by
 rw [Bool.eq_iff_iff, List.all_eq_true, List.all_eq_true]
 constructor
 ·intro h b hb
  obtain ⟨i, hi, e⟩ := List.getElem_of_mem hb
  have := h i (by simpa using hi)
  simpa [List.getD, hi, e] using this
 ·intro h i hi
  have hi' : i < bs.length := by simpa using hi
  have := h bs[i] (List.getElem_mem hi')
  simpa [List.getD, hi'] using this
theorem any_range (bs : List Bool) : (List.range bs.length).any (fun i => bs.getD i false) = bs.any id := by
 rw [Bool.eq_iff_iff, List.any_eq_true, List.any_eq_true]
 constructor
 ·rintro ⟨i, hi, e⟩
  have hi' : i < bs.length := by simpa using hi
  exact ⟨bs[i], List.getElem_mem hi', by simpa [List.getD, hi'] using e⟩
 ·rintro ⟨b, hb, e⟩
  obtain ⟨i, hi, z⟩ := List.getElem_of_mem hb
  exact ⟨i, by simpa using hi, by simpa [List.getD, hi, z] using e⟩
theorem call_all_bools (hc : X.calm = true) : CallR X (.builtin "all") (fun xs H Q => ∃ (p : Addr) (bs : List Bool), xs = [.ref p] ∧ SqL X.K H p (bs.map V.bl) ∧ Q (.bl (bs.all id)) H) := by
 intro pins s σ H xs us Q I r h
 obtain ⟨p, bs, rfl, hq, q⟩ := h
 obtain ⟨u, rfl, rx⟩ := vals1 r
 cases rx
 obtain ⟨its, r', pl, hz⟩ := I.list hq
 have hlen : its.length = bs.length := by rw [← r'.length, List.length_map]
 obtain ⟨o, n, ho, _⟩ := id pl
 have hne : p ≠ s.heap.objs.size := Nat.ne_of_lt (Heap.lt_size ho)
 refine call_all_walk (wpAny_pyIter_list pl.isList ?_)
 refine ⟨s.heap.objs.size, _, _, its.toArray.size, _, _, fun i => bs.getD i false, rfl, Walks.list (A := X.A.in1) (I.ok.hd hc) s.heap.objs.size p hne its.toArray, ⟨⟨_, Heap.get?_push_size _ rfl, rfl, rfl⟩, pl.isList.at fun o e => Heap.get?_push_of_some _ e⟩, fun i v s' Q' E' e hQ => ?_, fun h' tk kk => ?_⟩
 ·rw [bools_at r' i v (by simpa using e)]
  exact wpAny_truthy_bool hQ
 ·have kp : ∀ b o, s.heap.get? b = some o → h'.get? b = some o := fun b o e => kk b o (by simpa using Nat.ne_of_lt (Heap.lt_size e)) (Heap.get?_push_of_some _ e)
  rw [List.size_toArray, hlen, all_range]
  exact ⟨.bl (bs.all id), H, I.kept kp, rfl, q⟩
theorem call_any_bools (hc : X.calm = true) : CallR X (.builtin "any") (fun xs H Q => ∃ (p : Addr) (bs : List Bool), xs = [.ref p] ∧ SqL X.K H p (bs.map V.bl) ∧ Q (.bl (bs.any id)) H) := by
 intro pins s σ H xs us Q I r h
 obtain ⟨p, bs, rfl, hq, q⟩ := h
 obtain ⟨u, rfl, rx⟩ := vals1 r
 cases rx
 obtain ⟨its, r', pl, hz⟩ := I.list hq
 have hlen : its.length = bs.length := by rw [← r'.length, List.length_map]
 obtain ⟨o, n, ho, _⟩ := id pl
 have hne : p ≠ s.heap.objs.size := Nat.ne_of_lt (Heap.lt_size ho)
 refine call_any_walk (wpAny_pyIter_list pl.isList ?_)
 refine ⟨s.heap.objs.size, _, _, its.toArray.size, _, _, fun i => bs.getD i false, rfl, Walks.list (A := X.A.in1) (I.ok.hd hc) s.heap.objs.size p hne its.toArray, ⟨⟨_, Heap.get?_push_size _ rfl, rfl, rfl⟩, pl.isList.at fun o e => Heap.get?_push_of_some _ e⟩, fun i v s' Q' E' e hQ => ?_, fun h' tk kk => ?_⟩
 ·rw [bools_at r' i v (by simpa using e)]
  exact wpAny_truthy_bool hQ
 ·have kp : ∀ b o, s.heap.get? b = some o → h'.get? b = some o := fun b o e => kk b o (by simpa using Nat.ne_of_lt (Heap.lt_size e)) (Heap.get?_push_of_some _ e)
  rw [List.size_toArray, hlen, any_range]
  exact ⟨.bl (bs.any id), H, I.kept kp, rfl, q⟩
theorem all_getD (ns ms : List Int) (h : ns.length = ms.length) : ((List.range ns.length).all fun j => ns.getD j 0 == ms.getD j 0) = decide (ns = ms) := by
 rw [Bool.eq_iff_iff, List.all_eq_true, decide_eq_true_iff]
 constructor
 ·intro q
  apply List.ext_getElem h
  intro i h1 h2
  have := q i (by simpa using h1)
  simpa [List.getD, h1, h2] using this
 ·rintro rfl i hi
  simp
theorem eqAt_ints {A : Around} {s : Shared} {us vs : List Value} {ns ms : List Int} (h : IntsAre us ns) (h' : IntsAre vs ms) : ∀ j (h1 : j < us.toArray.size) (h2 : j < vs.toArray.size), SeqAt.EqAt A s us.toArray[j] vs.toArray[j] (ns.getD j 0 == ms.getD j 0) := fun j h1 h2 => by
 obtain ⟨t, e⟩ := ints_at h j us.toArray[j] (by simp)
 obtain ⟨t', e'⟩ := ints_at h' j vs.toArray[j] (by simp)
 rw [e, e']
 exact SeqAt.EqAt.int_int _ _ _ _
theorem op_neLI (hu : X.A.units < cLine) : OpR X (compareOp .NotEq) (fun x y H Q => ∃ (a b : Addr) (ns ms : List Int), x = .ref a ∧ y = .ref b ∧ SqL X.K H a (ns.map V.int) ∧ SqL X.K H b (ms.map V.int) ∧ Q (.bl (!decide (ns = ms))) H) := by
 intro pins s σ H x y v u Q I rx ry h
 obtain ⟨a, b, ns, ms, rfl, rfl, ha, hb, q⟩ := h
 cases rx
 cases ry
 obtain ⟨its, r1, p1, _⟩ := I.list ha
 obtain ⟨its2, r2, p2, _⟩ := I.list hb
 have i1 : IntsAre its ns := intsAre_of r1
 have i2 : IntsAre its2 ms := intsAre_of r2
 have l1 := i1.length
 have l2 := i2.length
 by_cases hl : ns.length = ms.length
 ·refine SeqAt.RcNeAt.lists (e := fun j => ns.getD j 0 == ms.getD j 0) p1.isList p2.isList (by simp only [List.size_toArray]; lia) hu (eqAt_ints i1 i2) X.prog X.w X.xe _ ?_
  rw [List.size_toArray, l1, all_getD ns ms hl]
  exact ⟨.bl _, H, I, rfl, q⟩
 ·refine SeqAt.RcNeAt.lists_lengths p1.isList p2.isList (by simp only [List.size_toArray]; simpa using (by lia : its.length ≠ its2.length)) hu X.prog X.w X.xe _ ?_
  have e : decide (ns = ms) = false := decide_eq_false (fun z => hl (by rw [z]))
  rw [e] at q
  exact ⟨.bl true, H, I, rfl, q⟩
theorem op_eqLI (hu : X.A.units < cLine) : OpR X (compareOp .Eq) (fun x y H Q => ∃ (a b : Addr) (ns ms : List Int), x = .ref a ∧ y = .ref b ∧ SqL X.K H a (ns.map V.int) ∧ SqL X.K H b (ms.map V.int) ∧ Q (.bl (decide (ns = ms))) H) := by
 intro pins s σ H x y v u Q I rx ry h
 obtain ⟨a, b, ns, ms, rfl, rfl, ha, hb, q⟩ := h
 cases rx
 cases ry
 obtain ⟨its, r1, p1, _⟩ := I.list ha
 obtain ⟨its2, r2, p2, _⟩ := I.list hb
 have i1 : IntsAre its ns := intsAre_of r1
 have i2 : IntsAre its2 ms := intsAre_of r2
 have l1 := i1.length
 have l2 := i2.length
 by_cases hl : ns.length = ms.length
 ·refine SeqAt.RcAt.lists (e := fun j => ns.getD j 0 == ms.getD j 0) p1.isList p2.isList (by simp only [List.size_toArray]; lia) hu (eqAt_ints i1 i2) X.prog X.w X.xe _ ?_
  rw [List.size_toArray, l1, all_getD ns ms hl]
  exact ⟨.bl _, H, I, rfl, q⟩
 ·refine SeqAt.RcAt.lists_lengths p1.isList p2.isList (by simp only [List.size_toArray]; simpa using (by lia : its.length ≠ its2.length)) hu X.prog X.w X.xe _ ?_
  have e : decide (ns = ms) = false := decide_eq_false (fun z => hl (by rw [z]))
  rw [e] at q
  exact ⟨.bl false, H, I, rfl, q⟩
end
end L2
namespace L2
open PySem
theorem below_go (xs : Array Nat) (j : Nat) (mono : xs.toList.Pairwise (· < ·)) : ∀ fuel lo hi, hi - lo ≤ fuel → lo ≤ hi → hi ≤ xs.size → (∀ i, i < lo → xs.getD i j < j) → (∀ i, hi ≤ i → i < xs.size → j ≤ xs.getD i j) →
  SetTable.below.go xs j fuel lo hi ≤ xs.size ∧ (∀ i, i < SetTable.below.go xs j fuel lo hi → xs.getD i j < j) ∧ ∀ i, SetTable.below.go xs j fuel lo hi ≤ i → i < xs.size → j ≤ xs.getD i j := by
 have le : ∀ a b, a ≤ b → b < xs.size → xs.getD a j ≤ xs.getD b j := fun a b h hb => by
  rcases Nat.lt_or_eq_of_le h with h | h
  ·have := List.pairwise_iff_getElem.mp mono a b (by simp; lia) (by simpa using hb) h
   simp only [Array.getElem_toList] at this
   simp only [Array.getD_eq_getD_getElem?, Array.getElem?_eq_getElem hb, Array.getElem?_eq_getElem (show a < xs.size by lia), Option.getD_some]
   lia
  ·rw [h]; exact Nat.le_refl _
 intro fuel
 induction fuel with
 | zero =>
  intro lo hi h1 h2 h3 h4 h5
  have e : lo = hi := by lia
  subst e
  exact ⟨h3, h4, h5⟩
 | succ fuel ih =>
  intro lo hi h1 h2 h3 h4 h5
  unfold SetTable.below.go
  by_cases hl : lo < hi
  ·rw [if_pos hl]
   dsimp only
   by_cases hm : xs.getD ((lo + hi) / 2) j < j
   ·rw [if_pos hm]
    refine ih _ _ (by lia) (by lia) h3 (fun i hi' => ?_) h5
    exact Nat.lt_of_le_of_lt (le i ((lo + hi) / 2) (by lia) (by lia)) hm
   ·rw [if_neg hm]
    refine ih _ _ (by lia) (by lia) (by lia) h4 (fun i hi' hs => ?_)
    exact Nat.le_trans (by lia) (le ((lo + hi) / 2) i hi' hs)
  ·rw [if_neg hl]
   have e : lo = hi := by lia
   subst e
   exact ⟨h3, h4, h5⟩
theorem below_spec (xs : Array Nat) (j : Nat) (mono : xs.toList.Pairwise (· < ·)) : SetTable.below xs j ≤ xs.size ∧ (∀ i, i < SetTable.below xs j → xs.getD i j < j) ∧ ∀ i, SetTable.below xs j ≤ i → i < xs.size → j ≤ xs.getD i j :=
 below_go xs j mono xs.size 0 xs.size (by lia) (by lia) (Nat.le_refl _) (fun i h => absurd h (by lia)) (fun i h h' => absurd h' (by lia))
theorem insert_rises (xs : Array Nat) (j : Nat) (mono : xs.toList.Pairwise (· < ·)) (hn : xs[SetTable.below xs j]? ≠ some j) : (SetTable.insertAt xs (SetTable.below xs j) j).toList.Pairwise (· < ·) := by
 obtain ⟨h1, h2, h3⟩ := below_spec xs j mono
 have e : (SetTable.insertAt xs (SetTable.below xs j) j).toList = xs.toList.take (SetTable.below xs j) ++ j :: xs.toList.drop (SetTable.below xs j) := by
  simp [SetTable.insertAt, List.extract_eq_take_drop, List.take_of_length_le]
 rw [e]
 generalize hp : SetTable.below xs j = p at *
 have gt : ∀ i, p ≤ i → (h : i < xs.size) → j < xs[i] := fun i hi h => by
  have q := h3 i hi h
  rw [Array.getD_eq_getD_getElem?, Array.getElem?_eq_getElem h, Option.getD_some] at q
  rcases Nat.lt_or_eq_of_le q with q | q
  ·exact q
  ·exfalso
   have hps : p < xs.size := by lia
   have q2 := h3 p (Nat.le_refl _) hps
   rw [Array.getD_eq_getD_getElem?, Array.getElem?_eq_getElem hps, Option.getD_some] at q2
   rcases Nat.lt_or_eq_of_le hi with z | z
   ·have := List.pairwise_iff_getElem.mp mono p i (by simpa using hps) (by simpa using h) z
    simp only [Array.getElem_toList] at this
    lia
   ·subst z
    exact hn (by rw [Array.getElem?_eq_getElem h, ← q])
 rw [List.pairwise_append, List.pairwise_cons]
 refine ⟨mono.sublist (List.take_sublist _ _), ⟨fun a ha => ?_, mono.sublist (List.drop_sublist _ _)⟩, fun a ha b hb => ?_⟩
 ·obtain ⟨i, hi, rfl⟩ := List.getElem_of_mem ha
  rw [List.getElem_drop]
  rw [List.length_drop, Array.length_toList] at hi
  have := gt (p + i) (by lia) (by lia)
  simpa using this
 ·obtain ⟨i, hi, rfl⟩ := List.getElem_of_mem ha
  rw [List.length_take, Array.length_toList] at hi
  have q := h2 i (by lia)
  rw [Array.getD_eq_getD_getElem?, Array.getElem?_eq_getElem (by lia), Option.getD_some] at q
  rw [List.getElem_take]
  rw [Array.getElem_toList]
  rcases List.mem_cons.mp hb with rfl | hb
  ·exact q
  ·obtain ⟨k, hk, rfl⟩ := List.getElem_of_mem hb
   rw [List.getElem_drop]
   rw [List.length_drop, Array.length_toList] at hk
   have := gt (p + k) (by lia) (by lia)
   rw [Array.getElem_toList]
   lia
structure JT (L : Bool) (t : SetTable) : Prop where
 led : t.led = L
 dum : t.dummies = #[]
 mono : t.place.toList.Pairwise (· < ·)
theorem has_nil (j : Nat) : SetTable.has #[] j = false := by simp [SetTable.has]
theorem slot_cases (t : SetTable) (j : Nat) (h : t.dummies = #[]) : (t.slot j = .empty ∧ t.place[SetTable.below t.place j]? ≠ some j) ∨ ∃ i, t.slot j = .live i := by
 unfold SetTable.slot
 rw [h, has_nil]
 dsimp only
 by_cases e : (t.place[SetTable.below t.place j]? == some j) = true
 ·rw [if_pos e]; exact .inr ⟨_, rfl⟩
 ·rw [if_neg e]
  refine .inl ⟨by simp, fun q => e ?_⟩
  rw [q]; simp
theorem probe_empty (t : SetTable) (hd : t.dummies = #[]) (f : Nat → Int) (h : Int) : ∀ (fuel : Nat) (p : SetTable.Probe) (j : Nat) (d : Option Nat), p.dummy = none → SetTable.probe.go t f h fuel p = some (.empty j d) →
  d = none ∧ t.place[SetTable.below t.place j]? ≠ some j := by
 intro fuel
 induction fuel with
 | zero => intro p j d _ e; simp [SetTable.probe.go] at e
 | succ fuel ih =>
  intro p j d hp e
  unfold SetTable.probe.go at e
  rcases slot_cases t p.j hd with ⟨q, q2⟩ | ⟨i, q⟩
  ·rw [q] at e
   injection e with e
   injection e with e1 e2
   subst e1
   exact ⟨e2 ▸ hp, q2⟩
  ·rw [q] at e
   dsimp only at e
   have ha : (t.advance p).dummy = none := by
    unfold SetTable.advance
    split
    ·exact hp
    ·exact hp
   split at e
   ·cases e
   ·exact ih _ j d ha e
theorem standIn_JT {L : Bool} {t : SetTable} (n : Nat) (h : JT L t) : JT L (t.standIn n) where
 led := h.led
 dum := rfl
 mono := by
  show (Array.range n).toList.Pairwise (· < ·)
  rw [Array.toList_range]
  exact List.pairwise_lt_range
theorem layNew_JT {L : Bool} {t : SetTable} (es : Array (Int × Value)) (h : Int) (x : Value) (J : JT L t) : JT L (layNew t es h x).2.1 := by
 unfold layNew
 cases q : t.freeSlot h with
 | none => exact standIn_JT _ J
 | some r =>
  obtain ⟨slot, wasDummy⟩ := r
  dsimp only
  have hs : t.place[SetTable.below t.place slot]? ≠ some slot := by
   unfold SetTable.freeSlot at q
   cases e : t.probe (fun _ => h + 1) h (t.probeStart h) with
   | none => rw [e] at q; cases q
   | some m =>
    rw [e] at q
    cases m with
    | candidate _ _ _ => cases q
    | empty j d =>
     obtain ⟨rfl, z⟩ := probe_empty t J.dum _ h _ _ j d rfl e
     have q1 := Option.some.inj q
     injection q1 with q2 _
     subst q2
     exact z
  have Jp : JT L (t.put slot).1 := by
   refine ⟨J.led, ?_, insert_rises t.place slot J.mono hs⟩
   show (if SetTable.has t.dummies slot = true then _ else t.dummies) = #[]
   rw [J.dum, has_nil]
   rfl
  unfold SetTable.orStandIn
  split
  ·exact Jp
  ·exact standIn_JT _ Jp
theorem laid_JT {L : Bool} {mask finger moves : Nat} {plain : Bool} {hs : Array Int} {t : SetTable} {o : Array Nat} (h : SetTable.laid mask finger moves L plain hs = some (t, o)) : JT L t := by
 unfold SetTable.laid at h
 cases q : SetTable.layClean mask hs with
 | none => rw [q] at h; cases h
 | some owner =>
  rw [q] at h
  have e := Option.some.inj h
  injection e with e1 _
  subst e1
  refine ⟨rfl, rfl, ?_⟩
  show (List.map (fun x => x.1) ((List.range (mask + 1)).filterMap fun j => (owner.getD j none).map (j, ·))).toArray.toList.Pairwise (· < ·)
  have : ∀ l : List Nat, List.Sublist (List.map (fun x : Nat × Nat => x.1) (l.filterMap fun j => (owner.getD j none).map (j, ·))) l := by
   intro l
   induction l with
   | nil => exact List.Sublist.refl _
   | cons a r ih =>
    rw [List.filterMap_cons]
    cases (owner.getD a none) with
    | none => exact ih.cons _
    | some k => exact ih.cons₂ _
  exact (List.pairwise_lt_range (n := mask + 1)).sublist (by simpa using this (List.range (mask + 1)))
theorem relayAll_JT {L : Bool} {t : SetTable} (es : Array (Int × Value)) (wanted : Nat) (J : JT L t) : JT L (relayAll t es wanted).2.1 := by
 unfold relayAll
 cases q : t.relaid (es.map (·.1)) wanted with
 | none => exact standIn_JT _ J
 | some r =>
  obtain ⟨t', order⟩ := r
  dsimp only
  split
  ·unfold SetTable.relaid at q
   rw [J.led] at q
   exact laid_JT q
  ·exact standIn_JT _ J
theorem plain_off_JT {L : Bool} {t : SetTable} (J : JT L t) : JT L { t with plain := false } := ⟨J.led, J.dum, J.mono⟩
theorem below_next {xs : Array Nat} (mono : xs.toList.Pairwise (· < ·)) (k : Nat) (hk : k < xs.size) : SetTable.below xs (xs[k] + 1) = k + 1 := by
 obtain ⟨h1, h2, h3⟩ := below_spec xs (xs[k] + 1) mono
 have q1 : ¬ SetTable.below xs (xs[k] + 1) ≤ k := fun q => by
  have := h3 k q hk
  rw [Array.getD_eq_getD_getElem?, Array.getElem?_eq_getElem hk, Option.getD_some] at this
  lia
 have q2 : ¬ k + 1 < SetTable.below xs (xs[k] + 1) := fun q => by
  have hk1 : k + 1 < xs.size := by lia
  have := h2 (k + 1) q
  rw [Array.getD_eq_getD_getElem?, Array.getElem?_eq_getElem hk1, Option.getD_some] at this
  have z := List.pairwise_iff_getElem.mp mono k (k + 1) (by simpa using hk) (by simpa using hk1) (by lia)
  simp only [Array.getElem_toList] at z
  lia
 lia
theorem below_first {xs : Array Nat} (mono : xs.toList.Pairwise (· < ·)) : SetTable.below xs 0 = 0 := by
 obtain ⟨h1, h2, h3⟩ := below_spec xs 0 mono
 rcases Nat.eq_zero_or_pos (SetTable.below xs 0) with h | h
 ·exact h
 ·exact absurd (h2 0 h) (by lia)
theorem erase_perm {α : Type} : ∀ (l : List α) (i : Nat) (h : i < l.length), List.Perm (l[i] :: l.eraseIdx i) l
 | a :: l, 0, _ => List.Perm.refl _
 | a :: l, i + 1, h => (List.Perm.swap _ _ _).trans ((erase_perm l i (by simpa using h)).cons a)
theorem pickOrder_perm {α : Type} (next : Nat → Nat) (xs : Array α) : List.Perm (pickOrder next xs).toList xs.toList := by
 have go : ∀ (fuel k : Nat) (left : List α) (out : Array α), left.length = fuel → List.Perm (pickOrder.go next fuel k left out).toList (out.toList ++ left) := by
  intro fuel
  induction fuel with
  | zero =>
   intro k left out h
   have e : left = [] := List.eq_nil_of_length_eq_zero h
   subst e
   simp [pickOrder.go]
  | succ fuel ih =>
   intro k left out h
   unfold pickOrder.go
   have hlt : next k % left.length < left.length := Nat.mod_lt _ (by lia)
   rw [List.getElem?_eq_getElem hlt]
   dsimp only
   refine (ih (k + 1) _ _ (by rw [List.length_eraseIdx_of_lt hlt]; lia)).trans ?_
   rw [Array.toList_push, List.append_assoc]
   exact List.Perm.append_left _ (erase_perm left _ hlt)
 exact (go xs.size 0 xs.toList #[] (by simp)).trans (by simp)
end L2
namespace L2
open PySem
section
variable {prog : Program} {w : World} {κ : Type} [DecidableEq κ]
def SetX (knd : KeyKind prog w κ) (h : Heap) (a : Addr) (S : κ → Bool) (n : Nat) : Prop :=
 ∃ o es ep t, h.get? a = some o ∧ o.ExactSet ∧ o.data = .set es ep t ∧ (ElemsOf knd es.toList ∧ (∀ k, S k = true ↔ ∃ e ∈ es.toList, knd.is k e.2 = true) ∧ es.size < scanBound ∧ t.fits es.size = true ∧ es.size = n) ∧ JT (!w.params.followText "set-order") t
variable {knd : KeyKind prog w κ} {A : Around} {E : Value → Shared → Prop} {s : Shared}
theorem SetX.of_get {h h' : Heap} {a : Addr} {S : κ → Bool} {n : Nat} (x : SetX knd h a S n) (k : ∀ o, h.get? a = some o → h'.get? a = some o) : SetX knd h' a S n := by
 obtain ⟨o, es, ep, t, e, r⟩ := x
 exact ⟨o, es, ep, t, k o e, r⟩
theorem SetX.congr {h : Heap} {a : Addr} {S S' : κ → Bool} {n n' : Nat} (x : SetX knd h a S n) (e : ∀ k, S k = S' k) (en : n = n') : SetX knd h a S' n' := by
 obtain rfl : S = S' := funext e
 subst en
 exact x
theorem SetX.new (h : Heap) {l : Bool} (hl : l = !w.params.followText "set-order") : SetX knd (h.push { cls := .type "set", dict := none, data := .set #[] 0 (.fresh 0 0 l) }) h.objs.size (fun _ => false) 0 := by
 refine ⟨_, #[], 0, _, Heap.get?_push_size _ rfl, ⟨rfl, rfl, rfl⟩, rfl, ⟨fun e he => absurd he (by simp), fun k => by simp, by decide, by simp [SetTable.fits, SetTable.fresh, SetTable.fill], rfl⟩, hl, rfl, ?_⟩
 exact List.Pairwise.nil
theorem SetX.store {h : Heap} {a : Addr} {o : Obj} {es es' : Array (Int × Value)} {ep : Nat} {t t' : SetTable} {S : κ → Bool} (ho : h.get? a = some o) (hx : o.ExactSet) (hd : o.data = .set es ep t)
  (el : ElemsOf knd es'.toList) (mem : ∀ k, S k = true ↔ ∃ e ∈ es'.toList, knd.is k e.2 = true) (hb : es'.size < scanBound) (hf : t'.fits es'.size = true) (J : JT (!w.params.followText "set-order") t') :
  (h.update a (Obj.putSet es' t')).get? a = some { o with data := .set es' (ep + 1) t' } ∧ SetX knd (h.update a (Obj.putSet es' t')) a S es'.size := by
 have g : (h.update a (Obj.putSet es' t')).get? a = some { o with data := .set es' (ep + 1) t' } := (SetOf_store (knd := knd) (S' := S) ho hx hd el mem hb hf).1
 exact ⟨g, _, es', ep + 1, t', g, hx, rfl, ⟨el, mem, hb, hf, rfl⟩, J⟩
theorem addTailX {g : Bool → Sem Unit} (hg : ∀ (b : Bool) (s₁ : Shared) (Q' : Unit → Shared → Prop), Q' () s₁ → wpAny (model prog w) A (g b) Q' E s₁)
  {a : Addr} {o : Obj} {es es1 : Array (Int × Value)} {ep : Nat} {t t2 : SetTable} {S : κ → Bool} {wd : Bool} {R : Option Bool → Shared → Prop} (ho : s.heap.get? a = some o) (hx : o.ExactSet) (hd : o.data = .set es ep t)
  (el : ElemsOf knd es1.toList) (mem : ∀ k, S k = true ↔ ∃ e ∈ es1.toList, knd.is k e.2 = true) (hb : es1.size < scanBound) (hf : t2.fits es1.size = true) (J : JT (!w.params.followText "set-order") t2)
  (fin : ∀ h', Heap.SameBut a s.heap h' → SetX knd h' a S es1.size → R (some true) { s with heap := h' }) :
  wpAny (model prog w) A (do
    storeSet a es1 t2
    if (!wd && t2.tooFull) = true then do
      g (relayAll t2 es1 (SetTable.grown es1.size)).2.2
      storeSet a (relayAll t2 es1 (SetTable.grown es1.size)).1 (relayAll t2 es1 (SetTable.grown es1.size)).2.1
      pure (some true)
     else pure (some true)) R E s := by
 obtain ⟨g1, x1⟩ := SetX.store (knd := knd) ho hx hd el mem hb hf J
 have sb1 := Heap.SameBut.update s.heap a (Obj.putSet es1 t2)
 refine wpAny_bind (wpAny_storeSet_of ho hd ?_ (fits_of_scanBound hb))
 by_cases c : (!wd && t2.tooFull) = true
 ·rw [if_pos c]
  have pm := relayAll_perm t2 es1 (SetTable.grown es1.size)
  have ft := relayAll_fits t2 es1 (SetTable.grown es1.size)
  have J2 := relayAll_JT (t := t2) es1 (SetTable.grown es1.size) J
  generalize relayAll t2 es1 (SetTable.grown es1.size) = r at pm ft J2 ⊢
  obtain ⟨es2, t3, gave⟩ := r
  dsimp only at pm ft J2 ⊢
  have sz : es2.size = es1.size := by simpa using pm.length_eq
  refine wpAny_bind (hg _ _ _ (wpAny_bind (wpAny_storeSet_of g1 rfl ?_ (by rw [sz]; exact fits_of_scanBound hb))))
  obtain ⟨_, x2⟩ := SetX.store (knd := knd) (S := S) g1 hx rfl (el.perm pm) (fun k => (mem k).trans ⟨fun ⟨e, he, q⟩ => ⟨e, pm.mem_iff.mpr he, q⟩, fun ⟨e, he, q⟩ => ⟨e, pm.mem_iff.mp he, q⟩⟩) (by rw [sz]; exact hb) ft J2
  rw [sz] at x2
  exact wpAny_pure (fin _ (sb1.trans (Heap.SameBut.update _ a _)) x2)
 ·rw [if_neg c]
  exact wpAny_pure (fin _ sb1 x1)
theorem addX {a : Addr} {S : κ → Bool} {n : Nat} {k : κ} {x : Value} {Q : Bool → Shared → Prop} (hk : knd.is k x = true) (hsc : x.scannable = true) (hS : SetX knd s.heap a S n) (room : n + 1 < scanBound)
  (fin : ∀ h', Heap.SameBut a s.heap h' → SetX knd h' a (fun k' => S k' || decide (k' = k)) (if S k then n else n + 1) → Q (!S k) { s with heap := h' }) :
  wpAny (model prog w) A (setAddHashed a x (knd.hash k)) Q E s := by
 obtain ⟨o, es, ep, t, ho, hx, hd, ⟨el, mem, hb, hf, hn⟩, J⟩ := hS
 have quiet : ∀ (b : Bool) (s₁ : Shared) (Q' : Unit → Shared → Prop), Q' () s₁ → wpAny (model prog w) A (match b with | true => rule "set.scan.the-table-gave-way" | false => pure ()) Q' E s₁ := fun b s₁ Q' z => by
  cases b
  ·exact wpAny_pure z
  ·exact wpAny_rule z
 unfold setAddHashed setAddHashedIn
 refine wpAny_holding (wpAny_bind (wpAny_setState_of ho hd hf ?_))
 dsimp only
 rw [if_pos (byScan_of hsc hb el)]
 unfold setAddByScan
 refine wpAny_bind (wpAny_bind (wpAny_rule (wpAny_bind (wpAny_setScan_of hk ho hd hf el ?_))))
 cases found : List.findIdx? (fun e => knd.is k e.2) es.toList with
 | some j =>
  obtain ⟨hj, pj, _⟩ := List.findIdx?_eq_some_iff_getElem.mp found
  have there : S k = true := (mem k).mpr ⟨_, List.getElem_mem hj, pj⟩
  dsimp only
  refine wpAny_pure (wpAny_pure ?_)
  have z := fin s.heap (Heap.SameBut.refl a s.heap) ⟨o, es, ep, t, ho, hx, hd, ⟨el, fun k' => ?_, hb, hf, by rw [there]; exact hn⟩, J⟩
  ·rw [there] at z
   exact z
  ·rw [← mem k', Bool.or_eq_true, decide_eq_true_eq]
   exact ⟨fun q => q.elim id fun e => by rw [e]; exact there, .inl⟩
 | none =>
  have away : S k = false := by
   cases q : S k with
   | false => rfl
   | true =>
    obtain ⟨e, he, pe⟩ := (mem k).mp q
    exact absurd pe (by simpa using List.findIdx?_eq_none_iff.mp found e he)
  dsimp only
  have pm := layNew_perm t es (knd.hash k) x
  have ft := layNew_fits t es (knd.hash k) x
  have J1 := layNew_JT es (knd.hash k) x J
  generalize layNew t es (knd.hash k) x = r at pm ft J1 ⊢
  obtain ⟨es1, t1, wd, gave⟩ := r
  dsimp only at pm ft J1 ⊢
  rw [Array.toList_push] at pm
  have sz : es1.size = n + 1 := by
   have := pm.length_eq
   rw [List.length_append] at this
   simp at this
   lia
  have last : ∀ h', Heap.SameBut a s.heap h' → SetX knd h' a (fun k' => S k' || decide (k' = k)) es1.size → Q true { s with heap := h' } := fun h' sb q => by
   have z := fin h' sb
   rw [away] at z
   rw [sz] at q
   exact z q
  have go : ∀ t2 : SetTable, t2.fits es1.size = true → JT (!w.params.followText "set-order") t2 → ∀ (R : Option Bool → Shared → Prop), (∀ h', Heap.SameBut a s.heap h' → SetX knd h' a (fun k' => S k' || decide (k' = k)) es1.size → R (some true) { s with heap := h' }) → wpAny (model prog w) A (do
    storeSet a es1 t2
    if (!wd && t2.tooFull) = true then do
      (match (relayAll t2 es1 (SetTable.grown es1.size)).2.2 with | true => rule "set.scan.the-table-gave-way" | false => pure ())
      storeSet a (relayAll t2 es1 (SetTable.grown es1.size)).1 (relayAll t2 es1 (SetTable.grown es1.size)).2.1
      pure (some true)
     else pure (some true)) R E s := fun t2 f2 J2 R hR =>
   addTailX quiet ho hx hd ((el.push hk hsc).perm pm) (mem_push_iff hk mem pm) (by rw [sz]; exact room) f2 J2 hR
  refine wpAny_bind (quiet _ _ _ ?_)
  by_cases c : t1.plain = true
  ·rw [if_pos c]
   refine wpAny_bind ?_
   rw [hashByValue_scannable 8 hsc]
   refine wpAny_pure ?_
   refine go _ ?_ ?_ _ fun h' sb q => wpAny_pure (last h' sb q)
   ·split
    ·exact ft
    ·exact SetTable.fits_plain_off ft
   ·split
    ·exact J1
    ·exact plain_off_JT J1
  ·rw [if_neg c]
   refine wpAny_bind (wpAny_pure ?_)
   rw [if_pos rfl]
   exact go _ ft J1 _ fun h' sb q => wpAny_pure (last h' sb q)
end
end L2
namespace L2
open PySem
theorem slot_setit_next : Slot "set_iterator" "__next__" "set_iterator.__next__" :=
 .of (owner := "set_iterator") (n := "__next__") (by rw [typeLookup_type, builtinLookup_eq_fast]; kernel_rfl)
  (by decide +kernel) (by decide +kernel) (by decide +kernel)
  (by first | exact .inl (by decide +kernel) | exact .inr (by decide +kernel)) (by rw [isSubtype_type]; kernel_rfl)
theorem slot_setit_iter : Slot "set_iterator" "__iter__" "set_iterator.__iter__" :=
 .of (owner := "set_iterator") (n := "__iter__") (by rw [typeLookup_type, builtinLookup_eq_fast]; kernel_rfl)
  (by decide +kernel) (by decide +kernel) (by decide +kernel)
  (by first | exact .inl (by decide +kernel) | exact .inr (by decide +kernel)) (by rw [isSubtype_type]; kernel_rfl)
theorem entry_setit_next : entryFor table "set_iterator.__next__" = some Builtin.«set_iterator.__next__» := entryFor_of_fast (by kernel_rfl)
theorem entry_setit_iter : entryFor table "set_iterator.__iter__" = some Builtin.«dict_keyiterator.__iter__» :=
 entryFor_alias (id' := "dict_keyiterator.__iter__") (by kernel_rfl)
  (by first | rfl | decide +kernel | (unfold String.splitOn; simp +decide [String.splitOnAux])) (by decide +kernel) (by kernel_rfl)
theorem entry_set_iter' : entryFor table "set.__iter__" = some Builtin.«frozenset.__iter__» :=
 entryFor_alias (id' := "frozenset.__iter__") (by kernel_rfl)
  (by first | rfl | decide +kernel | (unfold String.splitOn; simp +decide [String.splitOnAux])) (by decide +kernel) (by kernel_rfl)
theorem args_setit_next (a : Value) : argsOk "set_iterator.__next__" ⟨[a], []⟩ := by unfold argsOk; kernel_rfl
theorem args_setit_iter (a : Value) : argsOk "set_iterator.__iter__" ⟨[a], []⟩ := by unfold argsOk; kernel_rfl
abbrev setIt (first : Value) (i : Nat) (a : Addr) (n ep : Nat) : Obj := { cls := .type "set_iterator", dict := none, data := .fields #[first, .int i 0, .ref a, .int n 0, .int ep 0], slots := #[] }
section
variable {prog : Program} {w : World} {A : Around} {E : Value → Shared → Prop} {s : Shared} {a I : Addr} {o : Obj} {es : Array (Int × Value)} {ep : Nat} {t : SetTable}
theorem byText_ {Q : Bool → Shared → Prop} (h : Q (w.params.followText "set-order") s) : wpAny (model prog w) A setsByText Q E s := wpAny_bind (wpAny_askSetting (wpAny_pure h))
theorem setWalk_text {Q : Array (Int × Value) → Shared → Prop} (ht : w.params.followText "set-order" = true) (ho : s.heap.get? a = some o) (hd : o.data = .set es ep t) (hf : t.fits es.size = true)
  (h : Q (pickOrder (w.params.setOrder a ep) es) s) : wpAny (model prog w) A (setWalk a) Q E s := by
 unfold setWalk
 refine wpAny_bind (wpAny_setState_of ho hd hf ?_)
 dsimp only
 refine wpAny_bind (byText_ ?_)
 rw [ht]
 simp only [if_true]
 exact wpAny_bind (wpAny_askSetting (wpAny_pure h))
theorem setNext_text {sl k : Nat} {Q : Option (Value × Nat) → Shared → Prop} (ht : w.params.followText "set-order" = true) (ho : s.heap.get? a = some o) (hd : o.data = .set es ep t) (hf : t.fits es.size = true)
  (h : Q (((pickOrder (w.params.setOrder a ep) es)[k]?).map fun e => (e.2, sl)) s) : wpAny (model prog w) A (setNext a sl k ep) Q E s := by
 unfold setNext
 refine wpAny_bind (wpAny_setState_of ho hd hf ?_)
 dsimp only
 refine wpAny_bind (byText_ ?_)
 rw [ht]
 simp only [if_true, bne_self_eq_false, Bool.false_eq_true, if_false]
 exact wpAny_bind (setWalk_text ht ho hd hf (wpAny_pure h))
theorem setNext_plain {sl k : Nat} {Q : Option (Value × Nat) → Shared → Prop} (ht : w.params.followText "set-order" = false) (ho : s.heap.get? a = some o) (hd : o.data = .set es ep t) (hf : t.fits es.size = true) (J : JT true t)
  (hp : (!t.plain && decide (es.size > 1)) = false) (hs : SetTable.below t.place sl = k)
  (h : Q (match es[k]?, t.place[k]? with | some (_, x), some j => some (x, j + 1) | _, _ => none) s) : wpAny (model prog w) A (setNext a sl k ep) Q E s := by
 unfold setNext
 refine wpAny_bind (wpAny_setState_of ho hd hf ?_)
 dsimp only
 refine wpAny_bind (byText_ ?_)
 rw [ht]
 simp only [Bool.false_eq_true, if_false]
 show wpAny _ _ (if (!t.plain && decide (es.size > 1)) = true then unsupported _ else _) _ _ s
 rw [hp]
 simp only [Bool.false_eq_true, if_false]
 refine wpAny_bind ?_
 show wpAny _ _ (if (!t.led && !es.isEmpty) = true then unsupported _ else pure ()) _ _ s
 rw [J.led]
 simp only [Bool.not_true, Bool.false_and, Bool.false_eq_true, if_false]
 refine wpAny_pure ?_
 rw [hs]
 exact wpAny_pure h
theorem setEntries_ {Q : Array (Int × Value) → Shared → Prop} (ho : s.heap.get? a = some o) (hd : o.data = .set es ep t) (hf : t.fits es.size = true) (h : Q es s) : wpAny (model prog w) A (setEntries a) Q E s := by
 unfold setEntries
 exact wpAny_bind (wpAny_setState_of ho hd hf (wpAny_pure h))
theorem setit_item {slot : Nat → Nat} {k n : Nat} {x : Value} {Q : Option Value → Shared → Prop} (hI : s.heap.get? I = some (setIt (.int (slot k : Nat) 0) k a n ep)) (ho : s.heap.get? a = some o) (hd : o.data = .set es ep t) (hf : t.fits es.size = true) (hn : es.size = n)
  (hnx : ∀ (B : Around) (Q' : Option (Value × Nat) → Shared → Prop) (E' : Value → Shared → Prop), Q' (some (x, slot (k + 1))) s → wpAny (model prog w) B (setNext a (slot k) k ep) Q' E' s)
  (hQ : ∀ h', h'.get? I = some (setIt (.int (slot (k + 1) : Nat) 0) (k + 1) a n ep) → Heap.SameBut I s.heap h' → Q (some x) { s with heap := h' }) : wpAny (model prog w) A (pyNext (.ref I)) Q E s := by
 have hT : s.TypeIs (.ref I) "set_iterator" := ⟨_, hI, rfl⟩
 unfold pyNext
 refine wpAny_bind (wpAny_attempt (wpAny_callSpecial?_slot (name := Str.ofString "__next__") hT slot_setit_next
  (wpAny_call_entry slot_setit_next hT entry_setit_next ?_ (args_setit_next _))))
 show wpAny _ _ (fieldsOf (.ref I) >>= _) _ _ s
 refine wpAny_bind (wpAny_fieldsOf hI rfl ?_)
 show wpAny _ _ (setEntries a >>= _) _ _ s
 refine wpAny_bind (setEntries_ ho hd hf ?_)
 rw [hn]
 simp only [bne_self_eq_false, Bool.false_eq_true, if_false]
 show wpAny _ _ (setNext a ((slot k : Nat) : Int).toNat ((k : Nat) : Int).toNat ((ep : Nat) : Int).toNat >>= _) _ _ s
 simp only [Int.toNat_natCast]
 refine wpAny_bind (hnx _ _ _ ?_)
 dsimp only
 refine wpAny_bind (wpAny_setField_rec hI (by simp) fun h1 g1 s1 => ?_)
 refine wpAny_bind (wpAny_setField_rec g1 (by simp) fun h2 g2 s2 => wpAny_pure ⟨x, rfl, wpAny_pure (hQ h2 ?_ (s1.trans s2))⟩)
 rw [g2]
 simp [rawInt]
theorem stop_tail {α : Type} {h1 : Heap} {Q : Option Value → Shared → Prop} (hh : A.handled = none) (hQ : ∀ h', (∀ b ob, h1.get? b = some ob → h'.get? b = some ob) → Q none { s with heap := h' }) :
  wpAny (model prog w) A.in1 (newExc (.type "StopIteration") [] >>= fun e => (raiseNew e : Sem α)) (fun _ _ => False)
   (fun e s' => wpAny (model prog w) A (do if ← isInstance e (.type "StopIteration") then pure none else throw e) Q E s') { s with heap := h1 } := by
 refine wpAny_bind ?_
 simp only [newExc, newTuple]
 refine wpAny_bind (wpAny_newObj_type ?_ (by size_fits))
 refine wpAny_bind (m := firstArgMember _ _) (wpAny_of_eq (a := Value.none) (by first | rfl | (simp only [firstArgMember]; rfl)) ?_)
 refine wpAny_newObj_type ?_ (by size_fits)
 simp only [raiseNew]
 refine wpAny_bind (wpAny_handled ?_)
 rw [show A.in1.handled = none from hh]
 refine wpAny_bind (wpAny_pure (wpAny_throw ?_))
 refine wpAny_bind (wpAny_isInstance (T := "StopIteration") (b := true) ⟨_, Heap.get?_push_size _ rfl, rfl⟩ isSubtype_stop ?_)
 exact wpAny_pure (hQ _ fun b ob e => Heap.get?_push_of_some _ (Heap.get?_push_of_some _ e))
theorem setit_done {first : Nat} {k n : Nat} {Q : Option Value → Shared → Prop} (hh : A.handled = none) (hI : s.heap.get? I = some (setIt (.int (first : Nat) 0) k a n ep)) (ho : s.heap.get? a = some o) (hd : o.data = .set es ep t) (hf : t.fits es.size = true) (hn : es.size = n)
  (hnx : ∀ (B : Around) (Q' : Option (Value × Nat) → Shared → Prop) (E' : Value → Shared → Prop), Q' none s → wpAny (model prog w) B (setNext a first k ep) Q' E' s)
  (hQ : ∀ h', (∀ b ob, b ≠ I → s.heap.get? b = some ob → h'.get? b = some ob) → Q none { s with heap := h' }) : wpAny (model prog w) A (pyNext (.ref I)) Q E s := by
 have hT : s.TypeIs (.ref I) "set_iterator" := ⟨_, hI, rfl⟩
 unfold pyNext
 refine wpAny_bind (wpAny_attempt (wpAny_callSpecial?_slot (name := Str.ofString "__next__") hT slot_setit_next
  (wpAny_call_entry slot_setit_next hT entry_setit_next ?_ (args_setit_next _))))
 show wpAny _ _ (fieldsOf (.ref I) >>= _) _ _ s
 refine wpAny_bind (wpAny_fieldsOf hI rfl ?_)
 show wpAny _ _ (setEntries a >>= _) _ _ s
 refine wpAny_bind (setEntries_ ho hd hf ?_)
 rw [hn]
 simp only [bne_self_eq_false, Bool.false_eq_true, if_false]
 show wpAny _ _ (setNext a ((first : Nat) : Int).toNat ((k : Nat) : Int).toNat ((ep : Nat) : Int).toNat >>= _) _ _ s
 simp only [Int.toNat_natCast]
 refine wpAny_bind (hnx _ _ _ ?_)
 dsimp only
 refine wpAny_bind (wpAny_setField_rec hI (by simp) fun h1 g1 s1 => ?_)
 refine wpAny_mono (stop_tail (Q := Q) (E := E) hh fun h' kp => hQ h' fun b ob hb e => kp b ob (s1.extBut b ob hb e)) (fun _ _ z => z.elim) fun e s' z => z
theorem choose_ {src : Source} {n : Nat} {Q : Nat → Shared → Prop} (hn : n ≠ 0) (h : ∀ i d, i < n → Q i { s with drawn := d }) : wpAny (model prog w) A (choose src n) Q E s :=
 fun _ _ _ => ⟨hn, h _ _ (Nat.mod_lt _ (Nat.pos_of_ne_zero hn))⟩
theorem drawOrder_ {α : Type} : ∀ (n : Nat) (xs : List α) (s : Shared) {Q : List α → Shared → Prop}, xs.length = n → (∀ ys d, ys.Perm xs → Q ys { s with drawn := d }) → wpAny (model prog w) A (drawOrder n xs) Q E s := by
 intro n
 induction n with
 | zero =>
  intro xs s Q hn h
  obtain rfl : xs = [] := List.eq_nil_of_length_eq_zero hn
  exact wpAny_pure (h [] s.drawn (List.Perm.refl _))
 | succ n ih =>
  intro xs s Q hn h
  match xs, hn with
  | x :: r, hn =>
   show wpAny _ _ (choose .order (x :: r).length >>= _) _ _ s
   refine wpAny_bind (choose_ (by simp) fun i d hi => ?_)
   rw [List.getElem?_eq_getElem hi]
   dsimp only
   refine wpAny_bind (ih _ _ (by rw [List.length_eraseIdx_of_lt hi]; lia) fun ys d' pm => wpAny_pure (h _ d' ((pm.cons _).trans (erase_perm (x :: r) i hi))))
theorem setDrawn_ {Q : Bool → Shared → Prop} (ho : s.heap.get? a = some o) (hd : o.data = .set es ep t) (hf : t.fits es.size = true) (h : Q (!w.params.followText "set-order" && (!t.plain && decide (es.size > 1))) s) : wpAny (model prog w) A (setDrawn a) Q E s := by
 unfold setDrawn
 refine wpAny_bind (wpAny_setState_of ho hd hf ?_)
 dsimp only
 exact wpAny_bind (byText_ (wpAny_pure h))
theorem setitD_item {T : Addr} {ps : List Nat} {k n p : Nat} {x : Value} {h0 : Int} {Q : Option Value → Shared → Prop} (hI : s.heap.get? I = some (setIt (.ref T) k a n ep)) (hTu : s.heap.get? T = some { cls := .type "tuple", data := .seq (ps.map fun (i : Nat) => rawInt i).toArray })
  (ho : s.heap.get? a = some o) (hd : o.data = .set es ep t) (hf : t.fits es.size = true) (hn : es.size = n) (hp : ps[k]? = some p) (hx : es[p]? = some (h0, x))
  (hQ : ∀ h', h'.get? I = some (setIt (.ref T) (k + 1) a n ep) → Heap.SameBut I s.heap h' → Q (some x) { s with heap := h' }) : wpAny (model prog w) A (pyNext (.ref I)) Q E s := by
 have hT : s.TypeIs (.ref I) "set_iterator" := ⟨_, hI, rfl⟩
 unfold pyNext
 refine wpAny_bind (wpAny_attempt (wpAny_callSpecial?_slot (name := Str.ofString "__next__") hT slot_setit_next
  (wpAny_call_entry slot_setit_next hT entry_setit_next ?_ (args_setit_next _))))
 show wpAny _ _ (fieldsOf (.ref I) >>= _) _ _ s
 refine wpAny_bind (wpAny_fieldsOf hI rfl ?_)
 show wpAny _ _ (setEntries a >>= _) _ _ s
 refine wpAny_bind (setEntries_ ho hd hf ?_)
 rw [hn]
 simp only [bne_self_eq_false, Bool.false_eq_true, if_false]
 show wpAny _ _ (seqItems? (.ref T) >>= _) _ _ s
 refine wpAny_bind (wpAny_seqItems hTu rfl ?_)
 dsimp only
 have e : (ps.map fun (i : Nat) => rawInt i).toArray[((k : Nat) : Int).toNat]? = some (.int (p : Nat) 0) := by
  rw [Int.toNat_natCast, List.getElem?_toArray, List.getElem?_map, hp]
  rfl
 rw [e]
 dsimp only
 show wpAny _ _ (setNextDrawn a ((p : Nat) : Int).toNat ((ep : Nat) : Int).toNat >>= _) _ _ s
 simp only [Int.toNat_natCast]
 unfold setNextDrawn
 refine wpAny_bind (wpAny_bind (wpAny_setState_of ho hd hf ?_))
 dsimp only
 simp only [bne_self_eq_false, Bool.false_eq_true, if_false, hx]
 refine wpAny_pure ?_
 refine wpAny_bind (wpAny_setField_rec hI (by simp) fun h2 g2 s2 => wpAny_pure ⟨x, rfl, wpAny_pure (hQ h2 ?_ s2)⟩)
 rw [g2]
 simp [rawInt]
theorem setitD_done {T : Addr} {ps : List Nat} {k n : Nat} {Q : Option Value → Shared → Prop} (hh : A.handled = none) (hI : s.heap.get? I = some (setIt (.ref T) k a n ep)) (hTu : s.heap.get? T = some { cls := .type "tuple", data := .seq (ps.map fun (i : Nat) => rawInt i).toArray })
  (ho : s.heap.get? a = some o) (hd : o.data = .set es ep t) (hf : t.fits es.size = true) (hn : es.size = n) (hp : ps[k]? = none)
  (hQ : ∀ h', (∀ b ob, b ≠ I → s.heap.get? b = some ob → h'.get? b = some ob) → Q none { s with heap := h' }) : wpAny (model prog w) A (pyNext (.ref I)) Q E s := by
 have hT : s.TypeIs (.ref I) "set_iterator" := ⟨_, hI, rfl⟩
 unfold pyNext
 refine wpAny_bind (wpAny_attempt (wpAny_callSpecial?_slot (name := Str.ofString "__next__") hT slot_setit_next
  (wpAny_call_entry slot_setit_next hT entry_setit_next ?_ (args_setit_next _))))
 show wpAny _ _ (fieldsOf (.ref I) >>= _) _ _ s
 refine wpAny_bind (wpAny_fieldsOf hI rfl ?_)
 show wpAny _ _ (setEntries a >>= _) _ _ s
 refine wpAny_bind (setEntries_ ho hd hf ?_)
 rw [hn]
 simp only [bne_self_eq_false, Bool.false_eq_true, if_false]
 show wpAny _ _ (seqItems? (.ref T) >>= _) _ _ s
 refine wpAny_bind (wpAny_seqItems hTu rfl ?_)
 dsimp only
 have e : (ps.map fun (i : Nat) => rawInt i).toArray[((k : Nat) : Int).toNat]? = none := by
  rw [Int.toNat_natCast, List.getElem?_toArray, List.getElem?_map, hp]
  rfl
 rw [e]
 dsimp only
 refine wpAny_bind (wpAny_setField_rec hI (by simp) fun h1 g1 s1 => ?_)
 refine wpAny_bind (wpAny_setField_rec g1 (by simp) fun h2 g2 s2 => ?_)
 refine wpAny_mono (stop_tail (Q := Q) (E := E) hh fun h' kp => hQ h' fun b ob hb e => kp b ob (s2.extBut b ob hb (s1.extBut b ob hb e))) (fun _ _ z => z.elim) fun e s' z => z
theorem setit_self {first : Value} {k n : Nat} {Q : Value → Shared → Prop} (hI : s.heap.get? I = some (setIt first k a n ep)) (h : Q (.ref I) s) : wpAny (model prog w) A (pyIter (.ref I)) Q E s := by
 have hT : s.TypeIs (.ref I) "set_iterator" := ⟨_, hI, rfl⟩
 refine wpAny_pyIter_slot hT slot_setit_iter (wpAny_call_entry slot_setit_iter hT entry_setit_iter ?_ (args_setit_iter _))
 show wpAny _ _ (ret (.ref I)) _ _ s
 exact wpAny_pure ⟨_, rfl, "set_iterator", _, hT, slot_setit_next.lookup, h⟩
def SetWalks (prog : Program) (w : World) (A : Around) (a I N : Addr) (n : Nat) (xs : List Value) (s : Shared) : Prop :=
 ∃ (fp : List Addr) (St : Nat → Shared → Prop), WalksS prog w A I fp [I] (fun a b => b = a) n (fun i v => xs[i]? = some v) St ∧ St 0 s ∧ (∀ b ∈ fp, (b = a ∨ N ≤ b) ∧ b < s.heap.objs.size) ∧ I ∈ fp
theorem walks_num {slot : Nat → Nat} {n : Nat} {xs : List Value} (hh : A.handled = none) (hne : a ≠ I) (hd : o.data = .set es ep t) (hf : t.fits es.size = true) (hn : es.size = n) (hxs : xs.length = n)
  (step : ∀ (k : Nat) (s : Shared) (B : Around) (Q' : Option (Value × Nat) → Shared → Prop) (E' : Value → Shared → Prop), k ≤ n → s.heap.get? a = some o → Q' ((xs[k]?).map fun x => (x, slot (k + 1))) s → wpAny (model prog w) B (setNext a (slot k) k ep) Q' E' s) :
  WalksS prog w A I [I, a] [I] (fun a b => b = a) n (fun i v => xs[i]? = some v) (fun k s => s.heap.get? I = some (setIt (.int (slot k : Nat) 0) k a n ep) ∧ s.heap.get? a = some o) where
 sub := fun b hb => by simp at hb; simp [hb]
 grefl := fun _ => rfl
 gtrans := fun _ _ _ p q => q.trans p
 frame := fun i s h' tk st _ kp => ⟨kp I (by simp) _ st.1, kp a (by simp) _ st.2⟩
 item := fun i s Q E hi st hQ => by
  have hx : xs[i]? = some (xs[i]'(by lia)) := List.getElem?_eq_getElem (by lia)
  refine setit_item (x := xs[i]'(by lia)) st.1 st.2 hd hf hn (fun B Q' E' q => step i s B Q' E' (by lia) st.2 (by rw [hx]; exact q)) fun h' g sb => ?_
  exact hQ _ _ hx ⟨g, sb.extBut a o hne st.2⟩ ⟨fun b ob hb e => sb.extBut b ob (fun z => hb (by simp [z])) e, rfl, rfl, rfl, Nat.le_refl _⟩
 done := fun s Q E st hQ => by
  have hx : xs[n]? = none := List.getElem?_eq_none (by lia)
  refine setit_done hh st.1 st.2 hd hf hn (fun B Q' E' q => step n s B Q' E' (Nat.le_refl _) st.2 (by rw [hx]; exact q)) fun h' kp => ?_
  exact hQ _ ⟨fun b ob hb e => kp b ob (fun z => hb (by simp [z])) e, rfl, rfl, rfl, Nat.le_refl _⟩
 self := fun i s Q E st q => setit_self st.1 q
theorem walks_drawn {T : Addr} {ps : List Nat} {n : Nat} {xs : List Value} (hh : A.handled = none) (hne : a ≠ I) (hnT : T ≠ I) (hd : o.data = .set es ep t) (hf : t.fits es.size = true) (hn : es.size = n) (hps : ps.length = n)
  (hx : ∀ (k p : Nat), ps[k]? = some p → ∃ h0 x, es[p]? = some (h0, x) ∧ xs[k]? = some x) :
  WalksS prog w A I [I, a, T] [I] (fun a b => b = a) n (fun i v => xs[i]? = some v) (fun k s => s.heap.get? I = some (setIt (.ref T) k a n ep) ∧ s.heap.get? a = some o ∧ s.heap.get? T = some { cls := .type "tuple", data := .seq (ps.map fun (i : Nat) => rawInt i).toArray }) where
 sub := fun b hb => by simp at hb; simp [hb]
 grefl := fun _ => rfl
 gtrans := fun _ _ _ p q => q.trans p
 frame := fun i s h' tk st _ kp => ⟨kp I (by simp) _ st.1, kp a (by simp) _ st.2.1, kp T (by simp) _ st.2.2⟩
 item := fun i s Q E hi st hQ => by
  have hp : ps[i]? = some (ps[i]'(by lia)) := List.getElem?_eq_getElem (by lia)
  obtain ⟨h0, x, e1, e2⟩ := hx i _ hp
  refine setitD_item st.1 st.2.2 st.2.1 hd hf hn hp e1 fun h' g sb => ?_
  exact hQ _ _ e2 ⟨g, sb.extBut a o hne st.2.1, sb.extBut T _ hnT st.2.2⟩ ⟨fun b ob hb e => sb.extBut b ob (fun z => hb (by simp [z])) e, rfl, rfl, rfl, Nat.le_refl _⟩
 done := fun s Q E st hQ => by
  refine setitD_done hh st.1 st.2.2 st.2.1 hd hf hn (List.getElem?_eq_none (by lia)) fun h' kp => ?_
  exact hQ _ ⟨fun b ob hb e => kp b ob (fun z => hb (by simp [z])) e, rfl, rfl, rfl, Nat.le_refl _⟩
 self := fun i s Q E st q => setit_self st.1 q
theorem pyIter_set {Q : Value → Shared → Prop} (ho : s.heap.get? a = some o) (hx : o.ExactSet) (hd : o.data = .set es ep t) (hf : t.fits es.size = true) (J : JT (!w.params.followText "set-order") t) (hz : es.size ≤ sizeLine)
  (hQ : ∀ (I : Addr) (xs : List Value) (h' : Heap) (d), xs.Perm (es.toList.map (·.2)) → s.heap.objs.size ≤ I → (∀ b ob, s.heap.get? b = some ob → h'.get? b = some ob) →
   (∀ B : Around, B.handled = none → SetWalks prog w B a I s.heap.objs.size es.size xs { s with heap := h', drawn := d }) → Q (.ref I) { s with heap := h', drawn := d }) : wpAny (model prog w) A (pyIter (.ref a)) Q E s := by
 have hT : s.TypeIs (.ref a) "set" := ⟨o, ho, hx.1⟩
 have hal : a < s.heap.objs.size := Heap.lt_size ho
 refine wpAny_pyIter_slot hT F.slot_set_iter (wpAny_call_entry F.slot_set_iter hT entry_set_iter' ?_ (F.args_set_iter_1 _))
 show wpAny _ _ (Builtin.Frozenset.sizeOf a >>= _) _ _ s
 refine wpAny_bind (wpAny_bind (setEntries_ ho hd hf (wpAny_pure ?_)))
 refine wpAny_bind (setDrawn_ ho hd hf ?_)
 by_cases c : (!w.params.followText "set-order" && (!t.plain && decide (es.size > 1))) = true
 ·rw [c]
  simp only [if_true]
  refine wpAny_bind (drawOrder_ es.size (List.range es.size) s (by simp) fun ps d pm => ?_)
  have hps : ps.length = es.size := by simpa using pm.length_eq
  simp only [newTuple]
  refine wpAny_bind (wpAny_newObj_type ?_ ?_)
  case refine_2 =>
   show (List.map (fun (i : Nat) => rawInt i) ps).toArray.size ≤ sizeLine
   rw [List.size_toArray, List.length_map, hps]
   exact hz
  have ho' : (s.heap.push { cls := .type "tuple", data := .seq (ps.map fun (i : Nat) => rawInt i).toArray }).get? a = some o := Heap.get?_push_of_some _ ho
  refine wpAny_bind (wpAny_setEpoch_of ho' hd hf ?_)
  refine wpAny_bind (wpAny_newObj_type ?_)
  have eI : (s.heap.push { cls := .type "tuple", data := .seq (ps.map fun (i : Nat) => rawInt i).toArray }).objs.size = s.heap.objs.size + 1 := Heap.size_push ..
  refine wpAny_pure ⟨_, rfl, "set_iterator", _, ⟨_, Heap.get?_push_size _ rfl, rfl⟩, slot_setit_next.lookup, ?_⟩
  refine hQ _ ((ps.map fun p => (es[p]?).map (·.2)).filterMap id) _ d ?_ (by rw [eI]; exact Nat.le_succ _) (fun b ob e => Heap.get?_push_of_some _ (Heap.get?_push_of_some _ e)) fun B hB => ?_
  ·refine ((pm.map _).filterMap _).trans ?_
   rw [List.filterMap_map]
   have : (List.range es.size).filterMap (id ∘ fun p => (es[p]?).map (·.2)) = ((List.range es.size).filterMap fun p => es[p]?).map (·.2) := by
    rw [List.map_filterMap]
    rfl
   rw [this, filterMap_getElem?_range]
  ·have key : ∀ (l : List Nat), (∀ p ∈ l, p < es.size) → ∀ (k p : Nat), l[k]? = some p → ∃ h0 x, es[p]? = some (h0, x) ∧ ((l.map fun p => (es[p]?).map (·.2)).filterMap id)[k]? = some x := by
    intro l
    induction l with
    | nil => intro _ k p e; simp at e
    | cons q r ih =>
     intro hl k p e
     have hq := hl q List.mem_cons_self
     have eq : es[q]? = some es[q] := Array.getElem?_eq_getElem hq
     have e2 : ((q :: r).map fun p => (es[p]?).map (·.2)).filterMap id = es[q].2 :: (r.map fun p => (es[p]?).map (·.2)).filterMap id := by
      rw [List.map_cons, eq]
      rfl
     rw [e2]
     cases k with
     | zero =>
      have : q = p := by simpa using e
      subst this
      exact ⟨es[q].1, es[q].2, eq, rfl⟩
     | succ k => exact ih (fun p hp => hl p (List.mem_cons_of_mem _ hp)) k p (by simpa using e)
   refine ⟨_, _, walks_drawn (o := o) (T := s.heap.objs.size) (ps := ps) hB (by rw [eI]; exact Nat.ne_of_lt (Nat.lt_succ_of_lt hal)) (by rw [eI]; exact Nat.ne_of_lt (Nat.lt_succ_self _)) hd hf rfl hps (key ps fun p hp => by simpa using pm.mem_iff.mp hp), ⟨Heap.get?_push_size _ rfl, Heap.get?_push_of_some _ ho', Heap.get?_push_of_some _ (Heap.get?_push_size _ rfl)⟩, fun b hb => ?_, by simp⟩
   simp only [List.mem_cons, List.not_mem_nil, or_false] at hb
   rw [Heap.size_push]
   rcases hb with rfl | rfl | rfl
   ·exact ⟨.inr (by rw [eI]; exact Nat.le_succ _), Nat.lt_succ_self _⟩
   ·exact ⟨.inl rfl, by rw [eI]; exact Nat.lt_succ_of_lt (Nat.lt_succ_of_lt hal)⟩
   ·exact ⟨.inr (Nat.le_refl _), by rw [eI]; exact Nat.lt_succ_of_lt (Nat.lt_succ_self _)⟩
 ·rw [Bool.eq_false_iff.mpr c]
  simp only [Bool.false_eq_true, if_false]
  refine wpAny_bind (wpAny_pure (wpAny_bind (wpAny_setEpoch_of ho hd hf ?_)))
  refine wpAny_bind (wpAny_newObj_type ?_)
  refine wpAny_pure ⟨_, rfl, "set_iterator", _, ⟨_, Heap.get?_push_size _ rfl, rfl⟩, slot_setit_next.lookup, ?_⟩
  have hne : a ≠ s.heap.objs.size := Nat.ne_of_lt hal
  have go : ∀ (slot : Nat → Nat) (xs : List Value), slot 0 = 0 → xs.Perm (es.toList.map (·.2)) → (∀ (k : Nat) (s : Shared) (B : Around) (Q' : Option (Value × Nat) → Shared → Prop) (E' : Value → Shared → Prop), k ≤ es.size → s.heap.get? a = some o → Q' ((xs[k]?).map fun x => (x, slot (k + 1))) s → wpAny (model prog w) B (setNext a (slot k) k ep) Q' E' s) →
    Q (.ref s.heap.objs.size) { s with heap := s.heap.push (setIt (rawInt 0) 0 a es.size ep) } := fun slot xs h0 pm step => by
   refine hQ _ xs _ s.drawn pm (Nat.le_refl _) (fun b ob e => Heap.get?_push_of_some _ e) fun B hB => ⟨_, _, walks_num (slot := slot) hB hne hd hf rfl (by simpa using pm.length_eq) step, ⟨?_, Heap.get?_push_of_some _ ho⟩, fun b hb => ?_, by simp⟩
   ·rw [h0]
    exact Heap.get?_push_size _ rfl
   ·simp only [List.mem_cons, List.not_mem_nil, or_false] at hb
    rw [Heap.size_push]
    rcases hb with rfl | rfl
    ·exact ⟨.inr (Nat.le_refl _), Nat.lt_succ_self _⟩
    ·exact ⟨.inl rfl, Nat.lt_succ_of_lt hal⟩
  cases ht : w.params.followText "set-order" with
  | true =>
   refine go (fun _ => 0) ((pickOrder (w.params.setOrder a ep) es).toList.map (·.2)) rfl ((pickOrder_perm _ es).map _) fun k s' B Q' E' hk ho' q => setNext_text ht ho' hd hf ?_
   have e : (((pickOrder (w.params.setOrder a ep) es).toList.map (·.2))[k]?).map (fun x => (x, 0)) = ((pickOrder (w.params.setOrder a ep) es)[k]?).map fun e => (e.2, 0) := by
    rw [List.getElem?_map, Array.getElem?_toList, Option.map_map]
    rfl
   rw [← e]
   exact q
  | false =>
   rw [ht] at c J
   have hpl : t.place.size = es.size := by
    simp only [SetTable.fits, Bool.and_eq_true, beq_iff_eq] at hf
    exact hf.1
   refine go (fun k => match k with | 0 => 0 | k + 1 => t.place.getD k 0 + 1) (es.toList.map (·.2)) rfl (List.Perm.refl _) fun k s' B Q' E' hk ho' q => setNext_plain ht ho' hd hf J (by simpa using c) ?_ ?_
   ·cases k with
    | zero => exact below_first J.mono
    | succ k =>
     have hk' : k < t.place.size := by lia
     have e : t.place.getD k 0 = t.place[k] := by simp [Array.getD, hk']
     show SetTable.below t.place (t.place.getD k 0 + 1) = k + 1
     rw [e]
     exact below_next J.mono k hk'
   ·rcases Nat.lt_or_eq_of_le hk with hlt | heq
    ·have hk' : k < t.place.size := by lia
     have e2 : t.place.getD k 0 = t.place[k] := by simp [Array.getD, hk']
     have e3 : (es.toList.map (·.2))[k]? = some es[k].2 := by simp [hlt]
     rw [e3] at q
     simp only [Array.getElem?_eq_getElem hlt, Array.getElem?_eq_getElem hk']
     rw [← e2]
     exact q
    ·have e3 : (es.toList.map (·.2))[k]? = none := by simp [heq]
     rw [e3] at q
     have e4 : es[k]? = none := by simp [heq]
     simp only [e4]
     exact q
end
end L2
namespace L2
open PySem PyProof.Rows
theorem len_of_set : typeLookup (.type "set") "__len__" = pure (some (.builtin "set.__len__")) := F.slot_set_len.lookup
theorem split_set_len : splitId "set.__len__" = some ("set", "__len__") := by kernel_rfl
section
variable {prog : Program} {w : World} {A : Around} {E : Value → Shared → Prop} {s : Shared} {a : Addr} {o : Obj} {es : Array (Int × Value)} {ep : Nat} {t : SetTable}
theorem hint_set {Q : Bool → Shared → Prop} (hT : s.TypeIs (.ref a) "set") (h : Q false s) : wpAny (model prog w) A (Builtin.List.listLengthHint (.ref a)) Q E s := by
 unfold Builtin.List.listLengthHint
 refine wpAny_bind (wpAny_specialOf hT len_of_set ?_)
 simp only [split_set_len]
 refine wpAny_bind (wpAny_isInstance hT sub_set_self ?_)
 simp only [Bool.not_true, Bool.false_eq_true, if_false]
 show wpAny _ _ (typeOf (.ref a) >>= _) _ _ s
 exact wpAny_bind (wpAny_typeOf hT (wpAny_pure h))
theorem collect_set {Q : List Value → Shared → Prop} (hh : A.handled = none) (ho : s.heap.get? a = some o) (hx : o.ExactSet) (hd : o.data = .set es ep t) (hf : t.fits es.size = true) (J : JT (!w.params.followText "set-order") t) (hz : es.size ≤ sizeLine)
  (hQ : ∀ (h' : Heap) (d) (tk : Nat) (xs : List Value), xs.Perm (es.toList.map (·.2)) → s.heap.objs.size < h'.objs.size → (∀ b ob, s.heap.get? b = some ob → h'.get? b = some ob) → Q xs { s with heap := h', drawn := d, toks := tk }) : wpAny (model prog w) A (collect (.ref a)) Q E s := by
 have hal : a < s.heap.objs.size := Heap.lt_size ho
 unfold collect
 refine wpAny_bind (wpAny_runValue (codeAny_builtin F.entry_proto_collect ?_))
 rw [Around.under_plainId F.plain_proto_collect _]
 show wpAny _ A.in1 (newList [] >>= fun l => again (.builtin "list.__iadd__" ⟨[l, .ref a], []⟩)) _ _ s
 refine wpAny_bind (wpAny_newObj_type ?_)
 refine wpAny_pure ⟨plainId_quiet F.plain_list_iadd _, codeAny_builtin F.entry_list_iadd ?_⟩
 rw [Around.under_plainId F.plain_list_iadd _]
 generalize hH1 : s.heap.push { cls := .type "list", data := .seq ([] : List Value).toArray } = H1
 have sz1 : H1.objs.size = s.heap.objs.size + 1 := by rw [← hH1]; exact Heap.size_push ..
 have old1 : ∀ b ob, s.heap.get? b = some ob → H1.get? b = some ob := fun b ob e => by rw [← hH1]; exact Heap.get?_push_of_some _ e
 have gS : H1.get? s.heap.objs.size = some { cls := .type "list", data := .seq ([] : List Value).toArray } := by rw [← hH1]; exact Heap.get?_push_size _ rfl
 show wpAny _ A.in1 (Builtin.List.listExtendWith (.ref s.heap.objs.size) (.ref a) (.ref s.heap.objs.size)) _ _ { s with heap := H1 }
 unfold Builtin.List.listExtendWith
 have ho1 := old1 a o ho
 refine wpAny_bind (wpAny_typeOf (T := "set") ⟨o, ho1, hx.1⟩ ?_)
 have h1 : Builtin.List.listSameRef (.ref s.heap.objs.size) (.ref a) = false := by simpa [Builtin.List.listSameRef] using Nat.ne_of_gt hal
 have h2 : (Value.type "set" == Value.type "list") = false := by decide
 have h3 : (Value.type "set" == Value.type "tuple") = false := by decide
 simp only [h1, h2, h3, Bool.or_false, Bool.false_eq_true, if_false]
 refine wpAny_bind (pyIter_set (s := { s with heap := H1 }) ho1 hx hd hf J hz fun I xs h' d pm hI old2 walks => ?_)
 refine wpAny_bind (wpAny_holding (hint_set ⟨o, old2 a o ho1, hx.1⟩ ?_))
 show wpAny _ A.in1 (rule "list.extend.makes-room" >>= fun _ => Builtin.List.listTouch (.ref s.heap.objs.size) >>= fun _ =>
  again (.builtin "list.extend.loop" ⟨[.ref s.heap.objs.size, .ref I, .ref s.heap.objs.size], []⟩)) _ _ _
 refine wpAny_bind (wpAny_rule (wpAny_bind ?_))
 have g2 := old2 _ _ gS
 show wpAny _ A.in1 (updateSeq s.heap.objs.size (·.push .none) >>= fun _ => updateSeq s.heap.objs.size (·.pop)) _ _ _
 refine wpAny_bind (wpAny_updateSeq g2 rfl ?_)
 have g3 := Heap.get?_update_self (Obj.mapSeq (·.push Value.none)) g2 rfl
 refine wpAny_updateSeq g3 rfl ?_
 have g4 := Heap.get?_update_self (Obj.mapSeq (·.pop)) g3 rfl
 have oth : ∀ b ob, b ≠ s.heap.objs.size → h'.get? b = some ob → ((h'.update s.heap.objs.size (Obj.mapSeq (·.push Value.none))).update s.heap.objs.size (Obj.mapSeq (·.pop))).get? b = some ob :=
  fun b ob hb e => (Heap.get?_update_other _ _ (Ne.symm hb)).trans ((Heap.get?_update_other _ _ (Ne.symm hb)).trans e)
 obtain ⟨fp, St, W, st, hfp, _⟩ := walks A.in1 hh
 have hSf : s.heap.objs.size ∉ fp := fun hm => by
  rcases (hfp _ hm).1 with e | e
  ·exact Nat.lt_irrefl _ (e ▸ hal)
  ·have e' : H1.objs.size ≤ s.heap.objs.size := e
   rw [sz1] at e'
   exact Nat.lt_irrefl _ e'
 refine wpAny_pure ⟨plainId_quiet F.plain_extend_loop _, codeAny_extend_loopS W hz _ hSf _ es.size 0 _ _ _ rfl (Nat.zero_le _)
  (W.frame 0 ({ s with heap := h', drawn := d } : Shared) _ s.toks st (Nat.le_refl _) fun b hb ob e => oth b ob (fun z => hSf (z ▸ hb)) e) g4 (ItemsOf.nil _) fun s' acc' c' hm hS' hacc => ?_⟩
 show wpAny _ A (load s.heap.objs.size >>= _) _ _ s'
 refine wpAny_bind (wpAny_load hS' (wpAny_pure ?_))
 have e1 : s'.gens = s.gens := hm.gens
 have e2 : s'.drawn = d := hm.drawn
 have e3 : s'.os = s.os := hm.os
 have es' : s' = { s with heap := s'.heap, drawn := d, toks := s'.toks } := by
  obtain ⟨h0, g0, d0, t0, o0⟩ := s'
  simp only at e1 e2 e3
  subst e1 e2 e3
  rfl
 have exs : acc'.toList = xs := by
  have hl : xs.length = es.size := by simpa using pm.length_eq
  apply List.ext_getElem
  ·rw [Array.length_toList, hacc.1, hl]
  ·intro i q1 q2
   have this : xs[i]? = some acc'[i] := hacc.2 i acc'[i] (by simp)
   rw [List.getElem?_eq_getElem q2] at this
   simpa using (Option.some.inj this).symm
 have big : s.heap.objs.size < s'.heap.objs.size := Heap.lt_size hS'
 rw [exs, es']
 refine hQ _ d _ xs pm big fun b ob e => ?_
 have hb : b ≠ s.heap.objs.size := Nat.ne_of_lt (Heap.lt_size e)
 refine hm.heap b ob ?_ (oth b ob hb (old2 b ob (old1 b ob e)))
 simp only [List.mem_cons, List.not_mem_nil, or_false, not_or]
 refine ⟨hb, fun z => ?_⟩
 have hI' : H1.objs.size ≤ I := hI
 rw [sz1, ← z] at hI'
 exact Nat.lt_irrefl _ (Nat.lt_of_lt_of_le (Nat.lt_succ_of_lt (Heap.lt_size e)) hI')
theorem ints_of_elems (h : ElemsOf (intKind prog w) es.toList) : ∃ ks : List Int, IntsAre (es.toList.map (·.2)) ks ∧ ∀ k, k ∈ ks ↔ ∃ e ∈ es.toList, (intKind prog w).is k e.2 = true := by
 have go : ∀ l : List (Int × Value), ElemsOf (intKind prog w) l → ∃ ks : List Int, IntsAre (l.map (·.2)) ks ∧ ∀ k, k ∈ ks ↔ ∃ e ∈ l, (intKind prog w).is k e.2 = true := by
  intro l
  induction l with
  | nil => intro _; exact ⟨[], .nil, by simp⟩
  | cons e r ih =>
   intro h
   obtain ⟨ks, h1, h2⟩ := ih h.tail
   obtain ⟨⟨k, hk, _⟩, _⟩ := h.head
   obtain ⟨tk, ek⟩ := Value.isInt_shape (k := k) (v := e.2) hk
   refine ⟨k :: ks, ?_, fun k' => ?_⟩
   ·rw [List.map_cons, ek]
    exact .cons k tk h1
   ·rw [List.mem_cons, h2 k']
    constructor
    ·rintro (rfl | ⟨e', he, q⟩)
     ·exact ⟨e, List.mem_cons_self, hk⟩
     ·exact ⟨e', List.mem_cons_of_mem _ he, q⟩
    ·rintro ⟨e', he, q⟩
     rcases List.mem_cons.mp he with rfl | he
     ·exact .inl ((intKind prog w).inj e'.2 k' k q hk)
     ·exact .inr ⟨e', he, q⟩
 exact go _ h
theorem IntsAre.perm {vs us : List Value} (p : us.Perm vs) : ∀ {ns : List Int}, IntsAre vs ns → ∃ ms, IntsAre us ms ∧ ms.Perm ns := by
 induction p with
 | nil => intro ns h; exact ⟨ns, h, List.Perm.refl _⟩
 | cons x _ ih =>
  intro ns h
  cases h with
  | cons n t h => obtain ⟨ms, h1, h2⟩ := ih h; exact ⟨n :: ms, .cons n t h1, h2.cons n⟩
 | swap x y l =>
  intro ns h
  cases h with
  | cons n t h => cases h with
   | cons m u h => exact ⟨_, .cons m u (.cons n t h), List.Perm.swap _ _ _⟩
 | trans _ _ ih1 ih2 =>
  intro ns h
  obtain ⟨ms, h1, h2⟩ := ih2 h
  obtain ⟨ls, h3, h4⟩ := ih1 h1
  exact ⟨ls, h3, h4.trans h2⟩
theorem sorted_set {S : Int → Bool} {n : Nat} {Q : Value → Shared → Prop} (hh : A.handled = none) (hS : SetX (intKind prog w) s.heap a S n) (h64 : n < 64)
  (h : ∀ (l : Addr) (h' : Heap) (d) (tk e : Nat) (out : Array Value) (ns : List Int), IntsAre out.toList ns → ns.Pairwise (· ≤ ·) → (∀ k, k ∈ ns ↔ S k = true) → ns.length = n → s.heap.objs.size ≤ l → (∀ b ob, s.heap.get? b = some ob → h'.get? b = some ob) →
   h'.get? l = some (seqObj "list" out e) → Q (.ref l) { s with heap := h', drawn := d, toks := tk }) : wpAny (model prog w) A (call (.builtin "sorted") [.ref a]) Q E s := by
 obtain ⟨o, es, ep, t, ho, hx, hd, ⟨el, mem, hb, hf, hn⟩, J⟩ := hS
 obtain ⟨ks, ik, mk⟩ := ints_of_elems el
 refine Calls.call_function_entry kind_sorted plain_sorted entry_sorted (args_sorted1 _) ?_
 unfold Builtin.«sorted»
 refine wpAny_bind (m := checkCount "sorted" 1 1 _) (wpAny_pure ?_)
 refine wpAny_bind (collect_set hh ho hx hd hf J (fits_of_scanBound hb) fun h1 d tk xs pm big old => ?_)
 obtain ⟨ms, im, pms⟩ := IntsAre.perm pm ik
 have hxl : xs.length = n := by rw [← hn]; simpa using pm.length_eq
 refine wpAny_bind (wpAny_newList ?_ (by rw [hxl]; exact Nat.le_trans (Nat.le_of_lt h64) (by decide)))
 have hoL : (h1.push (seqObj "list" xs.toArray 0)).get? h1.objs.size = some (seqObj "list" xs.toArray 0) := Heap.get?_push_size _ rfl
 show wpAny _ _ _ _ _ { s with heap := h1.push (seqObj "list" xs.toArray 0), drawn := d, toks := tk }
 refine wpAny_bind (wpAny_holding (wpAny_call_entry slot_list_sort ⟨_, hoL, rfl⟩ entry_list_sort (list_sort_tree hoL im (by lia) fun out ns a1 a2 a3 => ⟨_, rfl, ?_⟩) (args_list_sort _)))
 obtain ⟨e, he⟩ := sortedHeap_at (out := out) hoL
 refine wpAny_pure ⟨_, rfl, h h1.objs.size _ d tk e out ns a1 a3 (fun k => ?_) ?_ ?_ (fun b ob q => ?_) he⟩
 ·rw [a2.mem_iff, pms.mem_iff, mk k, mem k]
 ·rw [a2.length_eq, pms.length_eq, ← ik.length, List.length_map, Array.length_toList, hn]
 ·exact Nat.le_of_lt big
 ·have q1 := old b ob q
  have hlt := Heap.lt_size q1
  rw [sortedHeap_old (Nat.ne_of_lt hlt) (by rw [Heap.size_push]; exact Nat.lt_succ_of_lt hlt)]
  exact Heap.get?_push_of_some _ q1
end
end L2
namespace L2
open PySem PyProof.Rows
section
variable {prog : Program} {w : World} {A : Around} {R : Result → Shared → Prop} {I : Addr} {fp wr : List Addr} {G : Array GenState → Array GenState → Prop} {n : Nat} {P : Nat → Value → Prop} {St : Nat → Shared → Prop}
abbrev metSet (prog : Program) (w : World) (val : Nat → Int) (i : Nat) (h : Heap) (S : Addr) : Prop := SetX (intKind prog w) h S (fun k => (firstMet val i).any (· == k)) (firstMet val i).length
theorem updLoopX (W : WalksS prog w A.in1 I fp wr G n P St) (S : Addr) (hSf : S ∉ fp) (val : Nat → Int) (hval : ∀ i v, P i v → ∃ t, v = .int (val i) t) (hb : n + 1 < scanBound) :
  ∀ (k i : Nat) (s : Shared), n - i = k → i ≤ n → St i s → metSet prog w val i s.heap S → (∀ s', Moved (S :: wr) G s s' → metSet prog w val n s'.heap S → R (.ok (.ret .none)) s') →
   codeAny (model prog w) A (.builtin "set.update.loop" ⟨[.ref S, .ref I], []⟩) R s := by
 have hSw : S ∉ wr := fun z => hSf (W.sub _ z)
 have sub : ∀ b ∈ wr, b ∈ S :: wr := fun b q => List.mem_cons_of_mem _ q
 intro k
 induction k with
 | zero =>
  intro i s hk hi st x fin
  obtain rfl : i = n := by lia
  refine codeAny_builtin PyProof.Rows.F.entry_set_update_loop ?_
  rw [Around.under_plainId PyProof.Rows.F.plain_set_update_loop _]
  show wpAny _ A.in1 (pyNext (.ref I) >>= _) _ _ s
  refine wpAny_bind (W.done s _ _ st fun s' m => ?_)
  show wpAny _ A.in1 (ret Value.none) _ _ s'
  exact wpAny_pure (fin s' (m.mono sub) (x.of_get fun o e => m.heap S _ hSw e))
 | succ k ih =>
  intro i s hk hi st x fin
  have lt : i < n := by lia
  refine codeAny_builtin PyProof.Rows.F.entry_set_update_loop ?_
  rw [Around.under_plainId PyProof.Rows.F.plain_set_update_loop _]
  show wpAny _ A.in1 (pyNext (.ref I) >>= _) _ _ s
  refine wpAny_bind (W.item i s _ _ lt st fun v s' pv st' m => ?_)
  obtain ⟨t, rfl⟩ := hval i v pv
  have x' : metSet prog w val i s'.heap S := x.of_get fun o e => m.heap S _ hSw e
  show wpAny _ A.in1 (holding [Value.int (val i) t] (setAdd S (.int (val i) t)) >>= _) _ _ s'
  refine wpAny_bind (wpAny_holding ?_)
  unfold setAdd
  refine wpAny_holding (wpAny_bind ((intKind prog w).pyHash (k := val i) (intKind_is _ _ _ _) ?_))
  have room : (firstMet val i).length + 1 < scanBound := by have := firstMet_length_le val i; lia
  refine addX (knd := intKind prog w) (s := { s' with toks := s'.toks + 1 }) (intKind_is _ _ _ _) rfl x' room fun h' sb x2 => ?_
  have x3 : metSet prog w val (i + 1) h' S := x2.congr (fun k' => by rw [firstMet_succ, step_any]) (by rw [firstMet_succ, step_length])
  refine wpAny_pure ⟨plainId_quiet PyProof.Rows.F.plain_set_update_loop _, ih (i + 1) _ (by lia) lt (W.frame _ s' _ _ st' (Nat.le_succ _) fun b hb o e => ?_) x3 fun s'' m2 x4 => ?_⟩
  ·rw [sb.2 b (fun z : b = S => hSf (z ▸ hb))]; exact e
  ·refine fin s'' (Moved.trans W.gtrans ((m.mono sub).then_heap (Nat.le_succ _) fun b o hb e => ?_) m2) x4
   rw [sb.2 b (fun z : b = S => hb (z ▸ List.mem_cons_self))]; exact e
end
section
variable {prog : Program} {w : World} {A : Around} {E : Value → Shared → Prop} {s : Shared}
abbrev noSet (w : World) : Obj := { cls := .type "set", dict := none, data := .set #[] 0 (.fresh 0 0 (!w.params.followText "set-order")) }
theorem set_new_led (a : Value) {Q : Value → Shared → Prop} (h : Q (.ref s.heap.objs.size) { s with heap := s.heap.push (noSet w) }) :
  codeAny (model prog w) A (.call (.builtin "set.__new__") ⟨[.type "set", a], []⟩) (wants Q E) s := by
 refine codeAny_of_tree ?_
 show wpAny _ A.in1 (do checkBuiltinCall "set.__new__" ⟨[.type "set", a], []⟩; again (.builtin "set.__new__" ⟨[.type "set", a], []⟩)) _ _ s
 refine wpAny_bind (wpAny_of_eq (PySem.F.newCall_set_1 a) (wpAny_pure ⟨plainId_quiet PySem.F.plain_set_new _, codeAny_builtin PySem.F.entry_set_new ?_⟩))
 rw [Around.under_plainId PySem.F.plain_set_new _]
 unfold Builtin.«set.__new__» Builtin.Frozenset.newClass
 have hsub := sub_set_self
 obtain ⟨hp, g, d, tk, os⟩ := s
 dsimp only
 wp_walk
 refine wpAny_askSetting (wpAny_pure ?_)
 dsimp only
 simp only [newObj]
 exact wpAny_bind (wpAny_alloc (wpAny_pure (wpAny_pure h)))
set_option maxHeartbeats 3200000 in
theorem set_of_list {l : Addr} {items : Array Value} {ns : List Int} {Q : Value → Shared → Prop} (hh : A.handled = none) (hl : s.heap.IsList l items) (hi : IntsAre items.toList ns) (hb : items.size + 1 < scanBound)
  (h : ∀ (h' : Heap) (tk : Nat), metSet prog w (fun i => ns.getD i 0) items.size h' s.heap.objs.size → (∀ b o, b < s.heap.objs.size → s.heap.get? b = some o → h'.get? b = some o) → Q (.ref s.heap.objs.size) { s with heap := h', toks := tk }) :
  wpAny (model prog w) A (call (.type "set") [.ref l]) Q E s := by
 obtain ⟨c, tl, hmro⟩ := PySem.F.called_set.mro
 have hmade := PySem.F.called_set.made
 have hsub := PySem.F.called_set.sub
 refine wpAny_call (codeAny_of_tree ?_)
 show wpAny _ _ (callAny (.type "set") _) _ _ _
 refine wpAny_pure ⟨Code.quiet_builtin _ (by decide +kernel), codeAny_builtin PySem.F.entry_type_call ?_⟩
 rw [Around.under_plain (weight_type_call_type "set" [.ref l] []) rfl]
 have h1 := PySem.F.called_set.notType
 have h2 := PySem.F.called_set.canCreate
 have hct := PySem.F.typeCall_set_1 (.ref l)
 repeat (any_goals (first | assumption | wp_step))
 refine codeAny_mono (set_new_led (.ref l) (E := E) (Q := fun obj s₁ => obj = .ref s.heap.objs.size ∧ s₁ = { s with heap := s.heap.push (noSet w) }) ⟨rfl, rfl⟩) fun r s₁ hr => ?_
 cases r with
 | error e => exact hr
 | ok fl =>
  cases fl with
  | ret obj =>
   obtain ⟨rfl, rfl⟩ := hr
   have hS : (s.heap.push (noSet w)).get? s.heap.objs.size = some (noSet w) := Heap.get?_push_size _ rfl
   have hT : Shared.TypeIs { s with heap := s.heap.push (noSet w) } (.ref s.heap.objs.size) "set" := ⟨_, hS, rfl⟩
   have hli := PySem.F.called_set.init.lookup
   have hbi := PySem.F.called_set.init.bind (.ref s.heap.objs.size)
   repeat (any_goals (first | assumption | wp_step))
   refine codeAny_mono (codeAny_call_builtin (R := wants (fun r s₂ => r = .none ∧ ∃ h' tk, s₂ = { s with heap := h', toks := tk } ∧ metSet prog w (fun i => ns.getD i 0) items.size h' s.heap.objs.size ∧
     (∀ b o, b < s.heap.objs.size → s.heap.get? b = some o → h'.get? b = some o)) E) PySem.F.called_set.init.plain PySem.F.entry_set_init (check_set_init_1 hT ?_)) fun r₂ s₂ hr₂ => ?_
   ·obtain ⟨ol, hol, hcl, nl, hdl⟩ := id hl
    have hol' : (s.heap.push (noSet w)).get? l = some ol := Heap.get?_push_of_some _ hol
    have hTl : Shared.TypeIs { s with heap := s.heap.push (noSet w) } (.ref l) "list" := ⟨ol, hol', hcl⟩
    have hsls := PySem.F.sub_list_set
    have hslf := PySem.F.sub_list_frozenset
    have hne : (Value.type "list" == Value.type "dict") = false := by decide
    have hl1 : (s.heap.push (noSet w)).IsList l items := ⟨_, hol', hcl, nl, hdl⟩
    unfold Builtin.«set.__init__» noKeywords Builtin.Frozenset.updateFrom
    generalize hPI : pyIter = PI
    wp_walk
    subst hPI
    refine wpAny_pyIter_list hl1 (wpAny_bind (wpAny_runValue ?_))
    have hlS : l < s.heap.objs.size := Heap.lt_size hol
    have hneI : l ≠ (s.heap.push (noSet w)).objs.size := by rw [Heap.size_push]; exact Nat.ne_of_lt (Nat.lt_succ_of_lt hlS)
    have hSf : s.heap.objs.size ∉ [(s.heap.push (noSet w)).objs.size, l] := by
     rw [Heap.size_push]
     simp only [List.mem_cons, List.not_mem_nil, or_false, not_or]
     exact ⟨Nat.ne_of_lt (Nat.lt_succ_self _), Nat.ne_of_gt hlS⟩
    refine updLoopX ((Walks.list (by simpa using hh) _ l hneI items).toS) s.heap.objs.size hSf (fun i => ns.getD i 0) (fun i v hv => PyProof.Rows.IntsAre.int_at hi i v (by rw [Array.getElem?_toList]; exact hv)) hb (items.size - 0) 0 _ (by lia) (Nat.zero_le _)
     ⟨⟨_, Heap.get?_push_size _ rfl, rfl, rfl⟩, (hl1.push _)⟩ ?hS0 ?hR
    case hS0 =>
     exact ((SetX.new (knd := intKind prog w) s.heap rfl).congr (fun _ => rfl) rfl).of_get fun o e => Heap.get?_push_of_some _ e
    case hR =>
     intro s' m x
     obtain ⟨h', g', d', tk', os'⟩ := s'
     have eg : g' = s.gens := m.gens
     have ed : d' = s.drawn := m.drawn
     have eo : os' = s.os := m.os
     subst eg ed eo
     show wpAny _ _ _ _ _ _
     refine wpAny_pure ?_
     show wpAny _ _ (ret Value.none) _ _ _
     refine wpAny_pure ⟨rfl, h', tk', rfl, x, fun b o q e => ?_⟩
     refine m.heap b o ?_ (Heap.get?_push_of_some _ (Heap.get?_push_of_some _ e))
     simp only [List.mem_cons, List.not_mem_nil, or_false, not_or]
     refine ⟨Nat.ne_of_lt q, ?_⟩
     rw [Heap.size_push]
     exact Nat.ne_of_lt (Nat.lt_succ_of_lt q)
   ·cases r₂ with
    | error e => exact hr₂
    | ok fl₂ =>
     cases fl₂ with
     | ret r =>
      obtain ⟨rfl, h', tk, rfl, x, kp⟩ := hr₂
      repeat (any_goals (first | assumption | wp_step))
      exact h _ _ x kp
     | _ => exact hr₂.elim
  | _ => exact hr.elim
end
end L2
namespace L2
open PySem PySem.W PyProof.Rows
def ev {α : Type} (lt : Nat → Nat → Bool) : KasT α → α
 | .ret a => a
 | .ask i j k => ev lt (k (lt i j))
theorem ev_bind {α β : Type} (lt : Nat → Nat → Bool) (f : α → KasT β) : ∀ t : KasT α, ev lt (t.bind f) = ev lt (f (ev lt t))
 | .ret _ => rfl
 | .ask i j k => ev_bind lt f (k (lt i j))
section
variable {r : Nat → Int}
abbrev ltR (r : Nat → Int) : Nat → Nat → Bool := fun i j => decide (r i < r j)
abbrev ky (r : Nat → Int) (p : Array Nat) (k : Nat) : Int := r (p.getD k 0)
theorem ev_ask {α : Type} (lt : Nat → Nat → Bool) (i j : Nat) (k : Bool → KasT α) : ev lt (.ask i j k) = ev lt (k (lt i j)) := rfl
theorem ltR_t {i j : Nat} (c : r i < r j) : ltR r i j = true := decide_eq_true c
theorem ltR_f {i j : Nat} (c : ¬ r i < r j) : ltR r i j = false := decide_eq_false c
def Up (r : Nat → Int) (p : Array Nat) (b : Nat) : Prop := ∀ i, 0 < i → i < b → ky r p (i - 1) ≤ ky r p i
def Dn (r : Nat → Int) (p : Array Nat) (b : Nat) : Prop := ∀ i, 0 < i → i < b → ky r p i ≤ ky r p (i - 1)
def Eqs (r : Nat → Int) (p : Array Nat) (a b : Nat) : Prop := ∀ i, a < i → i < b → ky r p i = ky r p (i - 1)
theorem Up.mono {p : Array Nat} {b : Nat} (h : Up r p b) : ∀ i j, i ≤ j → j < b → ky r p i ≤ ky r p j := by
  intro i j hij hj
  induction j with
  | zero =>
    have : i = 0 := by lia
    subst this; exact Int.le_refl _
  | succ j ih =>
    rcases Nat.lt_or_eq_of_le hij with q | q
    · exact Int.le_trans (ih (by lia) (by lia)) (h (j + 1) (by lia) hj)
    · rw [q]; exact Int.le_refl _
theorem Dn.mono {p : Array Nat} {b : Nat} (h : Dn r p b) : ∀ i j, i ≤ j → j < b → ky r p j ≤ ky r p i := by
  intro i j hij hj
  induction j with
  | zero =>
    have : i = 0 := by lia
    subst this; exact Int.le_refl _
  | succ j ih =>
    rcases Nat.lt_or_eq_of_le hij with q | q
    · exact Int.le_trans (h (j + 1) (by lia) hj) (ih (by lia) (by lia))
    · rw [q]; exact Int.le_refl _
theorem Eqs.all {p : Array Nat} {a b : Nat} (h : Eqs r p a b) : ∀ i, a ≤ i → i < b → ky r p i = ky r p a := by
  intro i hi hb
  induction i with
  | zero =>
    have : a = 0 := by lia
    subst this; rfl
  | succ i ih =>
    rcases Nat.lt_or_eq_of_le hi with q | q
    · rw [h (i + 1) q hb]; exact ih (by lia) (by lia)
    · rw [q]
theorem getD_rev {p : Array Nat} {i j : Nat} (hj : j ≤ p.size) (k : Nat) : (kas_rev p i j).getD k 0 = if i ≤ k ∧ k < j then p.getD (i + j - 1 - k) 0 else p.getD k 0 := by
 unfold kas_rev
 have e := getElem?_mirror (xs := p) (i := i) hj ((j - i) / 2) (by lia) k
 rw [Array.getD_eq_getD_getElem?, e]
 by_cases c : i ≤ k ∧ k < j
 ·rw [if_pos c]
  by_cases d : i ≤ k ∧ k < i + (j - i) / 2 ∨ j - (j - i) / 2 ≤ k ∧ k < j
  ·rw [if_pos d, Array.getD_eq_getD_getElem?]
  ·rw [if_neg d]
   have : i + j - 1 - k = k := by lia
   rw [this, Array.getD_eq_getD_getElem?]
 ·rw [if_neg c, if_neg (by lia), Array.getD_eq_getD_getElem?]
theorem rev_eqs {p : Array Nat} {i j : Nat} (hj : j ≤ p.size) (h : Eqs r p i j) (k : Nat) : ky r (kas_rev p i j) k = ky r p k := by
 show r _ = r _
 rw [getD_rev hj]
 by_cases c : i ≤ k ∧ k < j
 ·rw [if_pos c]
  have e1 : ky r p (i + j - 1 - k) = ky r p i := h.all _ (by lia) (by lia)
  have e2 : ky r p k = ky r p i := h.all _ c.1 c.2
  exact e1.trans e2.symm
 ·rw [if_neg c]
theorem rev_size (p : Array Nat) (i j : Nat) : (kas_rev p i j).size = p.size := mirror_size _ _ _ _
theorem rev_perm (p : Array Nat) (i j : Nat) : (kas_rev p i j).Perm p := mirror_perm _ _ _ _
theorem ev_asc (p : Array Nat) : ∀ f n, 1 ≤ n → Up r p n → n ≤ ev (ltR r) (kas_asc p f n) ∧ ev (ltR r) (kas_asc p f n) ≤ n + f ∧ Up r p (ev (ltR r) (kas_asc p f n)) ∧
  (ev (ltR r) (kas_asc p f n) < n + f → ky r p (ev (ltR r) (kas_asc p f n)) < ky r p (ev (ltR r) (kas_asc p f n) - 1)) := by
 intro f
 induction f with
 | zero => intro n h1 h; exact ⟨Nat.le_refl _, Nat.le_refl _, h, fun q => absurd q (Nat.lt_irrefl _)⟩
 | succ f ih =>
  intro n h1 h
  unfold kas_asc
  rw [ev_ask]
  by_cases c : r (p.getD n 0) < r (p.getD (n - 1) 0)
  ·rw [ltR_t c, if_pos rfl]
   exact ⟨Nat.le_refl _, by show n ≤ n + (f + 1); lia, h, fun _ => c⟩
  ·rw [ltR_f c, if_neg (by simp)]
   obtain ⟨q1, q2, q3, q4⟩ := ih (n + 1) (by lia) (fun i hi hb => by
    rcases Nat.lt_or_eq_of_le (Nat.le_of_lt_succ hb) with z | z
    ·exact h i hi z
    ·subst z; exact Int.not_lt.mp c)
   exact ⟨by lia, by lia, q3, fun z => q4 (by lia)⟩
theorem ev_desc : ∀ (f : Nat) (p : Array Nat) (n q : Nat), q < n → n + f ≤ p.size → Dn r p n → Eqs r p (n - (q + 1)) n →
  ∃ p' n' q', ev (ltR r) (kas_desc f p n q) = (p', n', q') ∧ q' < n' ∧ n ≤ n' ∧ n' ≤ n + f ∧ p'.size = p.size ∧ p'.Perm p ∧ Dn r p' n' ∧ Eqs r p' (n' - (q' + 1)) n' := by
 intro f
 induction f with
 | zero => intro p n q hq hz hd he; exact ⟨p, n, q, rfl, hq, Nat.le_refl _, Nat.le_refl _, rfl, Array.Perm.refl _, hd, he⟩
 | succ f ih =>
  intro p n q hq hz hd he
  unfold kas_desc
  rw [ev_ask]
  by_cases c : r (p.getD n 0) < r (p.getD (n - 1) 0)
  ·rw [ltR_t c, if_pos rfl]
   have step : ∀ p1 : Array Nat, p1.size = p.size → p1.Perm p → (∀ k, ky r p1 k = ky r p k) → ∃ p' n' q', ev (ltR r) (kas_desc f p1 (n + 1) 0) = (p', n', q') ∧ q' < n' ∧ n ≤ n' ∧ n' ≤ n + (f + 1) ∧ p'.size = p.size ∧ p'.Perm p ∧ Dn r p' n' ∧ Eqs r p' (n' - (q' + 1)) n' := fun p1 s1 pm hk => by
    obtain ⟨p', n', q', e, a1, a2, a3, a4, a5, a6, a7⟩ := ih p1 (n + 1) 0 (by lia) (by lia) (fun i hi hb => by
     rw [hk, hk]
     rcases Nat.lt_or_eq_of_le (Nat.le_of_lt_succ hb) with z | z
     ·exact hd i hi z
     ·subst z; exact Int.le_of_lt c) (fun i hi hb => by lia)
    exact ⟨p', n', q', e, a1, by lia, by lia, a4.trans s1, a5.trans pm, a6, a7⟩
   by_cases cq : q > 0
   ·rw [if_pos cq]
    exact step _ (rev_size _ _ _) (rev_perm _ _ _) (rev_eqs (by lia) he)
   ·rw [if_neg cq]
    exact step p rfl (Array.Perm.refl _) fun _ => rfl
  ·rw [ltR_f c, if_neg (by simp)]
   rw [ev_ask]
   by_cases d : r (p.getD (n - 1) 0) < r (p.getD n 0)
   ·rw [ltR_t d, if_pos rfl]
    exact ⟨p, n, q, rfl, hq, Nat.le_refl _, by lia, rfl, Array.Perm.refl _, hd, he⟩
   ·rw [ltR_f d, if_neg (by simp)]
    have eqn : ky r p n = ky r p (n - 1) := Int.le_antisymm (Int.not_lt.mp d) (Int.not_lt.mp c)
    obtain ⟨p', n', q', e, a1, a2, a3, a4, a5, a6, a7⟩ := ih p (n + 1) (q + 1) (by lia) (by lia) (fun i hi hb => by
     rcases Nat.lt_or_eq_of_le (Nat.le_of_lt_succ hb) with z | z
     ·exact hd i hi z
     ·subst z; exact Int.le_of_eq eqn) (fun i hi hb => by
     rcases Nat.lt_or_eq_of_le (Nat.le_of_lt_succ hb) with z | z
     ·exact he i (by lia) z
     ·subst z; exact eqn)
    exact ⟨p', n', q', e, a1, by lia, by lia, a4, a5, a6, a7⟩
def Run (r : Nat → Int) (p : Array Nat) (nrem : Nat) (x : Nat × Array Nat) : Prop := x.1 ≤ nrem ∧ 1 ≤ x.1 ∧ x.2.size = p.size ∧ x.2.Perm p ∧ Up r x.2 x.1
theorem ev_tail3 {p : Array Nat} {n nrem : Nat} (h1 : 1 ≤ n) (hn : n ≤ nrem) (hz : nrem ≤ p.size) (hd : Dn r p n) : Run r p nrem (ev (ltR r) (kas_tail3 n nrem p)) := by
 unfold kas_tail3
 rw [ev_bind]
 have hu : Up r (kas_rev p 0 n) n := fun i hi hb => by
  show r _ ≤ r _
  rw [getD_rev (by lia), getD_rev (by lia), if_pos (by lia), if_pos (by lia)]
  exact hd.mono (0 + n - 1 - i) (0 + n - 1 - (i - 1)) (by lia) (by lia)
 obtain ⟨a1, a2, a3, _⟩ := ev_asc (kas_rev p 0 n) (nrem - n) n h1 hu
 exact ⟨by show ev (ltR r) _ ≤ _; lia, by show 1 ≤ ev (ltR r) _; lia, rev_size _ _ _, rev_perm _ _ _, a3⟩
theorem Run.of {p p1 : Array Nat} {nrem : Nat} {x : Nat × Array Nat} (h : Run r p1 nrem x) (s : p1.size = p.size) (m : p1.Perm p) : Run r p nrem x := ⟨h.1, h.2.1, h.2.2.1.trans s, h.2.2.2.1.trans m, h.2.2.2.2⟩
theorem ev_descPart {p : Array Nat} {n nrem : Nat} (hn : n + 1 ≤ nrem) (hz : nrem ≤ p.size) (hd : Dn r p (n + 1)) : Run r p nrem (ev (ltR r) (kas_descPart n nrem p)) := by
 unfold kas_descPart
 rw [ev_bind]
 obtain ⟨p', n', q', e, a1, a2, a3, a4, a5, a6, a7⟩ := ev_desc (nrem - (n + 1)) p (n + 1) 0 (by lia) (by lia) hd (fun i hi hb => by lia)
 rw [e]
 dsimp only
 by_cases c : q' > 0
 ·rw [if_pos c]
  have k := rev_eqs (r := r) (by lia) a7
  exact (ev_tail3 (p := kas_rev p' (n' - (q' + 1)) n') (by lia) (by lia) (by rw [rev_size]; lia) (fun i hi hb => by rw [k, k]; exact a6 i hi hb)).of ((rev_size _ _ _).trans a4) ((rev_perm _ _ _).trans a5)
 ·rw [if_neg c]
  exact (ev_tail3 (p := p') (by lia) (by lia) (by lia) a6).of a4 a5
theorem ev_count {p : Array Nat} {nrem : Nat} (h1 : 1 ≤ nrem) (hz : nrem ≤ p.size) : Run r p nrem (ev (ltR r) (kas_count nrem p)) := by
 unfold kas_count
 rw [ev_bind]
 obtain ⟨a1, a2, a3, a4⟩ := ev_asc (r := r) p (nrem - 1) 1 (Nat.le_refl _) (fun i hi hb => by lia)
 generalize ev (ltR r) (kas_asc p (nrem - 1) 1) = n at *
 by_cases c : (n == nrem) = true
 ·rw [if_pos c]
  exact ⟨by show n ≤ nrem; lia, a1, rfl, Array.Perm.refl _, a3⟩
 ·rw [if_neg c]
  have hne : n ≠ nrem := by simpa using c
  have stop := a4 (by lia)
  by_cases c2 : n > 1
  ·rw [if_pos c2]
   rw [ev_ask]
   by_cases d : r (p.getD 0 0) < r (p.getD (n - 1) 0)
   ·rw [ltR_t d, if_pos rfl]
    exact ⟨by show n ≤ nrem; lia, a1, rfl, Array.Perm.refl _, a3⟩
   ·rw [ltR_f d, if_neg (by simp)]
    have eqs : Eqs r p 0 n := fun i hi hb => by
     have q1 := a3.mono 0 (i - 1) (by lia) (by lia)
     have q2 := a3.mono (i - 1) i (by lia) hb
     have q3 := a3.mono i (n - 1) (by lia) (by lia)
     have q4 : ky r p (n - 1) ≤ ky r p 0 := Int.not_lt.mp d
     lia
    have k := rev_eqs (r := r) (by lia) eqs
    refine (ev_descPart (p := kas_rev p 0 n) (by lia) (by rw [rev_size]; exact hz) (fun i hi hb => ?_)).of (rev_size _ _ _) (rev_perm _ _ _)
    rw [k, k]
    rcases Nat.lt_or_eq_of_le (Nat.le_of_lt_succ hb) with z | z
    ·exact Int.le_of_eq (eqs i hi z)
    ·subst z; exact Int.le_of_lt stop
  ·rw [if_neg c2]
   obtain rfl : n = 1 := by lia
   exact ev_descPart (by lia) hz (fun i hi hb => by
    obtain rfl : i = 1 := by lia
    exact Int.le_of_lt stop)
theorem ev_place {p : Array Nat} {k : Nat} (hu : Up r p k) : ∀ f l m, m - l ≤ f → l ≤ m → m ≤ k → (∀ i, i < l → ky r p i ≤ ky r p k) → (∀ i, m ≤ i → i < k → ky r p k < ky r p i) →
  ev (ltR r) (kas_place p k f l m) ≤ k ∧ (∀ i, i < ev (ltR r) (kas_place p k f l m) → ky r p i ≤ ky r p k) ∧ ∀ i, ev (ltR r) (kas_place p k f l m) ≤ i → i < k → ky r p k < ky r p i := by
 intro f
 induction f with
 | zero =>
  intro l m h1 h2 h3 h4 h5
  obtain rfl : l = m := by lia
  exact ⟨h3, h4, h5⟩
 | succ f ih =>
  intro l m h1 h2 h3 h4 h5
  unfold kas_place
  by_cases c : l ≥ m
  ·rw [if_pos c]
   obtain rfl : l = m := by lia
   exact ⟨h3, h4, h5⟩
  ·rw [if_neg c]
   rw [ev_ask]
   by_cases d : r (p.getD k 0) < r (p.getD ((l + m) / 2) 0)
   ·rw [ltR_t d, if_pos rfl]
    refine ih l ((l + m) / 2) (by lia) (by lia) (by lia) h4 (fun i hi hb => ?_)
    exact Int.lt_of_lt_of_le d (hu.mono _ i hi hb)
   ·rw [ltR_f d, if_neg (by simp)]
    refine ih ((l + m) / 2 + 1) m (by lia) (by lia) h3 (fun i hi => ?_) h5
    exact Int.le_trans (hu.mono i ((l + m) / 2) (by lia) (by lia)) (Int.not_lt.mp d)
theorem getD_bubble {p : Array Nat} {k l : Nat} (hk : k < p.size) (hl : l ≤ k) (i : Nat) : (bubble p k (k - l)).getD i 0 = if i = l then p.getD k 0 else if l < i ∧ i ≤ k then p.getD (i - 1) 0 else p.getD i 0 := by
 have e := getElem?_bubble hk (k - l) (by lia) i
 rw [show k - (k - l) = l by lia] at e
 rw [Array.getD_eq_getD_getElem?, e]
 by_cases c1 : i = l
 ·rw [if_pos c1, if_pos c1, Array.getD_eq_getD_getElem?]
 ·rw [if_neg c1, if_neg c1]
  by_cases c2 : l < i ∧ i ≤ k
  ·rw [if_pos c2, if_pos c2, Array.getD_eq_getD_getElem?]
  ·rw [if_neg c2, if_neg c2, Array.getD_eq_getD_getElem?]
theorem ev_bin : ∀ (f : Nat) (p : Array Nat) (k : Nat), k + f ≤ p.size → Up r p k → (ev (ltR r) (kas_bin f p k)).Perm p ∧ Up r (ev (ltR r) (kas_bin f p k)) (k + f) := by
 intro f
 induction f with
 | zero => intro p k hz hu; exact ⟨Array.Perm.refl _, hu⟩
 | succ f ih =>
  intro p k hz hu
  unfold kas_bin
  rw [ev_bind]
  obtain ⟨b1, b2, b3⟩ := ev_place hu k 0 k (by lia) (by lia) (Nat.le_refl _) (fun i hi => absurd hi (by lia)) (fun i hi hb => absurd hb (by lia))
  generalize ev (ltR r) (kas_place p k k 0 k) = l at *
  have hk : k < p.size := by lia
  obtain ⟨c1, c2⟩ := ih (bubble p k (k - l)) (k + 1) (by rw [bubble_size]; lia) (fun i hi hb => by
   show r _ ≤ r _
   rw [getD_bubble hk b1, getD_bubble hk b1]
   by_cases e1 : i - 1 = l
   ·rw [if_pos e1, if_neg (show ¬ i = l by lia), if_pos (by lia)]
    have := b3 (i - 1) (by lia) (by lia)
    exact Int.le_of_lt this
   ·rw [if_neg e1]
    by_cases e2 : i = l
    ·rw [if_pos e2, if_neg (by lia)]
     exact b2 (i - 1) (by lia)
    ·rw [if_neg e2]
     by_cases e3 : l < i
     ·rw [if_pos (by lia), if_pos (by lia)]
      exact hu (i - 1) (by lia) (by lia)
     ·rw [if_neg (by lia), if_neg (by lia)]
      exact hu i hi (by lia))
  exact ⟨c1.trans (bubble_perm _ _ _), by rw [show k + (f + 1) = k + 1 + f by lia]; exact c2⟩
theorem ev_sort {n : Nat} (hn : 1 ≤ n) : (ev (ltR r) (kas_sort n)).Perm (List.range n).toArray ∧ Up r (ev (ltR r) (kas_sort n)) n := by
 unfold kas_sort
 rw [ev_bind]
 obtain ⟨h1, h2, h3, h4, h5⟩ := ev_count (r := r) (p := (List.range n).toArray) (nrem := n) hn (by simp)
 generalize ev (ltR r) (kas_count n (List.range n).toArray) = x at *
 have hs : x.2.size = n := by rw [h3]; simp
 by_cases c : x.1 < n
 ·rw [if_pos c]
  have hm : max x.1 1 = x.1 := by lia
  rw [hm]
  obtain ⟨c1, c2⟩ := ev_bin (r := r) (n - x.1) x.2 x.1 (by lia) h5
  rw [show x.1 + (n - x.1) = n by lia] at c2
  exact ⟨c1.trans h4, c2⟩
 ·rw [if_neg c]
  have : x.1 = n := by lia
  rw [this] at h5
  exact ⟨h4, h5⟩
def Asks {α : Type} (lt : Nat → Nat → Bool) (n : Nat) : KasT α → Prop
 | .ret _ => True
 | .ask i j k => i < n ∧ j < n ∧ Asks lt n (k (lt i j))
theorem Asks.bind {α β : Type} {lt : Nat → Nat → Bool} {n : Nat} {f : α → KasT β} : ∀ {t : KasT α}, Asks lt n t → Asks lt n (f (ev lt t)) → Asks lt n (t.bind f)
 | .ret _, _, h => h
 | .ask i j k, h, h' => ⟨h.1, h.2.1, Asks.bind (t := k (lt i j)) h.2.2 h'⟩
def InN (n : Nat) (p : Array Nat) : Prop := 0 < n ∧ ∀ x ∈ p.toList, x < n
theorem InN.at {n : Nat} {p : Array Nat} (h : InN n p) (k : Nat) : p.getD k 0 < n := by
 rw [Array.getD_eq_getD_getElem?]
 cases e : p[k]? with
 | none => exact h.1
 | some x => exact h.2 x (by rw [Array.mem_toList_iff]; exact Array.mem_of_getElem? e)
theorem InN.perm {n : Nat} {p p' : Array Nat} (h : InN n p) (m : p'.Perm p) : InN n p' := ⟨h.1, fun x hx => h.2 x (by
 rw [Array.mem_toList_iff] at hx ⊢
 exact (Array.Perm.mem_iff m).mp hx)⟩
variable {n₀ : Nat}
theorem asks_asc {p : Array Nat} (h : InN n₀ p) : ∀ f n, Asks (ltR r) n₀ (kas_asc p f n)
 | 0, _ => True.intro
 | f + 1, n => by
  unfold kas_asc
  refine ⟨h.at _, h.at _, ?_⟩
  dsimp only
  split
  ·exact True.intro
  ·exact asks_asc h f (n + 1)
theorem asks_desc : ∀ (f : Nat) {p : Array Nat} (n q : Nat), InN n₀ p → Asks (ltR r) n₀ (kas_desc f p n q)
 | 0, _, _, _, _ => True.intro
 | f + 1, p, n, q, h => by
  unfold kas_desc
  refine ⟨h.at _, h.at _, ?_⟩
  dsimp only
  split
  ·split
   ·exact asks_desc f _ _ (h.perm (rev_perm _ _ _))
   ·exact asks_desc f _ _ h
  ·refine ⟨h.at _, h.at _, ?_⟩
   dsimp only
   split
   ·exact True.intro
   ·exact asks_desc f _ _ h
theorem desc_perm : ∀ (f : Nat) (p : Array Nat) (n q : Nat), (ev (ltR r) (kas_desc f p n q)).1.Perm p
 | 0, p, _, _ => Array.Perm.refl _
 | f + 1, p, n, q => by
  unfold kas_desc
  rw [ev_ask]
  split
  ·split
   ·exact (desc_perm f _ _ _).trans (rev_perm _ _ _)
   ·exact desc_perm f _ _ _
  ·rw [ev_ask]
   split
   ·exact Array.Perm.refl _
   ·exact desc_perm f _ _ _
theorem asks_tail3 {p : Array Nat} (n nrem : Nat) (h : InN n₀ p) : Asks (ltR r) n₀ (kas_tail3 n nrem p) := (asks_asc (h.perm (rev_perm _ _ _)) _ _).bind True.intro
theorem asks_descPart {p : Array Nat} (n nrem : Nat) (h : InN n₀ p) : Asks (ltR r) n₀ (kas_descPart n nrem p) := by
 refine (asks_desc _ _ _ h).bind ?_
 have pm := desc_perm (r := r) (nrem - (n + 1)) p (n + 1) 0
 split
 ·exact asks_tail3 _ _ ((h.perm pm).perm (rev_perm _ _ _))
 ·exact asks_tail3 _ _ (h.perm pm)
theorem asks_count {p : Array Nat} (nrem : Nat) (h : InN n₀ p) : Asks (ltR r) n₀ (kas_count nrem p) := by
 refine (asks_asc h _ _).bind ?_
 split
 ·exact True.intro
 ·split
  ·refine ⟨h.at _, h.at _, ?_⟩
   dsimp only
   split
   ·exact True.intro
   ·exact asks_descPart _ _ (h.perm (rev_perm _ _ _))
  ·exact asks_descPart _ _ h
theorem asks_place {p : Array Nat} {k : Nat} (h : InN n₀ p) : ∀ f l m, Asks (ltR r) n₀ (kas_place p k f l m)
 | 0, _, _ => True.intro
 | f + 1, l, m => by
  unfold kas_place
  split
  ·exact True.intro
  ·refine ⟨h.at _, h.at _, ?_⟩
   dsimp only
   split
   ·exact asks_place h f _ _
   ·exact asks_place h f _ _
theorem asks_bin : ∀ (f : Nat) {p : Array Nat} (k : Nat), InN n₀ p → Asks (ltR r) n₀ (kas_bin f p k)
 | 0, _, _, _ => True.intro
 | f + 1, p, k, h => (asks_place h _ _ _).bind (asks_bin f _ (h.perm (bubble_perm _ _ _)))
theorem asks_sort {n : Nat} (hn : 1 ≤ n) : Asks (ltR r) n (kas_sort n) := by
 have h : InN n (List.range n).toArray := ⟨hn, fun x hx => by simpa using hx⟩
 refine (asks_count n h).bind ?_
 obtain ⟨h1, h2, h3, h4, h5⟩ := ev_count (r := r) (p := (List.range n).toArray) (nrem := n) hn (by simp)
 split
 ·exact asks_bin _ _ (h.perm h4)
 ·exact True.intro
theorem wp_ev {cmp : Nat → Nat → (Bool → Shared → Prop) → Shared → Prop} {J : Shared → Prop} {n : Nat} {lt : Nat → Nat → Bool} {α : Type} (hc : ∀ i j C s, i < n → j < n → J s → (∀ s', J s' → C (lt i j) s') → cmp i j C s) :
  ∀ (t : KasT α) (s : Shared) (Q : α → Shared → Prop), Asks lt n t → J s → (∀ s', J s' → Q (ev lt t) s') → t.kasWp cmp Q s
 | .ret a, s, Q, _, hJ, h => h s hJ
 | .ask i j k, s, Q, ha, hJ, h => hc i j _ s ha.1 ha.2.1 hJ fun s' hJ' => wp_ev hc (k (lt i j)) s' Q ha.2.2 hJ' h
theorem sort_out {α : Type} {xs : List α} {r : Nat → Int} {p : Array Nat} (hp : p.Perm (List.range xs.length).toArray) (hu : Up r p xs.length) (d : α) (key : α → Int) (hk : ∀ i, i < xs.length → r i = key (xs.getD i d)) :
  (p.toList.map fun i => xs.getD i d).Perm xs ∧ (p.toList.map fun i => xs.getD i d).Pairwise (fun a b => key a ≤ key b) := by
 have hpl : p.toList.Perm (List.range xs.length) := by simpa using Array.perm_iff_toList_perm.mp hp
 have hlen : p.toList.length = xs.length := by simpa using hpl.length_eq
 constructor
 ·refine (hpl.map _).trans ?_
  have : (List.range xs.length).map (fun i => xs.getD i d) = xs := by
   apply List.ext_getElem
   ·simp
   ·intro i h1 h2
    simp [List.getD, h2]
  rw [this]
 ·rw [List.pairwise_iff_getElem]
  intro i j hi hj hij
  rw [List.length_map] at hi hj
  rw [List.getElem_map, List.getElem_map]
  have m : ∀ k (hk : k < p.toList.length), p.toList[k] < xs.length := fun k hk => by
   have := hpl.mem_iff.mp (List.getElem_mem hk)
   simpa using this
  rw [← hk _ (m i hi), ← hk _ (m j hj)]
  have q := hu.mono i j (by lia) (by lia)
  have e : ∀ k (hk : k < p.toList.length), p.getD k 0 = p.toList[k] := fun k hk => by
   have hk' : k < p.size := by simpa using hk
   simp [Array.getD, hk']
  rw [ky, ky, e i hi, e j hj] at q
  exact q
end
end L2
namespace L2
open PySem PySem.Spec PyProof.Rows
def insU (x : Int) : List Int → List Int
 | [] => [x]
 | y :: r => if x < y then x :: y :: r else if x = y then y :: r else y :: insU x r
def sortU (ns : List Int) : List Int := ns.foldr insU []
theorem mem_insU (x k : Int) : ∀ l : List Int, k ∈ insU x l ↔ k = x ∨ k ∈ l
 | [] => by simp [insU]
 | y :: r => by
  unfold insU
  split
  ·simp
  ·split
   ·rename_i h; subst h; simp
   ·rw [List.mem_cons, mem_insU x k r, List.mem_cons]
    constructor
    ·rintro (h | h | h)
     ·exact .inr (.inl h)
     ·exact .inl h
     ·exact .inr (.inr h)
    ·rintro (h | h | h)
     ·exact .inr (.inl h)
     ·exact .inl h
     ·exact .inr (.inr h)
theorem rise_insU (x : Int) : ∀ l : List Int, l.Pairwise (· < ·) → (insU x l).Pairwise (· < ·)
 | [], _ => by simp [insU]
 | y :: r, h => by
  rw [List.pairwise_cons] at h
  unfold insU
  split
  ·rename_i hlt
   rw [List.pairwise_cons, List.pairwise_cons]
   refine ⟨fun a ha => ?_, h⟩
   rcases List.mem_cons.mp ha with rfl | ha
   ·exact hlt
   ·exact Int.lt_trans hlt (h.1 a ha)
  ·split
   ·rw [List.pairwise_cons]; exact h
   ·rename_i h1 h2
    rw [List.pairwise_cons]
    refine ⟨fun a ha => ?_, rise_insU x r h.2⟩
    rcases (mem_insU x a r).mp ha with rfl | ha
    ·lia
    ·exact h.1 a ha
theorem mem_sortU (k : Int) : ∀ ns : List Int, k ∈ sortU ns ↔ k ∈ ns
 | [] => Iff.rfl
 | x :: r => by
  show k ∈ insU x (sortU r) ↔ _
  rw [mem_insU, mem_sortU k r, List.mem_cons]
theorem rise_sortU : ∀ ns : List Int, (sortU ns).Pairwise (· < ·)
 | [] => List.Pairwise.nil
 | x :: r => rise_insU x _ (rise_sortU r)
theorem nodup_of_rise {l : List Int} (h : l.Pairwise (· < ·)) : l.Nodup := h.imp fun {a b} q e => by rw [e] at q; exact Int.lt_irrefl _ q
theorem perm_of_sub : ∀ (l1 l2 : List Int), l1.Nodup → (∀ x ∈ l1, x ∈ l2) → l2.length ≤ l1.length → l1.Perm l2
 | [], l2, _, _, h => by
  have : l2 = [] := List.eq_nil_of_length_eq_zero (by simpa using h)
  subst this; exact List.Perm.refl _
 | a :: r, l2, hn, hs, hl => by
  rw [List.nodup_cons] at hn
  have ha := hs a List.mem_cons_self
  have p := List.perm_cons_erase ha
  refine ((perm_of_sub r (l2.erase a) hn.2 (fun x hx => ?_) ?_).cons a).trans p.symm
  ·have hne : x ≠ a := fun e => hn.1 (e ▸ hx)
   exact (List.mem_erase_of_ne hne).mpr (hs x (List.mem_cons_of_mem _ hx))
  ·have := p.length_eq
   rw [List.length_cons] at this hl
   lia
theorem rise_ext : ∀ {l1 l2 : List Int}, l1.Pairwise (· < ·) → l2.Pairwise (· < ·) → (∀ k, k ∈ l1 ↔ k ∈ l2) → l1 = l2
 | [], [], _, _, _ => rfl
 | [], b :: r, _, _, h => absurd ((h b).mpr List.mem_cons_self) (by simp)
 | a :: r, [], _, _, h => absurd ((h a).mp List.mem_cons_self) (by simp)
 | a :: r, b :: t, h1, h2, h => by
  rw [List.pairwise_cons] at h1 h2
  have e : a = b := by
   rcases List.mem_cons.mp ((h a).mp List.mem_cons_self) with q | q
   ·exact q
   ·rcases List.mem_cons.mp ((h b).mpr List.mem_cons_self) with q' | q'
    ·exact q'.symm
    ·have z1 := h2.1 a q
     have z2 := h1.1 b q'
     lia
  subst e
  have : r = t := rise_ext h1.2 h2.2 fun k => by
   have q := h k
   rw [List.mem_cons, List.mem_cons] at q
   constructor
   ·intro hk
    rcases q.mp (.inr hk) with e | z
    ·have := h1.1 k hk; lia
    ·exact z
   ·intro hk
    rcases q.mpr (.inr hk) with e | z
    ·have := h2.1 k hk; lia
    ·exact z
  rw [this]
theorem sorted_is {ns' ns : List Int} (hp : ns'.Pairwise (· ≤ ·)) (hm : ∀ k, k ∈ ns' ↔ k ∈ ns) (hl : ns'.length = (sortU ns).length) : ns' = sortU ns := by
 have pm := perm_of_sub (sortU ns) ns' (nodup_of_rise (rise_sortU ns)) (fun x hx => (hm x).mpr ((mem_sortU x ns).mp hx)) (Nat.le_of_eq hl)
 have nd : ns'.Nodup := pm.nodup_iff.mp (nodup_of_rise (rise_sortU ns))
 refine rise_ext ((hp.and nd).imp fun {a b} q => ?_) (rise_sortU ns) fun k => by rw [hm, mem_sortU]
 have := q.1
 have := q.2
 lia
theorem firstMet_mem (ns : List Int) (k : Int) : (firstMet (fun i => ns.getD i 0) ns.length).any (· == k) = decide (k ∈ ns) := by
 rw [firstMet_any]
 have e : (List.range ns.length).map (fun i => ns.getD i 0) = ns := by
  apply List.ext_getElem
  ·simp
  ·intro i h1 h2
   simp [List.getD, h2]
 rw [e, Bool.eq_iff_iff, List.any_eq_true, decide_eq_true_iff]
 constructor
 ·rintro ⟨x, hx, q⟩
  rw [← eq_of_beq q]; exact hx
 ·intro h
  exact ⟨k, h, beq_self_eq_true k⟩
theorem firstMet_nodup (val : Nat → Int) : ∀ i, (firstMet val i).Nodup
 | 0 => List.nodup_nil
 | i + 1 => by
  rw [firstMet_succ]
  unfold step_dedup
  have ih := firstMet_nodup val i
  by_cases h : (firstMet val i).any (· == val i) = true
  ·rw [if_pos h]; exact ih
  ·rw [if_neg h, List.nodup_append]
   refine ⟨ih, by simp, fun a ha b hb e => h ?_⟩
   rw [List.mem_singleton] at hb
   rw [List.any_eq_true]
   exact ⟨a, ha, by rw [e, hb]; exact beq_self_eq_true _⟩
theorem firstMet_len (ns : List Int) : (firstMet (fun i => ns.getD i 0) ns.length).length = (sortU ns).length := by
 have m : ∀ k, k ∈ firstMet (fun i => ns.getD i 0) ns.length ↔ k ∈ ns := fun k => by
  have := firstMet_mem ns k
  rw [Bool.eq_iff_iff, List.any_eq_true, decide_eq_true_iff] at this
  rw [← this]
  exact ⟨fun h => ⟨k, h, beq_self_eq_true k⟩, fun ⟨x, hx, q⟩ => by rw [← eq_of_beq q]; exact hx⟩
 have n1 := firstMet_nodup (fun i => ns.getD i 0) ns.length
 have n2 := nodup_of_rise (rise_sortU ns)
 rcases Nat.le_total (firstMet (fun i => ns.getD i 0) ns.length).length (sortU ns).length with h | h
 ·exact (perm_of_sub (sortU ns) _ n2 (fun x hx => (m x).mpr ((mem_sortU x ns).mp hx)) h).length_eq.symm
 ·exact (perm_of_sub _ (sortU ns) n1 (fun x hx => (mem_sortU x ns).mpr ((m x).mp hx)) h).length_eq
theorem sortU_len (ns : List Int) : (sortU ns).length ≤ ns.length := by
 induction ns with
 | nil => exact Nat.le_refl _
 | cons x r ih =>
  have : ∀ l : List Int, (insU x l).length ≤ l.length + 1 := by
   intro l
   induction l with
   | nil => simp [insU]
   | cons y t ih =>
    unfold insU; split <;> try split
    all_goals simp only [List.length_cons]
    all_goals lia
  have q := this (sortU r)
  show (insU x (sortU r)).length ≤ _
  rw [List.length_cons]
  lia
section
variable {X : Cx}
def SetO (X : Cx) (l : Addr) (ns : List Int) : HO := .ext fun h => SetX (intKind X.prog X.w) h l (fun k => decide (k ∈ ns)) (sortU ns).length
theorem call_set_ints (hc : X.calm = true) : CallR X (.type "set") (fun xs H Q => ∃ (p : Addr) (ns : List Int), xs = [.ref p] ∧ SqL X.K H p (ns.map V.int) ∧ ns.length < 4000 ∧ ∀ l, H l = none → Q (.ref l) (upd H l (SetO X l ns))) := by
 intro pins s σ H xs us Q I r h
 obtain ⟨p, ns, rfl, hq, hlt, q⟩ := h
 obtain ⟨u, rfl, rx⟩ := vals1 r
 cases rx
 obtain ⟨its, r', pl, hz⟩ := I.list hq
 have hi : IntsAre its ns := intsAre_of r'
 have hlen : its.length = ns.length := hi.length
 refine set_of_list (I.ok.hd hc) pl.isList (ns := ns) (by simpa using hi) (by show its.toArray.size + 1 < 4096; rw [List.size_toArray]; lia) fun h' tk x kp => ?_
 have x' : SetX (intKind X.prog X.w) h' s.heap.objs.size (fun k => decide (k ∈ ns)) (sortU ns).length := x.congr (fun k => by
  rw [List.size_toArray, hlen]; exact firstMet_mem ns k) (by rw [List.size_toArray, hlen]; exact firstMet_len ns)
 have he : ∃ o, h'.get? s.heap.objs.size = some o := let ⟨o, _, _, _, e, _⟩ := x'; ⟨o, e⟩
 exact ⟨.ref s.heap.objs.size, _, I.laid (t' := tk) (o := SetO X s.heap.objs.size ns) (fun b o e => kp b o (Heap.lt_size e) e) (Nat.le_refl _) ⟨x', he, fun h1 h2 y k => y.of_get k⟩, rfl, q _ (I.hok.fresh (Nat.le_refl _))⟩
theorem setO_at {pins : List (Addr × Obj)} {σ : St} {H : Hp} {s : Shared} {p : Addr} {ns : List Int} (I : Inv X pins σ H s) (e : H p = some (SetO X p ns)) : SetX (intKind X.prog X.w) s.heap p (fun k => decide (k ∈ ns)) (sortU ns).length :=
 (show ObjOk X.prog X.w H s.heap p (SetO X p ns) from I.hok p _ e).1
theorem call_sorted_set (hc : X.calm = true) : CallR X (.builtin "sorted") (fun xs H Q => ∃ (p : Addr) (ns : List Int), xs = [.ref p] ∧ H p = some (SetO X p ns) ∧ ns.length < 64 ∧ ∀ l, H l = none → Q (.ref l) (upd H l (.lst ((sortU ns).map V.int)))) := by
 intro pins s σ H xs us Q I r h
 obtain ⟨p, ns, rfl, he, hlt, q⟩ := h
 obtain ⟨u, rfl, rx⟩ := vals1 r
 cases rx
 have hl := sortU_len ns
 refine sorted_set (I.ok.hd hc) (setO_at I he) (by lia) fun l h' d tk e out ns' a1 a2 a3 a4 hlz kp g => ?_
 have e2 : ns' = sortU ns := sorted_is a2 (fun k => by rw [a3, decide_eq_true_iff]) a4
 subst e2
 have fr := I.hok.fresh hlz
 have new : ObjOk X.prog X.w (upd H l (.lst ((sortU ns).map V.int))) h' l (.lst ((sortU ns).map V.int)) := ⟨by rw [List.length_map]; exact Nat.le_of_lt (small1000 (by lia)), out.toList, e, vals_ints a1, by simpa [seqObj] using g⟩
 exact ⟨.ref l, _, I.call' (s' := { s with heap := h', drawn := d, toks := tk }) (ch := []) rfl (Un.track (Un.kept kp) hlz fr) (HOk.track (I.hok.kept kp) fr new) I.bare (fun b z => nomatch z), rfl, q l fr⟩
theorem call_len_set : CallR X (.builtin "len") (fun xs H Q => ∃ (p : Addr) (ns : List Int), xs = [.ref p] ∧ H p = some (SetO X p ns) ∧ Q (.int (sortU ns).length) H) := by
 intro pins s σ H xs us Q I r h
 obtain ⟨p, ns, rfl, he, q⟩ := h
 obtain ⟨u, rfl, rx⟩ := vals1 r
 cases rx
 obtain ⟨o, es, ep, t, ho, hx, hd, ⟨el, mem, hb, hf, hn⟩, J⟩ := setO_at I he
 refine PySem.call_len_set ho hx hd hf (by have h4 : es.size < 4096 := hb; lia) ?_
 rw [hn]
 exact ⟨.int (sortU ns).length, H, I.tok _, ⟨_, rfl⟩, q⟩
end
section
variable {X : Cx}
variable {δ : Type} [DecidableEq δ] {n : Nat} {R : Hp → V → δ → Prop}
theorem paired_at {α β : Type} {Rl : α → β → Prop} : ∀ {xs : List α} {ds : List β}, Paired Rl xs ds → ∀ (i : Nat) (x : α), xs[i]? = some x → ∃ d, ds[i]? = some d ∧ Rl x d
 | _, _, .nil, i, x, h => by simp at h
 | _, _, .cons r t, 0, x, h => by simp at h; subst h; exact ⟨_, rfl, r⟩
 | _, _, .cons r t, i + 1, x, h => by
  obtain ⟨d, e, q⟩ := paired_at t i x (by simpa using h)
  exact ⟨d, by simpa using e, q⟩
end
end L2
namespace L2
open PySem PySem.Spec PyProof.Rows PySem.W
def lexD : List V → List V → Option Bool
 | [], [] => some false
 | [], _ :: _ => some true
 | _ :: _, [] => some false
 | .int a :: r, .int b :: r' => if a = b then lexD r r' else some (decide (a < b))
 | .ref a :: r, .ref b :: r' => if a = b then lexD r r' else none
 | _, _ => none
section
variable {prog : Program} {w : World} {A : Around} {E : Value → Shared → Prop} {s : Shared}
theorem lt_int2 {a b : Int} {t u : Tok} {k : Bool} {Q : Bool → Shared → Prop} (h : Q (decide (a < b)) s) : wpAny (model prog w) A (oneLt' k (.int a t) (.int b u)) Q E s := by
 cases k with
 | true => exact oneLt_int h
 | false => exact kat_one _ _ (lt_int (show PySem.W.BoolBack Q (.bool (decide (a < b))) s from h))
theorem kat_lexD {b fin : Bool} {Q : Bool → Shared → Prop} : ∀ (xs ys : List V) (us vs : List Value) (i : Nat) (c : Bool), Vals xs us → Vals ys vs → lexD xs ys = some c → fin = decide (us.length < vs.length) → Q c s → KatLex prog w A b fin Q (us.zip vs) i s
 | [], [], _, _, i, c, .nil, .nil, h, hf, q => by
  have e : c = false := by simpa [lexD] using h.symm
  subst e
  refine kat_nil ?_
  rw [hf]; exact q
 | [], y :: ys, _, _, i, c, .nil, .cons _ _, h, hf, q => by
  have e : c = true := by simpa [lexD] using h.symm
  subst e
  refine kat_nil ?_
  rw [hf, decide_eq_true (by simp)]; exact q
 | x :: xs, [], _, _, i, c, .cons _ _, .nil, h, hf, q => by
  have e : c = false := by cases x <;> simpa [lexD] using h.symm
  subst e
  refine kat_nil ?_
  rw [hf, decide_eq_false (by simp)]; exact q
 | x :: xs, y :: ys, u :: us, v :: vs, i, c, .cons rx tx, .cons ry ty, h, hf, q => by
  have hf' : fin = decide (us.length < vs.length) := by
   rw [hf, List.length_cons, List.length_cons]
   rw [Bool.eq_iff_iff, decide_eq_true_iff, decide_eq_true_iff]
   lia
  rw [List.zip_cons_cons]
  cases x with
  | int m =>
   cases y with
   | int k =>
    obtain ⟨t, rfl⟩ := rx
    obtain ⟨t', rfl⟩ := ry
    refine kat_cons (wpAny_eqBool_int ?_)
    by_cases e : m = k
    ·rw [show (m == k) = true by simpa using e]
     have h' : lexD xs ys = some c := by simpa [lexD, e] using h
     exact kat_yes (kat_lexD xs ys us vs (i + 1) c tx ty h' hf' q)
    ·rw [show (m == k) = false by simpa using e]
     have h' : decide (m < k) = c := by simpa [lexD, e] using h
     refine kat_no (lt_int2 ?_)
     rw [h']; exact q
   | _ => simp [lexD] at h
  | ref m =>
   cases y with
   | ref k =>
    cases rx
    cases ry
    by_cases e : m = k
    ·subst e
     have h' : lexD xs ys = some c := by simpa [lexD] using h
     exact kat_cons (SeqAt.EqAt.same (.ref m) prog w _ _ (kat_yes (kat_lexD xs ys us vs (i + 1) c tx ty h' hf' q)))
    ·simp [lexD, e] at h
   | _ => simp [lexD] at h
  | _ => cases y <;> simp [lexD] at h
theorem list_sort_by {a : Addr} {vs : List Value} {n : Nat} {r : Nat → Int} {P : PySem.Fin → Shared → Prop} (ho : s.heap.get? a = some (seqObj "list" vs.toArray n)) (h64 : vs.length < 64)
  (hk : ∀ (h' : Heap), (∀ b o, b ≠ a → s.heap.get? b = some o → h'.get? b = some o) → 2 ≤ vs.length → ∀ Q' : SortKind → Shared → Prop, Q' (tuples' true) { s with heap := h' } → wpAny (model prog w) A (keyKind' vs.toArray) Q' E { s with heap := h' })
  (hc : ∀ (h' : Heap), (∀ b o, b ≠ a → s.heap.get? b = some o → h'.get? b = some o) → ∀ i j, i < vs.length → j < vs.length → ∀ C : Bool → Shared → Prop, C (decide (r i < r j)) { s with heap := h' } → wpAny (model prog w) A (keyLt' (tuples' true) (vs.getD i Value.none) (vs.getD j Value.none)) C (fun _ _ => False) { s with heap := h' })
  (h : ∀ p : Array Nat, p.Perm (List.range vs.length).toArray → Up r p vs.length → P (.done (.ret .none)) { s with heap := sortedHeap s.heap a vs (p.toList.map fun i => vs.getD i Value.none).toArray }) :
  wpAny (model prog w) A (Builtin.«list.sort» ⟨[.ref a], []⟩) P E s := by
 have ha : a < s.heap.objs.size := Heap.lt_size ho
 rw [list_sort_plain]
 refine wpAny_bind (listItems_at ho rfl ?_)
 refine wpAny_bind (listUpdate_at ho rfl ?_ (by rw [List.size_toArray, sizeLine_eq]; lia) (Nat.zero_le _))
 obtain ⟨e1, ho1⟩ : ∃ e1, (s.heap.update a (Obj.mapSeq fun _ => (#[] : Array Value))).get? a = some (seqObj "list" #[] e1) := ⟨_, get?_update_seq ho fun _ => #[]⟩
 refine wpAny_bind (seqEpoch_at ho1 rfl ?_)
 refine wpAny_bind (wpAny_newTuple ?_ (by show vs.length ≤ _; rw [sizeLine_eq]; lia))
 refine wpAny_bind (wpAny_newList ?_ (Nat.zero_le _))
 refine wpAny_holding ?_
 have keep : ∀ b o, b ≠ a → s.heap.get? b = some o → (((s.heap.update a (Obj.mapSeq fun _ => (#[] : Array Value))).push (seqObj "tuple" vs.toArray 0)).push (seqObj "list" #[] 0)).get? b = some o := fun b o hb q =>
  Heap.get?_push_of_some _ (Heap.get?_push_of_some _ ((Heap.get?_update_other _ _ (Ne.symm hb)).trans q))
 have ho6 : (((s.heap.update a (Obj.mapSeq fun _ => (#[] : Array Value))).push (seqObj "tuple" vs.toArray 0)).push (seqObj "list" #[] 0)).get? a = some (seqObj "list" #[] e1) := Heap.get?_push_of_some _ (Heap.get?_push_of_some _ ho1)
 show wpAny (model prog w) A _ P E { s with heap := ((s.heap.update a (Obj.mapSeq fun _ => (#[] : Array Value))).push (seqObj "tuple" vs.toArray 0)).push (seqObj "list" #[] 0) }
 dsimp only
 by_cases h2 : vs.toArray.size < 2
 ·rw [if_pos h2, if_pos h2]
  refine wpAny_bind (wpAny_pure ?_)
  rw [StateT.run_pure]
  refine wpAny_bind (wpAny_pure ?_)
  dsimp only
  refine wpAny_bind (seqEpoch_at ho6 rfl ?_)
  have eo : (arrOf (SortSt.mk' general' (vs.toArray.zip vs.toArray) #[] 7 none)).map (·.2) = (((List.range vs.length).toArray.toList).map fun i => vs.getD i Value.none).toArray := by
   have e3 : ((List.range vs.length).toArray.toList.map fun i => vs.getD i Value.none) = vs := by
    apply List.ext_getElem
    ·simp
    ·intro i q1 q2
     simp [List.getD, q2]
   rw [e3]
   show (vs.toArray.zip vs.toArray).map (·.2) = vs.toArray
   apply Array.ext
   ·simp
   ·intro i q1 q2
    simp
  refine wpAny_bind (listUpdate_at ho6 rfl ?_ (Nat.zero_le _) (by rw [eo, List.size_toArray, List.length_map]; simp; rw [sizeLine_eq]; lia))
  simp only [bne_self_eq_false, Bool.false_eq_true, if_false]
  refine wpAny_pure ?_
  rw [eo]
  refine h (List.range vs.length).toArray (Array.Perm.refl _) fun i hi hb => ?_
  rw [List.size_toArray] at h2
  lia
 ·rw [if_neg h2, if_neg h2]
  rw [List.size_toArray] at h2
  refine wpAny_bind (hk _ keep (by lia) _ ?_)
  have run := kat_run (E := E) (κ := tuples' true) (ks := vs) (vs := vs) (prog := prog) (w := w) (A := A) (Q := fun st' s' => s' = { s with heap := ((s.heap.update a (Obj.mapSeq fun _ => (#[] : Array Value))).push (seqObj "tuple" vs.toArray 0)).push (seqObj "list" #[] 0) } ∧ failedOf st' = none ∧ ∃ p : Array Nat, p.Perm (List.range vs.length).toArray ∧ Up r p vs.length ∧ arrOf st' = p.map (kas_item (vs.toArray.zip vs.toArray)))
   (G := fun p s' => s' = { s with heap := ((s.heap.update a (Obj.mapSeq fun _ => (#[] : Array Value))).push (seqObj "tuple" vs.toArray 0)).push (seqObj "list" #[] 0) } ∧ p.Perm (List.range vs.length).toArray ∧ Up r p vs.length) rfl (by lia) h64 (fun p st' s' a1 a2 a3 ⟨b1, b2, b3⟩ => ⟨b1, a3, p, b2, b3, a2⟩)
   (wp_ev (J := fun s' => s' = { s with heap := ((s.heap.update a (Obj.mapSeq fun _ => (#[] : Array Value))).push (seqObj "tuple" vs.toArray 0)).push (seqObj "list" #[] 0) }) (lt := ltR r) (n := vs.length) (fun i j C s' hi hj hJ q => by
    subst hJ
    exact hc _ keep i j hi hj C (q _ rfl)) _ _ _ (asks_sort (by lia)) rfl fun s' hJ => ⟨hJ, ev_sort (by lia)⟩)
  refine wpAny_bind (wpAny_mono run ?_ fun _ _ e => e)
  rintro ⟨⟨⟩, st'⟩ s' ⟨rfl, hf, p, pm, up, har⟩
  dsimp only
  have hout := kat_snds (ks := vs) (vs := vs) rfl har
  have hsz : (p.toList.map fun i => vs.getD i Value.none).toArray.size = vs.length := by rw [List.size_toArray, List.length_map, Array.length_toList, pm.size_eq]; simp
  rw [hout]
  refine wpAny_bind (seqEpoch_at ho6 rfl ?_)
  refine wpAny_bind (listUpdate_at ho6 rfl ?_ (Nat.zero_le _) (by rw [hsz, sizeLine_eq]; lia))
  rw [hf]
  simp only [bne_self_eq_false, Bool.false_eq_true, if_false]
  exact wpAny_pure (h p pm up)
theorem sorted_by {l : Addr} {vs : List Value} {r : Nat → Int} {Q : Value → Shared → Prop} (hl : s.heap.IsList l vs.toArray) (h64 : vs.length < 64)
  (hk : ∀ (A : Around) (E : Value → Shared → Prop) (h' : Heap), (∀ b o, s.heap.get? b = some o → h'.get? b = some o) → 2 ≤ vs.length → ∀ Q' : SortKind → Shared → Prop, Q' (tuples' true) { s with heap := h' } → wpAny (model prog w) A (keyKind' vs.toArray) Q' E { s with heap := h' })
  (hc : ∀ (A : Around) (h' : Heap), (∀ b o, s.heap.get? b = some o → h'.get? b = some o) → ∀ i j, i < vs.length → j < vs.length → ∀ C : Bool → Shared → Prop, C (decide (r i < r j)) { s with heap := h' } → wpAny (model prog w) A (keyLt' (tuples' true) (vs.getD i Value.none) (vs.getD j Value.none)) C (fun _ _ => False) { s with heap := h' })
  (h : ∀ (p : Array Nat), p.Perm (List.range vs.length).toArray → Up r p vs.length → Q (.ref (s.heap.objs.size + 1)) { s with heap := sortedAll s.heap vs (p.toList.map fun i => vs.getD i Value.none).toArray }) :
  wpAny (model prog w) A (call (.builtin "sorted") [.ref l]) Q E s := by
 refine Calls.call_function_entry kind_sorted plain_sorted entry_sorted (args_sorted1 _) ?_
 unfold Builtin.«sorted»
 refine wpAny_bind (m := checkCount "sorted" 1 1 _) (wpAny_pure ?_)
 refine wpAny_bind (collect_list hl ?_ (by rw [sizeLine_eq]; lia))
 refine wpAny_bind (wpAny_newList ?_ (by rw [sizeLine_eq]; lia))
 have sz : ((s.heap.push (seqObj "list" #[] 0)).update s.heap.objs.size (Obj.mapSeq (· ++ vs.toArray))).objs.size = s.heap.objs.size + 1 := by rw [Heap.size_update, size_push']
 have hoL : (((s.heap.push (seqObj "list" #[] 0)).update s.heap.objs.size (Obj.mapSeq (· ++ vs.toArray))).push (seqObj "list" vs.toArray 0)).get? (s.heap.objs.size + 1) = some (seqObj "list" vs.toArray 0) := by
  rw [← sz]; exact Heap.get?_push_size _ rfl
 have keep : ∀ b o, s.heap.get? b = some o → (((s.heap.push (seqObj "list" #[] 0)).update s.heap.objs.size (Obj.mapSeq (· ++ vs.toArray))).push (seqObj "list" vs.toArray 0)).get? b = some o := fun b o q =>
  Heap.get?_push_of_some _ ((Heap.get?_update_other _ _ (Nat.ne_of_gt (Heap.lt_size q))).trans (Heap.get?_push_of_some _ q))
 show wpAny _ _ _ _ _ { s with heap := ((s.heap.push (seqObj "list" #[] 0)).update s.heap.objs.size (Obj.mapSeq (· ++ vs.toArray))).push (seqObj "list" vs.toArray 0) }
 rw [sz]
 refine wpAny_bind (wpAny_holding (wpAny_call_entry slot_list_sort ⟨_, hoL, rfl⟩ entry_list_sort (list_sort_by (r := r) (s := { s with heap := ((s.heap.push (seqObj "list" #[] 0)).update s.heap.objs.size (Obj.mapSeq (· ++ vs.toArray))).push (seqObj "list" vs.toArray 0) }) hoL h64
  (fun h' kp h2 Q' q => hk _ _ h' (fun b o e => kp b o (Nat.ne_of_lt (Nat.lt_succ_of_lt (Heap.lt_size e))) (keep b o e)) h2 Q' q)
  (fun h' kp i j hi hj C q => hc _ h' (fun b o e => kp b o (Nat.ne_of_lt (Nat.lt_succ_of_lt (Heap.lt_size e))) (keep b o e)) i j hi hj C q) fun p pm up => ⟨_, rfl, ?_⟩) (args_list_sort _)))
 exact wpAny_pure ⟨_, rfl, h p pm up⟩
end
section
variable {X : Cx}
def TupsAt (K : PySem.W.Frag) (H : Hp) (as : List Addr) (its : List (List V)) : Prop := Paired (fun a xs => SqT K H a xs ∧ ∃ i r, xs = V.int i :: r) as its
theorem tups_get {K : PySem.W.Frag} {H : Hp} {as : List Addr} {its : List (List V)} (h : TupsAt K H as its) : ∀ (i : Nat), i < as.length → ∃ a xs, as[i]? = some a ∧ its[i]? = some xs ∧ SqT K H a xs ∧ ∃ j r, xs = V.int j :: r := fun i hi => by
 have e : as[i]? = some as[i] := List.getElem?_eq_getElem hi
 obtain ⟨d, e2, q⟩ := paired_at h i _ e
 exact ⟨_, d, e, e2, q.1, q.2⟩
theorem call_sorted_tups : CallR X (.builtin "sorted") (fun xs H Q => ∃ (p : Addr) (as : List Addr) (its : List (List V)) (r : Nat → Int), xs = [.ref p] ∧ SqL X.K H p (as.map V.ref) ∧ TupsAt X.K H as its ∧ as.length < 64 ∧
  (∀ i j x y, its[i]? = some x → its[j]? = some y → lexD x y = some (decide (r i < r j))) ∧ ∀ q : Array Nat, q.Perm (List.range as.length).toArray → Up r q as.length → ∀ l, H l = none → Q (.ref l) (upd H l (.lst ((q.toList.map fun i => as.getD i 0).map V.ref)))) := by
 intro pins s σ H xs us Q I r0 h
 obtain ⟨p, as, its, r, rfl, hq, ht, h64, hcmp, q⟩ := h
 obtain ⟨u, rfl, rx⟩ := vals1 r0
 cases rx
 obtain ⟨vs, r', pl, hz⟩ := I.list hq
 have evs : vs = as.map Value.ref := by
  have go : ∀ (as : List Addr) (vs : List Value), Vals (as.map V.ref) vs → vs = as.map Value.ref := by
   intro as
   induction as with
   | nil => intro vs r; cases r; rfl
   | cons a t ih =>
    intro vs r
    rw [List.map_cons] at r
    cases r with
    | cons r1 r2 => rw [show _ = Value.ref a from r1, ih _ r2]; rfl
  exact go as vs r'
 subst evs
 have hl : (as.map Value.ref).length = as.length := List.length_map _
 have hget : ∀ i a, as[i]? = some a → (as.map Value.ref).getD i Value.none = .ref a := fun i a e => by
  rw [List.getD, List.getElem?_map, e]; rfl
 have tl := Paired.length ht
 refine sorted_by (r := r) pl.isList (by rw [hl]; exact h64) (fun A E h' kp h2 Q' q' => ?_) (fun A h' kp i j hi hj C q' => ?_) fun pq pm up => ?_
 ·-- the kind
  have I' : Inv X pins σ H { s with heap := h' } := I.kept (t' := s.toks) kp
  have go : ∀ (as : List Addr) (its : List (List V)), TupsAt X.K H as its → ∃ fs : List Value, KatTups h' (as.map Value.ref) fs ∧ (∀ v ∈ fs, ∃ i t, v = .int i t) ∧ fs.length = as.length := by
   intro as its hT
   unfold TupsAt at hT
   induction hT with
   | nil => exact ⟨[], trivial, fun v hv => absurd hv (by simp), rfl⟩
   | @cons a xs as its hx t ih =>
    obtain ⟨fs, k1, k2, k3⟩ := ih
    obtain ⟨hS, i, r, rfl⟩ := hx
    obtain ⟨us, ru, pu, _⟩ := I'.tuple hS
    cases ru with
    | @cons _ u _ us r1 r2 =>
     obtain ⟨tk, rfl⟩ := r1
     obtain ⟨o, e1, e2, n, e3⟩ := pu
     refine ⟨.int i tk :: fs, KatTups.cons e1 e2 e3 (by simp) k1, fun v hv => ?_, by rw [List.length_cons, List.length_cons, k3]⟩
     rcases List.mem_cons.mp hv with rfl | hv
     ·exact ⟨i, tk, rfl⟩
     ·exact k2 v hv
  obtain ⟨fs, k1, k2, k3⟩ := go as its ht
  refine kat_kind (T := .type "int") k1 (by rw [hl] at h2; lia) (fun v hv => ?_) (by decide) q'
  obtain ⟨i, tk, rfl⟩ := k2 v hv
  exact .now
 ·-- a comparison
  have I' : Inv X pins σ H { s with heap := h' } := I.kept (t' := s.toks) kp
  rw [hl] at hi hj
  obtain ⟨a, x, ea, ex, hS, _⟩ := tups_get ht i hi
  obtain ⟨b, y, eb, ey, hS', _⟩ := tups_get ht j hj
  rw [hget i a ea, hget j b eb]
  obtain ⟨us, ru, ⟨o, e1, e2, n, e3⟩, _⟩ := I'.tuple hS
  obtain ⟨us', ru', ⟨o', e1', e2', n', e3'⟩, _⟩ := I'.tuple hS'
  refine kat_lt e1 e3 e1' e3' ?_
  exact kat_lexD x y us us' 0 _ (by simpa using ru) (by simpa using ru') (hcmp i j x y ex ey) (by simp) q'
 ·have sz : (pq.toList.map fun i => (as.map Value.ref).getD i Value.none) = (pq.toList.map fun i => as.getD i 0).map Value.ref := by
   rw [List.map_map]
   apply List.map_congr_left
   intro i hi
   have hi' : i < as.length := by
    have := (Array.Perm.mem_iff pm (a := i)).mp (by simpa using hi)
    rw [hl] at this
    simpa using this
   show _ = Value.ref (as.getD i 0)
   rw [hget i as[i] (List.getElem?_eq_getElem hi')]
   simp [List.getD, hi']
  rw [sz]
  rw [hl] at pm up
  obtain ⟨e, he⟩ := sortedAll_at s.heap (as.map Value.ref) ((pq.toList.map fun i => as.getD i 0).map Value.ref).toArray
  have vr : ∀ bs : List Addr, Vals (bs.map V.ref) (bs.map Value.ref) := fun bs => by
   induction bs with
   | nil => exact .nil
   | cons b t ih => exact .cons rfl ih
  have hlen : ((pq.toList.map fun i => as.getD i 0).map V.ref).length ≤ sizeLine := by
   rw [List.length_map, List.length_map, Array.length_toList, pm.size_eq]
   exact Nat.le_of_lt (small1000 (by simp; lia))
  exact ⟨.ref (s.heap.objs.size + 1), _, I.laid (t' := s.toks) (o := .lst ((pq.toList.map fun i => as.getD i 0).map V.ref)) (fun b o e => sortedAll_old e) (Nat.le_succ _) ⟨hlen, _, e, vr _, by simpa [seqObj] using he⟩, rfl, q pq pm up _ (I.hok.fresh (Nat.le_succ _))⟩
end
end L2
namespace L2
open PySem PySem.Spec PyProof.Rows
section
variable {es : List Expr} {env : Env} {c : Const} {i : Nat} {p : Pos}
theorem st_const : starEach (.Constant c i p :: es) env = (false, eval (.Constant c i p) env) :: starEach es env := by rw [starEach]; intro a b h; cases h
theorem st_name {x : Str} : starEach (.Name x p :: es) env = (false, eval (.Name x p) env) :: starEach es env := by rw [starEach]; intro a b h; cases h
theorem st_call {f : Expr} {as : List Expr} {ks : List Keyword} : starEach (.Call f as ks p :: es) env = (false, eval (.Call f as ks p) env) :: starEach es env := by rw [starEach]; intro a b h; cases h
theorem st_bin {a b : Expr} {o : Operator} : starEach (.BinOp a o b p :: es) env = (false, eval (.BinOp a o b p) env) :: starEach es env := by rw [starEach]; intro a b h; cases h
theorem st_sub {a b : Expr} : starEach (.Subscript a b p :: es) env = (false, eval (.Subscript a b p) env) :: starEach es env := by rw [starEach]; intro a b h; cases h
theorem st_tup {a : List Expr} : starEach (.Tuple a i p :: es) env = (false, eval (.Tuple a i p) env) :: starEach es env := by rw [starEach]; intro a b h; cases h
theorem st_list {a : List Expr} : starEach (.List a p :: es) env = (false, eval (.List a p) env) :: starEach es env := by rw [starEach]; intro a b h; cases h
theorem st_comp {a : Expr} {g : List Comprehension} {s : Scope} : starEach (.ListComp a g s p :: es) env = (false, eval (.ListComp a g s p) env) :: starEach es env := by rw [starEach]; intro a b h; cases h
end
section
variable {X : Cx}
theorem ix_listK (K : PySem.W.Frag) (h : X.K = K := by rfl) : IxR X (rIxL K) := h ▸ ix_list
theorem ix_tupK (K : PySem.W.Frag) (h : X.K = K := by rfl) : IxR X (rIxT K) := h ▸ ix_tup
theorem op_inK (K : PySem.W.Frag) (h : X.K = K := by rfl) : OpR X (compareOp .In) (rIn K false) := h ▸ op_in_seq
theorem op_notInK (K : PySem.W.Frag) (h : X.K = K := by rfl) : OpR X (compareOp .NotIn) (rIn K true) := h ▸ op_notIn_seq
def rLenSeq (K : PySem.W.Frag) : List V → Hp → VK → Prop := fun xs H Q => ∃ p ys, xs = [.ref p] ∧ (SqL K H p ys ∨ SqT K H p ys) ∧ Q (.int ys.length) H
theorem call_lenK (K : PySem.W.Frag) (h : X.K = K := by rfl) : CallR X (.builtin "len") (rLenSeq K) := h ▸ call_len_seq
def rListOf (K : PySem.W.Frag) : List V → Hp → VK → Prop := fun xs H Q => ∃ p ys, xs = [.ref p] ∧ (SqL K H p ys ∨ SqT K H p ys) ∧ ∀ l, H l = none → Q (.ref l) (upd H l (.lst ys))
theorem call_listK (K : PySem.W.Frag) (h : X.K = K := by rfl) : CallR X (.type "list") (rListOf K) := h ▸ call_list_of
def rTupleOf (K : PySem.W.Frag) : List V → Hp → VK → Prop := fun xs H Q => ∃ p ys, xs = [.ref p] ∧ ((SqL K H p ys ∧ ∀ l, H l = none → Q (.ref l) (upd H l (.tup ys))) ∨ (SqT K H p ys ∧ Q (.ref p) H))
theorem call_tupleK (K : PySem.W.Frag) (h : X.K = K := by rfl) : CallR X (.type "tuple") (rTupleOf K) := h ▸ call_tuple_of
def rIsinst (K : PySem.W.Frag) : List V → Hp → VK → Prop := fun xs H Q => ∃ v T t b, xs = [v, .ty T] ∧ TyOf K H v t ∧ PySem.W.kitOne K t (.type T) = some b ∧ Q (.bl b) H
theorem call_isinstK (K : PySem.W.Frag) (h : X.K = K := by rfl) : CallR X (.builtin "isinstance") (rIsinst K) := h ▸ call_isinst
def rAllB (K : PySem.W.Frag) : List V → Hp → VK → Prop := fun xs H Q => ∃ (p : Addr) (bs : List Bool), xs = [.ref p] ∧ SqL K H p (bs.map V.bl) ∧ Q (.bl (bs.all id)) H
theorem call_allK (K : PySem.W.Frag) (hc : X.calm = true) (h : X.K = K := by rfl) : CallR X (.builtin "all") (rAllB K) := h ▸ call_all_bools hc
def rAnyB (K : PySem.W.Frag) : List V → Hp → VK → Prop := fun xs H Q => ∃ (p : Addr) (bs : List Bool), xs = [.ref p] ∧ SqL K H p (bs.map V.bl) ∧ Q (.bl (bs.any id)) H
theorem call_anyK (K : PySem.W.Frag) (hc : X.calm = true) (h : X.K = K := by rfl) : CallR X (.builtin "any") (rAnyB K) := h ▸ call_any_bools hc
def rSortedI (K : PySem.W.Frag) : List V → Hp → VK → Prop := fun xs H Q => ∃ (p : Addr) (ns : List Int), xs = [.ref p] ∧ SqL K H p (ns.map V.int) ∧ ns.length < 64 ∧ ∀ ns' : List Int, ns'.Perm ns → ns'.Pairwise (· ≤ ·) → ∀ l, H l = none → Q (.ref l) (upd H l (.lst (ns'.map V.int)))
theorem call_sortedK (K : PySem.W.Frag) (h : X.K = K := by rfl) : CallR X (.builtin "sorted") (rSortedI K) := h ▸ call_sorted_ints
def SetP (P : Program) (w : World) (l : Addr) (ns : List Int) : HO := .ext fun h => SetX (intKind P w) h l (fun k => decide (k ∈ ns)) (sortU ns).length
def rSetI (K : PySem.W.Frag) (P : Program) (w : World) : List V → Hp → VK → Prop := fun xs H Q => ∃ (p : Addr) (ns : List Int), xs = [.ref p] ∧ SqL K H p (ns.map V.int) ∧ ns.length < 4000 ∧ ∀ l, H l = none → Q (.ref l) (upd H l (SetP P w l ns))
theorem call_setK (K : PySem.W.Frag) (P : Program) (w : World) (hc : X.calm = true) (h : X.K = K := by rfl) (hP : X.prog = P := by rfl) (hw : X.w = w := by rfl) : CallR X (.type "set") (rSetI K P w) := by
 subst h hP hw
 exact call_set_ints hc
def rSortedS (P : Program) (w : World) : List V → Hp → VK → Prop := fun xs H Q => ∃ (p : Addr) (ns : List Int), xs = [.ref p] ∧ H p = some (SetP P w p ns) ∧ ns.length < 64 ∧ ∀ l, H l = none → Q (.ref l) (upd H l (.lst ((sortU ns).map V.int)))
theorem call_sortedSK (P : Program) (w : World) (hc : X.calm = true) (hP : X.prog = P := by rfl) (hw : X.w = w := by rfl) : CallR X (.builtin "sorted") (rSortedS P w) := by
 subst hP hw
 exact call_sorted_set hc
def rLenS (P : Program) (w : World) : List V → Hp → VK → Prop := fun xs H Q => ∃ (p : Addr) (ns : List Int), xs = [.ref p] ∧ H p = some (SetP P w p ns) ∧ Q (.int (sortU ns).length) H
theorem call_lenSK (P : Program) (w : World) (hP : X.prog = P := by rfl) (hw : X.w = w := by rfl) : CallR X (.builtin "len") (rLenS P w) := by
 subst hP hw
 exact call_len_set
def rSortedT (K : PySem.W.Frag) : List V → Hp → VK → Prop := fun xs H Q => ∃ (p : Addr) (as : List Addr) (its : List (List V)) (r : Nat → Int), xs = [.ref p] ∧ SqL K H p (as.map V.ref) ∧ TupsAt K H as its ∧ as.length < 64 ∧
  (∀ i j x y, its[i]? = some x → its[j]? = some y → lexD x y = some (decide (r i < r j))) ∧ ∀ q : Array Nat, q.Perm (List.range as.length).toArray → Up r q as.length → ∀ l, H l = none → Q (.ref l) (upd H l (.lst ((q.toList.map fun i => as.getD i 0).map V.ref)))
theorem call_sortedTK (K : PySem.W.Frag) (h : X.K = K := by rfl) : CallR X (.builtin "sorted") (rSortedT K) := h ▸ call_sorted_tups
def rNeI (K : PySem.W.Frag) : R2 := fun x y H Q => ∃ (a b : Addr) (ns ms : List Int), x = .ref a ∧ y = .ref b ∧ SqL K H a (ns.map V.int) ∧ SqL K H b (ms.map V.int) ∧ Q (.bl (!decide (ns = ms))) H
def rEqI (K : PySem.W.Frag) : R2 := fun x y H Q => ∃ (a b : Addr) (ns ms : List Int), x = .ref a ∧ y = .ref b ∧ SqL K H a (ns.map V.int) ∧ SqL K H b (ms.map V.int) ∧ Q (.bl (decide (ns = ms))) H
theorem op_neIK (K : PySem.W.Frag) (hu : X.A.units < cLine) (h : X.K = K := by rfl) : OpR X (compareOp .NotEq) (rNeI K) := h ▸ op_neLI hu
theorem op_eqIK (K : PySem.W.Frag) (hu : X.A.units < cLine) (h : X.K = K := by rfl) : OpR X (compareOp .Eq) (rEqI K) := h ▸ op_eqLI hu
def tTru (K : PySem.W.Frag) (ta : TE) : TT := fun σ H Q => ta σ H fun x H' => ∃ k, TruV K x H' k ∧ Q k H'
theorem pt_truK (K : PySem.W.Frag) {a : Expr} {ta : TE} (ha : PE X a ta) (he : ∀ whole, isTrue a X.env whole = (do let v ← whole; standAt a.pos; holding [v] (truthy v))) (h : X.K = K := by rfl) : PT X a (tTru K ta) := h ▸ pt_truth ha he
theorem pi_listK (K : PySem.W.Frag) {tg l : Expr} {tl : TE} (hl : PE X l tl) (h : X.K = K := by rfl) : PI X tg l (iList K tl) := h ▸ pi_list hl
theorem pi_tupK (K : PySem.W.Frag) {tg l : Expr} {tl : TE} (hl : PE X l tl) (h : X.K = K := by rfl) : PI X tg l (iTup K tl) := h ▸ pi_tup hl
variable {x y z w : Str} {i j k l n : Nat} {px py pz pw pt : Pos}
end
section
variable {X : Cx} {o e : Expr} {es : List Expr} {to : TE} {t : TA} {name : Str} {apos cpos : Pos} {T id : String} {r : V → List V → Hp → VK → Prop}
theorem pe_bmK (K : PySem.W.Frag) (pa : PlainAttrs T) (slot : Slot T name id) (hty : typeOf (.builtin id) = pure (.type "method_descriptor")) (hm : MtR X id r) (ho : PE X o to) (ha : PA X (e :: es) t) (h : X.K = K := by rfl)
  (hbase : attributeBase o name X.env (eval o X.env) = eval o X.env := by rfl)
  (hfew : ((backTo cpos (starEach (e :: es) X.env)).all (fun x => !x.1) && (backToKw cpos (keywordEach [] X.env)).all (fun x => x.1.isSome)
   && decide ((e :: es).length + ([] : List Keyword).length + (if ([] : List Keyword).isEmpty then 0 else 1) < 30)) = true := by rfl)
  (hline : (apos.endLine == cpos.line) = true := by rfl) (hs : starEach (e :: es) X.env = (false, eval e X.env) :: starEach es X.env := by rfl) (hplain : (backTo cpos (starEach es X.env)).any (·.1) = false := by rfl) :
  PE X (.Call (.Attribute o name apos) (e :: es) [] cpos) (tBM K T r to t) := h ▸ pe_bm pa slot hty hm ho ha hbase hfew hline hs hplain
end
end L2
namespace L2
open PySem PySem.Spec PyProof.Rows
theorem paired_mem {α β : Type} {R R' : α → β → Prop} : ∀ {as : List α} {ds : List β}, Paired R as ds → (∀ a b, b ∈ ds → R a b → R' a b) → Paired R' as ds
 | _, _, .nil, _ => .nil
 | _, _, .cons h t, hi => .cons (hi _ _ (List.mem_cons_self ..) h) (paired_mem t fun a b hb => hi a b (List.mem_cons_of_mem _ hb))
end L2
namespace L2
open PySem PySem.Spec PyProof.Rows
theorem mt_appendR {X : Cx} : MtR X "list.append" rAppend := mt_append
end L2
namespace L2
open PySem PySem.Spec PyProof.Rows
section
variable {X : Cx}
def inD (ds : List (List Key)) (d : List Key) : Bool := ds.any fun x => decide (x = d)
theorem inD_iff {ds : List (List Key)} {d : List Key} : inD ds d = true ↔ d ∈ ds := by
 unfold inD
 rw [List.any_eq_true]
 constructor
 ·rintro ⟨x, hx, h⟩
  rw [← of_decide_eq_true h]
  exact hx
 ·intro h
  exact ⟨d, h, decide_eq_true rfl⟩
end
end L2
namespace L2
open PySem PySem.Spec PyProof.Rows
section
variable {X : Cx}
theorem ipR_add : PIp X .Add (rI0 fun i j => .int (i + j)) := iop_add
theorem get_listK (K : PySem.W.Frag) (h : X.K = K := by rfl) : PGet X (fun x y H Q => ∃ p xs i z, x = .ref p ∧ y = .int i ∧ SqL K H p xs ∧ 0 ≤ i ∧ xs[i.toNat]? = some z ∧ Q z H) := by
 subst h
 intro pins s σ H x y v u Q I rx ry h
 obtain ⟨p, xs, i, z, rfl, rfl, hq, h0, he, q⟩ := h
 cases rx
 obtain ⟨t, rfl⟩ := ry
 obtain ⟨its, r, pl, hz⟩ := I.list hq
 obtain ⟨w, ew, rw'⟩ := r.get he
 have hl := r.length
 have hi := (List.getElem?_eq_some_iff.mp he).1
 have hn := line63
 exact wpAny_getItem_list pl.isList h0 (by lia) (by simpa using ew) ⟨z, H, I, rw', q⟩
end
end L2
namespace L2
open PySem PySem.Spec PyProof.Rows
section
variable {X : Cx}
def CDivL (i j : Int) : Prop := 0 < j ∧ j < 18446744073709551616
theorem op_fdivL : OpR X (binaryOp .FloorDiv) (rI CDivL fun i j => .int (i / j)) := opI fun i j _ _ _ _ _ hc q => by
 have h1 : (0 : Int) < j := hc.1
 have h2 : j < 18446744073709551616 := hc.2
 refine floordiv_int (by lia) (by rw [Int.fdiv_eq_ediv_of_nonneg i (by lia)]; exact q) (.inl (PyProof.noPylong_of_log2 ?_))
 have h3 : j.natAbs < 2 ^ 64 := by lia
 have h4 : j.natAbs ≠ 0 := by lia
 have := (Nat.log2_lt h4).mpr h3
 lia
variable {δ : Type} [DecidableEq δ] {n : Nat} {R : Hp → V → δ → Prop}
end
end L2
namespace L2
open PySem PySem.Spec PyProof.Rows
structure DefD (K : PySem.W.Frag) (mg : Str → Option Value) (x : Str) (st : Stmt) (ps : List Str) (dvs : List V) : Prop where
 ex : ∃ (f : Addr) (fd : FuncData), (∃ (oc : Value) (od : Option Addr) (dV kV doc pm : Value) (an : Option Addr) (cdv ct : Value) (osl : Array (Option Value)),
   fd = PySem.W.fnOf x x (defArgs st) (defBody st) (defScope st) dV kV doc pm an cdv ct ∧ K.lookup f = some ⟨oc, od, .func fd, osl⟩ ∧ PySem.W.codeIn K cdv x = true) ∧ PySem.W.keepIn K (.ref f) = true ∧
  (∀ m, m ≤ dvs.length → ∃ ds, Vals (dvs.drop m) ds ∧ Binds K fd ps ds) ∧ mg x = some (.ref f)
structure CalleeD (P : Program) (w : World) (K : PySem.W.Frag) (mg : Str → Option Value) (base : Heap) (k : Nat) (x : Str) (ps : List Str) (dvs : List V) (sp : Sp) : Prop where
 ex : ∃ (f : Addr) (fd : FuncData), FnOk P w K mg base CX0 k f fd ps sp ∧ (∀ m, m ≤ dvs.length → ∃ ds, Vals (dvs.drop m) ds ∧ Binds K fd ps ds) ∧ PySem.W.keepIn K (.ref f) = true ∧ mg x = some (.ref f)
section
variable {P : Program} {w : World} {K : PySem.W.Frag} {mg : Str → Option Value} {base : Heap}
theorem DefD.ok {x : Str} {st : Stmt} {N ps : List Str} {k : Nat} {dvs : List V} {sp : Sp} (D : DefD K mg x st ps dvs) (S : FnScope N ps (defScope st)) (len : ∀ vs H Q E, sp vs H Q E → vs.length = ps.length)
  (hbody : ∀ (f : Addr) (cdv : Value) (A : Around) (outer : List Env) (s : Shared) (H : Hp) (vs : List V) (Q : VK) (E : XK), Room k (A.deeper (envOfC x (defScope st) s.heap.objs.size f cdv)) → sp vs H Q E →
   ∃ t, PSs (cxOf CX0 P w K mg base N x (defScope st) f cdv A outer s H E).nox (defBody st) t ∧ t { nx := fun _ H' => Q .non H', rt := Q } (start N vs) H) : CalleeD P w K mg base (k + 1) x ps dvs sp := by
 obtain ⟨f, fd, ⟨oc, od, dV, kV, doc, pm, an, cdv, ct, osl, rfl, lk, hcd⟩, kp, b, m⟩ := D.ex
 refine ⟨f, _, fn_of lk hcd S len fun A outer s H vs Q E hr hsp => ?_, b, kp, m⟩
 obtain ⟨t, h, q⟩ := hbody f cdv A outer s H vs Q E hr hsp
 exact ⟨t, h.nox, q⟩
theorem CalleeD.all {x : Str} {ps : List Str} {k : Nat} {dvs : List V} {sp : Sp} (C : CalleeD P w K mg base k x ps dvs sp) : Callee P w K mg base k x ps sp := by
 obtain ⟨f, fd, F, b, kp, m⟩ := C.ex
 obtain ⟨ds, hv, hb⟩ := b dvs.length (Nat.le_refl _)
 rw [List.drop_length] at hv
 cases hv
 exact ⟨f, fd, F, hb, kp, m⟩
end
section
variable {X : Cx} {k n : Nat} {ps : List Str} {dvs : List V} {sp : Sp} {x : Str} {p pos : Pos} {e : Expr} {es : List Expr} {t : TA}
theorem pe_fnD (m : Nat) (C : CalleeD X.prog X.w X.K X.mg X.base k x ps dvs sp) (hr : Room n X.A) (hg : Gl X x) (ha : PA X (e :: es) t) (hm : m ≤ dvs.length := by decide) (hk : k ≤ n := by decide) (hdb : (x == ("__debug__" : Str)) = false := by decide)
  (he : starEach (e :: es) X.env = (false, eval e X.env) :: starEach es X.env := by rfl) (hpl : (backTo pos (starEach es X.env)).any (·.1) = false := by rfl) :
  PE X (.Call (.Name x p) (e :: es) [] pos) (tCall sp (dvs.drop m) E0 t) := by
 obtain ⟨f, fd, F, b, kp, mm⟩ := C.ex
 obtain ⟨ds, hv, hb⟩ := b m hm
 exact pe_call F (hr.mono hk) hg mm kp hb hv pass0 ha hdb he hpl
end
end L2
namespace L2
open PySem PySem.Spec PyProof.Rows
def cxLam (X : Cx) (q : Str) (scope : Scope) (cl : List (Str × Addr)) (f c : Addr) (N : List Str) (A : Around) (s : Shared) (H : Hp) : Cx where
 prog := X.prog
 w := X.w
 K := X.K
 mg := X.mg
 base := X.base
 A := A.deeper (PySem.W.envX q scope s.heap.objs.size f (.ref c) cl)
 N := N
 s₀ := s
 H₀ := H
 env := PySem.W.envX q scope s.heap.objs.size f (.ref c) cl
 outer := X.stack
 stack := PySem.W.envX q scope s.heap.objs.size f (.ref c) cl :: X.stack
 ex := []
 calm := true
 fn := fun _ => false
 pn := []
 xe := fun _ _ => False
structure LamScope (N : List Str) (osc scope : Scope) (p : Str) (fr : List (Nat × Str)) : Prop where
 kind : scope.kind = .function
 co : scope.isCoroutine = false
 gen : scope.isGenerator = false
 nocell : ∀ y ∈ scope.names, y.2 ≠ .cell
 loc : scope.names.lookup p = some .local
 free : ∀ y ∈ scope.names, y.2 = .free → osc.names.lookup y.1 = some .cell ∨ osc.names.lookup y.1 = some .free
 slot : ∀ z ∈ fr, N[z.1]? = some z.2 ∧ scope.names.lookup z.2 = some .free
def lamStart (x : V) (fr : List (Nat × Str)) (σ : St) : St := some x :: fr.map fun z => (σ[z.1]?).join
section
variable {X : Cx} {pins : List (Addr × Obj)} {σ : St} {H : Hp} {s : Shared} {scope : Scope} {p q : Str} {fr : List (Nat × Str)} {cl : List (Str × Addr)} {f c : Addr} {A : Around} {x : V} {u : Value}
theorem inv_lam {h1 : Heap} {t' : Nat} (S : LamScope X.N X.env.scope scope p fr) (I : Inv X pins σ H s) (hA : A.frames = some X.stack) (hh : A.handled = none)
  (hcl : ∀ x c, cl.lookup x = some c → X.env.cells.lookup x = some c) (hcl2 : ∀ x, (x, NameKind.free) ∈ scope.names → ∃ c, cl.lookup x = some c)
  (k : ∀ b o, s.heap.get? b = some o → h1.get? b = some o) (hn : h1.Ns s.heap.objs.size (fun y => [(p, u)].reverse.lookup y)) (rx : RelV x u) :
  Inv (cxLam X q scope cl f c (p :: fr.map (·.2)) A s H) [] (lamStart x fr σ) H { s with heap := h1, toks := t' } := by
 have okX := I.ok
 refine ⟨⟨okX.mod, S.kind, rfl, rfl, Nat.le_refl _, fun x y c e1 e2 => okX.inj x y c (hcl x c e1) (hcl y c e2), fun y hy => ?_, (fun y c z => nomatch z), fun _ => hh, Around.frames_deeper hA, .inr ⟨rfl, rfl⟩, (fun b z => absurd (show b ∈ ([] : List Addr) from z) (by simp)), I.bs, Nat.le_trans okX.bsz I.sz, (fun b _ _ z => absurd (show b ∈ ([] : List Addr) from z) (by simp)), (fun b z => absurd (show b ∈ ([] : List Addr) from z) (by simp)), I.stack, I.stkFree⟩,
  rfl, I.bare, Un.kept k, ⟨_, hn, fun i y v h1' h2 h3 => ?_⟩, fun y c e => ?_, I.hok.fresh (Nat.le_refl _), fun y c e => I.freeC y c (hcl y c e), (fun p hp => absurd (show p ∈ ([] : List (Addr × Obj)) from hp) (by simp)), I.hok.kept k, ?_⟩
 ·have hy : scope.names.lookup y = some .cell ∨ scope.names.lookup y = some .free := hy
  rcases hy with hy | hy
  ·exact absurd rfl (S.nocell _ (PySem.mem_of_lookup hy))
  ·exact hcl2 y (PySem.mem_of_lookup hy)
 ·cases i with
  | zero =>
   have e1 : p = y := Option.some.inj h1'
   have e2 : x = v := Option.some.inj (Option.some.inj h2)
   subst e1 e2
   refine ⟨u, rx, .inl ⟨S.loc, ?_⟩⟩
   show List.lookup p [(p, u)] = some u
   rw [List.lookup_cons, beq_self_eq_true]
  | succ j =>
   have h1' : (fr.map (·.2))[j]? = some y := h1'
   have h2 : (fr.map fun z => (σ[z.1]?).join)[j]? = some (some v) := h2
   rw [List.getElem?_map] at h1' h2
   cases e : fr[j]? with
   | none => rw [e] at h1'; cases h1'
   | some z =>
    rw [e] at h1' h2
    have e1 : z.2 = y := Option.some.inj h1'
    have e2 : (σ[z.1]?).join = some v := Option.some.inj h2
    obtain ⟨hs1, hs2⟩ := S.slot z (List.mem_of_getElem? e)
    rw [e1] at hs1 hs2
    have e3 : σ[z.1]? = some (some v) := by
     cases w : σ[z.1]? with
     | none => rw [w] at e2; cases e2
     | some w' => rw [w] at e2; exact congrArg some e2
    obtain ⟨mX, hnX, hlX⟩ := I.loc
    have hfr := S.free (y, .free) (PySem.mem_of_lookup hs2) rfl
    have hvis : Vis X.env.scope y := hfr.elim (fun z => .inr (.inl z)) fun z => .inr (.inr z)
    obtain ⟨w, rw', lk⟩ := hlX z.1 y v hs1 e3 hvis
    refine ⟨w, rw', ?_⟩
    rcases lk with ⟨l1, _⟩ | ⟨_, c', l2, l3⟩
    ·have l1 : X.env.scope.names.lookup y = some .local := l1
     rcases hfr with z | z <;> (rw [l1] at z; cases z)
    ·obtain ⟨c2, m1⟩ := hcl2 y (PySem.mem_of_lookup hs2)
     have := hcl y c2 m1
     rw [l2] at this
     cases this
     obtain ⟨o, ho, hd⟩ := l3
     exact .inr ⟨.inr hs2, c', m1, o, k _ _ ho, hd⟩
 ·obtain ⟨v, o, ho, hd⟩ := I.cell y c (hcl y c e)
  exact ⟨v, o, k _ _ ho, hd⟩
 ·show (some x :: fr.map fun z => (σ[z.1]?).join).length = (p :: fr.map (·.2)).length
  rw [List.length_cons, List.length_cons, List.length_map, List.length_map]
theorem lam_call {name : Str} {params : Arguments} {body : Expr} {pm ctv : Value} {te : TE} {Qy : V → Prop} (S : LamScope X.N X.env.scope scope p fr) (I : Inv X pins σ H s) (hA : A.frames = some X.stack) (hh : A.handled = none) (hroom : A.depth < recursionLimit)
  (ho : s.heap.get? f = some (PySem.W.kla_obj name q params body scope cl pm c ctv)) (hc : s.heap.CodeRec (.ref c) q)
  (hb : PE (cxLam X q scope cl f c (p :: fr.map (·.2)) A s H) body te)
  (hbind : ∀ v : Value, bindArgs (PySem.W.kla_fn name q params body scope cl pm (.ref c) ctv) ⟨[v], []⟩ = pure [(p, v)])
  (hcl : ∀ x c, cl.lookup x = some c → X.env.cells.lookup x = some c) (hcl2 : ∀ x, (x, NameKind.free) ∈ scope.names → ∃ c, cl.lookup x = some c)
  (rx : RelV x u) (ht : te (lamStart x fr σ) H fun y H' => H' = H ∧ Qy y) :
  wpAny (model X.prog X.w) A (call (.ref f) [u]) (fun r s' => Inv X pins σ H s' ∧ ∃ y, RelV y r ∧ Qy y) (fun _ _ => False) s := by
 refine wpAny_call (PySem.W.kla_callFunE hroom ho rfl S.co S.gen rfl hc ?_)
 rw [hbind]
 refine wpAny_pure (wpAny_newFunctionEnv S.nocell (fun y hy => by rw [List.mem_singleton.mp hy]; exact S.loc) (fun h₁ hns hsb => ⟨(I.nolimit).fresh _ hsb, ?_⟩) S.kind)
 have k : ∀ b o, s.heap.get? b = some o → h₁.get? b = some o := fun b o e => hsb.extBut b o (Nat.ne_of_lt (Heap.lt_size e)) (Heap.get?_push_of_some _ e)
 have J := inv_lam (q := q) (f := f) (c := c) (A := A) (t' := s.toks + 1) S I hA hh hcl hcl2 k hns rx
 refine PySem.W.kla_codeExpr (wpAny_mono (hb [] _ _ H _ J ht) (fun r s' hs => ?_) fun e s' z => z.elim)
 obtain ⟨y, H', J', ry, rfl, qy⟩ := hs
 obtain ⟨y2, H2, I2, r2, rfl, q2⟩ := I.after (Q := fun y' H'' => H'' = H' ∧ Qy y') ⟨y, H', J'.os, J'.bare, J'.base, J'.hok, ry, rfl, qy⟩
 exact ⟨I2, y2, r2, q2⟩
end
def CodeO (c : Addr) (q : Str) : HO := .ext fun h => h.CodeRec (.ref c) q
def TabHas (H : Hp) (P : Addr) (pos : Pos) (q : Str) (c : Addr) : Prop := H P = some (.tbl #[rawInt pos.line, rawInt pos.col, .ref c]) ∧ H c = some (CodeO c q)
def TabIs (H : Hp) (P : Addr) (pos : Pos) (q : Str) : Prop := H P = some (.tbl #[]) ∨ ∃ c, TabHas H P pos q c
def ButT (P : Addr) (H H' : Hp) : Prop := ∀ b u, b ≠ P → H b = some u → H' b = some u
def BMain (mg : Str → Option Value) (h : Heap) : Prop := ∃ bm ob, mg "__builtins__" = some (.ref bm) ∧ bm ≠ builtinsNs ∧ h.get? bm = some ob ∧ ob.cls = .type "module" ∧ ob.dict = some builtinsNs ∧ ob.data = .plain
section
variable {X : Cx} {pins : List (Addr × Obj)} {σ : St} {H : Hp} {s : Shared} {scope : Scope} {pos : Pos} {params : Arguments} {body : Expr} {c0 P : Addr}
theorem codeO_ok {P : Program} {w : World} {H : Hp} {h : Heap} {c : Addr} {q : Str} (x : h.CodeRec (.ref c) q) : ObjOk P w H h c (CodeO c q) := by
 obtain ⟨c', o, vs, t, e, g, d, r⟩ := x
 cases e
 refine ⟨⟨c, o, vs, t, rfl, g, d, r⟩, ⟨o, g⟩, fun h1 h2 y k => ?_⟩
 obtain ⟨c2, o2, vs2, t2, e2, g2, d2, r2⟩ := y
 cases e2
 exact ⟨c, o2, vs2, t2, rfl, k _ g2, d2, r2⟩
theorem CodeO.of {P : Program} {w : World} {H : Hp} {h : Heap} {c : Addr} {q : Str} (hok : HOk P w H h) (e : H c = some (CodeO c q)) : h.CodeRec (.ref c) q := (hok c _ e).1
set_option maxHeartbeats 4000000 in
theorem lam_make (I : Inv X pins σ H s) (hcode : X.env.code = .ref c0) (hC : PySem.W.codeHdIn X.K c0 P = true) (hB : BMain X.mg X.base) (hT : TabIs H P pos (X.env.qual ++ "<lambda>"))
  (hdef : defaultsOf params X.env = ([], [])) (hcf : ∀ x, (x, NameKind.free) ∈ scope.names → ∃ c, X.env.cells.lookup x = some c) {Q : Value → Shared → Prop}
  (h : ∀ (f c : Addr) (cl : List (Str × Addr)) (pm ctv : Value) (H' : Hp) (s' : Shared), ButT P H H' → TabHas H' P pos (X.env.qual ++ "<lambda>") c → (∀ x c, cl.lookup x = some c → X.env.cells.lookup x = some c) → (∀ x, (x, NameKind.free) ∈ scope.names → ∃ c, cl.lookup x = some c) →
   Inv X ((f, PySem.W.kla_obj "<lambda>" (X.env.qual ++ "<lambda>") params body scope cl pm c ctv) :: pins) σ H' s' → Q (.ref f) s') :
  wpAny (model X.prog X.w) X.A (eval (.Lambda params body scope pos) X.env) Q X.xe s := by
 obtain ⟨cl, hcl, hcl1, hcl2⟩ := closure_ok (scope := scope) (env := X.env) hcf
 have C : PySem.W.CodeHd s.heap c0 P := PySem.W.codeHd_of_K I.kIn hC
 have hgs : s.heap.Ns mainGlobals X.mg := I.ok.mod.glob.keeps I.bk
 have hPn : H P ≠ none := by
  rcases hT with e | ⟨c, e, _⟩ <;> rw [e] <;> simp
 have neP : ∀ b o, X.base.get? b = some o → b ≠ P := fun b o e z => by
  have := (I.bs b o e).2
  rw [z] at this
  exact hPn this
 have hgP : mainGlobals ≠ P := by
  obtain ⟨o, es, ep, e, r⟩ := I.ok.mod.glob
  exact neP _ o e
 have hB2 : s.heap.BuiltinsAt X.mg P := by
  obtain ⟨bm, ob, b1, b2, b3, b4, b5, b6⟩ := hB
  refine ⟨bm, ob, b1, b2, fun z => ?_, neP _ _ b3, I.bk _ _ b3, b4, b5, b6⟩
  obtain ⟨o, es, ep, e, hd, _⟩ := I.ok.mod.glob
  rw [z, e] at b3
  cases b3
  rw [hd] at b6
  cases b6
 have nefs : ∀ {f : Addr}, s.heap.objs.size ≤ f → f ≠ X.env.locals ∧ f ∉ X.fs := fun hf => ⟨Nat.ne_of_gt (Nat.lt_of_lt_of_le I.lt hf), I.nofs hf⟩
 refine PySem.W.kla_eval hdef ?_
 rcases hT with hP | ⟨c, hP, hc⟩
 ·have gP : s.heap.get? P = some (PySem.W.tabObj #[]) := I.hok P _ hP
  refine PySem.W.kla_makeFunction (mg := X.mg) (clos := cl) hcl I.ok.glob hgs hcode C gP trivial rfl hgP hB2 fun c' ctv h' tk hx hge hlt hrec htb => ?_
  rw [Array.empty_append] at htb
  have hc' : H c' = none := I.hok.fresh hge
  have nPc : P ≠ c' := fun z => by rw [z] at hP; rw [hP] at hc'; cases hc'
  have nb : ∀ b u, H b = some u → b ≠ c' := fun b u e z => by rw [z, hc'] at e; cases e
  have H1P : upd (upd H P (.tbl #[rawInt pos.line, rawInt pos.col, .ref c'])) c' (CodeO c' (X.env.qual ++ "<lambda>")) P = some (.tbl #[rawInt pos.line, rawInt pos.col, .ref c']) := by rw [upd_ne nPc, upd_same]
  have but : ButT P H (upd (upd H P (.tbl #[rawInt pos.line, rawInt pos.col, .ref c'])) c' (CodeO c' (X.env.qual ++ "<lambda>"))) := fun b u ne e => by rw [upd_ne (nb b u e), upd_ne ne]; exact e
  have J : Inv X pins σ (upd (upd H P (.tbl #[rawInt pos.line, rawInt pos.col, .ref c'])) c' (CodeO c' (X.env.qual ++ "<lambda>"))) { s with heap := h'.push (PySem.W.kla_obj "<lambda>" (X.env.qual ++ "<lambda>") params body scope cl ((X.mg "__name__").getD .none) c' ctv), gens := s.gens, drawn := s.drawn, toks := tk } := by
   refine I.step (ch := []) (fun _ z => nomatch z) (fun b o _ _ _ e n => ?_) (fun b o _ _ _ e n => ⟨o.slots, ?_⟩) (fun b o _ e n => ?_) (fun b o _ e => ?_) (fun b xs e => ?_) (fun b o u e => ?_) (fun b ps e => ?_) (fun m hm => ?_) (fun b u e => ?_) I.bare
   ·exact Heap.get?_push_of_some _ (hx b o (fun z => hPn (z ▸ n)) e)
   ·exact Heap.get?_push_of_some _ (hx b o (fun z => hPn (z ▸ n)) e)
   ·have z : b ≠ P := fun z => hPn (z ▸ n)
    rw [upd_ne (Nat.ne_of_lt (Nat.lt_of_lt_of_le (Heap.lt_size e) hge)), upd_ne z]
    exact n
   ·by_cases z : b = P
    ·rw [z]
     exact ⟨_, Heap.get?_push_of_some _ htb⟩
    ·exact ⟨o, Heap.get?_push_of_some _ (hx b o z e)⟩
   ·exact but b _ (fun z => by rw [z, hP] at e; cases e) e
   ·exact but b _ (fun z => by rw [z, hP] at e; cases e) e
   ·by_cases z : b = P
    ·rw [z, hP] at e
     cases e
     rw [z]
     exact ⟨#[rawInt pos.line, rawInt pos.col, .ref c'], by rw [H1P]; simp⟩
    ·exact ⟨#[], by rw [but b _ z e]; simp⟩
   ·obtain ⟨o, es, ep, e, r⟩ := hm
    exact ⟨o, es, ep, Heap.get?_push_of_some _ (hx _ o (fun z => hPn (by rw [← z]; exact I.free)) e), r⟩
   ·by_cases z : b = c'
    ·subst z
     rw [upd_same] at e
     cases e
     exact codeO_ok (hrec.push _)
    ·rw [upd_ne z] at e
     by_cases z2 : b = P
     ·subst z2
      rw [upd_same] at e
      cases e
      exact Heap.get?_push_of_some _ htb
     ·rw [upd_ne z2] at e
      refine (I.hok b u e).stay (fun c v hc g => Heap.get?_push_of_some _ (hx c v (fun y => ?_) g)) (fun c hc => but c _ (fun y => ?_) hc) fun c xs hc => but c _ (fun y => ?_) hc
      ·subst y
       rcases hc with rfl | hc
       ·exact z2 rfl
       ·rw [hP] at hc; cases hc
      ·rw [y, hP] at hc; cases hc
      ·rw [y, hP] at hc; cases hc
  refine h h'.objs.size c' cl ((X.mg "__name__").getD .none) ctv _ _ but ⟨H1P, upd_same⟩ hcl1 hcl2 (J.pins_of fun p hp => ?_)
  rcases List.mem_cons.mp hp with rfl | hp
  ·have hsz : s.heap.objs.size ≤ h'.objs.size := Nat.le_of_lt (Nat.lt_of_le_of_lt hge hlt)
   obtain ⟨n1, n2⟩ := nefs hsz
   refine ⟨Heap.get?_push_size _ rfl, ?_, n1, n2, fun v z => by cases z⟩
   rw [upd_ne (Nat.ne_of_gt hlt), upd_ne (fun z => ?_)]
   ·exact I.hok.fresh hsz
   ·have := Heap.lt_size htb
    rw [← z] at this
    exact absurd this (Nat.lt_irrefl _)
  ·exact J.pin p (List.mem_append_right _ hp)
 ·have gP : s.heap.get? P = some (PySem.W.tabObj #[rawInt pos.line, rawInt pos.col, .ref c]) := I.hok P _ hP
  refine PySem.W.kla_makeFunctionHit (mg := X.mg) (clos := cl) (cv := .ref c) hcl I.ok.glob hgs hcode C gP trivial (by simp [codeAmong, rawInt]) hB2 fun ctv h' tk hk hsz => ?_
  have J : Inv X pins σ H { s with heap := h'.push (PySem.W.kla_obj "<lambda>" (X.env.qual ++ "<lambda>") params body scope cl ((X.mg "__name__").getD .none) c ctv), toks := tk } := I.kept fun b u e => Heap.get?_push_of_some _ (hk b u e)
  refine h h'.objs.size c cl ((X.mg "__name__").getD .none) ctv H _ (fun b u _ e => e) ⟨hP, hc⟩ hcl1 hcl2 (J.pins_of fun p hp => ?_)
  rcases List.mem_cons.mp hp with rfl | hp
  ·obtain ⟨n1, n2⟩ := nefs hsz
   exact ⟨Heap.get?_push_size _ rfl, I.hok.fresh hsz, n1, n2, fun v z => by cases z⟩
  ·exact J.pin p (List.mem_append_right _ hp)
end
end L2
namespace L2
open PySem PySem.Spec PyProof.Rows
theorem Inv.turnF {X : Cx} {pins : List (Addr × Obj)} {σ : St} {H : Hp} {s : Shared} {h' : Heap} {t' : Nat} {it : Addr} (I : Inv X pins σ H s) (F : FpOk X pins H it) (k : ∀ b o, b ≠ it → s.heap.get? b = some o → h'.get? b = some o) : Inv X pins σ H { s with heap := h', toks := t' } :=
 I.turned k F.1 F.2.1 F.2.2.2.1 F.2.2.2.2.1 F.2.2.2.2.2
def BestMin (kf : Nat → Int) (n i : Nat) : Prop := ∀ j, j < n → kf i ≤ kf j ∧ (j < i → kf i < kf j)
section
variable {X : Cx} {pins : List (Addr × Obj)} {σ : St} {H : Hp} {A : Around} {R : Result → Shared → Prop}
set_option maxHeartbeats 4000000 in
theorem minL_turns {l I S f : Addr} {xs : List V} (kf : Nat → Int) (hh : A.handled = none) (hlI : l ≠ I) (hSI : S ≠ I) (fS : FpOk X pins H S) (fI : FpOk X pins H I) (hl : ∀ s, Inv X pins σ H s → ∃ its : List Value, Vals xs its ∧ s.heap.IsList l its.toArray)
  (turn : ∀ (pl : List (Addr × Obj)) (i : Nat) (x : V) (v : Value) (s : Shared), xs[i]? = some x → RelV x v → Inv X (pins ++ pl) σ H s → wpAny (model X.prog X.w) A.in1 (call (.ref f) [v]) (fun r s' => Inv X (pins ++ pl) σ H s' ∧ ∃ t, r = .int (kf i) t) (fun _ _ => False) s)
  (hR : ∀ (i : Nat) (x : V) (v : Value) (s' : Shared), xs[i]? = some x → RelV x v → BestMin kf xs.length i → Inv X pins σ H s' → R (.ok (.ret v)) s') :
  ∀ (r j i : Nat) (s : Shared) (c : Nat) (xb : V) (vb : Value) (tb : Tok), xs.length - j = r → j ≤ xs.length → i < j → Inv X pins σ H s → s.heap.get? S = some (seqObj "list" #[vb, .int (kf i) tb] c) → xs[i]? = some xb → RelV xb vb → BestMin kf j i → s.heap.IsListIter I l j →
   codeAny (model X.prog X.w) A (.builtin "min.loop" ⟨[.ref I, .ref f, .ref S], []⟩) R s := by
 have nm : (toString "min" ++ toString ".loop" : String) = "min.loop" := by decide
 intro r
 induction r with
 | zero =>
  intro j i s c xb vb tb hr hj hij J gS exb rxb ba it
  obtain rfl : j = xs.length := by lia
  obtain ⟨its, rv, isl⟩ := hl s J
  have ln := rv.length
  have W := Walks.list (prog := X.prog) (w := X.w) (A := A.in1) hh I l hlI its.toArray
  have sz : its.toArray.size = xs.length := by rw [List.size_toArray, ln]
  obtain ⟨hp, gn, dr, tk, os⟩ := s
  refine codeAny_builtin PySem.F.entry_min_loop ?_
  rw [Around.under_plainId PySem.F.plain_min_loop _]
  show wpAny _ A.in1 (seqItems? (.ref S) >>= _) _ _ _
  refine wpAny_bind (wpAny_seqItems gS rfl ?_)
  show wpAny _ A.in1 (tryCatch (pyNext (.ref I)) _ >>= _) _ _ _
  refine wpAny_bind (wpAny_tryCatch (W.done _ _ _ ⟨by rw [sz]; exact it, isl⟩ fun h1 tk1 k1 => ?_))
  have J1 : Inv X pins σ H ⟨h1, gn, dr, tk1, os⟩ := J.turnF (t' := tk1) fI fun b o nb e => k1 b o (by rw [List.mem_singleton]; exact nb) e
  have gS1 : h1.get? S = some (seqObj "list" #[vb, .int (kf i) tb] c) := k1 S _ (by rw [List.mem_singleton]; exact hSI) gS
  show wpAny _ A.in1 (updateSeq S (fun _ => #[]) >>= _) _ _ _
  refine wpAny_bind (wpAny_updateSeq gS1 rfl (wpAny_bind (wpAny_letGo (wpAny_pure ?_))))
  have sb := Heap.SameBut.update h1 S (Obj.mapSeq fun _ => (#[] : Array Value))
  exact hR i xb vb _ exb rxb ba (J1.turnF (t' := tk1) fS fun b o nb e => (sb.2 b nb).trans e)
 | succ r ih =>
  intro j i s c xb vb tb hr hj hij J gS exb rxb ba it
  have hlt : j < xs.length := by lia
  obtain ⟨its, rv, isl⟩ := hl s J
  have ln := rv.length
  have W := Walks.list (prog := X.prog) (w := X.w) (A := A.in1) hh I l hlI its.toArray
  have sz : its.toArray.size = xs.length := by rw [List.size_toArray, ln]
  obtain ⟨hp, gn, dr, tk, os⟩ := s
  refine codeAny_builtin PySem.F.entry_min_loop ?_
  rw [Around.under_plainId PySem.F.plain_min_loop _]
  show wpAny _ A.in1 (seqItems? (.ref S) >>= _) _ _ _
  refine wpAny_bind (wpAny_seqItems gS rfl ?_)
  show wpAny _ A.in1 (tryCatch (pyNext (.ref I)) _ >>= _) _ _ _
  refine wpAny_bind (wpAny_tryCatch (W.item j _ _ _ (by rw [sz]; exact hlt) ⟨it, isl⟩ fun v h1 tk1 pv st1 k1 => ?_))
  have ev : its[j]? = some v := by simpa using pv
  have ex : xs[j]? = some (xs[j]'hlt) := List.getElem?_eq_getElem _
  have rx : RelV (xs[j]'hlt) v := by
   obtain ⟨v', w1, w2⟩ := rv.get ex
   rw [ev] at w1
   cases w1
   exact w2
  have J1 : Inv X pins σ H ⟨h1, gn, dr, tk1, os⟩ := J.turnF (t' := tk1) fI fun b o nb e => k1 b o (by rw [List.mem_singleton]; exact nb) e
  have gS1 : h1.get? S = some (seqObj "list" #[vb, .int (kf i) tb] c) := k1 S _ (by rw [List.mem_singleton]; exact hSI) gS
  obtain ⟨oI, gI1, cI, dI⟩ := id st1.1
  have J2 := J1.pinned (fp := [S, I]) (fun b hb => by
   rcases List.mem_cons.mp hb with rfl | hb
   ·exact fS
   ·rw [List.mem_singleton.mp hb]
    exact fI) (fun b hb => by
   rcases List.mem_cons.mp hb with rfl | hb
   ·exact ⟨_, gS1, fun v z => by cases z⟩
   ·rw [List.mem_singleton.mp hb]
    exact ⟨oI, gI1, fun v z => by rw [dI] at z; cases z⟩)
  show wpAny _ A.in1 (tryCatch (holding [v] (call (.ref f) [v])) _ >>= _) _ _ _
  refine wpAny_bind (wpAny_tryCatch (wpAny_holding (wpAny_mono (turn _ j _ v _ ex rx J2) (fun x s2 he => ?_) fun _ _ z => z.elim)))
  obtain ⟨J3, t2, rfl⟩ := he
  have gS2 := (J3.pin _ (List.mem_append_right _ (List.mem_append_right _ (mem_pinsAt (List.mem_cons_self ..) gS1)))).1
  have gI2 := (J3.pin _ (List.mem_append_right _ (List.mem_append_right _ (mem_pinsAt (List.mem_cons_of_mem _ (List.mem_cons_self ..)) gI1)))).1
  have J4 : Inv X pins σ H s2 := J3.unpinned
  have it2 : s2.heap.IsListIter I l (j + 1) := ⟨oI, gI2, cI, dI⟩
  obtain ⟨hp2, gn2, dr2, tk2, os2⟩ := s2
  show wpAny _ A.in1 (tryCatch (holding [v, .int (kf j) t2] (richCompare .Lt (.int (kf j) t2) (.int (kf i) tb) >>= _)) _ >>= _) _ _ _
  refine wpAny_bind (wpAny_tryCatch (wpAny_holding (wpAny_bind (CmpOf.ints_lt (prog := X.prog) (w := X.w) (A := A.in1) (P := fun i v => ∃ t, v = .int (kf i) t) kf (fun i v z => z) j i _ _ _ _ _ ⟨_, rfl⟩ ⟨_, rfl⟩ ?_))))
  refine wpAny_bind (wpAny_holding (wpAny_truthy_bool ?_))
  refine wpAny_bind (wpAny_letGo (wpAny_pure ?_))
  by_cases less : kf j < kf i
  ·simp only [less, decide_true, if_true]
   refine wpAny_bind (wpAny_updateSeq gS2 rfl (wpAny_bind (wpAny_letGo ?_)))
   rw [nm]
   have sb := Heap.SameBut.update hp2 S (Obj.mapSeq fun _ => #[v, .int (kf j) t2])
   refine wpAny_pure ⟨plainId_quiet PySem.F.plain_min_loop _, ih (j + 1) j _ _ _ v t2 (by lia) (by lia) (Nat.lt_succ_self _) (J4.turnF fS fun b o nb e => (sb.2 b nb).trans e) (get?_update_seq gS2 _) ex rx (fun j' hj' => ?_) ⟨oI, (sb.2 I (Ne.symm hSI)).trans gI2, cI, dI⟩⟩
   by_cases e : j' = j
   ·subst e
    exact ⟨by lia, fun z => absurd z (Nat.lt_irrefl _)⟩
   ·have := (ba j' (by lia)).1
    exact ⟨by lia, fun _ => by lia⟩
  ·simp only [less, decide_false, Bool.false_eq_true, if_false]
   refine wpAny_bind (wpAny_letGo ?_)
   rw [nm]
   refine wpAny_pure ⟨plainId_quiet PySem.F.plain_min_loop _, ih (j + 1) i _ _ xb vb tb (by lia) (by lia) (by lia) J4 gS2 exb rxb (fun j' hj' => ?_) it2⟩
   by_cases e : j' = j
   ·subst e
    exact ⟨by lia, fun z => by lia⟩
   ·exact ba j' (by lia)
theorem args_min_k (a v : Value) : argsOk "min" ⟨[a], [(Str.ofString "key", v)]⟩ := by unfold argsOk; kernel_rfl
set_option maxHeartbeats 4000000 in
theorem min_lam {s : Shared} {l f : Addr} {xs : List V} {Q : Value → Shared → Prop} {E : Value → Shared → Prop} (kf : Nat → Int) (hh : A.handled = none) (J : Inv X pins σ H s) (hl : ∀ s, Inv X pins σ H s → ∃ its : List Value, Vals xs its ∧ s.heap.IsList l its.toArray) (ne : 0 < xs.length)
  (turn : ∀ (pl : List (Addr × Obj)) (i : Nat) (x : V) (v : Value) (s : Shared), xs[i]? = some x → RelV x v → Inv X (pins ++ pl) σ H s → wpAny (model X.prog X.w) A.in1 (call (.ref f) [v]) (fun r s' => Inv X (pins ++ pl) σ H s' ∧ ∃ t, r = .int (kf i) t) (fun _ _ => False) s)
  (hQ : ∀ (i : Nat) (x : V) (v : Value) (s' : Shared), xs[i]? = some x → RelV x v → BestMin kf xs.length i → Inv X pins σ H s' → Q v s') :
  wpAny (model X.prog X.w) A (call (.builtin "min") [.ref l] [(Str.ofString "key", .ref f)]) Q E s := by
 have nm : (toString "min" ++ toString ".loop" : String) = "min.loop" := by decide
 obtain ⟨its0, rv0, hls⟩ := hl s J
 obtain ⟨ol, gl, _⟩ := id hls
 have ll : l < s.heap.objs.size := Heap.lt_size gl
 refine kmb_tree PySem.F.kind_min PySem.F.plain_min PySem.F.entry_min (args_min_k _ _) ?_
 show wpAny _ A.in1 (Builtin.Builtins.bindParams "min" ["key", "default"] 0 ⟨[], [(Str.ofString "key", .ref f)]⟩ >>= _) _ _ s
 refine wpAny_bind (wpAny_of_eq (show Builtin.Builtins.bindParams "min" ["key", "default"] 0 ⟨[], [(Str.ofString "key", .ref f)]⟩ = pure [some (.ref f), none] from rfl) ?_)
 refine wpAny_bind (wpAny_pure (wpAny_bind (wpAny_pyIter_list hls (wpAny_bind (wpAny_newList ?_ (Nat.zero_le _))))))
 rw [nm]
 have zS : (s.heap.push { cls := .type "list_iterator", data := .fields #[.ref l, .int 0 0] }).objs.size = s.heap.objs.size + 1 := size_push' ..
 refine wpAny_pure ⟨plainId_quiet PySem.F.plain_min_loop _, ?_⟩
 obtain ⟨hp, gn, dr, tk, os⟩ := s
 have J0 : Inv X pins σ H ⟨(hp.push { cls := .type "list_iterator", data := .fields #[.ref l, .int 0 0] }).push (seqObj "list" #[] 0), gn, dr, tk, os⟩ := J.kept (t' := tk) fun b u e => Heap.get?_push_of_some _ (Heap.get?_push_of_some _ e)
 have fI : FpOk X pins H hp.objs.size := J.fpOk (Nat.le_refl _) (J.hok.fresh (Nat.le_refl _))
 have fS : FpOk X pins H (hp.push { cls := .type "list_iterator", data := .fields #[.ref l, .int 0 0] }).objs.size := J.fpOk (by rw [zS]; exact Nat.le_succ _) (J.hok.fresh (by rw [zS]; exact Nat.le_succ _))
 have gI : ((hp.push { cls := .type "list_iterator", data := .fields #[.ref l, .int 0 0] }).push (seqObj "list" #[] 0)).get? hp.objs.size = some { cls := .type "list_iterator", data := .fields #[.ref l, .int 0 0] } := Heap.get?_push_of_some _ (Heap.get?_push_size _ rfl)
 have gS : ((hp.push { cls := .type "list_iterator", data := .fields #[.ref l, .int 0 0] }).push (seqObj "list" #[] 0)).get? (hp.push { cls := .type "list_iterator", data := .fields #[.ref l, .int 0 0] }).objs.size = some (seqObj "list" #[] 0) := Heap.get?_push_size _ rfl
 have hSI : (hp.push { cls := .type "list_iterator", data := .fields #[.ref l, .int 0 0] }).objs.size ≠ hp.objs.size := by rw [zS]; exact Nat.succ_ne_self _
 have hlI : l ≠ hp.objs.size := Nat.ne_of_lt ll
 generalize (hp.push { cls := .type "list_iterator", data := .fields #[.ref l, .int 0 0] }).objs.size = S at fS gS hSI ⊢
 obtain ⟨its, rv, isl⟩ := hl _ J0
 have ln := rv.length
 have W := Walks.list (prog := X.prog) (w := X.w) (A := A.in1) hh hp.objs.size l hlI its.toArray
 have sz : its.toArray.size = xs.length := by rw [List.size_toArray, ln]
 refine codeAny_builtin PySem.F.entry_min_loop ?_
 rw [Around.under_plainId PySem.F.plain_min_loop _]
 show wpAny _ A.in1 (seqItems? (.ref S) >>= _) _ _ _
 refine wpAny_bind (wpAny_seqItems gS rfl ?_)
 show wpAny _ A.in1 (tryCatch (pyNext (.ref hp.objs.size)) _ >>= _) _ _ _
 refine wpAny_bind (wpAny_tryCatch (W.item 0 _ _ _ (by rw [sz]; exact ne) ⟨⟨_, gI, rfl, rfl⟩, isl⟩ fun v h1 tk1 pv st1 k1 => ?_))
 have ev : its[0]? = some v := by simpa using pv
 have ex : xs[0]? = some (xs[0]'ne) := List.getElem?_eq_getElem _
 have rx : RelV (xs[0]'ne) v := by
  obtain ⟨v', w1, w2⟩ := rv.get ex
  rw [ev] at w1
  cases w1
  exact w2
 have J1 : Inv X pins σ H ⟨h1, gn, dr, tk1, os⟩ := J0.turnF (t' := tk1) fI fun b o nb e => k1 b o (by rw [List.mem_singleton]; exact nb) e
 have gS1 : h1.get? S = some (seqObj "list" #[] 0) := k1 S _ (by rw [List.mem_singleton]; exact hSI) gS
 obtain ⟨oI, gI1, cI, dI⟩ := id st1.1
 have J2 := J1.pinned (fp := [S, hp.objs.size]) (fun b hb => by
  rcases List.mem_cons.mp hb with rfl | hb
  ·exact fS
  ·rw [List.mem_singleton.mp hb]
   exact fI) (fun b hb => by
  rcases List.mem_cons.mp hb with rfl | hb
  ·exact ⟨_, gS1, fun v z => by cases z⟩
  ·rw [List.mem_singleton.mp hb]
   exact ⟨oI, gI1, fun v z => by rw [dI] at z; cases z⟩)
 show wpAny _ A.in1 (tryCatch (holding [v] (call (.ref f) [v])) _ >>= _) _ _ _
 refine wpAny_bind (wpAny_tryCatch (wpAny_holding (wpAny_mono (turn _ 0 _ v _ ex rx J2) (fun x s2 he => ?_) fun _ _ z => z.elim)))
 obtain ⟨J3, t2, rfl⟩ := he
 have gS2 := (J3.pin _ (List.mem_append_right _ (List.mem_append_right _ (mem_pinsAt (List.mem_cons_self ..) gS1)))).1
 have gI2 := (J3.pin _ (List.mem_append_right _ (List.mem_append_right _ (mem_pinsAt (List.mem_cons_of_mem _ (List.mem_cons_self ..)) gI1)))).1
 have J4 : Inv X pins σ H s2 := J3.unpinned
 obtain ⟨hp2, gn2, dr2, tk2, os2⟩ := s2
 show wpAny _ A.in1 (updateSeq S (fun _ => #[v, .int (kf 0) t2]) >>= _) _ _ _
 refine wpAny_bind (wpAny_updateSeq gS2 rfl ?_)
 rw [nm]
 have sb := Heap.SameBut.update hp2 S (Obj.mapSeq fun _ => #[v, .int (kf 0) t2])
 refine wpAny_pure ⟨plainId_quiet PySem.F.plain_min_loop _, minL_turns kf hh hlI hSI fS fI hl turn hQ _ 1 0 _ _ _ v t2 rfl (by lia) (by decide) (J4.turnF fS fun b o nb e => (sb.2 b nb).trans e) (get?_update_seq gS2 _) ex rx (fun j' hj' => ?_) ⟨oI, (sb.2 _ (Ne.symm hSI)).trans gI2, cI, dI⟩⟩
 obtain rfl : j' = 0 := by lia
 exact ⟨by lia, fun z => absurd z (Nat.lt_irrefl _)⟩
end
section
variable {X : Cx} {e body : Expr} {t : TA} {te : TE} {pn kp pos lpos : Pos} {params : Arguments} {scope : Scope} {p : Str} {c0 P : Addr} {n : Nat}
def tMinLam (K : PySem.W.Frag) (P : Addr) (lpos : Pos) (q : Str) (fr : List (Nat × Str)) (t : TA) (te : TE) : TE := fun σ H Q => t σ H fun vs H1 => ∃ (l : Addr) (xs : List V), vs = [.ref l] ∧ xs ≠ [] ∧ TabIs H1 P lpos q ∧
 ∀ (H2 : Hp) (c : Addr), ButT P H1 H2 → TabHas H2 P lpos q c → SqL K H2 l xs ∧ ∃ kf : Nat → Int, (∀ i x, xs[i]? = some x → te (lamStart x fr σ) H2 fun y H' => H' = H2 ∧ y = .int (kf i)) ∧ ∀ i x, xs[i]? = some x → BestMin kf xs.length i → Q x H2
theorem pe_minLam (K : PySem.W.Frag) (fr : List (Nat × Str)) (hr : Room n X.A) (hc : X.calm = true) (hg : Gl X "min") (hm : X.mg "min" = none) (hcode : X.env.code = .ref c0) (hC : PySem.W.codeHdIn X.K c0 P = true) (hB : BMain X.mg X.base)
  (S : LamScope X.N X.env.scope scope p fr) (ha : PA X [e] t) (hb : ∀ (q : Str) (cl : List (Str × Addr)) (f c : Addr) (A : Around) (s : Shared) (H : Hp), PE (cxLam X q scope cl f c (p :: fr.map (·.2)) A s H) body te) (hK : X.K = K := by rfl)
  (hdef : defaultsOf params X.env = ([], []) := by rfl) (hbind : ∀ (q : Str) (cl : List (Str × Addr)) (pm cv ctv v : Value), bindArgs (PySem.W.kla_fn "<lambda>" q params body scope cl pm cv ctv) ⟨[v], []⟩ = pure [(p, v)] := by intros; rfl)
  (he : starEach [e] X.env = (false, eval e X.env) :: starEach [] X.env := by rfl) (hall : (backToKw pos (keywordEach [⟨some "key", .Lambda params body scope lpos, kp⟩] X.env)).all (·.1.isSome) = true := by rfl)
  (hks : (backToKw pos (keywordEach [⟨some "key", .Lambda params body scope lpos, kp⟩] X.env)).filterMap (·.1) = [Str.ofString "key"] := by rfl)
  (hkn : (backToKw pos (keywordEach [⟨some "key", .Lambda params body scope lpos, kp⟩] X.env)).any (·.1.isNone) = false := by rfl)
  (hpl : (backTo pos (starEach [e] X.env)).any (·.1) = false := by rfl) :
  PE X (.Call (.Name "min" pn) [e] [⟨some "key", .Lambda params body scope lpos, kp⟩] pos) (tMinLam K P lpos (X.env.qual ++ "<lambda>") fr t te) := by
 subst hK
 intro pins s σ H Q I h
 refine wpAny_Call_Name_kw (ld_blt I hg hm boot_min ?_ (by decide) (by decide))
 refine callWith_builtin_kwB hpl hkn ?_
 refine PyProof.Rows.evalArgs_kw2 hall (thn (ha pos pins s σ H _ I h) fun us s1 ⟨vs, H1, I1, r1, q1⟩ => ?_) he
 obtain ⟨l, xs, rfl, ne, tab, q2⟩ := q1
 obtain ⟨u, rfl, rx⟩ := vals1 r1
 cases rx
 refine kws_cons (lam_make I1 hcode hC hB tab hdef (fun x hx => I1.ok.has x ?_) fun f c cl pm ctv H2 s2 but has hcl hcl2 I2 => kws_nil ?_)
 ·rcases S.free (x, .free) hx rfl with z | z
  ·exact .inl z
  ·exact .inr z
 rw [hks]
 obtain ⟨hl, kf, hkf, qq⟩ := q2 H2 c but has
 show wpAny _ _ (call (.builtin "min") [.ref l] [(Str.ofString "key", .ref f)]) _ _ _
 refine min_lam (xs := xs) kf (I2.ok.hd hc) I2 (fun s' J => by
  obtain ⟨its, rv, pl, hz⟩ := J.list hl
  exact ⟨its, rv, pl.isList⟩) (List.length_pos_iff.mpr ne) (fun pl i x v s3 ex rx J => ?_) fun i x v s3 ex rx best J => ?_
 ·have gf := (J.pin _ (List.mem_append_right _ (List.mem_append_left _ (List.mem_cons_self ..)))).1
  refine wpAny_mono (lam_call S J (A := X.A.in1) J.ok.frames (J.ok.hd hc) hr.depth gf (CodeO.of J.hok has.2) (hb _ _ _ _ _ _ _) (fun v => hbind _ _ _ _ _ v) hcl hcl2 rx (Qy := fun y => y = .int (kf i)) (hkf i _ ex)) (fun r s4 hs => ?_) fun _ _ z => z
  obtain ⟨J4, y, ry, rfl⟩ := hs
  exact ⟨J4, ry⟩
 ·exact ⟨_, H2, J.pins_of fun p hp => J.pin p (List.mem_append_right _ (List.mem_cons_of_mem _ hp)), rx, qq i _ ex best⟩
end
def BestMax (kf : Nat → Int) (n i : Nat) : Prop := ∀ j, j < n → kf i ≥ kf j ∧ (j < i → kf i > kf j)
section
variable {X : Cx} {pins : List (Addr × Obj)} {σ : St} {H : Hp} {A : Around} {R : Result → Shared → Prop}
set_option maxHeartbeats 4000000 in
theorem maxL_turns {l I S f : Addr} {xs : List V} (kf : Nat → Int) (hh : A.handled = none) (hlI : l ≠ I) (hSI : S ≠ I) (fS : FpOk X pins H S) (fI : FpOk X pins H I) (hl : ∀ s, Inv X pins σ H s → ∃ its : List Value, Vals xs its ∧ s.heap.IsList l its.toArray)
  (turn : ∀ (pl : List (Addr × Obj)) (i : Nat) (x : V) (v : Value) (s : Shared), xs[i]? = some x → RelV x v → Inv X (pins ++ pl) σ H s → wpAny (model X.prog X.w) A.in1 (call (.ref f) [v]) (fun r s' => Inv X (pins ++ pl) σ H s' ∧ ∃ t, r = .int (kf i) t) (fun _ _ => False) s)
  (hR : ∀ (i : Nat) (x : V) (v : Value) (s' : Shared), xs[i]? = some x → RelV x v → BestMax kf xs.length i → Inv X pins σ H s' → R (.ok (.ret v)) s') :
  ∀ (r j i : Nat) (s : Shared) (c : Nat) (xb : V) (vb : Value) (tb : Tok), xs.length - j = r → j ≤ xs.length → i < j → Inv X pins σ H s → s.heap.get? S = some (seqObj "list" #[vb, .int (kf i) tb] c) → xs[i]? = some xb → RelV xb vb → BestMax kf j i → s.heap.IsListIter I l j →
   codeAny (model X.prog X.w) A (.builtin "max.loop" ⟨[.ref I, .ref f, .ref S], []⟩) R s := by
 have nm : (toString "max" ++ toString ".loop" : String) = "max.loop" := by decide
 intro r
 induction r with
 | zero =>
  intro j i s c xb vb tb hr hj hij J gS exb rxb ba it
  obtain rfl : j = xs.length := by lia
  obtain ⟨its, rv, isl⟩ := hl s J
  have ln := rv.length
  have W := Walks.list (prog := X.prog) (w := X.w) (A := A.in1) hh I l hlI its.toArray
  have sz : its.toArray.size = xs.length := by rw [List.size_toArray, ln]
  obtain ⟨hp, gn, dr, tk, os⟩ := s
  refine codeAny_builtin PySem.F.entry_max_loop ?_
  rw [Around.under_plainId PySem.F.plain_max_loop _]
  show wpAny _ A.in1 (seqItems? (.ref S) >>= _) _ _ _
  refine wpAny_bind (wpAny_seqItems gS rfl ?_)
  show wpAny _ A.in1 (tryCatch (pyNext (.ref I)) _ >>= _) _ _ _
  refine wpAny_bind (wpAny_tryCatch (W.done _ _ _ ⟨by rw [sz]; exact it, isl⟩ fun h1 tk1 k1 => ?_))
  have J1 : Inv X pins σ H ⟨h1, gn, dr, tk1, os⟩ := J.turnF (t' := tk1) fI fun b o nb e => k1 b o (by rw [List.mem_singleton]; exact nb) e
  have gS1 : h1.get? S = some (seqObj "list" #[vb, .int (kf i) tb] c) := k1 S _ (by rw [List.mem_singleton]; exact hSI) gS
  show wpAny _ A.in1 (updateSeq S (fun _ => #[]) >>= _) _ _ _
  refine wpAny_bind (wpAny_updateSeq gS1 rfl (wpAny_bind (wpAny_letGo (wpAny_pure ?_))))
  have sb := Heap.SameBut.update h1 S (Obj.mapSeq fun _ => (#[] : Array Value))
  exact hR i xb vb _ exb rxb ba (J1.turnF (t' := tk1) fS fun b o nb e => (sb.2 b nb).trans e)
 | succ r ih =>
  intro j i s c xb vb tb hr hj hij J gS exb rxb ba it
  have hlt : j < xs.length := by lia
  obtain ⟨its, rv, isl⟩ := hl s J
  have ln := rv.length
  have W := Walks.list (prog := X.prog) (w := X.w) (A := A.in1) hh I l hlI its.toArray
  have sz : its.toArray.size = xs.length := by rw [List.size_toArray, ln]
  obtain ⟨hp, gn, dr, tk, os⟩ := s
  refine codeAny_builtin PySem.F.entry_max_loop ?_
  rw [Around.under_plainId PySem.F.plain_max_loop _]
  show wpAny _ A.in1 (seqItems? (.ref S) >>= _) _ _ _
  refine wpAny_bind (wpAny_seqItems gS rfl ?_)
  show wpAny _ A.in1 (tryCatch (pyNext (.ref I)) _ >>= _) _ _ _
  refine wpAny_bind (wpAny_tryCatch (W.item j _ _ _ (by rw [sz]; exact hlt) ⟨it, isl⟩ fun v h1 tk1 pv st1 k1 => ?_))
  have ev : its[j]? = some v := by simpa using pv
  have ex : xs[j]? = some (xs[j]'hlt) := List.getElem?_eq_getElem _
  have rx : RelV (xs[j]'hlt) v := by
   obtain ⟨v', w1, w2⟩ := rv.get ex
   rw [ev] at w1
   cases w1
   exact w2
  have J1 : Inv X pins σ H ⟨h1, gn, dr, tk1, os⟩ := J.turnF (t' := tk1) fI fun b o nb e => k1 b o (by rw [List.mem_singleton]; exact nb) e
  have gS1 : h1.get? S = some (seqObj "list" #[vb, .int (kf i) tb] c) := k1 S _ (by rw [List.mem_singleton]; exact hSI) gS
  obtain ⟨oI, gI1, cI, dI⟩ := id st1.1
  have J2 := J1.pinned (fp := [S, I]) (fun b hb => by
   rcases List.mem_cons.mp hb with rfl | hb
   ·exact fS
   ·rw [List.mem_singleton.mp hb]
    exact fI) (fun b hb => by
   rcases List.mem_cons.mp hb with rfl | hb
   ·exact ⟨_, gS1, fun v z => by cases z⟩
   ·rw [List.mem_singleton.mp hb]
    exact ⟨oI, gI1, fun v z => by rw [dI] at z; cases z⟩)
  show wpAny _ A.in1 (tryCatch (holding [v] (call (.ref f) [v])) _ >>= _) _ _ _
  refine wpAny_bind (wpAny_tryCatch (wpAny_holding (wpAny_mono (turn _ j _ v _ ex rx J2) (fun x s2 he => ?_) fun _ _ z => z.elim)))
  obtain ⟨J3, t2, rfl⟩ := he
  have gS2 := (J3.pin _ (List.mem_append_right _ (List.mem_append_right _ (mem_pinsAt (List.mem_cons_self ..) gS1)))).1
  have gI2 := (J3.pin _ (List.mem_append_right _ (List.mem_append_right _ (mem_pinsAt (List.mem_cons_of_mem _ (List.mem_cons_self ..)) gI1)))).1
  have J4 : Inv X pins σ H s2 := J3.unpinned
  have it2 : s2.heap.IsListIter I l (j + 1) := ⟨oI, gI2, cI, dI⟩
  obtain ⟨hp2, gn2, dr2, tk2, os2⟩ := s2
  show wpAny _ A.in1 (tryCatch (holding [v, .int (kf j) t2] (richCompare .Gt (.int (kf j) t2) (.int (kf i) tb) >>= _)) _ >>= _) _ _ _
  refine wpAny_bind (wpAny_tryCatch (wpAny_holding (wpAny_bind (CmpOf.ints_gt (prog := X.prog) (w := X.w) (A := A.in1) (P := fun i v => ∃ t, v = .int (kf i) t) kf (fun i v z => z) j i _ _ _ _ _ ⟨_, rfl⟩ ⟨_, rfl⟩ ?_))))
  refine wpAny_bind (wpAny_holding (wpAny_truthy_bool ?_))
  refine wpAny_bind (wpAny_letGo (wpAny_pure ?_))
  by_cases less : kf j > kf i
  ·simp only [less, decide_true, if_true]
   refine wpAny_bind (wpAny_updateSeq gS2 rfl (wpAny_bind (wpAny_letGo ?_)))
   rw [nm]
   have sb := Heap.SameBut.update hp2 S (Obj.mapSeq fun _ => #[v, .int (kf j) t2])
   refine wpAny_pure ⟨plainId_quiet PySem.F.plain_max_loop _, ih (j + 1) j _ _ _ v t2 (by lia) (by lia) (Nat.lt_succ_self _) (J4.turnF fS fun b o nb e => (sb.2 b nb).trans e) (get?_update_seq gS2 _) ex rx (fun j' hj' => ?_) ⟨oI, (sb.2 I (Ne.symm hSI)).trans gI2, cI, dI⟩⟩
   by_cases e : j' = j
   ·subst e
    exact ⟨by lia, fun z => absurd z (Nat.lt_irrefl _)⟩
   ·have := (ba j' (by lia)).1
    exact ⟨by lia, fun _ => by lia⟩
  ·simp only [less, decide_false, Bool.false_eq_true, if_false]
   refine wpAny_bind (wpAny_letGo ?_)
   rw [nm]
   refine wpAny_pure ⟨plainId_quiet PySem.F.plain_max_loop _, ih (j + 1) i _ _ xb vb tb (by lia) (by lia) (by lia) J4 gS2 exb rxb (fun j' hj' => ?_) it2⟩
   by_cases e : j' = j
   ·subst e
    exact ⟨by lia, fun z => by lia⟩
   ·exact ba j' (by lia)
theorem args_max_k (a v : Value) : argsOk "max" ⟨[a], [(Str.ofString "key", v)]⟩ := by unfold argsOk; kernel_rfl
set_option maxHeartbeats 4000000 in
theorem max_lam {s : Shared} {l f : Addr} {xs : List V} {Q : Value → Shared → Prop} {E : Value → Shared → Prop} (kf : Nat → Int) (hh : A.handled = none) (J : Inv X pins σ H s) (hl : ∀ s, Inv X pins σ H s → ∃ its : List Value, Vals xs its ∧ s.heap.IsList l its.toArray) (ne : 0 < xs.length)
  (turn : ∀ (pl : List (Addr × Obj)) (i : Nat) (x : V) (v : Value) (s : Shared), xs[i]? = some x → RelV x v → Inv X (pins ++ pl) σ H s → wpAny (model X.prog X.w) A.in1 (call (.ref f) [v]) (fun r s' => Inv X (pins ++ pl) σ H s' ∧ ∃ t, r = .int (kf i) t) (fun _ _ => False) s)
  (hQ : ∀ (i : Nat) (x : V) (v : Value) (s' : Shared), xs[i]? = some x → RelV x v → BestMax kf xs.length i → Inv X pins σ H s' → Q v s') :
  wpAny (model X.prog X.w) A (call (.builtin "max") [.ref l] [(Str.ofString "key", .ref f)]) Q E s := by
 have nm : (toString "max" ++ toString ".loop" : String) = "max.loop" := by decide
 obtain ⟨its0, rv0, hls⟩ := hl s J
 obtain ⟨ol, gl, _⟩ := id hls
 have ll : l < s.heap.objs.size := Heap.lt_size gl
 refine kmb_tree PySem.F.kind_max PySem.F.plain_max PySem.F.entry_max (args_max_k _ _) ?_
 show wpAny _ A.in1 (Builtin.Builtins.bindParams "max" ["key", "default"] 0 ⟨[], [(Str.ofString "key", .ref f)]⟩ >>= _) _ _ s
 refine wpAny_bind (wpAny_of_eq (show Builtin.Builtins.bindParams "max" ["key", "default"] 0 ⟨[], [(Str.ofString "key", .ref f)]⟩ = pure [some (.ref f), none] from rfl) ?_)
 refine wpAny_bind (wpAny_pure (wpAny_bind (wpAny_pyIter_list hls (wpAny_bind (wpAny_newList ?_ (Nat.zero_le _))))))
 rw [nm]
 have zS : (s.heap.push { cls := .type "list_iterator", data := .fields #[.ref l, .int 0 0] }).objs.size = s.heap.objs.size + 1 := size_push' ..
 refine wpAny_pure ⟨plainId_quiet PySem.F.plain_max_loop _, ?_⟩
 obtain ⟨hp, gn, dr, tk, os⟩ := s
 have J0 : Inv X pins σ H ⟨(hp.push { cls := .type "list_iterator", data := .fields #[.ref l, .int 0 0] }).push (seqObj "list" #[] 0), gn, dr, tk, os⟩ := J.kept (t' := tk) fun b u e => Heap.get?_push_of_some _ (Heap.get?_push_of_some _ e)
 have fI : FpOk X pins H hp.objs.size := J.fpOk (Nat.le_refl _) (J.hok.fresh (Nat.le_refl _))
 have fS : FpOk X pins H (hp.push { cls := .type "list_iterator", data := .fields #[.ref l, .int 0 0] }).objs.size := J.fpOk (by rw [zS]; exact Nat.le_succ _) (J.hok.fresh (by rw [zS]; exact Nat.le_succ _))
 have gI : ((hp.push { cls := .type "list_iterator", data := .fields #[.ref l, .int 0 0] }).push (seqObj "list" #[] 0)).get? hp.objs.size = some { cls := .type "list_iterator", data := .fields #[.ref l, .int 0 0] } := Heap.get?_push_of_some _ (Heap.get?_push_size _ rfl)
 have gS : ((hp.push { cls := .type "list_iterator", data := .fields #[.ref l, .int 0 0] }).push (seqObj "list" #[] 0)).get? (hp.push { cls := .type "list_iterator", data := .fields #[.ref l, .int 0 0] }).objs.size = some (seqObj "list" #[] 0) := Heap.get?_push_size _ rfl
 have hSI : (hp.push { cls := .type "list_iterator", data := .fields #[.ref l, .int 0 0] }).objs.size ≠ hp.objs.size := by rw [zS]; exact Nat.succ_ne_self _
 have hlI : l ≠ hp.objs.size := Nat.ne_of_lt ll
 generalize (hp.push { cls := .type "list_iterator", data := .fields #[.ref l, .int 0 0] }).objs.size = S at fS gS hSI ⊢
 obtain ⟨its, rv, isl⟩ := hl _ J0
 have ln := rv.length
 have W := Walks.list (prog := X.prog) (w := X.w) (A := A.in1) hh hp.objs.size l hlI its.toArray
 have sz : its.toArray.size = xs.length := by rw [List.size_toArray, ln]
 refine codeAny_builtin PySem.F.entry_max_loop ?_
 rw [Around.under_plainId PySem.F.plain_max_loop _]
 show wpAny _ A.in1 (seqItems? (.ref S) >>= _) _ _ _
 refine wpAny_bind (wpAny_seqItems gS rfl ?_)
 show wpAny _ A.in1 (tryCatch (pyNext (.ref hp.objs.size)) _ >>= _) _ _ _
 refine wpAny_bind (wpAny_tryCatch (W.item 0 _ _ _ (by rw [sz]; exact ne) ⟨⟨_, gI, rfl, rfl⟩, isl⟩ fun v h1 tk1 pv st1 k1 => ?_))
 have ev : its[0]? = some v := by simpa using pv
 have ex : xs[0]? = some (xs[0]'ne) := List.getElem?_eq_getElem _
 have rx : RelV (xs[0]'ne) v := by
  obtain ⟨v', w1, w2⟩ := rv.get ex
  rw [ev] at w1
  cases w1
  exact w2
 have J1 : Inv X pins σ H ⟨h1, gn, dr, tk1, os⟩ := J0.turnF (t' := tk1) fI fun b o nb e => k1 b o (by rw [List.mem_singleton]; exact nb) e
 have gS1 : h1.get? S = some (seqObj "list" #[] 0) := k1 S _ (by rw [List.mem_singleton]; exact hSI) gS
 obtain ⟨oI, gI1, cI, dI⟩ := id st1.1
 have J2 := J1.pinned (fp := [S, hp.objs.size]) (fun b hb => by
  rcases List.mem_cons.mp hb with rfl | hb
  ·exact fS
  ·rw [List.mem_singleton.mp hb]
   exact fI) (fun b hb => by
  rcases List.mem_cons.mp hb with rfl | hb
  ·exact ⟨_, gS1, fun v z => by cases z⟩
  ·rw [List.mem_singleton.mp hb]
   exact ⟨oI, gI1, fun v z => by rw [dI] at z; cases z⟩)
 show wpAny _ A.in1 (tryCatch (holding [v] (call (.ref f) [v])) _ >>= _) _ _ _
 refine wpAny_bind (wpAny_tryCatch (wpAny_holding (wpAny_mono (turn _ 0 _ v _ ex rx J2) (fun x s2 he => ?_) fun _ _ z => z.elim)))
 obtain ⟨J3, t2, rfl⟩ := he
 have gS2 := (J3.pin _ (List.mem_append_right _ (List.mem_append_right _ (mem_pinsAt (List.mem_cons_self ..) gS1)))).1
 have gI2 := (J3.pin _ (List.mem_append_right _ (List.mem_append_right _ (mem_pinsAt (List.mem_cons_of_mem _ (List.mem_cons_self ..)) gI1)))).1
 have J4 : Inv X pins σ H s2 := J3.unpinned
 obtain ⟨hp2, gn2, dr2, tk2, os2⟩ := s2
 show wpAny _ A.in1 (updateSeq S (fun _ => #[v, .int (kf 0) t2]) >>= _) _ _ _
 refine wpAny_bind (wpAny_updateSeq gS2 rfl ?_)
 rw [nm]
 have sb := Heap.SameBut.update hp2 S (Obj.mapSeq fun _ => #[v, .int (kf 0) t2])
 refine wpAny_pure ⟨plainId_quiet PySem.F.plain_max_loop _, maxL_turns kf hh hlI hSI fS fI hl turn hQ _ 1 0 _ _ _ v t2 rfl (by lia) (by decide) (J4.turnF fS fun b o nb e => (sb.2 b nb).trans e) (get?_update_seq gS2 _) ex rx (fun j' hj' => ?_) ⟨oI, (sb.2 _ (Ne.symm hSI)).trans gI2, cI, dI⟩⟩
 obtain rfl : j' = 0 := by lia
 exact ⟨by lia, fun z => absurd z (Nat.lt_irrefl _)⟩
end
section
variable {X : Cx} {e body : Expr} {t : TA} {te : TE} {pn kp pos lpos : Pos} {params : Arguments} {scope : Scope} {p : Str} {c0 P : Addr} {n : Nat}
def tMaxLam (K : PySem.W.Frag) (P : Addr) (lpos : Pos) (q : Str) (fr : List (Nat × Str)) (t : TA) (te : TE) : TE := fun σ H Q => t σ H fun vs H1 => ∃ (l : Addr) (xs : List V), vs = [.ref l] ∧ xs ≠ [] ∧ TabIs H1 P lpos q ∧
 ∀ (H2 : Hp) (c : Addr), ButT P H1 H2 → TabHas H2 P lpos q c → SqL K H2 l xs ∧ ∃ kf : Nat → Int, (∀ i x, xs[i]? = some x → te (lamStart x fr σ) H2 fun y H' => H' = H2 ∧ y = .int (kf i)) ∧ ∀ i x, xs[i]? = some x → BestMax kf xs.length i → Q x H2
theorem pe_maxLam (K : PySem.W.Frag) (fr : List (Nat × Str)) (hr : Room n X.A) (hc : X.calm = true) (hg : Gl X "max") (hm : X.mg "max" = none) (hcode : X.env.code = .ref c0) (hC : PySem.W.codeHdIn X.K c0 P = true) (hB : BMain X.mg X.base)
  (S : LamScope X.N X.env.scope scope p fr) (ha : PA X [e] t) (hb : ∀ (q : Str) (cl : List (Str × Addr)) (f c : Addr) (A : Around) (s : Shared) (H : Hp), PE (cxLam X q scope cl f c (p :: fr.map (·.2)) A s H) body te) (hK : X.K = K := by rfl)
  (hdef : defaultsOf params X.env = ([], []) := by rfl) (hbind : ∀ (q : Str) (cl : List (Str × Addr)) (pm cv ctv v : Value), bindArgs (PySem.W.kla_fn "<lambda>" q params body scope cl pm cv ctv) ⟨[v], []⟩ = pure [(p, v)] := by intros; rfl)
  (he : starEach [e] X.env = (false, eval e X.env) :: starEach [] X.env := by rfl) (hall : (backToKw pos (keywordEach [⟨some "key", .Lambda params body scope lpos, kp⟩] X.env)).all (·.1.isSome) = true := by rfl)
  (hks : (backToKw pos (keywordEach [⟨some "key", .Lambda params body scope lpos, kp⟩] X.env)).filterMap (·.1) = [Str.ofString "key"] := by rfl)
  (hkn : (backToKw pos (keywordEach [⟨some "key", .Lambda params body scope lpos, kp⟩] X.env)).any (·.1.isNone) = false := by rfl)
  (hpl : (backTo pos (starEach [e] X.env)).any (·.1) = false := by rfl) :
  PE X (.Call (.Name "max" pn) [e] [⟨some "key", .Lambda params body scope lpos, kp⟩] pos) (tMaxLam K P lpos (X.env.qual ++ "<lambda>") fr t te) := by
 subst hK
 intro pins s σ H Q I h
 refine wpAny_Call_Name_kw (ld_blt I hg hm boot_max ?_ (by decide) (by decide))
 refine callWith_builtin_kwB hpl hkn ?_
 refine PyProof.Rows.evalArgs_kw2 hall (thn (ha pos pins s σ H _ I h) fun us s1 ⟨vs, H1, I1, r1, q1⟩ => ?_) he
 obtain ⟨l, xs, rfl, ne, tab, q2⟩ := q1
 obtain ⟨u, rfl, rx⟩ := vals1 r1
 cases rx
 refine kws_cons (lam_make I1 hcode hC hB tab hdef (fun x hx => I1.ok.has x ?_) fun f c cl pm ctv H2 s2 but has hcl hcl2 I2 => kws_nil ?_)
 ·rcases S.free (x, .free) hx rfl with z | z
  ·exact .inl z
  ·exact .inr z
 rw [hks]
 obtain ⟨hl, kf, hkf, qq⟩ := q2 H2 c but has
 show wpAny _ _ (call (.builtin "max") [.ref l] [(Str.ofString "key", .ref f)]) _ _ _
 refine max_lam (xs := xs) kf (I2.ok.hd hc) I2 (fun s' J => by
  obtain ⟨its, rv, pl, hz⟩ := J.list hl
  exact ⟨its, rv, pl.isList⟩) (List.length_pos_iff.mpr ne) (fun pl i x v s3 ex rx J => ?_) fun i x v s3 ex rx best J => ?_
 ·have gf := (J.pin _ (List.mem_append_right _ (List.mem_append_left _ (List.mem_cons_self ..)))).1
  refine wpAny_mono (lam_call S J (A := X.A.in1) J.ok.frames (J.ok.hd hc) hr.depth gf (CodeO.of J.hok has.2) (hb _ _ _ _ _ _ _) (fun v => hbind _ _ _ _ _ v) hcl hcl2 rx (Qy := fun y => y = .int (kf i)) (hkf i _ ex)) (fun r s4 hs => ?_) fun _ _ z => z
  obtain ⟨J4, y, ry, rfl⟩ := hs
  exact ⟨J4, ry⟩
 ·exact ⟨_, H2, J.pins_of fun p hp => J.pin p (List.mem_append_right _ (List.mem_cons_of_mem _ hp)), rx, qq i _ ex best⟩
end
end L2
namespace L2
open PySem PySem.Spec PyProof.Rows
theorem pe_never {X : Cx} {e : Expr} : PE X e (fun _ _ _ => False) := fun _ _ _ _ _ _ h => h.elim
structure FnQ (K : PySem.W.Frag) (x qual : Str) (st : Stmt) (f : Addr) (fd : FuncData) : Prop where
 ex : ∃ (oc : Value) (od : Option Addr) (dV kV doc pm : Value) (an : Option Addr) (cdv ct : Value) (osl : Array (Option Value)),
  fd = PySem.W.fnOf x qual (defArgs st) (defBody st) (defScope st) dV kV doc pm an cdv ct ∧ K.lookup f = some ⟨oc, od, .func fd, osl⟩ ∧ PySem.W.codeIn K cdv qual = true
structure DefM (K : PySem.W.Frag) (C : Addr) (m qual : Str) (st : Stmt) (ps : List Str) (dvs : List V) (kb : FuncData → Prop) : Prop where
 ex : ∃ (f : Addr) (fd : FuncData), FnQ K m qual st f fd ∧ Meth K C m f ∧ kb fd ∧ ∀ j, j ≤ dvs.length → ∃ ds, Vals (dvs.drop j) ds ∧ Binds K fd ps ds
structure CalleeM (P : Program) (w : World) (K : PySem.W.Frag) (mg : Str → Option Value) (base : Heap) (k : Nat) (C : Addr) (m : Str) (ps : List Str) (dvs : List V) (kb : FuncData → Prop) (sp : Sp) : Prop where
 ex : ∃ (f : Addr) (fd : FuncData), FnOk P w K mg base CX0 k f fd ps sp ∧ Meth K C m f ∧ kb fd ∧ ∀ j, j ≤ dvs.length → ∃ ds, Vals (dvs.drop j) ds ∧ Binds K fd ps ds
abbrev noKw : FuncData → Prop := fun _ => True
def KwOne (K : PySem.W.Frag) (kw : Str) : FuncData → Prop := fun fd => ∀ (s : Shared) (u v : Value), K.In s.heap → BindsTo s fd ⟨[u], [(kw, v)]⟩ [("self", u), (kw, v)]
structure Made (K : PySem.W.Frag) (mg : Str → Option Value) (x : Str) (C : Addr) : Prop where
 makes : PySem.W.makesIn K C = true
 kp : PySem.W.keepIn K (.ref C) = true
 mg : mg x = some (.ref C)
section
variable {P : Program} {w : World} {K : PySem.W.Frag} {mg : Str → Option Value} {base : Heap}
theorem DefM.ok {C : Addr} {m qual : Str} {st : Stmt} {N ps : List Str} {k : Nat} {dvs : List V} {kb : FuncData → Prop} {sp : Sp} (D : DefM K C m qual st ps dvs kb) (S : FnScope N ps (defScope st)) (len : ∀ vs H Q E, sp vs H Q E → vs.length = ps.length)
  (hbody : ∀ (f : Addr) (cdv : Value) (A : Around) (outer : List Env) (s : Shared) (H : Hp) (vs : List V) (Q : VK) (E : XK), Room k (A.deeper (envOfC qual (defScope st) s.heap.objs.size f cdv)) → sp vs H Q E →
   ∃ t, PSs (cxOf CX0 P w K mg base N qual (defScope st) f cdv A outer s H E).nox (defBody st) t ∧ t { nx := fun _ H' => Q .non H', rt := Q } (start N vs) H) : CalleeM P w K mg base (k + 1) C m ps dvs kb sp := by
 obtain ⟨f, fd, ⟨oc, od, dV, kV, doc, pm, an, cdv, ct, osl, rfl, lk, hcd⟩, mt, hkb, b⟩ := D.ex
 refine ⟨f, _, fn_of lk hcd S len fun A outer s H vs Q E hr hsp => ?_, mt, hkb, b⟩
 obtain ⟨t, h, q⟩ := hbody f cdv A outer s H vs Q E hr hsp
 exact ⟨t, h.nox, q⟩
end
section
variable {X : Cx} {k n : Nat} {C : Addr} {ps : List Str} {dvs : List V} {kb : FuncData → Prop} {sp : Sp} {x m : Str} {p pos apos kpos : Pos} {e o : Expr} {es : List Expr} {ta te : TE} {t : TA}
theorem pe_new0 (Z : CalleeM X.prog X.w X.K X.mg X.base k C "__init__" ps dvs kb sp) (M : Made X.K X.mg x C) (hr : Room n X.A) (hg : Gl X x) (hk : k + 1 ≤ n := by decide) (hdb : (x == ("__debug__" : Str)) = false := by decide) :
  PE X (.Call (.Name x p) [] [] pos) (tMake C sp dvs E0 tNil) := by
 obtain ⟨f, fd, F, mt, hkb, b⟩ := Z.ex
 obtain ⟨ds, hv, hb⟩ := b 0 (Nat.zero_le _)
 exact pe_make0 ⟨M.makes, mt.at_, mt.fn, M.kp⟩ F (hr.mono hk) hg M.mg hb hv pass0 hdb
theorem pe_m {pl : Sem Bool} (c : Cls X.K C) (Z : CalleeM X.prog X.w X.K X.mg X.base k C m ps dvs kb sp) (hr : Room n X.A) (he : PE X o ta) (ha : PA X (e :: es) t) (hk : k ≤ n := by decide)
  (hst : starEach (e :: es) X.env = (false, eval e X.env) :: starEach es X.env := by rfl) (hpl : (backTo pos (starEach es X.env)).any (·.1) = false := by rfl)
  (ht : eval (.Call (.Attribute o m apos) (e :: es) [] pos) X.env = (do
   let ov ← eval o X.env
   standAt apos.atName
   let (f, first) ← holding [ov] (getMethod ov m pl)
   callWith pos f first (backTo pos (starEach (e :: es) X.env)) (backToKw pos (keywordEach [] X.env))) := by rfl) :
  PE X (.Call (.Attribute o m apos) (e :: es) [] pos) (tMeth C m sp [] E0 ta t) := by
 obtain ⟨f, fd, F, mt, hkb, b⟩ := Z.ex
 obtain ⟨ds, hv, hb⟩ := b dvs.length (Nat.le_refl _)
 rw [List.drop_length] at hv
 cases hv
 exact pe_meth (pl := pl) he c mt F (hr.mono hk) hb .nil pass0 ha hst hpl ht
theorem pe_fldK (K : PySem.W.Frag) {f : Str} (he : PE X e ta) (hK : X.K = K := by rfl) (hb : attributeBase e f X.env (eval e X.env) = eval e X.env := by rfl) : PE X (.Attribute e f pos) (tFld K ta f) := hK ▸ pe_fld he hb
end
end L2
namespace L2
open PySem PySem.Spec PyProof.Rows
def tabsFree (K : PySem.W.Frag) (ts : List Addr) : Bool := ts.all fun P => (K.lookup P).isNone && K.any fun p => PySem.W.codeHdIn K p.1 P
set_option maxHeartbeats 4000000 in
theorem law_callT {P : Program} {w : World} {K : PySem.W.Frag} {mg mb : Str → Option Value} {CX : CXT} {k : Nat} {fa a : Addr} {fd : FuncData} {x : Str} {sp : Sp} {s₁ : Shared} {vs : List Value} {ns : List Int} {ts : List Addr}
  (KX : K.In s₁.heap) (hts : ∀ P ∈ ts, s₁.heap.get? P = some (PySem.W.tabObj #[])) (htf : tabsFree K ts = true) (hbm : BMain mg s₁.heap) (hns : s₁.heap.Ns mainGlobals mg) (hb : s₁.heap.Ns builtinsNs mb) (hbb : ∀ x : Str, x ≠ "__name__" → mb x = bootBuiltins x) (hlim : s₁.heap.NoLimit) (hg : s₁.gens = #[])
  (ha : s₁.heap.get? a = some { cls := .type "list", data := .seq vs.toArray }) (hi : IntsAre vs ns) (hl : ns.length ≤ sizeLine) (hr : Room k callerA)
  (F : ∀ base : Heap, K.In base → base.Ns mainGlobals mg → BMain mg base → FnOk P w K mg base CX k fa fd [x] sp) (hbind : ∀ (s : Shared) (u : Value), BindsTo s fd ⟨[u], []⟩ [(x, u)])
  (hsp : ∀ H : Hp, (∀ P ∈ ts, H P = some (.tbl #[])) → SqL K H a (ns.map V.int) → sp [.ref a] H (fun v _ => v = .bl true) fun _ _ _ => False)
  (hCX : ∀ H e s', CX [] H s₁ (fun _ _ _ => False) e s' → False) :
  codeAny (model P w) callerA (.call (.ref fa) ⟨[.ref a], []⟩) (fun r s' => r = .ok (.ret (.bool true)) ∧ OldK s₁.heap s'.heap ∧ s'.os = s₁.os ∧ AllBare s'.gens) s₁ := by
 have rv := vals_ints hi
 have lenV := hi.length
 have naT : a ∉ ts := fun z => by
  have := hts a z
  rw [ha] at this
  cases this
 have tK : ∀ P ∈ ts, K.lookup P = none ∧ ∃ c, PySem.W.codeHdIn K c P = true := fun P hP => by
  have := List.all_eq_true.mp htf P hP
  rw [Bool.and_eq_true] at this
  obtain ⟨p, _, h2⟩ := List.any_eq_true.mp this.2
  exact ⟨by simpa using this.1, p.1, h2⟩
 have core : ∀ H : Hp, (∀ P ∈ ts, H P = some (.tbl #[])) → SqL K H a (ns.map V.int) → HOk P w H s₁.heap → (∀ b u, H b = some u → (b = a ∧ ∃ o xs, u = .frz o (.lst xs)) ∨ (b ∈ ts ∧ u = .tbl #[])) → (H a ≠ none → K.lookup a = none) →
   codeAny (model P w) callerA (.call (.ref fa) ⟨[.ref a], []⟩) (fun r s' => r = .ok (.ret (.bool true)) ∧ OldK s₁.heap s'.heap ∧ s'.os = s₁.os ∧ AllBare s'.gens) s₁ := by
  intro H hT hS hok hA hK
  have base_of : ∀ {b : Addr} {o : Obj}, s₁.heap.get? b = some o → H b = none → (hidT s₁.heap H).get? b = some o := fun e n => hidT_get e n
  have noT : ∀ {b : Addr} {o : Obj}, s₁.heap.get? b = some o → (∀ vs, o ≠ PySem.W.tabObj vs) → b ≠ a → H b = none := fun {b o} e d n => by
   cases q : H b with
   | none => rfl
   | some u =>
    rcases hA b u q with ⟨e', _⟩ | ⟨hb, _⟩
    ·exact absurd e' n
    ·have := hts b hb
     rw [e] at this
     exact absurd (Option.some.inj this) (d _)
  have noA : ∀ {b : Addr} {o : Obj} {es : Array DictEntry} {ep : Nat}, s₁.heap.get? b = some o → o.data = .dict es ep → H b = none := fun {b o es ep} e d => by
   refine noT e (fun vs z => ?_) fun z => ?_
   ·rw [z] at d; cases d
   ·rw [z, ha] at e; cases e; cases d
  have nsK : ∀ {b : Addr} {m : Str → Option Value}, s₁.heap.Ns b m → (hidT s₁.heap H).Ns b m := fun {b m} ⟨o, es, ep, e, d, r⟩ => ⟨o, es, ep, base_of e (noA e d), d, r⟩
  have hKb : K.In (hidT s₁.heap H) := fun b o e => base_of (KX b o e) (by
   cases q : H b with
   | none => rfl
   | some u =>
    rcases hA b u q with ⟨e', _⟩ | ⟨hb, _⟩
    ·subst e'
     rw [hK (by rw [q]; simp)] at e; cases e
    ·rw [(tK b hb).1] at e; cases e)
  have hBb : BMain mg (hidT s₁.heap H) := by
   obtain ⟨bm, ob, b1, b2, b3, b4, b5, b6⟩ := hbm
   refine ⟨bm, ob, b1, b2, base_of b3 (noT b3 (fun vs z => ?_) fun z => ?_), b4, b5, b6⟩
   ·rw [z] at b4; cases b4
   ·rw [z, ha] at b3
    cases b3
    have b4 : Value.type "list" = Value.type "module" := b4
    injection b4 with b4
    exact absurd b4 (by decide)
  have hM : Mod K mg (hidT s₁.heap H) := ⟨hKb, nsK hns, ⟨mb, nsK hb, hbb⟩, let ⟨mc, h1, h2⟩ := hlim; ⟨mc, nsK h1, h2⟩⟩
  have e0 : Env0 P w K mg (hidT s₁.heap H) callerA [] s₁ H := ⟨rfl, hM, fun b o e => of_hidT e, Nat.le_of_eq (hidT_size _ _), trivial, fun b hb => absurd (show b ∈ ([] : List Addr) from hb) (by simp), hok, .of_eq hg⟩
  refine codeAny_mono ((F _ hKb (nsK hns) hBb).run callerA [] s₁ H ⟨[.ref a], []⟩ [.ref a] [.ref a] _ _ hr e0 (hbind s₁ (.ref a)) (.cons rfl .nil) (hsp H hT hS)) fun r s' h => ?_
  cases r with
  | error e => exact (hCX H e s' h).elim
  | ok fl =>
   cases fl with
   | next => exact False.elim h
   | brk => exact False.elim h
   | cont => exact False.elim h
   | ret u =>
    obtain ⟨v, H', os, bare, un, hok', r', q⟩ := h
    have q' : v = .bl true := q
    subst q'
    obtain rfl : u = Value.bool true := r'
    have noF : ∀ b : Addr, b ∉ frs [] := fun b z => absurd (show b ∈ ([] : List Addr) from z) (by simp)
    have at' : ∀ b o, s₁.heap.get? b = some o → b ∉ ts → s'.heap.get? b = some o := fun b o e nb => by
     cases q : H b with
     | none => exact un.keep b o e q (noF b) (by simp)
     | some u =>
      rcases hA b u q with ⟨_, ob, xs, rfl⟩ | ⟨hb, _⟩
      ·have z2 := un.frzs b ob _ q
       obtain ⟨e1, _⟩ := hok b _ q
       obtain ⟨e2, _⟩ := hok' b _ z2
       rw [e] at e1; cases e1
       exact e2
      ·exact absurd hb nb
    have tb : ∀ b ∈ ts, ∃ more, s'.heap.get? b = some (PySem.W.tabObj (#[] ++ more)) := fun b hb => by
     obtain ⟨more, z⟩ := un.tbls b _ (hT b hb)
     exact ⟨more, hok' b _ z⟩
    refine ⟨rfl, ⟨fun b o e => ?_, fun b o e => ?_⟩, os, bare⟩
    ·by_cases hb : b ∈ ts
     ·obtain ⟨more, z⟩ := tb b hb
      have e1 := hts b hb
      rw [e] at e1
      cases e1
      obtain ⟨c, hc⟩ := (tK b hb).2
      exact .inr (.inl ⟨((PySem.W.codeHd_of_K KX hc).tab e).isCodeTable, rfl, #[], more, rfl, z⟩)
     ·exact .inl (at' b o e hb)
    ·by_cases hb : b ∈ ts
     ·obtain ⟨more, z⟩ := tb b hb
      exact ⟨_, z⟩
     ·exact ⟨o, at' b o e hb⟩
 cases hk : K.lookup a with
 | some o =>
  have e := KX a o hk
  rw [ha] at e
  cases e
  refine core (fun b => if b ∈ ts then some (.tbl #[]) else none) (fun P hP => if_pos hP) (.inr ⟨_, vs.toArray, _, hk, rfl, rfl, rfl, by rw [List.size_toArray, lenV]; exact hl, by simpa using rv⟩) (fun b u z => ?_) (fun b u z => ?_) fun z => absurd (if_neg naT) z
  ·by_cases hb : b ∈ ts
   ·have z' := (if_pos hb).symm.trans z
    cases z'
    exact hts b hb
   ·have z' := (if_neg hb).symm.trans z
    cases z'
  ·by_cases hb : b ∈ ts
   ·have z' := (if_pos hb).symm.trans z
    cases z'
    exact .inr ⟨hb, rfl⟩
   ·have z' := (if_neg hb).symm.trans z
    cases z'
 | none =>
  refine core (fun b => if b ∈ ts then some (.tbl #[]) else if b = a then some (.frz { cls := .type "list", data := .seq vs.toArray } (.lst (ns.map V.int))) else none) (fun P hP => if_pos hP) (.inl (.inr ⟨{ cls := .type "list", data := .seq vs.toArray }, (if_neg naT).trans (if_pos rfl)⟩)) (fun b u z => ?_) (fun b u z => ?_) fun _ => hk
  ·by_cases hb : b ∈ ts
   ·have z' := (if_pos hb).symm.trans z
    cases z'
    exact hts b hb
   ·have z' := (if_neg hb).symm.trans z
    by_cases hb2 : b = a
    ·have z'' := (if_pos hb2).symm.trans z'
     cases z''
     subst hb2
     exact ⟨ha, by rw [List.length_map]; exact hl, vs, _, rv, ha⟩
    ·have z'' := (if_neg hb2).symm.trans z'
     cases z''
  ·by_cases hb : b ∈ ts
   ·have z' := (if_pos hb).symm.trans z
    cases z'
    exact .inr ⟨hb, rfl⟩
   ·have z' := (if_neg hb).symm.trans z
    by_cases hb2 : b = a
    ·have z'' := (if_pos hb2).symm.trans z'
     cases z''
     exact .inl ⟨hb2, _, _, rfl⟩
    ·have z'' := (if_neg hb2).symm.trans z'
     cases z''
theorem walk_ofT {l : PySem.W.OpenLaw} {n k : Nat} {q : Program} {loose : List Str} {XP : (Str → Option Value) → Heap → Prop} {YP : World → Heap → Prop} {d : DefRec} {K : Params → PySem.W.Frag} {CX : World → CXT} {sp : World → Sp} {x : Str} {ts : List Addr}
  (hn : l.most = some n) (hn2 : n ≤ sizeLine) (hdf : d.params.defaults = []) (hr : Room k callerA)
  (hY : ∀ (w : World) (h : Heap), YP w h → (K w.params).In h) (hYT : ∀ (w : World) (h : Heap), YP w h → ∀ P ∈ ts, h.get? P = some (PySem.W.tabObj #[])) (htf : ∀ p : Params, tabsFree (K p) ts = true)
  (F : ∀ (w : World) (mg : Str → Option Value) (fa : Addr) (h : Heap), (K w.params).In h → h.Ns mainGlobals mg → mg d.name = some (.ref fa) →
   ∃ fd : FuncData, (∀ (s : Shared) (u : Value), BindsTo s fd ⟨[u], []⟩ [(x, u)]) ∧
    ∀ base : Heap, (K w.params).In base → base.Ns mainGlobals mg → BMain mg base → FnOk l.prog w (K w.params) mg base (CX w) k fa fd [x] (sp w))
  (hsp : ∀ (w : World) (H : Hp) (a : Addr) (ns : List Int), ns.length ≤ n → (∀ P ∈ ts, H P = some (.tbl #[])) → SqL (K w.params) H a (ns.map V.int) → sp w [.ref a] H (fun v _ => v = .bl true) fun _ _ _ => False)
  (hCX : ∀ (w : World) (H : Hp) (s : Shared) (e : Value) (s' : Shared), CX w [] H s (fun _ _ _ => False) e s' → False) :
  PySem.W.WalkO q loose XP YP l.row.toRowW d [] (fun f vs => PySem.call f vs) := by
 refine Att.attach_call hn hdf fun w s₀ s₁ mg mb fa o pm cd doc a vs ns G Y ho hd hcd hmg hobj hints hlen hg => ?_
 have KX := hY w _ Y
 obtain ⟨fd, hb, hF⟩ := F w mg fa _ KX G.T.g hmg
 exact law_callT KX (hYT w _ Y) (htf _) G.T.bmain G.T.g G.T.b G.T.builtins G.T.nolimit hg hobj hints (Nat.le_trans hlen hn2) hr hF hb (fun H hT hS => hsp w H a ns hlen hT hS) fun H e s' => hCX w H s₁ e s'
structure DefMT (K : PySem.W.Frag) (C : Addr) (m qual : Str) (st : Stmt) (ps : List Str) (T : Addr) : Prop where
 ex : ∃ (f c : Addr) (fd : FuncData), (∃ (oc : Value) (od : Option Addr) (dV kV doc pm : Value) (an : Option Addr) (ct : Value) (osl : Array (Option Value)),
   fd = PySem.W.fnOf m qual (defArgs st) (defBody st) (defScope st) dV kV doc pm an (.ref c) ct ∧ K.lookup f = some ⟨oc, od, .func fd, osl⟩ ∧ PySem.W.codeIn K (.ref c) qual = true) ∧ PySem.W.codeHdIn K c T = true ∧ Meth K C m f ∧ Binds K fd ps []
theorem DefMT.ok {P : Program} {w : World} {K : PySem.W.Frag} {mg : Str → Option Value} {base : Heap} {C T : Addr} {m qual : Str} {st : Stmt} {N ps : List Str} {k : Nat} {sp : Sp} (D : DefMT K C m qual st ps T) (S : FnScope N ps (defScope st)) (len : ∀ vs H Q E, sp vs H Q E → vs.length = ps.length)
  (hbody : ∀ (f c : Addr) (A : Around) (outer : List Env) (s : Shared) (H : Hp) (vs : List V) (Q : VK) (E : XK), PySem.W.codeHdIn K c T = true → Room k (A.deeper (envOfC qual (defScope st) s.heap.objs.size f (.ref c))) → sp vs H Q E →
   ∃ t, PSs (cxOf CX0 P w K mg base N qual (defScope st) f (.ref c) A outer s H E).nox (defBody st) t ∧ t { nx := fun _ H' => Q .non H', rt := Q } (start N vs) H) : CalleeM P w K mg base (k + 1) C m ps [] noKw sp := by
 obtain ⟨f, c, fd, ⟨oc, od, dV, kV, doc, pm, an, ct, osl, rfl, lk, hcd⟩, hc, mt, b⟩ := D.ex
 refine ⟨f, _, fn_of lk hcd S len fun A outer s H vs Q E hr hsp => ?_, mt, trivial, fun j hj => ?_⟩
 ·obtain ⟨t, h, q⟩ := hbody f c A outer s H vs Q E hc hr hsp
  exact ⟨t, h.nox, q⟩
 ·obtain rfl : j = 0 := by simpa using hj
  exact ⟨[], .nil, b⟩
end L2
namespace L2
open PySem
def tabOf (K : PySem.W.Frag) (c : Addr) : Addr := match K.lookup c with
 | some ⟨_, _, .fields vs, _⟩ => (match (vs[11]? : Option Value) with | some (.ref P) => P | _ => 0)
 | _ => 0
def spLawT (K : PySem.W.Frag) (ts : List Addr) : Sp := fun vs H Q _ => ∃ (a : Addr) (ns : List Int), vs = [.ref a] ∧ SqL K H a (ns.map V.int) ∧ ns.length ≤ 63 ∧ (∀ P ∈ ts, H P = some (.tbl #[])) ∧ ∀ H', Q (.bl true) H'
end L2
namespace L2
open PySem PySem.Spec PyProof.Rows
section
variable {X : Cx}
def rEqNil (K : PySem.W.Frag) : R2 := fun x y H Q => ∃ (a b : Addr) (xs : List V), x = .ref a ∧ y = .ref b ∧ SqL K H a xs ∧ SqL K H b [] ∧ Q (.bl (decide (xs = []))) H
theorem op_eqNilK (K : PySem.W.Frag) (hu : X.A.units < cLine) (h : X.K = K := by rfl) : OpR X (compareOp .Eq) (rEqNil K) := by
 subst h
 intro pins s σ H x y v u Q I rx ry h
 obtain ⟨a, b, xs, rfl, rfl, ha, hb, q⟩ := h
 cases rx
 cases ry
 obtain ⟨us, r1, p1, _⟩ := I.list ha
 obtain ⟨vs, r2, p2, _⟩ := I.list hb
 cases r2
 have l1 := r1.length
 cases xs with
 | nil =>
  cases r1
  refine SeqAt.RcAt.lists (e := fun j => true) p1.isList p2.isList rfl (by lia) (fun j h1 h2 => absurd h1 (by simp)) X.prog X.w X.xe _ ?_
  exact ⟨.bl true, H, I, rfl, q⟩
 | cons x t =>
  refine SeqAt.RcAt.lists_lengths p1.isList p2.isList (by simp only [List.size_toArray]; rw [← l1]; simp) (by lia) X.prog X.w X.xe _ ?_
  exact ⟨.bl false, H, I, rfl, q⟩
end
theorem seq_cut {A u : TS} {D : Ends} {σ : St} {H : Hp} (S : St → Hp → Prop) (h1 : ∀ R : St → Hp → Prop, (∀ σ' H', S σ' H' → R σ' H') → A { D with nx := R } σ H) (h2 : ∀ σ' H', S σ' H' → u D σ' H') : tSeq A u D σ H := h1 (u D) h2
end L2
namespace L2
open PySem PySem.Spec PyProof.Rows
structure Fly (fs : List Addr) (H1 H2 : Hp) (h1 B h2 : Heap) : Prop where
 kp : ∀ b o, h1.get? b = some o → b ∉ fs → (∃ o', B.get? b = some o') ∧ (H1 b = none → B.get? b = some o)
 sl : ∀ b o, h1.get? b = some o → b ∈ fs → ∃ sl, h2.get? b = some { o with slots := sl }
 free : ∀ b o, h1.get? b = some o → H1 b = none → H2 b = none
 tups : ∀ b xs, H1 b = some (.tup xs) → H2 b = some (.tup xs)
 frzs : ∀ b o u, H1 b = some (.frz o u) → H2 b = some (.frz o u)
 tbls : ∀ b ps, H1 b = some (.tbl ps) → ∃ more, H2 b = some (.tbl (ps ++ more))
def CXE (P : Program) (w : World) : CXT := fun outer H s E e s' => ∃ (ea C : Addr) (a0 : Value) (B : Heap) (H' : Hp),
 e = .ref ea ∧ s'.os = s.os ∧ AllBare s'.gens ∧ Heap.FlyingW B outer ea (.ref C) a0 s'.heap ∧ Fly (frs outer) H H' s.heap B s'.heap ∧ HOk P w H' B ∧ E (.ref C) none H'
end L2
namespace L2
open PySem PySem.Spec PyProof.Rows
abbrev Cx.pinned (X : Cx) (pn : List (Addr × Obj)) : Cx := { X with pn := pn }
def xeT (X : Cx) (pn : List (Addr × Obj)) (E : St → XK) : Value → Shared → Prop := fun e s' => ∃ (pins : List (Addr × Obj)) (σ : St) (H : Hp) (s1 : Shared), Inv (X.pinned pn) pins σ H s1 ∧ CXE X.prog X.w X.stack H s1 (E σ) e s'
abbrev tcx (X : Cx) (pn : List (Addr × Obj)) (E : St → XK) : Cx := (X.pinned pn).wish (xeT X pn E)
section
variable {X : Cx} {pins : List (Addr × Obj)} {σ : St} {H : Hp} {s : Shared}
theorem Inv.toPinned (I : Inv X pins σ H s) : Inv (X.pinned (X.pn ++ pins)) [] σ H s :=
 ⟨⟨I.ok.mod, I.ok.kind, I.ok.glob, I.ok.blt, I.ok.above, I.ok.inj, I.ok.has, I.ok.cab, I.ok.hd, I.ok.frames, I.ok.stk, I.ok.exf, I.ok.bs, I.ok.bsz, I.ok.noex, I.ok.exfs, I.ok.funs, I.ok.frf⟩, I.os, I.bare, I.base, I.loc, I.cell, I.free, I.freeC, fun p hp => I.pin p (by rw [List.append_nil] at hp; exact hp), I.hok, I.len⟩
theorem Inv.ofPinned {ps : List (Addr × Obj)} (I : Inv (X.pinned (X.pn ++ pins)) ps σ H s) : Inv X pins σ H s :=
 ⟨⟨I.ok.mod, I.ok.kind, I.ok.glob, I.ok.blt, I.ok.above, I.ok.inj, I.ok.has, I.ok.cab, I.ok.hd, I.ok.frames, I.ok.stk, I.ok.exf, I.ok.bs, I.ok.bsz, I.ok.noex, I.ok.exfs, I.ok.funs, I.ok.frf⟩, I.os, I.bare, I.base, I.loc, I.cell, I.free, I.freeC, fun p hp => I.pin p (List.mem_append_left _ hp), I.hok, I.len⟩
end
end L2
namespace L2
open PySem PySem.Spec PyProof.Rows PySem.W
section
variable {X : Cx} {C : Addr} {x : Str} {p pos : Pos} {e : Expr} {ta tb : TE}
def tPlain (C : Addr) : TE := fun _ H Q => ∀ x dx, H x = none → H dx = none → dx ≠ x → Q (.ref x) (upd (upd H dx (.own x)) x (.ins C dx []))
theorem pe_plain (M : Made X.K X.mg x C) (hi : PySem.W.findIn X.K (.ref C) "__init__" = some (some (.builtin "object.__init__"))) (hg : Gl X x) (hdb : (x == ("__debug__" : Str)) = false := by decide) :
  PE X (.Call (.Name x p) [] [] pos) (tPlain C) := by
 intro pins s σ H Q I h
 refine wpAny_Call_Name_kw (ld_glob I hg M.mg ?_ hdb)
 refine PySem.W.callWith_K0 I.kIn M.kp ?_
 have hq := h (s.heap.objs.size + 1) s.heap.objs.size (I.hok.fresh (Nat.le_succ _)) (I.hok.fresh (Nat.le_refl _)) (Nat.ne_of_lt (Nat.lt_succ_self _))
 have I2 := Inv.made (C := C) I
 have Y := makes_of (M := model X.prog X.w) I.kIn M.makes
 have lf := looks_findIn (M := model X.prog X.w) I.kIn hi
 refine wpAny_call ?_
 have k : ∀ b o, s.heap.get? b = some o → ((s.heap.push emptyDict).push (instObj C s.heap.objs.size)).get? b = some o := fun b o e => Heap.get?_push_of_some _ (Heap.get?_push_of_some _ e)
 have hx : ((s.heap.push emptyDict).push (instObj C s.heap.objs.size)).get? (s.heap.objs.size + 1) = some (instObj C s.heap.objs.size) := by heap_get
 have t1 : Looks (model X.prog X.w) ((s.heap.push emptyDict).push (instObj C s.heap.objs.size)) (typeOf (.ref (s.heap.objs.size + 1))) (.ref C) := (Looks.ld hx).andThen .now
 have t2 : Looks (model X.prog X.w) ((s.heap.push emptyDict).push (instObj C s.heap.objs.size)) (isInstance (.ref (s.heap.objs.size + 1)) (.type "object")) true := t1.andThen (Y.top.keeps k)
 obtain ⟨hh, g, d, t, os⟩ := s
 refine make_core Y lf (fun self => Looks.of_pure (oi_bind self)) (.inr ⟨rfl, rfl⟩) ?_
 refine codeAny_call_builtin oi_plain entry_oi (@check_slot (model X.prog X.w) _ _ _ "object.__init__" "object" "__init__" (.ref (hh.objs.size + 1)) [] [] _ oi_kind oi_split t2 (oi_args (.ref (hh.objs.size + 1))) ?_)
 show wpAny _ _ (Builtin.«object.__init__» ⟨[Value.ref (hh.objs.size + 1)], []⟩) _ _ _
 rw [oi_run]
 exact wpAny_pure (And.intro rfl ⟨V.ref (hh.objs.size + 1), _, I2, rfl, hq⟩)
def tEith (ta tb : TE) : TE := fun σ H Q => ta σ H Q ∨ tb σ H Q
theorem pe_either (ha : PE X e ta) (hb : PE X e tb) : PE X e (tEith ta tb) := fun pins s σ H Q I h => h.elim (ha pins s σ H Q I) (hb pins s σ H Q I)
end
section
variable {X : Cx} {C : Addr} {x : Str} {p pos : Pos} {e : Expr} {es : List Expr} {t : TA} {k n : Nat} {ps : List Str} {dvs : List V} {kb : FuncData → Prop} {sp : Sp}
theorem pe_newA (Z : CalleeM X.prog X.w X.K X.mg X.base k C "__init__" ps dvs kb sp) (M : Made X.K X.mg x C) (hr : Room n X.A) (hg : Gl X x) (ha : PA X (e :: es) t) (hk : k + 1 ≤ n := by decide) (hdb : (x == ("__debug__" : Str)) = false := by decide)
  (he : starEach (e :: es) X.env = (false, eval e X.env) :: starEach es X.env := by rfl) (hpl : (backTo pos (starEach es X.env)).any (·.1) = false := by rfl) :
  PE X (.Call (.Name x p) (e :: es) [] pos) (tMake C sp [] E0 t) := by
 obtain ⟨f, fd, F, mt, hkb, b⟩ := Z.ex
 obtain ⟨ds, hv, hb⟩ := b dvs.length (Nat.le_refl _)
 rw [List.drop_length] at hv
 cases hv
 exact pe_make ⟨M.makes, mt.at_, mt.fn, M.kp⟩ F (hr.mono hk) hg M.mg hb .nil pass0 ha hdb he hpl
end
end L2
namespace L2
open PySem PySem.Spec PyProof.Rows
theorem extend_tup (l : Addr) (items : Array Value) (n : Nat) (b : Addr) (items2 : Array Value) (n2 : Nat) (dc : Option Addr) (sl : Array (Option Value)) (hs0 : ¬(!items.isEmpty && Builtin.List.listTooLong (items.size + items2.size)) = true) (hs1 : items.size ≤ sizeLine) (hs2 : items.size + items2.size ≤ sizeLine + 1) :
  Meets (Builtin.«list.extend» ⟨[.ref l, .ref b], []⟩) (fun _ R s => s.heap.get? l = some { cls := .type "list", dict := none, data := .seq items n, slots := #[] } ∧ s.heap.get? b = some { cls := .type "tuple", dict := dc, data := .seq items2 n2, slots := sl } ∧ R (.ok (.ret Value.none)) { s with heap := s.heap.update l (Obj.mapSeq fun x => x ++ items2), toks := s.toks }) :=
 .of_wp fun prog w A R s h => by
  obtain ⟨hp, g, d, tk, os⟩ := s
  obtain ⟨hl, hb, h⟩ := h
  have f2 := PySem.AutoSeq1.sub_tuple_tuple
  have f3 := PySem.AutoSeq1.sub_list_list
  have f4 := PySem.AutoSeq1.sub_tuple_list
  have f5 := PySem.AutoSeq1.sub_list_tuple
  have hz' : (items ++ items2).size ≤ sizeLine + 1 := by rw [Array.size_append]; exact hs2
  wp_walk using (wpAny_updateSeq hl rfl (hz := hs1) (_hz' := hz')), wpAny_loadPart' hl, wpAny_loadPart' hb
  exact ⟨_, rfl, h⟩
section
variable {X : Cx}
def rExtendT (K : PySem.W.Frag) : V → List V → Hp → VK → Prop := fun x vs H Q => ∃ l b xs zs, x = .ref l ∧ vs = [.ref b] ∧ H l = some (.lst xs) ∧ SqT K H b zs ∧ xs.length + zs.length ≤ sizeLine ∧ Q .non (upd H l (.lst (xs ++ zs)))
theorem mt_extendT (K : PySem.W.Frag) (hK : X.K = K := by rfl) : MtR X "list.extend" (rExtendT K) := by
 subst hK
 intro pins s σ H x vs v us Q I rx rv h
 obtain ⟨l, b, xs, zs, rfl, rfl, hH, hB, hz, q⟩ := h
 cases rx
 obtain ⟨u, rfl, ru⟩ := rv.one
 cases ru
 obtain ⟨z, its, n, r, hl, e⟩ := I.lstM hH
 obtain ⟨its2, r2, ⟨ob, e2, c2, n2, d2⟩, z2⟩ := I.tuple hB
 have hl2 := r2.length
 have hsz : its.toArray.size + its2.toArray.size ≤ sizeLine := by rw [List.size_toArray, List.size_toArray]; lia
 have hlong : ¬ (!its.toArray.isEmpty && Builtin.List.listTooLong (its.toArray.size + its2.toArray.size)) = true := by
  rw [notLongL hsz, Bool.and_false]
  exact Bool.false_ne_true
 obtain ⟨oc, od, oo, os⟩ := ob
 dsimp only at c2 d2
 subst c2 d2
 refine call_meets F.slot_list_extend ⟨_, e, rfl⟩ F.entry_list_extend (F.args_list_extend_2 _ _)
  (extend_tup l its.toArray n b its2.toArray n2 od os hlong (by rw [List.size_toArray]; lia) (by lia)) ⟨e, e2, ?_⟩
 refine ⟨.non, _, I.lset (its' := its ++ its2) hH e (by simp) (r.append r2) ?_, rfl, q⟩
 rw [List.length_append]
 lia
end
end L2
namespace L2
open PySem PyProof.Rows
section
variable {prog : Program} {w : World} {A : Around} {E : Value → Shared → Prop} {s : Shared}
set_option maxHeartbeats 3200000 in
theorem set_of_tuple {l : Addr} {items : Array Value} {ns : List Int} {Q : Value → Shared → Prop} (hh : A.handled = none) (hl : s.heap.IsTuple l items) (hi : IntsAre items.toList ns) (hb : items.size + 1 < scanBound)
  (h : ∀ (h' : Heap) (tk : Nat), metSet prog w (fun i => ns.getD i 0) items.size h' s.heap.objs.size → (∀ b o, b < s.heap.objs.size → s.heap.get? b = some o → h'.get? b = some o) → Q (.ref s.heap.objs.size) { s with heap := h', toks := tk }) :
  wpAny (model prog w) A (call (.type "set") [.ref l]) Q E s := by
 obtain ⟨c, tl, hmro⟩ := PySem.F.called_set.mro
 have hmade := PySem.F.called_set.made
 have hsub := PySem.F.called_set.sub
 refine wpAny_call (codeAny_of_tree ?_)
 show wpAny _ _ (callAny (.type "set") _) _ _ _
 refine wpAny_pure ⟨Code.quiet_builtin _ (by decide +kernel), codeAny_builtin PySem.F.entry_type_call ?_⟩
 rw [Around.under_plain (weight_type_call_type "set" [.ref l] []) rfl]
 have h1 := PySem.F.called_set.notType
 have h2 := PySem.F.called_set.canCreate
 have hct := PySem.F.typeCall_set_1 (.ref l)
 repeat (any_goals (first | assumption | wp_step))
 refine codeAny_mono (set_new_led (.ref l) (E := E) (Q := fun obj s₁ => obj = .ref s.heap.objs.size ∧ s₁ = { s with heap := s.heap.push (noSet w) }) ⟨rfl, rfl⟩) fun r s₁ hr => ?_
 cases r with
 | error e => exact hr
 | ok fl =>
  cases fl with
  | ret obj =>
   obtain ⟨rfl, rfl⟩ := hr
   have hS : (s.heap.push (noSet w)).get? s.heap.objs.size = some (noSet w) := Heap.get?_push_size _ rfl
   have hT : Shared.TypeIs { s with heap := s.heap.push (noSet w) } (.ref s.heap.objs.size) "set" := ⟨_, hS, rfl⟩
   have hli := PySem.F.called_set.init.lookup
   have hbi := PySem.F.called_set.init.bind (.ref s.heap.objs.size)
   repeat (any_goals (first | assumption | wp_step))
   refine codeAny_mono (codeAny_call_builtin (R := wants (fun r s₂ => r = .none ∧ ∃ h' tk, s₂ = { s with heap := h', toks := tk } ∧ metSet prog w (fun i => ns.getD i 0) items.size h' s.heap.objs.size ∧
     (∀ b o, b < s.heap.objs.size → s.heap.get? b = some o → h'.get? b = some o)) E) PySem.F.called_set.init.plain PySem.F.entry_set_init (check_set_init_1 hT ?_)) fun r₂ s₂ hr₂ => ?_
   ·obtain ⟨ol, hol, hcl, nl, hdl⟩ := id hl
    have hol' : (s.heap.push (noSet w)).get? l = some ol := Heap.get?_push_of_some _ hol
    have hTl : Shared.TypeIs { s with heap := s.heap.push (noSet w) } (.ref l) "tuple" := ⟨ol, hol', hcl⟩
    have hsls := PySem.F.sub_tuple_set
    have hslf := PySem.F.sub_tuple_frozenset
    have hne : (Value.type "tuple" == Value.type "dict") = false := by decide
    have hl1 : (s.heap.push (noSet w)).IsTuple l items := hl.at fun o e => Heap.get?_push_of_some _ e
    unfold Builtin.«set.__init__» noKeywords Builtin.Frozenset.updateFrom
    generalize hPI : pyIter = PI
    wp_walk
    subst hPI
    refine wpAny_pyIter_tuple hl1 (wpAny_bind (wpAny_runValue ?_))
    have hlS : l < s.heap.objs.size := Heap.lt_size hol
    have hneI : l ≠ (s.heap.push (noSet w)).objs.size := by rw [Heap.size_push]; exact Nat.ne_of_lt (Nat.lt_succ_of_lt hlS)
    have hSf : s.heap.objs.size ∉ [(s.heap.push (noSet w)).objs.size, l] := by
     rw [Heap.size_push]
     simp only [List.mem_cons, List.not_mem_nil, or_false, not_or]
     exact ⟨Nat.ne_of_lt (Nat.lt_succ_self _), Nat.ne_of_gt hlS⟩
    refine updLoopX ((Walks.tuple (by simpa using hh) _ l hneI items).toS) s.heap.objs.size hSf (fun i => ns.getD i 0) (fun i v hv => PyProof.Rows.IntsAre.int_at hi i v (by rw [Array.getElem?_toList]; exact hv)) hb (items.size - 0) 0 _ (by lia) (Nat.zero_le _)
     ⟨⟨_, Heap.get?_push_size _ rfl, rfl, rfl⟩, (hl1.at fun o e => Heap.get?_push_of_some _ e)⟩ ?hS0 ?hR
    case hS0 =>
     exact ((SetX.new (knd := intKind prog w) s.heap rfl).congr (fun _ => rfl) rfl).of_get fun o e => Heap.get?_push_of_some _ e
    case hR =>
     intro s' m x
     obtain ⟨h', g', d', tk', os'⟩ := s'
     have eg : g' = s.gens := m.gens
     have ed : d' = s.drawn := m.drawn
     have eo : os' = s.os := m.os
     subst eg ed eo
     show wpAny _ _ _ _ _ _
     refine wpAny_pure ?_
     show wpAny _ _ (ret Value.none) _ _ _
     refine wpAny_pure ⟨rfl, h', tk', rfl, x, fun b o q e => ?_⟩
     refine m.heap b o ?_ (Heap.get?_push_of_some _ (Heap.get?_push_of_some _ e))
     simp only [List.mem_cons, List.not_mem_nil, or_false, not_or]
     refine ⟨Nat.ne_of_lt q, ?_⟩
     rw [Heap.size_push]
     exact Nat.ne_of_lt (Nat.lt_succ_of_lt q)
   ·cases r₂ with
    | error e => exact hr₂
    | ok fl₂ =>
     cases fl₂ with
     | ret r =>
      obtain ⟨rfl, h', tk, rfl, x, kp⟩ := hr₂
      repeat (any_goals (first | assumption | wp_step))
      exact h _ _ x kp
     | _ => exact hr₂.elim
  | _ => exact hr.elim
end
end L2
namespace L2
open PySem PySem.Spec PyProof.Rows
section
variable {X : Cx}
def rSetT (K : PySem.W.Frag) (P : Program) (w : World) : List V → Hp → VK → Prop := fun xs H Q => ∃ (p : Addr) (ns : List Int), xs = [.ref p] ∧ SqT K H p (ns.map V.int) ∧ ns.length < 4000 ∧ ∀ l, H l = none → Q (.ref l) (upd H l (SetP P w l ns))
theorem call_setTK (K : PySem.W.Frag) (P : Program) (w : World) (hc : X.calm = true) (h : X.K = K := by rfl) (hP : X.prog = P := by rfl) (hw : X.w = w := by rfl) : CallR X (.type "set") (rSetT K P w) := by
 subst h hP hw
 intro pins s σ H xs us Q I r h
 obtain ⟨p, ns, rfl, hq, hlt, q⟩ := h
 obtain ⟨u, rfl, rx⟩ := vals1 r
 cases rx
 obtain ⟨its, r', pl, hz⟩ := I.tuple hq
 have hi : IntsAre its ns := intsAre_of r'
 have hlen : its.length = ns.length := hi.length
 refine set_of_tuple (I.ok.hd hc) (show s.heap.IsTuple p its.toArray from pl) (ns := ns) (by simpa using hi) (by show its.toArray.size + 1 < 4096; rw [List.size_toArray]; lia) fun h' tk x kp => ?_
 have x' : SetX (intKind X.prog X.w) h' s.heap.objs.size (fun k => decide (k ∈ ns)) (sortU ns).length := x.congr (fun k => by
  rw [List.size_toArray, hlen]; exact firstMet_mem ns k) (by rw [List.size_toArray, hlen]; exact firstMet_len ns)
 have he : ∃ o, h'.get? s.heap.objs.size = some o := let ⟨o, _, _, _, e, _⟩ := x'; ⟨o, e⟩
 exact ⟨.ref s.heap.objs.size, _, I.laid (t' := tk) (o := SetO X s.heap.objs.size ns) (fun b o e => kp b o (Heap.lt_size e) e) (Nat.le_refl _) ⟨x', he, fun h1 h2 y k => y.of_get k⟩, rfl, q _ (I.hok.fresh (Nat.le_refl _))⟩
theorem ty_kit {pins : List (Addr × Obj)} {σ : St} {H : Hp} {s : Shared} {x : V} {u t : Value} (I : Inv X pins σ H s) (rx : RelV x u) (ty : TyOf X.K H x t) : ∃ Hh : Heap → Prop, PySem.W.KitX X.K u t Hh ∧ Hh s.heap ∧ u ≠ .builtin "__main__.__loader__#opaque" := by
 cases ty with
 | non => cases (show u = Value.none from rx); exact ⟨_, PySem.W.kitx_none, True.intro, fun z => nomatch z⟩
 | bl y => cases (show u = Value.bool y from rx); exact ⟨_, PySem.W.kitx_bool, True.intro, fun z => nomatch z⟩
 | int i => obtain ⟨t, q⟩ := (show ∃ t, u = Value.int i t from rx); cases q; exact ⟨_, PySem.W.kitx_int, True.intro, fun z => nomatch z⟩
 | str y => obtain ⟨t, q⟩ := (show ∃ t, u = Value.str y t from rx); cases q; exact ⟨_, PySem.W.kitx_str, True.intro, fun z => nomatch z⟩
 | flt y => obtain ⟨t, q⟩ := (show ∃ t, u = Value.float y t from rx); cases q; exact ⟨_, PySem.W.kitx_float, True.intro, fun z => nomatch z⟩
 | @lst a xs ea =>
  cases (show u = Value.ref a from rx)
  obtain ⟨_, _, n, _, h1⟩ := (show ObjOk X.prog X.w H s.heap a (.lst xs) from I.hok a _ ea)
  exact ⟨_, PySem.W.kitx_list, ⟨_, h1, rfl⟩, fun z => nomatch z⟩
 | @frz a ob xs ea =>
  cases (show u = Value.ref a from rx)
  obtain ⟨_, _, _, n, _, h1⟩ := (show ObjOk X.prog X.w H s.heap a (.frz ob (.lst xs)) from I.hok a _ ea)
  exact ⟨_, PySem.W.kitx_list, ⟨_, h1, rfl⟩, fun z => nomatch z⟩
 | @tup a xs ea =>
  cases (show u = Value.ref a from rx)
  obtain ⟨_, _, _, p⟩ := (show ObjOk X.prog X.w H s.heap a (.tup xs) from I.hok a _ ea)
  obtain ⟨o, h1, h2, _⟩ := p
  exact ⟨_, PySem.W.kitx_tuple, ⟨o, h1, h2⟩, fun z => nomatch z⟩
 | @dK a kvs ea =>
  cases (show u = Value.ref a from rx)
  obtain ⟨_, _, vs, _, p⟩ := (show ObjOk X.prog X.w H s.heap a (.dK kvs) from I.hok a _ ea)
  obtain ⟨o, es, ep, h1, h2, _⟩ := p
  exact ⟨_, PySem.W.kitx_dict, ⟨o, h1, h2.1⟩, fun z => nomatch z⟩
 | @dT a kvs ea =>
  cases (show u = Value.ref a from rx)
  obtain ⟨_, _, xs, _, o, es, ep, h1, h2, _⟩ := (show ObjOk X.prog X.w H s.heap a (.dT kvs) from I.hok a _ ea)
  exact ⟨_, PySem.W.kitx_dict, ⟨o, h1, h2.1⟩, fun z => nomatch z⟩
 | @ins a C dx fs ea cl ha hn htk hm =>
  cases (show u = Value.ref a from rx)
  obtain ⟨mA, O, _⟩ := ins_get I.hok ea
  obtain ⟨od, J, _⟩ := O.look
  exact ⟨_, PySem.W.kitx_own (cl.get _) cl.hd ha hn htk hm, J, fun z => nomatch z⟩
def rIsinstT (K : PySem.W.Frag) : List V → Hp → VK → Prop := fun xs H Q => ∃ v p t T1 T2 b1 b2, xs = [v, .ref p] ∧ H p = some (.tup [.ty T1, .ty T2]) ∧ TyOf K H v t ∧ PySem.W.kitOne K t (.type T1) = some b1 ∧ PySem.W.kitOne K t (.type T2) = some b2 ∧ Q (.bl (b1 || b2)) H
theorem call_isinstTK (K : PySem.W.Frag) (h : X.K = K := by rfl) : CallR X (.builtin "isinstance") (rIsinstT K) := by
 subst h
 intro pins s σ H xs us Q I r h
 obtain ⟨v, p, t, T1, T2, b1, b2, rfl, hp, ty, e1, e2, q⟩ := h
 obtain ⟨u, u', rfl, r1, r2⟩ := vals2 r
 cases r2
 obtain ⟨Hh, Z, zh, hx⟩ := ty_kit I r1 ty
 obtain ⟨_, its, rv, pl⟩ := (show ObjOk X.prog X.w H s.heap p (.tup [.ty T1, .ty T2]) from I.hok p _ hp)
 obtain ⟨w1, w2, rfl, q1, q2⟩ := vals2 rv
 cases q1
 cases q2
 obtain ⟨⟨oc, od, dat, sl⟩, g1, g2, n, g3⟩ := pl
 simp only at g2 g3
 subst g2 g3
 have ka : PySem.W.kitAny X.K t [.type T1, .type T2] = some (b1 || b2) := by
  unfold PySem.W.kitAny
  rw [e1]
  cases b1 with
  | true => rfl
  | false =>
   show PySem.W.kitAny X.K t [.type T2] = some b2
   unfold PySem.W.kitAny
   rw [e2]
   cases b2 <;> rfl
 exact PySem.W.kia_tup Z I.kIn zh g1 ka hx fun tk => ⟨.bl (b1 || b2), H, I.tok _, rfl, q⟩
def selfV : V → Bool
 | .int _ | .bl _ | .non | .ref _ => true
 | _ => false
def rNeSelf (K : PySem.W.Frag) : R2 := fun x y H Q => ∃ (a b : Addr) (xs : List V), x = .ref a ∧ y = .ref b ∧ SqL K H a (xs) ∧ SqL K H b xs ∧ xs.all selfV = true ∧ Q (.bl false) H
theorem self_eq {A : Around} {s : Shared} {x : V} {u v : Value} (h : selfV x = true) (ru : RelV x u) (rv : RelV x v) : SeqAt.EqAt A s u v true := by
 cases x with
 | int i =>
  obtain ⟨t, rfl⟩ := ru
  obtain ⟨t', rfl⟩ := rv
  have := SeqAt.EqAt.int_int (A := A) (s := s) i t i t'
  rwa [beq_self_eq_true] at this
 | bl b => cases ru; cases rv; exact SeqAt.EqAt.same _
 | non => cases ru; cases rv; exact SeqAt.EqAt.same _
 | ref a => cases ru; cases rv; exact SeqAt.EqAt.same _
 | _ => cases h
theorem op_neSelfK (K : PySem.W.Frag) (hu : X.A.units < cLine) (h : X.K = K := by rfl) : OpR X (compareOp .NotEq) (rNeSelf K) := by
 subst h
 intro pins s σ H x y v u Q I rx ry h
 obtain ⟨a, b, xs, rfl, rfl, ha, hb, hr, q⟩ := h
 cases rx
 cases ry
 obtain ⟨us, r1, p1, _⟩ := I.list ha
 obtain ⟨vs, r2, p2, _⟩ := I.list hb
 have l1 := r1.length
 have l2 := r2.length
 refine SeqAt.RcNeAt.lists (e := fun j => true) p1.isList p2.isList (by simp only [List.size_toArray]; lia) (by lia) (fun j h1 h2 => ?_) X.prog X.w X.xe _ ?_
 ·rw [List.size_toArray] at h1 h2
  have e1 : xs[j]? = some (xs[j]'(by lia)) := List.getElem?_eq_getElem _
  obtain ⟨u, w1, s1⟩ := r1.get e1
  obtain ⟨v, w2, s2⟩ := r2.get e1
  have z1 : us.toArray[j] = u := by rw [List.getElem?_eq_getElem h1] at w1; simpa using w1
  have z2 : vs.toArray[j] = v := by rw [List.getElem?_eq_getElem h2] at w2; simpa using w2
  rw [z1, z2]
  exact self_eq (List.all_eq_true.mp hr _ (List.getElem_mem _)) s1 s2
 ·have : ((List.range us.toArray.size).all fun _ => true) = true := by simp
  rw [this]
  exact ⟨.bl false, H, I, rfl, q⟩
end
end L2
namespace L2
open PySem PySem.Spec PyProof.Rows
section
variable {prog : Program} {w : World} {A : Around} {E : Value → Shared → Prop} {s : Shared}
theorem collect_tup {it : Addr} {vs : List Value} {Q : List Value → Shared → Prop} {o : Obj} {n : Nat} (ho : s.heap.get? it = some o) (hc : o.cls = .type "tuple") (hd : o.data = .seq vs.toArray n)
  (h : Q vs { s with heap := (s.heap.push (seqObj "list" #[] 0)).update s.heap.objs.size (Obj.mapSeq (· ++ vs.toArray)) }) (hsz : vs.length ≤ sizeLine) : wpAny (model prog w) A (collect (.ref it)) Q E s := by
 unfold collect
 refine wpAny_bind (wpAny_runValue (codeAny_builtin F.entry_proto_collect ?_))
 rw [Around.under_plainId F.plain_proto_collect _]
 show wpAny _ A.in1 (newList [] >>= fun l => again (.builtin "list.__iadd__" ⟨[l, .ref it], []⟩)) _ _ s
 refine wpAny_bind (wpAny_newObj_type ?_)
 refine wpAny_pure ⟨plainId_quiet F.plain_list_iadd _, codeAny_builtin F.entry_list_iadd ?_⟩
 rw [Around.under_plainId F.plain_list_iadd _]
 show wpAny _ A.in1 (Builtin.List.listExtendWith (.ref s.heap.objs.size) (.ref it) (.ref s.heap.objs.size)) _ _ _
 have hS : (s.heap.push (seqObj "list" #[] 0)).get? s.heap.objs.size = some (seqObj "list" #[] 0) := Heap.get?_push_size _ rfl
 have fin' : wpAny (model prog w) A (match Value.ref s.heap.objs.size with
   | Value.ref a => do
    match (← load a).data with
     | Data.seq xs _ => pure xs.toList
     | _ => unsupported "internal:collect"
   | _ => unsupported "internal:collect") Q E { s with heap := (s.heap.push (seqObj "list" #[] 0)).update s.heap.objs.size (Obj.mapSeq (· ++ vs.toArray)) } := by
  show wpAny _ A (load s.heap.objs.size >>= _) _ _ _
  refine wpAny_bind (wpAny_load (get?_update_seq hS _) ?_)
  show wpAny _ _ (pure ((#[] : Array Value) ++ vs.toArray).toList) Q E _
  rw [show ((#[] : Array Value) ++ vs.toArray).toList = vs by simp]
  exact wpAny_pure h
 refine wpAny_mono (wpAny_extend_seq (hsz := by simpa using hsz) (A := A) (R := fun r s' => r = .ok (.ret (.ref s.heap.objs.size)) ∧ s' = { s with heap := (s.heap.push (seqObj "list" #[] 0)).update s.heap.objs.size (Obj.mapSeq (· ++ vs.toArray)) })
  (s := { s with heap := s.heap.push (seqObj "list" #[] 0) }) _ it _ 0 (.inr rfl) hS (Heap.get?_push_of_some _ ho) hc hd ⟨rfl, rfl⟩) (fun fin s' h => ?_) (fun e s' h => ?_)
 ·cases fin with
  | done f =>
   obtain ⟨e, rfl⟩ := h
   cases e
   exact fin'
  | again c' => exact ⟨h.1, codeAny_mono h.2 fun r s'' hr => by obtain ⟨rfl, rfl⟩ := hr; exact fin'⟩
 ·exact absurd h.1 (by simp)
theorem sorted_tupI {l : Addr} {vs : List Value} {ns : List Int} {Q : Value → Shared → Prop} {o : Obj} {n : Nat} (ho : s.heap.get? l = some o) (hc : o.cls = .type "tuple") (hd : o.data = .seq vs.toArray n) (hI : IntsAre vs ns) (h64 : vs.length < 64)
  (h : ∀ (out : Array Value) (ns' : List Int), IntsAre out.toList ns' → ns'.Perm ns → ns'.Pairwise (· ≤ ·) → Q (.ref (s.heap.objs.size + 1)) { s with heap := sortedAll s.heap vs out }) :
  wpAny (model prog w) A (call (.builtin "sorted") [.ref l]) Q E s := by
 refine Calls.call_function_entry kind_sorted plain_sorted entry_sorted (args_sorted1 _) ?_
 unfold Builtin.«sorted»
 refine wpAny_bind (m := checkCount "sorted" 1 1 _) (wpAny_pure ?_)
 refine wpAny_bind (collect_tup ho hc hd ?_ (Nat.le_trans (Nat.le_of_lt h64) (by decide)))
 refine wpAny_bind (wpAny_newList ?_ (Nat.le_trans (Nat.le_of_lt h64) (by decide)))
 have hsz : ((s.heap.push (seqObj "list" #[] 0)).update s.heap.objs.size (Obj.mapSeq (· ++ vs.toArray))).objs.size = s.heap.objs.size + 1 := by
  rw [Heap.size_update, size_push']
 have hoL : (((s.heap.push (seqObj "list" #[] 0)).update s.heap.objs.size (Obj.mapSeq (· ++ vs.toArray))).push (seqObj "list" vs.toArray 0)).get? (s.heap.objs.size + 1) = some (seqObj "list" vs.toArray 0) := by
  rw [← hsz]; exact Heap.get?_push_size _ rfl
 show wpAny _ _ _ _ _ { s with heap := ((s.heap.push (seqObj "list" #[] 0)).update s.heap.objs.size (Obj.mapSeq (· ++ vs.toArray))).push (seqObj "list" vs.toArray 0) }
 rw [hsz]
 refine wpAny_bind (wpAny_holding (wpAny_call_entry slot_list_sort ⟨_, hoL, rfl⟩ entry_list_sort (list_sort_tree hoL hI h64 fun out ns' a1 a2 a3 => ⟨_, rfl, ?_⟩) (args_list_sort _)))
 exact wpAny_pure ⟨_, rfl, h out ns' a1 a2 a3⟩
end
section
variable {X : Cx}
def rSortedE (K : PySem.W.Frag) : List V → Hp → VK → Prop := fun xs H Q => ∃ (p : Addr) (ns : List Int), xs = [.ref p] ∧ (SqT K H p (ns.map V.int) ∨ SqL K H p (ns.map V.int)) ∧ ns.length < 64 ∧ ∀ ns' : List Int, ns'.Perm ns → ns'.Pairwise (· ≤ ·) → ∀ l, H l = none → Q (.ref l) (upd H l (.lst (ns'.map V.int)))
theorem call_sortedE (K : PySem.W.Frag) (h : X.K = K := by rfl) : CallR X (.builtin "sorted") (rSortedE K) := by
 subst h
 intro pins s σ H xs us Q I r h
 obtain ⟨p, ns, rfl, hq, h64, q⟩ := h
 obtain ⟨u, rfl, rx⟩ := vals1 r
 cases rx
 rcases hq with hq | hq
 ·obtain ⟨its, r', pl, hz⟩ := I.tuple hq
  have hi : IntsAre its ns := intsAre_of r'
  have hlen : its.length = ns.length := hi.length
  obtain ⟨ot, g1, g2, n, g3⟩ := pl
  refine sorted_tupI g1 g2 g3 hi (by lia) fun out ns' a1 a2 a3 => ?_
  obtain ⟨e, he⟩ := sortedAll_at s.heap its out
  have hz' : (ns'.map V.int).length ≤ sizeLine := by
   rw [List.length_map, a2.length_eq]
   rw [List.length_map] at hz
   exact hz
  exact ⟨.ref (s.heap.objs.size + 1), _, I.laid (t' := s.toks) (o := .lst (ns'.map V.int)) (fun b o e => sortedAll_old e) (Nat.le_succ _) ⟨hz', out.toList, e, vals_ints a1, by simpa [seqObj] using he⟩, rfl, q ns' a2 a3 _ (I.hok.fresh (Nat.le_succ _))⟩
 ·exact (call_sortedK X.K) pins s σ H _ _ Q I r ⟨p, ns, rfl, hq, h64, q⟩
end
end L2
open PySem
namespace L2
variable {X : Cx}
theorem ps_tryNo {body : List Stmt} {x : Option Expr} {z : Option Str} {suite : List Stmt} {hpos pos : Pos} {tb : (St → XK) → TS}
  (hb : ∀ (pn : List (Addr × Obj)) (E : St → XK), PSs (tcx X pn E) body (tb E)) :
  PS X (.Try body [.ExceptHandler x z suite hpos] [] [] pos) (tb fun _ _ _ _ => False) := by
 intro pins s σ H D I h
 refine wpAny_Try_except ?_
 refine wpAny_mono (hb (X.pn ++ pins) (fun _ _ _ _ => False) [] s σ H D (I.toPinned.wish _) h) (fun fl s1 q => ?_) (fun e s1 q => ?_)
 ·cases fl with
  | next => obtain ⟨σ', H', J, q⟩ := q; exact wpAny_execs_nil ⟨σ', H', J.unwish.ofPinned, q⟩
  | brk => obtain ⟨σ', H', J, q⟩ := q; exact ⟨σ', H', J.unwish.ofPinned, q⟩
  | cont => obtain ⟨σ', H', J, q⟩ := q; exact ⟨σ', H', J.unwish.ofPinned, q⟩
  | ret u => obtain ⟨v, σ', H', J, r, q⟩ := q; exact ⟨v, σ', H', J.unwish.ofPinned, r, q⟩
 ·obtain ⟨ps, σ1, H1, s0, J0, ea, C, a0, B, H2, rfl, os, bare, fl, fy, hok, hE⟩ := q
  exact hE.elim
end L2
def PySem.W.Fast.tw5629674729183152605 : Nat := 0
def PySem.W.Fast.tw10060997889870363530 : Nat := 0
def PySem.W.Fast.tw3304701192810387871 : Nat := 0
def PySem.W.Fast.tw5175870870208929364 : Nat := 0
def PySem.W.Fast.tw14548513713289225349 : Nat := 0
def PySem.W.Fast.tw6778535937444266703 : Nat := 0
def PySem.W.Fast.tw17770367214130947660 : Nat := 0
def PySem.W.Fast.tw1321043738876619304 : Nat := 0
def PySem.W.Fast.tw8966838200060620544 : Nat := 0
def PySem.W.Fast.tw1991573457530190553 : Nat := 0
def PySem.W.Fast.tw10622080706231505342 : Nat := 0
def PySem.W.Fast.tw16047550736835626864 : Nat := 0
def PySem.W.Fast.tw6766452574111839529 : Nat := 0
def PySem.W.Fast.tw12460632569951531232 : Nat := 0
def PySem.W.Fast.tw5094412056821404567 : Nat := 0
def PySem.W.Fast.tw3917735953621899837 : Nat := 0
def PySem.W.Fast.tw14452986216071091946 : Nat := 0
def PySem.W.Fast.tw2035855265951404706 : Nat := 0
def PySem.W.Fast.tw12330020574431238228 : Nat := 0
def PySem.W.Fast.tw2097848317397681912 : Nat := 0
def PySem.W.Fast.tw1384350129951630522 : Nat := 0
def PySem.W.Fast.tw3004232732823906236 : Nat := 0
def PySem.W.Fast.tw16238226970305482836 : Nat := 0
def PySem.W.Fast.tw7604387321127991457 : Nat := 0
def PySem.W.Fast.tw5250821246676871083 : Nat := 0
def PySem.W.Fast.tw9403066471542900377 : Nat := 0
def PySem.W.Fast.tw15598405062128721374 : Nat := 0
def PySem.W.Fast.tw11545383225650843342 : Nat := 0
def PySem.W.Fast.tw4817184765210126476 : Nat := 0
def PySem.W.Fast.tw66004209537921175 : Nat := 0
def PySem.W.Fast.tw2949422790134853492 : Nat := 0
def PySem.W.Fast.tw1642606618954321567 : Nat := 0
def PySem.W.Fast.tw6460412032011807208 : Nat := 0
def PySem.W.Fast.tw5638418157810357901 : Nat := 0
def PySem.W.Fast.tw9063371630476759712 : Nat := 0
def PySem.W.Fast.tw14726572017801908077 : Nat := 0
def PySem.W.Fast.tw591674983876210984 : Nat := 0
def PySem.W.Fast.tw4313584740362447416 : Nat := 0
def PySem.W.Fast.tw4798495520298706287 : Nat := 0
def PySem.W.Fast.tw14268442664613401225 : Nat := 0
def PySem.W.Fast.tw3191146126962562973 : Nat := 0
def PySem.W.Fast.tw11010265179964691239 : Nat := 0
def PySem.W.Fast.tw12994649177537493113 : Nat := 0
def PySem.W.Fast.tw2148211595732905532 : Nat := 0
def PySem.W.Fast.tw9711356103706924943 : Nat := 0
def PySem.W.Fast.tw9672791314855322765 : Nat := 0
def PySem.W.Fast.tw4140772282325459117 : Nat := 0
def PySem.W.Fast.tw3963901886337755955 : Nat := 0
def PySem.W.Fast.tw16320552757085110657 : Nat := 0
def PySem.W.Fast.tw17749640278130952883 : Nat := 0
def PySem.W.Fast.tw12535399495700576750 : Nat := 0
def PySem.W.Fast.tw16744192820926994046 : Nat := 0
def PySem.W.Fast.tw10356501444625261825 : Nat := 0
def PySem.W.Fast.tw8203484120938986246 : Nat := 0
def PySem.W.Fast.tw15780704580114107110 : Nat := 0
def PySem.W.Fast.tw6617939867635203380 : Nat := 0
def PySem.W.Fast.tw12167741979385685146 : Nat := 0
def PySem.W.Fast.tw7831184838419700626 : Nat := 0
def PySem.W.Fast.tw14428179575580496814 : Nat := 0
def PySem.W.Fast.tw8239094235387119947 : Nat := 0
def PySem.W.Fast.tw3317533586843330143 : Nat := 0
def PySem.W.Fast.tw16729307976802742770 : Nat := 0
def PySem.W.Fast.tw10772556319300408358 : Nat := 0
def PySem.W.Fast.tw16383467475467789675 : Nat := 0
def PySem.W.Fast.tw14365947188928386480 : Nat := 0
def PySem.W.Fast.tw2899431842171981875 : Nat := 0
def PySem.W.Fast.tw13843410167709815353 : Nat := 0
def PySem.W.Fast.tw14682972126684194495 : Nat := 0
def PySem.W.Fast.tw2200848934889022111 : Nat := 0
def PySem.W.Fast.tw2928724117416607815 : Nat := 0
def PySem.W.Fast.tw9970047589830201163 : Nat := 0
def PySem.W.Fast.tw6975557505947052663 : Nat := 0
def PySem.W.Fast.tw3600522846880251052 : Nat := 0
def PySem.W.Fast.tw14481610118799630250 : Nat := 0
def PySem.W.Fast.tw18304330849230348218 : Nat := 0
def PySem.W.Fast.tw9304159898939139087 : Nat := 0
def PySem.W.Fast.tw10638998883119407825 : Nat := 0
def PySem.W.Fast.tw10989015238139402841 : Nat := 0
def PySem.W.Fast.tw1904704316460348135 : Nat := 0
def PySem.W.Fast.tw14696038021090452033 : Nat := 0
def PySem.W.Fast.tw4479332801793734568 : Nat := 0
def PySem.W.Fast.tw13958903826202213928 : Nat := 0
def PySem.W.Fast.tw17589231032874604024 : Nat := 0
def PySem.W.Fast.tw9725442631428218585 : Nat := 0
def PySem.W.Fast.tw704913562480407747 : Nat := 0
def PySem.W.Fast.tw12406821187221292293 : Nat := 0
def PySem.W.Fast.tw7524825289007038334 : Nat := 0
def PySem.W.Fast.tw780294651077738926 : Nat := 0
def PySem.W.Fast.tw13531489566987524897 : Nat := 0
def PySem.W.Fast.tw14978188557442829322 : Nat := 0
def PySem.W.Fast.tw1318465611819924511 : Nat := 0
def PySem.W.Fast.tw11487646938890582356 : Nat := 0
def PySem.W.Fast.tw1387318409027505731 : Nat := 0
def PySem.W.Fast.tw7816557697383018330 : Nat := 0
def PySem.W.Fast.tw17269294012364131306 : Nat := 0
def PySem.W.Fast.tw4050944249362372290 : Nat := 0
def PySem.W.Fast.tw2521172126587892530 : Nat := 0
def PySem.W.Fast.tw14559213946548034143 : Nat := 0
def PySem.W.Fast.tw8715988365785973308 : Nat := 0
def PySem.W.Fast.tw10894793886640885137 : Nat := 0
def PySem.W.Fast.tw10706775903552974350 : Nat := 0
def PySem.W.Fast.tw8748438933292266569 : Nat := 0
def PySem.W.Fast.tw14655084883047303788 : Nat := 0
def PySem.W.Fast.tw11823678760875338035 : Nat := 0
def PySem.W.Fast.tw1728794153017805044 : Nat := 0
def PySem.W.Fast.tw7545120717922708066 : Nat := 0
def PySem.W.Fast.tw5808306153859490357 : Nat := 0
def PySem.W.Fast.tw12673769598291742839 : Nat := 0
def PySem.W.Fast.tw11028688857686064615 : Nat := 0
def PySem.W.Fast.tw13112058687716916036 : Nat := 0
def PySem.W.Fast.tw9654350854205046119 : Nat := 0
def PySem.W.Fast.tw10959913337366569631 : Nat := 0
def PySem.W.Fast.tw17505150845587564678 : Nat := 0
def PySem.W.Fast.tw2880800168505561130 : Nat := 0
def PySem.W.Fast.tw8133620020620919674 : Nat := 0
def PySem.W.Fast.tw7043746074313265687 : Nat := 0
def PySem.W.Fast.tw14907108541112350079 : Nat := 0
def PySem.W.Fast.tw2674562841055706974 : Nat := 0
def PySem.W.Fast.tw9019405558677154198 : Nat := 0
def PySem.W.Fast.tw5191467278886625948 : Nat := 0
def PySem.W.Fast.tw6267078975431877057 : Nat := 0
def PySem.W.Fast.tw5340936337589143837 : Nat := 0
def PySem.W.Fast.tw10995429913512148718 : Nat := 0
def PySem.W.Fast.tw2384528077925632127 : Nat := 0
def PySem.W.Fast.tw1145420042061110160 : Nat := 0
def PySem.W.Fast.tw12827767483720370682 : Nat := 0
def PySem.W.Fast.tw3257436523369389058 : Nat := 0
def PySem.W.Fast.tw2739648607213042762 : Nat := 0
def PySem.W.Fast.tw17495888265293341494 : Nat := 0
def PySem.W.Fast.tw2541092042497070792 : Nat := 0
def PySem.W.Fast.tw8068085803544697003 : Nat := 0
def PySem.W.Fast.tw13253053705981874439 : Nat := 0
def PySem.W.Fast.tw8113980620749600710 : Nat := 0
def PySem.W.Fast.tw14440524502435640926 : Nat := 0
def PySem.W.Fast.tw1240997881824836220 : Nat := 0
def PySem.W.Fast.tw13353524675516647737 : Nat := 0
def PySem.W.Fast.tw2884627515147614257 : Nat := 0
def PySem.W.Fast.tw12479191454108035034 : Nat := 0
def PySem.W.Fast.tw12268633001534996588 : Nat := 0
def PySem.W.Fast.tw18089214011407246706 : Nat := 0
def PySem.W.Fast.tw14246911719606582617 : Nat := 0
def PySem.W.Fast.tw8713418657305626118 : Nat := 0
def PySem.W.Fast.tw13899101867269739110 : Nat := 0
def PySem.W.Fast.tw16767240803200425471 : Nat := 0
def PySem.W.Fast.tw7026498857318186482 : Nat := 0
def PySem.W.Fast.tw9412943818662424987 : Nat := 0
def PySem.W.Fast.tw14441683413880125227 : Nat := 0
def PySem.W.Fast.tw4772452329308147311 : Nat := 0
def PySem.W.Fast.tw4647794179090651740 : Nat := 0
def PySem.W.Fast.tw17100751374671866819 : Nat := 0
def PySem.W.Fast.tw14209670242377099785 : Nat := 0
def PySem.W.Fast.tw8676436473664109534 : Nat := 0
def PySem.W.Fast.tw6595377670790835398 : Nat := 0
def PySem.W.Fast.tw16736094355929390489 : Nat := 0
def PySem.W.Fast.tw374673084187731059 : Nat := 0
def PySem.W.Fast.tw11350922596223127796 : Nat := 0
def PySem.W.Fast.tw10170633138099760084 : Nat := 0
def PySem.W.Fast.tw14543196059348092861 : Nat := 0
def PySem.W.Fast.tw932551474287583007 : Nat := 0
def PySem.W.Fast.tw17808132489996797491 : Nat := 0
def PySem.W.Fast.tw9262832015825809133 : Nat := 0
def PySem.W.Fast.tw6375105674564249236 : Nat := 0
def PySem.W.Fast.tw1668944042360427983 : Nat := 0
def PySem.W.Fast.tw10661888351525852762 : Nat := 0
def PySem.W.Fast.tw699811221055997684 : Nat := 0
def PySem.W.Fast.tw3446666182532058000 : Nat := 0
def PySem.W.Fast.tw9634866308682111506 : Nat := 0
def PySem.W.Fast.tw8972531508182247606 : Nat := 0
def PySem.W.Fast.tw4174309519643833673 : Nat := 0
def PySem.W.Fast.tw11046687553971549022 : Nat := 0
def PySem.W.Fast.tw14001132724625994927 : Nat := 0
def PySem.W.Fast.tw10590863730557407813 : Nat := 0
def PySem.W.Fast.tw14962882222567419296 : Nat := 0
def PySem.W.Fast.tw8364764881297750708 : Nat := 0
def PySem.W.Fast.tw2838089233565633331 : Nat := 0
def PySem.W.Fast.tw14016434465777086645 : Nat := 0
def PySem.W.Fast.tw16430988579099586657 : Nat := 0
def PySem.W.Fast.tw12798388659980020399 : Nat := 0
def PySem.W.Fast.tw10289735281716780568 : Nat := 0
def PySem.W.Fast.tw6224257051119957804 : Nat := 0
def PySem.W.Fast.tw6446423570987010649 : Nat := 0
def PySem.W.Fast.tw2041852197505431885 : Nat := 0
def PySem.W.Fast.tw9661523490933972418 : Nat := 0
def PySem.W.Fast.tw902962725797821910 : Nat := 0
def PySem.W.Fast.tw764857853548267187 : Nat := 0
def PySem.W.Fast.tw2417149515701790245 : Nat := 0
def PySem.W.Fast.tw8592415820853548165 : Nat := 0
def PySem.W.Fast.tw5623583574567875753 : Nat := 0
def PySem.W.Fast.tw3951863295353758004 : Nat := 0
def PySem.W.Fast.tw698079056053722587 : Nat := 0
def PySem.W.Fast.tw3543243022773936686 : Nat := 0
def PySem.W.Fast.tw5231315487391362102 : Nat := 0
def PySem.W.Fast.tw6511001103582716371 : Nat := 0
def PySem.W.Fast.tw5316728373416315569 : Nat := 0
def PySem.W.Fast.tw15411667277611326953 : Nat := 0
def PySem.W.Fast.tw2807533675918367151 : Nat := 0
def PySem.W.Fast.tw3922246927482257841 : Nat := 0
def PySem.W.Fast.tw16228387921080298235 : Nat := 0
def PySem.W.Fast.tw18019530197406024663 : Nat := 0
def PySem.W.Fast.tw13456223880928485314 : Nat := 0
def PySem.W.Fast.tw5652086606971158221 : Nat := 0
def PySem.W.Fast.tw12990979865831028403 : Nat := 0
def PySem.W.Fast.tw17626239797181117395 : Nat := 0
def PySem.W.Fast.tw7772544175078226637 : Nat := 0
def PySem.W.Fast.tw6509231830539962903 : Nat := 0
def PySem.W.Fast.tw5383287955800403517 : Nat := 0
def PySem.W.Fast.tw3023551764753816053 : Nat := 0
def PySem.W.Fast.tw7966843742306768123 : Nat := 0
def PySem.W.Fast.tw12057721777628073740 : Nat := 0
def PySem.W.Fast.tw12550509158735336421 : Nat := 0
def PySem.W.Fast.tw17320131407062247069 : Nat := 0
def PySem.W.Fast.tw4481307969571783597 : Nat := 0
def PySem.W.Fast.tw29029554300220710 : Nat := 0
def PySem.W.Fast.tw12224374184506227172 : Nat := 0
def PySem.W.Fast.tw14147267732407864624 : Nat := 0
def PySem.W.Fast.tw17310614426570095998 : Nat := 0
def PySem.W.Fast.tw14913857911159954380 : Nat := 0
def PySem.W.Fast.tw1510043967040132641 : Nat := 0
def PySem.W.Fast.tw2607540841987977463 : Nat := 0
def PySem.W.Fast.tw11585489800242061241 : Nat := 0
def PySem.W.Fast.tw15582762347543676435 : Nat := 0
def PySem.W.Fast.tw10284389021991762751 : Nat := 0
def PySem.W.Fast.tw17414739851375980902 : Nat := 0
def PySem.W.Fast.tw873142396500220088 : Nat := 0
def PySem.W.Fast.tw5039396985954821391 : Nat := 0
def PySem.W.Fast.tw7955040998684591338 : Nat := 0
def PySem.W.Fast.tw6480432217218554015 : Nat := 0
def PySem.W.Fast.tw2067717695945651130 : Nat := 0
def PySem.W.Fast.tw8464453958880876662 : Nat := 0
def PySem.W.Fast.tw1136354417596944966 : Nat := 0
def PySem.W.Fast.tw14931250579296752338 : Nat := 0
def PySem.W.Fast.tw5724378210505528898 : Nat := 0
def PySem.W.Fast.tw9303892467884665722 : Nat := 0
def PySem.W.Fast.tw14537770072755184945 : Nat := 0
def PySem.W.Fast.tw13853813045127272101 : Nat := 0
def PySem.W.Fast.tw514244307072821995 : Nat := 0
def PySem.W.Fast.tw12403658106271821078 : Nat := 0
def PySem.W.Fast.tw10169306516785143575 : Nat := 0
def PySem.W.Fast.tw13807840123646114296 : Nat := 0
def PySem.W.Fast.tw3499455516146979832 : Nat := 0
def PySem.W.Fast.tw970569997791443389 : Nat := 0
def PySem.W.Fast.tw7034024484716326720 : Nat := 0
def PySem.W.Fast.tw3042018798527062096 : Nat := 0
def PySem.W.Fast.tw12596282630759613271 : Nat := 0
def PySem.W.Fast.tw16387795401474681894 : Nat := 0
def PySem.W.Fast.tw18319502102438184001 : Nat := 0
def PySem.W.Fast.tw3797764125019447886 : Nat := 0
def PySem.W.Fast.tw2626227737307545142 : Nat := 0
def PySem.W.Fast.tw3126879773890017634 : Nat := 0
def PySem.W.Fast.tw13595608613656272072 : Nat := 0
def PySem.W.Fast.tw16539872491787057887 : Nat := 0
def PySem.W.Fast.tw5066364504554708170 : Nat := 0
def PySem.W.Fast.tw8488136506378382077 : Nat := 0
def PySem.W.Fast.tw3430176568080566466 : Nat := 0
def PySem.W.Fast.tw12688436517959658330 : Nat := 0
def PySem.W.Fast.tw6534400736287584695 : Nat := 0
def PySem.W.Fast.tw3962911976508425442 : Nat := 0
def PySem.W.Fast.tw12858082014483133834 : Nat := 0
def PySem.W.Fast.tw3994723138301649408 : Nat := 0
def PySem.W.Fast.tw6600414941131857665 : Nat := 0
def PySem.W.Fast.tw11137950589576774712 : Nat := 0
def PySem.W.Fast.tw4374240591471291545 : Nat := 0
def PySem.W.Fast.tw16121040289534241827 : Nat := 0
def PySem.W.Fast.tw11383479879504144794 : Nat := 0
def PySem.W.Fast.tw10153510747397807798 : Nat := 0
def PySem.W.Fast.tw3406697317077757844 : Nat := 0
def PySem.W.Fast.tw12785018133984358654 : Nat := 0
def PySem.W.Fast.tw10299296000733532073 : Nat := 0
def PySem.W.Fast.tw17215124074625973872 : Nat := 0
def PySem.W.Fast.tw1573748140588389293 : Nat := 0
def PySem.W.Fast.tw12606279348026065965 : Nat := 0
def PySem.W.Fast.tw1418683888744821692 : Nat := 0
def PySem.W.Fast.tw5215843075687631558 : Nat := 0
def PySem.W.Fast.tw1894113060517237743 : Nat := 0
def PySem.W.Fast.tw12221205925633655745 : Nat := 0
def PySem.W.Fast.tw4810318623807766692 : Nat := 0
def PySem.W.Fast.tw4656262280528536796 : Nat := 0
def PySem.W.Fast.tw13030713532713133585 : Nat := 0
def PySem.W.Fast.tw4708086686490723240 : Nat := 0
def PySem.W.Fast.tw15536036925622114058 : Nat := 0
def PySem.W.Fast.tw12341396924061415422 : Nat := 0
def PySem.W.Fast.tw1842038359258187480 : Nat := 0
def PySem.W.Fast.tw4451876071026206522 : Nat := 0
def PySem.W.Fast.tw12692327699408282554 : Nat := 0
def PySem.W.Fast.tw4940109469252363248 : Nat := 0
def PySem.W.Fast.tw8974398996447123139 : Nat := 0
def PySem.W.Fast.tw5436648169971903603 : Nat := 0
def PySem.W.Fast.tw8696919510328261522 : Nat := 0
def PySem.W.Fast.tw3129307732164233881 : Nat := 0
def PySem.W.Fast.tw4595147060289442670 : Nat := 0
def PySem.W.Fast.tw4696990155875594942 : Nat := 0
def PySem.W.Fast.tw13885746724885284292 : Nat := 0
def PySem.W.Fast.tw840864120153061545 : Nat := 0
def PySem.W.Fast.tw10590590033212124119 : Nat := 0
def PySem.W.Fast.tw4307436236105598078 : Nat := 0
def PySem.W.Fast.tw2164864447344820918 : Nat := 0
def PySem.W.Fast.tw1493147184811069641 : Nat := 0
def PySem.W.Fast.tw1355925271290476583 : Nat := 0
def PySem.W.Fast.tw14081486407584815168 : Nat := 0
def PySem.W.Fast.tw18424505142340074923 : Nat := 0
def PySem.W.Fast.tw9145699914307251108 : Nat := 0
def PySem.W.Fast.tw13565657522905517127 : Nat := 0
def PySem.W.Fast.tw14052710233133281934 : Nat := 0
def PySem.W.Fast.tw568699281406860468 : Nat := 0
def PySem.W.Fast.tw249851897973052779 : Nat := 0
def PySem.W.Fast.tw11732951596700542877 : Nat := 0
def PySem.W.Fast.tw12236409686629765919 : Nat := 0
def PySem.W.Fast.tw5515304571859367764 : Nat := 0
def PySem.W.Fast.tw9662736654733472361 : Nat := 0
def PySem.W.Fast.tw9078673668126547240 : Nat := 0
def PySem.W.Fast.tw17454797732151020490 : Nat := 0
def PySem.W.Fast.tw5172896085612292398 : Nat := 0
def PySem.W.Fast.tw11177216182574317797 : Nat := 0
def PySem.W.Fast.tw6495139873848134963 : Nat := 0
def PySem.W.Fast.tw11368744003854630967 : Nat := 0
def PySem.W.Fast.tw7578278024096137292 : Nat := 0
def PySem.W.Fast.tw11873310953791114970 : Nat := 0
def PySem.W.Fast.tw1371183913340495679 : Nat := 0
def PySem.W.Fast.tw1730984448295818705 : Nat := 0
def PySem.W.Fast.tw7240666830451221276 : Nat := 0
def PySem.W.Fast.tw12521296725325587237 : Nat := 0
def PySem.W.Fast.tw2929611129216010077 : Nat := 0
def PySem.W.Fast.tw7864498343768461823 : Nat := 0
def PySem.W.Fast.tw11256139641851164134 : Nat := 0
def PySem.W.Fast.tw8232916826537225689 : Nat := 0
def PySem.W.Fast.tw15458838277942697234 : Nat := 0
def PySem.W.Fast.tw3670837765342135065 : Nat := 0
def PySem.W.Fast.tw392888718421184296 : Nat := 0
def PySem.W.Fast.tw700749813326708419 : Nat := 0
def PySem.W.Fast.tw8141393072713490495 : Nat := 0
def PySem.W.Fast.tw15415345704179442821 : Nat := 0
def PySem.W.Fast.tw3124640485797421578 : Nat := 0
def PySem.W.Fast.tw7139522437517705305 : Nat := 0
def PySem.W.Fast.tw5081956939791991910 : Nat := 0
def PySem.W.Fast.tw10116679986449019676 : Nat := 0
def PySem.W.Fast.tw17132481866453891687 : Nat := 0
def PySem.W.Fast.tw16661399644542598998 : Nat := 0
def PySem.W.Fast.tw15346680274569789319 : Nat := 0
def PySem.W.Fast.tw9469050997549999917 : Nat := 0
def PySem.W.Fast.tw10717085566620361307 : Nat := 0
def PySem.W.Fast.tw15723543668107901330 : Nat := 0
def PySem.W.Fast.tw6708852283322135156 : Nat := 0
def PySem.W.Fast.tw435761996130171916 : Nat := 0
def PySem.W.Fast.tw12158638229647287620 : Nat := 0
def PySem.W.Fast.tw2991191704536547376 : Nat := 0
def PySem.W.Fast.tw10449161423885742776 : Nat := 0
def PySem.W.Fast.tw341851429589694309 : Nat := 0
def PySem.W.Fast.tw11979329482716178559 : Nat := 0
def PySem.W.Fast.tw8250430569101039895 : Nat := 0
def PySem.W.Fast.tw9739560587408159159 : Nat := 0
namespace My
open PySem L2 PyProof.Rows
seal PE PT PW PA PS PSs PG PI PIfs OpR CallR TruR IxR MtR MtM PSet PGet PIp
def top (i : Nat) : Stmt := PySem.Challenge.pw_crossracks_k26_whole_never_engaged.main.body.getD i (.Pass ⟨0, 0, 0, 0⟩)
structure Txt (K : PySem.W.Frag) (mg : Str → Option Value) : Prop where
 m_len : mg "len" = none
 m_isinstance : mg "isinstance" = none
 m_int : mg "int" = none
 m_bool : mg "bool" = none
 m_tuple : mg "tuple" = none
 m_list : mg "list" = none
 m_set : mg "set" = none
 m_sorted : mg "sorted" = none
 m_divmod : mg "divmod" = none
 m_range : mg "range" = none
 m_abs : mg "abs" = none
 m_min : mg "min" = none
 m_max : mg "max" = none
 m_any : mg "any" = none
 m_all : mg "all" = none
 m_ValueError : mg "ValueError" = none
structure TxtC (K : PySem.W.Frag) (mg : Str → Option Value) (C_Rule : Addr) (C_Fullest : Addr) (C_Emptiest : Addr) (C_Round : Addr) (C_Told : Addr) : Prop where
 mg_Rule : mg "Rule" = some (.ref C_Rule)
 M_Rule : Made K mg "Rule" C_Rule
 cl_Rule : Cls K C_Rule
 p_Rule : PySem.W.findIn K (.ref C_Rule) "__init__" = some (some (.builtin "object.__init__"))
 ty_Rule : ∀ (H : Hp) (a dx : Addr) (fs : List (Str × V)), H a = some (.ins C_Rule dx fs) → TyOf K H (.ref a) (.ref C_Rule)
 mg_Fullest : mg "Fullest" = some (.ref C_Fullest)
 M_Fullest : Made K mg "Fullest" C_Fullest
 cl_Fullest : Cls K C_Fullest
 p_Fullest : PySem.W.findIn K (.ref C_Fullest) "__init__" = some (some (.builtin "object.__init__"))
 ty_Fullest : ∀ (H : Hp) (a dx : Addr) (fs : List (Str × V)), H a = some (.ins C_Fullest dx fs) → TyOf K H (.ref a) (.ref C_Fullest)
 mg_Emptiest : mg "Emptiest" = some (.ref C_Emptiest)
 M_Emptiest : Made K mg "Emptiest" C_Emptiest
 cl_Emptiest : Cls K C_Emptiest
 p_Emptiest : PySem.W.findIn K (.ref C_Emptiest) "__init__" = some (some (.builtin "object.__init__"))
 ty_Emptiest : ∀ (H : Hp) (a dx : Addr) (fs : List (Str × V)), H a = some (.ins C_Emptiest dx fs) → TyOf K H (.ref a) (.ref C_Emptiest)
 mg_Round : mg "Round" = some (.ref C_Round)
 M_Round : Made K mg "Round" C_Round
 cl_Round : Cls K C_Round
 n_Round_start : NoAttr K C_Round "start"
 ty_Round : ∀ (H : Hp) (a dx : Addr) (fs : List (Str × V)), H a = some (.ins C_Round dx fs) → TyOf K H (.ref a) (.ref C_Round)
 mg_Told : mg "Told" = some (.ref C_Told)
 M_Told : Made K mg "Told" C_Told
 cl_Told : Cls K C_Told
 n_Told_racks : NoAttr K C_Told "racks"
 ty_Told : ∀ (H : Hp) (a dx : Addr) (fs : List (Str × V)), H a = some (.ins C_Told dx fs) → TyOf K H (.ref a) (.ref C_Told)
def cell (ns : List Int) (k : Nat) : Int := ns.getD k 0
theorem at_nat {ns : List Int} {k : Nat} (h : k < ns.length) : atI (ns.map V.int) (k : Int) = some (.int (cell ns k)) := atI_nat (by
 rw [List.getElem?_map, List.getElem?_eq_getElem h]
 simp [cell, List.getD, h])
theorem same_new {H : Hp} {p : Addr} (h : H p = none) (o : HO) : Same H (upd H p o) := fun b u q => by rw [upd_ne (ne_of_none q h)]; exact q
theorem Same.put {H H' : Hp} {l : Addr} {o : HO} (s : Same H H') (hl : H l = none) : Same H (upd H' l o) := fun b u q => by
 rw [upd_ne (ne_of_none q hl)]
 exact s b u q
def spCell (K : PySem.W.Frag) : Sp := fun vs H Q _ => ∃ (a : Addr) (ns : List Int) (k : Nat), vs = [.ref a, .int k] ∧ SqL K H a (ns.map V.int) ∧ Q (.int (cell ns k)) H
structure Hall where
 i : Int
 c : Int
 m : Int
 o : Int
 e : Int
def Hall.row (h : Hall) : List Int := [h.i, h.c, h.m, h.o, h.e]
structure Hall.Ok (h : Hall) : Prop where
 i : 1 ≤ h.i ∧ h.i ≤ 12
 c : 1 ≤ h.c ∧ h.c ≤ 12
 m : 1 ≤ h.m ∧ h.m ≤ 24
 o : 1 ≤ h.o ∧ h.o ≤ 12
 e : 1 ≤ h.e ∧ h.e ≤ 12
theorem mul_in {a b : Int} (ha : 1 ≤ a ∧ a ≤ 12) (hb : 1 ≤ b ∧ b ≤ 12) : 1 ≤ a * b ∧ a * b ≤ 144 := by
 have h1 : 1 * 1 ≤ a * b := Int.mul_le_mul ha.1 hb.1 (by decide) (by lia)
 have h2 : a * b ≤ 12 * 12 := Int.mul_le_mul ha.2 hb.2 (by lia) (by decide)
 lia
theorem Hall.Ok.ic {h : Hall} (k : h.Ok) : 1 ≤ h.i * h.c ∧ h.i * h.c ≤ 144 := mul_in k.i k.c
section
variable {P : Program} {w : World} {K : PySem.W.Frag} {mg : Str → Option Value} {base : Heap}
theorem Same.seqT {H H' : Hp} {a : Addr} {xs : List V} (e : Same H H') (h : SqT K H a xs) : SqT K H' a xs := by
 rcases h with (h | ⟨o, h⟩) | h
 ·exact .inl (.inl (e _ _ h))
 ·exact .inl (.inr ⟨o, e _ _ h⟩)
 ·exact .inr h
theorem sc__law_cell_at : FnScope ["_law_script", "_law_k"] ["_law_script", "_law_k"] (defScope (top 41)) := ⟨rfl, rfl, rfl, by decide +kernel, rfl, by decide +kernel, by decide +kernel⟩
theorem ok_cell (T : Txt K mg) (D : Def K mg "_law_cell_at" (top 41) ["_law_script", "_law_k"]) : Callee P w K mg base 1 "_law_cell_at" ["_law_script", "_law_k"] (spCell K) := by
 refine D.ok sc__law_cell_at (fun vs H Q E h => ?_) (fun f cdv A outer s H vs Q E hr h => ?_)
 ·obtain ⟨a, ns, k, rfl, _⟩ := h
  rfl
 obtain ⟨a, ns, k, rfl, hS, q⟩ := h
 refine ⟨_, (pss_cons (ps_if (pt_cmpR op_lt (pv 1) (pe_callB (call_lenK K) rfl T.m_len boot_len (pa_cons (pv 0) pa_nil st_name)) (nomark _)) (pss_one (ps_ret (pe_ix (ix_listK K) (pv 0) (pv 1) (fun _ _ => rfl)))) pss_nil)
  (pss_one (ps_ret pe_int))), ?_⟩
 refine ⟨_, rfl, _, rfl, a, _, rfl, .inl hS, _, _, rfl, rfl, _, rfl, ?_⟩
 refine ite2 (fun c => ?_) (fun c => ?_)
 ·have c' : (k : Int) < (((ns.map V.int).length : Nat) : Int) := of_decide_eq_true c
  rw [List.length_map] at c'
  exact ⟨_, rfl, _, rfl, a, _, _, _, rfl, rfl, hS, at_nat (by lia), q⟩
 ·have c' : ¬ (k : Int) < (((ns.map V.int).length : Nat) : Int) := of_decide_eq_false (Bool.eq_false_iff.mpr c)
  rw [List.length_map] at c'
  have e : cell ns k = 0 := by simp [cell, List.getD, List.getElem?_eq_none (show ns.length ≤ k by lia)]
  rw [e] at q
  exact q
end
theorem int_flat (es : List Int) : (es.map V.int).all flatV = true := by
 rw [List.all_eq_true]
 intro x hx
 obtain ⟨p, _, rfl⟩ := List.mem_map.mp hx
 rfl
theorem int_in (e : Int) (es : List Int) : inV (.int e) (es.map V.int) = decide (e ∈ es) := by
 unfold inV
 rw [List.any_map]
 rw [Bool.eq_iff_iff, List.any_eq_true, decide_eq_true_iff]
 constructor
 ·rintro ⟨q, hq, e'⟩
  have e' : (q == e) = true := e'
  exact eq_of_beq e' ▸ hq
 ·intro h
  exact ⟨e, h, beq_self_eq_true e⟩
structure EndsOk (h : Hall) (xs : List Int) : Prop where
 nd : xs.Nodup
 es : ∀ e ∈ xs, 0 ≤ e ∧ e < h.o * h.e
 some : xs ≠ []
 few : xs.length ≤ 12
theorem mod_in {x d : Int} (h : 0 < d) : 0 ≤ x % d ∧ x % d < d := ⟨Int.emod_nonneg _ (by lia), Int.emod_lt_of_pos _ h⟩
def nIn (r k : Int) : List Key := [.inr "in", .inl r, .inl k]
def nOut (r k : Int) : List Key := [.inr "out", .inl r, .inl k]
def lineStep (h : Hall) (k : Int) (acc : List (List Key)) (e : Int) : List (List Key) := if inD acc (nOut (e / h.e) k) then acc else acc ++ [nOut (e / h.e) k]
def linesM (h : Hall) (c : Int) (es : List Int) (k : Int) : List (List Key) := es.foldl (lineStep h k) [nIn (c / h.c) k]
theorem mem_lines_fold (h : Hall) (k : Int) (d : List Key) : ∀ (es : List Int) (acc : List (List Key)), d ∈ es.foldl (lineStep h k) acc ↔ d ∈ acc ∨ ∃ e ∈ es, d = nOut (e / h.e) k
 | [], acc => by simp
 | e :: t, acc => by
  rw [List.foldl_cons, mem_lines_fold h k d t]
  have st : d ∈ lineStep h k acc e ↔ d ∈ acc ∨ d = nOut (e / h.e) k := by
   unfold lineStep
   by_cases c : inD acc (nOut (e / h.e) k) = true
   ·rw [if_pos c]
    have c' := inD_iff.mp c
    constructor
    ·exact .inl
    ·rintro (g | g)
     ·exact g
     ·rw [g]; exact c'
   ·rw [if_neg c, List.mem_append, List.mem_singleton]
  rw [st]
  constructor
  ·rintro ((g | g) | ⟨x, hx, g⟩)
   ·exact .inl g
   ·exact .inr ⟨e, List.mem_cons_self .., g⟩
   ·exact .inr ⟨x, List.mem_cons_of_mem _ hx, g⟩
  ·rintro (g | ⟨x, hx, g⟩)
   ·exact .inl (.inl g)
   ·rcases List.mem_cons.mp hx with rfl | hx
    ·exact .inl (.inr g)
    ·exact .inr ⟨x, hx, g⟩
theorem mem_lines {h : Hall} {c : Int} {es : List Int} {k : Int} {d : List Key} : d ∈ linesM h c es k ↔ d = nIn (c / h.c) k ∨ ∃ e ∈ es, d = nOut (e / h.e) k := by
 unfold linesM
 rw [mem_lines_fold, List.mem_singleton]
structure Call where
 c : Int
 es : List Int
 k : Int
structure Call.In (k : Call) (h : Hall) : Prop where
 c : 0 ≤ k.c ∧ k.c < h.i * h.c
 rise : k.es.Pairwise (· < ·)
 es : ∀ e ∈ k.es, 0 ≤ e ∧ e < h.o * h.e
 some : k.es ≠ []
 few : k.es.length ≤ 12
 k : 0 ≤ k.k ∧ k.k < h.m
def nCaller (c : Int) : List Key := [.inr "caller", .inl c]
def nEnd (e : Int) : List Key := [.inr "end", .inl e]
def needsM (h : Hall) (k : Call) : List (List Key) := linesM h k.c k.es k.k ++ [nCaller k.c] ++ k.es.map nEnd
theorem mem_needs {h : Hall} {k : Call} {d : List Key} : d ∈ needsM h k ↔ d = nIn (k.c / h.c) k.k ∨ (∃ e ∈ k.es, d = nOut (e / h.e) k.k) ∨ d = nCaller k.c ∨ ∃ e ∈ k.es, d = nEnd e := by
 unfold needsM
 rw [List.mem_append, List.mem_append, mem_lines, List.mem_singleton, List.mem_map, or_assoc, or_assoc]
 have : (∃ a, a ∈ k.es ∧ nEnd a = d) ↔ ∃ e ∈ k.es, d = nEnd e := ⟨fun ⟨a, h1, h2⟩ => ⟨a, h1, h2.symm⟩, fun ⟨a, h1, h2⟩ => ⟨a, h1, h2.symm⟩⟩
 rw [this]
def CallAt (H : Hp) (p : Addr) (k : Call) : Prop := ∃ e : Addr, H e = some (.tup (k.es.map V.int)) ∧ H p = some (.tup [.int k.c, .ref e, .int k.k])
theorem CallAt.same {H H' : Hp} {p : Addr} {k : Call} (s : ∀ b xs, H b = some (.tup xs) → H' b = some (.tup xs)) (h : CallAt H p k) : CallAt H' p k := by
 obtain ⟨e, h1, h2⟩ := h
 exact ⟨e, s _ _ h1, s _ _ h2⟩
def SameX (t : Addr) (H H' : Hp) : Prop := ∀ b u, b ≠ t → H b = some u → H' b = some u
theorem rise_of {es es' : List Int} (p : es'.Perm es) (s : es'.Pairwise (· ≤ ·)) (nd : es.Nodup) : es'.Pairwise (· < ·) := by
 have nd' : es'.Nodup := p.nodup_iff.mpr nd
 exact (s.and nd').imp fun {a b} ⟨h1, h2⟩ => by lia
def Free (h : Hall) (k k' : Call) : Prop := ∀ d ∈ needsM h k, ¬ d ∈ needsM h k'
theorem Free.symm {h : Hall} {k k' : Call} (f : Free h k k') : Free h k' k := fun d h1 h2 => f d h2 h1
def CallsAt (H : Hp) (as : List Addr) (ks : List Call) : Prop := Paired (CallAt H) as ks
theorem CallsAt.same {H H' : Hp} {as : List Addr} {ks : List Call} (s : ∀ b xs, H b = some (.tup xs) → H' b = some (.tup xs)) (h : CallsAt H as ks) : CallsAt H' as ks := by
 unfold CallsAt at h ⊢
 exact paired_mem h fun a d _ e => CallAt.same s e
theorem paired_pick {α β : Type} {R : α → β → Prop} {as : List α} {ds : List β} (a0 : α) (d0 : β) (h : Paired R as ds) : ∀ (is : List Nat), (∀ i ∈ is, i < ds.length) → Paired R (is.map fun i => as.getD i a0) (is.map fun i => ds.getD i d0)
 | [], _ => .nil
 | i :: t, hin => by
  refine .cons ?_ (paired_pick a0 d0 h t fun j hj => hin j (List.mem_cons_of_mem _ hj))
  have hi := hin i (List.mem_cons_self ..)
  have hl : as.length = ds.length := Paired.length h
  have ea : as[i]? = some (as[i]'(by lia)) := List.getElem?_eq_getElem (by lia)
  obtain ⟨d, e2, hs⟩ := paired_at h i _ ea
  show R (as.getD i a0) (ds.getD i d0)
  rw [show as.getD i a0 = as[i]'(by lia) by rw [List.getD, ea]; rfl, show ds.getD i d0 = d by rw [List.getD, e2]; rfl]
  exact hs
theorem calls_items {K : PySem.W.Frag} {H : Hp} : ∀ {as : List Addr} {ks : List Call}, CallsAt H as ks → ∃ its : List (List V), TupsAt K H as its ∧ Paired (fun k xs => ∃ e, xs = [V.int k.c, V.ref e, V.int k.k]) ks its
 | _, _, .nil => ⟨[], .nil, .nil⟩
 | _, _, .cons (b := k) ⟨e, h1, h2⟩ t => by
  obtain ⟨its, q1, q2⟩ := calls_items t
  exact ⟨[V.int k.c, V.ref e, V.int k.k] :: its, .cons ⟨SqT.of h2, _, _, rfl⟩ q1, .cons ⟨e, rfl⟩ q2⟩
def racksM (h : Hall) (es : List Int) : List Int := sortU (es.map fun e => e / h.e)
def spPlace (K : PySem.W.Frag) (d : Hall → Int) : Sp := fun vs H Q _ => ∃ (a : Addr) (h : Hall) (x : Int), vs = [.ref a, .int x] ∧ SqT K H a (h.row.map V.int) ∧ h.Ok ∧ ∀ p, H p = none → Q (.ref p) (upd H p (.tup [.int (x / d h), .int (x % d h)]))
def spRacks (K : PySem.W.Frag) : Sp := fun vs H Q _ => ∃ (a p : Addr) (h : Hall) (es : List Int), vs = [.ref a, .ref p] ∧ SqT K H a (h.row.map V.int) ∧ h.Ok ∧ (SqT K H p (es.map V.int) ∨ SqL K H p (es.map V.int)) ∧ es.length < 64 ∧ ∀ (l : Addr) (H' : Hp), Same H H' → H l = none → H' l = some (.lst ((racksM h es).map V.int)) → Q (.ref l) H'
section
variable {P : Program} {w : World} {K : PySem.W.Frag} {mg : Str → Option Value} {base : Heap}
theorem sc_place_in : FnScope ["hall", "caller"] ["hall", "caller"] (defScope (top 9)) := ⟨rfl, rfl, rfl, by decide +kernel, rfl, by decide +kernel, by decide +kernel⟩
theorem ok_place_in (T : Txt K mg) (D : Def K mg "place_in" (top 9) ["hall", "caller"]) : Callee P w K mg base 1 "place_in" ["hall", "caller"] (spPlace K Hall.c) := by
 refine D.ok sc_place_in (fun vs H Q E h => ?_) (fun f cdv A outer s H vs Q E hr h => ?_)
 ·obtain ⟨a, h, x, rfl, _⟩ := h
  rfl
 obtain ⟨a, h, x, rfl, hS, ok, q⟩ := h
 have b := ok.c
 refine ⟨_, (pss_one (ps_ret (pe_callB call_divmod rfl T.m_divmod boot_divmod (pa_cons (pv 1) (pa_cons (pe_ix (ix_tupK K) (pv 0) pe_int (fun _ _ => rfl)) pa_nil st_sub) st_name)))), ?_⟩
 exact ⟨_, rfl, _, rfl, a, _, _, _, rfl, rfl, hS, rfl, _, _, rfl, ⟨by lia, by lia⟩, q⟩
theorem sc_place_out : FnScope ["hall", "end"] ["hall", "end"] (defScope (top 10)) := ⟨rfl, rfl, rfl, by decide +kernel, rfl, by decide +kernel, by decide +kernel⟩
theorem ok_place_out (T : Txt K mg) (D : Def K mg "place_out" (top 10) ["hall", "end"]) : Callee P w K mg base 1 "place_out" ["hall", "end"] (spPlace K Hall.e) := by
 refine D.ok sc_place_out (fun vs H Q E h => ?_) (fun f cdv A outer s H vs Q E hr h => ?_)
 ·obtain ⟨a, h, x, rfl, _⟩ := h
  rfl
 obtain ⟨a, h, x, rfl, hS, ok, q⟩ := h
 have b := ok.e
 refine ⟨_, (pss_one (ps_ret (pe_callB call_divmod rfl T.m_divmod boot_divmod (pa_cons (pv 1) (pa_cons (pe_ix (ix_tupK K) (pv 0) pe_int (fun _ _ => rfl)) pa_nil st_sub) st_name)))), ?_⟩
 exact ⟨_, rfl, _, rfl, a, _, _, _, rfl, rfl, hS, rfl, _, _, rfl, ⟨by lia, by lia⟩, q⟩
theorem sc_racks_of : FnScope ["hall", "ends"] ["hall", "ends"] (defScope (top 12)) := ⟨rfl, rfl, rfl, by decide +kernel, rfl, by decide +kernel, by decide +kernel⟩
theorem ok_racks (T : Txt K mg) (C_place_out : Callee P w K mg base 1 "place_out" ["hall", "end"] (spPlace K Hall.e)) (D : Def K mg "racks_of" (top 12) ["hall", "ends"]) : Callee P w K mg base 2 "racks_of" ["hall", "ends"] (spRacks K) := by
 refine D.ok sc_racks_of (fun vs H Q E h => ?_) (fun f cdv A outer s H vs Q E hr h => ?_)
 ·obtain ⟨a, p, h, es, rfl, _⟩ := h
  rfl
 obtain ⟨a, p, h, es, rfl, hH, ok, hS, h64, q⟩ := h
 have hl : (es.map V.int).length = es.length := List.length_map _
 have sz : (es.map V.int).length ≤ sizeLine := by rw [hl]; exact Nat.le_of_lt (small1000 (by lia))
 have fin : ∀ (H' : Hp), Same H H' → ∀ l, H' l = none → rSetI K P w [.ref l] (upd H' l (.lst ((es.take (es.map V.int).length).map fun e => V.int (e / h.e)))) fun x H1 => rSortedS P w [x] H1 Q := fun H' s1 l hl' => by
  rw [hl, List.take_length]
  have e1 : upd H' l (.lst (es.map fun e => V.int (e / h.e))) l = some (.lst ((es.map fun e => e / h.e).map V.int)) := by rw [upd_same, List.map_map]; rfl
  have s2 := s1.trans (same_new hl' (.lst (es.map fun e => V.int (e / h.e))))
  generalize upd H' l (.lst (es.map fun e => V.int (e / h.e))) = H2 at e1 s2 ⊢
  refine ⟨l, _, rfl, SqL.of e1, by rw [List.length_map]; lia, fun l2 hl2 => ?_⟩
  refine ⟨l2, _, rfl, upd_same, by rw [List.length_map]; lia, fun l3 hl3 => ?_⟩
  exact q l3 _ ((s2.trans (same_new hl2 _)).trans (same_new hl3 _)) ((s2.trans (same_new hl2 _)).free hl3) upd_same
 rcases hS with hS | hS
 ·refine ⟨_, (pss_one (ps_ret (pe_callB (call_sortedSK P w rfl) rfl T.m_sorted boot_sorted (pa_cons (pe_callTy (call_setK K P w rfl) rfl T.m_set boot_set (pa_cons (pe_comp (own := ["end"]) (fr := [(0, "hall")]) rfl (show CompScope ["hall", "ends"] (defScope (top 12)) _ _ _ from ⟨rfl, by decide +kernel, by decide +kernel, by decide +kernel, by decide +kernel⟩) (pi_tupK K (pv 1)) (fun cl C s H ex => ⟨(pg_name (i := 0) (show (["end", "hall"] : List Str).Nodup from by decide +kernel) rfl (Or.inl rfl) (Or.inr rfl)), pif_nil, (pe_ix (ix_tupK K) (pe_fn C_place_out hr rfl (pa_cons (pv 1) (pa_cons (pv 0) pa_nil st_name) st_name)) pe_int (fun _ _ => rfl))⟩)) pa_nil st_comp)) pa_nil st_call)))), ?_⟩
  refine ⟨_, rfl, p, rfl, ⟨_, hS⟩, ?_⟩
  refine comp_tup (xs := es.map V.int) (fun i acc σ H' => Same H H' ∧ acc = (es.take i).map (fun e => V.int (e / h.e)) ∧ ∃ v, σ = [v, some (.ref a)])
   ⟨Same.refl H, rfl, none, rfl⟩ sz (fun i acc σ H' g => ?_) (fun i acc σ H' _ g => Same.seqT g.1 hS) ?_ ?_
  ·obtain ⟨_, rfl, _⟩ := g
   rw [List.length_map, List.length_take]
   lia
  ·rintro i y acc σ H' hy ⟨s1, rfl, v, rfl⟩
   rw [List.getElem?_map] at hy
   obtain ⟨e, he, rfl⟩ := Option.map_eq_some_iff.mp hy
   refine ⟨_, rfl, _, rfl, a, h, e, rfl, Same.seqT s1 hH, ok, fun r hr2 => ⟨r, _, _, _, rfl, rfl, SqT.of upd_same, rfl, s1.trans (same_new hr2 _), ?_, _, rfl⟩⟩
   rw [List.take_succ, he, List.map_append]
   rfl
  ·rintro acc σ H' ⟨s1, rfl, v, rfl⟩ l hl'
   exact fin H' s1 l hl'
 ·refine ⟨_, (pss_one (ps_ret (pe_callB (call_sortedSK P w rfl) rfl T.m_sorted boot_sorted (pa_cons (pe_callTy (call_setK K P w rfl) rfl T.m_set boot_set (pa_cons (pe_comp (own := ["end"]) (fr := [(0, "hall")]) rfl (show CompScope ["hall", "ends"] (defScope (top 12)) _ _ _ from ⟨rfl, by decide +kernel, by decide +kernel, by decide +kernel, by decide +kernel⟩) (pi_listK K (pv 1)) (fun cl C s H ex => ⟨(pg_name (i := 0) (show (["end", "hall"] : List Str).Nodup from by decide +kernel) rfl (Or.inl rfl) (Or.inr rfl)), pif_nil, (pe_ix (ix_tupK K) (pe_fn C_place_out hr rfl (pa_cons (pv 1) (pa_cons (pv 0) pa_nil st_name) st_name)) pe_int (fun _ _ => rfl))⟩)) pa_nil st_comp)) pa_nil st_call)))), ?_⟩
  refine ⟨_, rfl, p, rfl, ⟨_, hS⟩, ?_⟩
  refine comp_list (xs := es.map V.int) (fun i acc σ H' => Same H H' ∧ acc = (es.take i).map (fun e => V.int (e / h.e)) ∧ ∃ v, σ = [v, some (.ref a)])
   ⟨Same.refl H, rfl, none, rfl⟩ sz (fun i acc σ H' g => ?_) (fun i acc σ H' _ g => g.1.seq hS) ?_ ?_
  ·obtain ⟨_, rfl, _⟩ := g
   rw [List.length_map, List.length_take]
   lia
  ·rintro i y acc σ H' hy ⟨s1, rfl, v, rfl⟩
   rw [List.getElem?_map] at hy
   obtain ⟨e, he, rfl⟩ := Option.map_eq_some_iff.mp hy
   refine ⟨_, rfl, _, rfl, a, h, e, rfl, Same.seqT s1 hH, ok, fun r hr2 => ⟨r, _, _, _, rfl, rfl, SqT.of upd_same, rfl, s1.trans (same_new hr2 _), ?_, _, rfl⟩⟩
   rw [List.take_succ, he, List.map_append]
   rfl
  ·rintro acc σ H' ⟨s1, rfl, v, rfl⟩ l hl'
   exact fin H' s1 l hl'
end
theorem mem_racks' {h : Hall} {es : List Int} {r : Int} : r ∈ racksM h es ↔ ∃ e ∈ es, e / h.e = r := by
 unfold racksM
 rw [mem_sortU, List.mem_map]
theorem racks_len (h : Hall) (es : List Int) : (racksM h es).length ≤ es.length := by
 have := sortU_len (es.map fun e => e / h.e)
 rw [List.length_map] at this
 exact this
inductive PartIs (K : PySem.W.Frag) (H : Hp) : V → Prop where
 | int (i : Int) : PartIs K H (.int i)
 | odd {x : V} {t : Value} {b1 b2 : Bool} (ni : ∀ i, x ≠ .int i) (ty : TyOf K H x t) (h1 : PySem.W.kitOne K t (.type "int") = some b1) (h2 : PySem.W.kitOne K t (.type "bool") = some b2) (hb : b1 = false ∨ b2 = true) : PartIs K H x
theorem TyOf.same {K : PySem.W.Frag} {H H' : Hp} {x : V} {t : Value} (s : Same H H') (h : TyOf K H x t) : TyOf K H' x t := by
 cases h with
 | non => exact .non
 | bl b => exact .bl b
 | int i => exact .int i
 | str y => exact .str y
 | flt y => exact .flt y
 | lst e => exact .lst (s _ _ e)
 | frz e => exact .frz (s _ _ e)
 | tup e => exact .tup (s _ _ e)
 | dK e => exact .dK (s _ _ e)
 | dT e => exact .dT (s _ _ e)
 | ins e a b c d f => exact .ins (s _ _ e) a b c d f
theorem PartIs.same {K : PySem.W.Frag} {H H' : Hp} {x : V} (s : Same H H') (h : PartIs K H x) : PartIs K H' x := by
 cases h with
 | int i => exact .int i
 | odd ni ty h1 h2 hb => exact .odd ni (TyOf.same s ty) h1 h2 hb
def wholeIn (x : V) (lo hi : Int) : Bool := match x with
 | .int i => decide (lo ≤ i) && decide (i ≤ hi)
 | _ => false
def isInt : V → Bool
 | .int _ => true
 | _ => false
def spIsWhole (K : PySem.W.Frag) : Sp := fun vs H Q _ => ∃ (x : V) (lo hi : Int), vs = [x, .int lo, .int hi] ∧ PartIs K H x ∧ Q (.bl (wholeIn x lo hi)) H
def spWhole (K : PySem.W.Frag) : Sp := fun vs H Q _ => ∃ x : V, vs = [x] ∧ PartIs K H x ∧ Q (.bl (isInt x)) H
section
variable {P : Program} {w : World} {K : PySem.W.Frag} {mg : Str → Option Value} {base : Heap}
theorem sc_is_number : FnScope ["thing"] ["thing"] (defScope (top 7)) := ⟨rfl, rfl, rfl, by decide +kernel, rfl, by decide +kernel, by decide +kernel⟩
theorem ok_is_number (T : Txt K mg) (D : Def K mg "is_number" (top 7) ["thing"]) : Callee P w K mg base 1 "is_number" ["thing"] (spWhole K) := by
 refine D.ok sc_is_number (fun vs H Q E h => ?_) (fun f cdv A outer s H vs Q E hr h => ?_)
 ·obtain ⟨x, rfl, _⟩ := h
  rfl
 obtain ⟨x, rfl, hp, q⟩ := h
 refine ⟨_, (pss_one (ps_ret (pe_and (pe_callB (call_isinstK K) rfl T.m_isinstance boot_isinstance (pa_cons (pv 0) (pa_cons (pe_bltn (v := .ty "int") rfl T.m_int boot_int rfl) pa_nil st_name) st_name)) (pe_one (pe_not (pe_callB (call_isinstK K) rfl T.m_isinstance boot_isinstance (pa_cons (pv 0) (pa_cons (pe_bltn (v := .ty "bool") rfl T.m_bool boot_bool rfl) pa_nil st_name) st_name))))))), ?_⟩
 cases hp with
 | int i =>
  refine ⟨_, rfl, _, _, _, true, rfl, .int i, kit_int_int, _, rfl, iteT ?_⟩
  exact ⟨_, rfl, _, _, _, false, rfl, .int i, kit_int_bool, _, rfl, q⟩
 | @odd _ t b1 b2 ni ty h1 h2 hb =>
  have e : isInt x = false := by
   cases x with
   | int i => exact absurd rfl (ni i)
   | _ => rfl
  rw [e] at q
  refine ⟨_, rfl, _, _, _, b1, rfl, ty, h1, _, rfl, ?_⟩
  cases b1 with
  | false => exact iteF q
  | true =>
   have hb2 : b2 = true := hb.elim (fun z => nomatch z) id
   subst hb2
   exact iteT ⟨_, rfl, _, _, _, true, rfl, ty, h2, _, rfl, q⟩
theorem sc_is_whole : FnScope ["thing", "least", "most"] ["thing", "least", "most"] (defScope (top 8)) := ⟨rfl, rfl, rfl, by decide +kernel, rfl, by decide +kernel, by decide +kernel⟩
theorem ok_is_whole (T : Txt K mg) (C_is_number : Callee P w K mg base 1 "is_number" ["thing"] (spWhole K)) (D : Def K mg "is_whole" (top 8) ["thing", "least", "most"]) : Callee P w K mg base 2 "is_whole" ["thing", "least", "most"] (spIsWhole K) := by
 refine D.ok sc_is_whole (fun vs H Q E h => ?_) (fun f cdv A outer s H vs Q E hr h => ?_)
 ·obtain ⟨x, lo, hi, rfl, _⟩ := h
  rfl
 obtain ⟨x, lo, hi, rfl, hp, q⟩ := h
 refine ⟨_, (pss_one (ps_ret (pe_and (pe_fn C_is_number hr rfl (pa_cons (pv 0) pa_nil st_name)) (pe_one (pe_chain op_le op_le (pv 1) (pv 0) (pv 2)))))), ?_⟩
 refine ⟨_, rfl, x, rfl, hp, _, rfl, ?_⟩
 cases hp with
 | int i =>
  refine iteT ?_
  refine ⟨_, rfl, _, rfl, _, _, rfl, rfl, _, rfl, ?_⟩
  refine ite2 (fun c => ?_) (fun c => ?_)
  ·refine ⟨_, rfl, _, _, rfl, rfl, ?_⟩
   have e : wholeIn (.int i) lo hi = decide (i ≤ hi) := by show (decide (lo ≤ i) && decide (i ≤ hi)) = _; rw [c, Bool.true_and]
   rw [e] at q
   exact q
  ·have e : wholeIn (.int i) lo hi = false := by show (decide (lo ≤ i) && decide (i ≤ hi)) = _; rw [Bool.eq_false_iff.mpr c, Bool.false_and]
   rw [e] at q
   exact q
 | @odd _ t b1 b2 ni ty h1 h2 hb =>
  have e0 : isInt x = false := by
   cases x with
   | int i => exact absurd rfl (ni i)
   | _ => rfl
  have e : wholeIn x lo hi = false := by
   cases x with
   | int i => exact absurd rfl (ni i)
   | _ => rfl
  rw [e] at q
  rw [e0]
  exact iteF q
end
def vints (xs : List V) : List Int := xs.filterMap fun x => match x with | .int i => some i | _ => none
theorem vints_map (ns : List Int) : vints (ns.map V.int) = ns := by
 unfold vints
 induction ns with
 | nil => rfl
 | cons i t ih => rw [List.map_cons, List.filterMap_cons]; exact congrArg (i :: ·) ih
def unlikeB (xs : List V) : Bool := decide ((sortU (vints xs)).length = xs.length)
def endsU (h : Hall) : Option (List V) → Bool
 | none => false
 | some xs => !xs.isEmpty && (xs.all (fun x => wholeIn x 0 (h.o * h.e - 1)) && unlikeB xs)
inductive EndTh (K : PySem.W.Frag) (H : Hp) : V → Option (List V) → Prop where
 | lst {a : Addr} {xs : List V} (e : H a = some (.lst xs)) (h : ∀ x ∈ xs, PartIs K H x) (hn : xs.length ≤ 64) : EndTh K H (.ref a) (some xs)
 | tup {a : Addr} {xs : List V} (e : H a = some (.tup xs)) (h : ∀ x ∈ xs, PartIs K H x) (hn : xs.length ≤ 64) : EndTh K H (.ref a) (some xs)
 | no {x : V} {t : Value} (ty : TyOf K H x t) (h1 : PySem.W.kitOne K t (.type "list") = some false) (h2 : PySem.W.kitOne K t (.type "tuple") = some false) : EndTh K H x none
theorem EndTh.same {K : PySem.W.Frag} {H H' : Hp} {x : V} {o : Option (List V)} (s : Same H H') (h : EndTh K H x o) : EndTh K H' x o := by
 cases h with
 | lst e h hn => exact .lst (s _ _ e) (fun x hx => (h x hx).same s) hn
 | tup e h hn => exact .tup (s _ _ e) (fun x hx => (h x hx).same s) hn
 | no ty h1 h2 => exact .no (TyOf.same s ty) h1 h2
theorem wholeIn_int {x : V} {lo hi : Int} (h : wholeIn x lo hi = true) : ∃ i : Int, x = .int i ∧ lo ≤ i ∧ i ≤ hi := by
 cases x with
 | int i =>
  have h' : (decide (lo ≤ i) && decide (i ≤ hi)) = true := h
  rw [Bool.and_eq_true] at h'
  exact ⟨i, rfl, of_decide_eq_true h'.1, of_decide_eq_true h'.2⟩
 | _ => cases h
theorem wholes {lo hi : Int} : ∀ {xs : List V}, xs.all (fun x => wholeIn x lo hi) = true → ∃ ns : List Int, xs = ns.map V.int
 | [], _ => ⟨[], rfl⟩
 | x :: t, h => by
  rw [List.all_cons, Bool.and_eq_true] at h
  obtain ⟨i, rfl, _⟩ := wholeIn_int h.1
  obtain ⟨ns, rfl⟩ := wholes h.2
  exact ⟨i :: ns, rfl⟩
def spIsCaller (K : PySem.W.Frag) : Sp := fun vs H Q _ => ∃ (a : Addr) (h : Hall) (x : V), vs = [.ref a, x] ∧ SqT K H a (h.row.map V.int) ∧ h.Ok ∧ PartIs K H x ∧ Q (.bl (wholeIn x 0 (h.i * h.c - 1))) H
def spAreEnds (K : PySem.W.Frag) : Sp := fun vs H Q _ => ∃ (a p : Addr) (h : Hall) (xs : List V), vs = [.ref a, .ref p] ∧ SqT K H a (h.row.map V.int) ∧ h.Ok ∧ (SqL K H p xs ∨ SqT K H p xs) ∧ (∀ x ∈ xs, PartIs K H x) ∧ xs.length ≤ 64 ∧ ∀ H', Same H H' → Q (.bl (xs.all fun x => wholeIn x 0 (h.o * h.e - 1))) H'
def spUnlike (K : PySem.W.Frag) : Sp := fun vs H Q _ => ∃ (p : Addr) (ns : List Int), vs = [.ref p] ∧ (SqL K H p (ns.map V.int) ∨ SqT K H p (ns.map V.int)) ∧ ns.length ≤ 64 ∧ ∀ H', Same H H' → Q (.bl (decide ((sortU ns).length = ns.length))) H'
def spIsEnds (K : PySem.W.Frag) : Sp := fun vs H Q _ => ∃ (a : Addr) (h : Hall) (x : V) (o : Option (List V)), vs = [.ref a, x] ∧ SqT K H a (h.row.map V.int) ∧ h.Ok ∧ EndTh K H x o ∧ ∀ H', Same H H' → Q (.bl (endsU h o)) H'
section
variable {P : Program} {w : World} {K : PySem.W.Frag} {mg : Str → Option Value} {base : Heap}
theorem sc_is_caller : FnScope ["hall", "thing"] ["hall", "thing"] (defScope (top 25)) := ⟨rfl, rfl, rfl, by decide +kernel, rfl, by decide +kernel, by decide +kernel⟩
theorem ok_is_caller (T : Txt K mg) (C_is_whole : Callee P w K mg base 2 "is_whole" ["thing", "least", "most"] (spIsWhole K)) (D : Def K mg "is_caller" (top 25) ["hall", "thing"]) : Callee P w K mg base 3 "is_caller" ["hall", "thing"] (spIsCaller K) := by
 refine D.ok sc_is_caller (fun vs H Q E h => ?_) (fun f cdv A outer s H vs Q E hr h => ?_)
 ·obtain ⟨a, h, x, rfl, _⟩ := h
  rfl
 obtain ⟨a, h, x, rfl, hH, ok, hp, q⟩ := h
 have o1 := ok.i
 refine ⟨_, (pss_one (ps_ret (pe_fn C_is_whole hr rfl (pa_cons (pv 1) (pa_cons pe_int (pa_cons (pe_op op_sub (pe_op op_mul (pe_ix (ix_tupK K) (pv 0) pe_int (fun _ _ => rfl)) (pe_ix (ix_tupK K) (pv 0) pe_int (fun _ _ => rfl))) pe_int) pa_nil st_bin) st_const) st_name)))), ?_⟩
 exact ⟨_, rfl, _, rfl, a, _, _, _, rfl, rfl, hH, rfl, _, rfl, a, _, _, _, rfl, rfl, hH, rfl, _, _, rfl, rfl, .inl ⟨by lia, by lia⟩, _, _, rfl, rfl, x, _, _, rfl, hp, q⟩
theorem sc_are_ends : FnScope ["hall", "things", "last"] ["hall", "things"] (defScope (top 11)) := ⟨rfl, rfl, rfl, by decide +kernel, rfl, by decide +kernel, by decide +kernel⟩
theorem ok_are_ends (T : Txt K mg) (C_is_whole : Callee P w K mg base 2 "is_whole" ["thing", "least", "most"] (spIsWhole K)) (D : Def K mg "are_ends" (top 11) ["hall", "things"]) : Callee P w K mg base 3 "are_ends" ["hall", "things"] (spAreEnds K) := by
 refine D.ok sc_are_ends (fun vs H Q E h => ?_) (fun f cdv A outer s H vs Q E hr h => ?_)
 ·obtain ⟨a, p, h, xs, rfl, _⟩ := h
  rfl
 obtain ⟨a, p, h, xs, rfl, hH, ok, hS, hx, h64, q⟩ := h
 have o1 := ok.o
 rcases hS with hS | hS
 ·refine ⟨_, (pss_cons (ps_set (i := 2) sc_are_ends.nd rfl (Or.inr rfl) (pe_op op_sub (pe_op op_mul (pe_ix (ix_tupK K) (pv 0) pe_int (fun _ _ => rfl)) (pe_ix (ix_tupK K) (pv 0) pe_int (fun _ _ => rfl))) pe_int))
  (pss_one (ps_ret (pe_callB (call_allK K rfl) rfl T.m_all boot_all (pa_cons (pe_comp (own := ["thing"]) (fr := [(2, "last")]) rfl (show CompScope ["hall", "things", "last"] (defScope (top 11)) _ _ _ from ⟨rfl, by decide +kernel, by decide +kernel, by decide +kernel, by decide +kernel⟩) (pi_listK K (pv 1)) (fun cl C s H ex => ⟨(pg_name (i := 0) (show (["thing", "last"] : List Str).Nodup from by decide +kernel) rfl (Or.inl rfl) (Or.inr rfl)), pif_nil, (pe_fn C_is_whole hr rfl (pa_cons (pv 0) (pa_cons pe_int (pa_cons (pv 1) pa_nil st_name) st_const) st_name))⟩)) pa_nil st_comp))))), ?_⟩
  refine ⟨_, rfl, a, _, _, _, rfl, rfl, hH, rfl, _, rfl, a, _, _, _, rfl, rfl, hH, rfl, _, _, rfl, rfl, .inl ⟨by lia, by lia⟩, _, _, rfl, rfl, ?_⟩
  refine ⟨_, rfl, p, rfl, ⟨_, hS⟩, ?_⟩
  refine comp_list (xs := xs) (fun i acc σ H' => H' = H ∧ acc = ((xs.take i).map fun x => wholeIn x 0 (h.o * h.e - 1)).map V.bl ∧ ∃ v, σ = [v, some (.int (h.o * h.e - 1))])
   ⟨rfl, rfl, none, rfl⟩ (Nat.le_of_lt (small1000 (by lia))) (fun i acc σ H' g => ?_) (fun i acc σ H' _ g => by rw [g.1]; exact hS) ?_ ?_
  ·obtain ⟨_, rfl, _⟩ := g
   rw [List.length_map, List.length_map, List.length_take]
   lia
  ·rintro i y acc σ H' hy ⟨rfl, rfl, v, rfl⟩
   refine ⟨_, rfl, _, rfl, y, _, _, rfl, hx y (List.mem_of_getElem? hy), rfl, ?_, _, rfl⟩
   rw [List.take_succ, hy, List.map_append, List.map_append]
   rfl
  ·rintro acc σ H' ⟨rfl, rfl, v, rfl⟩ l hl
   rw [List.take_length]
   refine ⟨l, _, rfl, SqL.of upd_same, ?_⟩
   have := q _ (same_new hl (.lst ((xs.map fun x => wholeIn x 0 (h.o * h.e - 1)).map V.bl)))
   rw [List.all_map]
   exact this
 ·refine ⟨_, (pss_cons (ps_set (i := 2) sc_are_ends.nd rfl (Or.inr rfl) (pe_op op_sub (pe_op op_mul (pe_ix (ix_tupK K) (pv 0) pe_int (fun _ _ => rfl)) (pe_ix (ix_tupK K) (pv 0) pe_int (fun _ _ => rfl))) pe_int))
  (pss_one (ps_ret (pe_callB (call_allK K rfl) rfl T.m_all boot_all (pa_cons (pe_comp (own := ["thing"]) (fr := [(2, "last")]) rfl (show CompScope ["hall", "things", "last"] (defScope (top 11)) _ _ _ from ⟨rfl, by decide +kernel, by decide +kernel, by decide +kernel, by decide +kernel⟩) (pi_tupK K (pv 1)) (fun cl C s H ex => ⟨(pg_name (i := 0) (show (["thing", "last"] : List Str).Nodup from by decide +kernel) rfl (Or.inl rfl) (Or.inr rfl)), pif_nil, (pe_fn C_is_whole hr rfl (pa_cons (pv 0) (pa_cons pe_int (pa_cons (pv 1) pa_nil st_name) st_const) st_name))⟩)) pa_nil st_comp))))), ?_⟩
  refine ⟨_, rfl, a, _, _, _, rfl, rfl, hH, rfl, _, rfl, a, _, _, _, rfl, rfl, hH, rfl, _, _, rfl, rfl, .inl ⟨by lia, by lia⟩, _, _, rfl, rfl, ?_⟩
  refine ⟨_, rfl, p, rfl, ⟨_, hS⟩, ?_⟩
  refine comp_tup (xs := xs) (fun i acc σ H' => H' = H ∧ acc = ((xs.take i).map fun x => wholeIn x 0 (h.o * h.e - 1)).map V.bl ∧ ∃ v, σ = [v, some (.int (h.o * h.e - 1))])
   ⟨rfl, rfl, none, rfl⟩ (Nat.le_of_lt (small1000 (by lia))) (fun i acc σ H' g => ?_) (fun i acc σ H' _ g => by rw [g.1]; exact hS) ?_ ?_
  ·obtain ⟨_, rfl, _⟩ := g
   rw [List.length_map, List.length_map, List.length_take]
   lia
  ·rintro i y acc σ H' hy ⟨rfl, rfl, v, rfl⟩
   refine ⟨_, rfl, _, rfl, y, _, _, rfl, hx y (List.mem_of_getElem? hy), rfl, ?_, _, rfl⟩
   rw [List.take_succ, hy, List.map_append, List.map_append]
   rfl
  ·rintro acc σ H' ⟨rfl, rfl, v, rfl⟩ l hl
   rw [List.take_length]
   refine ⟨l, _, rfl, SqL.of upd_same, ?_⟩
   have := q _ (same_new hl (.lst ((xs.map fun x => wholeIn x 0 (h.o * h.e - 1)).map V.bl)))
   rw [List.all_map]
   exact this
theorem sc_are_unlike : FnScope ["some"] ["some"] (defScope (top 15)) := ⟨rfl, rfl, rfl, by decide +kernel, rfl, by decide +kernel, by decide +kernel⟩
theorem ok_unlike (T : Txt K mg) (D : Def K mg "are_unlike" (top 15) ["some"]) : Callee P w K mg base 1 "are_unlike" ["some"] (spUnlike K) := by
 refine D.ok sc_are_unlike (fun vs H Q E h => ?_) (fun f cdv A outer s H vs Q E hr h => ?_)
 ·obtain ⟨p, ns, rfl, _⟩ := h
  rfl
 obtain ⟨p, ns, rfl, hS, h64, q⟩ := h
 have ln : (ns.map V.int).length = ns.length := List.length_map _
 rcases hS with hS | hS
 ·refine ⟨_, (pss_one (ps_ret (pe_cmpR op_eq (pe_callB (call_lenSK P w) rfl T.m_len boot_len (pa_cons (pe_callTy (call_setK K P w rfl) rfl T.m_set boot_set (pa_cons (pv 0) pa_nil st_name)) pa_nil st_call)) (pe_callB (call_lenK K) rfl T.m_len boot_len (pa_cons (pv 0) pa_nil st_name)) (nomark _)))), ?_⟩
  refine ⟨_, rfl, p, ns, rfl, hS, by lia, fun l hl => ?_⟩
  have s1 := same_new hl (SetP P w l ns)
  refine ⟨l, ns, rfl, upd_same, _, rfl, p, _, rfl, .inl (s1.seq hS), rfl, ?_⟩
  have := q _ s1
  rw [ln]
  have e : decide (V.int (((sortU ns).length : Nat) : Int) = V.int ((ns.length : Nat) : Int)) = decide ((sortU ns).length = ns.length) := by
   rw [Bool.eq_iff_iff, decide_eq_true_iff, decide_eq_true_iff]
   constructor
   ·intro z
    have := V.int.inj z
    lia
   ·intro z
    rw [z]
  rw [e]
  exact this
 ·refine ⟨_, (pss_one (ps_ret (pe_cmpR op_eq (pe_callB (call_lenSK P w) rfl T.m_len boot_len (pa_cons (pe_callTy (call_setTK K P w rfl) rfl T.m_set boot_set (pa_cons (pv 0) pa_nil st_name)) pa_nil st_call)) (pe_callB (call_lenK K) rfl T.m_len boot_len (pa_cons (pv 0) pa_nil st_name)) (nomark _)))), ?_⟩
  refine ⟨_, rfl, p, ns, rfl, hS, by lia, fun l hl => ?_⟩
  have s1 := same_new hl (SetP P w l ns)
  refine ⟨l, ns, rfl, upd_same, _, rfl, p, _, rfl, .inr (Same.seqT s1 hS), rfl, ?_⟩
  have := q _ s1
  rw [ln]
  have e : decide (V.int (((sortU ns).length : Nat) : Int) = V.int ((ns.length : Nat) : Int)) = decide ((sortU ns).length = ns.length) := by
   rw [Bool.eq_iff_iff, decide_eq_true_iff, decide_eq_true_iff]
   constructor
   ·intro z
    have := V.int.inj z
    lia
   ·intro z
    rw [z]
  rw [e]
  exact this
theorem sc_is_ends : FnScope ["hall", "thing"] ["hall", "thing"] (defScope (top 26)) := ⟨rfl, rfl, rfl, by decide +kernel, rfl, by decide +kernel, by decide +kernel⟩
theorem ok_is_ends (T : Txt K mg) (C_are_ends : Callee P w K mg base 3 "are_ends" ["hall", "things"] (spAreEnds K)) (C_are_unlike : Callee P w K mg base 1 "are_unlike" ["some"] (spUnlike K)) (D : Def K mg "is_ends" (top 26) ["hall", "thing"]) : Callee P w K mg base 4 "is_ends" ["hall", "thing"] (spIsEnds K) := by
 refine D.ok sc_is_ends (fun vs H Q E h => ?_) (fun f cdv A outer s H vs Q E hr h => ?_)
 ·obtain ⟨a, h, x, o, rfl, _⟩ := h
  rfl
 obtain ⟨a, h, x, o, rfl, hH, ok, hT, q⟩ := h
 refine ⟨_, (pss_cons (ps_if (PW.pt (pw_or (pt_not (pt_truK K (pe_callB (call_isinstTK K) rfl T.m_isinstance boot_isinstance (pa_cons (pv 1) (pa_cons (pe_tup (pa_cons (pe_bltn (v := .ty "list") rfl T.m_list boot_list rfl) (pa_cons (pe_bltn (v := .ty "tuple") rfl T.m_tuple boot_tuple rfl) pa_nil st_name) st_name)) pa_nil st_tup) st_name)) (fun _ => rfl))) (pw_or1 (pt_cmpR op_eq (pe_callB (call_lenK K) rfl T.m_len boot_len (pa_cons (pv 1) pa_nil st_name)) pe_int (nomark _))))) (pss_one (ps_ret pe_bl)) pss_nil)
  (pss_one (ps_ret (pe_and (pe_fn C_are_ends hr rfl (pa_cons (pv 0) (pa_cons (pv 1) pa_nil st_name) st_name)) (pe_one (pe_fn C_are_unlike hr rfl (pa_cons (pv 1) pa_nil st_name))))))), ?_⟩
 refine ⟨_, rfl, (by show 2 ≤ sizeLine; decide), fun tp htp => ?_⟩
 have etp := upd_same (H := H) (a := tp) (o := .tup [.ty "list", .ty "tuple"])
 have s1 := same_new htp (.tup [.ty "list", .ty "tuple"])
 generalize upd H tp (.tup [.ty "list", .ty "tuple"]) = H1 at etp s1 ⊢
 have hT1 := hT.same s1
 cases hT1 with
 | no ty h1 h2 =>
  refine ⟨_, tp, _, _, _, _, _, rfl, etp, ty, h1, h2, _, rfl, iteT ?_⟩
  exact q _ s1
 | @lst p xs e hx h64 =>
  refine ⟨_, tp, _, _, _, _, _, rfl, etp, .lst e, kit_lst_lst, kit_lst_tup, _, rfl, iteF ?_⟩
  refine ⟨_, rfl, p, xs, rfl, .inl (SqL.of e), rfl, _, rfl, ?_⟩
  refine ite2 (fun c => ?_) (fun c => ?_)
  ·have c' : xs = [] := by
    have : ((xs.length : Nat) : Int) = 0 := by simpa using c
    exact List.length_eq_zero_iff.mp (by lia)
   have := q _ s1
   rw [c'] at this
   exact this
  ·have c' : xs ≠ [] := fun z => c (by rw [z]; rfl)
   have ne : (!xs.isEmpty) = true := by cases xs with
    | nil => exact absurd rfl c'
    | cons _ _ => rfl
   refine ⟨_, rfl, _, rfl, a, p, h, xs, rfl, Same.seqT s1 hH, ok, .inl (SqL.of e), hx, h64, fun H2 s2 => ⟨_, rfl, ?_⟩⟩
   refine ite2 (fun d => ?_) (fun d => ?_)
   ·obtain ⟨ns, rfl⟩ := wholes d
    have e2 := s2 _ _ e
    refine ⟨_, rfl, p, ns, rfl, .inl (SqL.of e2), by rw [List.length_map] at h64; exact h64, fun H3 s3 => ?_⟩
    have := q _ ((s1.trans s2).trans s3)
    rw [show endsU h (some (ns.map V.int)) = decide ((sortU ns).length = ns.length) by
     show (!(ns.map V.int).isEmpty && ((ns.map V.int).all (fun x => wholeIn x 0 (h.o * h.e - 1)) && unlikeB (ns.map V.int))) = _
     rw [ne, d, Bool.true_and, Bool.true_and]
     unfold unlikeB
     rw [vints_map, List.length_map]] at this
    exact this
   ·have := q _ (s1.trans s2)
    rw [show endsU h (some xs) = false by
     show (!xs.isEmpty && (xs.all (fun x => wholeIn x 0 (h.o * h.e - 1)) && unlikeB xs)) = _
     rw [Bool.eq_false_iff.mpr d, Bool.false_and, Bool.and_false]] at this
    exact this
 | @tup p xs e hx h64 =>
  refine ⟨_, tp, _, _, _, _, _, rfl, etp, .tup e, kit_tup_lst, kit_tup_tup, _, rfl, iteF ?_⟩
  refine ⟨_, rfl, p, xs, rfl, .inr (SqT.of e), rfl, _, rfl, ?_⟩
  refine ite2 (fun c => ?_) (fun c => ?_)
  ·have c' : xs = [] := by
    have : ((xs.length : Nat) : Int) = 0 := by simpa using c
    exact List.length_eq_zero_iff.mp (by lia)
   have := q _ s1
   rw [c'] at this
   exact this
  ·have c' : xs ≠ [] := fun z => c (by rw [z]; rfl)
   have ne : (!xs.isEmpty) = true := by cases xs with
    | nil => exact absurd rfl c'
    | cons _ _ => rfl
   refine ⟨_, rfl, _, rfl, a, p, h, xs, rfl, Same.seqT s1 hH, ok, .inr (SqT.of e), hx, h64, fun H2 s2 => ⟨_, rfl, ?_⟩⟩
   refine ite2 (fun d => ?_) (fun d => ?_)
   ·obtain ⟨ns, rfl⟩ := wholes d
    have e2 := s2 _ _ e
    refine ⟨_, rfl, p, ns, rfl, .inr (SqT.of e2), by rw [List.length_map] at h64; exact h64, fun H3 s3 => ?_⟩
    have := q _ ((s1.trans s2).trans s3)
    rw [show endsU h (some (ns.map V.int)) = decide ((sortU ns).length = ns.length) by
     show (!(ns.map V.int).isEmpty && ((ns.map V.int).all (fun x => wholeIn x 0 (h.o * h.e - 1)) && unlikeB (ns.map V.int))) = _
     rw [ne, d, Bool.true_and, Bool.true_and]
     unfold unlikeB
     rw [vints_map, List.length_map]] at this
    exact this
   ·have := q _ (s1.trans s2)
    rw [show endsU h (some xs) = false by
     show (!xs.isEmpty && (xs.all (fun x => wholeIn x 0 (h.o * h.e - 1)) && unlikeB xs)) = _
     rw [Bool.eq_false_iff.mpr d, Bool.false_and, Bool.and_false]] at this
    exact this
end
def IsMine (as : List Addr) (ks : List Call) (c : Int) (v : V) : Prop := (v = .non ∧ ∀ k ∈ ks, k.c ≠ c) ∨ ∃ (j : Nat) (a : Addr) (k : Call), as[j]? = some a ∧ ks[j]? = some k ∧ k.c = c ∧ v = .ref a
def spCallOf (K : PySem.W.Frag) : Sp := fun vs H Q _ => ∃ (l : Addr) (x : V) (as : List Addr) (ks : List Call), vs = [.ref l, x] ∧ SqL K H l (as.map V.ref) ∧ CallsAt H as ks ∧ PartIs K H x ∧
 ((isInt x = false ∧ Q .non H) ∨ ∃ c, x = .int c ∧ ∀ v, IsMine as ks c v → Q v H)
section
variable {P : Program} {w : World} {K : PySem.W.Frag} {mg : Str → Option Value} {base : Heap}
theorem sc_call_of : FnScope ["calls", "caller", "call"] ["calls", "caller"] (defScope (top 32)) := ⟨rfl, rfl, rfl, by decide +kernel, rfl, by decide +kernel, by decide +kernel⟩
theorem ok_call_of (T : Txt K mg) (C_is_number : Callee P w K mg base 1 "is_number" ["thing"] (spWhole K)) (D : Def K mg "call_of" (top 32) ["calls", "caller"]) : Callee P w K mg base 2 "call_of" ["calls", "caller"] (spCallOf K) := by
 refine D.ok sc_call_of (fun vs H Q E h => ?_) (fun f cdv A outer s H vs Q E hr h => ?_)
 ·obtain ⟨l, x, as, ks, rfl, _⟩ := h
  rfl
 obtain ⟨l, x, as, ks, rfl, hL, hC, hp, q⟩ := h
 refine ⟨_, (pss_cons (ps_if (pt_not (pt_truK K (pe_fn C_is_number hr rfl (pa_cons (pv 1) pa_nil st_name)) (fun _ => rfl))) (pss_one (ps_ret pe_non)) pss_nil)
  (pss_cons (ps_for PassesOwn.never rfl (pi_listK K (pv 0)) (pg_name (i := 2) sc_call_of.nd rfl (Or.inl rfl))
  (pss_one (ps_if (pt_cmpR op_eq (pe_ix (ix_tupK K) (pv 2) pe_int (fun _ _ => rfl)) (pv 1) (nomark _)) (pss_one (ps_ret (pv 2))) pss_nil)))
  (pss_one (ps_ret pe_non)))), ?_⟩
 refine ⟨_, rfl, x, rfl, hp, _, rfl, ?_⟩
 rcases q with ⟨hx, q⟩ | ⟨c, rfl, q⟩
 ·rw [hx]
  exact iteT q
 refine iteF ?_
 have la := Paired.length hC
 refine ⟨_, rfl, l, rfl, ⟨_, hL⟩, ?_⟩
 refine for_list (xs := as.map V.ref) (fun i σ H' => H' = H ∧ (∀ (j : Nat) k, j < i → ks[j]? = some k → k.c ≠ c) ∧ ∃ v, σ = [some (.ref l), some (.int c), v])
  ⟨rfl, (fun j k hj => absurd hj (Nat.not_lt_zero _)), none, rfl⟩ (fun i σ H' _ g => g.1 ▸ hL) ?_ ?_
 ·rintro i x σ H' hx ⟨rfl, hno, v, rfl⟩
  rw [List.getElem?_map] at hx
  obtain ⟨a, ha, rfl⟩ := Option.map_eq_some_iff.mp hx
  obtain ⟨k, hk, ce, e1, e2⟩ := paired_at hC i a ha
  refine ⟨_, rfl, a, _, _, _, rfl, rfl, SqT.of e2, rfl, _, rfl, rfl, _, rfl, ?_⟩
  refine ite2 (fun cc => ?_) (fun cc => ?_)
  ·have cc' : k.c = c := by simpa using cc
   exact ⟨_, rfl, q _ (.inr ⟨i, a, k, ha, hk, cc', rfl⟩)⟩
  ·have cc' : k.c ≠ c := by simpa using cc
   refine ⟨rfl, fun j k' hj hk' => ?_, _, rfl⟩
   by_cases z : j = i
   ·subst z
    rw [hk] at hk'
    cases hk'
    exact cc'
   ·exact hno j k' (by lia) hk'
 ·rintro σ H' ⟨rfl, hno, v, rfl⟩
  refine q _ (.inl ⟨rfl, fun k hk => ?_⟩)
  obtain ⟨j, hj⟩ := List.mem_iff_getElem?.mp hk
  have := (List.getElem?_eq_some_iff.mp hj).1
  exact hno j k (by rw [List.length_map]; lia) hj
end
def IsWho (ks : List Call) (e : Int) (v : V) : Prop := (v = .non ∧ ∀ k ∈ ks, ¬ e ∈ k.es) ∨ ∃ k ∈ ks, e ∈ k.es ∧ v = .int k.c
def spHolderOf (K : PySem.W.Frag) : Sp := fun vs H Q _ => ∃ (l : Addr) (e : Int) (as : List Addr) (ks : List Call), vs = [.ref l, .int e] ∧ SqL K H l (as.map V.ref) ∧ CallsAt H as ks ∧ ∀ v, IsWho ks e v → Q v H
def leftA : List Addr → List Call → Int → List Addr
 | a :: as, k :: ks, c => if k.c = c then leftA as ks c else a :: leftA as ks c
 | _, _, _ => []
theorem leftA_snoc : ∀ {as : List Addr} {ks : List Call} {a : Addr} {k : Call} {c : Int}, as.length = ks.length → leftA (as ++ [a]) (ks ++ [k]) c = leftA as ks c ++ (if k.c = c then [] else [a])
 | [], [], a, k, c, _ => by
  show (if k.c = c then leftA [] [] c else a :: leftA [] [] c) = _
  rfl
 | b :: as, k' :: ks, a, k, c, h => by
  have ih := leftA_snoc (as := as) (ks := ks) (a := a) (k := k) (c := c) (by simpa using h)
  show (if k'.c = c then leftA (as ++ [a]) (ks ++ [k]) c else b :: leftA (as ++ [a]) (ks ++ [k]) c) = (if k'.c = c then leftA as ks c else b :: leftA as ks c) ++ _
  by_cases e : k'.c = c
  ·rw [if_pos e, if_pos e, ih]
  ·rw [if_neg e, if_neg e, ih]
   rfl
theorem leftA_len : ∀ (as : List Addr) (ks : List Call) (c : Int), (leftA as ks c).length ≤ ks.length
 | [], [], _ => Nat.le_refl _
 | [], _ :: _, _ => Nat.zero_le _
 | _ :: _, [], _ => Nat.le_refl _
 | a :: as, k :: ks, c => by
  have ih := leftA_len as ks c
  show (if k.c = c then leftA as ks c else a :: leftA as ks c).length ≤ ks.length + 1
  split
  ·lia
  ·simp only [List.length_cons]; lia
theorem leftA_calls {H : Hp} : ∀ {as : List Addr} {ks : List Call} {c : Int}, CallsAt H as ks → ∃ ks', CallsAt H (leftA as ks c) ks'
 | _, _, _, .nil => ⟨[], .nil⟩
 | _, _, c, .cons (a := a) (b := k) h t => by
  obtain ⟨ks', q⟩ := leftA_calls (c := c) t
  by_cases e : k.c = c
  ·exact ⟨ks', by show CallsAt H (if k.c = c then _ else _) ks'; rw [if_pos e]; exact q⟩
  ·exact ⟨k :: ks', by show CallsAt H (if k.c = c then _ else _) _; rw [if_neg e]; exact .cons h q⟩
section
variable {P : Program} {w : World} {K : PySem.W.Frag} {mg : Str → Option Value} {base : Heap}
theorem sc_holder_of : FnScope ["calls", "end", "call"] ["calls", "end"] (defScope (top 33)) := ⟨rfl, rfl, rfl, by decide +kernel, rfl, by decide +kernel, by decide +kernel⟩
theorem ok_holder_of (T : Txt K mg) (C_is_number : Callee P w K mg base 1 "is_number" ["thing"] (spWhole K)) (D : Def K mg "holder_of" (top 33) ["calls", "end"]) : Callee P w K mg base 2 "holder_of" ["calls", "end"] (spHolderOf K) := by
 refine D.ok sc_holder_of (fun vs H Q E h => ?_) (fun f cdv A outer s H vs Q E hr h => ?_)
 ·obtain ⟨l, x, as, ks, rfl, _⟩ := h
  rfl
 obtain ⟨l, e, as, ks, rfl, hL, hC, q⟩ := h
 refine ⟨_, (pss_cons (ps_if (pt_not (pt_truK K (pe_fn C_is_number hr rfl (pa_cons (pv 1) pa_nil st_name)) (fun _ => rfl))) (pss_one (ps_ret pe_non)) pss_nil)
  (pss_cons (ps_for PassesOwn.never rfl (pi_listK K (pv 0)) (pg_name (i := 2) sc_holder_of.nd rfl (Or.inl rfl))
  (pss_one (ps_if (pt_cmpR (op_inK K) (pv 1) (pe_ix (ix_tupK K) (pv 2) pe_int (fun _ _ => rfl)) (by with_unfolding_all rfl)) (pss_one (ps_ret (pe_ix (ix_tupK K) (pv 2) pe_int (fun _ _ => rfl)))) pss_nil)))
  (pss_one (ps_ret pe_non)))), ?_⟩
 refine ⟨_, rfl, .int e, rfl, .int e, _, rfl, iteF ?_⟩
 have la := Paired.length hC
 refine ⟨_, rfl, l, rfl, ⟨_, hL⟩, ?_⟩
 refine for_list (xs := as.map V.ref) (fun i σ H' => H' = H ∧ (∀ (j : Nat) k, j < i → ks[j]? = some k → ¬ e ∈ k.es) ∧ ∃ v, σ = [some (.ref l), some (.int e), v])
  ⟨rfl, (fun j k hj => absurd hj (Nat.not_lt_zero _)), none, rfl⟩ (fun i σ H' _ g => g.1 ▸ hL) ?_ ?_
 ·rintro i x σ H' hx ⟨rfl, hno, v, rfl⟩
  rw [List.getElem?_map] at hx
  obtain ⟨a, ha, rfl⟩ := Option.map_eq_some_iff.mp hx
  obtain ⟨k, hk, ce, e1, e2⟩ := paired_at hC i a ha
  refine ⟨_, rfl, _, rfl, a, _, _, _, rfl, rfl, SqT.of e2, rfl, ce, _, rfl, .inr (SqT.of e1), rfl, int_flat k.es, _, rfl, ?_⟩
  rw [int_in]
  refine ite2 (fun cc => ?_) (fun cc => ?_)
  ·have cc' : e ∈ k.es := by simpa using cc
   exact ⟨_, rfl, a, _, _, _, rfl, rfl, SqT.of e2, rfl, q _ (.inr ⟨k, List.mem_of_getElem? hk, cc', rfl⟩)⟩
  ·have cc' : ¬ e ∈ k.es := by simpa using cc
   refine ⟨rfl, fun j k' hj hk' => ?_, _, rfl⟩
   by_cases z : j = i
   ·subst z
    rw [hk] at hk'
    cases hk'
    exact cc'
   ·exact hno j k' (by lia) hk'
 ·rintro σ H' ⟨rfl, hno, v, rfl⟩
  refine q _ (.inl ⟨rfl, fun k hk => ?_⟩)
  obtain ⟨j, hj⟩ := List.mem_iff_getElem?.mp hk
  have := (List.getElem?_eq_some_iff.mp hj).1
  exact hno j k (by rw [List.length_map]; lia) hj
end
def needB (h : Hall) (s : Int) (gs : List Int) (k : Call) : Bool := decide (k.c / h.c = s) || (racksM h k.es).any fun r => decide (r ∈ gs)
def hrow (h : Hall) (ks : List Call) (s : Int) (gs : List Int) (r : Nat) : List Int := (ks.filter fun k => decide (k.k = (r : Int)) && needB h s gs k).map Call.c
def holdG (h : Hall) (ks : List Call) (s : Int) (gs : List Int) : List (List Int) := (List.range h.m.toNat).map (hrow h ks s gs)
def holdM (h : Hall) (ks : List Call) (c : Int) (es : List Int) : List (List Int) := holdG h ks (c / h.c) (racksM h es)
theorem hrow_snoc (h : Hall) (ks : List Call) (s : Int) (gs : List Int) (r : Nat) (k : Call) : hrow h (ks ++ [k]) s gs r = hrow h ks s gs r ++ (if (decide (k.k = (r : Int)) && needB h s gs k) = true then [k.c] else []) := by
 unfold hrow
 rw [List.filter_append, List.map_append]
 have e : List.filter (fun k => decide (k.k = (r : Int)) && needB h s gs k) [k] = if (decide (k.k = (r : Int)) && needB h s gs k) = true then [k] else [] := by
  rw [List.filter_cons]
  rfl
 rw [e]
 by_cases c : (decide (k.k = (r : Int)) && needB h s gs k) = true
 ·rw [if_pos c, if_pos c]
  rfl
 ·rw [if_neg c, if_neg c]
  rfl
theorem hrow_len (h : Hall) (ks : List Call) (s : Int) (gs : List Int) (r : Nat) : (hrow h ks s gs r).length ≤ ks.length := by
 unfold hrow
 rw [List.length_map]
 exact List.length_filter_le _ _
theorem hold_len (h : Hall) (ks : List Call) (s : Int) (gs : List Int) : (holdG h ks s gs).length = h.m.toNat := by
 unfold holdG
 rw [List.length_map, List.length_range]
def RowsI (H : Hp) (rs : List Addr) (rows : List (List Int)) : Prop := Paired (fun a row => H a = some (.lst (row.map V.int))) rs rows
theorem RowsI.other {H : Hp} {a : Addr} {o : HO} : ∀ {rs : List Addr} {rows : List (List Int)}, RowsI H rs rows → ¬ a ∈ rs → RowsI (upd H a o) rs rows
 | _, _, .nil, _ => .nil
 | _, _, .cons (a := b) h t, hn => .cons (by
   have : b ≠ a := fun z => hn (by rw [z]; exact List.mem_cons_self ..)
   show upd H a o b = _
   rw [upd_ne this]; exact h) (RowsI.other t fun z => hn (List.mem_cons_of_mem _ z))
theorem RowsI.set {H : Hp} {a : Addr} {row : List Int} : ∀ {rs : List Addr} {rows : List (List Int)} {j : Nat}, RowsI H rs rows → rs.Nodup → rs[j]? = some a → RowsI (upd H a (.lst (row.map V.int))) rs (rows.set j row)
 | _, _, _, .nil, _, h => by cases h
 | _, _, 0, .cons (a := b) h t, nd, hj => by
  cases hj
  exact .cons upd_same (RowsI.other t (List.nodup_cons.mp nd).1)
 | _, _, j + 1, .cons (a := b) h t, nd, hj => by
  have hj' : _ := hj
  rw [List.getElem?_cons_succ] at hj'
  have hm := List.mem_of_getElem? hj'
  have hb : b ≠ a := fun z => (List.nodup_cons.mp nd).1 (by rw [z]; exact hm)
  exact .cons (by
   show upd H a _ b = _
   rw [upd_ne hb]; exact h) (RowsI.set t (List.nodup_cons.mp nd).2 hj')
theorem RowsI.same {H H' : Hp} {rs : List Addr} {rows : List (List Int)} (s : Same H H') (h : RowsI H rs rows) : RowsI H' rs rows := by
 unfold RowsI at h ⊢
 exact paired_mem h fun a d _ e => s _ _ e
theorem set_rangeI {n j : Nat} (f : Nat → List Int) (x : List Int) : ((List.range n).map f).set j x = (List.range n).map fun r => if r = j then x else f r := by
 refine List.ext_getElem? fun i => ?_
 rw [List.getElem?_set, List.getElem?_map, List.getElem?_map]
 by_cases hi : i < n
 ·rw [List.getElem?_range hi]
  simp only [List.length_map, List.length_range, Option.map_some]
  by_cases c : j = i
  ·subst c; simp [hi]
  ·simp [c, Ne.symm c]
 ·rw [List.getElem?_eq_none (by simpa using hi)]
  simp only [List.length_map, List.length_range, Option.map_none]
  by_cases c : j = i
  ·subst c; simp [hi]
  ·simp [c]
def spNeeded (K : PySem.W.Frag) : Sp := fun vs H Q _ => ∃ (a p g : Addr) (h : Hall) (k : Call) (st : Int) (gs : List Int), vs = [.ref a, .ref p, .int st, .ref g] ∧ SqT K H a (h.row.map V.int) ∧ h.Ok ∧ CallAt H p k ∧ k.In h ∧ SqL K H g (gs.map V.int) ∧ ∀ H', Same H H' → Q (.bl (needB h st gs k)) H'
def spHolders (K : PySem.W.Frag) : Sp := fun vs H Q _ => ∃ (a l e : Addr) (h : Hall) (as : List Addr) (ks : List Call) (c : Int) (es : List Int), vs = [.ref a, .ref l, .int c, .ref e] ∧ SqT K H a (h.row.map V.int) ∧ h.Ok ∧ SqL K H l (as.map V.ref) ∧ CallsAt H as ks ∧ (∀ k ∈ ks, k.In h) ∧ ks.length ≤ 63 ∧ (SqT K H e (es.map V.int) ∨ SqL K H e (es.map V.int)) ∧ es.length < 64 ∧
 ∀ (f : Addr) (rs : List Addr) (H' : Hp), Same H H' → H f = none → (∀ r ∈ rs, H r = none) → rs.Nodup → ¬ f ∈ rs → H' f = some (.lst (rs.map V.ref)) → RowsI H' rs (holdM h ks c es) → Q (.ref f) H'
section
variable {P : Program} {w : World} {K : PySem.W.Frag} {mg : Str → Option Value} {base : Heap}
theorem sc_holds_needed : FnScope ["hall", "call", "start", "goals"] ["hall", "call", "start", "goals"] (defScope (top 27)) := ⟨rfl, rfl, rfl, by decide +kernel, rfl, by decide +kernel, by decide +kernel⟩
theorem ok_needed (T : Txt K mg) (C_place_in : Callee P w K mg base 1 "place_in" ["hall", "caller"] (spPlace K Hall.c)) (C_racks_of : Callee P w K mg base 2 "racks_of" ["hall", "ends"] (spRacks K)) (D : Def K mg "holds_needed" (top 27) ["hall", "call", "start", "goals"]) : Callee P w K mg base 3 "holds_needed" ["hall", "call", "start", "goals"] (spNeeded K) := by
 refine D.ok sc_holds_needed (fun vs H Q E h => ?_) (fun f cdv A outer s H vs Q E hr h => ?_)
 ·obtain ⟨a, p, g, h, k, st, gs, rfl, _⟩ := h
  rfl
 obtain ⟨a, p, g, h, k, st, gs, rfl, hH, ok, ⟨e, ee, ep⟩, hk, hG, q⟩ := h
 have few := hk.few
 refine ⟨_, (pss_cons (ps_if (pt_cmpR op_eq (pe_ix (ix_tupK K) (pe_fn C_place_in hr rfl (pa_cons (pv 0) (pa_cons (pe_ix (ix_tupK K) (pv 1) pe_int (fun _ _ => rfl)) pa_nil st_sub) st_name)) pe_int (fun _ _ => rfl)) (pv 2) (nomark _)) (pss_one (ps_ret pe_bl)) pss_nil)
  (pss_one (ps_ret (pe_callB (call_anyK K rfl) rfl T.m_any boot_any (pa_cons (pe_comp (own := ["rack"]) (fr := [(3, "goals")]) rfl (show CompScope ["hall", "call", "start", "goals"] (defScope (top 27)) _ _ _ from ⟨rfl, by decide +kernel, by decide +kernel, by decide +kernel, by decide +kernel⟩) (pi_listK K (pe_fn C_racks_of hr rfl (pa_cons (pv 0) (pa_cons (pe_ix (ix_tupK K) (pv 1) pe_int (fun _ _ => rfl)) pa_nil st_sub) st_name))) (fun cl C s H ex => ⟨(pg_name (i := 0) (show (["rack", "goals"] : List Str).Nodup from by decide +kernel) rfl (Or.inl rfl) (Or.inr rfl)), pif_nil, (pe_cmpR (op_inK K) (pv 0) (pv 1) (by with_unfolding_all rfl))⟩)) pa_nil st_comp))))), ?_⟩
 refine ⟨_, rfl, _, rfl, p, _, _, _, rfl, rfl, SqT.of ep, rfl, a, h, k.c, rfl, hH, ok, fun r hr1 => ?_⟩
 have er := upd_same (H := H) (a := r) (o := .tup [.int (k.c / h.c), .int (k.c % h.c)])
 have s1 := same_new hr1 (.tup [.int (k.c / h.c), .int (k.c % h.c)])
 generalize upd H r (.tup [.int (k.c / h.c), .int (k.c % h.c)]) = H1 at er s1 ⊢
 refine ⟨r, _, _, _, rfl, rfl, SqT.of er, rfl, _, rfl, rfl, _, rfl, ?_⟩
 refine ite2 (fun c => ?_) (fun c => ?_)
 ·have c' : k.c / h.c = st := by simpa using c
  have := q H1 s1
  rw [show needB h st gs k = true by unfold needB; rw [decide_eq_true c']; rfl] at this
  exact this
 ·have c' : ¬ k.c / h.c = st := by simpa using c
  refine ⟨_, rfl, _, rfl, p, _, _, _, rfl, rfl, SqT.of (s1 _ _ ep), rfl, a, e, h, k.es, rfl, Same.seqT s1 hH, ok, .inl (SqT.of (s1 _ _ ee)), by lia, fun l H2 s2 _ el => ?_⟩
  have s12 := s1.trans s2
  have rl := racks_len h k.es
  refine ⟨l, rfl, ⟨_, SqL.of el⟩, ?_⟩
  refine comp_list (xs := (racksM h k.es).map V.int) (fun i acc σ H' => H' = H2 ∧ acc = (((racksM h k.es).take i).map fun r => decide (r ∈ gs)).map V.bl ∧ ∃ v, σ = [v, some (.ref g)])
   ⟨rfl, rfl, none, rfl⟩ (Nat.le_of_lt (small1000 (by rw [List.length_map]; lia))) (fun i acc σ H' gg => ?_) (fun i acc σ H' _ gg => by rw [gg.1]; exact SqL.of el) ?_ ?_
  ·obtain ⟨_, rfl, _⟩ := gg
   rw [List.length_map, List.length_map, List.length_take]
   lia
  ·rintro i y acc σ H' hy ⟨rfl, rfl, v, rfl⟩
   rw [List.getElem?_map] at hy
   obtain ⟨x, hx, rfl⟩ := Option.map_eq_some_iff.mp hy
   refine ⟨_, rfl, _, rfl, g, _, rfl, .inl (s12.seq hG), rfl, int_flat gs, rfl, ?_, _, rfl⟩
   rw [List.take_succ, hx, List.map_append, List.map_append]
   show _ = _ ++ [V.bl _]
   rw [int_in]
   rfl
  ·rintro acc σ H' ⟨rfl, rfl, v, rfl⟩ l2 hl2
   rw [List.length_map, List.take_length]
   refine ⟨l2, _, rfl, SqL.of upd_same, ?_⟩
   have := q _ (s12.trans (same_new hl2 (.lst (((racksM h k.es).map fun r => decide (r ∈ gs)).map V.bl))))
   rw [show needB h st gs k = ((racksM h k.es).map fun r => decide (r ∈ gs)).any id by
    unfold needB
    rw [decide_eq_false c', Bool.false_or, List.any_map]
    rfl] at this
   exact this
theorem sc_holders : FnScope ["hall", "calls", "caller", "ends", "start", "goals", "found", "call"] ["hall", "calls", "caller", "ends"] (defScope (top 28)) := ⟨rfl, rfl, rfl, by decide +kernel, rfl, by decide +kernel, by decide +kernel⟩
theorem ok_holders (T : Txt K mg) (C_place_in : Callee P w K mg base 1 "place_in" ["hall", "caller"] (spPlace K Hall.c)) (C_racks_of : Callee P w K mg base 2 "racks_of" ["hall", "ends"] (spRacks K)) (C_holds_needed : Callee P w K mg base 3 "holds_needed" ["hall", "call", "start", "goals"] (spNeeded K)) (D : Def K mg "holders" (top 28) ["hall", "calls", "caller", "ends"]) : Callee P w K mg base 4 "holders" ["hall", "calls", "caller", "ends"] (spHolders K) := by
 refine D.ok sc_holders (fun vs H Q E h => ?_) (fun f cdv A outer s H vs Q E hr h => ?_)
 ·obtain ⟨a, l, e, h, as, ks, c, es, rfl, _⟩ := h
  rfl
 obtain ⟨a, l, e, h, as, ks, c, es, rfl, hH, ok, hL, hC, hin, h63, hE, h64, q⟩ := h
 have b3 := ok.m
 have la := Paired.length hC
 refine ⟨_, (pss_cons (ps_set (i := 4) sc_holders.nd rfl (Or.inl rfl) (pe_ix (ix_tupK K) (pe_fn C_place_in hr rfl (pa_cons (pv 0) (pa_cons (pv 2) pa_nil st_name) st_name)) pe_int (fun _ _ => rfl)))
  (pss_cons (ps_set (i := 5) sc_holders.nd rfl (Or.inl rfl) (pe_fn C_racks_of hr rfl (pa_cons (pv 0) (pa_cons (pv 3) pa_nil st_name) st_name)))
  (pss_cons (ps_comp (i := 6) (own := ["k"]) (fr := []) rfl sc_holders.nd rfl rfl (show CompScope ["hall", "calls", "caller", "ends", "start", "goals", "found", "call"] (defScope (top 28)) _ _ _ from ⟨rfl, by decide +kernel, by decide +kernel, by decide +kernel, by decide +kernel⟩) (pi_range1 rfl T.m_range (pa_cons (pe_ix (ix_tupK K) (pv 0) pe_int (fun _ _ => rfl)) pa_nil st_sub)) (fun cl C s H ex => ⟨(pg_name (i := 0) (show (["k"] : List Str).Nodup from by decide +kernel) rfl (Or.inl rfl) (Or.inr rfl)), pif_nil, (pe_lst pa_nil)⟩) rfl)
  (pss_cons (ps_for PassesOwn.never rfl (pi_listK K (pv 1)) (pg_name (i := 7) sc_holders.nd rfl (Or.inl rfl))
  (pss_one (ps_if (pt_truK K (pe_fn C_holds_needed hr rfl (pa_cons (pv 0) (pa_cons (pv 7) (pa_cons (pv 4) (pa_cons (pv 5) pa_nil st_name) st_name) st_name) st_name)) (fun _ => rfl)) (pss_one (ps_expr (pe_bmK K PySem.F.plainAttrs_list PySem.F.slot_list_append PySem.F.type_list_append mt_appendR (pe_ix (ix_listK K) (pv 6) (pe_ix (ix_tupK K) (pv 7) pe_int (fun _ _ => rfl)) (fun _ _ => rfl)) (pa_cons (pe_ix (ix_tupK K) (pv 7) pe_int (fun _ _ => rfl)) pa_nil st_sub)))) pss_nil)))
  (pss_one (ps_ret (pv 6))))))), ?_⟩
 refine ⟨_, rfl, _, rfl, a, h, c, rfl, hH, ok, fun r hr1 => ?_⟩
 have er := upd_same (H := H) (a := r) (o := .tup [.int (c / h.c), .int (c % h.c)])
 have s1 := same_new hr1 (.tup [.int (c / h.c), .int (c % h.c)])
 generalize upd H r (.tup [.int (c / h.c), .int (c % h.c)]) = H1 at er s1 ⊢
 refine ⟨r, _, _, _, rfl, rfl, SqT.of er, rfl, ?_⟩
 refine ⟨_, rfl, _, rfl, a, e, h, es, rfl, Same.seqT s1 hH, ok, hE.imp (fun z => Same.seqT s1 z) (fun z => s1.seq z), h64, fun g H2 s2 _ eg => ?_⟩
 have s12 := s1.trans s2
 refine ⟨_, rfl, a, _, _, _, rfl, rfl, Same.seqT s12 hH, rfl, _, rfl, by show -(2 ^ 62) ≤ h.m; lia, by show h.m < 2 ^ 62; lia, ?_⟩
 refine comp_range (fun i acc σ H' => Same H2 H' ∧ (∃ rs : List Addr, acc = rs.map V.ref ∧ rs.length = i ∧ rs.Nodup ∧ (∀ r ∈ rs, H2 r = none) ∧ RowsI H' rs (List.replicate i [])) ∧ ∃ v, σ = [v])
  ⟨Same.refl _, ⟨[], rfl, rfl, List.nodup_nil, (fun r hr => nomatch hr), .nil⟩, none, rfl⟩ (by show h.m.toNat ≤ 16777216; lia) (fun i acc σ H' gg => ?_) ?_ ?_
 ·obtain ⟨_, ⟨rs, rfl, hl, _⟩, _⟩ := gg
  rw [List.length_map, hl]
  exact Nat.le_refl _
 ·rintro i acc σ H' hi ⟨g1, ⟨rs, rfl, hl, nd, hn, hr⟩, v, rfl⟩
  refine ⟨(by show 0 ≤ sizeLine; decide), fun u hu => ⟨g1.trans (same_new hu _), ⟨rs ++ [u], by rw [List.map_append]; rfl, by rw [List.length_append, hl]; rfl, ?_, ?_, ?_⟩, _, rfl⟩⟩
  ·refine List.nodup_append.mpr ⟨nd, by simp, fun x hx y hy => ?_⟩
   rw [List.mem_singleton] at hy
   rintro rfl
   have : H' x ≠ none := by
    obtain ⟨j, hj⟩ := List.mem_iff_getElem?.mp hx
    obtain ⟨row, _, e2⟩ := paired_at hr j x hj
    exact fun z => by rw [e2] at z; cases z
   exact this (by rw [hy]; exact hu)
  ·intro x hx
   rcases List.mem_append.mp hx with z | z
   ·exact hn x z
   ·rw [List.mem_singleton] at z
    rw [z]; exact g1.free hu
  ·rw [List.replicate_succ']
   exact Paired.snoc (RowsI.same (same_new hu _) hr) upd_same
 ·rintro acc σ H3 ⟨s3, ⟨rs, rfl, hl, nd, hn, hr⟩, v, rfl⟩ F hF
  have eF := upd_same (H := H3) (a := F) (o := .lst (rs.map V.ref))
  have s4 := s3.trans (same_new hF (.lst (rs.map V.ref)))
  have hr4 := RowsI.same (same_new hF (.lst (rs.map V.ref))) hr
  have hFn : ¬ F ∈ rs := fun z => by
   obtain ⟨j, hj⟩ := List.mem_iff_getElem?.mp z
   obtain ⟨row, _, e2⟩ := paired_at hr j F hj
   rw [hF] at e2
   cases e2
  generalize upd H3 F (.lst (rs.map V.ref)) = H4 at eF s4 hr4 ⊢
  have hF2 : H2 F = none := s3.free hF
  have e0 : List.replicate h.m.toNat [] = holdG h (ks.take 0) (c / h.c) (racksM h es) := by
   unfold holdG hrow
   rw [List.take_zero]
   refine List.ext_getElem? fun i => ?_
   rw [List.getElem?_map, List.getElem?_replicate]
   by_cases hi : i < h.m.toNat
   ·rw [if_pos hi, List.getElem?_range hi]
    rfl
   ·rw [if_neg hi, List.getElem?_eq_none (by simpa using hi)]
    rfl
  rw [e0] at hr4
  refine ⟨_, rfl, l, rfl, ⟨_, (s12.trans s4).seq hL⟩, ?_⟩
  refine for_list (xs := as.map V.ref) (fun i σ H' => Same H2 H' ∧ H' F = some (.lst (rs.map V.ref)) ∧ RowsI H' rs (holdG h (ks.take i) (c / h.c) (racksM h es)) ∧ ∃ v7, σ = [some (.ref a), some (.ref l), some (.int c), some (.ref e), some (.int (c / h.c)), some (.ref g), some (.ref F), v7])
   ⟨s4, eF, hr4, none, rfl⟩ (fun i σ H' _ gg => (s12.trans gg.1).seq hL) ?_ ?_
  ·rintro i x σ H' hx ⟨s5, eF5, hr5, v7, rfl⟩
   rw [List.getElem?_map] at hx
   obtain ⟨p, hp, rfl⟩ := Option.map_eq_some_iff.mp hx
   obtain ⟨k, hk1, hk2⟩ := paired_at hC i p hp
   have hkI := hin k (List.mem_of_getElem? hk1)
   have hkk := hkI.k
   have tk : ks.take (i + 1) = ks.take i ++ [k] := by rw [List.take_succ, hk1]; rfl
   have s25 := s12.trans s5
   have hk5 : CallAt H' p k := CallAt.same (fun b xs z => s25 _ _ z) hk2
   refine ⟨_, rfl, _, rfl, _, rfl, _, rfl, a, p, g, h, k, c / h.c, racksM h es, rfl, Same.seqT s25 hH, ok, hk5, hkI, SqL.of (s5 _ _ eg), fun H6 s6 => ?_⟩
   refine ⟨_, rfl, ?_⟩
   have hr6 := RowsI.same s6 hr5
   have eF6 := s6 _ _ eF5
   refine ite2 (fun cc => ?_) (fun cc => ?_)
   ·obtain ⟨ce, e1, e2⟩ := CallAt.same (fun b xs z => s6 _ _ z) hk5
    obtain ⟨n, hnk⟩ : ∃ n : Nat, k.k = (n : Int) := ⟨k.k.toNat, by lia⟩
    have hn1 : n < h.m.toNat := by lia
    have lr := Paired.length hr6
    rw [hold_len] at lr
    have ea : rs[n]? = some (rs[n]'(by lia)) := List.getElem?_eq_getElem _
    generalize rs[n]'(by lia) = ra at ea
    obtain ⟨row, w1, w2⟩ := paired_at hr6 n ra ea
    have w1' : row = hrow h (ks.take i) (c / h.c) (racksM h es) n := by
     unfold holdG at w1
     rw [List.getElem?_map, List.getElem?_range hn1] at w1
     exact (Option.some.inj w1).symm
    have hat : atI (rs.map V.ref) k.k = some (.ref ra) := by rw [hnk]; exact atI_nat (by rw [List.getElem?_map, ea]; rfl)
    have rlen : row.length ≤ 63 := by
     rw [w1']
     have h1 := hrow_len h (ks.take i) (c / h.c) (racksM h es) n
     have h2 : (ks.take i).length ≤ ks.length := by rw [List.length_take]; lia
     lia
    refine ⟨_, rfl, _, rfl, p, _, _, _, rfl, rfl, SqT.of e2, rfl, F, _, _, _, rfl, rfl, SqL.of eF6, hat, .inl ⟨rfl, _, SqL.of w2⟩, _, rfl, p, _, _, _, rfl, rfl, SqT.of e2, rfl, ra, row.map V.int, _, rfl, rfl, w2, small1000 (by rw [List.length_map]; lia), ?_⟩
    have hra := List.mem_of_getElem? ea
    have hFra : F ≠ ra := fun z => hFn (by rw [z]; exact hra)
    refine ⟨Same.put (s5.trans s6) (hn ra hra), by rw [upd_ne hFra]; exact eF6, ?_, _, rfl⟩
    have em : (holdG h (ks.take i) (c / h.c) (racksM h es)).set n (row ++ [k.c]) = holdG h (ks.take (i + 1)) (c / h.c) (racksM h es) := by
     unfold holdG
     rw [set_rangeI]
     refine List.map_congr_left fun r hr => ?_
     rw [tk, hrow_snoc]
     by_cases z : r = n
     ·subst z
      rw [if_pos rfl, if_pos (by rw [decide_eq_true hnk, cc]; rfl), w1']
     ·rw [if_neg z, if_neg (by rw [decide_eq_false (fun y => z (by lia))]; exact Bool.false_ne_true), List.append_nil]
    rw [← em, show row.map V.int ++ [V.int k.c] = (row ++ [k.c]).map V.int by rw [List.map_append]; rfl]
    exact RowsI.set hr6 nd ea
   ·refine ⟨s5.trans s6, eF6, ?_, _, rfl⟩
    have em : holdG h (ks.take (i + 1)) (c / h.c) (racksM h es) = holdG h (ks.take i) (c / h.c) (racksM h es) := by
     unfold holdG
     refine List.map_congr_left fun r hr => ?_
     rw [tk, hrow_snoc, if_neg (fun z => cc (Bool.and_eq_true_iff.mp z).2), List.append_nil]
    rw [em]
    exact hr6
  ·rintro σ H' ⟨s5, eF5, hr5, v7, rfl⟩
   rw [List.length_map, la, List.take_length] at hr5
   exact ⟨_, rfl, q F rs H' (s12.trans s5) (s12.free hF2) (fun r hr => s12.free (hn r hr)) nd hFn eF5 hr5⟩
end
def openB (sh : Int) (k : Nat) : Bool := decide (Builtin.bitAnd (sh / 2 ^ k) 1 = 0)
def openM (h : Hall) (sh : Int) : List Nat := (List.range h.m.toNat).filter (openB sh)
def natV (ks : List Nat) : List V := ks.map fun (k : Nat) => V.int k
theorem natV_int (ks : List Nat) : natV ks = (ks.map fun (k : Nat) => (k : Int)).map V.int := by
 unfold natV
 rw [List.map_map]
 rfl
theorem open_len (h : Hall) (sh : Int) : (openM h sh).length ≤ h.m.toNat := by
 have := List.length_filter_le (openB sh) (List.range h.m.toNat)
 rw [List.length_range] at this
 exact this
theorem open_lt {h : Hall} {sh : Int} {k : Nat} (hk : k ∈ openM h sh) : k < h.m.toNat := List.mem_range.mp (List.mem_filter.mp hk).1
def spOpen (K : PySem.W.Frag) : Sp := fun vs H Q _ => ∃ (a : Addr) (h : Hall) (sh : Int), vs = [.ref a, .int sh] ∧ SqT K H a (h.row.map V.int) ∧ h.Ok ∧ ∀ l, H l = none → Q (.ref l) (upd H l (.lst (natV (openM h sh))))
section
variable {P : Program} {w : World} {K : PySem.W.Frag} {mg : Str → Option Value} {base : Heap}
theorem sc_left_open : FnScope ["hall", "shut"] ["hall", "shut"] (defScope (top 14)) := ⟨rfl, rfl, rfl, by decide +kernel, rfl, by decide +kernel, by decide +kernel⟩
theorem ok_open (T : Txt K mg) (D : Def K mg "left_open" (top 14) ["hall", "shut"]) : Callee P w K mg base 1 "left_open" ["hall", "shut"] (spOpen K) := by
 refine D.ok sc_left_open (fun vs H Q E h => ?_) (fun f cdv A outer s H vs Q E hr h => ?_)
 ·obtain ⟨a, h, sh, rfl, _⟩ := h
  rfl
 obtain ⟨a, h, sh, rfl, hH, ok, q⟩ := h
 have b3 := ok.m
 refine ⟨_, (pss_one (ps_ret (pe_comp (own := ["k"]) (fr := [(1, "shut")]) rfl (show CompScope ["hall", "shut"] (defScope (top 14)) _ _ _ from ⟨rfl, by decide +kernel, by decide +kernel, by decide +kernel, by decide +kernel⟩) (pi_range1 rfl T.m_range (pa_cons (pe_ix (ix_tupK K) (pv 0) pe_int (fun _ _ => rfl)) pa_nil st_sub)) (fun cl C s H ex => ⟨(pg_name (i := 0) (show (["k", "shut"] : List Str).Nodup from by decide +kernel) rfl (Or.inl rfl) (Or.inr rfl)), (pif_one (pt_cmpR op_eq (pe_op op_and (pe_op op_shr (pv 1) (pv 0)) pe_int) pe_int (nomark _))), (pv 0)⟩)))), ?_⟩
 refine ⟨_, rfl, a, _, _, _, rfl, rfl, hH, rfl, _, rfl, by show -(2 ^ 62) ≤ h.m; lia, by show h.m < 2 ^ 62; lia, ?_⟩
 refine comp_range (fun i acc σ H' => H' = H ∧ acc = natV ((List.range i).filter (openB sh)) ∧ ∃ v, σ = [v, some (.int sh)])
  ⟨rfl, rfl, none, rfl⟩ (by show h.m.toNat ≤ 16777216; lia) (fun i acc σ H' g => ?_) ?_ ?_
 ·obtain ⟨_, rfl, _⟩ := g
  unfold natV
  rw [List.length_map]
  have := List.length_filter_le (openB sh) (List.range i)
  rw [List.length_range] at this
  exact this
 ·rintro i acc σ H' hi ⟨rfl, rfl, v, rfl⟩
  rw [Int.zero_add]
  have step : natV ((List.range (i + 1)).filter (openB sh)) = natV ((List.range i).filter (openB sh)) ++ (if openB sh i = true then [V.int (i : Int)] else []) := by
   unfold natV
   rw [List.range_succ, List.filter_append, List.map_append]
   by_cases c : openB sh i = true
   ·rw [if_pos c]
    simp [c]
   ·rw [if_neg c]
    simp [c]
  refine ⟨_, rfl, _, rfl, _, _, rfl, rfl, by lia, _, _, rfl, rfl, rfl, _, rfl, ?_⟩
  refine ite2 (fun c => ?_) (fun c => ?_)
  ·have c' : openB sh i = true := by
    unfold openB
    simpa using c
   refine ⟨_, rfl, rfl, ?_, _, rfl⟩
   rw [step, if_pos c']
  ·have c' : ¬ openB sh i = true := by
    unfold openB
    simpa using c
   refine ⟨rfl, ?_, _, rfl⟩
   rw [step, if_neg c', List.append_nil]
 ·rintro acc σ H' ⟨rfl, rfl, v, rfl⟩ l hl
  exact q l hl
end
structure Asked (K : PySem.W.Frag) (H : Hp) (a l e : Addr) (h : Hall) (as : List Addr) (ks : List Call) (es : List Int) : Prop where
 a : SqT K H a (h.row.map V.int)
 ok : h.Ok
 l : SqL K H l (as.map V.ref)
 c : CallsAt H as ks
 hin : ∀ k ∈ ks, k.In h
 few : ks.length ≤ 63
 e : SqT K H e (es.map V.int) ∨ SqL K H e (es.map V.int)
 len : es.length < 64
theorem Asked.same {K : PySem.W.Frag} {H H' : Hp} {a l e : Addr} {h : Hall} {as : List Addr} {ks : List Call} {es : List Int} (s : Same H H') (k : Asked K H a l e h as ks es) : Asked K H' a l e h as ks es :=
 ⟨Same.seqT s k.a, k.ok, s.seq k.l, CallsAt.same (fun b xs z => s _ _ z) k.c, k.hin, k.few, k.e.imp (fun z => Same.seqT s z) (fun z => s.seq z), k.len⟩
def freeB (h : Hall) (ks : List Call) (c : Int) (es : List Int) (k : Nat) : Bool := decide (hrow h ks (c / h.c) (racksM h es) k = [])
def waysM (h : Hall) (ks : List Call) (c : Int) (es : List Int) (sh : Int) : List Nat := (openM h sh).filter (freeB h ks c es)
theorem ways_len (h : Hall) (ks : List Call) (c : Int) (es : List Int) (sh : Int) : (waysM h ks c es sh).length ≤ h.m.toNat := Nat.le_trans (List.length_filter_le _ _) (open_len h sh)
def spWays (K : PySem.W.Frag) : Sp := fun vs H Q _ => ∃ (a l e : Addr) (h : Hall) (as : List Addr) (ks : List Call) (c : Int) (es : List Int) (sh : Int), vs = [.ref a, .ref l, .int c, .ref e, .int sh] ∧ Asked K H a l e h as ks es ∧
 ∀ (f : Addr) (H' : Hp), Same H H' → H f = none → H' f = some (.lst (natV (waysM h ks c es sh))) → Q (.ref f) H'
section
variable {P : Program} {w : World} {K : PySem.W.Frag} {mg : Str → Option Value} {base : Heap}
theorem sc_ways : FnScope ["hall", "calls", "caller", "ends", "shut", "held"] ["hall", "calls", "caller", "ends", "shut"] (defScope (top 29)) := ⟨rfl, rfl, rfl, by decide +kernel, rfl, by decide +kernel, by decide +kernel⟩
theorem ok_ways (T : Txt K mg) (C_holders : Callee P w K mg base 4 "holders" ["hall", "calls", "caller", "ends"] (spHolders K)) (C_left_open : Callee P w K mg base 1 "left_open" ["hall", "shut"] (spOpen K)) (D : DefD K mg "ways" (top 29) ["hall", "calls", "caller", "ends", "shut"] [.int 0]) : CalleeD P w K mg base 5 "ways" ["hall", "calls", "caller", "ends", "shut"] [.int 0] (spWays K) := by
 refine D.ok sc_ways (fun vs H Q E h => ?_) (fun f cdv A outer s H vs Q E hr h => ?_)
 ·obtain ⟨a, l, e, h, as, ks, c, es, sh, rfl, _⟩ := h
  rfl
 obtain ⟨a, l, e, h, as, ks, c, es, sh, rfl, ask, q⟩ := h
 have b3 := ask.ok.m
 refine ⟨_, (pss_cons (ps_set (i := 5) sc_ways.nd rfl (Or.inr rfl) (pe_fn C_holders hr rfl (pa_cons (pv 0) (pa_cons (pv 1) (pa_cons (pv 2) (pa_cons (pv 3) pa_nil st_name) st_name) st_name) st_name)))
  (pss_one (ps_ret (pe_comp (own := ["k"]) (fr := [(5, "held")]) rfl (show CompScope ["hall", "calls", "caller", "ends", "shut", "held"] (defScope (top 29)) _ _ _ from ⟨rfl, by decide +kernel, by decide +kernel, by decide +kernel, by decide +kernel⟩) (pi_listK K (pe_fn C_left_open hr rfl (pa_cons (pv 0) (pa_cons (pv 4) pa_nil st_name) st_name))) (fun cl C s H ex => ⟨(pg_name (i := 0) (show (["k", "held"] : List Str).Nodup from by decide +kernel) rfl (Or.inl rfl) (Or.inr rfl)), (pif_one (pt_cmpR (op_eqIK K (Room.units0 hr)) (pe_ix (ix_listK K) (pv 1) (pv 0) (fun _ _ => rfl)) (pe_lst pa_nil) (nomark _))), (pv 0)⟩))))), ?_⟩
 refine ⟨_, rfl, _, rfl, _, rfl, _, rfl, a, l, e, h, as, ks, c, es, rfl, ask.a, ask.ok, ask.l, ask.c, ask.hin, ask.few, ask.e, ask.len, fun F rs H1 s1 hF hrs nd hFn eF hrows => ?_⟩
 refine ⟨_, rfl, _, rfl, a, h, sh, rfl, Same.seqT s1 ask.a, ask.ok, fun lo hlo => ?_⟩
 have elo := upd_same (H := H1) (a := lo) (o := .lst (natV (openM h sh)))
 have s2 := same_new hlo (.lst (natV (openM h sh)))
 generalize upd H1 lo (.lst (natV (openM h sh))) = H2 at elo s2 ⊢
 have ol := open_len h sh
 refine ⟨lo, rfl, ⟨_, SqL.of elo⟩, ?_⟩
 refine comp_list (xs := natV (openM h sh)) (fun i acc σ H' => Same H2 H' ∧ acc = natV (((openM h sh).take i).filter (freeB h ks c es)) ∧ ∃ v, σ = [v, some (.ref F)])
  ⟨Same.refl _, rfl, none, rfl⟩ (Nat.le_of_lt (small1000 (by unfold natV; rw [List.length_map]; lia))) (fun i acc σ H' g => ?_) (fun i acc σ H' _ g => SqL.of (g.1 _ _ elo)) ?_ ?_
 ·obtain ⟨_, rfl, _⟩ := g
  unfold natV
  rw [List.length_map]
  exact Nat.le_trans (List.length_filter_le _ _) (by rw [List.length_take]; lia)
 ·rintro i y acc σ H' hy ⟨s3, rfl, v, rfl⟩
  unfold natV at hy
  rw [List.getElem?_map] at hy
  obtain ⟨k, hk, rfl⟩ := Option.map_eq_some_iff.mp hy
  have hkm := open_lt (List.mem_of_getElem? hk)
  have step : natV (((openM h sh).take (i + 1)).filter (freeB h ks c es)) = natV (((openM h sh).take i).filter (freeB h ks c es)) ++ (if freeB h ks c es k = true then [V.int (k : Int)] else []) := by
   unfold natV
   rw [List.take_succ, hk, List.filter_append, List.map_append]
   by_cases cc : freeB h ks c es k = true
   ·rw [if_pos cc]
    simp [cc]
   ·rw [if_neg cc]
    simp [cc]
  have s13 := s2.trans s3
  have hr3 := RowsI.same s13 hrows
  have lr := Paired.length hr3
  unfold holdM at lr
  rw [hold_len] at lr
  have ea : rs[k]? = some (rs[k]'(by lia)) := List.getElem?_eq_getElem _
  generalize rs[k]'(by lia) = ra at ea
  obtain ⟨row, w1, w2⟩ := paired_at hr3 k ra ea
  have w1' : row = hrow h ks (c / h.c) (racksM h es) k := by
   unfold holdM holdG at w1
   rw [List.getElem?_map, List.getElem?_range hkm] at w1
   exact (Option.some.inj w1).symm
  have hat : atI (rs.map V.ref) (k : Int) = some (.ref ra) := atI_nat (by rw [List.getElem?_map, ea]; rfl)
  refine ⟨_, rfl, _, rfl, F, _, _, _, rfl, rfl, SqL.of (s13 _ _ eF), hat, (by show 0 ≤ sizeLine; decide), fun o ho => ?_⟩
  have s4 := same_new ho (.lst [])
  refine ⟨ra, o, row, [], rfl, rfl, SqL.of (s4 _ _ w2), SqL.of upd_same, _, rfl, ?_⟩
  refine ite2 (fun cc => ?_) (fun cc => ?_)
  ·refine ⟨_, rfl, s3.trans s4, ?_, _, rfl⟩
   have c' : freeB h ks c es k = true := by
    unfold freeB
    rw [← w1']
    exact cc
   rw [step, if_pos c']
  ·refine ⟨s3.trans s4, ?_, _, rfl⟩
   have c' : ¬ freeB h ks c es k = true := by
    unfold freeB
    rw [← w1']
    exact cc
   rw [step, if_neg c', List.append_nil]
 ·rintro acc σ H' ⟨s3, rfl, v, rfl⟩ l2 hl2
  have ln : (natV (openM h sh)).length = (openM h sh).length := by unfold natV; rw [List.length_map]
  rw [ln, List.take_length]
  have s13 := s1.trans (s2.trans s3)
  exact q l2 _ (s13.trans (same_new hl2 _)) (s13.free hl2) upd_same
end
theorem ixN_in {n : Nat} {i : Int} (h0 : 0 ≤ i) (h1 : i < n) : ixN n i = some i.toNat := by
 unfold ixN
 rw [if_pos h0, if_pos h1]
theorem set_range {α : Type} {n j : Nat} {v : α} {f : Nat → α} : ((List.range n).map f).set j v = (List.range n).map fun r => if r = j then v else f r := by
 refine List.ext_getElem? fun r => ?_
 rw [List.getElem?_set, List.getElem?_map, List.getElem?_map]
 by_cases c : j = r
 ·subst c
  rw [if_pos rfl]
  rw [List.length_map, List.length_range]
  by_cases d : j < n
  ·rw [if_pos d, List.getElem?_range d]
   simp
  ·rw [if_neg d, List.getElem?_eq_none (by rw [List.length_range]; lia)]
   rfl
 ·rw [if_neg c]
  by_cases d : r < n
  ·rw [List.getElem?_range d]
   simp [Ne.symm c]
  ·rw [List.getElem?_eq_none (by rw [List.length_range]; lia)]
   rfl
def cntK (ks : List Call) (r : Nat) : Nat := (ks.filter fun k => decide (k.k = (r : Int))).length
def loadsM (h : Hall) (ks : List Call) : List Int := (List.range h.m.toNat).map fun r => ((cntK ks r : Nat) : Int)
theorem cntK_snoc (ks : List Call) (k : Call) (r : Nat) : cntK (ks ++ [k]) r = cntK ks r + (if k.k = (r : Int) then 1 else 0) := by
 unfold cntK
 rw [List.filter_append, List.length_append]
 by_cases c : k.k = (r : Int)
 ·rw [if_pos c]
  simp [c]
 ·rw [if_neg c]
  simp [c]
theorem loads_len (h : Hall) (ks : List Call) : (loadsM h ks).length = h.m.toNat := by unfold loadsM; rw [List.length_map, List.length_range]
def spLoads (K : PySem.W.Frag) : Sp := fun vs H Q _ => ∃ (a b : Addr) (h : Hall) (as : List Addr) (ks : List Call), vs = [.ref a, .ref b] ∧ SqT K H a (h.row.map V.int) ∧ h.Ok ∧ SqL K H b (as.map V.ref) ∧ CallsAt H as ks ∧ (∀ k ∈ ks, k.In h) ∧ ks.length ≤ 63 ∧
 ∀ (l : Addr) (H' : Hp), Same H H' → H l = none → H' l = some (.lst ((loadsM h ks).map V.int)) → Q (.ref l) H'
theorem rep_zero (n : Nat) : (List.replicate n [V.int 0]).flatten = (List.range n).map fun (_ : Nat) => V.int 0 := by
 induction n with
 | zero => rfl
 | succ n ih =>
  rw [List.range_succ, List.map_append, List.replicate_succ', List.flatten_append, ih]
  rfl
section
variable {P : Program} {w : World} {K : PySem.W.Frag} {mg : Str → Option Value} {base : Heap}
theorem sc_loads : FnScope ["hall", "calls", "found", "call"] ["hall", "calls"] (defScope (top 17)) := ⟨rfl, rfl, rfl, by decide +kernel, rfl, by decide +kernel, by decide +kernel⟩
theorem ok_loads (T : Txt K mg) (D : Def K mg "loads" (top 17) ["hall", "calls"]) : Callee P w K mg base 1 "loads" ["hall", "calls"] (spLoads K) := by
 refine D.ok sc_loads (fun vs H Q E h => ?_) (fun f cdv A outer s H vs Q E hr h => ?_)
 ·obtain ⟨a, b, h, as, ks, rfl, _⟩ := h
  rfl
 obtain ⟨a, b, h, as, ks, rfl, hH, ok, hB, hC, hin, h63, q⟩ := h
 have o3 := ok.m
 refine ⟨_, (pss_cons (ps_set (i := 2) sc_loads.nd rfl (Or.inl rfl) (pe_op op_rep (pe_lst (pa_cons pe_int pa_nil st_const)) (pe_ix (ix_tupK K) (pv 0) pe_int (fun _ _ => rfl))))
  (pss_cons (ps_for PassesOwn.never rfl (pi_listK K (pv 1)) (pg_name (i := 3) sc_loads.nd rfl (Or.inl rfl))
  (pss_one (ps_augS (pv 2) (pe_ix (ix_tupK K) (pv 3) pe_int (fun _ _ => rfl)) (get_listK K) pe_int ipR_add set_list)))
  (pss_one (ps_ret (pv 2))))), ?_⟩
 refine ⟨(by show 1 ≤ sizeLine; decide), fun l0 hl0 => ?_⟩
 have s0 := same_new hl0 (.lst [.int 0])
 have e0 := upd_same (H := H) (a := l0) (o := .lst [.int 0])
 generalize upd H l0 (.lst [.int 0]) = H0 at s0 e0 ⊢
 refine ⟨_, rfl, a, _, _, _, rfl, rfl, Same.seqT s0 hH, rfl, l0, h.m, _, rfl, rfl, e0, by lia, by lia, Nat.le_of_lt (small1000 (by show 1 * h.m.toNat ≤ 1000; lia)), fun l hl => ?_⟩
 have start : (List.replicate h.m.toNat [V.int 0]).flatten = (loadsM h (ks.take 0)).map V.int := by
  rw [List.take_zero, rep_zero]
  unfold loadsM
  rw [List.map_map]
  rfl
 rw [start]
 have hlH : H l = none := s0.free hl
 refine ⟨_, rfl, b, rfl, ⟨_, (s0.trans (same_new hl _)).seq hB⟩, ?_⟩
 refine for_list (xs := as.map V.ref) (fun i σ H' => Same H H' ∧ H' l = some (.lst ((loadsM h (ks.take i)).map V.int)) ∧ ∃ v3, σ = [some (.ref a), some (.ref b), some (.ref l), v3]) ⟨s0.trans (same_new hl _), upd_same, none, rfl⟩ (fun i σ H' _ g => g.1.seq hB) ?_ ?_
 ·rintro i x σ H' hx ⟨s1, e1, v3, rfl⟩
  rw [List.getElem?_map] at hx
  obtain ⟨p, hp, rfl⟩ := Option.map_eq_some_iff.mp hx
  obtain ⟨k, hk, e, ee, ep⟩ := paired_at hC i p hp
  have hkI := hin k (List.mem_of_getElem? hk)
  have ep1 := s1 _ _ ep
  have k2 := hkI.k
  obtain ⟨n, hn⟩ : ∃ n : Nat, k.k = (n : Int) := ⟨k.k.toNat, by lia⟩
  have hn1 : n < h.m.toNat := by lia
  have at1 : ((loadsM h (ks.take i)).map V.int)[k.k.toNat]? = some (V.int ((cntK (ks.take i) n : Nat) : Int)) := by
   unfold loadsM
   rw [hn, Int.toNat_natCast, List.getElem?_map, List.getElem?_map, List.getElem?_range hn1]
   rfl
  refine ⟨_, rfl, _, rfl, p, _, _, _, rfl, rfl, SqT.of ep1, rfl, l, _, k.k, _, rfl, rfl, SqL.of e1, k2.1, at1, ?_⟩
  refine ⟨_, _, rfl, rfl, l, _, k.k, _, rfl, rfl, e1, ixN_in k2.1 (by rw [List.length_map, loads_len]; lia), ?_⟩
  refine ⟨Same.put s1 hlH, ?_, _, rfl⟩
  rw [upd_same]
  congr 2
  have tk : ks.take (i + 1) = ks.take i ++ [k] := by rw [List.take_succ, hk]; rfl
  dsimp only
  unfold loadsM
  rw [List.map_map, List.map_map, set_range]
  refine List.map_congr_left fun r hr => ?_
  rw [hn, Int.toNat_natCast]
  show (if r = n then _ else V.int ((cntK (ks.take i) r : Nat) : Int)) = V.int ((cntK (ks.take (i + 1)) r : Nat) : Int)
  rw [tk, cntK_snoc]
  by_cases c : r = n
  ·subst c
   rw [if_pos rfl, if_pos hn]
   rfl
  ·rw [if_neg c, if_neg (fun z => c (by lia)), Nat.add_zero]
 ·rintro σ H' ⟨s1, e1, v3, rfl⟩
  have hl2 : ks.take (as.map V.ref).length = ks := by rw [List.length_map, Paired.length hC, List.take_length]
  rw [hl2] at e1
  exact ⟨_, rfl, q l H' s1 hlH e1⟩
end
def lamQ (x : Str) : Str := x ++ ".<locals>." ++ "<lambda>"
theorem tab_same {H H' : Hp} {P : Addr} {pos : Pos} {q : Str} (s : Same H H') (h : TabIs H P pos q) : TabIs H' P pos q := by
 rcases h with h | ⟨c, h1, h2⟩
 ·exact .inl (s _ _ h)
 ·exact .inr ⟨c, s _ _ h1, s _ _ h2⟩
theorem tab_but {H H' : Hp} {P P' : Addr} {pos : Pos} {q : Str} (s : ButT P' H H') (n : P ≠ P') (h' : ∃ ps, H P' = some (.tbl ps)) (h : TabIs H P pos q) : TabIs H' P pos q := by
 rcases h with h | ⟨c, h1, h2⟩
 ·exact .inl (s _ _ n h)
 ·refine .inr ⟨c, s _ _ n h1, s _ _ (fun z => ?_) h2⟩
  obtain ⟨ps, h'⟩ := h'
  rw [z, h'] at h2
  cases h2
theorem tab_tbl {H : Hp} {P : Addr} {pos : Pos} {q : Str} (h : TabIs H P pos q) : ∃ ps, H P = some (.tbl ps) := by
 rcases h with h | ⟨c, h1, _⟩
 ·exact ⟨_, h⟩
 ·exact ⟨_, h1⟩
def loadAt (ks : List Call) (x : Int) : Int := ((cntK ks x.toNat : Nat) : Int)
def posF : Pos := (⟨51, 29, 51, 46⟩ : Pos)
def posE : Pos := (⟨56, 29, 56, 46⟩ : Pos)
def spFullest (K : PySem.W.Frag) (T : Addr) (best : (Nat → Int) → Nat → Nat → Prop) (pos : Pos) (q : Str) : Sp := fun vs H Q _ => ∃ (v0 : V) (a b fl : Addr) (h : Hall) (as : List Addr) (ks : List Call) (xs : List Int), vs = [v0, .ref a, .ref b, .ref fl] ∧ SqT K H a (h.row.map V.int) ∧ h.Ok ∧ SqL K H b (as.map V.ref) ∧ CallsAt H as ks ∧ (∀ k ∈ ks, k.In h) ∧ ks.length ≤ 63 ∧ H fl = some (.lst (xs.map V.int)) ∧ xs ≠ [] ∧ (∀ x ∈ xs, 0 ≤ x ∧ x < h.m) ∧ TabIs H T pos q ∧
 ∀ (i : Nat) (x : Int) (H' : Hp), xs[i]? = some x → best (fun j => loadAt ks (xs.getD j 0)) xs.length i → ButT T H H' → TabIs H' T pos q → Q (.int x) H'
theorem but_same {P : Addr} {H H1 H2 : Hp} (s : Same H H1) (b : ButT P H1 H2) : ButT P H H2 := fun x u n e => b x u n (s _ _ e)
section
variable {P : Program} {w : World} {K : PySem.W.Frag} {mg : Str → Option Value} {base : Heap} {C_Rule C_Fullest C_Emptiest C_Round C_Told : Addr} {T_Fullest_choose T_Emptiest_choose : Addr}
theorem sc_Fullest_choose : FnScope ["self", "hall", "calls", "free", "load"] ["self", "hall", "calls", "free"] (defScope (inClass (top 20) 0)) := ⟨rfl, rfl, rfl, by decide +kernel, rfl, by decide +kernel, by decide +kernel⟩
theorem ok_Fullest (T : Txt K mg) (hB : BMain mg base) (C_loads : Callee P w K mg base 1 "loads" ["hall", "calls"] (spLoads K)) (D : DefMT K C_Fullest "choose" "Fullest.choose" (inClass (top 20) 0) ["self", "hall", "calls", "free"] T_Fullest_choose) : CalleeM P w K mg base 2 C_Fullest "choose" ["self", "hall", "calls", "free"] [] noKw (spFullest K T_Fullest_choose BestMax posF (lamQ "Fullest.choose")) := by
 refine D.ok sc_Fullest_choose (fun vs H Q E h => ?_) (fun f c A outer s H vs Q E hC hr h => ?_)
 ·obtain ⟨v0, a, b, fl, h, as, ks, xs, rfl, _⟩ := h
  rfl
 obtain ⟨v0, a, b, fl, h, as, ks, xs, rfl, hH, ok, hB', hCa, hin, h63, hfl, ne, hx, tab, q⟩ := h
 have om := ok.m
 refine ⟨_, (pss_cons (ps_set (i := 4) sc_Fullest_choose.nd rfl (Or.inr rfl) (pe_fn C_loads hr rfl (pa_cons (pv 1) (pa_cons (pv 2) pa_nil st_name) st_name)))
  (pss_one (ps_ret (pe_maxLam K [(4, "load")] hr rfl rfl T.m_max rfl hC hB (show LamScope ["self", "hall", "calls", "free", "load"] (defScope (inClass (top 20) 0)) _ "k" [(4, "load")] from ⟨rfl, rfl, rfl, by decide +kernel, rfl, by decide +kernel, by decide +kernel⟩) (pa_cons (pv 3) pa_nil st_name) (fun q cl f c A s H => (pe_ix (ix_listK K) (pv 1) (pv 0) (fun _ _ => rfl))))))), ?_⟩
 refine ⟨_, rfl, _, rfl, a, b, h, as, ks, rfl, hH, ok, hB', hCa, hin, h63, fun l H1 s1 hl0 el => ?_⟩
 refine ⟨_, rfl, fl, xs.map V.int, rfl, fun z => ne (List.map_eq_nil_iff.mp z), tab_same s1 tab, fun H2 c' but has => ?_⟩
 have nt : ∀ b xs, H1 b = some (.lst xs) → H2 b = some (.lst xs) := fun b xs e => but _ _ (fun z => by
  obtain ⟨ps, e'⟩ := tab_tbl (tab_same s1 tab)
  rw [z, e'] at e
  cases e) e
 refine ⟨SqL.of (nt _ _ (s1 _ _ hfl)), fun j => loadAt ks (xs.getD j 0), fun i x hxi => ?_, fun i x hxi best => ?_⟩
 ·rw [List.getElem?_map] at hxi
  obtain ⟨n, hn, rfl⟩ := Option.map_eq_some_iff.mp hxi
  have hb := hx n (List.mem_of_getElem? hn)
  have e1 : xs.getD i 0 = n := by rw [List.getD, hn]; rfl
  obtain ⟨m, rfl⟩ := Int.eq_ofNat_of_zero_le hb.1
  have at1 : atI ((loadsM h ks).map V.int) ((m : Nat) : Int) = some (.int (loadAt ks ((m : Nat) : Int))) := atI_nat (by
   unfold loadsM loadAt
   rw [List.getElem?_map, List.getElem?_map, List.getElem?_range (by lia)]
   rfl)
  refine ⟨_, rfl, _, rfl, l, _, _, _, rfl, rfl, SqL.of (nt _ _ el), at1, rfl, ?_⟩
  show V.int _ = V.int (loadAt ks (xs.getD i 0))
  rw [e1]
 ·rw [List.getElem?_map] at hxi
  obtain ⟨n, hn, rfl⟩ := Option.map_eq_some_iff.mp hxi
  rw [List.length_map] at best
  exact q i n H2 hn best (but_same s1 but) (.inr ⟨c', has⟩)
theorem sc_Emptiest_choose : FnScope ["self", "hall", "calls", "free", "load"] ["self", "hall", "calls", "free"] (defScope (inClass (top 21) 0)) := ⟨rfl, rfl, rfl, by decide +kernel, rfl, by decide +kernel, by decide +kernel⟩
theorem ok_Emptiest (T : Txt K mg) (hB : BMain mg base) (C_loads : Callee P w K mg base 1 "loads" ["hall", "calls"] (spLoads K)) (D : DefMT K C_Emptiest "choose" "Emptiest.choose" (inClass (top 21) 0) ["self", "hall", "calls", "free"] T_Emptiest_choose) : CalleeM P w K mg base 2 C_Emptiest "choose" ["self", "hall", "calls", "free"] [] noKw (spFullest K T_Emptiest_choose BestMin posE (lamQ "Emptiest.choose")) := by
 refine D.ok sc_Emptiest_choose (fun vs H Q E h => ?_) (fun f c A outer s H vs Q E hC hr h => ?_)
 ·obtain ⟨v0, a, b, fl, h, as, ks, xs, rfl, _⟩ := h
  rfl
 obtain ⟨v0, a, b, fl, h, as, ks, xs, rfl, hH, ok, hB', hCa, hin, h63, hfl, ne, hx, tab, q⟩ := h
 have om := ok.m
 refine ⟨_, (pss_cons (ps_set (i := 4) sc_Emptiest_choose.nd rfl (Or.inr rfl) (pe_fn C_loads hr rfl (pa_cons (pv 1) (pa_cons (pv 2) pa_nil st_name) st_name)))
  (pss_one (ps_ret (pe_minLam K [(4, "load")] hr rfl rfl T.m_min rfl hC hB (show LamScope ["self", "hall", "calls", "free", "load"] (defScope (inClass (top 21) 0)) _ "k" [(4, "load")] from ⟨rfl, rfl, rfl, by decide +kernel, rfl, by decide +kernel, by decide +kernel⟩) (pa_cons (pv 3) pa_nil st_name) (fun q cl f c A s H => (pe_ix (ix_listK K) (pv 1) (pv 0) (fun _ _ => rfl))))))), ?_⟩
 refine ⟨_, rfl, _, rfl, a, b, h, as, ks, rfl, hH, ok, hB', hCa, hin, h63, fun l H1 s1 hl0 el => ?_⟩
 refine ⟨_, rfl, fl, xs.map V.int, rfl, fun z => ne (List.map_eq_nil_iff.mp z), tab_same s1 tab, fun H2 c' but has => ?_⟩
 have nt : ∀ b xs, H1 b = some (.lst xs) → H2 b = some (.lst xs) := fun b xs e => but _ _ (fun z => by
  obtain ⟨ps, e'⟩ := tab_tbl (tab_same s1 tab)
  rw [z, e'] at e
  cases e) e
 refine ⟨SqL.of (nt _ _ (s1 _ _ hfl)), fun j => loadAt ks (xs.getD j 0), fun i x hxi => ?_, fun i x hxi best => ?_⟩
 ·rw [List.getElem?_map] at hxi
  obtain ⟨n, hn, rfl⟩ := Option.map_eq_some_iff.mp hxi
  have hb := hx n (List.mem_of_getElem? hn)
  have e1 : xs.getD i 0 = n := by rw [List.getD, hn]; rfl
  obtain ⟨m, rfl⟩ := Int.eq_ofNat_of_zero_le hb.1
  have at1 : atI ((loadsM h ks).map V.int) ((m : Nat) : Int) = some (.int (loadAt ks ((m : Nat) : Int))) := atI_nat (by
   unfold loadsM loadAt
   rw [List.getElem?_map, List.getElem?_map, List.getElem?_range (by lia)]
   rfl)
  refine ⟨_, rfl, _, rfl, l, _, _, _, rfl, rfl, SqL.of (nt _ _ el), at1, rfl, ?_⟩
  show V.int _ = V.int (loadAt ks (xs.getD i 0))
  rw [e1]
 ·rw [List.getElem?_map] at hxi
  obtain ⟨n, hn, rfl⟩ := Option.map_eq_some_iff.mp hxi
  rw [List.length_map] at best
  exact q i n H2 hn best (but_same s1 but) (.inr ⟨c', has⟩)
end
def goOn (n : Int) (xs : List Int) : List Int := xs.filter fun k => decide (n ≤ k)
def chosenM (n : Int) (xs : List Int) : Int := (goOn n xs ++ xs).headD 0
def startF (n : Int) : List (Str × V) := [("start", .int n)]
theorem startF_at (n : Int) : (startF n).lookup ("start" : Str) = some (.int n) := rfl
theorem startF_put (n m : Int) : putF "start" (.int m) (startF n) = startF m := by
 unfold startF putF
 rw [if_pos rfl]
def spInit (C : Addr) : Sp := fun vs H Q _ => ∃ (p dx : Addr) (n : Int), vs = [.ref p, .int n] ∧ H p = some (.ins C dx []) ∧ Q .non (upd H p (.ins C dx (startF n)))
def spChoose (K : PySem.W.Frag) (C : Addr) : Sp := fun vs H Q _ => ∃ (p dx fl : Addr) (v1 v2 : V) (n : Int) (xs : List Int), vs = [.ref p, v1, v2, .ref fl] ∧ H p = some (.ins C dx (startF n)) ∧ H fl = some (.lst (xs.map V.int)) ∧ xs ≠ [] ∧ xs.length ≤ 24 ∧
 ∀ H', SameX p H H' → H' p = some (.ins C dx (startF (chosenM n xs + 1))) → Q (.int (chosenM n xs)) H'
theorem filter_go {n : Int} {xs : List Int} {i : Nat} {x : Int} (h : xs[i]? = some x) : (xs.take (i + 1)).filter (fun k => decide (n ≤ k)) = (xs.take i).filter (fun k => decide (n ≤ k)) ++ (if n ≤ x then [x] else []) := by
 rw [List.take_succ, h, List.filter_append]
 congr 1
 show List.filter _ [x] = _
 rw [List.filter_cons]
 by_cases c : n ≤ x
 ·rw [if_pos (decide_eq_true c), if_pos c]
  rfl
 ·rw [if_neg (fun z => c (of_decide_eq_true z)), if_neg c]
  rfl
section
variable {P : Program} {w : World} {K : PySem.W.Frag} {mg : Str → Option Value} {base : Heap} {C_Rule C_Fullest C_Emptiest C_Round C_Told : Addr}
theorem sc_Round___init__ : FnScope ["self", "start"] ["self", "start"] (defScope (inClass (top 22) 0)) := ⟨rfl, rfl, rfl, by decide +kernel, rfl, by decide +kernel, by decide +kernel⟩
theorem ok_init (T : Txt K mg) (Z : TxtC K mg C_Rule C_Fullest C_Emptiest C_Round C_Told) (D : DefM K C_Round "__init__" "Round.__init__" (inClass (top 22) 0) ["self", "start"] [.int 0] (KwOne K "start")) : CalleeM P w K mg base 1 C_Round "__init__" ["self", "start"] [.int 0] (KwOne K "start") (spInit C_Round) := by
 refine D.ok sc_Round___init__ (fun vs H Q E h => ?_) (fun f cdv A outer s H vs Q E hr h => ?_)
 ·obtain ⟨p, dx, n, rfl, _⟩ := h
  rfl
 obtain ⟨p, dx, n, rfl, hp, q⟩ := h
 refine ⟨_, (pss_one (ps_fld (pv 0) (pv 1) rfl)), ?_⟩
 exact ⟨_, rfl, _, rfl, p, C_Round, dx, _, rfl, hp, Z.cl_Round, Z.n_Round_start, (by show 0 < 1000; decide), q⟩
theorem sc_Round_choose : FnScope ["self", "hall", "calls", "free", "further", "chosen"] ["self", "hall", "calls", "free"] (defScope (inClass (top 22) 1)) := ⟨rfl, rfl, rfl, by decide +kernel, rfl, by decide +kernel, by decide +kernel⟩
theorem ok_choose (T : Txt K mg) (Z : TxtC K mg C_Rule C_Fullest C_Emptiest C_Round C_Told) (D : DefM K C_Round "choose" "Round.choose" (inClass (top 22) 1) ["self", "hall", "calls", "free"] [] noKw) : CalleeM P w K mg base 1 C_Round "choose" ["self", "hall", "calls", "free"] [] noKw (spChoose K C_Round) := by
 refine D.ok sc_Round_choose (fun vs H Q E h => ?_) (fun f cdv A outer s H vs Q E hr h => ?_)
 ·obtain ⟨p, dx, fl, v1, v2, n, xs, rfl, _⟩ := h
  rfl
 obtain ⟨p, dx, fl, v1, v2, n, xs, rfl, hp, hl, hne, h24, q⟩ := h
 refine ⟨_, (pss_cons (ps_comp (i := 4) (own := ["k"]) (fr := [(0, "self")]) rfl sc_Round_choose.nd rfl rfl (show CompScope ["self", "hall", "calls", "free", "further", "chosen"] (defScope (inClass (top 22) 1)) _ _ _ from ⟨rfl, by decide +kernel, by decide +kernel, by decide +kernel, by decide +kernel⟩) (pi_listK K (pv 3)) (fun cl C s H ex => ⟨(pg_name (i := 0) (show (["k", "self"] : List Str).Nodup from by decide +kernel) rfl (Or.inl rfl) (Or.inr rfl)), (pif_one (pt_cmpR op_ge (pv 0) (pe_fldK K (pv 1)) (nomark _))), (pv 0)⟩) rfl)
  (pss_cons (ps_set (i := 5) sc_Round_choose.nd rfl (Or.inl rfl) (pe_ifExp (pt_cmpR (op_neIK K (Room.units0 hr)) (pv 4) (pe_lst pa_nil) (nomark _)) (pe_ix (ix_listK K) (pv 4) pe_int (fun _ _ => rfl)) (pe_ix (ix_listK K) (pv 3) pe_int (fun _ _ => rfl))))
  (pss_cons (ps_fld (pv 0) (pe_op op_add (pv 5) pe_int) rfl)
  (pss_one (ps_ret (pv 5)))))), ?_⟩
 have ln : (xs.map V.int).length = xs.length := List.length_map _
 refine ⟨_, rfl, fl, rfl, ⟨_, SqL.of hl⟩, ?_⟩
 refine comp_list (xs := xs.map V.int) (fun i acc σ H' => H' = H ∧ acc = ((xs.take i).filter fun k => decide (n ≤ k)).map V.int ∧ ∃ v, σ = [v, some (.ref p)])
  ⟨rfl, rfl, none, rfl⟩ (Nat.le_of_lt (small1000 (by lia))) (fun i acc σ H' g => ?_) (fun i acc σ H' _ g => by rw [g.1]; exact SqL.of hl) ?_ ?_
 ·obtain ⟨_, rfl, _⟩ := g
  rw [List.length_map]
  exact Nat.le_trans (List.length_filter_le _ _) (by rw [List.length_take]; lia)
 ·rintro i y acc σ H' hy ⟨rfl, rfl, v, rfl⟩
  rw [List.getElem?_map] at hy
  obtain ⟨x, hx, rfl⟩ := Option.map_eq_some_iff.mp hy
  refine ⟨_, rfl, _, rfl, p, C_Round, dx, _, _, rfl, hp, Z.cl_Round, Z.n_Round_start, startF_at n, _, _, rfl, rfl, _, rfl, ?_⟩
  refine ite2 (fun c => ?_) (fun c => ?_)
  ·have c' : n ≤ x := of_decide_eq_true c
   refine ⟨_, rfl, rfl, ?_, _, rfl⟩
   rw [filter_go hx, if_pos c', List.map_append]
   rfl
  ·have c' : ¬ n ≤ x := fun z => c (decide_eq_true z)
   refine ⟨rfl, ?_, _, rfl⟩
   rw [filter_go hx, if_neg c', List.append_nil]
 rintro acc σ H' ⟨rfl, rfl, v, rfl⟩ l2 hl2
 rw [ln, List.take_length]
 have el2 := upd_same (H := H') (a := l2) (o := .lst ((goOn n xs).map V.int))
 have s1 := same_new hl2 (.lst ((goOn n xs).map V.int))
 unfold goOn at el2 s1
 generalize upd H' l2 _ = H1 at el2 s1 ⊢
 change H1 l2 = some (.lst ((goOn n xs).map V.int)) at el2
 refine ⟨_, rfl, (by show 0 ≤ sizeLine; decide), fun o ho => ?_⟩
 have eo := upd_same (H := H1) (a := o) (o := .lst [])
 have s2 := same_new ho (.lst [])
 generalize upd H1 o (.lst []) = H2 at eo s2 ⊢
 have s12 := s1.trans s2
 have hp2 := s12 _ _ hp
 refine ⟨l2, o, goOn n xs, [], rfl, rfl, SqL.of (s2 _ _ el2), SqL.of eo, _, rfl, ?_⟩
 have fin : ∀ c : Int, c = chosenM n xs → SameX p H' (upd H2 p (.ins C_Round dx (startF (c + 1)))) ∧ upd H2 p (.ins C_Round dx (startF (c + 1))) p = some (.ins C_Round dx (startF (chosenM n xs + 1))) := fun c e => by
  subst e
  exact ⟨fun b u hb z => by rw [upd_ne hb]; exact s12 _ _ z, upd_same⟩
 have lf : (startF n).length < 1000 := by show 1 < 1000; decide
 refine ite2 (fun c => ?_) (fun c => ?_)
 ·have c' : goOn n xs ≠ [] := by simpa using c
  obtain ⟨y, t, hy⟩ := List.exists_cons_of_ne_nil c'
  have ch : y = chosenM n xs := by unfold chosenM; rw [hy]; rfl
  rw [hy] at el2
  refine ⟨_, rfl, l2, _, _, _, rfl, rfl, SqL.of (s2 _ _ el2), (show atI ((y :: t).map V.int) 0 = some (.int y) from atI_nat (j := 0) rfl), ?_⟩
  refine ⟨_, rfl, _, _, rfl, rfl, _, rfl, p, C_Round, dx, _, rfl, hp2, Z.cl_Round, Z.n_Round_start, lf, ?_⟩
  rw [startF_put]
  refine ⟨_, rfl, ?_⟩
  obtain ⟨f1, f2⟩ := fin y ch
  have := q _ f1 f2
  rw [← ch] at this
  exact this
 ·have c' : goOn n xs = [] := by simpa using c
  obtain ⟨y, t, hy⟩ := List.exists_cons_of_ne_nil hne
  have ch : y = chosenM n xs := by unfold chosenM; rw [c', hy]; rfl
  have hl2' := s12 _ _ hl
  rw [hy] at hl2'
  refine ⟨_, rfl, fl, _, _, _, rfl, rfl, SqL.of hl2', (show atI ((y :: t).map V.int) 0 = some (.int y) from atI_nat (j := 0) rfl), ?_⟩
  refine ⟨_, rfl, _, _, rfl, rfl, _, rfl, p, C_Round, dx, _, rfl, hp2, Z.cl_Round, Z.n_Round_start, lf, ?_⟩
  rw [startF_put]
  refine ⟨_, rfl, ?_⟩
  obtain ⟨f1, f2⟩ := fin y ch
  have := q _ f1 f2
  rw [← ch] at this
  exact this
end
def toldM (ws xs : List Int) : Int := (ws.filter (fun k => decide (k ∈ xs)) ++ xs).headD 0
def spToldI (K : PySem.W.Frag) (C : Addr) : Sp := fun vs H Q _ => ∃ (p dx wl : Addr) (ws : List Int), vs = [.ref p, .ref wl] ∧ H p = some (.ins C dx []) ∧ H wl = some (.lst (ws.map V.int)) ∧ ∀ (rl : Addr) (H' : Hp), H rl = none → (∀ b u, b ≠ p → H b = some u → H' b = some u) → H' rl = some (.lst (ws.map V.int)) → H' p = some (.ins C dx [("racks", .ref rl)]) → Q .non H'
def spToldC (K : PySem.W.Frag) (C : Addr) : Sp := fun vs H Q _ => ∃ (p dx rl fl : Addr) (v1 v2 : V) (ws xs : List Int), vs = [.ref p, v1, v2, .ref fl] ∧ H p = some (.ins C dx [("racks", .ref rl)]) ∧ H rl = some (.lst (ws.map V.int)) ∧ H fl = some (.lst (xs.map V.int)) ∧ xs ≠ [] ∧ Q (.int (toldM ws xs)) H
def spFirst21 : Sp := fun vs H Q _ => ∃ (v0 v1 v2 : V) (fl : Addr) (xs : List Int), vs = [v0, v1, v2, .ref fl] ∧ H fl = some (.lst (xs.map V.int)) ∧ xs ≠ [] ∧ Q (.int (xs.headD 0)) H
section
variable {P : Program} {w : World} {K : PySem.W.Frag} {mg : Str → Option Value} {base : Heap} {C_Rule C_Fullest C_Emptiest C_Round C_Told : Addr}
theorem sc_Rule_choose : FnScope ["self", "hall", "calls", "free"] ["self", "hall", "calls", "free"] (defScope (inClass (top 19) 0)) := ⟨rfl, rfl, rfl, by decide +kernel, rfl, by decide +kernel, by decide +kernel⟩
theorem ok_first21 (T : Txt K mg) (Z : TxtC K mg C_Rule C_Fullest C_Emptiest C_Round C_Told) (D : DefM K C_Rule "choose" "Rule.choose" (inClass (top 19) 0) ["self", "hall", "calls", "free"] [] noKw) : CalleeM P w K mg base 1 C_Rule "choose" ["self", "hall", "calls", "free"] [] noKw spFirst21 := by
 refine D.ok sc_Rule_choose (fun vs H Q E h => ?_) (fun f cdv A outer s H vs Q E hr h => ?_)
 ·obtain ⟨v0, v1, v2, fl, xs, rfl, _⟩ := h
  rfl
 obtain ⟨v0, v1, v2, fl, xs, rfl, hl, ne, q⟩ := h
 obtain ⟨x, t, rfl⟩ := List.exists_cons_of_ne_nil ne
 refine ⟨_, (pss_one (ps_ret (pe_ix (ix_listK K) (pv 3) pe_int (fun _ _ => rfl)))), ?_⟩
 exact ⟨_, rfl, fl, _, _, _, rfl, rfl, SqL.of hl, (show atI _ ((0 : Nat) : Int) = _ from atI_nat rfl), q⟩
theorem sc_Told___init__ : FnScope ["self", "listed"] ["self", "listed"] (defScope (inClass (top 23) 0)) := ⟨rfl, rfl, rfl, by decide +kernel, rfl, by decide +kernel, by decide +kernel⟩
theorem ok_toldI (T : Txt K mg) (Z : TxtC K mg C_Rule C_Fullest C_Emptiest C_Round C_Told) (D : DefM K C_Told "__init__" "Told.__init__" (inClass (top 23) 0) ["self", "listed"] [] noKw) : CalleeM P w K mg base 1 C_Told "__init__" ["self", "listed"] [] noKw (spToldI K C_Told) := by
 refine D.ok sc_Told___init__ (fun vs H Q E h => ?_) (fun f cdv A outer s H vs Q E hr h => ?_)
 ·obtain ⟨p, dx, wl, ws, rfl, _⟩ := h
  rfl
 obtain ⟨p, dx, wl, ws, rfl, hp, hw, q⟩ := h
 refine ⟨_, (pss_one (ps_fld (pv 0) (pe_callTy (call_listK K) rfl T.m_list boot_list (pa_cons (pv 1) pa_nil st_name)) rfl)), ?_⟩
 refine ⟨_, rfl, wl, _, rfl, .inl (SqL.of hw), fun rl hrl => ?_⟩
 have npr : p ≠ rl := fun z => by rw [← z, hp] at hrl; cases hrl
 refine ⟨_, rfl, p, C_Told, dx, _, rfl, by rw [upd_ne npr]; exact hp, Z.cl_Told, Z.n_Told_racks, (by show 0 < 1000; decide), ?_⟩
 refine q rl _ hrl (fun b u nb z => ?_) ?_ upd_same
 ·rw [upd_ne nb, upd_ne (ne_of_none z hrl)]
  exact z
 ·rw [upd_ne (Ne.symm npr), upd_same]
theorem sc_Told_choose : FnScope ["self", "hall", "calls", "free", "k"] ["self", "hall", "calls", "free"] (defScope (inClass (top 23) 1)) := ⟨rfl, rfl, rfl, by decide +kernel, rfl, by decide +kernel, by decide +kernel⟩
theorem ok_toldC (T : Txt K mg) (Z : TxtC K mg C_Rule C_Fullest C_Emptiest C_Round C_Told) (D : DefM K C_Told "choose" "Told.choose" (inClass (top 23) 1) ["self", "hall", "calls", "free"] [] noKw) : CalleeM P w K mg base 1 C_Told "choose" ["self", "hall", "calls", "free"] [] noKw (spToldC K C_Told) := by
 refine D.ok sc_Told_choose (fun vs H Q E h => ?_) (fun f cdv A outer s H vs Q E hr h => ?_)
 ·obtain ⟨p, dx, rl, fl, v1, v2, ws, xs, rfl, _⟩ := h
  rfl
 obtain ⟨p, dx, rl, fl, v1, v2, ws, xs, rfl, hp, hw, hf, ne, q⟩ := h
 refine ⟨_, (pss_cons (ps_for PassesOwn.never rfl (pi_listK K (pe_fldK K (pv 0))) (pg_name (i := 4) sc_Told_choose.nd rfl (Or.inl rfl))
  (pss_one (ps_if (pt_cmpR (op_inK K) (pv 4) (pv 3) (by with_unfolding_all rfl)) (pss_one (ps_ret (pv 4))) pss_nil)))
  (pss_one (ps_ret (pe_ix (ix_listK K) (pv 3) pe_int (fun _ _ => rfl))))), ?_⟩
 refine ⟨_, rfl, p, C_Told, dx, _, _, rfl, hp, Z.cl_Told, Z.n_Told_racks, rfl, rl, rfl, ⟨_, SqL.of hw⟩, ?_⟩
 refine for_list (xs := ws.map V.int) (fun i σ G => G = H ∧ (ws.take i).filter (fun k => decide (k ∈ xs)) = [] ∧ ∃ v4, σ = [some (.ref p), some v1, some v2, some (.ref fl), v4])
  ⟨rfl, rfl, none, rfl⟩ (fun i σ G _ g => by rw [g.1]; exact SqL.of hw) ?_ ?_
 ·rintro i y σ G hy ⟨rfl, no, v4, rfl⟩
  rw [List.getElem?_map] at hy
  obtain ⟨k, hk, rfl⟩ := Option.map_eq_some_iff.mp hy
  refine ⟨_, rfl, _, rfl, fl, _, rfl, .inl (SqL.of hf), rfl, int_flat xs, _, rfl, ?_⟩
  refine ite2 (fun c0 => ?_) (fun c0 => ?_)
  ·have c : inV (.int k) (xs.map V.int) = true := c0
   rw [int_in] at c
   have e : toldM ws xs = k := by
    unfold toldM
    have : ws = ws.take i ++ k :: ws.drop (i + 1) := by
     have h1 := (List.getElem?_eq_some_iff.mp hk)
     rw [← h1.2, ← List.drop_eq_getElem_cons h1.1, List.take_append_drop]
    rw [this, List.filter_append, no, List.filter_cons, if_pos c]
    rfl
   rw [e] at q
   exact ⟨_, rfl, q⟩
  ·have c : ¬ inV (.int k) (xs.map V.int) = true := c0
   rw [int_in] at c
   refine ⟨rfl, ?_, _, rfl⟩
   rw [List.take_add_one, hk, List.filter_append, no, List.nil_append]
   show List.filter (fun k => decide (k ∈ xs)) [k] = []
   rw [List.filter_cons, if_neg c]
   rfl
 ·rintro σ G ⟨rfl, no, v4, rfl⟩
  rw [List.length_map, List.take_length] at no
  obtain ⟨x, t, rfl⟩ := List.exists_cons_of_ne_nil ne
  have e : toldM ws (x :: t) = x := by
   unfold toldM
   rw [no]
   rfl
  rw [e] at q
  exact ⟨_, rfl, fl, _, _, _, rfl, rfl, SqL.of hf, (show atI _ ((0 : Nat) : Int) = _ from atI_nat rfl), q⟩
end
structure Tabs (T1 T2 : Addr) (H : Hp) : Prop where
 ne : T1 ≠ T2
 f : TabIs H T1 posF (lamQ "Fullest.choose")
 e : TabIs H T2 posE (lamQ "Emptiest.choose")
theorem Tabs.same {T1 T2 : Addr} {H H' : Hp} (t : Tabs T1 T2 H) (s : Same H H') : Tabs T1 T2 H' := ⟨t.ne, tab_same s t.f, tab_same s t.e⟩
theorem Tabs.no {T1 T2 : Addr} {H : Hp} (t : Tabs T1 T2 H) {b : Addr} {u : HO} (e : H b = some u) (n : ∀ ps, u ≠ .tbl ps) : b ≠ T1 ∧ b ≠ T2 := by
 refine ⟨fun z => ?_, fun z => ?_⟩
 ·obtain ⟨ps, h⟩ := tab_tbl t.f
  rw [z, h] at e
  cases e
  exact n _ rfl
 ·obtain ⟨ps, h⟩ := tab_tbl t.e
  rw [z, h] at e
  cases e
  exact n _ rfl
theorem plain_same {H : Hp} {C r dx : Addr} (hr : H r = none) (hd : H dx = none) : Same H (upd (upd H dx (.own r)) r (.ins C dx [])) := fun b u z => by rw [upd_ne (ne_of_none z hr), upd_ne (ne_of_none z hd)]; exact z
theorem refs_self (as : List Addr) : (as.map V.ref).all selfV = true := by
 rw [List.all_eq_true]
 intro x hx
 obtain ⟨c, _, rfl⟩ := List.mem_map.mp hx
 rfl
theorem sorted_calls {K : PySem.W.Frag} {H : Hp} {l : Addr} {as : List Addr} {ks : List Call} {Q : VK} (el : H l = some (.lst (as.map V.ref))) (hC : CallsAt H as ks) (h64 : ks.length < 64) (ne : ks.Pairwise fun k k' => k.c ≠ k'.c)
  (q : ∀ l2 as' ks', H l2 = none → CallsAt H as' ks' → ks'.Perm ks → ks'.Pairwise (fun k k' => k.c < k'.c) → Q (.ref l2) (upd H l2 (.lst (as'.map V.ref)))) : rSortedT K [.ref l] H Q := by
 obtain ⟨its, t1, t2⟩ := calls_items (K := K) hC
 have la := Paired.length hC
 have lk := Paired.length t2
 have gd : ∀ (i : Nat) k, ks[i]? = some k → ks.getD i ⟨0, [], 0⟩ = k := fun i k e => by rw [List.getD, e]; rfl
 have uniq : ∀ (i j : Nat) k k', ks[i]? = some k → ks[j]? = some k' → k.c = k'.c → i = j := fun i j k k' e1 e2 hc => by
  obtain ⟨q1, z1⟩ := List.getElem?_eq_some_iff.mp e1
  obtain ⟨q2, z2⟩ := List.getElem?_eq_some_iff.mp e2
  rcases Nat.lt_trichotomy i j with hij | hij | hij
  ·have := (List.pairwise_iff_getElem.mp ne) i j q1 q2 hij
   rw [z1, z2] at this
   exact absurd hc this
  ·exact hij
  ·have := (List.pairwise_iff_getElem.mp ne) j i q2 q1 hij
   rw [z1, z2] at this
   exact absurd hc.symm this
 have back : ∀ (i : Nat) x, its[i]? = some x → ∃ k e, ks[i]? = some k ∧ x = [V.int k.c, V.ref e, V.int k.k] := fun i x hx => by
  have hi := (List.getElem?_eq_some_iff.mp hx).1
  have ek : ks[i]? = some (ks[i]'(by lia)) := List.getElem?_eq_getElem (by lia)
  obtain ⟨x', e1, e, e2⟩ := paired_at t2 i _ ek
  rw [hx] at e1
  cases e1
  exact ⟨_, e, ek, e2⟩
 refine ⟨l, as, its, fun i => (ks.getD i ⟨0, [], 0⟩).c, rfl, SqL.of el, t1, by lia, fun i j x y hx hy => ?_, fun pq pm up l2 hl2 => ?_⟩
 ·obtain ⟨k, e, e1, rfl⟩ := back i x hx
  obtain ⟨k', e', e2, rfl⟩ := back j y hy
  show (if k.c = k'.c then lexD [V.ref e, V.int k.k] [V.ref e', V.int k'.k] else some (decide (k.c < k'.c))) = some (decide ((ks.getD i ⟨0, [], 0⟩).c < (ks.getD j ⟨0, [], 0⟩).c))
  rw [gd i k e1, gd j k' e2]
  by_cases c : k.c = k'.c
  ·obtain rfl := uniq i j k k' e1 e2 c
   rw [hx] at hy
   rw [e1] at e2
   cases e2
   cases hy
   rw [if_pos rfl]
   show (if e = e then (if k.k = k.k then lexD [] [] else some (decide (k.k < k.k))) else none) = _
   rw [if_pos rfl, if_pos rfl, decide_eq_false (Int.lt_irrefl _)]
   rfl
  ·rw [if_neg c]
 ·rw [la] at pm up
  obtain ⟨g1, g2⟩ := sort_out (xs := ks) pm up ⟨0, [], 0⟩ Call.c fun i _ => rfl
  have hin : ∀ i ∈ pq.toList, i < ks.length := fun i hi => by
   have := (Array.Perm.mem_iff pm (a := i)).mp (by simpa using hi)
   simpa using this
  have cs := paired_pick 0 ⟨0, [], 0⟩ hC pq.toList hin
  generalize (pq.toList.map fun i => ks.getD i ⟨0, [], 0⟩) = ks' at g1 g2 cs
  have ne' : ks'.Pairwise fun k k' => k.c ≠ k'.c := (List.Perm.pairwise_iff (fun q => Ne.symm q) g1).mpr ne
  exact q l2 _ ks' hl2 cs g1 ((g2.and ne').imp fun {k k'} ⟨q1, q2⟩ => by lia)
def Idle2 (ks : List Call) (c : Int) (es : List Int) : Prop := (∀ k ∈ ks, k.c ≠ c) ∧ ∀ e ∈ es, ∀ k ∈ ks, ¬ e ∈ k.es
def spWith (K : PySem.W.Frag) : Sp := fun vs H Q _ => ∃ (l e : Addr) (as : List Addr) (ks : List Call) (c k : Int) (es : List Int), vs = [.ref l, .int c, .ref e, .int k] ∧ H l = some (.lst (as.map V.ref)) ∧ CallsAt H as ks ∧ ks.length < 63 ∧ (ks.Pairwise fun k k' => k.c ≠ k'.c) ∧ (∀ k ∈ ks, k.c ≠ c) ∧ (SqT K H e (es.map V.int) ∨ SqL K H e (es.map V.int)) ∧ es.length < 64 ∧
 ∀ (r : Addr) (bs : List Addr) (ks' : List Call) (es' : List Int) (H' : Hp), Same H H' → H' r = some (.lst (bs.map V.ref)) → CallsAt H' bs ks' → es'.Perm es → es'.Pairwise (· ≤ ·) → ks'.Perm (ks ++ [⟨c, es', k⟩]) → ks'.Pairwise (fun k k' => k.c < k'.c) → Q (.ref r) H'
theorem IsMine.yes {as : List Addr} {ks : List Call} {c : Int} {v : V} (h : IsMine as ks c v) (n : v ≠ .non) : ∃ k ∈ ks, k.c = c := by
 rcases h with ⟨rfl, _⟩ | ⟨j, a, k, _, h2, h3, _⟩
 ·exact absurd rfl n
 ·exact ⟨k, List.mem_of_getElem? h2, h3⟩
theorem chosen_mem {n : Int} {xs : List Int} (h : xs ≠ []) : chosenM n xs ∈ xs := by
 unfold chosenM
 cases e : goOn n xs with
 | nil =>
  cases xs with
  | nil => exact absurd rfl h
  | cons x t => exact List.mem_cons_self ..
 | cons y t =>
  have : y ∈ goOn n xs := by rw [e]; exact List.mem_cons_self ..
  exact (List.mem_filter.mp this).1
section
variable {P : Program} {w : World} {K : PySem.W.Frag} {mg : Str → Option Value} {base : Heap} {C_Rule C_Fullest C_Emptiest C_Round C_Told : Addr}
theorem sc_with_call : FnScope ["calls", "caller", "ends", "k"] ["calls", "caller", "ends", "k"] (defScope (top 37)) := ⟨rfl, rfl, rfl, by decide +kernel, rfl, by decide +kernel, by decide +kernel⟩
theorem ok_with (T : Txt K mg) (D : Def K mg "with_call" (top 37) ["calls", "caller", "ends", "k"]) : Callee P w K mg base 1 "with_call" ["calls", "caller", "ends", "k"] (spWith K) := by
 refine D.ok sc_with_call (fun vs H Q E h => ?_) (fun f cdv A outer s H vs Q E hr h => ?_)
 ·obtain ⟨l, e, as, ks, c, k, es, rfl, _⟩ := h
  rfl
 obtain ⟨l, e, as, ks, c, k, es, rfl, el, hC, h63, nc, no, he, h64, q⟩ := h
 have ln : as.length = ks.length := Paired.length hC
 refine ⟨_, (pss_one (ps_ret (pe_callB (call_sortedTK K) rfl T.m_sorted boot_sorted (pa_cons (pe_op op_cat (pv 0) (pe_lst (pa_cons (pe_tup (pa_cons (pv 1) (pa_cons (pe_callTy (call_tupleK K) rfl T.m_tuple boot_tuple (pa_cons (pe_callB (call_sortedE K) rfl T.m_sorted boot_sorted (pa_cons (pv 2) pa_nil st_name)) pa_nil st_call)) (pa_cons (pv 3) pa_nil st_name) st_call) st_name)) pa_nil st_tup))) pa_nil st_bin)))), ?_⟩
 refine ⟨_, rfl, _, rfl, _, rfl, e, es, rfl, he, h64, fun es' pm srt sl hsl => ?_⟩
 have s1 := same_new hsl (.lst (es'.map V.int))
 have e1 := upd_same (H := H) (a := sl) (o := .lst (es'.map V.int))
 generalize upd H sl (.lst (es'.map V.int)) = H1 at s1 e1 ⊢
 refine ⟨sl, _, rfl, .inl ⟨SqL.of e1, fun t ht => ?_⟩⟩
 have s2 := s1.trans (same_new ht (.tup (es'.map V.int)))
 have e2 := upd_same (H := H1) (a := t) (o := .tup (es'.map V.int))
 generalize upd H1 t (.tup (es'.map V.int)) = H2 at s2 e2 ⊢
 refine ⟨_, rfl, (by show 3 ≤ sizeLine; decide), fun p hp => ?_⟩
 have s3' := same_new hp (.tup [.int c, .ref t, .int k])
 have s3 := s2.trans s3'
 have e3 : CallAt (upd H2 p (.tup [.int c, .ref t, .int k])) p ⟨c, es', k⟩ := ⟨t, s3' _ _ e2, upd_same⟩
 generalize upd H2 p (.tup [.int c, .ref t, .int k]) = H3 at s3 e3 ⊢
 refine ⟨(by show 1 ≤ sizeLine; decide), fun nl hnl => ?_⟩
 have s4' := same_new hnl (.lst [.ref p])
 have s4 := s3.trans s4'
 have e4 := upd_same (H := H3) (a := nl) (o := .lst [.ref p])
 have c4 := CallAt.same (fun b xs z => s4' _ _ z) e3
 generalize upd H3 nl (.lst [.ref p]) = H4 at s4 e4 c4 ⊢
 refine ⟨l, nl, _, _, rfl, rfl, s4 _ _ el, e4, Nat.le_of_lt (small1000 (by rw [List.length_map]; show as.length + 1 ≤ 1000; lia)), fun cl hcl => ?_⟩
 have s5' := same_new hcl (.lst (as.map V.ref ++ [.ref p]))
 have s5 := s4.trans s5'
 have e5 : upd H4 cl (.lst (as.map V.ref ++ [.ref p])) cl = some (.lst ((as ++ [p]).map V.ref)) := by rw [upd_same, List.map_append]; rfl
 have c5 := CallAt.same (fun b xs z => s5' _ _ z) c4
 generalize upd H4 cl (.lst (as.map V.ref ++ [.ref p])) = H5 at s5 e5 c5 ⊢
 have hC5 : CallsAt H5 (as ++ [p]) (ks ++ [⟨c, es', k⟩]) := Paired.snoc (CallsAt.same (fun b xs z => s5 _ _ z) hC) c5
 refine sorted_calls e5 hC5 (by rw [List.length_append, List.length_singleton]; lia) (List.pairwise_append.mpr ⟨nc, List.pairwise_singleton .., fun k1 h1 k2 h2 => ?_⟩) fun l2 as' ks' h1 h2 h3 h4 => ?_
 ·rw [List.mem_singleton.mp h2]
  exact no k1 h1
 ·exact q l2 as' ks' es' _ (s5.trans (same_new h1 _)) upd_same (CallsAt.same (fun b xs z => same_new h1 _ _ _ z) h2) pm srt h3 h4
end
def spWrongN (K : PySem.W.Frag) : Sp := fun vs H Q _ => ∃ (a : Addr) (h : Hall) (x y : V) (o : Option (List V)), vs = [.ref a, x, y] ∧ SqT K H a (h.row.map V.int) ∧ h.Ok ∧ PartIs K H x ∧ EndTh K H y o ∧ wholeIn x 0 (h.i * h.c - 1) = true ∧ endsU h o = true ∧
 ∀ H', Same H H' → Q .non H'
def spBusyN (K : PySem.W.Frag) : Sp := fun vs H Q _ => ∃ (l e : Addr) (as : List Addr) (ks : List Call) (c : Int) (es : List Int), vs = [.ref l, .int c, .ref e] ∧ SqL K H l (as.map V.ref) ∧ CallsAt H as ks ∧ (SqT K H e (es.map V.int) ∨ SqL K H e (es.map V.int)) ∧ es.length < 64 ∧ Idle2 ks c es ∧
 ∀ H', Same H H' → Q .non H'
def Keep (T1 T2 ro : Addr) (H H' : Hp) : Prop := ∀ b u, b ≠ T1 → b ≠ T2 → b ≠ ro → H b = some u → H' b = some u
structure Rul (CN : Addr) (T1 T2 ro : Addr) (H : Hp) : Prop where
 t : Tabs T1 T2 H
 r : ∃ dx n, H ro = some (.ins CN dx (startF n))
theorem Rul.same {CN T1 T2 ro : Addr} {H H' : Hp} (t : Rul CN T1 T2 ro H) (s : Same H H') : Rul CN T1 T2 ro H' := ⟨t.t.same s, by
 obtain ⟨dx, n, h⟩ := t.r
 exact ⟨dx, n, s _ _ h⟩⟩
theorem Keep.keep {CN T1 T2 ro : Addr} {H H' : Hp} (t : Rul CN T1 T2 ro H) (s : Keep T1 T2 ro H H') {b : Addr} {u : HO} (e : H b = some u) (n : ∀ ps, u ≠ .tbl ps) (n' : ∀ C dx fs, u ≠ .ins C dx fs) : H' b = some u := by
 refine s b u (t.t.no e n).1 (t.t.no e n).2 (fun z => ?_) e
 obtain ⟨dx, m, h⟩ := t.r
 rw [z, h] at e
 cases e
 exact n' _ _ _ rfl
theorem Keep.lst {CN T1 T2 ro : Addr} {H H' : Hp} (t : Rul CN T1 T2 ro H) (s : Keep T1 T2 ro H H') {b : Addr} {xs : List V} (e : H b = some (.lst xs)) : H' b = some (.lst xs) := s.keep t e (fun _ z => nomatch z) (fun _ _ _ z => nomatch z)
theorem Keep.tup {CN T1 T2 ro : Addr} {H H' : Hp} (t : Rul CN T1 T2 ro H) (s : Keep T1 T2 ro H H') {b : Addr} {xs : List V} (e : H b = some (.tup xs)) : H' b = some (.tup xs) := s.keep t e (fun _ z => nomatch z) (fun _ _ _ z => nomatch z)
theorem Keep.seq {K : PySem.W.Frag} {CN T1 T2 ro : Addr} {H H' : Hp} (t : Rul CN T1 T2 ro H) (s : Keep T1 T2 ro H H') {a : Addr} {xs : List V} (h : SqL K H a xs) : SqL K H' a xs := by
 rcases h with (h | ⟨o, h⟩) | h
 ·exact .inl (.inl (s.lst t h))
 ·exact .inl (.inr ⟨o, s.keep t h (fun _ z => nomatch z) (fun _ _ _ z => nomatch z)⟩)
 ·exact .inr h
theorem Keep.seqT {K : PySem.W.Frag} {CN T1 T2 ro : Addr} {H H' : Hp} (t : Rul CN T1 T2 ro H) (s : Keep T1 T2 ro H H') {a : Addr} {xs : List V} (h : SqT K H a xs) : SqT K H' a xs := by
 rcases h with (h | ⟨o, h⟩) | h
 ·exact .inl (.inl (s.tup t h))
 ·exact .inl (.inr ⟨o, s.keep t h (fun _ z => nomatch z) (fun _ _ _ z => nomatch z)⟩)
 ·exact .inr h
theorem Keep.trans {T1 T2 ro : Addr} {H H1 H2 : Hp} (a : Keep T1 T2 ro H H1) (b : Keep T1 T2 ro H1 H2) : Keep T1 T2 ro H H2 := fun x u n1 n2 n3 e => b x u n1 n2 n3 (a x u n1 n2 n3 e)
theorem keep_same {T1 T2 ro : Addr} {H H' : Hp} (s : Same H H') : Keep T1 T2 ro H H' := fun b u _ _ _ e => s b u e
def RuleIs (CR CF CE CT ro : Addr) (H : Hp) (rv : V) : Prop := rv = .non ∨ rv = .ref ro ∨ ∃ p, rv = .ref p ∧ p ≠ ro ∧ ((∃ dx, H p = some (.ins CR dx []) ∨ H p = some (.ins CF dx []) ∨ H p = some (.ins CE dx [])) ∨ ∃ dx tr ws, H p = some (.ins CT dx [("racks", .ref tr)]) ∧ H tr = some (.lst (List.map V.int ws)))
theorem RuleIs.same {CR CF CE CT ro : Addr} {H H' : Hp} {rv : V} (s : Same H H') (h : RuleIs CR CF CE CT ro H rv) : RuleIs CR CF CE CT ro H' rv := by
 rcases h with h | h | ⟨p, h, n, ⟨dx, h1⟩ | ⟨dx, tr, ws, h1, h2⟩⟩
 ·exact .inl h
 ·exact .inr (.inl h)
 ·exact .inr (.inr ⟨p, h, n, .inl ⟨dx, h1.imp (s _ _) (Or.imp (s _ _) (s _ _))⟩⟩)
 ·exact .inr (.inr ⟨p, h, n, .inr ⟨dx, tr, ws, s _ _ h1, s _ _ h2⟩⟩)
def spJoin26 (K : PySem.W.Frag) (CR CF CE CT CN T1 T2 : Addr) : Sp := fun vs H Q _ => ∃ (a l e : Addr) (h : Hall) (as : List Addr) (ks : List Call) (c : Int) (es : List Int) (rv : V) (sh : Int) (ro : Addr), vs = [.ref a, .ref l, .int c, .ref e, rv, .int sh] ∧ SqT K H a (h.row.map V.int) ∧ h.Ok ∧ H l = some (.lst (as.map V.ref)) ∧ CallsAt H as ks ∧ (∀ k ∈ ks, k.In h) ∧ (ks.Pairwise fun k k' => k.c ≠ k'.c) ∧ ks.length < 63 ∧ H e = some (.lst (es.map V.int)) ∧ es.length < 64 ∧ wholeIn (.int c) 0 (h.i * h.c - 1) = true ∧ endsU h (some (es.map V.int)) = true ∧ Idle2 ks c es ∧ waysM h ks c es sh ≠ [] ∧ RuleIs CR CF CE CT ro H rv ∧ Rul CN T1 T2 ro H ∧
 ∀ (k : Nat), k ∈ waysM h ks c es sh → ∀ (r : Addr) (bs : List Addr) (ks' : List Call) (es' : List Int) (H' : Hp), Keep T1 T2 ro H H' → Rul CN T1 T2 ro H' → H' r = some (.lst (bs.map V.ref)) → CallsAt H' bs ks' → es'.Perm es → es'.Pairwise (· ≤ ·) → ks'.Perm (ks ++ [⟨c, es', k⟩]) → ks'.Pairwise (fun k k' => k.c < k'.c) → Q (.ref r) H'
theorem told_mem {ws xs : List Int} (h : xs ≠ []) : toldM ws xs ∈ xs := by
 unfold toldM
 cases e : ws.filter (fun k => decide (k ∈ xs)) with
 | nil =>
  cases xs with
  | nil => exact absurd rfl h
  | cons x t => exact List.mem_cons_self ..
 | cons y t =>
  have : y ∈ ws.filter (fun k => decide (k ∈ xs)) := by rw [e]; exact List.mem_cons_self ..
  exact of_decide_eq_true (List.mem_filter.mp this).2
section
variable {P : Program} {w : World} {K : PySem.W.Frag} {mg : Str → Option Value} {base : Heap} {C_Rule C_Fullest C_Emptiest C_Round C_Told : Addr} {T_Fullest_choose T_Emptiest_choose : Addr}
theorem sc_refuse_wrong : FnScope ["hall", "caller", "ends"] ["hall", "caller", "ends"] (defScope (top 34)) := ⟨rfl, rfl, rfl, by decide +kernel, rfl, by decide +kernel, by decide +kernel⟩
theorem ok_wrongN (T : Txt K mg) (C_is_caller : Callee P w K mg base 3 "is_caller" ["hall", "thing"] (spIsCaller K)) (C_is_ends : Callee P w K mg base 4 "is_ends" ["hall", "thing"] (spIsEnds K)) (D : Def K mg "refuse_wrong" (top 34) ["hall", "caller", "ends"]) : Callee P w K mg base 5 "refuse_wrong" ["hall", "caller", "ends"] (spWrongN K) := by
 refine D.ok sc_refuse_wrong (fun vs H Q E h => ?_) (fun f cdv A outer s H vs Q E hr h => ?_)
 ·obtain ⟨a, h, x, y, o, rfl, _⟩ := h
  rfl
 obtain ⟨a, h, x, y, o, rfl, hH, ok, px, ey, c1, c2, q⟩ := h
 refine ⟨_, (pss_cons (ps_if (pt_not (pt_truK K (pe_fn C_is_caller hr rfl (pa_cons (pv 0) (pa_cons (pv 1) pa_nil st_name) st_name)) (fun _ => rfl))) (pss_one ps_never) pss_nil)
  (pss_one (ps_if (pt_not (pt_truK K (pe_fn C_is_ends hr rfl (pa_cons (pv 0) (pa_cons (pv 2) pa_nil st_name) st_name)) (fun _ => rfl))) (pss_one ps_never) pss_nil))), ?_⟩
 refine ⟨_, rfl, _, rfl, a, h, x, rfl, hH, ok, px, _, rfl, ?_⟩
 rw [c1]
 refine iteF ⟨_, rfl, _, rfl, a, h, y, o, rfl, hH, ok, ey, fun H1 s1 => ⟨_, rfl, ?_⟩⟩
 rw [c2]
 exact iteF (q H1 s1)
theorem sc_refuse_busy : FnScope ["calls", "caller", "ends", "end", "who"] ["calls", "caller", "ends"] (defScope (top 35)) := ⟨rfl, rfl, rfl, by decide +kernel, rfl, by decide +kernel, by decide +kernel⟩
theorem ok_busyN (T : Txt K mg) (C_call_of : Callee P w K mg base 2 "call_of" ["calls", "caller"] (spCallOf K)) (C_holder_of : Callee P w K mg base 2 "holder_of" ["calls", "end"] (spHolderOf K)) (D : Def K mg "refuse_busy" (top 35) ["calls", "caller", "ends"]) : Callee P w K mg base 4 "refuse_busy" ["calls", "caller", "ends"] (spBusyN K) := by
 refine D.ok sc_refuse_busy (fun vs H Q E h => ?_) (fun f cdv A outer s H vs Q E hr h => ?_)
 ·obtain ⟨l, e, as, ks, c, es, rfl, _⟩ := h
  rfl
 obtain ⟨l, e, as, ks, c, es, rfl, hl, hC, he, h64, idle, q⟩ := h
 refine ⟨_, (pss_cons (ps_if (pt_cmpR op_notN (pe_fn C_call_of hr rfl (pa_cons (pv 0) (pa_cons (pv 1) pa_nil st_name) st_name)) pe_non (nomark _)) (pss_one ps_never) pss_nil)
  (pss_one (ps_for PassesOwn.never rfl (pi_listK K (pe_callB (call_sortedE K) rfl T.m_sorted boot_sorted (pa_cons (pv 2) pa_nil st_name))) (pg_name (i := 3) sc_refuse_busy.nd rfl (Or.inl rfl))
  (pss_cons (ps_set (i := 4) sc_refuse_busy.nd rfl (Or.inl rfl) (pe_fn C_holder_of hr rfl (pa_cons (pv 0) (pa_cons (pv 3) pa_nil st_name) st_name)))
  (pss_one (ps_if (pt_cmpR op_notN (pv 4) pe_non (nomark _)) (pss_one ps_never) pss_nil)))))), ?_⟩
 refine ⟨_, rfl, _, rfl, l, .int c, as, ks, rfl, hl, hC, .int c, .inr ⟨c, rfl, fun v mine => ⟨rfl, _, rfl, ?_⟩⟩⟩
 have hv : v = .non := by
  by_cases hv : v = .non
  ·exact hv
  ·obtain ⟨k, hk, e⟩ := mine.yes hv
   exact absurd e (idle.1 k hk)
 rw [hv]
 refine iteF ?_
 refine ⟨_, rfl, e, es, rfl, he, h64, fun ns' pm srt sl hsl => ?_⟩
 have s1 := same_new hsl (.lst (ns'.map V.int))
 have esl := upd_same (H := H) (a := sl) (o := .lst (ns'.map V.int))
 generalize upd H sl (.lst (ns'.map V.int)) = H1 at s1 esl ⊢
 refine ⟨sl, rfl, ⟨_, SqL.of esl⟩, ?_⟩
 refine for_list (xs := ns'.map V.int) (fun i σ H' => H' = H1 ∧ ∃ v3 v4, σ = [some (.ref l), some (.int c), some (.ref e), v3, v4])
  ⟨rfl, none, none, rfl⟩ (fun i σ H' _ g => by rw [g.1]; exact SqL.of esl) ?_ ?_
 ·rintro i x σ G hx ⟨rfl, v3, v4, rfl⟩
  rw [List.getElem?_map] at hx
  obtain ⟨en, hen, rfl⟩ := Option.map_eq_some_iff.mp hx
  refine ⟨_, rfl, _, rfl, l, en, as, ks, rfl, s1.seq hl, CallsAt.same (fun b xs z => s1 _ _ z) hC, fun v who => ?_⟩
  refine ⟨_, rfl, rfl, _, rfl, ?_⟩
  rcases who with ⟨rfl, none⟩ | ⟨k, hk, ek, rfl⟩
  ·exact iteF ⟨rfl, _, _, rfl⟩
  ·exact absurd ek (idle.2 en (pm.mem_iff.mp (List.mem_of_getElem? hen)) k hk)
 ·rintro σ G ⟨rfl, v3, v4, rfl⟩
  exact q _ s1
theorem sc_joined : FnScope ["hall", "calls", "caller", "ends", "rule", "shut", "free", "hunter", "k"] ["hall", "calls", "caller", "ends", "rule", "shut"] (defScope (top 38)) := ⟨rfl, rfl, rfl, by decide +kernel, rfl, by decide +kernel, by decide +kernel⟩
set_option maxHeartbeats 4000000 in
theorem ok_join26 (T : Txt K mg) (Z : TxtC K mg C_Rule C_Fullest C_Emptiest C_Round C_Told) (C_refuse_wrong : Callee P w K mg base 5 "refuse_wrong" ["hall", "caller", "ends"] (spWrongN K)) (C_refuse_busy : Callee P w K mg base 4 "refuse_busy" ["calls", "caller", "ends"] (spBusyN K)) (C_ways : CalleeD P w K mg base 5 "ways" ["hall", "calls", "caller", "ends", "shut"] [.int 0] (spWays K)) (C_Rule_choose : CalleeM P w K mg base 1 C_Rule "choose" ["self", "hall", "calls", "free"] [] noKw spFirst21) (C_Fullest_choose : CalleeM P w K mg base 2 C_Fullest "choose" ["self", "hall", "calls", "free"] [] noKw (spFullest K T_Fullest_choose BestMax posF (lamQ "Fullest.choose"))) (C_Emptiest_choose : CalleeM P w K mg base 2 C_Emptiest "choose" ["self", "hall", "calls", "free"] [] noKw (spFullest K T_Emptiest_choose BestMin posE (lamQ "Emptiest.choose"))) (C_Round_choose : CalleeM P w K mg base 1 C_Round "choose" ["self", "hall", "calls", "free"] [] noKw (spChoose K C_Round)) (C_Told_choose : CalleeM P w K mg base 1 C_Told "choose" ["self", "hall", "calls", "free"] [] noKw (spToldC K C_Told)) (C_with_call : Callee P w K mg base 1 "with_call" ["calls", "caller", "ends", "k"] (spWith K)) (D : DefD K mg "joined" (top 38) ["hall", "calls", "caller", "ends", "rule", "shut"] [.non, .int 0]) : CalleeD P w K mg base 6 "joined" ["hall", "calls", "caller", "ends", "rule", "shut"] [.non, .int 0] (spJoin26 K C_Rule C_Fullest C_Emptiest C_Told C_Round T_Fullest_choose T_Emptiest_choose) := by
 refine D.ok sc_joined (fun vs H Q E h => ?_) (fun f cdv A outer s H vs Q E hr h => ?_)
 ·obtain ⟨a, l, e, h, as, ks, c, es, rv, sh, ro, rfl, _⟩ := h
  rfl
 obtain ⟨a, l, e, h, as, ks, c, es, rv, sh, ro, rfl, hH, ok, el, hC, hin, nc, h63, ee, l64, w1, w2, idle, z', hrv, ru, q⟩ := h
 refine ⟨_, (pss_cons (ps_expr (pe_fn C_refuse_wrong hr rfl (pa_cons (pv 0) (pa_cons (pv 2) (pa_cons (pv 3) pa_nil st_name) st_name) st_name)))
  (pss_cons (ps_expr (pe_fn C_refuse_busy hr rfl (pa_cons (pv 1) (pa_cons (pv 2) (pa_cons (pv 3) pa_nil st_name) st_name) st_name)))
  (pss_cons (ps_set (i := 6) sc_joined.nd rfl (Or.inl rfl) (pe_fn C_ways.all hr rfl (pa_cons (pv 0) (pa_cons (pv 1) (pa_cons (pv 2) (pa_cons (pv 3) (pa_cons (pv 5) pa_nil st_name) st_name) st_name) st_name) st_name)))
  (pss_cons (ps_if (pt_cmpR (op_eqNilK K (Room.units0 hr)) (pv 6) (pe_lst pa_nil) (nomark _)) (pss_one (ps_expr pe_never)) pss_nil)
  (pss_cons (ps_set (i := 7) sc_joined.nd rfl (Or.inl rfl) (pe_ifExp (pt_cmpR op_isN (pv 4) pe_non (nomark _)) (pe_plain Z.M_Rule Z.p_Rule rfl) (pv 4)))
  (pss_cons (ps_set (i := 8) sc_joined.nd rfl (Or.inl rfl) (pe_either (pe_m Z.cl_Rule C_Rule_choose hr (pv 7) (pa_cons (pv 0) (pa_cons (pv 1) (pa_cons (pv 6) pa_nil st_name) st_name) st_name)) (pe_either (pe_m Z.cl_Fullest C_Fullest_choose hr (pv 7) (pa_cons (pv 0) (pa_cons (pv 1) (pa_cons (pv 6) pa_nil st_name) st_name) st_name)) (pe_either (pe_m Z.cl_Emptiest C_Emptiest_choose hr (pv 7) (pa_cons (pv 0) (pa_cons (pv 1) (pa_cons (pv 6) pa_nil st_name) st_name) st_name)) (pe_either (pe_m Z.cl_Round C_Round_choose hr (pv 7) (pa_cons (pv 0) (pa_cons (pv 1) (pa_cons (pv 6) pa_nil st_name) st_name) st_name)) (pe_m Z.cl_Told C_Told_choose hr (pv 7) (pa_cons (pv 0) (pa_cons (pv 1) (pa_cons (pv 6) pa_nil st_name) st_name) st_name)))))))
  (pss_one (ps_ret (pe_fn C_with_call hr rfl (pa_cons (pv 1) (pa_cons (pv 2) (pa_cons (pv 3) (pa_cons (pv 8) pa_nil st_name) st_name) st_name) st_name)))))))))), ?_⟩
 have pe : EndTh K H (.ref e) (some (es.map V.int)) := .lst ee (fun x hx => by obtain ⟨i, _, rfl⟩ := List.mem_map.mp hx; exact .int i) (by rw [List.length_map]; lia)
 refine ⟨_, rfl, _, rfl, _, rfl, a, h, .int c, .ref e, _, rfl, hH, ok, .int c, pe, w1, w2, fun H1 s1 => ?_⟩
 have ask : ∀ {G : Hp}, Same H G → Asked K G a l e h as ks es := fun s => Asked.same s ⟨hH, ok, SqL.of el, hC, hin, by lia, .inr (SqL.of ee), l64⟩
 have k1 := ask s1
 refine ⟨_, rfl, _, rfl, _, rfl, l, e, as, ks, c, es, rfl, k1.l, k1.c, k1.e, l64, idle, fun H2 s2 => ?_⟩
 have s12 := s1.trans s2
 refine ⟨_, rfl, _, rfl, _, rfl, _, rfl, _, rfl, a, l, e, h, as, ks, c, es, sh, rfl, ask s12, fun fl H3 s3 hf0 ef => ?_⟩
 have s13 := s12.trans s3
 refine ⟨_, rfl, (by show 0 ≤ sizeLine; decide), fun nl hnl => ?_⟩
 have s4' := same_new hnl (.lst [])
 have s14 := s13.trans s4'
 have e4 := upd_same (H := H3) (a := nl) (o := .lst [])
 have ef4 := s4' _ _ ef
 generalize upd H3 nl (.lst []) = H4 at s14 e4 ef4 ⊢
 refine ⟨fl, nl, _, rfl, rfl, SqL.of ef4, SqL.of e4, _, rfl, ?_⟩
 refine ite2 (fun z => ?_) (fun z => ?_)
 ·refine absurd ?_ z'
  have := of_decide_eq_true z
  unfold natV at this
  exact List.map_eq_nil_iff.mp this
 have few := ways_len h ks c es sh
 have m24 := ok.m
 have ru4 := ru.same s14
 have wne : (waysM h ks c es sh).map (fun (k : Nat) => (k : Int)) ≠ [] := fun y => z' (List.map_eq_nil_iff.mp y)
 have wmem : ∀ {x : Int}, x ∈ (waysM h ks c es sh).map (fun (k : Nat) => (k : Int)) → ∃ k, k ∈ waysM h ks c es sh ∧ x = ((k : Nat) : Int) := fun hx => by
  obtain ⟨k, hk, e⟩ := List.mem_map.mp hx
  exact ⟨k, hk, e.symm⟩
 have ef5 : H4 fl = some (.lst (((waysM h ks c es sh).map fun (k : Nat) => (k : Int)).map V.int)) := by rw [ef4, natV_int]
 have last : ∀ {G : Hp} (x : Int), x ∈ (waysM h ks c es sh).map (fun (k : Nat) => (k : Int)) → Keep T_Fullest_choose T_Emptiest_choose ro H4 G → Rul C_Round T_Fullest_choose T_Emptiest_choose ro G → spWith K [.ref l, .int c, .ref e, .int x] G Q E0 := by
  intro G x hx kp ruG
  obtain ⟨k, hk, rfl⟩ := wmem hx
  refine ⟨l, e, as, ks, c, (k : Nat), es, rfl, kp.lst ru4 (s14 _ _ el), CallsAt.same (fun b xs z => kp.tup ru4 (s14 _ _ z)) hC, h63, nc, idle.1, .inr (SqL.of (kp.lst ru4 (s14 _ _ ee))), l64, fun r bs ks' es' H' s' er cs pm srt pk up => q k hk r bs ks' es' H' ((keep_same s14).trans (kp.trans (keep_same s'))) (ruG.same s') er cs pm srt pk up⟩
 have hb : ∀ x ∈ (waysM h ks c es sh).map (fun (k : Nat) => (k : Int)), 0 ≤ x ∧ x < h.m := fun x hx => by
  obtain ⟨k, hk, rfl⟩ := wmem hx
  have := List.mem_filter.mp hk
  have := open_lt this.1
  lia
 refine ⟨_, rfl, rfl, _, rfl, ?_⟩
 have asG : ∀ {G : Hp}, Same H4 G → SqT K G a (h.row.map V.int) ∧ SqL K G l (as.map V.ref) ∧ CallsAt G as ks := fun s => ⟨Same.seqT (s14.trans s) hH, SqL.of (s _ _ (s14 _ _ el)), CallsAt.same (fun b xs z => s _ _ (s14 _ _ z)) hC⟩
 have hd0 : ((waysM h ks c es sh).map fun (k : Nat) => (k : Int)).headD 0 ∈ (waysM h ks c es sh).map fun (k : Nat) => (k : Int) := by
  cases y : (waysM h ks c es sh).map (fun (k : Nat) => (k : Int)) with
  | nil => exact absurd y wne
  | cons x t => exact List.mem_cons_self ..
 rcases hrv with rfl | rfl | ⟨p, rfl, npr, ⟨dx, er | er | er⟩ | ⟨dx, tr, ws, er, et⟩⟩
 ·refine iteT (fun ro' dro hro hdro ne => ?_)
  have s5 := plain_same (C := C_Rule) hro hdro
  have e5 := upd_same (H := upd H4 dro (.own ro')) (a := ro') (o := .ins C_Rule dro [])
  generalize upd (upd H4 dro (.own ro')) ro' (.ins C_Rule dro []) = H5 at s5 e5 ⊢
  exact .inl ⟨_, rfl, ro', dro, [], rfl, e5, rfl, _, rfl, _, rfl, _, rfl, .ref ro', .ref a, .ref l, fl, _, rfl, s5 _ _ ef5, wne, ⟨_, rfl, _, rfl, _, rfl, _, rfl, last _ hd0 (keep_same s5) (ru4.same s5)⟩⟩
 ·obtain ⟨rdx, n, er4⟩ := ru4.r
  refine iteF ⟨_, rfl, ?_⟩
  refine .inr (.inr (.inr (.inl ⟨_, rfl, ro, rdx, _, rfl, er4, rfl, _, rfl, _, rfl, _, rfl, ro, rdx, fl, .ref a, .ref l, n, (waysM h ks c es sh).map fun (k : Nat) => (k : Int), rfl, er4, ef5, wne, by rw [List.length_map]; lia, fun H5 s5 er5 => ?_⟩)))
  have ntr : ∀ {T : Addr}, (∃ ps, H4 T = some (.tbl ps)) → T ≠ ro := fun ⟨ps, hp⟩ y => by rw [y, er4] at hp; cases hp
  have sT : ∀ {T : Addr} {pos : Pos} {qn : Str}, TabIs H4 T pos qn → TabIs H5 T pos qn := fun {T pos qn} t => by
   have nt := ntr (tab_tbl t)
   rcases t with t | ⟨c', t1, t2⟩
   ·exact .inl (s5 _ _ nt t)
   ·exact .inr ⟨c', s5 _ _ nt t1, s5 _ _ (fun y => by rw [y, er4] at t2; cases t2) t2⟩
  exact ⟨_, rfl, _, rfl, _, rfl, _, rfl, last _ (chosen_mem wne) (fun b u _ _ n3 z => s5 b u n3 z) ⟨⟨ru4.t.ne, sT ru4.t.f, sT ru4.t.e⟩, _, _, er5⟩⟩
 ·refine iteF ⟨_, rfl, ?_⟩
  exact .inl ⟨_, rfl, p, dx, [], rfl, s14 _ _ er, rfl, _, rfl, _, rfl, _, rfl, .ref p, .ref a, .ref l, fl, _, rfl, ef5, wne, ⟨_, rfl, _, rfl, _, rfl, _, rfl, last _ hd0 (fun b u _ _ _ z => z) ru4⟩⟩
 ·refine iteF ⟨_, rfl, ?_⟩
  obtain ⟨g1, g2, g3⟩ := asG (G := H4) (fun b u z => z)
  refine .inr (.inl ⟨_, rfl, p, dx, [], rfl, s14 _ _ er, rfl, _, rfl, _, rfl, _, rfl, .ref p, a, l, fl, h, as, ks, _, rfl, g1, ok, g2, g3, hin, by lia, ef5, wne, hb, ru4.t.f, fun j x G' hj bst but tab => ?_⟩)
  refine ⟨_, rfl, _, rfl, _, rfl, _, rfl, last x (List.mem_of_getElem? hj) (fun b u n1 _ _ z => but b u n1 z) ⟨⟨ru4.t.ne, tab, tab_but but (Ne.symm ru4.t.ne) (tab_tbl ru4.t.f) ru4.t.e⟩, ?_⟩⟩
  obtain ⟨rdx, n, er4⟩ := ru4.r
  exact ⟨rdx, n, but _ _ (fun y => by obtain ⟨ps, h'⟩ := tab_tbl ru4.t.f; rw [← y, er4] at h'; cases h') er4⟩
 ·refine iteF ⟨_, rfl, ?_⟩
  obtain ⟨g1, g2, g3⟩ := asG (G := H4) (fun b u z => z)
  refine .inr (.inr (.inl ⟨_, rfl, p, dx, [], rfl, s14 _ _ er, rfl, _, rfl, _, rfl, _, rfl, .ref p, a, l, fl, h, as, ks, _, rfl, g1, ok, g2, g3, hin, by lia, ef5, wne, hb, ru4.t.e, fun j x G' hj bst but tab => ?_⟩))
  refine ⟨_, rfl, _, rfl, _, rfl, _, rfl, last x (List.mem_of_getElem? hj) (fun b u _ n2 _ z => but b u n2 z) ⟨⟨ru4.t.ne, tab_but but ru4.t.ne (tab_tbl ru4.t.e) ru4.t.f, tab⟩, ?_⟩⟩
  obtain ⟨rdx, n, er4⟩ := ru4.r
  exact ⟨rdx, n, but _ _ (fun y => by obtain ⟨ps, h'⟩ := tab_tbl ru4.t.e; rw [← y, er4] at h'; cases h') er4⟩
 ·refine iteF ⟨_, rfl, ?_⟩
  exact .inr (.inr (.inr (.inr ⟨_, rfl, p, dx, _, rfl, s14 _ _ er, rfl, _, rfl, _, rfl, _, rfl, p, dx, tr, fl, .ref a, .ref l, ws, _, rfl, s14 _ _ er, s14 _ _ et, ef5, wne, ⟨_, rfl, _, rfl, _, rfl, _, rfl, last _ (told_mem wne) (fun b u _ _ _ z => z) ru4⟩⟩)))
end
theorem pigeon {α β : Type} [DecidableEq β] (R : α → β → Prop) (inj : ∀ a a' b, R a b → R a' b → a = a') : ∀ (L : List α) (S : List β), L.Nodup → (∀ a ∈ L, ∃ b ∈ S, R a b) → L.length ≤ S.length
 | [], _, _, _ => Nat.zero_le _
 | a :: L, S, nd, h => by
  obtain ⟨b, hb, r⟩ := h a (List.mem_cons_self ..)
  have nd' := List.nodup_cons.mp nd
  have ih := pigeon R inj L (S.erase b) nd'.2 fun a' ha' => by
   obtain ⟨b', hb', r'⟩ := h a' (List.mem_cons_of_mem _ ha')
   refine ⟨b', (List.mem_erase_of_ne fun z => ?_).mpr hb', r'⟩
   rw [z] at r'
   exact nd'.1 (inj _ _ _ r r' ▸ ha')
  have l1 := List.length_erase_of_mem hb
  have l2 := List.length_pos_of_mem hb
  rw [List.length_cons]
  lia
theorem mem_ways {h : Hall} {ks : List Call} {c : Int} {es : List Int} {sh : Int} {k : Nat} : k ∈ waysM h ks c es sh ↔ k ∈ openM h sh ∧ hrow h ks (c / h.c) (racksM h es) k = [] := by
 unfold waysM freeB
 rw [List.mem_filter, decide_eq_true_iff]
theorem open_nodup (h : Hall) (sh : Int) : (openM h sh).Nodup := List.nodup_range.sublist List.filter_sublist
theorem racks_few {h : Hall} {es rs : List Int} (hr : ∀ e ∈ es, e / h.e ∈ rs) : (racksM h es).length ≤ rs.length := by
 refine pigeon (fun a b => a = b) (fun a a' b e e' => e.trans e'.symm) _ _ ?_ fun r hr' => ?_
 ·have rs : (racksM h es).Pairwise (· < ·) := rise_sortU _
  exact rs.imp fun {a b} lt e => by rw [e] at lt; exact absurd lt (Int.lt_irrefl _)
 ·obtain ⟨e, he, rfl⟩ := mem_racks'.mp hr'
  exact ⟨_, hr e he, rfl⟩
theorem open_many {h : Hall} {sh : Int} {B : List Nat} (hB : ∀ k, openB sh k = false → k ∈ B) : h.m.toNat ≤ (openM h sh).length + B.length := by
 have e1 : (List.range h.m.toNat).length = ((List.range h.m.toNat).filter (openB sh)).length + ((List.range h.m.toNat).filter fun k => !(openB sh k)).length := by
  generalize List.range h.m.toNat = L
  induction L with
  | nil => rfl
  | cons a t ih =>
   rw [List.filter_cons, List.filter_cons, List.length_cons, ih]
   cases openB sh a
   ·simp only [Bool.not_false, if_true, List.length_cons, Bool.false_eq_true, if_false]
    lia
   ·simp only [Bool.not_true, if_true, List.length_cons, Bool.false_eq_true, if_false]
    lia
 have e2 : ((List.range h.m.toNat).filter fun k => !(openB sh k)).length ≤ B.length := by
  refine pigeon (fun a b => a = b) (fun a a' b e e' => e.trans e'.symm) _ _ (List.nodup_range.sublist List.filter_sublist) fun k hk => ?_
  exact ⟨k, hB k (by have := (List.mem_filter.mp hk).2; simpa using this), rfl⟩
 rw [List.length_range] at e1
 unfold openM
 lia
theorem flat_len {α β : Type} {f : α → List β} {n : Nat} : ∀ (rs : List α), (∀ r ∈ rs, (f r).length ≤ n) → (rs.flatMap f).length ≤ rs.length * n
 | [], _ => Nat.zero_le _
 | r :: t, h => by
  have h1 := h r (List.mem_cons_self ..)
  have ih := flat_len t fun r hr => h r (List.mem_cons_of_mem _ hr)
  rw [List.flatMap_cons, List.length_append, List.length_cons, Nat.succ_mul]
  lia
theorem way_free {h : Hall} (ok : h.Ok) {ks : List Call} (fr : ks.Pairwise (Free h)) (hin : ∀ k ∈ ks, k.In h) {c : Int} {es : List Int} (idle : Idle2 ks c es) {sh : Int} {w : Nat} (hw : (racksM h es).length ≤ w)
  (hm : h.c.toNat + w * (h.e.toNat - 1) ≤ (openM h sh).length) : waysM h ks c es sh ≠ [] := by
 intro z
 have o2 := ok.c
 have o5 := ok.e
 have one : ∀ {k k' : Call}, k ∈ ks → k' ∈ ks → ∀ {d : List Key}, d ∈ needsM h k → d ∈ needsM h k' → k = k' := by
  intro k k' hk hk' d hd hd'
  obtain ⟨i, hi, ei⟩ := List.getElem_of_mem hk
  obtain ⟨j, hj, ej⟩ := List.getElem_of_mem hk'
  rcases Nat.lt_trichotomy i j with q | q | q
  ·exact absurd hd' ((List.pairwise_iff_getElem.mp fr) i j hi hj q d (by rw [ei]; exact hd) |> fun y => by rw [ej] at y; exact y)
  ·subst q
   exact ei.symm.trans ej
  ·exact absurd hd ((List.pairwise_iff_getElem.mp fr) j i hj hi q d (by rw [ej]; exact hd') |> fun y => by rw [ei] at y; exact y)
 let S1 : List (Int ⊕ Int) := ((((List.range h.c.toNat).map fun (j : Nat) => c / h.c * h.c + (j : Int)).erase c).map Sum.inl)
 let S2 : List (Int ⊕ Int) := ((racksM h es).flatMap fun r => (((List.range h.e.toNat).map fun (j : Nat) => r * h.e + (j : Int)).filter fun e => !decide (e ∈ es))).map Sum.inr
 have l1 : S1.length ≤ h.c.toNat - 1 := by
  show ((((List.range h.c.toNat).map fun (j : Nat) => c / h.c * h.c + (j : Int)).erase c).map Sum.inl).length ≤ _
  have mem : c ∈ (List.range h.c.toNat).map fun (j : Nat) => c / h.c * h.c + (j : Int) := by
   have m0 := Int.emod_nonneg c (show h.c ≠ 0 by lia)
   have m1 := Int.emod_lt_of_pos c (show 0 < h.c by lia)
   have m2 := Int.mul_ediv_add_emod c h.c
   rw [Int.mul_comm] at m2
   refine List.mem_map.mpr ⟨(c % h.c).toNat, List.mem_range.mpr (by lia), ?_⟩
   lia
  rw [List.length_map, List.length_erase_of_mem mem, List.length_map, List.length_range]
  exact Nat.le_refl _
 have l2 : S2.length ≤ w * (h.e.toNat - 1) := by
  show (((racksM h es).flatMap fun r => (((List.range h.e.toNat).map fun (j : Nat) => r * h.e + (j : Int)).filter fun e => !decide (e ∈ es))).map Sum.inr).length ≤ _
  rw [List.length_map]
  refine Nat.le_trans (flat_len (n := h.e.toNat - 1) _ fun r hr => ?_) (Nat.mul_le_mul_right _ hw)
  obtain ⟨e, he, rfl⟩ := mem_racks'.mp hr
  have m0 := Int.emod_nonneg e (show h.e ≠ 0 by lia)
  have m1 := Int.emod_lt_of_pos e (show 0 < h.e by lia)
  have m2 := Int.mul_ediv_add_emod e h.e
  rw [Int.mul_comm] at m2
  have mem : e ∈ (List.range h.e.toNat).map fun (j : Nat) => e / h.e * h.e + (j : Int) := List.mem_map.mpr ⟨(e % h.e).toNat, List.mem_range.mpr (by lia), by lia⟩
  have nd : ((List.range h.e.toNat).map fun (j : Nat) => e / h.e * h.e + (j : Int)).Nodup := by
   refine List.pairwise_map.mpr (List.nodup_range.imp fun {a b} ne y => ne ?_)
   lia
  have := pigeon (fun a b => a = b) (fun a a' b x y => x.trans y.symm) (((List.range h.e.toNat).map fun (j : Nat) => e / h.e * h.e + (j : Int)).filter fun e => !decide (e ∈ es)) (((List.range h.e.toNat).map fun (j : Nat) => e / h.e * h.e + (j : Int)).erase e) (nd.sublist List.filter_sublist) fun x hx => by
   have hx' := List.mem_filter.mp hx
   refine ⟨x, (List.mem_erase_of_ne fun y => ?_).mpr hx'.1, rfl⟩
   have := hx'.2
   rw [y] at this
   simp [he] at this
  rw [List.length_erase_of_mem mem, List.length_map, List.length_range] at this
  exact this
 have pg := pigeon (fun (k : Nat) (s : Int ⊕ Int) => ∃ k' ∈ ks, k'.k = (k : Int) ∧ (s = .inl k'.c ∨ ∃ e ∈ k'.es, s = .inr e)) (fun k1 k2 s r1 r2 => by
  obtain ⟨a, ha, e1, q1⟩ := r1
  obtain ⟨b, hb, e2, q2⟩ := r2
  have : a = b := by
   rcases q1 with rfl | ⟨e, he, rfl⟩
   ·rcases q2 with q2 | ⟨e', he', q2⟩
    ·exact one ha hb (mem_needs.mpr (.inr (.inr (.inl rfl)))) (mem_needs.mpr (.inr (.inr (.inl (by rw [Sum.inl.inj q2])))))
    ·cases q2
   ·rcases q2 with q2 | ⟨e', he', q2⟩
    ·cases q2
    ·cases q2
     exact one ha hb (mem_needs.mpr (.inr (.inr (.inr ⟨e, he, rfl⟩)))) (mem_needs.mpr (.inr (.inr (.inr ⟨e, he', rfl⟩))))
  rw [this, e2] at e1
  lia) (openM h sh) (S1 ++ S2) (open_nodup h sh) fun k hk => by
  have ne : ¬ hrow h ks (c / h.c) (racksM h es) k = [] := fun y => by
   have := mem_ways.mpr ⟨hk, y⟩
   rw [z] at this
   cases this
  obtain ⟨x, hx⟩ := List.exists_mem_of_ne_nil _ ne
  unfold hrow at hx
  obtain ⟨k', hk', _⟩ := List.mem_map.mp hx
  obtain ⟨hk1, hk2⟩ := List.mem_filter.mp hk'
  rw [Bool.and_eq_true, decide_eq_true_iff] at hk2
  have nb := hk2.2
  unfold needB at nb
  rw [Bool.or_eq_true, decide_eq_true_iff, List.any_eq_true] at nb
  rcases nb with nb | ⟨r, hr1, hr2⟩
  ·refine ⟨.inl k'.c, List.mem_append_left _ (List.mem_map.mpr ⟨k'.c, (List.mem_erase_of_ne (idle.1 k' hk1)).mpr ?_, rfl⟩), k', hk1, hk2.1, .inl rfl⟩
   have m0 := Int.emod_nonneg k'.c (show h.c ≠ 0 by lia)
   have m1 := Int.emod_lt_of_pos k'.c (show 0 < h.c by lia)
   have m2 := Int.mul_ediv_add_emod k'.c h.c
   rw [Int.mul_comm, nb] at m2
   exact List.mem_map.mpr ⟨(k'.c % h.c).toNat, List.mem_range.mpr (by lia), by lia⟩
  ·obtain ⟨e, he, q1⟩ := mem_racks'.mp hr1
   have hr3 := of_decide_eq_true hr2
   refine ⟨.inr e, List.mem_append_right _ (List.mem_map.mpr ⟨e, List.mem_flatMap.mpr ⟨r, hr3, List.mem_filter.mpr ⟨?_, ?_⟩⟩, rfl⟩), k', hk1, hk2.1, .inr ⟨e, he, rfl⟩⟩
   ·have m0 := Int.emod_nonneg e (show h.e ≠ 0 by lia)
    have m1 := Int.emod_lt_of_pos e (show 0 < h.e by lia)
    have m2 := Int.mul_ediv_add_emod e h.e
    rw [Int.mul_comm, q1] at m2
    exact List.mem_map.mpr ⟨(e % h.e).toNat, List.mem_range.mpr (by lia), by lia⟩
   ·have : ¬ e ∈ es := fun y => idle.2 e y k' hk1 he
    simp [this]
 rw [List.length_append] at pg
 lia
theorem bit_add26 {x p q : Nat} (h : x.testBit p = false) (t : (x + 2 ^ p).testBit q = true) : q = p ∨ x.testBit q = true := by
 by_cases hq : q = p
 ·exact .inl hq
 ·right
  rcases Nat.lt_or_gt_of_ne hq with hlt | hgt
  ·rw [Nat.add_comm, Nat.testBit_two_pow_add_gt hlt] at t
   exact t
  ·have e : (x + 2 ^ p) / 2 ^ (p + 1) = x / 2 ^ (p + 1) := by
    rw [Nat.pow_succ, ← Nat.div_div_eq_div_mul, ← Nat.div_div_eq_div_mul, Nat.add_div_right x (Nat.two_pow_pos p)]
    rw [Nat.testBit_eq_decide_div_mod_eq] at h
    have h' : ¬ x / 2 ^ p % 2 = 1 := of_decide_eq_false h
    lia
   have hk : q = (p + 1) + (q - (p + 1)) := by lia
   rw [Nat.testBit_eq_decide_div_mod_eq, hk, Nat.pow_add, ← Nat.div_div_eq_div_mul, e, Nat.div_div_eq_div_mul, ← Nat.pow_add, ← hk, ← Nat.testBit_eq_decide_div_mod_eq] at t
   exact t
theorem or_put (b p : Nat) : ∃ b' : Nat, Builtin.bitOr (b : Int) (1 * 2 ^ p) = (b' : Int) ∧ ∀ q, b'.testBit q = true → q = p ∨ b.testBit q = true := by
 have e1 : (1 * 2 ^ p : Int) = ((2 ^ p : Nat) : Int) := by
  rw [Int.one_mul]
  exact (Int.natCast_pow 2 p).symm
 cases h : b.testBit p with
 | false =>
  refine ⟨b + 2 ^ p, ?_, fun q t => bit_add26 h t⟩
  have e2 : b &&& 2 ^ p = 0 := by
   refine Nat.eq_of_testBit_eq fun i => ?_
   rw [Nat.testBit_and, Nat.testBit_two_pow, Nat.zero_testBit]
   by_cases hi : p = i
   ·subst hi; rw [h]; rfl
   ·simp [hi]
  rw [e1, bitOr_and, bitAnd_pp (Int.natCast_nonneg _) (Int.natCast_nonneg _), Int.toNat_natCast, Int.toNat_natCast, e2]
  simp
 | true =>
  refine ⟨b, ?_, fun q t => .inr t⟩
  have e2 : b &&& 2 ^ p = 2 ^ p := by
   refine Nat.eq_of_testBit_eq fun i => ?_
   rw [Nat.testBit_and, Nat.testBit_two_pow]
   by_cases hi : p = i
   ·subst hi; rw [h]; rfl
   ·simp [hi]
  rw [e1, bitOr_and, bitAnd_pp (Int.natCast_nonneg _) (Int.natCast_nonneg _), Int.toNat_natCast, Int.toNat_natCast, e2]
  lia
theorem open_bit (b k : Nat) : openB (b : Int) k = !b.testBit k := by
 unfold openB
 have e1 : ((b : Int) / 2 ^ k) = ((b / 2 ^ k : Nat) : Int) := by
  rw [Int.natCast_ediv, Int.natCast_pow]
  rfl
 rw [e1, bitAnd_pp (Int.natCast_nonneg _) (by decide), Int.toNat_natCast, show ((1 : Int)).toNat = 1 from rfl, Nat.and_one_is_mod, Nat.testBit_eq_decide_div_mod_eq, Bool.eq_iff_iff, decide_eq_true_iff, Bool.not_eq_true', decide_eq_false_iff_not]
 lia
theorem at_mod {rs : List Int} (x : Int) (ne : rs ≠ []) : ∃ r ∈ rs, atI (rs.map V.int) (x % (((rs.map V.int).length : Nat) : Int)) = some (.int r) := by
 have lp : 0 < rs.length := List.length_pos_iff.mpr ne
 rw [List.length_map]
 have m := mod_in (x := x) (d := ((rs.length : Nat) : Int)) (by lia)
 obtain ⟨j, hj⟩ : ∃ j : Nat, x % ((rs.length : Nat) : Int) = (j : Int) := ⟨(x % ((rs.length : Nat) : Int)).toNat, by lia⟩
 have lt : j < rs.length := by lia
 refine ⟨rs[j]'lt, List.getElem_mem lt, ?_⟩
 rw [hj]
 refine atI_nat ?_
 rw [List.getElem?_map, List.getElem?_eq_getElem lt]
 rfl
def spSize (K : PySem.W.Frag) : Sp := fun vs H Q _ => ∃ (a : Addr) (ns : List Int) (k : Nat) (m : Int), vs = [.ref a, .int k, .int m] ∧ SqL K H a (ns.map V.int) ∧ k ≤ 7 ∧ 0 < m ∧ ∀ n : Int, 0 ≤ n → n < m → Q (.int n) H
def spShut26 (K : PySem.W.Frag) : Sp := fun vs H Q _ => ∃ (a : Addr) (h : Hall) (g n : Int), vs = [.ref a, .int g, .int n] ∧ SqT K H a (h.row.map V.int) ∧ h.Ok ∧ 0 ≤ g ∧ g ≤ 3 ∧ ∀ (b : Nat) (B : List Nat), (∀ k, b.testBit k = true → k ∈ B) → B.length ≤ g.toNat → Q (.int (b : Int)) H
def spEnds26 (K : PySem.W.Frag) : Sp := fun vs H Q _ => ∃ (a : Addr) (h : Hall) (w n : Int), vs = [.ref a, .int w, .int n] ∧ SqT K H a (h.row.map V.int) ∧ h.Ok ∧ 1 ≤ w ∧ w ≤ 3 ∧ ∀ (l : Addr) (es rs : List Int) (H' : Hp), Same H H' → H l = none → H' l = some (.lst (es.map V.int)) → EndsOk h es → (∀ e ∈ es, e / h.e ∈ rs) → rs.length ≤ w.toNat → Q (.ref l) H'
theorem end_in {h : Hall} (ok : h.Ok) {r p : Int} (hr : 0 ≤ r ∧ r < h.o) (hp : 0 ≤ p ∧ p < h.e) : (0 ≤ r * h.e + p ∧ r * h.e + p < h.o * h.e) ∧ (r * h.e + p) / h.e = r := by
 have o5 := ok.e
 have h1 : 0 ≤ r * h.e := Int.mul_nonneg hr.1 (by lia)
 have h2 : r * h.e ≤ (h.o - 1) * h.e := Int.mul_le_mul_of_nonneg_right (by lia) (by lia)
 rw [Int.sub_mul, Int.one_mul] at h2
 refine ⟨⟨by lia, by lia⟩, ?_⟩
 rw [Int.add_comm, Int.add_mul_ediv_right _ _ (by lia), Int.ediv_eq_zero_of_lt hp.1 hp.2, Int.zero_add]
section
variable {P : Program} {w : World} {K : PySem.W.Frag} {mg : Str → Option Value} {base : Heap}
theorem sc__law_size : FnScope ["_law_script", "_law_k", "_law_most", "_law_number"] ["_law_script", "_law_k", "_law_most"] (defScope (top 43)) := ⟨rfl, rfl, rfl, by decide +kernel, rfl, by decide +kernel, by decide +kernel⟩
theorem ok_size (T : Txt K mg) (C__law_cell_at : Callee P w K mg base 1 "_law_cell_at" ["_law_script", "_law_k"] (spCell K)) (D : Def K mg "_law_size" (top 43) ["_law_script", "_law_k", "_law_most"]) : Callee P w K mg base 2 "_law_size" ["_law_script", "_law_k", "_law_most"] (spSize K) := by
 refine D.ok sc__law_size (fun vs H Q E h => ?_) (fun f cdv A outer s H vs Q E hr h => ?_)
 ·obtain ⟨a, ns, k, m, rfl, _⟩ := h
  rfl
 obtain ⟨a, ns, k, m, rfl, hS, hk, hm, q⟩ := h
 refine ⟨_, (pss_cons (ps_set (i := 3) sc__law_size.nd rfl (Or.inl rfl) (pe_op op_add (pe_op op_mul (pe_op op_mod (pe_fn C__law_cell_at hr rfl (pa_cons (pv 0) (pa_cons (pv 1) pa_nil st_name) st_name)) (pe_op op_pow pe_int pe_int)) (pe_op op_add (pe_op op_mul pe_int (pv 1)) pe_int)) (pe_op op_mul pe_int (pv 1))))
  (pss_one (ps_ret (pe_op op_mod (pe_op op_mod (pv 3) pe_int) (pv 2))))), ?_⟩
 refine ⟨_, rfl, _, rfl, a, ns, k, rfl, hS, _, _, rfl, rfl, ⟨by decide, by decide, by decide⟩, _, _, rfl, rfl, (by show (0 : Int) < 10 ^ 18; decide), _, rfl, _, _, rfl, rfl, .inl ⟨by decide, by decide⟩, _, _, rfl, rfl, _, _, rfl, rfl, .inr ⟨by lia, by lia⟩, _, rfl, _, _, rfl, rfl, .inl ⟨by decide, by decide⟩, _, _, rfl, rfl, ?_⟩
 refine ⟨_, rfl, _, _, rfl, rfl, (by show (0 : Int) < 999983; decide), _, rfl, _, _, rfl, rfl, hm, ?_⟩
 have := mod_in (x := (cell ns k % 10 ^ 18 * (2 * (k : Int) + 48271) + 7 * (k : Int)) % 999983) hm
 exact q _ this.1 this.2
theorem sc__law_shut : FnScope ["_law_hall", "_law_gone", "_law_number", "_law_bits", "_law_k"] ["_law_hall", "_law_gone", "_law_number"] (defScope (top 44)) := ⟨rfl, rfl, rfl, by decide +kernel, rfl, by decide +kernel, by decide +kernel⟩
theorem ok_shut26 (T : Txt K mg) (D : Def K mg "_law_shut" (top 44) ["_law_hall", "_law_gone", "_law_number"]) : Callee P w K mg base 1 "_law_shut" ["_law_hall", "_law_gone", "_law_number"] (spShut26 K) := by
 refine D.ok sc__law_shut (fun vs H Q E h => ?_) (fun f cdv A outer s H vs Q E hr h => ?_)
 ·obtain ⟨a, h, g, n, rfl, _⟩ := h
  rfl
 obtain ⟨a, h, g, n, rfl, hH, ok, g0, g3, q⟩ := h
 have o3 := ok.m
 refine ⟨_, (pss_cons (ps_set (i := 3) sc__law_shut.nd rfl (Or.inl rfl) pe_int)
  (pss_cons (ps_for PassesOwn.never rfl (pi_range1 rfl T.m_range (pa_cons (pv 1) pa_nil st_name)) (pg_name (i := 4) sc__law_shut.nd rfl (Or.inl rfl))
  (pss_one (ps_set (i := 3) sc__law_shut.nd rfl (Or.inl rfl) (pe_op op_or (pv 3) (pe_op op_shl pe_int (pe_op op_mod (pe_op op_add (pe_op op_mod (pe_op op_mul (pv 2) pe_int) pe_int) (pv 4)) (pe_ix (ix_tupK K) (pv 0) pe_int (fun _ _ => rfl))))))))
  (pss_one (ps_ret (pv 3))))), ?_⟩
 refine ⟨_, rfl, _, rfl, by lia, by lia, ?_⟩
 refine for_range (fun i σ G => G = H ∧ ∃ (b : Nat) (B : List Nat) (v : Option V), (∀ k, b.testBit k = true → k ∈ B) ∧ B.length ≤ i ∧ σ = [some (.ref a), some (.int g), some (.int n), some (.int (b : Int)), v])
  ⟨rfl, 0, [], none, (fun k hk => by rw [Nat.zero_testBit] at hk; cases hk), Nat.le_refl _, rfl⟩ ?_ ?_
 ·rintro i σ G hi ⟨rfl, b, B, v, hB, hl, rfl⟩
  rw [Int.zero_add]
  have m := mod_in (x := n * 39373 % 999953 + (i : Int)) (show 0 < h.m by lia)
  refine ⟨_, rfl, _, rfl, _, _, rfl, rfl, .inr ⟨by decide, by decide⟩, _, _, rfl, rfl, (by show (0 : Int) < 999953; decide), _, rfl, _, _, rfl, rfl, _, rfl, a, _, _, _, rfl, rfl, hH, rfl, _, _, rfl, rfl, (by show 0 < h.m; lia), _, _, rfl, rfl, ⟨m.1, by show (n * 39373 % 999953 + (i : Int)) % h.m ≤ 1000000; lia, by decide⟩, _, _, rfl, rfl, ?_⟩
  obtain ⟨b', e1, e2⟩ := or_put b ((n * 39373 % 999953 + (i : Int)) % h.m).toNat
  refine ⟨rfl, b', B ++ [((n * 39373 % 999953 + (i : Int)) % h.m).toNat], some (.int (i : Int)), fun k hk => ?_, by rw [List.length_append, List.length_singleton]; lia, ?_⟩
  ·rcases e2 k hk with z | z
   ·rw [z]
    exact List.mem_append_right _ (List.mem_singleton.mpr rfl)
   ·exact List.mem_append_left _ (hB k z)
  ·rw [← e1]
   rfl
 ·rintro σ G ⟨rfl, b, B, v, hB, hl, rfl⟩
  exact ⟨_, rfl, q b B hB hl⟩
theorem sc__law_ends : FnScope ["_law_hall", "_law_w", "_law_number", "_law_left", "_law_racks", "_law_k", "_law_rack", "_law_ends_here", "_law_place"] ["_law_hall", "_law_w", "_law_number"] (defScope (top 45)) := ⟨rfl, rfl, rfl, by decide +kernel, rfl, by decide +kernel, by decide +kernel⟩
set_option maxHeartbeats 2000000 in
theorem ok_ends26 (T : Txt K mg) (D : Def K mg "_law_ends" (top 45) ["_law_hall", "_law_w", "_law_number"]) : Callee P w K mg base 1 "_law_ends" ["_law_hall", "_law_w", "_law_number"] (spEnds26 K) := by
 refine D.ok sc__law_ends (fun vs H Q E h => ?_) (fun f cdv A outer s H vs Q E hr h => ?_)
 ·obtain ⟨a, h, w, n, rfl, _⟩ := h
  rfl
 obtain ⟨a, h, w, n, rfl, hH, ok, w1, w3, q⟩ := h
 have b2 := ok.o
 have b3 := ok.e
 refine ⟨_, (pss_cons (ps_set (i := 3) sc__law_ends.nd rfl (Or.inl rfl) (pe_op op_fdivL (pv 2) (pe_op op_pow pe_int pe_int)))
  (pss_cons (ps_set (i := 4) sc__law_ends.nd rfl (Or.inl rfl) (pe_lst pa_nil))
  (pss_cons (ps_for PassesOwn.never rfl (pi_range1 rfl T.m_range (pa_cons (pv 1) pa_nil st_name)) (pg_name (i := 5) sc__law_ends.nd rfl (Or.inl rfl))
  (pss_cons (ps_set (i := 6) sc__law_ends.nd rfl (Or.inl rfl) (pe_op op_mod (pe_op op_mod (pe_op op_mul (pv 2) (pe_op op_add pe_int (pe_op op_mul (pe_op op_mul pe_int (pv 5)) (pv 5)))) pe_int) (pe_ix (ix_tupK K) (pv 0) pe_int (fun _ _ => rfl))))
  (pss_cons (ps_if (pt_cmpR op_gt (pv 3) pe_int (nomark _)) (pss_cons (ps_set (i := 6) sc__law_ends.nd rfl (Or.inl rfl) (pe_op op_mod (pv 3) (pe_ix (ix_tupK K) (pv 0) pe_int (fun _ _ => rfl))))
  (pss_one (ps_set (i := 3) sc__law_ends.nd rfl (Or.inl rfl) (pe_op op_fdiv (pv 3) (pe_ix (ix_tupK K) (pv 0) pe_int (fun _ _ => rfl)))))) pss_nil)
  (pss_one (ps_if (pt_cmpR (op_notInK K) (pv 6) (pv 4) (by with_unfolding_all rfl)) (pss_one (ps_expr (pe_bmK K PySem.F.plainAttrs_list PySem.F.slot_list_append PySem.F.type_list_append mt_appendR (pv 4) (pa_cons (pv 6) pa_nil st_name)))) pss_nil)))))
  (pss_cons (ps_set (i := 7) sc__law_ends.nd rfl (Or.inl rfl) (pe_lst pa_nil))
  (pss_cons (ps_for PassesOwn.never rfl (pi_range1 rfl T.m_range (pa_cons (pe_op op_add pe_int (pe_op op_mod (pe_op op_mod (pe_op op_mul (pv 2) pe_int) pe_int) pe_int)) pa_nil st_bin)) (pg_name (i := 5) sc__law_ends.nd rfl (Or.inl rfl))
  (pss_cons (ps_set (i := 8) sc__law_ends.nd rfl (Or.inl rfl) (pe_op op_mod (pe_op op_mod (pe_op op_mul (pv 2) (pe_op op_add pe_int (pe_op op_mul (pe_op op_mul pe_int (pv 5)) (pv 5)))) pe_int) (pe_ix (ix_tupK K) (pv 0) pe_int (fun _ _ => rfl))))
  (pss_cons (ps_set (i := 6) sc__law_ends.nd rfl (Or.inl rfl) (pe_ix (ix_listK K) (pv 4) (pe_op op_mod (pe_op op_mod (pe_op op_mul (pv 2) (pe_op op_add (pe_op op_mul pe_int (pv 5)) pe_int)) pe_int) (pe_callB (call_lenK K) rfl T.m_len boot_len (pa_cons (pv 4) pa_nil st_name))) (fun _ _ => rfl)))
  (pss_cons (ps_if (pt_cmpR op_gt (pv 3) pe_int (nomark _)) (pss_cons (ps_set (i := 8) sc__law_ends.nd rfl (Or.inl rfl) (pe_op op_mod (pv 3) (pe_ix (ix_tupK K) (pv 0) pe_int (fun _ _ => rfl))))
  (pss_one (ps_set (i := 3) sc__law_ends.nd rfl (Or.inl rfl) (pe_op op_fdiv (pv 3) (pe_ix (ix_tupK K) (pv 0) pe_int (fun _ _ => rfl)))))) pss_nil)
  (pss_one (ps_if (pt_cmpR (op_notInK K) (pe_op op_add (pe_op op_mul (pv 6) (pe_ix (ix_tupK K) (pv 0) pe_int (fun _ _ => rfl))) (pv 8)) (pv 7) (by with_unfolding_all rfl)) (pss_one (ps_expr (pe_bmK K PySem.F.plainAttrs_list PySem.F.slot_list_append PySem.F.type_list_append mt_appendR (pv 7) (pa_cons (pe_op op_add (pe_op op_mul (pv 6) (pe_ix (ix_tupK K) (pv 0) pe_int (fun _ _ => rfl))) (pv 8)) pa_nil st_bin)))) pss_nil))))))
  (pss_one (ps_ret (pv 7)))))))), ?_⟩
 refine ⟨_, rfl, _, _, rfl, rfl, ⟨by decide, by decide, by decide⟩, _, _, rfl, rfl, ⟨by show (0 : Int) < 10 ^ 18; decide, by show (10 : Int) ^ 18 < 18446744073709551616; decide⟩, ?_⟩
 refine ⟨(by show 0 ≤ sizeLine; decide), fun lr hlr => ?_⟩
 have elr := upd_same (H := H) (a := lr) (o := .lst [])
 have s1 := same_new hlr (.lst [])
 generalize upd H lr (.lst []) = H1 at elr s1 ⊢
 have key : ∀ (x : Int) (es : List Int), (!inV (.int x) (es.map V.int)) = true → ¬ x ∈ es := fun x es c => by rw [int_in] at c; simpa using c
 have key2 : ∀ (x : Int) (es : List Int), ¬ (!inV (.int x) (es.map V.int)) = true → x ∈ es := fun x es c => by rw [int_in] at c; simpa using c
 refine ⟨_, rfl, _, rfl, by lia, by lia, ?_⟩
 refine for_range (fun i σ G => Same H G ∧ ∃ (rs : List Int) (v3 : Int) (v5 v6 v7 v8 : Option V), (∀ r ∈ rs, 0 ≤ r ∧ r < h.o) ∧ (i = 0 ∨ rs ≠ []) ∧ rs.length ≤ i ∧ G lr = some (.lst (rs.map V.int)) ∧ σ = [some (.ref a), some (.int w), some (.int n), some (.int v3), some (.ref lr), v5, v6, v7, v8])
  ⟨s1, [], _, none, none, none, none, (fun r hr => nomatch hr), .inl rfl, Nat.le_refl _, elr, rfl⟩ ?_ ?_
 ·rintro i σ G hi ⟨s2, rs, v3, v5, v6, v7, v8, d1, d2, d3, e2, rfl⟩
  have hi' : i < 3 := by lia
  rw [Int.zero_add]
  have hk2 : 0 ≤ 2 * (i : Int) * (i : Int) ∧ 2 * (i : Int) * (i : Int) ≤ 6 * 3 := ⟨Int.mul_nonneg (by lia) (by lia), Int.mul_le_mul (by lia) (by lia) (by lia) (by lia)⟩
  have hH2 := Same.seqT s2 hH
  refine ⟨_, rfl, _, rfl, _, _, rfl, rfl, .inl ⟨by decide, by decide⟩, _, rfl, _, _, rfl, rfl, .inr ⟨by lia, by lia⟩, _, _, rfl, rfl, _, _, rfl, rfl, .inr ⟨by lia, by lia⟩, _, _, rfl, rfl, (by show (0 : Int) < 999983; decide), _, rfl, a, _, _, _, rfl, rfl, hH2, rfl, _, _, rfl, rfl, (by show 0 < h.o; lia), ?_⟩
  have fin : ∀ x : Int, 0 ≤ x ∧ x < h.o → (Same H (upd G lr (.lst (rs.map V.int ++ [.int x])))) ∧ (∀ r ∈ rs ++ [x], 0 ≤ r ∧ r < h.o) ∧ (i + 1 = 0 ∨ rs ++ [x] ≠ []) ∧ (rs ++ [x]).length ≤ i + 1 ∧ upd G lr (.lst (rs.map V.int ++ [.int x])) lr = some (.lst ((rs ++ [x]).map V.int)) := fun x hx => by
   refine ⟨Same.put s2 hlr, fun e he => ?_, .inr (by simp), by rw [List.length_append, List.length_singleton]; lia, by rw [upd_same, List.map_append]; rfl⟩
   rcases List.mem_append.mp he with c | c
   ·exact d1 e c
   ·rw [List.mem_singleton] at c
    rw [c]; exact hx
  refine ⟨_, rfl, _, _, rfl, rfl, _, rfl, ?_⟩
  refine ite2 (fun _ => ⟨_, rfl, _, rfl, a, _, _, _, rfl, rfl, hH2, rfl, _, _, rfl, rfl, (by show 0 < h.o; lia), _, rfl, _, rfl, a, _, _, _, rfl, rfl, hH2, rfl, _, _, rfl, rfl, ⟨by show 0 < h.o; lia, by show h.o < 1073741824; lia⟩, ?_⟩) (fun _ => ?_)
  all_goals
   refine ⟨_, rfl, _, rfl, lr, _, rfl, .inl (SqL.of e2), rfl, int_flat rs, _, rfl, ?_⟩
   refine ite2 (fun c => ?_) (fun c => ?_)
   ·obtain ⟨g0, g1, g2, g4, g5⟩ := fin _ (mod_in (by lia))
    exact ⟨_, rfl, .inl ⟨rfl, _, SqL.of e2⟩, _, rfl, lr, _, _, rfl, rfl, e2, small1000 (by rw [List.length_map]; lia), g0, _, _, _, _, _, _, g1, g2, g4, g5, rfl⟩
   ·exact ⟨s2, rs, _, _, _, _, _, d1, .inr (List.ne_nil_of_mem (key2 _ _ c)), by lia, e2, rfl⟩
 ·rintro σ G ⟨s2, rs, v3, v5, v6, v7, v8, d1, d2, d3, e2, rfl⟩
  have rne : rs ≠ [] := d2.resolve_left (by lia)
  refine ⟨(by show 0 ≤ sizeLine; decide), fun l hl => ?_⟩
  have el := upd_same (H := G) (a := l) (o := .lst [])
  have s3 := same_new hl (.lst [])
  have e3 := s3 _ _ e2
  have hl0 : H l = none := s2.free hl
  have nlr : lr ≠ l := fun z => by rw [← z, e2] at hl; cases hl
  generalize upd G l (.lst []) = G1 at el s3 e3 ⊢
  have s13 := s2.trans s3
  refine ⟨_, rfl, _, _, rfl, rfl, .inr ⟨by decide, by decide⟩, _, _, rfl, rfl, (by show (0 : Int) < 999961; decide), _, _, rfl, rfl, (by show (0 : Int) < 4; decide), _, _, rfl, rfl, _, rfl, by show -(2 ^ 62) ≤ 1 + n * 16807 % 999961 % 4; lia, by show 1 + n * 16807 % 999961 % 4 < 2 ^ 62; lia, ?_⟩
  refine for_range (fun i σ G' => Same H G' ∧ G' lr = some (.lst (rs.map V.int)) ∧ ∃ (es : List Int) (v3 : Int) (v5 v6 v8 : Option V), es.Nodup ∧ (∀ e ∈ es, (0 ≤ e ∧ e < h.o * h.e) ∧ e / h.e ∈ rs) ∧ (i = 0 ∨ es ≠ []) ∧ es.length ≤ i ∧ G' l = some (.lst (es.map V.int)) ∧ σ = [some (.ref a), some (.int w), some (.int n), some (.int v3), some (.ref lr), v5, v6, some (.ref l), v8])
   ⟨s13, e3, [], _, _, _, _, List.nodup_nil, (fun e he => nomatch he), .inl rfl, Nat.le_refl _, el, rfl⟩ ?_ ?_
  ·rintro i σ G' hi ⟨s4, e4, es, v3, v5, v6, v8, d1', d2', d3', d4', el4, rfl⟩
   have hi' : i < 4 := by lia
   rw [Int.zero_add]
   have hk2 : 0 ≤ 6 * (i : Int) * (i : Int) ∧ 6 * (i : Int) * (i : Int) ≤ 24 * 4 := ⟨Int.mul_nonneg (by lia) (by lia), Int.mul_le_mul (by lia) (by lia) (by lia) (by lia)⟩
   have hH2 := Same.seqT s4 hH
   obtain ⟨r, hr, er⟩ := at_mod (n * (2 * (i : Int) + 1) % 999907) rne
   have lp : 0 < rs.length := List.length_pos_iff.mpr rne
   have hr' := d1 r hr
   refine ⟨_, rfl, _, rfl, _, _, rfl, rfl, .inl ⟨by decide, by decide⟩, _, rfl, _, _, rfl, rfl, .inr ⟨by lia, by lia⟩, _, _, rfl, rfl, _, _, rfl, rfl, .inr ⟨by lia, by lia⟩, _, _, rfl, rfl, (by show (0 : Int) < 999979; decide), _, rfl, a, _, _, _, rfl, rfl, hH2, rfl, _, _, rfl, rfl, (by show 0 < h.e; lia), ?_⟩
   refine ⟨_, rfl, _, rfl, _, rfl, _, _, rfl, rfl, .inl ⟨by decide, by decide⟩, _, _, rfl, rfl, _, _, rfl, rfl, .inr ⟨by lia, by lia⟩, _, _, rfl, rfl, (by show (0 : Int) < 999907; decide), _, rfl, lr, _, rfl, .inl (SqL.of e4), _, _, rfl, rfl, (by rw [List.length_map]; lia), lr, _, _, _, rfl, rfl, SqL.of e4, er, ?_⟩
   have fin : ∀ x : Int, 0 ≤ x ∧ x < h.e → ¬ (r * h.e + x) ∈ es → (Same H (upd G' l (.lst (es.map V.int ++ [.int (r * h.e + x)])))) ∧ upd G' l (.lst (es.map V.int ++ [.int (r * h.e + x)])) lr = some (.lst (rs.map V.int)) ∧ (es ++ [r * h.e + x]).Nodup ∧ (∀ e ∈ es ++ [r * h.e + x], (0 ≤ e ∧ e < h.o * h.e) ∧ e / h.e ∈ rs) ∧ (i + 1 = 0 ∨ es ++ [r * h.e + x] ≠ []) ∧ (es ++ [r * h.e + x]).length ≤ i + 1 ∧ upd G' l (.lst (es.map V.int ++ [.int (r * h.e + x)])) l = some (.lst ((es ++ [r * h.e + x]).map V.int)) := fun x hx hn => by
    have ei := end_in ok hr' hx
    refine ⟨Same.put s4 hl0, by rw [upd_ne nlr]; exact e4, List.nodup_append.mpr ⟨d1', by simp, fun y hy z hz => ?_⟩, fun e he => ?_, .inr (by simp), by rw [List.length_append, List.length_singleton]; lia, by rw [upd_same, List.map_append]; rfl⟩
    ·rw [List.mem_singleton] at hz
     exact fun e => hn (by rw [← hz, ← e]; exact hy)
    ·rcases List.mem_append.mp he with c | c
     ·exact d2' e c
     ·rw [List.mem_singleton] at c
      rw [c]
      exact ⟨ei.1, by rw [ei.2]; exact hr⟩
   refine ⟨_, rfl, _, _, rfl, rfl, _, rfl, ?_⟩
   refine ite2 (fun _ => ⟨_, rfl, _, rfl, a, _, _, _, rfl, rfl, hH2, rfl, _, _, rfl, rfl, (by show 0 < h.e; lia), _, rfl, _, rfl, a, _, _, _, rfl, rfl, hH2, rfl, _, _, rfl, rfl, ⟨by show 0 < h.e; lia, by show h.e < 1073741824; lia⟩, ?_⟩) (fun _ => ?_)
   all_goals
    refine ⟨_, rfl, _, rfl, a, _, _, _, rfl, rfl, hH2, rfl, _, _, rfl, rfl, .inl ⟨by lia, by lia⟩, _, rfl, _, _, rfl, rfl, _, rfl, l, _, rfl, .inl (SqL.of el4), rfl, int_flat es, _, rfl, ?_⟩
    refine ite2 (fun c => ?_) (fun c => ?_)
    ·obtain ⟨g0, g6, g7, g1, g2, g4, g5⟩ := fin _ (mod_in (by lia)) (key _ _ c)
     exact ⟨_, rfl, .inl ⟨rfl, _, SqL.of el4⟩, _, rfl, _, rfl, a, _, _, _, rfl, rfl, hH2, rfl, _, _, rfl, rfl, .inl ⟨by lia, by lia⟩, _, rfl, _, _, rfl, rfl, l, _, _, rfl, rfl, el4, small1000 (by rw [List.length_map]; lia), g0, g6, _, _, _, _, _, g7, g1, g2, g4, g5, rfl⟩
    ·exact ⟨s4, e4, es, _, _, _, _, d1', d2', .inr (List.ne_nil_of_mem (key2 _ _ c)), by lia, el4, rfl⟩
  ·rintro σ G' ⟨s4, e4, es, v3, v5, v6, v8, d1', d2', d3', d4', el4, rfl⟩
   exact ⟨_, rfl, q l es rs G' s4 hl0 el4 ⟨d1', fun e he => (d2' e he).1, d3'.resolve_left (by lia), by lia⟩ (fun e he => (d2' e he).2) (by lia)⟩
end
def AlikeB (x y : V) : Prop := (x = .non ∧ y = .non) ∨ ∃ i : Int, x = .int i ∧ y = .int i
def AlikeAt (H : Hp) : Nat → V → V → Prop
 | 0, x, y => AlikeB x y
 | n + 1, x, y => AlikeB x y ∨ ∃ (p q : Addr) (xs ys : List V), x = .ref p ∧ y = .ref q ∧ ((H p = some (.lst xs) ∧ H q = some (.lst ys)) ∨ (H p = some (.tup xs) ∧ H q = some (.tup ys))) ∧ Paired (AlikeAt H n) xs ys ∧ xs.length ≤ 1000
def spAlike (n : Nat) : Sp := fun vs H Q _ => ∃ x y, vs = [x, y] ∧ AlikeAt H n x y ∧ Q (.bl true) H
theorem AlikeB.at {H : Hp} {n : Nat} {x y : V} (h : AlikeB x y) : AlikeAt H n x y := by
 cases n with
 | zero => exact h
 | succ n => exact .inl h
theorem alike_ints {H : Hp} {n : Nat} : ∀ ns : List Int, Paired (AlikeAt H n) (ns.map V.int) (ns.map V.int)
 | [] => .nil
 | i :: t => .cons (AlikeB.at (.inr ⟨i, rfl, rfl⟩)) (alike_ints t)
section
variable {P : Program} {w : World} {K : PySem.W.Frag} {mg : Str → Option Value} {base : Heap}
theorem callee_never {x : Str} {st : Stmt} {ps : List Str} (D : Def K mg x st ps) (k : Nat) : Callee P w K mg base k x ps (fun _ _ _ _ => False) := by
 obtain ⟨f, fd, F, b, m⟩ := D.ex
 exact ⟨f, fd, ⟨fun _ _ _ _ h => h.elim, fun _ _ _ _ _ _ _ _ _ _ _ _ _ h => h.elim⟩, b, F.kp, m⟩
theorem sc__law_alike : FnScope ["_law_found", "_law_due", "_law_k"] ["_law_found", "_law_due"] (defScope (top 42)) := ⟨rfl, rfl, rfl, by decide +kernel, rfl, by decide +kernel, by decide +kernel⟩
theorem alike_body (T : Txt K mg) (n : Nat) (sp : Sp) (C__law_alike : Callee P w K mg base n "_law_alike" ["_law_found", "_law_due"] sp) (D : Def K mg "_law_alike" (top 42) ["_law_found", "_law_due"]) (hsp : ∀ m, n = m + 1 → sp = spAlike m) : Callee P w K mg base (n+1) "_law_alike" ["_law_found", "_law_due"] (spAlike n) := by
 refine D.ok sc__law_alike (fun vs H Q E h => ?_) (fun f cdv A outer s H vs Q E hr h => ?_)
 ·obtain ⟨x, y, rfl, _⟩ := h
  rfl
 obtain ⟨x, y, rfl, hA, q⟩ := h
 refine ⟨_, (pss_cons (ps_if (pt_cmpR op_isN (pv 1) pe_non (nomark _)) (pss_one (ps_ret (pe_cmpR op_isN (pv 0) pe_non (nomark _)))) pss_nil)
  (pss_cons (ps_if (pt_truK K (pe_callB (call_isinstK K) rfl T.m_isinstance boot_isinstance (pa_cons (pv 1) (pa_cons (pe_bltn (v := .ty "int") rfl T.m_int boot_int rfl) pa_nil st_name) st_name)) (fun _ => rfl)) (pss_one (ps_ret (pe_and (pe_callB (call_isinstK K) rfl T.m_isinstance boot_isinstance (pa_cons (pv 0) (pa_cons (pe_bltn (v := .ty "int") rfl T.m_int boot_int rfl) pa_nil st_name) st_name)) (pe_and (pe_not (pe_callB (call_isinstK K) rfl T.m_isinstance boot_isinstance (pa_cons (pv 0) (pa_cons (pe_bltn (v := .ty "bool") rfl T.m_bool boot_bool rfl) pa_nil st_name) st_name))) (pe_one (pe_cmpR op_eq (pv 0) (pv 1) (nomark _))))))) pss_nil)
  (pss_cons (ps_if (pt_truK K (pe_callB (call_isinstK K) rfl T.m_isinstance boot_isinstance (pa_cons (pv 1) (pa_cons (pe_bltn (v := .ty "tuple") rfl T.m_tuple boot_tuple rfl) pa_nil st_name) st_name)) (fun _ => rfl)) (pss_one (ps_if (pt_not (pt_truK K (pe_callB (call_isinstK K) rfl T.m_isinstance boot_isinstance (pa_cons (pv 0) (pa_cons (pe_bltn (v := .ty "tuple") rfl T.m_tuple boot_tuple rfl) pa_nil st_name) st_name)) (fun _ => rfl))) (pss_one (ps_ret pe_bl)) pss_nil)) (pss_one (ps_if (pt_not (pt_truK K (pe_callB (call_isinstK K) rfl T.m_isinstance boot_isinstance (pa_cons (pv 0) (pa_cons (pe_bltn (v := .ty "list") rfl T.m_list boot_list rfl) pa_nil st_name) st_name)) (fun _ => rfl))) (pss_one (ps_ret pe_bl)) pss_nil)))
  (pss_cons (ps_if (pt_cmpR op_ne (pe_callB (call_lenK K) rfl T.m_len boot_len (pa_cons (pv 0) pa_nil st_name)) (pe_callB (call_lenK K) rfl T.m_len boot_len (pa_cons (pv 1) pa_nil st_name)) (nomark _)) (pss_one (ps_ret pe_bl)) pss_nil)
  (pss_cons (ps_for PassesOwn.never rfl (pi_range1 rfl T.m_range (pa_cons (pe_callB (call_lenK K) rfl T.m_len boot_len (pa_cons (pv 1) pa_nil st_name)) pa_nil st_call)) (pg_name (i := 2) sc__law_alike.nd rfl (Or.inl rfl))
  (pss_one (ps_if (pt_not (pt_truK K (pe_fn C__law_alike hr rfl (pa_cons (pe_ix ix_seq (pv 0) (pv 2) (fun _ _ => rfl)) (pa_cons (pe_ix ix_seq (pv 1) (pv 2) (fun _ _ => rfl)) pa_nil st_sub) st_sub) (Nat.le_refl _)) (fun _ => rfl))) (pss_one (ps_ret pe_bl)) pss_nil)))
  (pss_one (ps_ret pe_bl))))))), ?_⟩
 have hB : AlikeB x y ∨ ∃ m, n = m + 1 ∧ ∃ (p q : Addr) (xs ys : List V), x = .ref p ∧ y = .ref q ∧ ((H p = some (.lst xs) ∧ H q = some (.lst ys)) ∨ (H p = some (.tup xs) ∧ H q = some (.tup ys))) ∧ Paired (AlikeAt H m) xs ys ∧ xs.length ≤ 1000 := by
  cases n with
  | zero => exact .inl hA
  | succ m => exact hA.imp id fun z => ⟨m, rfl, z⟩
 rcases hB with (⟨rfl, rfl⟩ | ⟨i, rfl, rfl⟩) | ⟨m, rfl, p, r, xs, ys, rfl, rfl, hk, hp, h1000⟩
 ·exact ⟨_, rfl, rfl, _, rfl, iteT ⟨_, rfl, rfl, q⟩⟩
 ·refine ⟨_, rfl, rfl, _, rfl, iteF ?_⟩
  refine ⟨_, rfl, _, _, _, true, rfl, .int i, kit_int_int, true, rfl, iteT ?_⟩
  refine ⟨_, rfl, _, _, _, true, rfl, .int i, kit_int_int, _, rfl, iteT ?_⟩
  refine ⟨_, rfl, _, _, _, false, rfl, .int i, kit_int_bool, _, rfl, _, rfl, iteT ?_⟩
  refine ⟨_, rfl, _, rfl, rfl, ?_⟩
  rw [decide_eq_true rfl]
  exact q
 ·obtain rfl := hsp m rfl
  have ln := Paired.length hp
  refine ⟨_, rfl, rfl, _, rfl, iteF ?_⟩
  rcases hk with ⟨k1, k2⟩ | ⟨k1, k2⟩
  ·refine ⟨_, rfl, _, _, _, false, rfl, .lst k2, kit_lst_int, false, rfl, iteF ?_⟩
   refine ⟨_, rfl, _, _, _, false, rfl, .lst k2, kit_lst_tup, false, rfl, iteF ?_⟩
   refine ⟨_, rfl, _, _, _, true, rfl, .lst k1, kit_lst_lst, true, rfl, iteF ?_⟩
   refine ⟨_, rfl, p, _, rfl, .inl (SqL.of k1), _, rfl, r, _, rfl, .inl (SqL.of k2), rfl, _, rfl, iteN (by simp [ln]) ?_⟩
   refine ⟨_, rfl, r, _, rfl, .inl (SqL.of k2), _, rfl, by lia, by lia, ?_⟩
   rw [Int.toNat_natCast]
   refine for_range (fun i σ H' => H' = H ∧ ∃ v, σ = [some (.ref p), some (.ref r), v]) ⟨rfl, _, rfl⟩ ?_ ?_
   ·rintro i σ H' hi ⟨rfl, v, rfl⟩
    rw [Int.zero_add]
    have ex : xs[i]? = some (xs[i]'(by lia)) := List.getElem?_eq_getElem (by lia)
    obtain ⟨y, ey, al⟩ := paired_at hp i _ ex
    refine ⟨_, rfl, _, rfl, .inl ⟨p, _, _, _, rfl, rfl, SqL.of k1, atI_nat ex, _, rfl, _, rfl, .inl ⟨r, _, _, _, rfl, rfl, SqL.of k2, atI_nat ey, _, _, rfl, al, _, rfl, iteF ⟨rfl, _, rfl⟩⟩⟩⟩
   ·rintro σ H' ⟨rfl, v, rfl⟩
    exact q
  ·refine ⟨_, rfl, _, _, _, false, rfl, .tup k2, kit_tup_int, false, rfl, iteF ?_⟩
   refine ⟨_, rfl, _, _, _, true, rfl, .tup k2, kit_tup_tup, true, rfl, iteT ?_⟩
   refine ⟨_, rfl, _, _, _, true, rfl, .tup k1, kit_tup_tup, true, rfl, iteF ?_⟩
   refine ⟨_, rfl, p, _, rfl, .inr (SqT.of k1), _, rfl, r, _, rfl, .inr (SqT.of k2), rfl, _, rfl, iteN (by simp [ln]) ?_⟩
   refine ⟨_, rfl, r, _, rfl, .inr (SqT.of k2), _, rfl, by lia, by lia, ?_⟩
   rw [Int.toNat_natCast]
   refine for_range (fun i σ H' => H' = H ∧ ∃ v, σ = [some (.ref p), some (.ref r), v]) ⟨rfl, _, rfl⟩ ?_ ?_
   ·rintro i σ H' hi ⟨rfl, v, rfl⟩
    rw [Int.zero_add]
    have ex : xs[i]? = some (xs[i]'(by lia)) := List.getElem?_eq_getElem (by lia)
    obtain ⟨y, ey, al⟩ := paired_at hp i _ ex
    refine ⟨_, rfl, _, rfl, .inr (.inl ⟨p, _, _, _, rfl, rfl, SqT.of k1, atI_nat ex, _, rfl, _, rfl, .inr (.inl ⟨r, _, _, _, rfl, rfl, SqT.of k2, atI_nat ey, _, _, rfl, al, _, rfl, iteF ⟨rfl, _, rfl⟩⟩)⟩)⟩
   ·rintro σ H' ⟨rfl, v, rfl⟩
    exact q
theorem ok_alike (T : Txt K mg) (D : Def K mg "_law_alike" (top 42) ["_law_found", "_law_due"]) : ∀ n, Callee P w K mg base (n+1) "_law_alike" ["_law_found", "_law_due"] (spAlike n)
 | 0 => alike_body T 0 _ (callee_never D 0) D fun m h => nomatch h
 | n + 1 => alike_body T (n + 1) _ (ok_alike T D n) D fun m h => by cases h; rfl
end
def leftK (ks : List Call) (c : Int) : List Call := ks.filter fun k => !decide (k.c = c)
theorem leftA_keep {H : Hp} : ∀ {as : List Addr} {ks : List Call} {c : Int}, CallsAt H as ks → CallsAt H (leftA as ks c) (leftK ks c)
 | _, _, _, .nil => .nil
 | _, _, c, .cons (a := a) (b := k) h t => by
  have q := leftA_keep (c := c) t
  unfold leftK at q ⊢
  rw [List.filter_cons]
  by_cases e : k.c = c
  ·show CallsAt H (if k.c = c then _ else _) _
   rw [if_pos e, decide_eq_true e]
   exact q
  ·show CallsAt H (if k.c = c then _ else _) _
   rw [if_neg e, decide_eq_false e]
   exact .cons h q
theorem ints_one {l1 l2 : List Int} (p : l1.Perm l2) (s1 : l1.Pairwise (· ≤ ·)) (s2 : l2.Pairwise (· ≤ ·)) : l1 = l2 := p.eq_of_pairwise (fun a b _ _ h1 h2 => Int.le_antisymm h1 h2) s1 s2
theorem calls_one {l1 l2 : List Call} (p : l1.Perm l2) (s1 : l1.Pairwise fun k k' => k.c < k'.c) (s2 : l2.Pairwise fun k k' => k.c < k'.c) : l1 = l2 := p.eq_of_pairwise (fun a b _ _ h1 h2 => absurd h1 (by lia)) s1 s2
theorem alike_call {H : Hp} {p p' : Addr} {κ : Call} (h : CallAt H p κ) (h' : CallAt H p' κ) (few : κ.es.length ≤ 1000) : AlikeAt H 2 (.ref p) (.ref p') := by
 obtain ⟨t, t1, t2⟩ := h
 obtain ⟨t', t1', t2'⟩ := h'
 exact .inr ⟨p, p', _, _, rfl, rfl, .inr ⟨t2, t2'⟩, .cons (AlikeB.at (.inr ⟨_, rfl, rfl⟩)) (.cons (.inr ⟨t, t', _, _, rfl, rfl, .inr ⟨t1, t1'⟩, alike_ints κ.es, by rw [List.length_map]; exact few⟩) (.cons (AlikeB.at (.inr ⟨_, rfl, rfl⟩)) .nil)), by show 3 ≤ 1000; decide⟩
theorem alike_calls {H : Hp} : ∀ {bs as' : List Addr} {ks : List Call}, CallsAt H bs ks → CallsAt H as' ks → (∀ κ ∈ ks, κ.es.length ≤ 1000) → Paired (AlikeAt H 2) (bs.map V.ref) (as'.map V.ref)
 | _, _, [], .nil, .nil, _ => .nil
 | _, _, κ :: _, .cons h t, .cons h' t', few => .cons (alike_call h h' (few _ (List.mem_cons_self ..))) (alike_calls t t' fun κ hκ => few κ (List.mem_cons_of_mem _ hκ))
def spEndedN (K : PySem.W.Frag) : Sp := fun vs H Q _ => ∃ (l : Addr) (c : Int) (as : List Addr) (ks : List Call), vs = [.ref l, .int c] ∧ SqL K H l (as.map V.ref) ∧ CallsAt H as ks ∧ ks.length ≤ 63 ∧ (∃ k ∈ ks, k.c = c) ∧ ∀ f, H f = none → Q (.ref f) (upd H f (.lst ((leftA as ks c).map V.ref)))
def spEnded26 (K : PySem.W.Frag) : Sp := fun vs H Q _ => ∃ (v : V) (l : Addr) (c : Int) (as : List Addr) (ks : List Call), vs = [v, .ref l, .int c] ∧ H l = some (.lst (as.map V.ref)) ∧ CallsAt H as ks ∧ ks.length ≤ 63 ∧ (∃ k ∈ ks, k.c = c) ∧ (∀ k ∈ ks, k.es.length ≤ 12) ∧
 ∀ f H', Same H H' → H' f = some (.lst ((leftA as ks c).map V.ref)) → CallsAt H' (leftA as ks c) (leftK ks c) → Q (.ref f) H'
def spIdle26 (K : PySem.W.Frag) : Sp := fun vs H Q _ => ∃ (a l p : Addr) (h : Hall) (as : List Addr) (ks : List Call) (c : Int) (es es' : List Int) (k b : Nat), vs = [.ref a, .ref l, .ref p, .int (b : Int)] ∧ SqT K H a (h.row.map V.int) ∧ h.Ok ∧ H l = some (.lst (as.map V.ref)) ∧ CallsAt H as ks ∧ ks.length ≤ 63 ∧ (∀ k ∈ ks, k.In h) ∧ CallAt H p ⟨c, es', k⟩ ∧ es'.length ≤ 12 ∧ es'.Perm es ∧ k ∈ waysM h ks c es b ∧
 ∀ H', Same H H' → Q (.bl true) H'
section
variable {P : Program} {w : World} {K : PySem.W.Frag} {mg : Str → Option Value} {base : Heap}
theorem sc_ended : FnScope ["calls", "caller"] ["calls", "caller"] (defScope (top 39)) := ⟨rfl, rfl, rfl, by decide +kernel, rfl, by decide +kernel, by decide +kernel⟩
theorem ok_endedN (T : Txt K mg) (C_call_of : Callee P w K mg base 2 "call_of" ["calls", "caller"] (spCallOf K)) (D : Def K mg "ended" (top 39) ["calls", "caller"]) : Callee P w K mg base 3 "ended" ["calls", "caller"] (spEndedN K) := by
 refine D.ok sc_ended (fun vs H Q E h => ?_) (fun f cdv A outer s H vs Q E hr h => ?_)
 ·obtain ⟨l, c, as, ks, rfl, _⟩ := h
  rfl
 obtain ⟨l, c, as, ks, rfl, hL, hC, h63, ⟨k0, hk0, hc0⟩, q⟩ := h
 have la := Paired.length hC
 refine ⟨_, (pss_cons (ps_if (pt_cmpR op_isN (pe_fn C_call_of hr rfl (pa_cons (pv 0) (pa_cons (pv 1) pa_nil st_name) st_name)) pe_non (nomark _)) (pss_one ps_never) pss_nil)
  (pss_one (ps_ret (pe_comp (own := ["call"]) (fr := [(1, "caller")]) rfl (show CompScope ["calls", "caller"] (defScope (top 39)) _ _ _ from ⟨rfl, by decide +kernel, by decide +kernel, by decide +kernel, by decide +kernel⟩) (pi_listK K (pv 0)) (fun cl C s H ex => ⟨(pg_name (i := 0) (show (["call", "caller"] : List Str).Nodup from by decide +kernel) rfl (Or.inl rfl) (Or.inr rfl)), (pif_one (pt_cmpR op_ne (pe_ix (ix_tupK K) (pv 0) pe_int (fun _ _ => rfl)) (pv 1) (nomark _))), (pv 0)⟩))))), ?_⟩
 refine ⟨_, rfl, _, rfl, l, .int c, as, ks, rfl, hL, hC, .int c, ?_⟩
 refine .inr ⟨c, rfl, fun v hv => ?_⟩
 obtain ⟨j, a, k, ha, hk, hkc, rfl⟩ : ∃ (j : Nat) (a : Addr) (k : Call), as[j]? = some a ∧ ks[j]? = some k ∧ k.c = c ∧ v = .ref a := by
  rcases hv with ⟨_, z⟩ | z
  ·exact absurd hc0 (z k0 hk0)
  ·exact z
 refine ⟨rfl, _, rfl, iteF ?_⟩
 refine ⟨_, rfl, l, rfl, ⟨_, hL⟩, ?_⟩
 refine comp_list (xs := as.map V.ref) (fun i acc σ H' => H' = H ∧ acc = (leftA (as.take i) (ks.take i) c).map V.ref ∧ ∃ v, σ = [v, some (.int c)])
  ⟨rfl, rfl, none, rfl⟩ (Nat.le_of_lt (small1000 (by rw [List.length_map]; lia))) (fun i acc σ H' g => ?_) (fun i acc σ H' _ g => g.1 ▸ hL) ?_ ?_
 ·obtain ⟨_, rfl, _⟩ := g
  have := leftA_len (as.take i) (ks.take i) c
  rw [List.length_map]
  rw [List.length_take] at this
  lia
 ·rintro i y acc σ H' hy ⟨rfl, rfl, v, rfl⟩
  rw [List.getElem?_map] at hy
  obtain ⟨a', ha', rfl⟩ := Option.map_eq_some_iff.mp hy
  obtain ⟨k', hk', ce, e1, e2⟩ := paired_at hC i a' ha'
  have st : leftA (as.take (i + 1)) (ks.take (i + 1)) c = leftA (as.take i) (ks.take i) c ++ (if k'.c = c then [] else [a']) := by
   rw [List.take_succ, List.take_succ, ha', hk']
   exact leftA_snoc (by rw [List.length_take, List.length_take, la])
  refine ⟨_, rfl, a', _, _, _, rfl, rfl, SqT.of e2, rfl, _, rfl, rfl, _, rfl, ?_⟩
  refine ite2 (fun cc => ?_) (fun cc => ?_)
  ·have cc' : ¬ k'.c = c := by simpa using cc
   refine ⟨_, rfl, rfl, ?_, _, rfl⟩
   rw [st, if_neg cc', List.map_append]
   rfl
  ·have cc' : k'.c = c := by simpa using cc
   refine ⟨rfl, ?_, _, rfl⟩
   rw [st, if_pos cc', List.append_nil]
 ·rintro acc σ H' ⟨rfl, rfl, v, rfl⟩ f hf
  rw [List.length_map, List.take_length, la, List.take_length]
  exact q f hf
theorem sc__law_ended : FnScope ["_law_hall", "_law_calls", "_law_caller", "_law_left"] ["_law_hall", "_law_calls", "_law_caller"] (defScope (top 48)) := ⟨rfl, rfl, rfl, by decide +kernel, rfl, by decide +kernel, by decide +kernel⟩
theorem ok_ended26 (T : Txt K mg) (C_ended : Callee P w K mg base 3 "ended" ["calls", "caller"] (spEndedN K)) (C__law_alike : Callee P w K mg base 4 "_law_alike" ["_law_found", "_law_due"] (spAlike 3)) (D : Def K mg "_law_ended" (top 48) ["_law_hall", "_law_calls", "_law_caller"]) : Callee P w K mg base 5 "_law_ended" ["_law_hall", "_law_calls", "_law_caller"] (spEnded26 K) := by
 refine D.ok sc__law_ended (fun vs H Q E h => ?_) (fun f cdv A outer s H vs Q E hr h => ?_)
 ·obtain ⟨v, l, c, as, ks, rfl, _⟩ := h
  rfl
 obtain ⟨v0, l, c, as, ks, rfl, el, hC, h63, hmem, few, q⟩ := h
 have la := Paired.length hC
 have hL : SqL K H l (as.map V.ref) := SqL.of el
 refine ⟨_, (pss_cons (ps_comp (i := 3) (own := ["_law_call"]) (fr := [(2, "_law_caller")]) rfl sc__law_ended.nd rfl rfl (show CompScope ["_law_hall", "_law_calls", "_law_caller", "_law_left"] (defScope (top 48)) _ _ _ from ⟨rfl, by decide +kernel, by decide +kernel, by decide +kernel, by decide +kernel⟩) (pi_listK K (pv 1)) (fun cl C s H ex => ⟨(pg_name (i := 0) (show (["_law_call", "_law_caller"] : List Str).Nodup from by decide +kernel) rfl (Or.inl rfl) (Or.inr rfl)), (pif_one (pt_cmpR op_ne (pe_ix (ix_tupK K) (pv 0) pe_int (fun _ _ => rfl)) (pv 1) (nomark _))), (pv 0)⟩) rfl)
  (pss_cons (ps_if (pt_not (pt_truK K (pe_fn C__law_alike hr rfl (pa_cons (pe_fn C_ended hr rfl (pa_cons (pe_callTy (call_listK K) rfl T.m_list boot_list (pa_cons (pv 1) pa_nil st_name)) (pa_cons (pv 2) pa_nil st_name) st_call)) (pa_cons (pv 3) pa_nil st_name) st_call)) (fun _ => rfl))) (pss_one (ps_ret pe_non)) pss_nil)
  (pss_one (ps_ret (pv 3))))), ?_⟩
 refine ⟨_, rfl, l, rfl, ⟨_, hL⟩, ?_⟩
 refine comp_list (xs := as.map V.ref) (fun i acc σ H' => H' = H ∧ acc = (leftA (as.take i) (ks.take i) c).map V.ref ∧ ∃ v, σ = [v, some (.int c)])
  ⟨rfl, rfl, none, rfl⟩ (Nat.le_of_lt (small1000 (by rw [List.length_map]; lia))) (fun i acc σ H' g => ?_) (fun i acc σ H' _ g => g.1 ▸ hL) ?_ ?_
 ·obtain ⟨_, rfl, _⟩ := g
  have := leftA_len (as.take i) (ks.take i) c
  rw [List.length_map]
  rw [List.length_take] at this
  lia
 ·rintro i y acc σ H' hy ⟨rfl, rfl, v, rfl⟩
  rw [List.getElem?_map] at hy
  obtain ⟨a', ha', rfl⟩ := Option.map_eq_some_iff.mp hy
  obtain ⟨k', hk', ce, e1, e2⟩ := paired_at hC i a' ha'
  have st : leftA (as.take (i + 1)) (ks.take (i + 1)) c = leftA (as.take i) (ks.take i) c ++ (if k'.c = c then [] else [a']) := by
   rw [List.take_succ, List.take_succ, ha', hk']
   exact leftA_snoc (by rw [List.length_take, List.length_take, la])
  refine ⟨_, rfl, a', _, _, _, rfl, rfl, SqT.of e2, rfl, _, rfl, rfl, _, rfl, ?_⟩
  refine ite2 (fun cc => ?_) (fun cc => ?_)
  ·have cc' : ¬ k'.c = c := by simpa using cc
   refine ⟨_, rfl, rfl, ?_, _, rfl⟩
   rw [st, if_neg cc', List.map_append]
   rfl
  ·have cc' : k'.c = c := by simpa using cc
   refine ⟨rfl, ?_, _, rfl⟩
   rw [st, if_pos cc', List.append_nil]
 ·rintro acc σ H' ⟨rfl, rfl, v, rfl⟩ g hg
  rw [List.length_map, List.take_length, la, List.take_length]
  have s1 := same_new hg (.lst ((leftA as ks c).map V.ref))
  have e1 := upd_same (H := H') (a := g) (o := .lst ((leftA as ks c).map V.ref))
  generalize upd H' g (.lst ((leftA as ks c).map V.ref)) = H1 at s1 e1 ⊢
  refine ⟨_, rfl, l, _, rfl, .inl (SqL.of (s1 _ _ el)), fun cl hcl => ?_⟩
  have s2' := same_new hcl (.lst (as.map V.ref))
  have s2 := s1.trans s2'
  have e2 := upd_same (H := H1) (a := cl) (o := .lst (as.map V.ref))
  have e12 := s2' _ _ e1
  generalize upd H1 cl (.lst (as.map V.ref)) = H2 at s2 e2 e12 ⊢
  have hC2 := CallsAt.same (fun b xs z => s2 _ _ z) hC
  refine ⟨_, rfl, cl, c, as, ks, rfl, SqL.of e2, hC2, h63, hmem, fun f2 hf2 => ?_⟩
  have s3' := same_new hf2 (.lst ((leftA as ks c).map V.ref))
  have s3 := s2.trans s3'
  have e3 := upd_same (H := H2) (a := f2) (o := .lst ((leftA as ks c).map V.ref))
  have e13 := s3' _ _ e12
  generalize upd H2 f2 (.lst ((leftA as ks c).map V.ref)) = H3 at s3 e3 e13 ⊢
  have hC3 : CallsAt H3 (leftA as ks c) (leftK ks c) := leftA_keep (CallsAt.same (fun b xs z => s3 _ _ z) hC)
  have ll := leftA_len as ks c
  refine ⟨_, rfl, _, _, rfl, .inr ⟨f2, g, _, _, rfl, rfl, .inl ⟨e3, e13⟩, alike_calls hC3 hC3 (fun κ hκ => ?_), by rw [List.length_map]; lia⟩, _, rfl, iteF ?_⟩
  ·have := few κ (List.mem_filter.mp hκ).1
   lia
  ·exact ⟨_, rfl, q g H3 s3 e13 hC3⟩
theorem sc__law_idle : FnScope ["_law_hall", "_law_calls", "_law_call", "_law_shut_here", "_law_racks", "_law_one"] ["_law_hall", "_law_calls", "_law_call", "_law_shut_here"] (defScope (top 46)) := ⟨rfl, rfl, rfl, by decide +kernel, rfl, by decide +kernel, by decide +kernel⟩
set_option maxHeartbeats 1000000 in
theorem ok_idle26 (T : Txt K mg) (D : Def K mg "_law_idle" (top 46) ["_law_hall", "_law_calls", "_law_call", "_law_shut_here"]) : Callee P w K mg base 1 "_law_idle" ["_law_hall", "_law_calls", "_law_call", "_law_shut_here"] (spIdle26 K) := by
 refine D.ok sc__law_idle (fun vs H Q E h => ?_) (fun f cdv A outer s H vs Q E hr h => ?_)
 ·obtain ⟨a, l, p, h, as, ks, c, es, es', k, b, rfl, _⟩ := h
  rfl
 obtain ⟨a, l, p, h, as, ks, c, es, es', k, b, rfl, hH, ok, el, hC, h63, hin, ⟨ce, e1, e2⟩, few, pm, hk, q⟩ := h
 have la := Paired.length hC
 have o2 := ok.c
 have o3 := ok.m
 have o5 := ok.e
 obtain ⟨hk1, hk2⟩ := mem_ways.mp hk
 have klt := open_lt hk1
 have kop : openB (b : Int) k = true := (List.mem_filter.mp hk1).2
 have no : ∀ κ ∈ ks, κ.k = (k : Int) → ¬ κ.c / h.c = c / h.c ∧ ∀ e ∈ κ.es, ¬ e / h.e ∈ es'.map fun e => e / h.e := by
  intro κ hκ e
  have nb : ¬ (decide (κ.k = (k : Int)) && needB h (c / h.c) (racksM h es) κ) = true := fun z => by
   have : κ.c ∈ hrow h ks (c / h.c) (racksM h es) k := List.mem_map.mpr ⟨κ, List.mem_filter.mpr ⟨hκ, z⟩, rfl⟩
   rw [hk2] at this
   cases this
  rw [decide_eq_true e, Bool.true_and] at nb
  unfold needB at nb
  rw [Bool.or_eq_true, decide_eq_true_iff, List.any_eq_true] at nb
  refine ⟨fun z => nb (.inl z), fun x hx z => nb (.inr ⟨x / h.e, mem_racks'.mpr ⟨x, hx, rfl⟩, decide_eq_true ?_⟩)⟩
  obtain ⟨y, hy, ey⟩ := List.mem_map.mp z
  exact mem_racks'.mpr ⟨y, pm.mem_iff.mp hy, ey⟩
 refine ⟨_, (pss_cons (ps_if (PW.pt (pw_or (pt_not (pt_chain op_le op_lt pe_int (pe_ix (ix_tupK K) (pv 2) pe_int (fun _ _ => rfl)) (pe_ix (ix_tupK K) (pv 0) pe_int (fun _ _ => rfl)))) (pw_or1 (pt_cmpR op_eq (pe_op op_and (pe_op op_shr (pv 3) (pe_ix (ix_tupK K) (pv 2) pe_int (fun _ _ => rfl))) pe_int) pe_int (nomark _))))) (pss_one (ps_ret pe_bl)) pss_nil)
  (pss_cons (ps_set (i := 4) sc__law_idle.nd rfl (Or.inr rfl) (pe_comp (own := ["_law_end"]) (fr := [(0, "_law_hall")]) rfl (show CompScope ["_law_hall", "_law_calls", "_law_call", "_law_shut_here", "_law_racks", "_law_one"] (defScope (top 46)) _ _ _ from ⟨rfl, by decide +kernel, by decide +kernel, by decide +kernel, by decide +kernel⟩) (pi_tupK K (pe_ix (ix_tupK K) (pv 2) pe_int (fun _ _ => rfl))) (fun cl C s H ex => ⟨(pg_name (i := 0) (show (["_law_end", "_law_hall"] : List Str).Nodup from by decide +kernel) rfl (Or.inl rfl) (Or.inr rfl)), pif_nil, (pe_op op_fdiv (pv 0) (pe_ix (ix_tupK K) (pv 1) pe_int (fun _ _ => rfl)))⟩)))
  (pss_cons (ps_for PassesOwn.never rfl (pi_listK K (pv 1)) (pg_name (i := 5) sc__law_idle.nd rfl (Or.inl rfl))
  (pss_one (ps_if (pt_cmpR op_eq (pe_ix (ix_tupK K) (pv 5) pe_int (fun _ _ => rfl)) (pe_ix (ix_tupK K) (pv 2) pe_int (fun _ _ => rfl)) (nomark _)) (pss_cons (ps_if (pt_cmpR op_eq (pe_op op_fdiv (pe_ix (ix_tupK K) (pv 5) pe_int (fun _ _ => rfl)) (pe_ix (ix_tupK K) (pv 0) pe_int (fun _ _ => rfl))) (pe_op op_fdiv (pe_ix (ix_tupK K) (pv 2) pe_int (fun _ _ => rfl)) (pe_ix (ix_tupK K) (pv 0) pe_int (fun _ _ => rfl))) (nomark _)) (pss_one (ps_ret pe_bl)) pss_nil)
  (pss_one (ps_if (pt_cmpR (op_neIK K (Room.units0 hr)) (pe_comp (own := ["_law_end"]) (fr := [(0, "_law_hall"), (4, "_law_racks")]) rfl (show CompScope ["_law_hall", "_law_calls", "_law_call", "_law_shut_here", "_law_racks", "_law_one"] (defScope (top 46)) _ _ _ from ⟨rfl, by decide +kernel, by decide +kernel, by decide +kernel, by decide +kernel⟩) (pi_tupK K (pe_ix (ix_tupK K) (pv 5) pe_int (fun _ _ => rfl))) (fun cl C s H ex => ⟨(pg_name (i := 0) (show (["_law_end", "_law_hall", "_law_racks"] : List Str).Nodup from by decide +kernel) rfl (Or.inl rfl) (Or.inr rfl)), (pif_one (pt_cmpR (op_inK K) (pe_op op_fdiv (pv 0) (pe_ix (ix_tupK K) (pv 1) pe_int (fun _ _ => rfl))) (pv 2) (by with_unfolding_all rfl))), (pv 0)⟩)) (pe_lst pa_nil) (nomark _)) (pss_one (ps_ret pe_bl)) pss_nil))) pss_nil)))
  (pss_one (ps_ret pe_bl))))), ?_⟩
 refine ⟨_, rfl, p, _, _, _, rfl, rfl, SqT.of e2, rfl, _, _, rfl, rfl, _, rfl, ?_⟩
 rw [show decide ((0 : Int) ≤ (k : Int)) = true from decide_eq_true (by lia)]
 refine iteT ⟨_, rfl, a, _, _, _, rfl, rfl, hH, rfl, _, _, rfl, rfl, _, rfl, ?_⟩
 rw [show decide ((k : Int) < h.m) = true from decide_eq_true (by lia)]
 refine iteF ?_
 refine ⟨_, rfl, _, rfl, p, _, _, _, rfl, rfl, SqT.of e2, rfl, _, _, rfl, rfl, (by show (0 : Int) ≤ (k : Int); lia), _, _, rfl, rfl, rfl, _, rfl, iteN (fun z => ?_) ?_⟩
 ·unfold openB at kop
  have z' := V.int.inj (of_decide_eq_true z)
  have kop' := of_decide_eq_true kop
  rw [show Builtin.bitAnd ((b : Int) / 2 ^ ((k : Int)).toNat) 1 = 0 from kop'] at z'
  cases z'
 refine ⟨_, rfl, p, _, _, _, rfl, rfl, SqT.of e2, rfl, ce, rfl, ⟨_, SqT.of e1⟩, ?_⟩
 refine comp_tup (xs := es'.map V.int) (fun i acc σ G => G = H ∧ acc = ((es'.take i).map fun e => e / h.e).map V.int ∧ ∃ v, σ = [v, some (.ref a)])
  ⟨rfl, rfl, none, rfl⟩ (Nat.le_of_lt (small1000 (by rw [List.length_map]; lia))) (fun i acc σ G g => ?_) (fun i acc σ G _ g => by rw [g.1]; exact SqT.of e1) ?_ ?_
 ·obtain ⟨_, rfl, _⟩ := g
  rw [List.length_map, List.length_map, List.length_take]
  lia
 ·rintro i y acc σ G hy ⟨rfl, rfl, v, rfl⟩
  rw [List.getElem?_map] at hy
  obtain ⟨x, hx, rfl⟩ := Option.map_eq_some_iff.mp hy
  refine ⟨_, rfl, _, rfl, a, _, _, _, rfl, rfl, hH, rfl, _, _, rfl, rfl, ⟨by show 0 < h.e; lia, by show h.e < 1073741824; lia⟩, rfl, ?_, _, rfl⟩
  rw [List.take_add_one, hx, List.map_append, List.map_append]
  rfl
 rintro acc σ G ⟨rfl, rfl, v, rfl⟩ rl hrl
 rw [List.length_map, List.take_length]
 have s1 := same_new hrl (.lst ((es'.map fun e => e / h.e).map V.int))
 have erl := upd_same (H := G) (a := rl) (o := .lst ((es'.map fun e => e / h.e).map V.int))
 generalize upd G rl (.lst ((es'.map fun e => e / h.e).map V.int)) = H1 at s1 erl ⊢
 have el1 := s1 _ _ el
 refine ⟨_, rfl, l, rfl, ⟨_, SqL.of el1⟩, ?_⟩
 refine for_list (xs := as.map V.ref) (fun i σ G' => Same H1 G' ∧ ∃ v5, σ = [some (.ref a), some (.ref l), some (.ref p), some (.int (b : Int)), some (.ref rl), v5])
  ⟨fun b u z => z, none, rfl⟩ (fun i σ G' _ g => SqL.of (g.1 _ _ el1)) ?_ ?_
 ·rintro i y σ G' hy ⟨s2, v5, rfl⟩
  rw [List.getElem?_map] at hy
  obtain ⟨a', ha', rfl⟩ := Option.map_eq_some_iff.mp hy
  obtain ⟨κ, hκ, ce', f1, f2⟩ := paired_at hC i a' ha'
  have hκm := List.mem_of_getElem? hκ
  have s12 := s1.trans s2
  have f1' := s12 _ _ f1
  have f2' := s12 _ _ f2
  have e2' := s12 _ _ e2
  have hH' := Same.seqT s12 hH
  have erl' := s2 _ _ erl
  refine ⟨_, rfl, a', _, _, _, rfl, rfl, SqT.of f2', rfl, _, rfl, p, _, _, _, rfl, rfl, SqT.of e2', rfl, rfl, _, rfl, ?_⟩
  refine ite2 (fun z => ?_) (fun z => ⟨s2, _, rfl⟩)
  have z' : κ.k = (k : Int) := V.int.inj (of_decide_eq_true z)
  obtain ⟨n1, n2⟩ := no κ hκm z'
  refine ⟨_, rfl, a', _, _, _, rfl, rfl, SqT.of f2', rfl, _, rfl, a, _, _, _, rfl, rfl, hH', rfl, _, _, rfl, rfl, ⟨by show 0 < h.c; lia, by show h.c < 1073741824; lia⟩, _, rfl, p, _, _, _, rfl, rfl, SqT.of e2', rfl, _, rfl, a, _, _, _, rfl, rfl, hH', rfl, _, _, rfl, rfl, ⟨by show 0 < h.c; lia, by show h.c < 1073741824; lia⟩, rfl, _, rfl, iteN (fun y => n1 (V.int.inj (of_decide_eq_true y))) ?_⟩
  refine ⟨_, rfl, a', _, _, _, rfl, rfl, SqT.of f2', rfl, ce', rfl, ⟨_, SqT.of f1'⟩, ?_⟩
  refine comp_tup (xs := κ.es.map V.int) (fun i acc σ G'' => G'' = G' ∧ acc = [] ∧ ∃ v, σ = [v, some (.ref a), some (.ref rl)])
   ⟨rfl, rfl, none, rfl⟩ (Nat.le_of_lt (small1000 (by have := (hin κ hκm).few; rw [List.length_map]; lia))) (fun i acc σ G g => ?_) (fun i acc σ G _ g => by rw [g.1]; exact SqT.of f1') ?_ ?_
  ·obtain ⟨_, rfl, _⟩ := g
   exact Nat.zero_le _
  ·rintro i y acc σ G'' hy ⟨rfl, rfl, v, rfl⟩
   rw [List.getElem?_map] at hy
   obtain ⟨x, hx, rfl⟩ := Option.map_eq_some_iff.mp hy
   refine ⟨_, rfl, _, rfl, a, _, _, _, rfl, rfl, hH', rfl, _, _, rfl, rfl, ⟨by show 0 < h.e; lia, by show h.e < 1073741824; lia⟩, _, rfl, rl, _, rfl, .inl (SqL.of erl'), rfl, int_flat _, _, rfl, ?_⟩
   refine iteN (fun c0 => ?_) ⟨rfl, rfl, _, rfl⟩
   have c0' : inV (.int (x / h.e)) ((es'.map fun e => e / h.e).map V.int) = true := c0
   rw [int_in] at c0'
   exact n2 x (List.mem_of_getElem? hx) (of_decide_eq_true c0')
  rintro acc σ G'' ⟨rfl, rfl, v, rfl⟩ q1 hq1
  have s3' := same_new hq1 (.lst [])
  have eq1 := upd_same (H := G'') (a := q1) (o := .lst [])
  generalize upd G'' q1 (.lst []) = H3 at s3' eq1 ⊢
  refine ⟨(by show 0 ≤ sizeLine; decide), fun q2 hq2 => ?_⟩
  have s4' := same_new hq2 (.lst [])
  have eq2 := upd_same (H := H3) (a := q2) (o := .lst [])
  have eq1' := s4' _ _ eq1
  generalize upd H3 q2 (.lst []) = H4 at s4' eq2 eq1' ⊢
  exact ⟨q1, q2, [], [], rfl, rfl, SqL.of eq1', SqL.of eq2, _, rfl, iteF ⟨s2.trans (s3'.trans s4'), _, rfl⟩⟩
 ·rintro σ G' ⟨s2, v5, rfl⟩
  exact q G' (s1.trans s2)
end
def selA : List Addr → List Call → Int → List Addr
 | a :: as, k :: ks, c => if k.c = c then a :: selA as ks c else selA as ks c
 | _, _, _ => []
theorem selA_snoc : ∀ {as : List Addr} {ks : List Call} {a : Addr} {k : Call} {c : Int}, as.length = ks.length → selA (as ++ [a]) (ks ++ [k]) c = selA as ks c ++ (if k.c = c then [a] else [])
 | [], [], a, k, c, _ => by
  show (if k.c = c then a :: selA [] [] c else selA [] [] c) = _
  rfl
 | b :: as, k' :: ks, a, k, c, h => by
  have ih := selA_snoc (as := as) (ks := ks) (a := a) (k := k) (c := c) (by simpa using h)
  show (if k'.c = c then b :: selA (as ++ [a]) (ks ++ [k]) c else selA (as ++ [a]) (ks ++ [k]) c) = (if k'.c = c then b :: selA as ks c else selA as ks c) ++ _
  by_cases e : k'.c = c
  ·rw [if_pos e, if_pos e, ih]
   rfl
  ·rw [if_neg e, if_neg e, ih]
theorem selA_len : ∀ (as : List Addr) (ks : List Call) (c : Int), (selA as ks c).length ≤ ks.length
 | [], [], _ => Nat.le_refl _
 | [], _ :: _, _ => Nat.zero_le _
 | _ :: _, [], _ => Nat.le_refl _
 | a :: as, k :: ks, c => by
  have ih := selA_len as ks c
  show (if k.c = c then a :: selA as ks c else selA as ks c).length ≤ ks.length + 1
  split
  ·simp only [List.length_cons]; lia
  ·lia
theorem selA_none : ∀ {as : List Addr} {ks : List Call} {c : Int}, (∀ k ∈ ks, k.c ≠ c) → selA as ks c = []
 | [], _, _, _ => rfl
 | _ :: _, [], _, _ => rfl
 | a :: as, k :: ks, c, h => by
  show (if k.c = c then a :: selA as ks c else selA as ks c) = []
  rw [if_neg (h k (List.mem_cons_self ..))]
  exact selA_none fun k hk => h k (List.mem_cons_of_mem _ hk)
theorem selA_one {H : Hp} : ∀ {as : List Addr} {ks : List Call} {k0 : Call}, CallsAt H as ks → ks.Pairwise (fun k k' => k.c < k'.c) → k0 ∈ ks → ∃ a, selA as ks k0.c = [a] ∧ CallAt H a k0
 | _, _, _, .nil, _, h => nomatch h
 | _, _, k0, .cons (a := a) (b := k) (l₁ := as) (l₂ := ks) h t, up, hm => by
  rw [List.pairwise_cons] at up
  rcases List.mem_cons.mp hm with rfl | hm
  ·refine ⟨a, ?_, h⟩
   show (if k0.c = k0.c then a :: selA as ks k0.c else selA as ks k0.c) = [a]
   rw [if_pos rfl, selA_none fun k hk => by have := up.1 k hk; lia]
  ·obtain ⟨b, e1, e2⟩ := selA_one t up.2 hm
   refine ⟨b, ?_, e2⟩
   show (if k.c = k0.c then a :: selA as ks k0.c else selA as ks k0.c) = [b]
   rw [if_neg (by have := up.1 k0 hm; lia)]
   exact e1
def spLJ26 (K : PySem.W.Frag) (CR CF CE CT CN T1 T2 : Addr) : Sp := fun vs H Q _ => ∃ (a l e : Addr) (h : Hall) (as : List Addr) (ks : List Call) (c : Int) (es : List Int) (rv : V) (b : Nat) (ro : Addr), vs = [.ref a, .ref l, .int c, .ref e, rv, .int (b : Int)] ∧ SqT K H a (h.row.map V.int) ∧ h.Ok ∧ H l = some (.lst (as.map V.ref)) ∧ CallsAt H as ks ∧ (∀ k ∈ ks, k.In h) ∧ (ks.Pairwise fun k k' => k.c < k'.c) ∧ ks.length < 63 ∧ H e = some (.lst (es.map V.int)) ∧ es.length ≤ 12 ∧ wholeIn (.int c) 0 (h.i * h.c - 1) = true ∧ endsU h (some (es.map V.int)) = true ∧ Idle2 ks c es ∧ waysM h ks c es b ≠ [] ∧ RuleIs CR CF CE CT ro H rv ∧ Rul CN T1 T2 ro H ∧
 ∀ (k : Nat), k ∈ waysM h ks c es b → ∀ (r : Addr) (bs : List Addr) (ks' : List Call) (es' : List Int) (H' : Hp), Keep T1 T2 ro H H' → Rul CN T1 T2 ro H' → H' r = some (.lst (bs.map V.ref)) → CallsAt H' bs ks' → es'.Perm es → es'.Pairwise (· ≤ ·) → ks'.Perm (ks ++ [⟨c, es', k⟩]) → ks'.Pairwise (fun k k' => k.c < k'.c) → Q (.ref r) H'
section
variable {P : Program} {w : World} {K : PySem.W.Frag} {mg : Str → Option Value} {base : Heap} {C_Rule C_Fullest C_Emptiest C_Round C_Told : Addr} {T_Fullest_choose T_Emptiest_choose : Addr}
theorem sc__law_joined : FnScope ["_law_hall", "_law_calls", "_law_caller", "_law_ends_here", "_law_rule", "_law_shut_here", "_law_handed", "_law_found", "_law_mine", "_law_due"] ["_law_hall", "_law_calls", "_law_caller", "_law_ends_here", "_law_rule", "_law_shut_here"] (defScope (top 47)) := ⟨rfl, rfl, rfl, by decide +kernel, rfl, by decide +kernel, by decide +kernel⟩
set_option maxHeartbeats 4000000 in
theorem ok_lj26 (T : Txt K mg) (C_joined : CalleeD P w K mg base 6 "joined" ["hall", "calls", "caller", "ends", "rule", "shut"] [.non, .int 0] (spJoin26 K C_Rule C_Fullest C_Emptiest C_Told C_Round T_Fullest_choose T_Emptiest_choose)) (C__law_alike : Callee P w K mg base 4 "_law_alike" ["_law_found", "_law_due"] (spAlike 3)) (C__law_idle : Callee P w K mg base 1 "_law_idle" ["_law_hall", "_law_calls", "_law_call", "_law_shut_here"] (spIdle26 K)) (D : Def K mg "_law_joined" (top 47) ["_law_hall", "_law_calls", "_law_caller", "_law_ends_here", "_law_rule", "_law_shut_here"]) : Callee P w K mg base 7 "_law_joined" ["_law_hall", "_law_calls", "_law_caller", "_law_ends_here", "_law_rule", "_law_shut_here"] (spLJ26 K C_Rule C_Fullest C_Emptiest C_Told C_Round T_Fullest_choose T_Emptiest_choose) := by
 refine D.ok sc__law_joined (fun vs H Q E h => ?_) (fun f cdv A outer s H vs Q E hr h => ?_)
 ·obtain ⟨a, l, e, h, as, ks, c, es, rv, b, ro, rfl, _⟩ := h
  rfl
 obtain ⟨a, l, e, h, as, ks, c, es, rv, b, ro, rfl, hH, ok, el, hC, hin, up, h63, ee, l12, w1, w2, idle, wne, hrv, ru, q⟩ := h
 have ln : as.length = ks.length := Paired.length hC
 have nc : ks.Pairwise fun k k' => k.c ≠ k'.c := up.imp fun {x y} z => by lia
 refine ⟨_, (pss_cons (ps_set (i := 6) sc__law_joined.nd rfl (Or.inl rfl) (pe_callTy (call_listK K) rfl T.m_list boot_list (pa_cons (pv 1) pa_nil st_name)))
  (pss_cons (ps_tryNo (fun pn E =>
  (pss_one (ps_if (PW.pt (pw_and (pt_cmpR op_isN (pv 4) pe_non (nomark _)) (pw_and1 (pt_cmpR op_eq (pv 5) pe_int (nomark _))))) (pss_one (ps_set (i := 7) sc__law_joined.nd rfl (Or.inl rfl) (pe_fnD 0 C_joined hr rfl (pa_cons (pv 0) (pa_cons (pv 6) (pa_cons (pv 2) (pa_cons (pe_callTy (call_listK K) rfl T.m_list boot_list (pa_cons (pv 3) pa_nil st_name)) pa_nil st_call) st_name) st_name) st_name)))) (pss_one (ps_set (i := 7) sc__law_joined.nd rfl (Or.inl rfl) (pe_fn C_joined.all hr rfl (pa_cons (pv 0) (pa_cons (pv 6) (pa_cons (pv 2) (pa_cons (pe_callTy (call_listK K) rfl T.m_list boot_list (pa_cons (pv 3) pa_nil st_name)) (pa_cons (pv 4) (pa_cons (pv 5) pa_nil st_name) st_name) st_call) st_name) st_name) st_name))))))))
  (pss_cons (ps_if (PW.pt (pw_or (pt_not (pt_truK K (pe_callB (call_isinstK K) rfl T.m_isinstance boot_isinstance (pa_cons (pv 7) (pa_cons (pe_bltn (v := .ty "list") rfl T.m_list boot_list rfl) pa_nil st_name) st_name)) (fun _ => rfl))) (pw_or (pt_cmpR op_ne (pe_callB (call_lenK K) rfl T.m_len boot_len (pa_cons (pv 7) pa_nil st_name)) (pe_op op_add (pe_callB (call_lenK K) rfl T.m_len boot_len (pa_cons (pv 1) pa_nil st_name)) pe_int) (nomark _)) (pw_or1 (pt_cmpR (op_neSelfK K (Room.units0 hr)) (pv 6) (pv 1) (nomark _)))))) (pss_one (ps_ret pe_non)) pss_nil)
  (pss_cons (ps_comp (i := 8) (own := ["_law_call"]) (fr := [(2, "_law_caller")]) rfl sc__law_joined.nd rfl rfl (show CompScope ["_law_hall", "_law_calls", "_law_caller", "_law_ends_here", "_law_rule", "_law_shut_here", "_law_handed", "_law_found", "_law_mine", "_law_due"] (defScope (top 47)) _ _ _ from ⟨rfl, by decide +kernel, by decide +kernel, by decide +kernel, by decide +kernel⟩) (pi_listK K (pv 7)) (fun cl C s H ex => ⟨(pg_name (i := 0) (show (["_law_call", "_law_caller"] : List Str).Nodup from by decide +kernel) rfl (Or.inl rfl) (Or.inr rfl)), (pif_one (pt_cmpR op_eq (pe_ix (ix_tupK K) (pv 0) pe_int (fun _ _ => rfl)) (pv 1) (nomark _))), (pv 0)⟩) rfl)
  (pss_cons (ps_if (PW.pt (pw_or (pt_cmpR op_ne (pe_callB (call_lenK K) rfl T.m_len boot_len (pa_cons (pv 8) pa_nil st_name)) pe_int (nomark _)) (pw_or1 (pt_not (pt_truK K (pe_callB (call_isinstK K) rfl T.m_isinstance boot_isinstance (pa_cons (pe_ix (ix_tupK K) (pe_ix (ix_listK K) (pv 8) pe_int (fun _ _ => rfl)) pe_int (fun _ _ => rfl)) (pa_cons (pe_bltn (v := .ty "int") rfl T.m_int boot_int rfl) pa_nil st_name) st_sub)) (fun _ => rfl)))))) (pss_one (ps_ret pe_non)) pss_nil)
  (pss_cons (ps_set (i := 9) sc__law_joined.nd rfl (Or.inl rfl) (pe_tup (pa_cons (pv 2) (pa_cons (pe_callTy (call_tupleK K) rfl T.m_tuple boot_tuple (pa_cons (pe_callB (call_sortedE K) rfl T.m_sorted boot_sorted (pa_cons (pv 3) pa_nil st_name)) pa_nil st_call)) (pa_cons (pe_ix (ix_tupK K) (pe_ix (ix_listK K) (pv 8) pe_int (fun _ _ => rfl)) pe_int (fun _ _ => rfl)) pa_nil st_sub) st_call) st_name)))
  (pss_cons (ps_if (pt_not (pt_truK K (pe_fn C__law_alike hr rfl (pa_cons (pv 7) (pa_cons (pe_callB (call_sortedTK K) rfl T.m_sorted boot_sorted (pa_cons (pe_op op_cat (pv 1) (pe_lst (pa_cons (pv 9) pa_nil st_name))) pa_nil st_bin)) pa_nil st_call) st_name)) (fun _ => rfl))) (pss_one (ps_ret pe_non)) pss_nil)
  (pss_cons (ps_if (pt_not (pt_truK K (pe_fn C__law_idle hr rfl (pa_cons (pv 0) (pa_cons (pv 1) (pa_cons (pv 9) (pa_cons (pv 5) pa_nil st_name) st_name) st_name) st_name)) (fun _ => rfl))) (pss_one (ps_ret pe_non)) pss_nil)
  (pss_one (ps_ret (pv 7))))))))))), ?_⟩
 refine ⟨_, rfl, l, _, rfl, .inl (SqL.of el), fun hd hhd => ?_⟩
 have s1 := same_new hhd (.lst (as.map V.ref))
 have ehd := upd_same (H := H) (a := hd) (o := .lst (as.map V.ref))
 generalize upd H hd (.lst (as.map V.ref)) = H1 at s1 ehd ⊢
 have ru1 := ru.same s1
 have core : ∀ {le : Addr} {H2 : Hp} {Q' : VK}, Same H1 H2 → H2 le = some (.lst (es.map V.int)) →
   (∀ (k : Nat), k ∈ waysM h ks c es b → ∀ (r : Addr) (bs : List Addr) (ks' : List Call) (es' : List Int) (H' : Hp), Keep T_Fullest_choose T_Emptiest_choose ro H1 H' → Rul C_Round T_Fullest_choose T_Emptiest_choose ro H' → H' r = some (.lst (bs.map V.ref)) → CallsAt H' bs ks' → es'.Perm es → es'.Pairwise (· ≤ ·) → ks'.Perm (ks ++ [⟨c, es', k⟩]) → ks'.Pairwise (fun k k' => k.c < k'.c) → Q' (.ref r) H') →
   spJoin26 K C_Rule C_Fullest C_Emptiest C_Told C_Round T_Fullest_choose T_Emptiest_choose [.ref a, .ref hd, .int c, .ref le, rv, .int (b : Int)] H2 Q' E0 := by
  intro le H2 Q' s2 ele qq
  have s12 := s1.trans s2
  exact ⟨a, hd, le, h, as, ks, c, es, rv, b, ro, rfl, Same.seqT s12 hH, ok, s2 _ _ ehd, CallsAt.same (fun b xs z => s12 _ _ z) hC, hin, nc, h63, ele, by lia, w1, w2, idle, wne, hrv.same s12, ru.same s12, fun k hk r bs ks' es' H' kp ruG er cs pm srt pk upk => qq k hk r bs ks' es' H' ((keep_same s2).trans kp) ruG er cs pm srt pk upk⟩
 dsimp only [gName, tNext]
 refine seq_cut (fun σ' G => ∃ (k : Nat) (r : Addr) (bs : List Addr) (ks' : List Call) (es' : List Int), k ∈ waysM h ks c es b ∧ Keep T_Fullest_choose T_Emptiest_choose ro H1 G ∧ Rul C_Round T_Fullest_choose T_Emptiest_choose ro G ∧ G r = some (.lst (bs.map V.ref)) ∧ CallsAt G bs ks' ∧ es'.Perm es ∧ es'.Pairwise (· ≤ ·) ∧ ks'.Perm (ks ++ [⟨c, es', k⟩]) ∧ ks'.Pairwise (fun k k' => k.c < k'.c) ∧ σ' = [some (.ref a), some (.ref l), some (.int c), some (.ref e), some rv, some (.int (b : Int)), some (.ref hd), some (.ref r), none, none]) (fun R rest => ?_) ?_
 ·refine ⟨_, rfl, rfl, _, rfl, ?_⟩
  have fin : ∀ {le : Addr}, H1 le = none → spJoin26 K C_Rule C_Fullest C_Emptiest C_Told C_Round T_Fullest_choose T_Emptiest_choose [.ref a, .ref hd, .int c, .ref le, rv, .int (b : Int)] (upd H1 le (.lst (es.map V.int))) (fun v H' => R [some (.ref a), some (.ref l), some (.int c), some (.ref e), some rv, some (.int (b : Int)), some (.ref hd), some v, none, none] H') E0 := fun {le} hle =>
   core (same_new hle _) upd_same fun k hk r bs ks' es' H' kp ruG er cs pm srt pk upk => rest _ _ ⟨k, r, bs, ks', es', hk, kp, ruG, er, cs, pm, srt, pk, upk, rfl⟩
  refine ite2 (fun z1 => ⟨_, rfl, rfl, _, rfl, ite2 (fun z2 => ⟨_, rfl, _, rfl, _, rfl, _, rfl, e, _, rfl, .inl (SqL.of (s1 _ _ ee)), fun le hle => ?_⟩) (fun z2 => ⟨_, rfl, _, rfl, _, rfl, _, rfl, e, _, rfl, .inl (SqL.of (s1 _ _ ee)), fun le hle => ⟨_, rfl, _, rfl, fin hle⟩⟩)⟩) (fun z1 => ⟨_, rfl, _, rfl, _, rfl, _, rfl, e, _, rfl, .inl (SqL.of (s1 _ _ ee)), fun le hle => ⟨_, rfl, _, rfl, fin hle⟩⟩)
  have hz1 : rv = .non := of_decide_eq_true z1
  have hz2 : (b : Int) = 0 := V.int.inj (of_decide_eq_true z2)
  have e0 : ([.ref a, .ref hd, .int c, .ref le, rv, .int (b : Int)] : List V) = [.ref a, .ref hd, .int c, .ref le, .non, .int 0] := by rw [hz1, hz2]
  have F := fin hle
  rw [e0] at F
  exact F
 ·rintro σ' G ⟨k, r, bs, ks', es', hk, kp, ruG, er, cs, pm, srt, pk, upk, rfl⟩
  have kpH : Keep T_Fullest_choose T_Emptiest_choose ro H G := (keep_same s1).trans kp
  have elG := kpH.lst ru el
  have eeG := kpH.lst ru ee
  have ehG := kp.lst ru1 ehd
  have hCG : CallsAt G as ks := CallsAt.same (fun b xs z => kpH.tup ru z) hC
  have hHG := kpH.seqT ru hH
  have lb : bs.length = ks'.length := Paired.length cs
  have lk : ks'.length = ks.length + 1 := by rw [pk.length_eq, List.length_append, List.length_singleton]
  refine ⟨_, rfl, _, _, _, true, rfl, .lst er, kit_lst_lst, true, rfl, iteF ?_⟩
  refine ⟨_, rfl, r, _, rfl, .inl (SqL.of er), _, rfl, l, _, rfl, .inl (SqL.of elG), _, _, rfl, rfl, rfl, _, rfl, iteN (fun z => ?_) ?_⟩
  ·have : ¬ (((bs.map V.ref).length : Nat) : Int) = (((as.map V.ref).length : Nat) : Int) + 1 := by simpa using z
   rw [List.length_map, List.length_map] at this
   lia
  refine ⟨_, rfl, _, rfl, hd, l, _, rfl, rfl, SqL.of ehG, SqL.of elG, refs_self as, _, rfl, iteF ?_⟩
  refine ⟨_, rfl, r, rfl, ⟨_, SqL.of er⟩, ?_⟩
  refine comp_list (xs := bs.map V.ref) (fun i acc σ H' => H' = G ∧ acc = (selA (bs.take i) (ks'.take i) c).map V.ref ∧ ∃ v, σ = [v, some (.int c)])
   ⟨rfl, rfl, none, rfl⟩ (Nat.le_of_lt (small1000 (by rw [List.length_map]; lia))) (fun i acc σ H' g => ?_) (fun i acc σ H' _ g => by rw [g.1]; exact SqL.of er) ?_ ?_
  ·obtain ⟨_, rfl, _⟩ := g
   have := selA_len (bs.take i) (ks'.take i) c
   rw [List.length_map]
   rw [List.length_take] at this
   lia
  ·rintro i y acc σ H' hy ⟨rfl, rfl, v, rfl⟩
   rw [List.getElem?_map] at hy
   obtain ⟨a', ha', rfl⟩ := Option.map_eq_some_iff.mp hy
   obtain ⟨k', hk', ce, e1, e2⟩ := paired_at cs i a' ha'
   have st : selA (bs.take (i + 1)) (ks'.take (i + 1)) c = selA (bs.take i) (ks'.take i) c ++ (if k'.c = c then [a'] else []) := by
    rw [List.take_succ, List.take_succ, ha', hk']
    exact selA_snoc (by rw [List.length_take, List.length_take, lb])
   refine ⟨_, rfl, a', _, _, _, rfl, rfl, SqT.of e2, rfl, _, rfl, rfl, _, rfl, ?_⟩
   refine ite2 (fun cc => ?_) (fun cc => ?_)
   ·have cc' : k'.c = c := by simpa using cc
    refine ⟨_, rfl, rfl, ?_, _, rfl⟩
    rw [st, if_pos cc', List.map_append]
    rfl
   ·have cc' : ¬ k'.c = c := by simpa using cc
    refine ⟨rfl, ?_, _, rfl⟩
    rw [st, if_neg cc', List.append_nil]
  rintro acc σ G' ⟨rfl, rfl, v, rfl⟩ mi hmi
  rw [List.length_map, List.take_length, lb, List.take_length]
  obtain ⟨b0, sel1, ce0, f1, f2⟩ : ∃ b0, selA bs ks' c = [b0] ∧ CallAt G' b0 ⟨c, es', k⟩ := selA_one (k0 := ⟨c, es', k⟩) cs upk (pk.mem_iff.mpr (List.mem_append_right _ (List.mem_singleton.mpr rfl)))
  rw [sel1]
  have t1' := same_new hmi (.lst ([b0].map V.ref))
  have emi := upd_same (H := G') (a := mi) (o := .lst ([b0].map V.ref))
  generalize upd G' mi (.lst ([b0].map V.ref)) = M1 at t1' emi ⊢
  have f21 := t1' _ _ f2
  refine ⟨_, rfl, mi, _, rfl, .inl (SqL.of emi), rfl, _, rfl, iteF ?_⟩
  refine ⟨_, rfl, mi, _, _, _, rfl, rfl, SqL.of emi, rfl, b0, _, _, _, rfl, rfl, SqT.of f21, rfl, _, _, _, true, rfl, .int _, kit_int_int, true, rfl, iteF ?_⟩
  refine ⟨_, rfl, _, rfl, e, es, rfl, .inr (SqL.of (t1' _ _ eeG)), by lia, fun es2 pm2 srt2 sl hsl => ?_⟩
  obtain rfl : es2 = es' := ints_one (pm2.trans pm.symm) srt2 srt
  have t2' := same_new hsl (.lst (es2.map V.int))
  have t2 := t1'.trans t2'
  have g2 := upd_same (H := M1) (a := sl) (o := .lst (es2.map V.int))
  have emi2 := t2' _ _ emi
  generalize upd M1 sl (.lst (es2.map V.int)) = M2 at t2 g2 emi2 ⊢
  refine ⟨sl, _, rfl, .inl ⟨SqL.of g2, fun t ht => ?_⟩⟩
  have t3' := same_new ht (.tup (es2.map V.int))
  have t3 := t2.trans t3'
  have g3 := upd_same (H := M2) (a := t) (o := .tup (es2.map V.int))
  have emi3 := t3' _ _ emi2
  generalize upd M2 t (.tup (es2.map V.int)) = M3 at t3 g3 emi3 ⊢
  refine ⟨_, rfl, mi, _, _, _, rfl, rfl, SqL.of emi3, rfl, b0, _, _, _, rfl, rfl, SqT.of (t3 _ _ f2), rfl, (by show 3 ≤ sizeLine; decide), fun p hp => ?_⟩
  have t4' := same_new hp (.tup [.int c, .ref t, .int (k : Nat)])
  have t4 := t3.trans t4'
  have c4 : CallAt (upd M3 p (.tup [.int c, .ref t, .int (k : Nat)])) p ⟨c, es2, (k : Nat)⟩ := ⟨t, t4' _ _ g3, upd_same⟩
  generalize upd M3 p (.tup [.int c, .ref t, .int (k : Nat)]) = M4 at t4 c4 ⊢
  refine ⟨_, rfl, _, rfl, _, rfl, (by show 1 ≤ sizeLine; decide), fun nl hnl => ?_⟩
  have t5' := same_new hnl (.lst [.ref p])
  have t5 := t4.trans t5'
  have g5 := upd_same (H := M4) (a := nl) (o := .lst [.ref p])
  have c5 := CallAt.same (fun b xs z => t5' _ _ z) c4
  generalize upd M4 nl (.lst [.ref p]) = M5 at t5 g5 c5 ⊢
  refine ⟨l, nl, _, _, rfl, rfl, t5 _ _ elG, g5, Nat.le_of_lt (small1000 (by rw [List.length_map]; show as.length + 1 ≤ 1000; lia)), fun cl hcl => ?_⟩
  have t6' := same_new hcl (.lst (as.map V.ref ++ [.ref p]))
  have t6 := t5.trans t6'
  have g6 : upd M5 cl (.lst (as.map V.ref ++ [.ref p])) cl = some (.lst ((as ++ [p]).map V.ref)) := by rw [upd_same, List.map_append]; rfl
  have c6 := CallAt.same (fun b xs z => t6' _ _ z) c5
  generalize upd M5 cl (.lst (as.map V.ref ++ [.ref p])) = M6 at t6 g6 c6 ⊢
  have hC6 : CallsAt M6 (as ++ [p]) (ks ++ [⟨c, es2, k⟩]) := Paired.snoc (CallsAt.same (fun b xs z => t6 _ _ z) hCG) c6
  dsimp only [tNil]
  refine sorted_calls g6 hC6 (by rw [List.length_append, List.length_singleton]; lia) (List.pairwise_append.mpr ⟨nc, List.pairwise_singleton .., fun k1 h1 k2 h2 => ?_⟩) fun l2 as' ks2 h1 h2 h3 h4 => ?_
  ·rw [List.mem_singleton.mp h2]
   exact idle.1 k1 h1
  obtain rfl : ks2 = ks' := calls_one (h3.trans pk.symm) h4 upk
  have t7' := same_new h1 (.lst (as'.map V.ref))
  have t7 := t6.trans t7'
  have g7 := upd_same (H := M6) (a := l2) (o := .lst (as'.map V.ref))
  have h27 := CallsAt.same (fun b xs z => t7' _ _ z) h2
  have c7 := CallAt.same (fun b xs z => t7' _ _ z) c6
  generalize upd M6 l2 (.lst (as'.map V.ref)) = M7 at t7 g7 h27 c7 ⊢
  have cs7 := CallsAt.same (fun b xs z => t7 _ _ z) cs
  refine ⟨_, _, rfl, .inr ⟨r, l2, _, _, rfl, rfl, .inl ⟨t7 _ _ er, g7⟩, alike_calls cs7 h27 (fun κ hκ => ?_), by rw [List.length_map]; lia⟩, _, rfl, iteF ?_⟩
  ·rcases List.mem_append.mp (pk.mem_iff.mp hκ) with z | z
   ·have := (hin κ z).few
    lia
   ·rw [List.mem_singleton.mp z]
    show es2.length ≤ 1000
    rw [pm.length_eq]
    lia
  refine ⟨_, rfl, _, rfl, _, rfl, _, rfl, a, l, p, h, as, ks, c, es, es2, k, b, rfl, Same.seqT t7 hHG, ok, t7 _ _ elG, CallsAt.same (fun b xs z => t7 _ _ z) hCG, by lia, hin, c7, by rw [pm.length_eq]; exact l12, pm, hk, fun M8 t8 => ⟨_, rfl, iteF ?_⟩⟩
  have t78 := t7.trans t8
  exact ⟨_, rfl, q k hk r bs ks2 es2 M8 (kpH.trans (keep_same t78)) (ruG.same t78) (t78 _ _ er) (CallsAt.same (fun b xs z => t78 _ _ z) cs) pm srt pk upk⟩
end
theorem unlike_iff (ns : List Int) : (sortU ns).length = ns.length ↔ ns.Nodup := by
 have n2 := nodup_of_rise (rise_sortU ns)
 constructor
 ·intro h
  have := perm_of_sub (sortU ns) ns n2 (fun x hx => (mem_sortU x ns).mp hx) (by lia)
  exact this.nodup_iff.mp n2
 ·intro h
  have := perm_of_sub ns (sortU ns) h (fun x hx => (mem_sortU x ns).mpr hx) (sortU_len ns)
  exact this.length_eq.symm
theorem ends_good {h : Hall} {es : List Int} (eo : EndsOk h es) : endsU h (some (es.map V.int)) = true := by
 show (!(es.map V.int).isEmpty && ((es.map V.int).all (fun x => wholeIn x 0 (h.o * h.e - 1)) && unlikeB (es.map V.int))) = true
 have h1 : (!(es.map V.int).isEmpty) = true := by
  have := eo.some
  cases es with
  | nil => exact absurd rfl this
  | cons _ _ => rfl
 have h2 : (es.map V.int).all (fun x => wholeIn x 0 (h.o * h.e - 1)) = true := by
  rw [List.all_eq_true]
  intro x hx
  obtain ⟨e, he, rfl⟩ := List.mem_map.mp hx
  have := eo.es e he
  show (decide (0 ≤ e) && decide (e ≤ h.o * h.e - 1)) = true
  rw [decide_eq_true this.1, decide_eq_true (by lia)]
  rfl
 rw [h1, h2]
 unfold unlikeB
 rw [vints_map, List.length_map, decide_eq_true ((unlike_iff es).mpr eo.nd)]
 rfl
structure Right (h : Hall) (ks : List Call) : Prop where
 hin : ∀ k ∈ ks, k.In h
 up : ks.Pairwise fun k k' => k.c < k'.c
 fr : ks.Pairwise (Free h)
theorem tag_ne {a b : Str} {xs ys : List Key} (n : a ≠ b) : (.inr a :: xs : List Key) ≠ .inr b :: ys := fun q => n (Sum.inr.inj (List.cons.inj q).1)
theorem key_two {a : Str} {x y x' y' : Int} (q : ([.inr a, .inl x, .inl y] : List Key) = [.inr a, .inl x', .inl y']) : x = x' ∧ y = y' := by
 have q1 := (List.cons.inj q).2
 exact ⟨Sum.inl.inj (List.cons.inj q1).1, Sum.inl.inj (List.cons.inj (List.cons.inj q1).2).1⟩
theorem key_one {a : Str} {x x' : Int} (q : ([.inr a, .inl x] : List Key) = [.inr a, .inl x']) : x = x' := Sum.inl.inj (List.cons.inj (List.cons.inj q).2).1
theorem free_new {h : Hall} {ks : List Call} {c : Int} {es es' : List Int} {sh : Int} {k : Nat} (idle : Idle2 ks c es) (pm : es'.Perm es) (hk : k ∈ waysM h ks c es sh) : ∀ κ ∈ ks, Free h κ ⟨c, es', k⟩ := by
 intro κ hκ d h1 h2
 have hk2 := (mem_ways.mp hk).2
 have nb : κ.k = (k : Int) → ¬ needB h (c / h.c) (racksM h es) κ = true := fun e z => by
  have : κ.c ∈ hrow h ks (c / h.c) (racksM h es) k := List.mem_map.mpr ⟨κ, List.mem_filter.mpr ⟨hκ, by rw [decide_eq_true e, z]; rfl⟩, rfl⟩
  rw [hk2] at this
  cases this
 unfold needB at nb
 rcases mem_needs.mp h1 with rfl | ⟨e, he, rfl⟩ | rfl | ⟨e, he, rfl⟩
 ·rcases mem_needs.mp h2 with q | ⟨e', he', q⟩ | q | ⟨e', he', q⟩
  ·obtain ⟨q1, q2⟩ := key_two q
   refine nb q2 ?_
   rw [decide_eq_true q1]
   rfl
  ·exact tag_ne (by decide) q
  ·exact tag_ne (by decide) q
  ·exact tag_ne (by decide) q
 ·rcases mem_needs.mp h2 with q | ⟨e', he', q⟩ | q | ⟨e', he', q⟩
  ·exact tag_ne (by decide) q
  ·obtain ⟨q1, q2⟩ := key_two q
   refine nb q2 ?_
   rw [Bool.or_eq_true, List.any_eq_true]
   exact .inr ⟨e / h.e, mem_racks'.mpr ⟨e, he, rfl⟩, decide_eq_true (mem_racks'.mpr ⟨e', pm.mem_iff.mp he', q1.symm⟩)⟩
  ·exact tag_ne (by decide) q
  ·exact tag_ne (by decide) q
 ·rcases mem_needs.mp h2 with q | ⟨e', he', q⟩ | q | ⟨e', he', q⟩
  ·exact tag_ne (by decide) q
  ·exact tag_ne (by decide) q
  ·exact idle.1 κ hκ (key_one q)
  ·exact tag_ne (by decide) q
 ·rcases mem_needs.mp h2 with q | ⟨e', he', q⟩ | q | ⟨e', he', q⟩
  ·exact tag_ne (by decide) q
  ·exact tag_ne (by decide) q
  ·exact tag_ne (by decide) q
  ·rw [key_one q] at he
   exact idle.2 e' (pm.mem_iff.mp he') κ hκ he
theorem Right.left {h : Hall} {ks : List Call} (r : Right h ks) (c : Int) : Right h (leftK ks c) := ⟨fun k hk => r.hin k (List.mem_filter.mp hk).1, r.up.sublist List.filter_sublist, r.fr.sublist List.filter_sublist⟩
theorem Right.put {h : Hall} {ks ks' : List Call} (r : Right h ks) {c : Int} {es es' : List Int} {sh : Int} {k : Nat} (ok : h.Ok) (hc : 0 ≤ c ∧ c < h.i * h.c) (eo : EndsOk h es) (idle : Idle2 ks c es) (pm : es'.Perm es) (srt : es'.Pairwise (· ≤ ·)) (hk : k ∈ waysM h ks c es sh) (pk : ks'.Perm (ks ++ [⟨c, es', k⟩])) (up : ks'.Pairwise fun k k' => k.c < k'.c) : Right h ks' := by
 have o3 := ok.m
 have klt := open_lt (mem_ways.mp hk).1
 refine ⟨fun κ hκ => ?_, up, (List.Perm.pairwise_iff (fun q => Free.symm q) pk).mpr (List.pairwise_append.mpr ⟨r.fr, List.pairwise_singleton .., fun κ hκ ν hν => ?_⟩)⟩
 ·rcases List.mem_append.mp (pk.mem_iff.mp hκ) with z | z
  ·exact r.hin κ z
  ·rw [List.mem_singleton.mp z]
   exact ⟨hc, rise_of pm srt eo.nd, fun e he => eo.es e (pm.mem_iff.mp he), fun z => eo.some (by have y := pm.length_eq; change es' = [] at z; rw [z] at y; exact List.length_eq_zero_iff.mp y.symm), by show es'.length ≤ 12; rw [pm.length_eq]; exact eo.few, by show 0 ≤ ((k : Nat) : Int) ∧ ((k : Nat) : Int) < h.m; lia⟩
 ·rw [List.mem_singleton.mp hν]
  exact free_new idle pm hk κ hκ
theorem at_six {rvs : List V} (x : Int) (h6 : rvs.length = 6) : ∃ rv ∈ rvs, atI rvs (x % 6) = some rv := by
 have m := mod_in (x := x) (d := 6) (by decide)
 obtain ⟨j, hj⟩ : ∃ j : Nat, x % 6 = (j : Int) := ⟨(x % 6).toNat, by lia⟩
 have lt : j < rvs.length := by lia
 exact ⟨rvs[j]'lt, List.getElem_mem lt, by rw [hj]; exact atI_nat (List.getElem?_eq_getElem lt)⟩
theorem Keep.rule {CR CF CE CT CN T1 T2 ro : Addr} {H H' : Hp} {rv : V} (t : Rul CN T1 T2 ro H) (s : Keep T1 T2 ro H H') (h : RuleIs CR CF CE CT ro H rv) : RuleIs CR CF CE CT ro H' rv := by
 have kp : ∀ {p C dx : Addr} {fs : List (Str × V)}, p ≠ ro → H p = some (.ins C dx fs) → H' p = some (.ins C dx fs) := fun {p C dx fs} n e => s _ _ (t.t.no e (fun _ z => nomatch z)).1 (t.t.no e (fun _ z => nomatch z)).2 n e
 rcases h with h | h | ⟨p, h, n, ⟨dx, h1⟩ | ⟨dx, tr, ws, h1, h2⟩⟩
 ·exact .inl h
 ·exact .inr (.inl h)
 ·exact .inr (.inr ⟨p, h, n, .inl ⟨dx, h1.imp (kp n) (Or.imp (kp n) (kp n))⟩⟩)
 ·exact .inr (.inr ⟨p, h, n, .inr ⟨dx, tr, ws, kp n h1, s.lst t h2⟩⟩)
def spDeed26 (K : PySem.W.Frag) (CR CF CE CT CN T1 T2 : Addr) : Sp := fun vs H Q _ => ∃ (a sz l rl : Addr) (h : Hall) (w g n : Int) (as : List Addr) (ks : List Call) (rvs : List V) (ro : Addr), vs = [.ref a, .ref sz, .ref l, .ref rl, .int n] ∧ SqT K H a (h.row.map V.int) ∧ h.Ok ∧ H sz = some (.tup [.int w, .int g]) ∧ 1 ≤ w ∧ w ≤ 3 ∧ 0 ≤ g ∧ g ≤ 3 ∧ h.c.toNat + w.toNat * (h.e.toNat - 1) + g.toNat ≤ h.m.toNat ∧ H l = some (.lst (as.map V.ref)) ∧ CallsAt H as ks ∧ Right h ks ∧ ks.length < 63 ∧ H rl = some (.lst rvs) ∧ rvs.length = 6 ∧ (∀ rv ∈ rvs, RuleIs CR CF CE CT ro H rv) ∧ Rul CN T1 T2 ro H ∧
 ∀ (r : Addr) (bs : List Addr) (ks' : List Call) (H' : Hp), Keep T1 T2 ro H H' → Rul CN T1 T2 ro H' → H' r = some (.lst (bs.map V.ref)) → CallsAt H' bs ks' → Right h ks' → ks'.length ≤ ks.length + 1 → Q (.ref r) H'
section
variable {P : Program} {w : World} {K : PySem.W.Frag} {mg : Str → Option Value} {base : Heap} {C_Rule C_Fullest C_Emptiest C_Round C_Told : Addr} {T_Fullest_choose T_Emptiest_choose : Addr}
theorem sc__law_deed : FnScope ["_law_hall", "_law_sizes", "_law_calls", "_law_rules", "_law_number", "_law_caller", "_law_some", "_law_there", "_law_taken", "_law_call", "_law_ends_here", "_law_shut_here", "_law_rule"] ["_law_hall", "_law_sizes", "_law_calls", "_law_rules", "_law_number"] (defScope (top 49)) := ⟨rfl, rfl, rfl, by decide +kernel, rfl, by decide +kernel, by decide +kernel⟩
set_option maxHeartbeats 4000000 in
theorem ok_deed26 (T : Txt K mg) (C__law_ended : Callee P w K mg base 5 "_law_ended" ["_law_hall", "_law_calls", "_law_caller"] (spEnded26 K)) (C__law_ends : Callee P w K mg base 1 "_law_ends" ["_law_hall", "_law_w", "_law_number"] (spEnds26 K)) (C__law_shut : Callee P w K mg base 1 "_law_shut" ["_law_hall", "_law_gone", "_law_number"] (spShut26 K)) (C__law_joined : Callee P w K mg base 7 "_law_joined" ["_law_hall", "_law_calls", "_law_caller", "_law_ends_here", "_law_rule", "_law_shut_here"] (spLJ26 K C_Rule C_Fullest C_Emptiest C_Told C_Round T_Fullest_choose T_Emptiest_choose)) (D : Def K mg "_law_deed" (top 49) ["_law_hall", "_law_sizes", "_law_calls", "_law_rules", "_law_number"]) : Callee P w K mg base 8 "_law_deed" ["_law_hall", "_law_sizes", "_law_calls", "_law_rules", "_law_number"] (spDeed26 K C_Rule C_Fullest C_Emptiest C_Told C_Round T_Fullest_choose T_Emptiest_choose) := by
 refine D.ok sc__law_deed (fun vs H Q E h => ?_) (fun f cdv A outer s H vs Q E hr h => ?_)
 ·obtain ⟨a, sz, l, rl, h, w, g, n, as, ks, rvs, ro, rfl, _⟩ := h
  rfl
 obtain ⟨a, sz, l, rl, h, w, g, n, as, ks, rvs, ro, rfl, hH, ok, esz, w1, w3, g0, g3, hm, el, hC, ri, h63, erl, h6, hrv, ru, q⟩ := h
 have ln : as.length = ks.length := Paired.length hC
 have o6 := ok.ic
 have o1 := ok.i
 refine ⟨_, (pss_cons (ps_set (i := 5) sc__law_deed.nd rfl (Or.inl rfl) (pe_op op_mod (pe_op op_mod (pe_op op_mul (pv 4) pe_int) pe_int) (pe_op op_mul (pe_ix (ix_tupK K) (pv 0) pe_int (fun _ _ => rfl)) (pe_ix (ix_tupK K) (pv 0) pe_int (fun _ _ => rfl)))))
  (pss_cons (ps_if (pt_cmpR (op_inK K) (pv 5) (pe_comp (own := ["_law_call"]) (fr := []) rfl (show CompScope ["_law_hall", "_law_sizes", "_law_calls", "_law_rules", "_law_number", "_law_caller", "_law_some", "_law_there", "_law_taken", "_law_call", "_law_ends_here", "_law_shut_here", "_law_rule"] (defScope (top 49)) _ _ _ from ⟨rfl, by decide +kernel, by decide +kernel, by decide +kernel, by decide +kernel⟩) (pi_listK K (pv 2)) (fun cl C s H ex => ⟨(pg_name (i := 0) (show (["_law_call"] : List Str).Nodup from by decide +kernel) rfl (Or.inl rfl) (Or.inr rfl)), pif_nil, (pe_ix (ix_tupK K) (pv 0) pe_int (fun _ _ => rfl))⟩)) (by with_unfolding_all rfl)) (pss_one (ps_ret (pe_fn C__law_ended hr rfl (pa_cons (pv 0) (pa_cons (pv 2) (pa_cons (pv 5) pa_nil st_name) st_name) st_name)))) pss_nil)
  (pss_cons (ps_set (i := 6) sc__law_deed.nd rfl (Or.inr rfl) (pe_fn C__law_ends hr rfl (pa_cons (pv 0) (pa_cons (pe_ix (ix_tupK K) (pv 1) pe_int (fun _ _ => rfl)) (pa_cons (pv 4) pa_nil st_name) st_sub) st_name)))
  (pss_cons (ps_comp (i := 7) (own := ["_law_call"]) (fr := [(6, "_law_some")]) rfl sc__law_deed.nd rfl rfl (show CompScope ["_law_hall", "_law_sizes", "_law_calls", "_law_rules", "_law_number", "_law_caller", "_law_some", "_law_there", "_law_taken", "_law_call", "_law_ends_here", "_law_shut_here", "_law_rule"] (defScope (top 49)) _ _ _ from ⟨rfl, by decide +kernel, by decide +kernel, by decide +kernel, by decide +kernel⟩) (pi_listK K (pv 2)) (fun cl C s H ex => ⟨(pg_name (i := 0) (show (["_law_call", "_law_some"] : List Str).Nodup from by decide +kernel) rfl (Or.inl rfl) (Or.inr rfl)), (pif_one (pt_cmpR (op_inK K) (pe_ix (ix_listK K) (pv 1) pe_int (fun _ _ => rfl)) (pe_ix (ix_tupK K) (pv 0) pe_int (fun _ _ => rfl)) (by with_unfolding_all rfl))), (pv 0)⟩) rfl)
  (pss_cons (ps_set (i := 8) sc__law_deed.nd rfl (Or.inr rfl) (pe_lst pa_nil))
  (pss_cons (ps_for PassesOwn.never rfl (pi_listK K (pv 2)) (pg_name (i := 9) sc__law_deed.nd rfl (Or.inl rfl))
  (pss_one (ps_expr (pe_bmK K PySem.F.plainAttrs_list PySem.F.slot_list_extend PySem.F.type_list_extend (mt_extendT K) (pv 8) (pa_cons (pe_ix (ix_tupK K) (pv 9) pe_int (fun _ _ => rfl)) pa_nil st_sub)))))
  (pss_cons (ps_comp (i := 10) (own := ["_law_end"]) (fr := [(8, "_law_taken")]) rfl sc__law_deed.nd rfl rfl (show CompScope ["_law_hall", "_law_sizes", "_law_calls", "_law_rules", "_law_number", "_law_caller", "_law_some", "_law_there", "_law_taken", "_law_call", "_law_ends_here", "_law_shut_here", "_law_rule"] (defScope (top 49)) _ _ _ from ⟨rfl, by decide +kernel, by decide +kernel, by decide +kernel, by decide +kernel⟩) (pi_listK K (pv 6)) (fun cl C s H ex => ⟨(pg_name (i := 0) (show (["_law_end", "_law_taken"] : List Str).Nodup from by decide +kernel) rfl (Or.inl rfl) (Or.inr rfl)), (pif_one (pt_cmpR (op_notInK K) (pv 0) (pv 1) (by with_unfolding_all rfl))), (pv 0)⟩) rfl)
  (pss_cons (ps_if (pt_cmpR (op_eqIK K (Room.units0 hr)) (pv 10) (pe_lst pa_nil) (nomark _)) (pss_one (ps_ret (pe_fn C__law_ended hr rfl (pa_cons (pv 0) (pa_cons (pv 2) (pa_cons (pe_ix (ix_tupK K) (pe_ix (ix_listK K) (pv 7) pe_int (fun _ _ => rfl)) pe_int (fun _ _ => rfl)) pa_nil st_sub) st_name) st_name)))) pss_nil)
  (pss_cons (ps_set (i := 11) sc__law_deed.nd rfl (Or.inl rfl) (pe_fn C__law_shut hr rfl (pa_cons (pv 0) (pa_cons (pe_ix (ix_tupK K) (pv 1) pe_int (fun _ _ => rfl)) (pa_cons (pv 4) pa_nil st_name) st_sub) st_name)))
  (pss_cons (ps_set (i := 12) sc__law_deed.nd rfl (Or.inl rfl) (pe_ix (ix_listK K) (pv 3) (pe_op op_mod (pe_op op_mod (pe_op op_mul (pv 4) pe_int) pe_int) pe_int) (fun _ _ => rfl)))
  (pss_one (ps_ret (pe_fn C__law_joined hr rfl (pa_cons (pv 0) (pa_cons (pv 2) (pa_cons (pv 5) (pa_cons (pv 10) (pa_cons (pv 12) (pa_cons (pv 11) pa_nil st_name) st_name) st_name) st_name) st_name) st_name)))))))))))))), ?_⟩
 have hc := mod_in (x := n * 48271 % 1000003) (show 0 < h.i * h.c by lia)
 refine ⟨_, rfl, _, _, rfl, rfl, .inr ⟨by decide, by decide⟩, _, _, rfl, rfl, (by show (0 : Int) < 1000003; decide), _, rfl, a, _, _, _, rfl, rfl, hH, rfl, _, rfl, a, _, _, _, rfl, rfl, hH, rfl, _, _, rfl, rfl, .inl ⟨by lia, by lia⟩, _, _, rfl, rfl, (by show 0 < h.i * h.c; lia), ?_⟩
 have few : ∀ k ∈ ks, k.es.length ≤ 12 := fun k hk => (ri.hin k hk).few
 refine ⟨_, rfl, _, rfl, l, rfl, ⟨_, SqL.of el⟩, ?_⟩
 refine comp_list (xs := as.map V.ref) (fun i acc σ G => G = H ∧ acc = ((ks.take i).map Call.c).map V.int ∧ ∃ v, σ = [v])
  ⟨rfl, rfl, none, rfl⟩ (Nat.le_of_lt (small1000 (by rw [List.length_map]; lia))) (fun i acc σ G g => ?_) (fun i acc σ G _ g => by rw [g.1]; exact SqL.of el) ?_ ?_
 ·obtain ⟨_, rfl, _⟩ := g
  rw [List.length_map, List.length_map, List.length_take]
  lia
 ·rintro i y acc σ G hy ⟨rfl, rfl, v, rfl⟩
  rw [List.getElem?_map] at hy
  obtain ⟨a', ha', rfl⟩ := Option.map_eq_some_iff.mp hy
  obtain ⟨k', hk', ce, e1, e2⟩ := paired_at hC i a' ha'
  refine ⟨_, rfl, a', _, _, _, rfl, rfl, SqT.of e2, rfl, rfl, ?_, _, rfl⟩
  rw [List.take_add_one, hk', List.map_append, List.map_append]
  rfl
 rintro acc σ G ⟨rfl, rfl, v, rfl⟩ cl hcl
 rw [List.length_map, ln, List.take_length]
 have s1 := same_new hcl (.lst ((ks.map Call.c).map V.int))
 have ecl := upd_same (H := G) (a := cl) (o := .lst ((ks.map Call.c).map V.int))
 generalize upd G cl (.lst ((ks.map Call.c).map V.int)) = H1 at s1 ecl ⊢
 have fin : ∀ {c : Int} {H2 : Hp}, Same G H2 → (∃ k ∈ ks, k.c = c) → spEnded26 K [.ref a, .ref l, .int c] H2 Q E0 := fun {c H2} s2 hmem =>
  ⟨.ref a, l, c, as, ks, rfl, s2 _ _ el, CallsAt.same (fun b xs z => s2 _ _ z) hC, by lia, hmem, few, fun f H' s' ef hCf => q f _ _ H' (keep_same (s2.trans s')) (ru.same (s2.trans s')) ef hCf (ri.left c) (Nat.le_trans (List.length_filter_le _ _) (Nat.le_succ _))⟩
 refine ⟨cl, _, rfl, .inl (SqL.of ecl), rfl, int_flat _, _, rfl, ?_⟩
 rw [int_in]
 refine ite2 (fun z => ?_) (fun z => ?_)
 ·have z' := of_decide_eq_true z
  obtain ⟨k, hk, ek⟩ := List.mem_map.mp z'
  exact ⟨_, rfl, _, rfl, _, rfl, fin s1 ⟨k, hk, ek⟩⟩
 have idle1 : ∀ k ∈ ks, k.c ≠ n * 48271 % 1000003 % (h.i * h.c) := fun k hk e => z (decide_eq_true (List.mem_map.mpr ⟨k, hk, e⟩))
 refine ⟨_, rfl, _, rfl, sz, _, _, _, rfl, rfl, SqT.of (s1 _ _ esz), rfl, _, rfl, a, h, w, n, rfl, Same.seqT s1 hH, ok, w1, w3, fun so es rs H2 s2' hso eso eok hrs lrs => ?_⟩
 have s2 := s1.trans s2'
 obtain ⟨e0, et, ees⟩ := List.exists_cons_of_ne_nil eok.some
 have at0 : atI (es.map V.int) 0 = some (.int e0) := by rw [ees]; exact atI_nat (j := 0) rfl
 have el2 := s2 _ _ el
 have hC2 : CallsAt H2 as ks := CallsAt.same (fun b xs z => s2 _ _ z) hC
 refine ⟨_, rfl, l, rfl, ⟨_, SqL.of el2⟩, ?_⟩
 refine comp_list (xs := as.map V.ref) (fun i acc σ G' => G' = H2 ∧ (∃ ts : List Addr, acc = ts.map V.ref ∧ ts.length ≤ i ∧ (∀ t ∈ ts, ∃ k ∈ ks, CallAt H2 t k) ∧ ((∃ k ∈ ks.take i, e0 ∈ k.es) → ts ≠ [])) ∧ ∃ v, σ = [v, some (.ref so)])
  ⟨rfl, ⟨[], rfl, Nat.le_refl _, (fun t ht => nomatch ht), fun ⟨k, hk, _⟩ => nomatch hk⟩, none, rfl⟩ (Nat.le_of_lt (small1000 (by rw [List.length_map]; lia))) (fun i acc σ G' g => ?_) (fun i acc σ G' _ g => by rw [g.1]; exact SqL.of el2) ?_ ?_
 ·obtain ⟨_, ⟨ts, rfl, h1, _⟩, _⟩ := g
  rw [List.length_map]
  exact h1
 ·rintro i y acc σ G' hy ⟨rfl, ⟨ts, rfl, h1, h2, h3⟩, v, rfl⟩
  rw [List.getElem?_map] at hy
  obtain ⟨a', ha', rfl⟩ := Option.map_eq_some_iff.mp hy
  obtain ⟨k', hk', ce, e1, e2⟩ := paired_at hC2 i a' ha'
  refine ⟨_, rfl, so, _, _, _, rfl, rfl, SqL.of eso, at0, _, rfl, a', _, _, _, rfl, rfl, SqT.of e2, rfl, ce, _, rfl, .inr (SqT.of e1), rfl, int_flat _, _, rfl, ?_⟩
  refine ite2 (fun c0 => ?_) (fun c0 => ?_)
  ·refine ⟨_, rfl, rfl, ⟨ts ++ [a'], by rw [List.map_append]; rfl, by rw [List.length_append, List.length_singleton]; lia, fun t ht => ?_, fun _ => by simp⟩, _, rfl⟩
   rcases List.mem_append.mp ht with y | y
   ·exact h2 t y
   ·rw [List.mem_singleton.mp y]
    exact ⟨k', List.mem_of_getElem? hk', ce, e1, e2⟩
  ·have c1 : ¬ inV (.int e0) (k'.es.map V.int) = true := c0
   rw [int_in] at c1
   refine ⟨rfl, ⟨ts, rfl, by lia, h2, fun ⟨k, hk, ek⟩ => h3 ?_⟩, _, rfl⟩
   rw [List.take_add_one, hk'] at hk
   rcases List.mem_append.mp hk with y | y
   ·exact ⟨k, y, ek⟩
   ·rw [List.mem_singleton.mp y] at ek
    exact absurd (decide_eq_true ek) c1
 rintro acc σ G' ⟨rfl, ⟨ts, rfl, tl, tm, tn⟩, v, rfl⟩ th hth
 rw [List.length_map, ln, List.take_length] at tn
 have s3' := same_new hth (.lst (ts.map V.ref))
 have eth := upd_same (H := G') (a := th) (o := .lst (ts.map V.ref))
 have eso3 := s3' _ _ eso
 have s3 := s2.trans s3'
 have tm3 : ∀ t ∈ ts, ∃ k ∈ ks, CallAt (upd G' th (.lst (ts.map V.ref))) t k := fun t ht => by
  obtain ⟨k, hk, ck⟩ := tm t ht
  exact ⟨k, hk, CallAt.same (fun b xs z => s3' _ _ z) ck⟩
 generalize upd G' th (.lst (ts.map V.ref)) = H3 at s3 eth eso3 tm3 ⊢
 refine ⟨(by show 0 ≤ sizeLine; decide), fun tk htk => ?_⟩
 have s4' := same_new htk (.lst [])
 have s4 := s3.trans s4'
 have etk := upd_same (H := H3) (a := tk) (o := .lst [])
 have eso4 := s4' _ _ eso3
 have eth4 := s4' _ _ eth
 have tm4 : ∀ t ∈ ts, ∃ k ∈ ks, CallAt (upd H3 tk (.lst [])) t k := fun t ht => by
  obtain ⟨k, hk, ck⟩ := tm3 t ht
  exact ⟨k, hk, CallAt.same (fun b xs z => s4' _ _ z) ck⟩
 have nks : so ≠ tk ∧ th ≠ tk := ⟨fun z => (by rw [← z, eso3] at htk; cases htk), fun z => (by rw [← z, eth] at htk; cases htk)⟩
 have htk0 : G tk = none := s3.free htk
 generalize upd H3 tk (.lst []) = H4 at s4 etk eso4 eth4 tm4 ⊢
 have el4 := s4 _ _ el
 have nlk : ∀ {b : Addr} {u : HO}, G b = some u → b ≠ tk := fun z => ne_of_none z htk0
 refine ⟨_, rfl, l, rfl, ⟨_, SqL.of el4⟩, ?_⟩
 refine for_list (xs := as.map V.ref) (fun i σ G' => SameX tk H4 G' ∧ (∃ xs : List Int, G' tk = some (.lst (xs.map V.int)) ∧ xs.length ≤ 12 * i ∧ ∀ x, x ∈ xs ↔ ∃ k ∈ ks.take i, x ∈ k.es) ∧ ∃ v9, σ = [some (.ref a), some (.ref sz), some (.ref l), some (.ref rl), some (.int n), some (.int (n * 48271 % 1000003 % (h.i * h.c))), some (.ref so), some (.ref th), some (.ref tk), v9, none, none, none])
  ⟨fun _ _ _ z => z, ⟨[], etk, Nat.le_refl _, fun x => ⟨(fun y => nomatch y), fun ⟨k, hk, _⟩ => nomatch hk⟩⟩, none, rfl⟩ (fun i σ G' _ g => SqL.of (g.1 _ _ (nlk el) el4)) ?_ ?_
 ·rintro i y σ G' hy ⟨s5, ⟨xs, exs, xl, xm⟩, v9, rfl⟩
  rw [List.getElem?_map] at hy
  obtain ⟨a', ha', rfl⟩ := Option.map_eq_some_iff.mp hy
  obtain ⟨k', hk', ce, e1, e2⟩ := paired_at hC i a' ha'
  have e15 := s5 _ _ (nlk e1) (s4 _ _ e1)
  have e25 := s5 _ _ (nlk e2) (s4 _ _ e2)
  have i63 : i < 63 := by have := (List.getElem?_eq_some_iff.mp hk').1; lia
  have kf := few k' (List.mem_of_getElem? hk')
  refine ⟨_, rfl, .inl ⟨rfl, _, SqL.of exs⟩, _, rfl, a', _, _, _, rfl, rfl, SqT.of e25, rfl, tk, ce, _, _, rfl, rfl, exs, SqT.of e15, Nat.le_of_lt (small1000 (by rw [List.length_map, List.length_map]; lia)), ?_⟩
  refine ⟨fun b u nb z => by rw [upd_ne nb]; exact s5 b u nb z, ⟨xs ++ k'.es, by rw [upd_same, List.map_append], by rw [List.length_append]; lia, fun x => ?_⟩, _, rfl⟩
  rw [List.take_add_one, hk', List.mem_append, xm]
  constructor
  ·rintro (⟨k, hk, ek⟩ | y)
   ·exact ⟨k, List.mem_append_left _ hk, ek⟩
   ·exact ⟨k', List.mem_append_right _ (List.mem_singleton.mpr rfl), y⟩
  ·rintro ⟨k, hk, ek⟩
   rcases List.mem_append.mp hk with y | y
   ·exact .inl ⟨k, y, ek⟩
   ·rw [List.mem_singleton.mp y] at ek
    exact .inr ek
 rintro σ H5 ⟨s5', ⟨xs, exs, xl, xm⟩, v9, rfl⟩
 rw [List.length_map, ln, List.take_length] at xm
 have s5 : Same G H5 := fun b u z => s5' b u (nlk z) (s4 b u z)
 have eso5 := s5' _ _ nks.1 eso4
 have eth5 := s5' _ _ nks.2 eth4
 have tm5 : ∀ t ∈ ts, ∃ k ∈ ks, CallAt H5 t k := fun t ht => by
  obtain ⟨k, hk, ce, e1, e2⟩ := tm4 t ht
  exact ⟨k, hk, ce, s5' _ _ (fun z => by rw [z, etk] at e1; cases e1) e1, s5' _ _ (fun z => by rw [z, etk] at e2; cases e2) e2⟩
 refine ⟨_, rfl, so, rfl, ⟨_, SqL.of eso5⟩, ?_⟩
 refine comp_list (xs := es.map V.int) (fun i acc σ G' => G' = H5 ∧ acc = ((es.take i).filter fun x => !decide (x ∈ xs)).map V.int ∧ ∃ v, σ = [v, some (.ref tk)])
  ⟨rfl, rfl, none, rfl⟩ (Nat.le_of_lt (small1000 (by have := eok.few; rw [List.length_map]; lia))) (fun i acc σ G' g => ?_) (fun i acc σ G' _ g => by rw [g.1]; exact SqL.of eso5) ?_ ?_
 ·obtain ⟨_, rfl, _⟩ := g
  rw [List.length_map]
  exact Nat.le_trans (List.length_filter_le _ _) (by rw [List.length_take]; lia)
 ·rintro i y acc σ G' hy ⟨rfl, rfl, v, rfl⟩
  rw [List.getElem?_map] at hy
  obtain ⟨x, hx, rfl⟩ := Option.map_eq_some_iff.mp hy
  refine ⟨_, rfl, _, rfl, tk, _, rfl, .inl (SqL.of exs), rfl, int_flat _, _, rfl, ?_⟩
  have stp : (es.take (i + 1)).filter (fun x => !decide (x ∈ xs)) = (es.take i).filter (fun x => !decide (x ∈ xs)) ++ (if (!decide (x ∈ xs)) = true then [x] else []) := by
   rw [List.take_add_one, hx, List.filter_append]
   congr 1
   show List.filter (fun x => !decide (x ∈ xs)) [x] = _
   rw [List.filter_cons]
   split <;> rfl
  refine ite2 (fun c0 => ?_) (fun c0 => ?_)
  ·have c : (!inV (.int x) (xs.map V.int)) = true := c0
   rw [int_in] at c
   exact ⟨_, rfl, rfl, by rw [stp, if_pos c, List.map_append]; rfl, _, rfl⟩
  ·have c : ¬ (!inV (.int x) (xs.map V.int)) = true := c0
   rw [int_in] at c
   exact ⟨rfl, by rw [stp, if_neg c, List.append_nil], _, rfl⟩
 rintro acc σ G' ⟨rfl, rfl, v, rfl⟩ eh heh
 rw [List.length_map, List.take_length]
 have s6' := same_new heh (.lst ((es.filter fun x => !decide (x ∈ xs)).map V.int))
 have s6 := s5.trans s6'
 have eeh := upd_same (H := G') (a := eh) (o := .lst ((es.filter fun x => !decide (x ∈ xs)).map V.int))
 have eth6 := s6' _ _ eth5
 have tm6 : ∀ t ∈ ts, ∃ k ∈ ks, CallAt (upd G' eh (.lst ((es.filter fun x => !decide (x ∈ xs)).map V.int))) t k := fun t ht => by
  obtain ⟨k, hk, ck⟩ := tm5 t ht
  exact ⟨k, hk, CallAt.same (fun b xs z => s6' _ _ z) ck⟩
 generalize upd G' eh (.lst ((es.filter fun x => !decide (x ∈ xs)).map V.int)) = H6 at s6 eeh eth6 tm6 ⊢
 refine ⟨_, rfl, (by show 0 ≤ sizeLine; decide), fun nl hnl => ?_⟩
 have s7' := same_new hnl (.lst [])
 have s7 := s6.trans s7'
 have enl := upd_same (H := H6) (a := nl) (o := .lst [])
 have eeh7 := s7' _ _ eeh
 have eth7 := s7' _ _ eth6
 have tm7 : ∀ t ∈ ts, ∃ k ∈ ks, CallAt (upd H6 nl (.lst [])) t k := fun t ht => by
  obtain ⟨k, hk, ck⟩ := tm6 t ht
  exact ⟨k, hk, CallAt.same (fun b xs z => s7' _ _ z) ck⟩
 generalize upd H6 nl (.lst []) = H7 at s7 enl eeh7 eth7 tm7 ⊢
 refine ⟨eh, nl, _, [], rfl, rfl, SqL.of eeh7, SqL.of enl, _, rfl, ?_⟩
 refine ite2 (fun z0 => ?_) (fun z0 => ?_)
 ·have z1 := of_decide_eq_true z0
  have e0m : e0 ∈ xs := by
   by_cases y : e0 ∈ xs
   ·exact y
   ·have : e0 ∈ es.filter fun x => !decide (x ∈ xs) := List.mem_filter.mpr ⟨by rw [ees]; exact List.mem_cons_self .., by simp [y]⟩
    rw [z1] at this
    cases this
  obtain ⟨t, tt, ets⟩ := List.exists_cons_of_ne_nil (tn ((xm e0).mp e0m))
  obtain ⟨k, hk, ce, f1, f2⟩ := tm7 t (by rw [ets]; exact List.mem_cons_self ..)
  have att : atI (ts.map V.ref) 0 = some (.ref t) := by rw [ets]; exact atI_nat (j := 0) rfl
  exact ⟨_, rfl, _, rfl, _, rfl, th, _, _, _, rfl, rfl, SqL.of eth7, att, t, _, _, _, rfl, rfl, SqT.of f2, rfl, fin s7 ⟨k, hk, rfl⟩⟩
 ·have z1 : es.filter (fun x => !decide (x ∈ xs)) ≠ [] := fun y => z0 (decide_eq_true y)
  have hH7 := Same.seqT s7 hH
  refine ⟨_, rfl, _, rfl, sz, _, _, _, rfl, rfl, SqT.of (s7 _ _ esz), rfl, _, rfl, a, h, g, n, rfl, hH7, ok, g0, g3, fun b B hB lB => ?_⟩
  obtain ⟨rv, hrvm, eat⟩ := at_six (n * 742938285 % 999959) h6
  refine ⟨_, rfl, _, rfl, _, _, rfl, rfl, .inr ⟨by decide, by decide⟩, _, _, rfl, rfl, (by show (0 : Int) < 999959; decide), _, _, rfl, rfl, (by show (0 : Int) < 6; decide), rl, _, _, _, rfl, rfl, SqL.of (s7 _ _ erl), eat, ?_⟩
  have eo' : EndsOk h (es.filter fun x => !decide (x ∈ xs)) := ⟨eok.nd.sublist List.filter_sublist, fun e he => eok.es e (List.mem_filter.mp he).1, z1, Nat.le_trans (List.length_filter_le _ _) eok.few⟩
  have idle : Idle2 ks (n * 48271 % 1000003 % (h.i * h.c)) (es.filter fun x => !decide (x ∈ xs)) := ⟨idle1, fun e he k hk ek => by
   have := (List.mem_filter.mp he).2
   have m := (xm e).mpr ⟨k, hk, ek⟩
   simp [m] at this⟩
  have wne : waysM h ks (n * 48271 % 1000003 % (h.i * h.c)) (es.filter fun x => !decide (x ∈ xs)) b ≠ [] := by
   refine way_free ok ri.fr ri.hin idle (w := w.toNat) (Nat.le_trans (racks_few fun e he => hrs e (List.mem_filter.mp he).1) lrs) ?_
   have := open_many (h := h) (sh := (b : Int)) (B := B) fun k hk => hB k (by rw [open_bit] at hk; simpa using hk)
   lia
  exact ⟨_, rfl, _, rfl, _, rfl, _, rfl, _, rfl, _, rfl, a, l, eh, h, as, ks, (n * 48271 % 1000003 % (h.i * h.c)), _, rv, b, ro, rfl, hH7, ok, s7 _ _ el, CallsAt.same (fun b xs z => s7 _ _ z) hC, ri.hin, ri.up, h63, eeh7, eo'.few, by show (decide ((0 : Int) ≤ (n * 48271 % 1000003 % (h.i * h.c))) && decide ((n * 48271 % 1000003 % (h.i * h.c)) ≤ h.i * h.c - 1)) = true; rw [decide_eq_true hc.1, decide_eq_true (show (n * 48271 % 1000003 % (h.i * h.c)) ≤ h.i * h.c - 1 by lia)]; rfl, ends_good eo', idle, wne, (hrv rv hrvm).same s7, ru.same s7, fun k hk r bs ks' es' H' kp ruG er cs pm srt pk upk => q r bs ks' H' ((keep_same s7).trans kp) ruG er cs (ri.put ok hc eo' idle pm srt hk pk upk) (by rw [pk.length_eq, List.length_append, List.length_singleton]; exact Nat.le_refl _)⟩
end
theorem tabs_of {T1 T2 : Addr} {H : Hp} {ts : List Addr} (n : (T1 == T2) = false) (h1 : T1 ∈ ts) (h2 : T2 ∈ ts) (h : ∀ P ∈ ts, H P = some (.tbl #[])) : Tabs T1 T2 H := ⟨fun z => by rw [z] at n; simp at n, .inl (h _ h1), .inl (h _ h2)⟩
theorem new_same {H : Hp} {C x dx : Addr} {n : Int} (hx : H x = none) (hdx : H dx = none) : Same H (upd (upd (upd H dx (.own x)) x (.ins C dx [])) x (.ins C dx (startF n))) := fun b u z => by
 rw [upd_ne (ne_of_none z hx), upd_ne (ne_of_none z hx), upd_ne (ne_of_none z hdx)]
 exact z
theorem room_many {c0 w0 e0 m0 g0 : Int} (hc : 0 ≤ c0) (hw : 0 ≤ w0) (he : 0 ≤ e0) (hm : 0 ≤ m0) (hg : 0 ≤ g0) : (1 + c0).toNat + (1 + w0).toNat * ((1 + e0).toNat - 1) + g0.toNat ≤ (1 + c0 + (1 + w0) * (1 + e0 - 1) + m0 + g0).toNat := by
 obtain ⟨W, rfl⟩ := Int.eq_ofNat_of_zero_le hw
 obtain ⟨E, rfl⟩ := Int.eq_ofNat_of_zero_le he
 have e1 : (1 + ((W : Nat) : Int)).toNat = 1 + W := by lia
 have e2 : (1 + ((E : Nat) : Int)).toNat - 1 = E := by lia
 have e3 : (1 + ((W : Nat) : Int)) * (1 + ((E : Nat) : Int) - 1) = (((1 + W) * E : Nat) : Int) := by
  rw [show 1 + ((E : Nat) : Int) - 1 = ((E : Nat) : Int) by lia, Int.natCast_mul, Int.natCast_add]
  rfl
 rw [e1, e2, e3]
 generalize (1 + W) * E = X
 lia
def sixL (r1 r2 r3 ro t : Addr) : List V := [.non, .ref r1, .ref r2, .ref r3, .ref ro, .ref t]
theorem six_rules {CR CF CE CT ro r1 r2 r3 t d1 d2 d3 dt tr : Addr} {ws : List Int} {G : Hp} (h1 : G r1 = some (.ins CR d1 [])) (h2 : G r2 = some (.ins CF d2 [])) (h3 : G r3 = some (.ins CE d3 [])) (n1 : r1 ≠ ro) (n2 : r2 ≠ ro) (n3 : r3 ≠ ro) (ht : G t = some (.ins CT dt [("racks", .ref tr)])) (htr : G tr = some (.lst (ws.map V.int))) (nt : t ≠ ro) : ∀ rv ∈ sixL r1 r2 r3 ro t, RuleIs CR CF CE CT ro G rv := by
 intro rv h
 unfold sixL at h
 simp only [List.mem_cons, List.not_mem_nil, or_false] at h
 rcases h with rfl | rfl | rfl | rfl | rfl | rfl
 ·exact .inl rfl
 ·exact .inr (.inr ⟨_, rfl, n1, .inl ⟨_, .inl h1⟩⟩)
 ·exact .inr (.inr ⟨_, rfl, n2, .inl ⟨_, .inr (.inl h2)⟩⟩)
 ·exact .inr (.inr ⟨_, rfl, n3, .inl ⟨_, .inr (.inr h3)⟩⟩)
 ·exact .inr (.inl rfl)
 ·exact .inr (.inr ⟨_, rfl, nt, .inr ⟨_, _, _, ht, htr⟩⟩)
section
variable {P : Program} {w : World} {K : PySem.W.Frag} {mg : Str → Option Value} {base : Heap} {C_Rule C_Fullest C_Emptiest C_Round C_Told : Addr} {T_Fullest_choose T_Emptiest_choose : Addr}
theorem sc_law : FnScope ["_law_script", "_law_callers", "_law_ends_here", "_law_w", "_law_gone", "_law_amid", "_law_ins", "_law_hall", "_law_rules", "_law_calls", "_law_at", "_law_number"] ["_law_script"] (defScope (top 50)) := ⟨rfl, rfl, rfl, by decide +kernel, rfl, by decide +kernel, by decide +kernel⟩
set_option maxHeartbeats 4000000 in
theorem ok_law (T : Txt K mg) (Z : TxtC K mg C_Rule C_Fullest C_Emptiest C_Round C_Told) {ts : List Addr} (n12 : (T_Fullest_choose == T_Emptiest_choose) = false) (hT1 : T_Fullest_choose ∈ ts) (hT2 : T_Emptiest_choose ∈ ts) (C__law_size : Callee P w K mg base 2 "_law_size" ["_law_script", "_law_k", "_law_most"] (spSize K)) (C_Round___init__ : CalleeM P w K mg base 1 C_Round "__init__" ["self", "start"] [.int 0] (KwOne K "start") (spInit C_Round)) (C_Told___init__ : CalleeM P w K mg base 1 C_Told "__init__" ["self", "listed"] [] noKw (spToldI K C_Told)) (C__law_deed : Callee P w K mg base 8 "_law_deed" ["_law_hall", "_law_sizes", "_law_calls", "_law_rules", "_law_number"] (spDeed26 K C_Rule C_Fullest C_Emptiest C_Told C_Round T_Fullest_choose T_Emptiest_choose)) {f : Addr} {fd : FuncData} (F : Fun K "law" "law" (top 50) f fd) : FnOk P w K mg base CX0 9 f fd ["_law_script"] (spLawT K ts) := by
 refine F.ok sc_law (fun vs H Q E h => ?_) (fun cdv A outer s H vs Q E hr h => ?_)
 ·obtain ⟨a, ns, rfl, _⟩ := h
  rfl
 obtain ⟨a, ns, rfl, hS, h63, hT, q⟩ := h
 have tabs := tabs_of n12 hT1 hT2 hT
 refine ⟨_, (pss_cons (ps_set (i := 1) sc_law.nd rfl (Or.inl rfl) (pe_op op_add pe_int (pe_fn C__law_size hr rfl (pa_cons (pv 0) (pa_cons pe_int (pa_cons pe_int pa_nil st_const) st_const) st_name))))
  (pss_cons (ps_set (i := 2) sc_law.nd rfl (Or.inl rfl) (pe_op op_add pe_int (pe_fn C__law_size hr rfl (pa_cons (pv 0) (pa_cons pe_int (pa_cons pe_int pa_nil st_const) st_const) st_name))))
  (pss_cons (ps_set (i := 3) sc_law.nd rfl (Or.inl rfl) (pe_op op_add pe_int (pe_fn C__law_size hr rfl (pa_cons (pv 0) (pa_cons pe_int (pa_cons pe_int pa_nil st_const) st_const) st_name))))
  (pss_cons (ps_set (i := 4) sc_law.nd rfl (Or.inl rfl) (pe_fn C__law_size hr rfl (pa_cons (pv 0) (pa_cons pe_int (pa_cons pe_int pa_nil st_const) st_const) st_name)))
  (pss_cons (ps_set (i := 5) sc_law.nd rfl (Or.inl rfl) (pe_op op_add (pe_op op_add (pe_op op_add (pv 1) (pe_op op_mul (pv 3) (pe_op op_sub (pv 2) pe_int))) (pe_fn C__law_size hr rfl (pa_cons (pv 0) (pa_cons pe_int (pa_cons pe_int pa_nil st_const) st_const) st_name))) (pv 4)))
  (pss_cons (ps_set (i := 6) sc_law.nd rfl (Or.inl rfl) (pe_op op_add pe_int (pe_fn C__law_size hr rfl (pa_cons (pv 0) (pa_cons pe_int (pa_cons pe_int pa_nil st_const) st_const) st_name))))
  (pss_cons (ps_set (i := 7) sc_law.nd rfl (Or.inl rfl) (pe_tup (pa_cons (pv 6) (pa_cons (pv 1) (pa_cons (pv 5) (pa_cons (pe_op op_add pe_int (pe_fn C__law_size hr rfl (pa_cons (pv 0) (pa_cons pe_int (pa_cons pe_int pa_nil st_const) st_const) st_name))) (pa_cons (pv 2) pa_nil st_name) st_bin) st_name) st_name) st_name)))
  (pss_cons (ps_set (i := 8) sc_law.nd rfl (Or.inl rfl) (pe_lst (pa_cons pe_non (pa_cons (pe_plain Z.M_Rule Z.p_Rule rfl) (pa_cons (pe_plain Z.M_Fullest Z.p_Fullest rfl) (pa_cons (pe_plain Z.M_Emptiest Z.p_Emptiest rfl) (pa_cons (pe_new0 C_Round___init__ Z.M_Round hr rfl) (pa_cons (pe_newA C_Told___init__ Z.M_Told hr rfl (pa_cons (pe_lst (pa_cons (pe_op op_sub (pv 5) pe_int) (pa_cons pe_int pa_nil st_const) st_bin)) pa_nil st_list)) pa_nil st_call) st_call) st_call) st_call) st_call) st_const)))
  (pss_cons (ps_if (pt_cmpR op_eq (pv 5) pe_int (nomark _)) (pss_one (ps_asg (pe_newA C_Told___init__ Z.M_Told hr rfl (pa_cons (pe_lst (pa_cons pe_int pa_nil st_const)) pa_nil st_list)) (pg_sub (pv 8) pe_int set_list))) pss_nil)
  (pss_cons (ps_set (i := 9) sc_law.nd rfl (Or.inl rfl) (pe_lst pa_nil))
  (pss_cons (ps_for PassesOwn.never rfl (pi_range2 rfl T.m_range (pa_cons pe_int (pa_cons (pe_callB (call_min2 rfl) rfl T.m_min boot_min (pa_cons (pe_callB (call_lenK K) rfl T.m_len boot_len (pa_cons (pv 0) pa_nil st_name)) (pa_cons pe_int pa_nil st_const) st_call)) pa_nil st_call) st_const)) (pg_name (i := 10) sc_law.nd rfl (Or.inl rfl))
  (pss_cons (ps_set (i := 11) sc_law.nd rfl (Or.inl rfl) (pe_op op_add (pe_op op_mul (pe_callB call_abs rfl T.m_abs boot_abs (pa_cons (pe_ix (ix_listK K) (pv 0) (pv 10) (fun _ _ => rfl)) pa_nil st_sub)) (pe_op op_add (pe_op op_mul pe_int (pv 10)) pe_int)) (pe_op op_mul (pv 10) (pv 10))))
  (pss_cons (ps_set (i := 9) sc_law.nd rfl (Or.inl rfl) (pe_fn C__law_deed hr rfl (pa_cons (pv 7) (pa_cons (pe_tup (pa_cons (pv 3) (pa_cons (pv 4) pa_nil st_name) st_name)) (pa_cons (pv 9) (pa_cons (pv 8) (pa_cons (pv 11) pa_nil st_name) st_name) st_name) st_tup) st_name)))
  (pss_one (ps_if (pt_cmpR op_isN (pv 9) pe_non (nomark _)) (pss_one (ps_ret pe_bl)) pss_nil)))))
  (pss_one (ps_ret pe_bl))))))))))))), ?_⟩
 refine ⟨_, rfl, a, ns, 1, 4, rfl, hS, by decide, by decide, fun c0 c1 c2 => ⟨_, _, rfl, rfl, ?_⟩⟩
 refine ⟨_, rfl, a, ns, 3, 4, rfl, hS, by decide, by decide, fun e0 e1 e2 => ⟨_, _, rfl, rfl, ?_⟩⟩
 refine ⟨_, rfl, a, ns, 4, 3, rfl, hS, by decide, by decide, fun w0 w1 w2 => ⟨_, _, rfl, rfl, ?_⟩⟩
 refine ⟨_, rfl, a, ns, 5, 4, rfl, hS, by decide, by decide, fun g0 g1 g2 => ?_⟩
 have hwe : 0 ≤ (1 + w0) * (1 + e0 - 1) ∧ (1 + w0) * (1 + e0 - 1) ≤ 3 * 3 := ⟨Int.mul_nonneg (by lia) (by lia), Int.mul_le_mul (by lia) (by lia) (by lia) (by lia)⟩
 refine ⟨_, rfl, _, rfl, _, rfl, _, _, rfl, rfl, _, _, rfl, rfl, .inl ⟨by lia, by lia⟩, _, _, rfl, rfl, _, rfl, a, ns, 6, 3, rfl, hS, by decide, by decide, fun m0 m1 m2 => ⟨_, _, rfl, rfl, _, rfl, _, _, rfl, rfl, ?_⟩⟩
 refine ⟨_, rfl, a, ns, 0, 4, rfl, hS, by decide, by decide, fun i0 i1 i2 => ⟨_, _, rfl, rfl, ?_⟩⟩
 refine ⟨_, rfl, _, rfl, _, rfl, _, rfl, a, ns, 2, 4, rfl, hS, by decide, by decide, fun o0 o1 o2 => ⟨_, _, rfl, rfl, _, rfl, (by show 5 ≤ sizeLine; decide), fun hp hhp => ?_⟩⟩
 have ok : (Hall.mk (1 + i0) (1 + c0) (1 + c0 + (1 + w0) * (1 + e0 - 1) + m0 + g0) (1 + o0) (1 + e0)).Ok := ⟨by show 1 ≤ 1 + i0 ∧ 1 + i0 ≤ 12; lia, by show 1 ≤ 1 + c0 ∧ 1 + c0 ≤ 12; lia, by show 1 ≤ (1 + c0 + (1 + w0) * (1 + e0 - 1) + m0 + g0) ∧ (1 + c0 + (1 + w0) * (1 + e0 - 1) + m0 + g0) ≤ 24; lia, by show 1 ≤ 1 + o0 ∧ 1 + o0 ≤ 12; lia, by show 1 ≤ 1 + e0 ∧ 1 + e0 ≤ 12; lia⟩
 have hmany := room_many c1 w1 e1 m1 g1
 dsimp only
 have s1 := same_new hhp (.tup [.int (1 + i0), .int (1 + c0), .int (1 + c0 + (1 + w0) * (1 + e0 - 1) + m0 + g0), .int (1 + o0), .int (1 + e0)])
 have ehp := upd_same (H := H) (a := hp) (o := .tup [.int (1 + i0), .int (1 + c0), .int (1 + c0 + (1 + w0) * (1 + e0 - 1) + m0 + g0), .int (1 + o0), .int (1 + e0)])
 generalize upd H hp (.tup [.int (1 + i0), .int (1 + c0), .int (1 + c0 + (1 + w0) * (1 + e0 - 1) + m0 + g0), .int (1 + o0), .int (1 + e0)]) = H1 at s1 ehp ⊢
 refine fun r1 d1 hr1 hd1 _ => ?_
 have u1 := plain_same (C := C_Rule) hr1 hd1
 have f1 := upd_same (H := upd H1 d1 (.own r1)) (a := r1) (o := .ins C_Rule d1 [])
 generalize upd (upd H1 d1 (.own r1)) r1 (.ins C_Rule d1 []) = K1 at u1 f1 ⊢
 refine fun r2 d2 hr2 hd2 _ => ?_
 have u2 := plain_same (C := C_Fullest) hr2 hd2
 have f2 := upd_same (H := upd K1 d2 (.own r2)) (a := r2) (o := .ins C_Fullest d2 [])
 generalize upd (upd K1 d2 (.own r2)) r2 (.ins C_Fullest d2 []) = K2 at u2 f2 ⊢
 refine fun r3 d3 hr3 hd3 _ => ?_
 have u3 := plain_same (C := C_Emptiest) hr3 hd3
 have f3 := upd_same (H := upd K2 d3 (.own r3)) (a := r3) (o := .ins C_Emptiest d3 [])
 generalize upd (upd K2 d3 (.own r3)) r3 (.ins C_Emptiest d3 []) = K3 at u3 f3 ⊢
 refine fun ro dr hro hdr _ => ⟨ro, dr, 0, rfl, upd_same, rfl, ?_⟩
 have u4 := new_same (C := C_Round) (n := 0) hro hdr
 have f4 := upd_same (H := upd (upd K3 dr (.own ro)) ro (.ins C_Round dr [])) (a := ro) (o := .ins C_Round dr (startF 0))
 generalize upd (upd (upd K3 dr (.own ro)) ro (.ins C_Round dr [])) ro (.ins C_Round dr (startF 0)) = K4 at u4 f4 ⊢
 have n1 : r1 ≠ ro := fun z => by rw [← z, u3 _ _ (u2 _ _ f1)] at hro; cases hro
 have n2 : r2 ≠ ro := fun z => by rw [← z, u3 _ _ f2] at hro; cases hro
 have n3 : r3 ≠ ro := fun z => by rw [← z, f3] at hro; cases hro
 have sK4 := s1.trans (u1.trans (u2.trans (u3.trans u4)))
 have f14 := u4 _ _ (u3 _ _ (u2 _ _ f1))
 have f24 := u4 _ _ (u3 _ _ f2)
 have f34 := u4 _ _ f3
 have ehp4 := u4 _ _ (u3 _ _ (u2 _ _ (u1 _ _ ehp)))
 have ru4 : Rul C_Round T_Fullest_choose T_Emptiest_choose ro K4 := ⟨tabs.same sK4, dr, 0, f4⟩
 clear u1 u2 u3 u4 f1 f2 f3 hr1 hr2 hr3 hd1 hd2 hd3
 refine ⟨_, rfl, _, _, rfl, rfl, (by show 2 ≤ sizeLine; decide), fun wl hwl => ?_⟩
 dsimp only
 have u5 := same_new hwl (.lst [.int ((1 + c0 + (1 + w0) * (1 + e0 - 1) + m0 + g0) - 1), .int 0])
 have ewl := upd_same (H := K4) (a := wl) (o := .lst [.int ((1 + c0 + (1 + w0) * (1 + e0 - 1) + m0 + g0) - 1), .int 0])
 generalize upd K4 wl (.lst [.int ((1 + c0 + (1 + w0) * (1 + e0 - 1) + m0 + g0) - 1), .int 0]) = K5 at u5 ewl ⊢
 refine fun to dto hto hdto nto => ⟨to, dto, wl, [(1 + c0 + (1 + w0) * (1 + e0 - 1) + m0 + g0) - 1, 0], rfl, upd_same, ?_, fun tr K6 htr oth etr eto => ⟨rfl, ?_⟩⟩
 ·rw [upd_ne (ne_of_none ewl hto), upd_ne (ne_of_none ewl hdto)]
  exact ewl
 have u6 : Same K5 K6 := fun b u z => oth b u (ne_of_none z hto) (by rw [upd_ne (ne_of_none z hto), upd_ne (ne_of_none z hdto)]; exact z)
 have u46 := u5.trans u6
 have nto' : to ≠ ro := fun z => by rw [z, u5 _ _ f4] at hto; cases hto
 refine ⟨(by show 6 ≤ sizeLine; decide), fun rl hrl => ?_⟩
 have u7 := same_new hrl (.lst (sixL r1 r2 r3 ro to))
 have erl := upd_same (H := K6) (a := rl) (o := .lst (sixL r1 r2 r3 ro to))
 change Same K6 (upd K6 rl (.lst [.non, .ref r1, .ref r2, .ref r3, .ref ro, .ref to])) at u7
 change upd K6 rl (.lst [.non, .ref r1, .ref r2, .ref r3, .ref ro, .ref to]) rl = _ at erl
 have hrl4 : K4 rl = none := u46.free hrl
 have u47 := u46.trans u7
 have eto7 := u7 _ _ eto
 have etr7 := u7 _ _ etr
 generalize upd K6 rl (.lst [.non, .ref r1, .ref r2, .ref r3, .ref ro, .ref to]) = K7 at u47 erl eto7 etr7 ⊢
 have sH7 := sK4.trans u47
 dsimp only [gName, tNext]
 refine seq_cut (fun σ' G => Same H G ∧ G hp = some (.tup [.int (1 + i0), .int (1 + c0), .int (1 + c0 + (1 + w0) * (1 + e0 - 1) + m0 + g0), .int (1 + o0), .int (1 + e0)]) ∧ Rul C_Round T_Fullest_choose T_Emptiest_choose ro G ∧ (∃ rvs : List V, G rl = some (.lst rvs) ∧ rvs.length = 6 ∧ ∀ rv ∈ rvs, RuleIs C_Rule C_Fullest C_Emptiest C_Told ro G rv) ∧ σ' = [some (.ref a), some (.int (1 + c0)), some (.int (1 + e0)), some (.int (1 + w0)), some (.int g0), some (.int (1 + c0 + (1 + w0) * (1 + e0 - 1) + m0 + g0)), some (.int (1 + i0)), some (.ref hp), some (.ref rl), none, none, none]) (fun R rest => ?_) ?_
 ·refine ⟨_, rfl, rfl, _, rfl, ite2 (fun z => ?_) (fun z => rest _ _ ⟨sH7, u47 _ _ ehp4, ru4.same u47, ⟨_, erl, rfl, six_rules (u47 _ _ f14) (u47 _ _ f24) (u47 _ _ f34) n1 n2 n3 eto7 etr7 nto'⟩, rfl⟩)⟩
  refine ⟨(by show 1 ≤ sizeLine; decide), fun wl2 hwl2 => ?_⟩
  have v1 := same_new hwl2 (.lst [.int 0])
  have ewl2 := upd_same (H := K7) (a := wl2) (o := .lst [.int 0])
  generalize upd K7 wl2 (.lst [.int 0]) = K8 at v1 ewl2 ⊢
  refine fun to2 dto2 hto2 hdto2 nto2 => ⟨to2, dto2, wl2, [0], rfl, upd_same, ?_, fun tr2 K9 htr2 oth2 etr2 eto2 => ⟨rfl, ?_⟩⟩
  ·rw [upd_ne (ne_of_none ewl2 hto2), upd_ne (ne_of_none ewl2 hdto2)]
   exact ewl2
  have v2 : Same K8 K9 := fun b u z => oth2 b u (ne_of_none z hto2) (by rw [upd_ne (ne_of_none z hto2), upd_ne (ne_of_none z hdto2)]; exact z)
  have v12 := v1.trans v2
  have erl9 := v12 _ _ erl
  have nto2' : to2 ≠ ro := fun z => by rw [z, v1 _ _ (u47 _ _ f4)] at hto2; cases hto2
  have up4 : ∀ {b : Addr} {u : HO}, K4 b = some u → upd K9 rl (.lst (sixL r1 r2 r3 ro to2)) b = some u := fun {b u} z => by
   rw [upd_ne (ne_of_none z hrl4)]
   exact v12 _ _ (u47 _ _ z)
  have nt : to2 ≠ rl := fun z => by rw [z, erl9] at eto2; cases eto2
  have nt2 : tr2 ≠ rl := fun z => by
   rw [z] at htr2
   have y : K8 rl = some (.lst [.non, .ref r1, .ref r2, .ref r3, .ref ro, .ref to]) := v1 _ _ erl
   rw [upd_ne (ne_of_none y hto2), upd_ne (ne_of_none y hdto2), y] at htr2
   cases htr2
  refine ⟨_, rfl, rl, _, 5, 5, rfl, rfl, erl9, rfl, ?_⟩
  refine rest _ _ ⟨fun b u z => up4 (sK4 _ _ z), up4 ehp4, ru4.same fun b u z => up4 z, ⟨sixL r1 r2 r3 ro to2, upd_same, rfl, six_rules (up4 f14) (up4 f24) (up4 f34) n1 n2 n3 (by rw [upd_ne nt]; exact eto2) (by rw [upd_ne nt2]; exact etr2) nto2'⟩, rfl⟩
 ·rintro σ' G ⟨sG, ehG, ruG, ⟨rvs, erG, l6, hrvs⟩, rfl⟩
  refine ⟨(by show 0 ≤ sizeLine; decide), fun l hl => ?_⟩
  have v1 := same_new hl (.lst [])
  have el := upd_same (H := G) (a := l) (o := .lst [])
  generalize upd G l (.lst []) = G1 at v1 el ⊢
  have sG1 := sG.trans v1
  have hS1 := sG1.seq hS
  refine ⟨_, rfl, a, _, rfl, .inl hS1, _, _, rfl, _, _, rfl, ⟨by decide, by decide, ?_, ?_⟩, ?_⟩
  ·show -(2 ^ 62) ≤ (if (71 : Int) < (((ns.map V.int).length : Nat) : Int) then 71 else (((ns.map V.int).length : Nat) : Int))
   split <;> lia
  ·rw [List.length_map]
   show (if (71 : Int) < ((ns.length : Nat) : Int) then 71 else ((ns.length : Nat) : Int)) < 2 ^ 62
   split <;> lia
  rw [List.length_map]
  have bnd : ∀ i : Nat, i < ((if (71 : Int) < ((ns.length : Nat) : Int) then (71 : Int) else ((ns.length : Nat) : Int)) - 7).toNat → 7 + i < ns.length ∧ i < 57 := fun i hi => by
   split at hi <;> lia
  refine for_range (lo := 7) (fun i σ G' => SqL K G' a (ns.map V.int) ∧ G' hp = some (.tup [.int (1 + i0), .int (1 + c0), .int (1 + c0 + (1 + w0) * (1 + e0 - 1) + m0 + g0), .int (1 + o0), .int (1 + e0)]) ∧ Rul C_Round T_Fullest_choose T_Emptiest_choose ro G' ∧ G' rl = some (.lst rvs) ∧ (∀ rv ∈ rvs, RuleIs C_Rule C_Fullest C_Emptiest C_Told ro G' rv) ∧ ∃ (l : Addr) (as : List Addr) (ks : List Call) (v10 v11 : Option V), G' l = some (.lst (as.map V.ref)) ∧ CallsAt G' as ks ∧ Right (Hall.mk (1 + i0) (1 + c0) (1 + c0 + (1 + w0) * (1 + e0 - 1) + m0 + g0) (1 + o0) (1 + e0)) ks ∧ ks.length ≤ i ∧ σ = [some (.ref a), some (.int (1 + c0)), some (.int (1 + e0)), some (.int (1 + w0)), some (.int g0), some (.int (1 + c0 + (1 + w0) * (1 + e0 - 1) + m0 + g0)), some (.int (1 + i0)), some (.ref hp), some (.ref rl), some (.ref l), v10, v11])
   ⟨hS1, v1 _ _ ehG, ruG.same v1, v1 _ _ erG, fun rv h => (hrvs rv h).same v1, l, [], [], none, none, el, .nil, ⟨(fun k hk => nomatch hk), .nil, .nil⟩, Nat.le_refl _, rfl⟩ ?_ ?_
  ·rintro i σ G' hi ⟨b1, b2, b3, b4, b5, l', as, ks, v10, v11, b6, b7, b8, b9, rfl⟩
   obtain ⟨hi1, hi2⟩ := bnd i hi
   have at7 : atI (ns.map V.int) (7 + (i : Int)) = some (.int (cell ns (7 + i))) := by
    have := at_nat hi1
    rwa [show (((7 + i : Nat)) : Int) = 7 + (i : Int) by lia] at this
   refine ⟨_, rfl, _, rfl, a, _, _, _, rfl, rfl, b1, at7, _, rfl, _, rfl, _, _, rfl, rfl, .inl ⟨by decide, by decide⟩, _, _, rfl, rfl, _, _, rfl, rfl, .inr ⟨by lia, by lia⟩, _, rfl, _, rfl, _, _, rfl, rfl, .inl ⟨by lia, by lia⟩, _, _, rfl, rfl, ?_⟩
   refine ⟨_, rfl, _, rfl, _, rfl, (by show 2 ≤ sizeLine; decide), fun sz hsz => ?_⟩
   have t1 := same_new hsz (.tup [.int (1 + w0), .int g0])
   have esz := upd_same (H := G') (a := sz) (o := .tup [.int (1 + w0), .int g0])
   generalize upd G' sz (.tup [.int (1 + w0), .int g0]) = G2 at t1 esz ⊢
   have ru2 := b3.same t1
   refine ⟨_, rfl, _, rfl, _, rfl, hp, sz, l', rl, (Hall.mk (1 + i0) (1 + c0) (1 + c0 + (1 + w0) * (1 + e0 - 1) + m0 + g0) (1 + o0) (1 + e0)), 1 + w0, g0, _, as, ks, rvs, ro, rfl, SqT.of (t1 _ _ b2), ok, esz, by lia, by lia, by lia, by lia, hmany, t1 _ _ b6, CallsAt.same (fun b xs z => t1 _ _ z) b7, b8, by lia, t1 _ _ b4, l6, fun rv h => (b5 rv h).same t1, ru2, fun r bs ks' G3 kp ru3 er cs ri' kl => ?_⟩
   refine ⟨_, rfl, rfl, _, rfl, iteF ?_⟩
   exact ⟨kp.seq ru2 (t1.seq b1), kp.tup ru2 (t1 _ _ b2), ru3, kp.lst ru2 (t1 _ _ b4), fun rv h => kp.rule ru2 ((b5 rv h).same t1), r, bs, ks', _, _, er, cs, ri', by lia, rfl⟩
  ·rintro σ G' ⟨b1, b2, b3, b4, b5, l', as, ks, v10, v11, b6, b7, b8, b9, rfl⟩
   exact q G'
end
section
variable {l : PySem.W.OpenLaw} {w : World} {K : PySem.W.Frag} {h : Heap} {mg : Str → Option Value}
theorem def_mk {x : Str} {st : Stmt} {ps : List Str} {f : Addr} {oc : Value} {od an : Option Addr} {sl : Array (Option Value)} {kV dc pm cd ct : Value} (X : K.In h) (G : h.Ns mainGlobals mg) (a : PySem.W.nsIn K mainGlobals x = some (some (.ref f)))
  (l : K.lookup f = some ⟨oc, od, .func (PySem.W.fnOf x x (defArgs st) (defBody st) (defScope st) .none kV dc pm an cd ct), sl⟩) (c : PySem.W.codeIn K cd x = true) (k : PySem.W.keepIn K (.ref f) = true)
  (b : ∀ us : List Value, us.length = ps.length → bindArgs (PySem.W.fnOf x x (defArgs st) (defBody st) (defScope st) .none kV dc pm an cd ct) ⟨us, []⟩ = pure (ps.zip us)) : Def K mg x st ps :=
 ⟨f, _, fun_mk l c k, .all b, PySem.W.mg_of X G a⟩
theorem all_mk {ts : List Addr} {fa f1 f2 f3 f4 f5 f6 f7 f8 f9 f10 f11 f12 f13 f14 f15 f16 f17 f18 f19 f20 f21 f22 f23 f24 f25 f26 f27 f28 f29 f30 f31 f32 f33  C_Rule C_Fullest C_Emptiest C_Round C_Told fm_Rule_choose fm_Fullest_choose fm_Emptiest_choose fm_Round___init__ fm_Round_choose fm_Told___init__ fm_Told_choose : Addr} (X : K.In h) (G : h.Ns mainGlobals mg) (hfa : mg "law" = some (.ref fa))
  {od1 an1 od2 an2 od3 an3 od4 an4 od5 an5 od6 an6 od7 an7 od8 an8 od9 an9 od10 an10 od11 an11 od12 an12 od13 an13 od14 an14 od15 an15 od16 an16 od17 an17 od18 an18 od19 an19 od20 an20 od21 an21 od22 an22 od23 an23 od24 an24 od25 an25 od26 an26 od27 an27 od28 an28 od29 an29 od30 an30 od31 an31 od32 an32 od33 an33 : Option Addr} {sl1 sl2 sl3 sl4 sl5 sl6 sl7 sl8 sl9 sl10 sl11 sl12 sl13 sl14 sl15 sl16 sl17 sl18 sl19 sl20 sl21 sl22 sl23 sl24 sl25 sl26 sl27 sl28 sl29 sl30 sl31 sl32 sl33 : Array (Option Value)} {oc1 kV1 dc1 pm1 cd1 ct1 oc2 kV2 dc2 pm2 cd2 ct2 oc3 kV3 dc3 pm3 cd3 ct3 oc4 kV4 dc4 pm4 cd4 ct4 oc5 kV5 dc5 pm5 cd5 ct5 oc6 kV6 dc6 pm6 cd6 ct6 oc7 kV7 dc7 pm7 cd7 ct7 oc8 kV8 dc8 pm8 cd8 ct8 oc9 kV9 dc9 pm9 cd9 ct9 oc10 kV10 dc10 pm10 cd10 ct10 oc11 kV11 dc11 pm11 cd11 ct11 oc12 kV12 dc12 pm12 cd12 ct12 oc13 kV13 dc13 pm13 cd13 ct13 oc14 kV14 dc14 pm14 cd14 ct14 oc15 kV15 dc15 pm15 cd15 ct15 oc16 kV16 dc16 pm16 cd16 ct16 oc17 kV17 dc17 pm17 cd17 ct17 oc18 kV18 dc18 pm18 cd18 ct18 oc19 kV19 dc19 pm19 cd19 ct19 oc20 kV20 dc20 pm20 cd20 ct20 oc21 kV21 dc21 pm21 cd21 ct21 oc22 kV22 dc22 pm22 cd22 ct22 oc23 kV23 dc23 pm23 cd23 ct23 oc24 kV24 dc24 pm24 cd24 ct24 oc25 kV25 dc25 pm25 cd25 ct25 oc26 kV26 dc26 pm26 cd26 ct26 oc27 kV27 dc27 pm27 cd27 ct27 oc28 kV28 dc28 pm28 cd28 ct28 oc29 kV29 dc29 pm29 cd29 ct29 oc30 kV30 dc30 pm30 cd30 ct30 oc31 kV31 dc31 pm31 cd31 ct31 oc32 kV32 dc32 pm32 cd32 ct32 oc33 kV33 dc33 pm33 cd33 ct33 : Value}
  {dv14 : Addr} {odv14 : Option Addr} {slv14 : Array (Option Value)} {nv14 : Nat} {td14_0 : Tok}
  {dv15 : Addr} {odv15 : Option Addr} {slv15 : Array (Option Value)} {nv15 : Nat} {td15_0 : Tok}
  {dv22 : Addr} {odv22 : Option Addr} {slv22 : Array (Option Value)} {nv22 : Nat} {td22_1 : Tok}
  (a1 : PySem.W.nsIn K mainGlobals "is_number" = some (some (.ref f1))) (l1 : K.lookup f1 = some ⟨oc1, od1, .func (PySem.W.fnOf "is_number" "is_number" (defArgs (top 7)) (defBody (top 7)) (defScope (top 7)) .none kV1 dc1 pm1 an1 cd1 ct1), sl1⟩) (c1 : PySem.W.codeIn K cd1 "is_number" = true) (k1 : PySem.W.keepIn K (.ref f1) = true)
  (a2 : PySem.W.nsIn K mainGlobals "is_whole" = some (some (.ref f2))) (l2 : K.lookup f2 = some ⟨oc2, od2, .func (PySem.W.fnOf "is_whole" "is_whole" (defArgs (top 8)) (defBody (top 8)) (defScope (top 8)) .none kV2 dc2 pm2 an2 cd2 ct2), sl2⟩) (c2 : PySem.W.codeIn K cd2 "is_whole" = true) (k2 : PySem.W.keepIn K (.ref f2) = true)
  (a3 : PySem.W.nsIn K mainGlobals "place_in" = some (some (.ref f3))) (l3 : K.lookup f3 = some ⟨oc3, od3, .func (PySem.W.fnOf "place_in" "place_in" (defArgs (top 9)) (defBody (top 9)) (defScope (top 9)) .none kV3 dc3 pm3 an3 cd3 ct3), sl3⟩) (c3 : PySem.W.codeIn K cd3 "place_in" = true) (k3 : PySem.W.keepIn K (.ref f3) = true)
  (a4 : PySem.W.nsIn K mainGlobals "place_out" = some (some (.ref f4))) (l4 : K.lookup f4 = some ⟨oc4, od4, .func (PySem.W.fnOf "place_out" "place_out" (defArgs (top 10)) (defBody (top 10)) (defScope (top 10)) .none kV4 dc4 pm4 an4 cd4 ct4), sl4⟩) (c4 : PySem.W.codeIn K cd4 "place_out" = true) (k4 : PySem.W.keepIn K (.ref f4) = true)
  (a5 : PySem.W.nsIn K mainGlobals "are_ends" = some (some (.ref f5))) (l5 : K.lookup f5 = some ⟨oc5, od5, .func (PySem.W.fnOf "are_ends" "are_ends" (defArgs (top 11)) (defBody (top 11)) (defScope (top 11)) .none kV5 dc5 pm5 an5 cd5 ct5), sl5⟩) (c5 : PySem.W.codeIn K cd5 "are_ends" = true) (k5 : PySem.W.keepIn K (.ref f5) = true)
  (a6 : PySem.W.nsIn K mainGlobals "racks_of" = some (some (.ref f6))) (l6 : K.lookup f6 = some ⟨oc6, od6, .func (PySem.W.fnOf "racks_of" "racks_of" (defArgs (top 12)) (defBody (top 12)) (defScope (top 12)) .none kV6 dc6 pm6 an6 cd6 ct6), sl6⟩) (c6 : PySem.W.codeIn K cd6 "racks_of" = true) (k6 : PySem.W.keepIn K (.ref f6) = true)
  (a7 : PySem.W.nsIn K mainGlobals "left_open" = some (some (.ref f7))) (l7 : K.lookup f7 = some ⟨oc7, od7, .func (PySem.W.fnOf "left_open" "left_open" (defArgs (top 14)) (defBody (top 14)) (defScope (top 14)) .none kV7 dc7 pm7 an7 cd7 ct7), sl7⟩) (c7 : PySem.W.codeIn K cd7 "left_open" = true) (k7 : PySem.W.keepIn K (.ref f7) = true)
  (a8 : PySem.W.nsIn K mainGlobals "are_unlike" = some (some (.ref f8))) (l8 : K.lookup f8 = some ⟨oc8, od8, .func (PySem.W.fnOf "are_unlike" "are_unlike" (defArgs (top 15)) (defBody (top 15)) (defScope (top 15)) .none kV8 dc8 pm8 an8 cd8 ct8), sl8⟩) (c8 : PySem.W.codeIn K cd8 "are_unlike" = true) (k8 : PySem.W.keepIn K (.ref f8) = true)
  (a9 : PySem.W.nsIn K mainGlobals "loads" = some (some (.ref f9))) (l9 : K.lookup f9 = some ⟨oc9, od9, .func (PySem.W.fnOf "loads" "loads" (defArgs (top 17)) (defBody (top 17)) (defScope (top 17)) .none kV9 dc9 pm9 an9 cd9 ct9), sl9⟩) (c9 : PySem.W.codeIn K cd9 "loads" = true) (k9 : PySem.W.keepIn K (.ref f9) = true)
  (a10 : PySem.W.nsIn K mainGlobals "is_caller" = some (some (.ref f10))) (l10 : K.lookup f10 = some ⟨oc10, od10, .func (PySem.W.fnOf "is_caller" "is_caller" (defArgs (top 25)) (defBody (top 25)) (defScope (top 25)) .none kV10 dc10 pm10 an10 cd10 ct10), sl10⟩) (c10 : PySem.W.codeIn K cd10 "is_caller" = true) (k10 : PySem.W.keepIn K (.ref f10) = true)
  (a11 : PySem.W.nsIn K mainGlobals "is_ends" = some (some (.ref f11))) (l11 : K.lookup f11 = some ⟨oc11, od11, .func (PySem.W.fnOf "is_ends" "is_ends" (defArgs (top 26)) (defBody (top 26)) (defScope (top 26)) .none kV11 dc11 pm11 an11 cd11 ct11), sl11⟩) (c11 : PySem.W.codeIn K cd11 "is_ends" = true) (k11 : PySem.W.keepIn K (.ref f11) = true)
  (a12 : PySem.W.nsIn K mainGlobals "holds_needed" = some (some (.ref f12))) (l12 : K.lookup f12 = some ⟨oc12, od12, .func (PySem.W.fnOf "holds_needed" "holds_needed" (defArgs (top 27)) (defBody (top 27)) (defScope (top 27)) .none kV12 dc12 pm12 an12 cd12 ct12), sl12⟩) (c12 : PySem.W.codeIn K cd12 "holds_needed" = true) (k12 : PySem.W.keepIn K (.ref f12) = true)
  (a13 : PySem.W.nsIn K mainGlobals "holders" = some (some (.ref f13))) (l13 : K.lookup f13 = some ⟨oc13, od13, .func (PySem.W.fnOf "holders" "holders" (defArgs (top 28)) (defBody (top 28)) (defScope (top 28)) .none kV13 dc13 pm13 an13 cd13 ct13), sl13⟩) (c13 : PySem.W.codeIn K cd13 "holders" = true) (k13 : PySem.W.keepIn K (.ref f13) = true)
  (dl14 : K.lookup dv14 = some ⟨.type "tuple", odv14, .seq #[.int 0 td14_0] nv14, slv14⟩)
  (a14 : PySem.W.nsIn K mainGlobals "ways" = some (some (.ref f14))) (l14 : K.lookup f14 = some ⟨oc14, od14, .func (PySem.W.fnOf "ways" "ways" (defArgs (top 29)) (defBody (top 29)) (defScope (top 29)) (.ref dv14) kV14 dc14 pm14 an14 cd14 ct14), sl14⟩) (c14 : PySem.W.codeIn K cd14 "ways" = true) (k14 : PySem.W.keepIn K (.ref f14) = true)
  (dl15 : K.lookup dv15 = some ⟨.type "tuple", odv15, .seq #[.int 0 td15_0] nv15, slv15⟩)
  (a15 : PySem.W.nsIn K mainGlobals "least_ended" = some (some (.ref f15))) (l15 : K.lookup f15 = some ⟨oc15, od15, .func (PySem.W.fnOf "least_ended" "least_ended" (defArgs (top 30)) (defBody (top 30)) (defScope (top 30)) (.ref dv15) kV15 dc15 pm15 an15 cd15 ct15), sl15⟩) (c15 : PySem.W.codeIn K cd15 "least_ended" = true) (k15 : PySem.W.keepIn K (.ref f15) = true)
  (a16 : PySem.W.nsIn K mainGlobals "call_of" = some (some (.ref f16))) (l16 : K.lookup f16 = some ⟨oc16, od16, .func (PySem.W.fnOf "call_of" "call_of" (defArgs (top 32)) (defBody (top 32)) (defScope (top 32)) .none kV16 dc16 pm16 an16 cd16 ct16), sl16⟩) (c16 : PySem.W.codeIn K cd16 "call_of" = true) (k16 : PySem.W.keepIn K (.ref f16) = true)
  (a17 : PySem.W.nsIn K mainGlobals "holder_of" = some (some (.ref f17))) (l17 : K.lookup f17 = some ⟨oc17, od17, .func (PySem.W.fnOf "holder_of" "holder_of" (defArgs (top 33)) (defBody (top 33)) (defScope (top 33)) .none kV17 dc17 pm17 an17 cd17 ct17), sl17⟩) (c17 : PySem.W.codeIn K cd17 "holder_of" = true) (k17 : PySem.W.keepIn K (.ref f17) = true)
  (a18 : PySem.W.nsIn K mainGlobals "refuse_wrong" = some (some (.ref f18))) (l18 : K.lookup f18 = some ⟨oc18, od18, .func (PySem.W.fnOf "refuse_wrong" "refuse_wrong" (defArgs (top 34)) (defBody (top 34)) (defScope (top 34)) .none kV18 dc18 pm18 an18 cd18 ct18), sl18⟩) (c18 : PySem.W.codeIn K cd18 "refuse_wrong" = true) (k18 : PySem.W.keepIn K (.ref f18) = true)
  (a19 : PySem.W.nsIn K mainGlobals "refuse_busy" = some (some (.ref f19))) (l19 : K.lookup f19 = some ⟨oc19, od19, .func (PySem.W.fnOf "refuse_busy" "refuse_busy" (defArgs (top 35)) (defBody (top 35)) (defScope (top 35)) .none kV19 dc19 pm19 an19 cd19 ct19), sl19⟩) (c19 : PySem.W.codeIn K cd19 "refuse_busy" = true) (k19 : PySem.W.keepIn K (.ref f19) = true)
  (a20 : PySem.W.nsIn K mainGlobals "refuse_engaged" = some (some (.ref f20))) (l20 : K.lookup f20 = some ⟨oc20, od20, .func (PySem.W.fnOf "refuse_engaged" "refuse_engaged" (defArgs (top 36)) (defBody (top 36)) (defScope (top 36)) .none kV20 dc20 pm20 an20 cd20 ct20), sl20⟩) (c20 : PySem.W.codeIn K cd20 "refuse_engaged" = true) (k20 : PySem.W.keepIn K (.ref f20) = true)
  (a21 : PySem.W.nsIn K mainGlobals "with_call" = some (some (.ref f21))) (l21 : K.lookup f21 = some ⟨oc21, od21, .func (PySem.W.fnOf "with_call" "with_call" (defArgs (top 37)) (defBody (top 37)) (defScope (top 37)) .none kV21 dc21 pm21 an21 cd21 ct21), sl21⟩) (c21 : PySem.W.codeIn K cd21 "with_call" = true) (k21 : PySem.W.keepIn K (.ref f21) = true)
  (dl22 : K.lookup dv22 = some ⟨.type "tuple", odv22, .seq #[.none, .int 0 td22_1] nv22, slv22⟩)
  (a22 : PySem.W.nsIn K mainGlobals "joined" = some (some (.ref f22))) (l22 : K.lookup f22 = some ⟨oc22, od22, .func (PySem.W.fnOf "joined" "joined" (defArgs (top 38)) (defBody (top 38)) (defScope (top 38)) (.ref dv22) kV22 dc22 pm22 an22 cd22 ct22), sl22⟩) (c22 : PySem.W.codeIn K cd22 "joined" = true) (k22 : PySem.W.keepIn K (.ref f22) = true)
  (a23 : PySem.W.nsIn K mainGlobals "ended" = some (some (.ref f23))) (l23 : K.lookup f23 = some ⟨oc23, od23, .func (PySem.W.fnOf "ended" "ended" (defArgs (top 39)) (defBody (top 39)) (defScope (top 39)) .none kV23 dc23 pm23 an23 cd23 ct23), sl23⟩) (c23 : PySem.W.codeIn K cd23 "ended" = true) (k23 : PySem.W.keepIn K (.ref f23) = true)
  (a24 : PySem.W.nsIn K mainGlobals "_law_cell_at" = some (some (.ref f24))) (l24 : K.lookup f24 = some ⟨oc24, od24, .func (PySem.W.fnOf "_law_cell_at" "_law_cell_at" (defArgs (top 41)) (defBody (top 41)) (defScope (top 41)) .none kV24 dc24 pm24 an24 cd24 ct24), sl24⟩) (c24 : PySem.W.codeIn K cd24 "_law_cell_at" = true) (k24 : PySem.W.keepIn K (.ref f24) = true)
  (a25 : PySem.W.nsIn K mainGlobals "_law_alike" = some (some (.ref f25))) (l25 : K.lookup f25 = some ⟨oc25, od25, .func (PySem.W.fnOf "_law_alike" "_law_alike" (defArgs (top 42)) (defBody (top 42)) (defScope (top 42)) .none kV25 dc25 pm25 an25 cd25 ct25), sl25⟩) (c25 : PySem.W.codeIn K cd25 "_law_alike" = true) (k25 : PySem.W.keepIn K (.ref f25) = true)
  (a26 : PySem.W.nsIn K mainGlobals "_law_size" = some (some (.ref f26))) (l26 : K.lookup f26 = some ⟨oc26, od26, .func (PySem.W.fnOf "_law_size" "_law_size" (defArgs (top 43)) (defBody (top 43)) (defScope (top 43)) .none kV26 dc26 pm26 an26 cd26 ct26), sl26⟩) (c26 : PySem.W.codeIn K cd26 "_law_size" = true) (k26 : PySem.W.keepIn K (.ref f26) = true)
  (a27 : PySem.W.nsIn K mainGlobals "_law_shut" = some (some (.ref f27))) (l27 : K.lookup f27 = some ⟨oc27, od27, .func (PySem.W.fnOf "_law_shut" "_law_shut" (defArgs (top 44)) (defBody (top 44)) (defScope (top 44)) .none kV27 dc27 pm27 an27 cd27 ct27), sl27⟩) (c27 : PySem.W.codeIn K cd27 "_law_shut" = true) (k27 : PySem.W.keepIn K (.ref f27) = true)
  (a28 : PySem.W.nsIn K mainGlobals "_law_ends" = some (some (.ref f28))) (l28 : K.lookup f28 = some ⟨oc28, od28, .func (PySem.W.fnOf "_law_ends" "_law_ends" (defArgs (top 45)) (defBody (top 45)) (defScope (top 45)) .none kV28 dc28 pm28 an28 cd28 ct28), sl28⟩) (c28 : PySem.W.codeIn K cd28 "_law_ends" = true) (k28 : PySem.W.keepIn K (.ref f28) = true)
  (a29 : PySem.W.nsIn K mainGlobals "_law_idle" = some (some (.ref f29))) (l29 : K.lookup f29 = some ⟨oc29, od29, .func (PySem.W.fnOf "_law_idle" "_law_idle" (defArgs (top 46)) (defBody (top 46)) (defScope (top 46)) .none kV29 dc29 pm29 an29 cd29 ct29), sl29⟩) (c29 : PySem.W.codeIn K cd29 "_law_idle" = true) (k29 : PySem.W.keepIn K (.ref f29) = true)
  (a30 : PySem.W.nsIn K mainGlobals "_law_joined" = some (some (.ref f30))) (l30 : K.lookup f30 = some ⟨oc30, od30, .func (PySem.W.fnOf "_law_joined" "_law_joined" (defArgs (top 47)) (defBody (top 47)) (defScope (top 47)) .none kV30 dc30 pm30 an30 cd30 ct30), sl30⟩) (c30 : PySem.W.codeIn K cd30 "_law_joined" = true) (k30 : PySem.W.keepIn K (.ref f30) = true)
  (a31 : PySem.W.nsIn K mainGlobals "_law_ended" = some (some (.ref f31))) (l31 : K.lookup f31 = some ⟨oc31, od31, .func (PySem.W.fnOf "_law_ended" "_law_ended" (defArgs (top 48)) (defBody (top 48)) (defScope (top 48)) .none kV31 dc31 pm31 an31 cd31 ct31), sl31⟩) (c31 : PySem.W.codeIn K cd31 "_law_ended" = true) (k31 : PySem.W.keepIn K (.ref f31) = true)
  (a32 : PySem.W.nsIn K mainGlobals "_law_deed" = some (some (.ref f32))) (l32 : K.lookup f32 = some ⟨oc32, od32, .func (PySem.W.fnOf "_law_deed" "_law_deed" (defArgs (top 49)) (defBody (top 49)) (defScope (top 49)) .none kV32 dc32 pm32 an32 cd32 ct32), sl32⟩) (c32 : PySem.W.codeIn K cd32 "_law_deed" = true) (k32 : PySem.W.keepIn K (.ref f32) = true)
  (a33 : PySem.W.nsIn K mainGlobals "law" = some (some (.ref f33))) (l33 : K.lookup f33 = some ⟨oc33, od33, .func (PySem.W.fnOf "law" "law" (defArgs (top 50)) (defBody (top 50)) (defScope (top 50)) .none kV33 dc33 pm33 an33 cd33 ct33), sl33⟩) (c33 : PySem.W.codeIn K cd33 "law" = true) (k33 : PySem.W.keepIn K (.ref f33) = true)
  (q_Rule_at : PySem.W.nsIn K mainGlobals "Rule" = some (some (.ref C_Rule)))
  (q_Rule_pg : PySem.W.plainGet K C_Rule Str.empty = true) (q_Rule_hd : PySem.W.hasDictIn K C_Rule = true) (q_Rule_po : PySem.W.plainOver K C_Rule = true) (q_Rule_sa : PySem.W.findIn K (.ref C_Rule) "__setattr__" = some (some (.builtin "object.__setattr__"))) (q_Rule_mk : PySem.W.makesIn K C_Rule = true) (q_Rule_kc : PySem.W.keepIn K (.ref C_Rule) = true)
  (q_Rule_ha : PySem.W.findIn K (.ref C_Rule) "__class__" = some (some (.builtin "object.__class__"))) (q_Rule_hn : PySem.W.specialIn K (.builtin "object.__class__") "__get__" = some (some (.builtin "getset_descriptor.__get__"))) (q_Rule_ht : PySem.W.takesIn K (.builtin "object.__class__") = some true) (q_Rule_hm : PySem.W.mroIn K C_Rule (.type "object") = some true)
  (q_Rule_pi : PySem.W.findIn K (.ref C_Rule) "__init__" = some (some (.builtin "object.__init__")))
  (q_Fullest_at : PySem.W.nsIn K mainGlobals "Fullest" = some (some (.ref C_Fullest)))
  (q_Fullest_pg : PySem.W.plainGet K C_Fullest Str.empty = true) (q_Fullest_hd : PySem.W.hasDictIn K C_Fullest = true) (q_Fullest_po : PySem.W.plainOver K C_Fullest = true) (q_Fullest_sa : PySem.W.findIn K (.ref C_Fullest) "__setattr__" = some (some (.builtin "object.__setattr__"))) (q_Fullest_mk : PySem.W.makesIn K C_Fullest = true) (q_Fullest_kc : PySem.W.keepIn K (.ref C_Fullest) = true)
  (q_Fullest_ha : PySem.W.findIn K (.ref C_Fullest) "__class__" = some (some (.builtin "object.__class__"))) (q_Fullest_hn : PySem.W.specialIn K (.builtin "object.__class__") "__get__" = some (some (.builtin "getset_descriptor.__get__"))) (q_Fullest_ht : PySem.W.takesIn K (.builtin "object.__class__") = some true) (q_Fullest_hm : PySem.W.mroIn K C_Fullest (.type "object") = some true)
  (q_Fullest_pi : PySem.W.findIn K (.ref C_Fullest) "__init__" = some (some (.builtin "object.__init__")))
  (q_Emptiest_at : PySem.W.nsIn K mainGlobals "Emptiest" = some (some (.ref C_Emptiest)))
  (q_Emptiest_pg : PySem.W.plainGet K C_Emptiest Str.empty = true) (q_Emptiest_hd : PySem.W.hasDictIn K C_Emptiest = true) (q_Emptiest_po : PySem.W.plainOver K C_Emptiest = true) (q_Emptiest_sa : PySem.W.findIn K (.ref C_Emptiest) "__setattr__" = some (some (.builtin "object.__setattr__"))) (q_Emptiest_mk : PySem.W.makesIn K C_Emptiest = true) (q_Emptiest_kc : PySem.W.keepIn K (.ref C_Emptiest) = true)
  (q_Emptiest_ha : PySem.W.findIn K (.ref C_Emptiest) "__class__" = some (some (.builtin "object.__class__"))) (q_Emptiest_hn : PySem.W.specialIn K (.builtin "object.__class__") "__get__" = some (some (.builtin "getset_descriptor.__get__"))) (q_Emptiest_ht : PySem.W.takesIn K (.builtin "object.__class__") = some true) (q_Emptiest_hm : PySem.W.mroIn K C_Emptiest (.type "object") = some true)
  (q_Emptiest_pi : PySem.W.findIn K (.ref C_Emptiest) "__init__" = some (some (.builtin "object.__init__")))
  (q_Round_at : PySem.W.nsIn K mainGlobals "Round" = some (some (.ref C_Round)))
  (q_Round_pg : PySem.W.plainGet K C_Round Str.empty = true) (q_Round_hd : PySem.W.hasDictIn K C_Round = true) (q_Round_po : PySem.W.plainOver K C_Round = true) (q_Round_sa : PySem.W.findIn K (.ref C_Round) "__setattr__" = some (some (.builtin "object.__setattr__"))) (q_Round_mk : PySem.W.makesIn K C_Round = true) (q_Round_kc : PySem.W.keepIn K (.ref C_Round) = true)
  (q_Round_ha : PySem.W.findIn K (.ref C_Round) "__class__" = some (some (.builtin "object.__class__"))) (q_Round_hn : PySem.W.specialIn K (.builtin "object.__class__") "__get__" = some (some (.builtin "getset_descriptor.__get__"))) (q_Round_ht : PySem.W.takesIn K (.builtin "object.__class__") = some true) (q_Round_hm : PySem.W.mroIn K C_Round (.type "object") = some true)
  (q_Round_n_start : PySem.W.findIn K (.ref C_Round) "start" = some none)
  (q_Told_at : PySem.W.nsIn K mainGlobals "Told" = some (some (.ref C_Told)))
  (q_Told_pg : PySem.W.plainGet K C_Told Str.empty = true) (q_Told_hd : PySem.W.hasDictIn K C_Told = true) (q_Told_po : PySem.W.plainOver K C_Told = true) (q_Told_sa : PySem.W.findIn K (.ref C_Told) "__setattr__" = some (some (.builtin "object.__setattr__"))) (q_Told_mk : PySem.W.makesIn K C_Told = true) (q_Told_kc : PySem.W.keepIn K (.ref C_Told) = true)
  (q_Told_ha : PySem.W.findIn K (.ref C_Told) "__class__" = some (some (.builtin "object.__class__"))) (q_Told_hn : PySem.W.specialIn K (.builtin "object.__class__") "__get__" = some (some (.builtin "getset_descriptor.__get__"))) (q_Told_ht : PySem.W.takesIn K (.builtin "object.__class__") = some true) (q_Told_hm : PySem.W.mroIn K C_Told (.type "object") = some true)
  (q_Told_n_racks : PySem.W.findIn K (.ref C_Told) "racks" = some none)
  {odm_Rule_choose anm_Rule_choose : Option Addr} {slm_Rule_choose : Array (Option Value)} {ocm_Rule_choose kvm_Rule_choose dcm_Rule_choose pmm_Rule_choose ctm_Rule_choose cdm_Rule_choose : Value}
  (q_Rule_choose_a : PySem.W.findIn K (.ref C_Rule) "choose" = some (some (.ref fm_Rule_choose))) (q_Rule_choose_i : PySem.W.isFn K (.ref fm_Rule_choose) = true) (q_Rule_choose_l : K.lookup fm_Rule_choose = some ⟨ocm_Rule_choose, odm_Rule_choose, .func (PySem.W.fnOf "choose" "Rule.choose" (defArgs (inClass (top 19) 0)) (defBody (inClass (top 19) 0)) (defScope (inClass (top 19) 0)) .none kvm_Rule_choose dcm_Rule_choose pmm_Rule_choose anm_Rule_choose cdm_Rule_choose ctm_Rule_choose), slm_Rule_choose⟩) (q_Rule_choose_c : PySem.W.codeIn K cdm_Rule_choose "Rule.choose" = true) (q_Rule_choose_k : PySem.W.keepIn K (.ref fm_Rule_choose) = true)
  {odm_Fullest_choose anm_Fullest_choose : Option Addr} {slm_Fullest_choose : Array (Option Value)} {ocm_Fullest_choose kvm_Fullest_choose dcm_Fullest_choose pmm_Fullest_choose ctm_Fullest_choose : Value} {cdm_Fullest_choose : Addr}
  (q_Fullest_choose_a : PySem.W.findIn K (.ref C_Fullest) "choose" = some (some (.ref fm_Fullest_choose))) (q_Fullest_choose_i : PySem.W.isFn K (.ref fm_Fullest_choose) = true) (q_Fullest_choose_l : K.lookup fm_Fullest_choose = some ⟨ocm_Fullest_choose, odm_Fullest_choose, .func (PySem.W.fnOf "choose" "Fullest.choose" (defArgs (inClass (top 20) 0)) (defBody (inClass (top 20) 0)) (defScope (inClass (top 20) 0)) .none kvm_Fullest_choose dcm_Fullest_choose pmm_Fullest_choose anm_Fullest_choose (.ref cdm_Fullest_choose) ctm_Fullest_choose), slm_Fullest_choose⟩) (q_Fullest_choose_c : PySem.W.codeIn K (.ref cdm_Fullest_choose) "Fullest.choose" = true) (q_Fullest_choose_k : PySem.W.keepIn K (.ref fm_Fullest_choose) = true)
  (q_Fullest_choose_xh : PySem.W.codeHdIn K cdm_Fullest_choose (tabOf K cdm_Fullest_choose) = true) (q_Fullest_choose_xm : ts.contains (tabOf K cdm_Fullest_choose) = true)
  {odm_Emptiest_choose anm_Emptiest_choose : Option Addr} {slm_Emptiest_choose : Array (Option Value)} {ocm_Emptiest_choose kvm_Emptiest_choose dcm_Emptiest_choose pmm_Emptiest_choose ctm_Emptiest_choose : Value} {cdm_Emptiest_choose : Addr}
  (q_Emptiest_choose_a : PySem.W.findIn K (.ref C_Emptiest) "choose" = some (some (.ref fm_Emptiest_choose))) (q_Emptiest_choose_i : PySem.W.isFn K (.ref fm_Emptiest_choose) = true) (q_Emptiest_choose_l : K.lookup fm_Emptiest_choose = some ⟨ocm_Emptiest_choose, odm_Emptiest_choose, .func (PySem.W.fnOf "choose" "Emptiest.choose" (defArgs (inClass (top 21) 0)) (defBody (inClass (top 21) 0)) (defScope (inClass (top 21) 0)) .none kvm_Emptiest_choose dcm_Emptiest_choose pmm_Emptiest_choose anm_Emptiest_choose (.ref cdm_Emptiest_choose) ctm_Emptiest_choose), slm_Emptiest_choose⟩) (q_Emptiest_choose_c : PySem.W.codeIn K (.ref cdm_Emptiest_choose) "Emptiest.choose" = true) (q_Emptiest_choose_k : PySem.W.keepIn K (.ref fm_Emptiest_choose) = true)
  (q_Emptiest_choose_xh : PySem.W.codeHdIn K cdm_Emptiest_choose (tabOf K cdm_Emptiest_choose) = true) (q_Emptiest_choose_xm : ts.contains (tabOf K cdm_Emptiest_choose) = true)
  {odm_Round___init__ anm_Round___init__ : Option Addr} {slm_Round___init__ : Array (Option Value)} {ocm_Round___init__ kvm_Round___init__ dcm_Round___init__ pmm_Round___init__ ctm_Round___init__ cdm_Round___init__ : Value}
  {dvm_Round___init__ : Addr} {odd_Round___init__ : Option Addr} {sld_Round___init__ : Array (Option Value)} {nd_Round___init__ : Nat} {tdm_Round___init___0 : Tok}
  (q_Round___init___a : PySem.W.findIn K (.ref C_Round) "__init__" = some (some (.ref fm_Round___init__))) (q_Round___init___i : PySem.W.isFn K (.ref fm_Round___init__) = true) (q_Round___init___l : K.lookup fm_Round___init__ = some ⟨ocm_Round___init__, odm_Round___init__, .func (PySem.W.fnOf "__init__" "Round.__init__" (defArgs (inClass (top 22) 0)) (defBody (inClass (top 22) 0)) (defScope (inClass (top 22) 0)) (.ref dvm_Round___init__) kvm_Round___init__ dcm_Round___init__ pmm_Round___init__ anm_Round___init__ cdm_Round___init__ ctm_Round___init__), slm_Round___init__⟩) (q_Round___init___c : PySem.W.codeIn K cdm_Round___init__ "Round.__init__" = true) (q_Round___init___k : PySem.W.keepIn K (.ref fm_Round___init__) = true)
  (q_Round___init___d : K.lookup dvm_Round___init__ = some ⟨.type "tuple", odd_Round___init__, .seq #[.int 0 tdm_Round___init___0] nd_Round___init__, sld_Round___init__⟩)
  {odm_Round_choose anm_Round_choose : Option Addr} {slm_Round_choose : Array (Option Value)} {ocm_Round_choose kvm_Round_choose dcm_Round_choose pmm_Round_choose ctm_Round_choose cdm_Round_choose : Value}
  (q_Round_choose_a : PySem.W.findIn K (.ref C_Round) "choose" = some (some (.ref fm_Round_choose))) (q_Round_choose_i : PySem.W.isFn K (.ref fm_Round_choose) = true) (q_Round_choose_l : K.lookup fm_Round_choose = some ⟨ocm_Round_choose, odm_Round_choose, .func (PySem.W.fnOf "choose" "Round.choose" (defArgs (inClass (top 22) 1)) (defBody (inClass (top 22) 1)) (defScope (inClass (top 22) 1)) .none kvm_Round_choose dcm_Round_choose pmm_Round_choose anm_Round_choose cdm_Round_choose ctm_Round_choose), slm_Round_choose⟩) (q_Round_choose_c : PySem.W.codeIn K cdm_Round_choose "Round.choose" = true) (q_Round_choose_k : PySem.W.keepIn K (.ref fm_Round_choose) = true)
  {odm_Told___init__ anm_Told___init__ : Option Addr} {slm_Told___init__ : Array (Option Value)} {ocm_Told___init__ kvm_Told___init__ dcm_Told___init__ pmm_Told___init__ ctm_Told___init__ cdm_Told___init__ : Value}
  (q_Told___init___a : PySem.W.findIn K (.ref C_Told) "__init__" = some (some (.ref fm_Told___init__))) (q_Told___init___i : PySem.W.isFn K (.ref fm_Told___init__) = true) (q_Told___init___l : K.lookup fm_Told___init__ = some ⟨ocm_Told___init__, odm_Told___init__, .func (PySem.W.fnOf "__init__" "Told.__init__" (defArgs (inClass (top 23) 0)) (defBody (inClass (top 23) 0)) (defScope (inClass (top 23) 0)) .none kvm_Told___init__ dcm_Told___init__ pmm_Told___init__ anm_Told___init__ cdm_Told___init__ ctm_Told___init__), slm_Told___init__⟩) (q_Told___init___c : PySem.W.codeIn K cdm_Told___init__ "Told.__init__" = true) (q_Told___init___k : PySem.W.keepIn K (.ref fm_Told___init__) = true)
  {odm_Told_choose anm_Told_choose : Option Addr} {slm_Told_choose : Array (Option Value)} {ocm_Told_choose kvm_Told_choose dcm_Told_choose pmm_Told_choose ctm_Told_choose cdm_Told_choose : Value}
  (q_Told_choose_a : PySem.W.findIn K (.ref C_Told) "choose" = some (some (.ref fm_Told_choose))) (q_Told_choose_i : PySem.W.isFn K (.ref fm_Told_choose) = true) (q_Told_choose_l : K.lookup fm_Told_choose = some ⟨ocm_Told_choose, odm_Told_choose, .func (PySem.W.fnOf "choose" "Told.choose" (defArgs (inClass (top 23) 1)) (defBody (inClass (top 23) 1)) (defScope (inClass (top 23) 1)) .none kvm_Told_choose dcm_Told_choose pmm_Told_choose anm_Told_choose cdm_Told_choose ctm_Told_choose), slm_Told_choose⟩) (q_Told_choose_c : PySem.W.codeIn K cdm_Told_choose "Told.choose" = true) (q_Told_choose_k : PySem.W.keepIn K (.ref fm_Told_choose) = true)
  (q_Fullest_choose_Emptiest_choose_xn : (tabOf K cdm_Fullest_choose == tabOf K cdm_Emptiest_choose) = false)
  (z_len : PySem.W.nsIn K mainGlobals "len" = some none) (z_isinstance : PySem.W.nsIn K mainGlobals "isinstance" = some none) (z_int : PySem.W.nsIn K mainGlobals "int" = some none) (z_bool : PySem.W.nsIn K mainGlobals "bool" = some none) (z_tuple : PySem.W.nsIn K mainGlobals "tuple" = some none) (z_list : PySem.W.nsIn K mainGlobals "list" = some none) (z_set : PySem.W.nsIn K mainGlobals "set" = some none) (z_sorted : PySem.W.nsIn K mainGlobals "sorted" = some none) (z_divmod : PySem.W.nsIn K mainGlobals "divmod" = some none) (z_range : PySem.W.nsIn K mainGlobals "range" = some none) (z_abs : PySem.W.nsIn K mainGlobals "abs" = some none) (z_min : PySem.W.nsIn K mainGlobals "min" = some none) (z_max : PySem.W.nsIn K mainGlobals "max" = some none) (z_any : PySem.W.nsIn K mainGlobals "any" = some none) (z_all : PySem.W.nsIn K mainGlobals "all" = some none) (z_ValueError : PySem.W.nsIn K mainGlobals "ValueError" = some none) :
  ∃ fd : FuncData, (∀ (s : Shared) (v : Value), BindsTo s fd ⟨[v], []⟩ [("_law_script", v)]) ∧ ∀ base : Heap, K.In base → base.Ns mainGlobals mg → BMain mg base → FnOk l.prog w K mg base CX0 9 fa fd ["_law_script"] (spLawT K ts) := by
 have e := hfa.symm.trans (PySem.W.mg_of X G a33)
 cases e
 have T : Txt K mg := ⟨PySem.W.mg_none_of X G z_len, PySem.W.mg_none_of X G z_isinstance, PySem.W.mg_none_of X G z_int, PySem.W.mg_none_of X G z_bool, PySem.W.mg_none_of X G z_tuple, PySem.W.mg_none_of X G z_list, PySem.W.mg_none_of X G z_set, PySem.W.mg_none_of X G z_sorted, PySem.W.mg_none_of X G z_divmod, PySem.W.mg_none_of X G z_range, PySem.W.mg_none_of X G z_abs, PySem.W.mg_none_of X G z_min, PySem.W.mg_none_of X G z_max, PySem.W.mg_none_of X G z_any, PySem.W.mg_none_of X G z_all, PySem.W.mg_none_of X G z_ValueError⟩
 have Z : TxtC K mg C_Rule C_Fullest C_Emptiest C_Round C_Told := ⟨PySem.W.mg_of X G q_Rule_at, ⟨q_Rule_mk, q_Rule_kc, PySem.W.mg_of X G q_Rule_at⟩, ⟨q_Rule_pg, q_Rule_hd, q_Rule_po, q_Rule_sa⟩, q_Rule_pi, fun H a dx fs e => .ins e ⟨q_Rule_pg, q_Rule_hd, q_Rule_po, q_Rule_sa⟩ q_Rule_ha q_Rule_hn q_Rule_ht q_Rule_hm, PySem.W.mg_of X G q_Fullest_at, ⟨q_Fullest_mk, q_Fullest_kc, PySem.W.mg_of X G q_Fullest_at⟩, ⟨q_Fullest_pg, q_Fullest_hd, q_Fullest_po, q_Fullest_sa⟩, q_Fullest_pi, fun H a dx fs e => .ins e ⟨q_Fullest_pg, q_Fullest_hd, q_Fullest_po, q_Fullest_sa⟩ q_Fullest_ha q_Fullest_hn q_Fullest_ht q_Fullest_hm, PySem.W.mg_of X G q_Emptiest_at, ⟨q_Emptiest_mk, q_Emptiest_kc, PySem.W.mg_of X G q_Emptiest_at⟩, ⟨q_Emptiest_pg, q_Emptiest_hd, q_Emptiest_po, q_Emptiest_sa⟩, q_Emptiest_pi, fun H a dx fs e => .ins e ⟨q_Emptiest_pg, q_Emptiest_hd, q_Emptiest_po, q_Emptiest_sa⟩ q_Emptiest_ha q_Emptiest_hn q_Emptiest_ht q_Emptiest_hm, PySem.W.mg_of X G q_Round_at, ⟨q_Round_mk, q_Round_kc, PySem.W.mg_of X G q_Round_at⟩, ⟨q_Round_pg, q_Round_hd, q_Round_po, q_Round_sa⟩, q_Round_n_start, fun H a dx fs e => .ins e ⟨q_Round_pg, q_Round_hd, q_Round_po, q_Round_sa⟩ q_Round_ha q_Round_hn q_Round_ht q_Round_hm, PySem.W.mg_of X G q_Told_at, ⟨q_Told_mk, q_Told_kc, PySem.W.mg_of X G q_Told_at⟩, ⟨q_Told_pg, q_Told_hd, q_Told_po, q_Told_sa⟩, q_Told_n_racks, fun H a dx fs e => .ins e ⟨q_Told_pg, q_Told_hd, q_Told_po, q_Told_sa⟩ q_Told_ha q_Told_hn q_Told_ht q_Told_hm⟩
 have D_Rule_choose : DefM K C_Rule "choose" "Rule.choose" (inClass (top 19) 0) ["self", "hall", "calls", "free"] [] noKw := ⟨fm_Rule_choose, _, ⟨⟨_, _, _, _, _, _, _, _, _, _, rfl, q_Rule_choose_l, q_Rule_choose_c⟩⟩, ⟨q_Rule_choose_a, q_Rule_choose_i, q_Rule_choose_k⟩, trivial, fun m hm => match m, hm with | 0, _ => ⟨[], .nil, .all fun us hl => match us, hl with | [_, _, _, _], _ => rfl⟩ | _ + 1, h => absurd h (by simp)⟩
 have D_Fullest_choose : DefMT K C_Fullest "choose" "Fullest.choose" (inClass (top 20) 0) ["self", "hall", "calls", "free"] (tabOf K cdm_Fullest_choose) := ⟨fm_Fullest_choose, cdm_Fullest_choose, _, ⟨_, _, _, _, _, _, _, _, _, rfl, q_Fullest_choose_l, q_Fullest_choose_c⟩, q_Fullest_choose_xh, ⟨q_Fullest_choose_a, q_Fullest_choose_i, q_Fullest_choose_k⟩, .all fun us hl => match us, hl with | [_, _, _, _], _ => rfl⟩
 have H_Fullest_choose : tabOf K cdm_Fullest_choose ∈ ts := by simpa using q_Fullest_choose_xm
 have D_Emptiest_choose : DefMT K C_Emptiest "choose" "Emptiest.choose" (inClass (top 21) 0) ["self", "hall", "calls", "free"] (tabOf K cdm_Emptiest_choose) := ⟨fm_Emptiest_choose, cdm_Emptiest_choose, _, ⟨_, _, _, _, _, _, _, _, _, rfl, q_Emptiest_choose_l, q_Emptiest_choose_c⟩, q_Emptiest_choose_xh, ⟨q_Emptiest_choose_a, q_Emptiest_choose_i, q_Emptiest_choose_k⟩, .all fun us hl => match us, hl with | [_, _, _, _], _ => rfl⟩
 have H_Emptiest_choose : tabOf K cdm_Emptiest_choose ∈ ts := by simpa using q_Emptiest_choose_xm
 have D_Round___init__ : DefM K C_Round "__init__" "Round.__init__" (inClass (top 22) 0) ["self", "start"] [.int 0] (KwOne K "start") := ⟨fm_Round___init__, _, ⟨⟨_, _, _, _, _, _, _, _, _, _, rfl, q_Round___init___l, q_Round___init___c⟩⟩, ⟨q_Round___init___a, q_Round___init___i, q_Round___init___k⟩, (fun s u v X => BindsTo.of_defaults rfl (X _ _ q_Round___init___d) rfl rfl rfl), fun m hm => match m, hm with | 0, _ => ⟨[.int 0 tdm_Round___init___0], (.cons ⟨_, rfl⟩ .nil), fun s us X hl => match us, (show us.length = 1 from by simpa using hl) with | [_], _ => BindsTo.of_defaults rfl (X _ _ q_Round___init___d) rfl rfl rfl⟩ | 1, _ => ⟨[], .nil, fun s us X hl => match us, (show us.length = 2 from by simpa using hl) with | [_, _], _ => BindsTo.of_defaults rfl (X _ _ q_Round___init___d) rfl rfl rfl⟩ | _ + 2, h => absurd h (by simp)⟩
 have D_Round_choose : DefM K C_Round "choose" "Round.choose" (inClass (top 22) 1) ["self", "hall", "calls", "free"] [] noKw := ⟨fm_Round_choose, _, ⟨⟨_, _, _, _, _, _, _, _, _, _, rfl, q_Round_choose_l, q_Round_choose_c⟩⟩, ⟨q_Round_choose_a, q_Round_choose_i, q_Round_choose_k⟩, trivial, fun m hm => match m, hm with | 0, _ => ⟨[], .nil, .all fun us hl => match us, hl with | [_, _, _, _], _ => rfl⟩ | _ + 1, h => absurd h (by simp)⟩
 have D_Told___init__ : DefM K C_Told "__init__" "Told.__init__" (inClass (top 23) 0) ["self", "listed"] [] noKw := ⟨fm_Told___init__, _, ⟨⟨_, _, _, _, _, _, _, _, _, _, rfl, q_Told___init___l, q_Told___init___c⟩⟩, ⟨q_Told___init___a, q_Told___init___i, q_Told___init___k⟩, trivial, fun m hm => match m, hm with | 0, _ => ⟨[], .nil, .all fun us hl => match us, hl with | [_, _], _ => rfl⟩ | _ + 1, h => absurd h (by simp)⟩
 have D_Told_choose : DefM K C_Told "choose" "Told.choose" (inClass (top 23) 1) ["self", "hall", "calls", "free"] [] noKw := ⟨fm_Told_choose, _, ⟨⟨_, _, _, _, _, _, _, _, _, _, rfl, q_Told_choose_l, q_Told_choose_c⟩⟩, ⟨q_Told_choose_a, q_Told_choose_i, q_Told_choose_k⟩, trivial, fun m hm => match m, hm with | 0, _ => ⟨[], .nil, .all fun us hl => match us, hl with | [_, _, _, _], _ => rfl⟩ | _ + 1, h => absurd h (by simp)⟩
 have D_is_number : Def K mg "is_number" (top 7) ["thing"] := def_mk X G a1 l1 c1 k1 fun us hl => match us, hl with | [_], _ => rfl
 have D_is_whole : Def K mg "is_whole" (top 8) ["thing", "least", "most"] := def_mk X G a2 l2 c2 k2 fun us hl => match us, hl with | [_, _, _], _ => rfl
 have D_place_in : Def K mg "place_in" (top 9) ["hall", "caller"] := def_mk X G a3 l3 c3 k3 fun us hl => match us, hl with | [_, _], _ => rfl
 have D_place_out : Def K mg "place_out" (top 10) ["hall", "end"] := def_mk X G a4 l4 c4 k4 fun us hl => match us, hl with | [_, _], _ => rfl
 have D_are_ends : Def K mg "are_ends" (top 11) ["hall", "things"] := def_mk X G a5 l5 c5 k5 fun us hl => match us, hl with | [_, _], _ => rfl
 have D_racks_of : Def K mg "racks_of" (top 12) ["hall", "ends"] := def_mk X G a6 l6 c6 k6 fun us hl => match us, hl with | [_, _], _ => rfl
 have D_left_open : Def K mg "left_open" (top 14) ["hall", "shut"] := def_mk X G a7 l7 c7 k7 fun us hl => match us, hl with | [_, _], _ => rfl
 have D_are_unlike : Def K mg "are_unlike" (top 15) ["some"] := def_mk X G a8 l8 c8 k8 fun us hl => match us, hl with | [_], _ => rfl
 have D_loads : Def K mg "loads" (top 17) ["hall", "calls"] := def_mk X G a9 l9 c9 k9 fun us hl => match us, hl with | [_, _], _ => rfl
 have D_is_caller : Def K mg "is_caller" (top 25) ["hall", "thing"] := def_mk X G a10 l10 c10 k10 fun us hl => match us, hl with | [_, _], _ => rfl
 have D_is_ends : Def K mg "is_ends" (top 26) ["hall", "thing"] := def_mk X G a11 l11 c11 k11 fun us hl => match us, hl with | [_, _], _ => rfl
 have D_holds_needed : Def K mg "holds_needed" (top 27) ["hall", "call", "start", "goals"] := def_mk X G a12 l12 c12 k12 fun us hl => match us, hl with | [_, _, _, _], _ => rfl
 have D_holders : Def K mg "holders" (top 28) ["hall", "calls", "caller", "ends"] := def_mk X G a13 l13 c13 k13 fun us hl => match us, hl with | [_, _, _, _], _ => rfl
 have D_ways : DefD K mg "ways" (top 29) ["hall", "calls", "caller", "ends", "shut"] [.int 0] := ⟨f14, _, ⟨_, _, _, _, _, _, _, _, _, _, rfl, l14, c14⟩, k14, fun m hm => match m, hm with | 0, _ => ⟨[.int 0 td14_0], (.cons ⟨_, rfl⟩ .nil), fun s us X hl => match us, (show us.length = 4 from by simpa using hl) with | [_, _, _, _], _ => BindsTo.of_defaults rfl (X _ _ dl14) rfl rfl rfl⟩ | 1, _ => ⟨[], .nil, fun s us X hl => match us, (show us.length = 5 from by simpa using hl) with | [_, _, _, _, _], _ => BindsTo.of_defaults rfl (X _ _ dl14) rfl rfl rfl⟩ | _ + 2, h => absurd h (by simp), PySem.W.mg_of X G a14⟩
 have D_least_ended : DefD K mg "least_ended" (top 30) ["hall", "calls", "caller", "ends", "shut"] [.int 0] := ⟨f15, _, ⟨_, _, _, _, _, _, _, _, _, _, rfl, l15, c15⟩, k15, fun m hm => match m, hm with | 0, _ => ⟨[.int 0 td15_0], (.cons ⟨_, rfl⟩ .nil), fun s us X hl => match us, (show us.length = 4 from by simpa using hl) with | [_, _, _, _], _ => BindsTo.of_defaults rfl (X _ _ dl15) rfl rfl rfl⟩ | 1, _ => ⟨[], .nil, fun s us X hl => match us, (show us.length = 5 from by simpa using hl) with | [_, _, _, _, _], _ => BindsTo.of_defaults rfl (X _ _ dl15) rfl rfl rfl⟩ | _ + 2, h => absurd h (by simp), PySem.W.mg_of X G a15⟩
 have D_call_of : Def K mg "call_of" (top 32) ["calls", "caller"] := def_mk X G a16 l16 c16 k16 fun us hl => match us, hl with | [_, _], _ => rfl
 have D_holder_of : Def K mg "holder_of" (top 33) ["calls", "end"] := def_mk X G a17 l17 c17 k17 fun us hl => match us, hl with | [_, _], _ => rfl
 have D_refuse_wrong : Def K mg "refuse_wrong" (top 34) ["hall", "caller", "ends"] := def_mk X G a18 l18 c18 k18 fun us hl => match us, hl with | [_, _, _], _ => rfl
 have D_refuse_busy : Def K mg "refuse_busy" (top 35) ["calls", "caller", "ends"] := def_mk X G a19 l19 c19 k19 fun us hl => match us, hl with | [_, _, _], _ => rfl
 have D_refuse_engaged : Def K mg "refuse_engaged" (top 36) ["hall", "calls", "caller", "ends", "shut"] := def_mk X G a20 l20 c20 k20 fun us hl => match us, hl with | [_, _, _, _, _], _ => rfl
 have D_with_call : Def K mg "with_call" (top 37) ["calls", "caller", "ends", "k"] := def_mk X G a21 l21 c21 k21 fun us hl => match us, hl with | [_, _, _, _], _ => rfl
 have D_joined : DefD K mg "joined" (top 38) ["hall", "calls", "caller", "ends", "rule", "shut"] [.non, .int 0] := ⟨f22, _, ⟨_, _, _, _, _, _, _, _, _, _, rfl, l22, c22⟩, k22, fun m hm => match m, hm with | 0, _ => ⟨[.none, .int 0 td22_1], (.cons rfl (.cons ⟨_, rfl⟩ .nil)), fun s us X hl => match us, (show us.length = 4 from by simpa using hl) with | [_, _, _, _], _ => BindsTo.of_defaults rfl (X _ _ dl22) rfl rfl rfl⟩ | 1, _ => ⟨[.int 0 td22_1], (.cons ⟨_, rfl⟩ .nil), fun s us X hl => match us, (show us.length = 5 from by simpa using hl) with | [_, _, _, _, _], _ => BindsTo.of_defaults rfl (X _ _ dl22) rfl rfl rfl⟩ | 2, _ => ⟨[], .nil, fun s us X hl => match us, (show us.length = 6 from by simpa using hl) with | [_, _, _, _, _, _], _ => BindsTo.of_defaults rfl (X _ _ dl22) rfl rfl rfl⟩ | _ + 3, h => absurd h (by simp), PySem.W.mg_of X G a22⟩
 have D_ended : Def K mg "ended" (top 39) ["calls", "caller"] := def_mk X G a23 l23 c23 k23 fun us hl => match us, hl with | [_, _], _ => rfl
 have D__law_cell_at : Def K mg "_law_cell_at" (top 41) ["_law_script", "_law_k"] := def_mk X G a24 l24 c24 k24 fun us hl => match us, hl with | [_, _], _ => rfl
 have D__law_alike : Def K mg "_law_alike" (top 42) ["_law_found", "_law_due"] := def_mk X G a25 l25 c25 k25 fun us hl => match us, hl with | [_, _], _ => rfl
 have D__law_size : Def K mg "_law_size" (top 43) ["_law_script", "_law_k", "_law_most"] := def_mk X G a26 l26 c26 k26 fun us hl => match us, hl with | [_, _, _], _ => rfl
 have D__law_shut : Def K mg "_law_shut" (top 44) ["_law_hall", "_law_gone", "_law_number"] := def_mk X G a27 l27 c27 k27 fun us hl => match us, hl with | [_, _, _], _ => rfl
 have D__law_ends : Def K mg "_law_ends" (top 45) ["_law_hall", "_law_w", "_law_number"] := def_mk X G a28 l28 c28 k28 fun us hl => match us, hl with | [_, _, _], _ => rfl
 have D__law_idle : Def K mg "_law_idle" (top 46) ["_law_hall", "_law_calls", "_law_call", "_law_shut_here"] := def_mk X G a29 l29 c29 k29 fun us hl => match us, hl with | [_, _, _, _], _ => rfl
 have D__law_joined : Def K mg "_law_joined" (top 47) ["_law_hall", "_law_calls", "_law_caller", "_law_ends_here", "_law_rule", "_law_shut_here"] := def_mk X G a30 l30 c30 k30 fun us hl => match us, hl with | [_, _, _, _, _, _], _ => rfl
 have D__law_ended : Def K mg "_law_ended" (top 48) ["_law_hall", "_law_calls", "_law_caller"] := def_mk X G a31 l31 c31 k31 fun us hl => match us, hl with | [_, _, _], _ => rfl
 have D__law_deed : Def K mg "_law_deed" (top 49) ["_law_hall", "_law_sizes", "_law_calls", "_law_rules", "_law_number"] := def_mk X G a32 l32 c32 k32 fun us hl => match us, hl with | [_, _, _, _, _], _ => rfl
 have F := fun_mk (st := top 50) l33 c33 k33
 refine ⟨PySem.W.fnOf "law" "law" (defArgs (top 50)) (defBody (top 50)) (defScope (top 50)) .none kV33 dc33 pm33 an33 cd33 ct33, fun s v => .of_eq rfl, fun base _ _ hB => ?_⟩
 have C_cell := ok_cell (P := l.prog) (w := w) (base := base) T D__law_cell_at
 have C_loads := ok_loads (P := l.prog) (w := w) (base := base) T D_loads
 have C_full := ok_Fullest T hB C_loads D_Fullest_choose
 have C_emp := ok_Emptiest T hB C_loads D_Emptiest_choose
 have C_pi := ok_place_in (P := l.prog) (w := w) (base := base) T D_place_in
 have C_ra := ok_racks (P := l.prog) (w := w) (base := base) T (ok_place_out T D_place_out) D_racks_of
 have C_hold := ok_holders T C_pi C_ra (ok_needed T C_pi C_ra D_holds_needed) D_holders
 have C_open := ok_open (P := l.prog) (w := w) (base := base) T D_left_open
 have C_isn := ok_is_number (P := l.prog) (w := w) (base := base) T D_is_number
 have C_isw := ok_is_whole T C_isn D_is_whole
 have C_ise := ok_is_ends T (ok_are_ends T C_isw D_are_ends) (ok_unlike T D_are_unlike) D_is_ends
 have C_co := ok_call_of T C_isn D_call_of
 have C_ho := ok_holder_of T C_isn D_holder_of
 have C_wr := ok_wrongN T (ok_is_caller T C_isw D_is_caller) C_ise D_refuse_wrong
 have C_bu := ok_busyN T C_co C_ho D_refuse_busy
 have C_jo := ok_join26 T Z C_wr C_bu (ok_ways T C_hold C_open D_ways) (ok_first21 T Z D_Rule_choose) C_full C_emp (ok_choose T Z D_Round_choose) (ok_toldC T Z D_Told_choose) (ok_with T D_with_call) D_joined
 have C_al := ok_alike (P := l.prog) (w := w) (base := base) T D__law_alike 3
 have C_lj := ok_lj26 T C_jo C_al (ok_idle26 T D__law_idle) D__law_joined
 have C_le := ok_ended26 T (ok_endedN T C_co D_ended) C_al D__law_ended
 have C_de := ok_deed26 T C_le (ok_ends26 T D__law_ends) (ok_shut26 T D__law_shut) C_lj D__law_deed
 exact ok_law T Z q_Fullest_choose_Emptiest_choose_xn H_Fullest_choose H_Emptiest_choose (ok_size T C_cell D__law_size) (ok_init T Z D_Round___init__) (ok_toldI T Z D_Told___init__) C_de F
end
theorem walk {l : PySem.W.OpenLaw} {q : Program} {loose : List Str} {XP : (Str → Option Value) → Heap → Prop} {YP : World → Heap → Prop} {d : DefRec} {K : Params → PySem.W.Frag} {ts : List Addr} (hn : l.most = some 63) (hdf : d.params.defaults = [])
  (hY : ∀ (w : World) (h : Heap), YP w h → (K w.params).In h) (hYT : ∀ (w : World) (h : Heap), YP w h → ∀ P ∈ ts, h.get? P = some (PySem.W.tabObj #[])) (htf : ∀ p : Params, tabsFree (K p) ts = true)
  (F : ∀ (w : World) (mg : Str → Option Value) (fa : Addr) (h : Heap), (K w.params).In h → h.Ns mainGlobals mg → mg d.name = some (.ref fa) →
   ∃ fd : FuncData, (∀ (s : Shared) (u : Value), BindsTo s fd ⟨[u], []⟩ [("_law_script", u)]) ∧ ∀ base : Heap, (K w.params).In base → base.Ns mainGlobals mg → BMain mg base → FnOk l.prog w (K w.params) mg base CX0 9 fa fd ["_law_script"] (spLawT (K w.params) ts)) :
  PySem.W.WalkO q loose XP YP l.row.toRowW d [] (fun f vs => PySem.call f vs) :=
 L2.walk_ofT (n := 63) (k := 9) (x := "_law_script") (CX := fun _ => CX0) (sp := fun w => spLawT (K w.params) ts) hn (by decide) hdf ⟨rfl, by decide, by decide⟩ hY hYT htf F (fun _ _ a ns hl hT hS => ⟨a, ns, rfl, hS, hl, hT, fun _ => rfl⟩) fun _ _ _ _ _ z => z
end My
open PySem PySem.W PyProof.Rows
set_option maxRecDepth 100000 in
set_option maxHeartbeats 0 in
theorem PySem.Challenge.cw_crossracks_k26_whole_never_engaged_holds : PySem.Challenge.rw_crossracks_k26_whole_never_engaged.Holds := by
 w_on; o_law; k_head; (case hw => w_witness2)
 k_fill
 refine My.walk (l := PySem.Challenge.rw_crossracks_k26_whole_never_engaged) rfl rfl (fun w h Y => PySem.W.km_in_of Y) (fun w h Y => PySem.W.km_tabs_of Y) (fun p => by kernel_rfl) ?F
 case F =>
  intro w mg fa h KX G hmg
  refine' My.all_mk KX G hmg ?a1 ?l1 ?c1 ?k1 ?a2 ?l2 ?c2 ?k2 ?a3 ?l3 ?c3 ?k3 ?a4 ?l4 ?c4 ?k4 ?a5 ?l5 ?c5 ?k5 ?a6 ?l6 ?c6 ?k6 ?a7 ?l7 ?c7 ?k7 ?a8 ?l8 ?c8 ?k8 ?a9 ?l9 ?c9 ?k9 ?a10 ?l10 ?c10 ?k10 ?a11 ?l11 ?c11 ?k11 ?a12 ?l12 ?c12 ?k12 ?a13 ?l13 ?c13 ?k13 ?dl14 ?a14 ?l14 ?c14 ?k14 ?dl15 ?a15 ?l15 ?c15 ?k15 ?a16 ?l16 ?c16 ?k16 ?a17 ?l17 ?c17 ?k17 ?a18 ?l18 ?c18 ?k18 ?a19 ?l19 ?c19 ?k19 ?a20 ?l20 ?c20 ?k20 ?a21 ?l21 ?c21 ?k21 ?dl22 ?a22 ?l22 ?c22 ?k22 ?a23 ?l23 ?c23 ?k23 ?a24 ?l24 ?c24 ?k24 ?a25 ?l25 ?c25 ?k25 ?a26 ?l26 ?c26 ?k26 ?a27 ?l27 ?c27 ?k27 ?a28 ?l28 ?c28 ?k28 ?a29 ?l29 ?c29 ?k29 ?a30 ?l30 ?c30 ?k30 ?a31 ?l31 ?c31 ?k31 ?a32 ?l32 ?c32 ?k32 ?a33 ?l33 ?c33 ?k33   ?q_Rule_at ?q_Rule_pg ?q_Rule_hd ?q_Rule_po ?q_Rule_sa ?q_Rule_mk ?q_Rule_kc ?q_Rule_ha ?q_Rule_hn ?q_Rule_ht ?q_Rule_hm ?q_Rule_pi ?q_Fullest_at ?q_Fullest_pg ?q_Fullest_hd ?q_Fullest_po ?q_Fullest_sa ?q_Fullest_mk ?q_Fullest_kc ?q_Fullest_ha ?q_Fullest_hn ?q_Fullest_ht ?q_Fullest_hm ?q_Fullest_pi ?q_Emptiest_at ?q_Emptiest_pg ?q_Emptiest_hd ?q_Emptiest_po ?q_Emptiest_sa ?q_Emptiest_mk ?q_Emptiest_kc ?q_Emptiest_ha ?q_Emptiest_hn ?q_Emptiest_ht ?q_Emptiest_hm ?q_Emptiest_pi ?q_Round_at ?q_Round_pg ?q_Round_hd ?q_Round_po ?q_Round_sa ?q_Round_mk ?q_Round_kc ?q_Round_ha ?q_Round_hn ?q_Round_ht ?q_Round_hm ?q_Round_n_start ?q_Told_at ?q_Told_pg ?q_Told_hd ?q_Told_po ?q_Told_sa ?q_Told_mk ?q_Told_kc ?q_Told_ha ?q_Told_hn ?q_Told_ht ?q_Told_hm ?q_Told_n_racks ?q_Rule_choose_a ?q_Rule_choose_i ?q_Rule_choose_l ?q_Rule_choose_c ?q_Rule_choose_k ?q_Fullest_choose_a ?q_Fullest_choose_i ?q_Fullest_choose_l ?q_Fullest_choose_c ?q_Fullest_choose_k ?q_Fullest_choose_xh ?q_Fullest_choose_xm ?q_Emptiest_choose_a ?q_Emptiest_choose_i ?q_Emptiest_choose_l ?q_Emptiest_choose_c ?q_Emptiest_choose_k ?q_Emptiest_choose_xh ?q_Emptiest_choose_xm ?q_Round___init___a ?q_Round___init___i ?q_Round___init___l ?q_Round___init___c ?q_Round___init___k ?q_Round___init___d ?q_Round_choose_a ?q_Round_choose_i ?q_Round_choose_l ?q_Round_choose_c ?q_Round_choose_k ?q_Told___init___a ?q_Told___init___i ?q_Told___init___l ?q_Told___init___c ?q_Told___init___k ?q_Told_choose_a ?q_Told_choose_i ?q_Told_choose_l ?q_Told_choose_c ?q_Told_choose_k ?q_Fullest_choose_Emptiest_choose_xn ?z_len ?z_isinstance ?z_int ?z_bool ?z_tuple ?z_list ?z_set ?z_sorted ?z_divmod ?z_range ?z_abs ?z_min ?z_max ?z_any ?z_all ?z_ValueError
  (case a1 => k_is); (case l1 => k_is); (case c1 => k_is); (case k1 => k_is)
  (case a2 => k_is); (case l2 => k_is); (case c2 => k_is); (case k2 => k_is)
  (case a3 => k_is); (case l3 => k_is); (case c3 => k_is); (case k3 => k_is)
  (case a4 => k_is); (case l4 => k_is); (case c4 => k_is); (case k4 => k_is)
  (case a5 => k_is); (case l5 => k_is); (case c5 => k_is); (case k5 => k_is)
  (case a6 => k_is); (case l6 => k_is); (case c6 => k_is); (case k6 => k_is)
  (case a7 => k_is); (case l7 => k_is); (case c7 => k_is); (case k7 => k_is)
  (case a8 => k_is); (case l8 => k_is); (case c8 => k_is); (case k8 => k_is)
  (case a9 => k_is); (case l9 => k_is); (case c9 => k_is); (case k9 => k_is)
  (case a10 => k_is); (case l10 => k_is); (case c10 => k_is); (case k10 => k_is)
  (case a11 => k_is); (case l11 => k_is); (case c11 => k_is); (case k11 => k_is)
  (case a12 => k_is); (case l12 => k_is); (case c12 => k_is); (case k12 => k_is)
  (case a13 => k_is); (case l13 => k_is); (case c13 => k_is); (case k13 => k_is)
  (case a14 => k_is); (case l14 => k_is); (case dl14 => k_is); (case c14 => k_is); (case k14 => k_is)
  (case a15 => k_is); (case l15 => k_is); (case dl15 => k_is); (case c15 => k_is); (case k15 => k_is)
  (case a16 => k_is); (case l16 => k_is); (case c16 => k_is); (case k16 => k_is)
  (case a17 => k_is); (case l17 => k_is); (case c17 => k_is); (case k17 => k_is)
  (case a18 => k_is); (case l18 => k_is); (case c18 => k_is); (case k18 => k_is)
  (case a19 => k_is); (case l19 => k_is); (case c19 => k_is); (case k19 => k_is)
  (case a20 => k_is); (case l20 => k_is); (case c20 => k_is); (case k20 => k_is)
  (case a21 => k_is); (case l21 => k_is); (case c21 => k_is); (case k21 => k_is)
  (case a22 => k_is); (case l22 => k_is); (case dl22 => k_is); (case c22 => k_is); (case k22 => k_is)
  (case a23 => k_is); (case l23 => k_is); (case c23 => k_is); (case k23 => k_is)
  (case a24 => k_is); (case l24 => k_is); (case c24 => k_is); (case k24 => k_is)
  (case a25 => k_is); (case l25 => k_is); (case c25 => k_is); (case k25 => k_is)
  (case a26 => k_is); (case l26 => k_is); (case c26 => k_is); (case k26 => k_is)
  (case a27 => k_is); (case l27 => k_is); (case c27 => k_is); (case k27 => k_is)
  (case a28 => k_is); (case l28 => k_is); (case c28 => k_is); (case k28 => k_is)
  (case a29 => k_is); (case l29 => k_is); (case c29 => k_is); (case k29 => k_is)
  (case a30 => k_is); (case l30 => k_is); (case c30 => k_is); (case k30 => k_is)
  (case a31 => k_is); (case l31 => k_is); (case c31 => k_is); (case k31 => k_is)
  (case a32 => k_is); (case l32 => k_is); (case c32 => k_is); (case k32 => k_is)
  (case a33 => k_is); (case l33 => k_is); (case c33 => k_is); (case k33 => k_is)
  (case q_Rule_at => k_is)
  (case q_Rule_pg => k_is)
  (case q_Rule_hd => k_is)
  (case q_Rule_po => k_is)
  (case q_Rule_sa => k_is)
  (case q_Rule_mk => k_is)
  (case q_Rule_kc => k_is)
  (case q_Rule_ha => k_is)
  (case q_Rule_hn => k_is)
  (case q_Rule_ht => k_is)
  (case q_Rule_hm => k_is)
  (case q_Rule_pi => k_is)
  (case q_Fullest_at => k_is)
  (case q_Fullest_pg => k_is)
  (case q_Fullest_hd => k_is)
  (case q_Fullest_po => k_is)
  (case q_Fullest_sa => k_is)
  (case q_Fullest_mk => k_is)
  (case q_Fullest_kc => k_is)
  (case q_Fullest_ha => k_is)
  (case q_Fullest_hn => k_is)
  (case q_Fullest_ht => k_is)
  (case q_Fullest_hm => k_is)
  (case q_Fullest_pi => k_is)
  (case q_Emptiest_at => k_is)
  (case q_Emptiest_pg => k_is)
  (case q_Emptiest_hd => k_is)
  (case q_Emptiest_po => k_is)
  (case q_Emptiest_sa => k_is)
  (case q_Emptiest_mk => k_is)
  (case q_Emptiest_kc => k_is)
  (case q_Emptiest_ha => k_is)
  (case q_Emptiest_hn => k_is)
  (case q_Emptiest_ht => k_is)
  (case q_Emptiest_hm => k_is)
  (case q_Emptiest_pi => k_is)
  (case q_Round_at => k_is)
  (case q_Round_pg => k_is)
  (case q_Round_hd => k_is)
  (case q_Round_po => k_is)
  (case q_Round_sa => k_is)
  (case q_Round_mk => k_is)
  (case q_Round_kc => k_is)
  (case q_Round_ha => k_is)
  (case q_Round_hn => k_is)
  (case q_Round_ht => k_is)
  (case q_Round_hm => k_is)
  (case q_Round_n_start => k_is)
  (case q_Told_at => k_is)
  (case q_Told_pg => k_is)
  (case q_Told_hd => k_is)
  (case q_Told_po => k_is)
  (case q_Told_sa => k_is)
  (case q_Told_mk => k_is)
  (case q_Told_kc => k_is)
  (case q_Told_ha => k_is)
  (case q_Told_hn => k_is)
  (case q_Told_ht => k_is)
  (case q_Told_hm => k_is)
  (case q_Told_n_racks => k_is)
  (case q_Rule_choose_a => k_is)
  (case q_Rule_choose_i => k_is)
  (case q_Rule_choose_l => k_is)
  (case q_Rule_choose_c => k_is)
  (case q_Rule_choose_k => k_is)
  (case q_Fullest_choose_a => k_is)
  (case q_Fullest_choose_i => k_is)
  (case q_Fullest_choose_l => k_is)
  (case q_Fullest_choose_c => k_is)
  (case q_Fullest_choose_k => k_is)
  (case q_Fullest_choose_xh => kernel_rfl)
  (case q_Fullest_choose_xm => kernel_rfl)
  (case q_Emptiest_choose_a => k_is)
  (case q_Emptiest_choose_i => k_is)
  (case q_Emptiest_choose_l => k_is)
  (case q_Emptiest_choose_c => k_is)
  (case q_Emptiest_choose_k => k_is)
  (case q_Emptiest_choose_xh => kernel_rfl)
  (case q_Emptiest_choose_xm => kernel_rfl)
  (case q_Round___init___a => k_is)
  (case q_Round___init___i => k_is)
  (case q_Round___init___l => k_is)
  (case q_Round___init___c => k_is)
  (case q_Round___init___k => k_is)
  (case q_Round___init___d => k_is)
  (case q_Round_choose_a => k_is)
  (case q_Round_choose_i => k_is)
  (case q_Round_choose_l => k_is)
  (case q_Round_choose_c => k_is)
  (case q_Round_choose_k => k_is)
  (case q_Told___init___a => k_is)
  (case q_Told___init___i => k_is)
  (case q_Told___init___l => k_is)
  (case q_Told___init___c => k_is)
  (case q_Told___init___k => k_is)
  (case q_Told_choose_a => k_is)
  (case q_Told_choose_i => k_is)
  (case q_Told_choose_l => k_is)
  (case q_Told_choose_c => k_is)
  (case q_Told_choose_k => k_is)
  (case q_Fullest_choose_Emptiest_choose_xn => kernel_rfl)
  (case z_len => k_is)
  (case z_isinstance => k_is)
  (case z_int => k_is)
  (case z_bool => k_is)
  (case z_tuple => k_is)
  (case z_list => k_is)
  (case z_set => k_is)
  (case z_sorted => k_is)
  (case z_divmod => k_is)
  (case z_range => k_is)
  (case z_abs => k_is)
  (case z_min => k_is)
  (case z_max => k_is)
  (case z_any => k_is)
  (case z_all => k_is)
  (case z_ValueError => k_is)
