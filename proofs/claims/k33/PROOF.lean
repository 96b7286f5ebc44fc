import PyProof.Rows.All
import Wide.All
import OpenK.AllK
import Wide.FinOn
import Lean
import PyProof.EqAt
import PyProof.EqKinds
import PyProof.TupleCall
import PySem.SetOps
import PyProof.SetKind
import PyProof.CollectWalk
import PyProof.FactsAll.set
import PyProof.ForAny
import PyProof.Rows.SortWalk
import PyProof.Rows.SetFrom
import KE.KSortAsk
import KE.KSortTup
import PyProof.NsDelKeeps
import PyProof.TupleKey
import PyProof.IsRules
import KE.KRevIter
import KE.KMinBuiltin
import PySem.Challenge.RW_crossracks_k33_moves
set_option Elab.async false
set_option linter.all false
set_option maxRecDepth 100000
namespace L2
open PySem PySem.Spec PyProof.Rows
noncomputable abbrev Key := Sum Int Str
noncomputable def keyIs : Key → Value → Bool
 | .inl k, v => Value.isInt k v
 | .inr x, v => Value.isStrOf x v
noncomputable def keyH (w : World) : Key → Int
 | .inl k => hashInt k
 | .inr x => hashStr w x
theorem keyIs_shape : ∀ {k : Key} {v : Value}, keyIs k v = true → (∃ i t, k = Sum.inl i ∧ v = Value.int i t) ∨ (∃ x t, k = Sum.inr x ∧ v = Value.str x t)
 | .inl i, v, h => by
  obtain ⟨t, e⟩ := Value.isInt_shape (k := i) (v := v) h
  exact .inl ⟨i, t, rfl, e⟩
 | .inr x, v, h => by
  obtain ⟨t, e⟩ := Value.isStrOf_shape (x := x) (v := v) h
  exact .inr ⟨x, t, rfl, e⟩
theorem keyIs_int (i : Int) (t : Tok) : keyIs (.inl i) (.int i t) = true := by simp [keyIs, Value.isInt]
theorem keyIs_str (x : Str) (t : Tok) : keyIs (.inr x) (.str x t) = true := by simp [keyIs, Value.isStrOf]
theorem key_ll (a b : Int) : decide ((Sum.inl a : Key) = Sum.inl b) = (a == b) := by
 by_cases e : a = b
 ·subst e; simp
 ·have h : ¬ (Sum.inl a : Key) = Sum.inl b := fun q => e (Sum.inl.inj q)
  rw [decide_eq_false h]
  exact (beq_eq_false_iff_ne.mpr e).symm
theorem key_rr (a b : Str) : decide ((Sum.inr a : Key) = Sum.inr b) = decide (a = b) := by
 by_cases e : a = b
 ·subst e; simp
 ·have h : ¬ (Sum.inr a : Key) = Sum.inr b := fun q => e (Sum.inr.inj q)
  rw [decide_eq_false h, decide_eq_false e]
theorem key_lr (a : Int) (b : Str) : decide ((Sum.inl a : Key) = Sum.inr b) = false := decide_eq_false (fun q => nomatch q)
theorem key_rl (a : Str) (b : Int) : decide ((Sum.inr a : Key) = Sum.inl b) = false := decide_eq_false (fun q => nomatch q)
noncomputable def mixKind (prog : Program) (w : World) : PySem.KeyKind prog w Key where
 is := keyIs
 hash := keyH w
 inj := fun v a b ha hb => by
  rcases keyIs_shape ha with ⟨i, t, rfl, rfl⟩ | ⟨x, t, rfl, rfl⟩
  ·rcases keyIs_shape hb with ⟨j, u, rfl, e⟩ | ⟨y, u, rfl, e⟩
   ·injection e with e1 _; rw [e1]
   ·exact nomatch e
  ·rcases keyIs_shape hb with ⟨j, u, rfl, e⟩ | ⟨y, u, rfl, e⟩
   ·exact nomatch e
   ·injection e with e1 _; rw [e1]
 byValue := fun k v h => by
  rcases keyIs_shape h with ⟨i, t, rfl, rfl⟩ | ⟨x, t, rfl, rfl⟩ <;> rfl
 pyHash := fun hv h => by
  rcases keyIs_shape hv with ⟨i, t, rfl, rfl⟩ | ⟨x, t, rfl, rfl⟩
  ·exact wpAny_pyHash_int h
  ·exact wpAny_pyHash_str h
 eqBool := fun hu hv h => by
  rcases keyIs_shape hu with ⟨i, t, rfl, rfl⟩ | ⟨x, t, rfl, rfl⟩
  ·rcases keyIs_shape hv with ⟨j, u, rfl, rfl⟩ | ⟨y, u, rfl, rfl⟩
   ·rw [key_ll] at h; exact wpAny_eqBool_int h
   ·rw [key_lr] at h; exact SeqAt.EqAt.int_str i t y u _ _ _ _ h
  ·rcases keyIs_shape hv with ⟨j, u, rfl, rfl⟩ | ⟨y, u, rfl, rfl⟩
   ·rw [key_rl] at h; exact SeqAt.EqAt.str_int x t j u _ _ _ _ h
   ·rw [key_rr] at h; exact wpAny_eqBool_str h
 «strs» := fun k x t v h => by
  rcases keyIs_shape h with ⟨i, u, rfl, e⟩ | ⟨y, u, rfl, e⟩
  ·exact nomatch e
  ·injection e with e1 _
   subst e1
   cases v <;> rfl
theorem mixKind_int (prog : Program) (w : World) (i : Int) (t : Tok) : (mixKind prog w).is (.inl i) (.int i t) = true := keyIs_int i t
theorem mixKind_str (prog : Program) (w : World) (x : Str) (t : Tok) : (mixKind prog w).is (.inr x) (.str x t) = true := keyIs_str x t
end L2
namespace L2
open PySem PySem.Spec PyProof.Rows
inductive V where
 | non | bl (b : Bool) | int (i : Int) | str (x : Str) | byt (b : Array UInt8) | flt (b : UInt64) | ref (a : Addr) | ty (n : String)
 deriving DecidableEq
noncomputable def RelV : V → Value → Prop
 | .non, u => u = Value.none
 | .bl b, u => u = Value.bool b
 | .int i, u => ∃ t, u = Value.int i t
 | .str x, u => ∃ t, u = Value.str x t
 | .byt b, u => ∃ t, u = Value.bytes b t
 | .flt b, u => ∃ t, u = Value.float b t
 | .ref a, u => u = Value.ref a
 | .ty n, u => u = Value.type n
noncomputable abbrev Vals : List V → List Value → Prop := Paired RelV
theorem Vals.length {xs : List V} {us : List Value} (r : Vals xs us) : xs.length = us.length := Paired.length r
theorem Vals.get : ∀ {xs : List V} {us : List Value} {i : Nat} {x : V}, Vals xs us → xs[i]? = some x → ∃ u, us[i]? = some u ∧ RelV x u
 | _, _, _, _, .nil, e => by simp at e
 | _, _, 0, _, .cons r _, e => by simp at e; subst e; exact ⟨_, rfl, r⟩
 | _, _, i + 1, x, .cons _ t, e => by
  obtain ⟨u, h1, h2⟩ := Vals.get (i := i) (x := x) t (by simpa using e)
  exact ⟨u, by simpa using h1, h2⟩
theorem Vals.set {x : V} {u : Value} (r : RelV x u) : ∀ {xs : List V} {us : List Value} (i : Nat), Vals xs us → Vals (xs.set i x) (us.set i u)
 | _, _, _, .nil => .nil
 | _, _, 0, .cons _ t => .cons r t
 | _, _, i + 1, .cons q t => .cons q (Vals.set r i t)
theorem Vals.append : ∀ {xs ys : List V} {us ws : List Value}, Vals xs us → Vals ys ws → Vals (xs ++ ys) (us ++ ws)
 | _, _, _, _, .nil, s => s
 | _, _, _, _, .cons r t, s => .cons r (Vals.append t s)
theorem Vals.take : ∀ {xs : List V} {us : List Value} (n : Nat), Vals xs us → Vals (xs.take n) (us.take n)
 | _, _, 0, _ => .nil
 | _, _, _ + 1, .nil => .nil
 | _, _, n + 1, .cons r t => .cons r (Vals.take n t)
theorem Vals.drop : ∀ {xs : List V} {us : List Value} (n : Nat), Vals xs us → Vals (xs.drop n) (us.drop n)
 | _, _, 0, r => r
 | _, _, _ + 1, .nil => .nil
 | _, _, n + 1, .cons _ t => Vals.drop n t
noncomputable def RelO : Option V → Option Value → Prop
 | some v, some u => RelV v u
 | none, none => True
 | _, _ => False
noncomputable def KV {κ : Type} : List (κ × V) → List (κ × Value) → Prop := Paired fun (p : κ × V) (q : κ × Value) => p.1 = q.1 ∧ RelV p.2 q.2
noncomputable def kV : Key → V
 | .inl i => .int i
 | .inr x => .str x
inductive HO where
 /-- a list -/
 | lst (xs : List V)
 /-- a tuple (never changes) -/
 | tup (xs : List V)
 /-- a dict whose keys are ints and texts; one whose keys are tuples of ints and texts (the empty one is both) -/
 | dK (kvs : List (Key × V)) | dT (kvs : List (List Key × V))
 /-- a set of ints: its members, its size -/
 | set (S : Int → Bool) (n : Nat)
 /-- an instance of the class at C, its dict at dx, its attributes -/
 | ins (C dx : Addr) (fs : List (Str × V))
 /-- the dict of the instance at x -/
 | own (x : Addr)
 /-- the dict of an exception -/
 | xd (fs : List (Str × V))
 /-- a bound method, f of x -/
 | met (f x : Addr)
 /-- a range object lo, lo + 1, .. below hi -/
 | rng (lo hi : Int)
 /-- a thing that is known to the object (the script; a dict while a loop walks it): read, never written while it is so -/
 | frz (o : Obj) (u : HO)
 /-- a code object's table -/
 | tbl (ps : Array Value)
 /-- any other thing, by what is true of its one object (a def of one's own: SetO a S n := HO.ext fun h => ..) -/
 | ext (φ : Heap → Prop)
noncomputable abbrev Hp := Addr → Option HO
noncomputable def upd (H : Hp) (a : Addr) (o : HO) : Hp := fun b => if b = a then some o else H b
theorem upd_same {H : Hp} {a : Addr} {o : HO} : upd H a o a = some o := by unfold upd; rw [if_pos rfl]
theorem upd_ne {H : Hp} {a b : Addr} {o : HO} (h : b ≠ a) : upd H a o b = H b := by unfold upd; rw [if_neg h]
theorem ne_of {H : Hp} {a b : Addr} {o u : HO} (h : H a = some o) (h' : H b = some u) (d : o ≠ u) : a ≠ b := by
 intro e; subst e; rw [h] at h'; exact d (Option.some.inj h')
theorem ne_of_none {H : Hp} {a b : Addr} {o : HO} (h : H a = some o) (h' : H b = none) : a ≠ b := by
 intro e; subst e; rw [h] at h'; cases h'
section
variable (P : Program) (w : World)
noncomputable def ObjOk (H : Hp) (h : Heap) (a : Addr) : HO → Prop
 | .lst xs => xs.length ≤ sizeLine ∧ ∃ (its : List Value) (n : Nat), Vals xs its ∧ h.get? a = some { cls := .type "list", data := .seq its.toArray n }
 | .tup xs => xs.length ≤ sizeLine ∧ ∃ its : List Value, Vals xs its ∧ IsTup h a its.toArray
 | .dK kvs => kvs.length ≤ sizeLine ∧ (a == sysModules) = false ∧ ∃ vs, KV kvs vs ∧ h.DictOf (mixKind P w) a vs
 | .dT kvs => kvs.length ≤ sizeLine ∧ (a == sysModules) = false ∧ ∃ xs : List (List Key × Addr × Value),
   Paired (fun (p : List Key × V) (q : List Key × Addr × Value) => p.1 = q.1 ∧ H q.2.1 = some (.tup (p.1.map kV)) ∧ RelV p.2 q.2.2) kvs xs ∧
   ∃ o es ep, h.get? a = some o ∧ o.ExactDict ∧ o.data = .dict es ep ∧ es.toList = xs.map (entryOfKey (tupleKind (mixKind P w))) ∧ (xs.map (·.1)).Nodup
 | .set S n => h.SetOf (intKind P w) a S n
 | .ins C dx fs => H dx = some (.own a) ∧ fs.length ≤ 1000 ∧ dx ≠ a ∧ h.get? a = some (PySem.W.instObj C dx) ∧
   ∃ mA, h.Ns1 dx mA ∧ (∀ f, RelO (fs.lookup f) (mA f)) ∧ PySem.Within mA (fs.map (·.1))
 | .own _ => ∃ o, h.get? a = some o
 | .xd fs => ∃ mA, h.Ns1 a mA ∧ ∀ f, RelO (fs.lookup f) (mA f)
 | .rng lo hi => ∃ t u v, h.get? a = some { cls := .type "range", data := .fields #[.int lo t, .int hi u, .int 1 v] }
 | .frz o u => h.get? a = some o ∧ ObjOk H h a u
 | .tbl ps => h.get? a = some { cls := .none, data := .fields ps }
 | .met f x => h.get? a = some (PySem.W.methodObj (.ref f) (.ref x))
 | .ext φ => φ h ∧ (∃ o, h.get? a = some o) ∧ ∀ h1 h2 : Heap, φ h1 → (∀ o, h1.get? a = some o → h2.get? a = some o) → φ h2
noncomputable def HOk (H : Hp) (h : Heap) : Prop := ∀ a o, H a = some o → ObjOk P w H h a o
end
section
variable {P : Program} {w : World} {H H' : Hp} {h h' : Heap} {a : Addr} {o : HO}
theorem ObjOk.lt (x : ObjOk P w H h a o) : a < h.objs.size := by
 cases o with
 | lst xs => obtain ⟨_, _, _, _, e⟩ := x; exact Heap.lt_size e
 | tup xs => obtain ⟨_, _, _, p⟩ := x; exact p.lt
 | dK kvs => obtain ⟨_, _, _, _, o, _, _, e, _⟩ := x; exact Heap.lt_size e
 | dT kvs => obtain ⟨_, _, _, _, o, _, _, e, _⟩ := x; exact Heap.lt_size e
 | set S n => obtain ⟨o, _, _, _, e, _⟩ := x; exact Heap.lt_size e
 | ins C dx fs => obtain ⟨_, _, _, e, _⟩ := x; exact Heap.lt_size e
 | own y => obtain ⟨_, e⟩ := x; exact Heap.lt_size e
 | xd fs => obtain ⟨_, ⟨_, _, _, e, _⟩, _⟩ := x; exact Heap.lt_size e
 | rng lo hi => obtain ⟨_, _, _, e⟩ := x; exact Heap.lt_size e
 | frz ob u => obtain ⟨e, _⟩ := x; exact Heap.lt_size e
 | tbl ps => exact Heap.lt_size (show h.get? a = some _ from x)
 | met f y => exact Heap.lt_size (show h.get? a = some _ from x)
 | ext φ => obtain ⟨_, ⟨_, e⟩, _⟩ := x; exact Heap.lt_size e
theorem Paired.mapP {α β : Type} {F G : α → β → Prop} : ∀ {l₁ : List α} {l₂ : List β}, Paired F l₁ l₂ → (∀ a b, F a b → G a b) → Paired G l₁ l₂
 | _, _, .nil, _ => .nil
 | _, _, .cons r t, f => .cons (f _ _ r) (Paired.mapP t f)
theorem ObjOk.stay (x : ObjOk P w H h a o) (k : ∀ b u, (b = a ∨ H b = some (.own a)) → h.get? b = some u → h'.get? b = some u)
  (ho : ∀ b, H b = some (.own a) → H' b = some (.own a)) (ht : ∀ b xs, H b = some (.tup xs) → H' b = some (.tup xs)) : ObjOk P w H' h' a o := by
 induction o with
 | lst xs => obtain ⟨z, its, n, r, e⟩ := x; exact ⟨z, its, n, r, k _ _ (.inl rfl) e⟩
 | tup xs => obtain ⟨z, its, r, ob, e, c⟩ := x; exact ⟨z, its, r, ob, k _ _ (.inl rfl) e, c⟩
 | dK kvs => obtain ⟨z, y, vs, r, ob, es, ep, e, c⟩ := x; exact ⟨z, y, vs, r, ob, es, ep, k _ _ (.inl rfl) e, c⟩
 | dT kvs =>
  obtain ⟨z, y, xs, r, ob, es, ep, e, c⟩ := x
  exact ⟨z, y, xs, Paired.mapP r fun p q z => ⟨z.1, ht _ _ z.2.1, z.2.2⟩, ob, es, ep, k _ _ (.inl rfl) e, c⟩
 | set S n => obtain ⟨ob, es, ep, t, e, c⟩ := x; exact ⟨ob, es, ep, t, k _ _ (.inl rfl) e, c⟩
 | ins C dx fs =>
  obtain ⟨d, z, ne, e, mA, ⟨od, es, ep, e2, c⟩, r⟩ := x
  exact ⟨ho _ d, z, ne, k _ _ (.inl rfl) e, mA, ⟨od, es, ep, k _ _ (.inr d) e2, c⟩, r⟩
 | own y => obtain ⟨ob, e⟩ := x; exact ⟨ob, k _ _ (.inl rfl) e⟩
 | xd fs => obtain ⟨mA, ⟨od, es, ep, e, c⟩, r⟩ := x; exact ⟨mA, ⟨od, es, ep, k _ _ (.inl rfl) e, c⟩, r⟩
 | rng lo hi => obtain ⟨t, u, v, e⟩ := x; exact ⟨t, u, v, k _ _ (.inl rfl) e⟩
 | frz ob u ih => obtain ⟨e, q⟩ := x; exact ⟨k _ _ (.inl rfl) e, ih q⟩
 | tbl ps =>
  have e : h.get? a = some { cls := .none, data := .fields ps } := x
  show h'.get? a = some { cls := .none, data := .fields ps }
  exact k a _ (.inl rfl) e
 | met f y =>
  have e : h.get? a = some (PySem.W.methodObj (.ref f) (.ref y)) := x
  show h'.get? a = some (PySem.W.methodObj (.ref f) (.ref y))
  exact k a _ (.inl rfl) e
 | ext φ => obtain ⟨p, ⟨o, e⟩, st⟩ := x; exact ⟨st _ _ p fun o q => k _ _ (.inl rfl) q, ⟨o, k _ _ (.inl rfl) e⟩, st⟩
theorem HOk.lt (x : HOk P w H h) (e : H a = some o) : a < h.objs.size := (x a o e).lt
theorem HOk.fresh (x : HOk P w H h) (e : h.objs.size ≤ a) : H a = none := by
 cases q : H a with
 | none => rfl
 | some u => exact absurd (Nat.lt_of_lt_of_le (x.lt q) e) (Nat.lt_irrefl _)
theorem HOk.kept (x : HOk P w H h) (k : ∀ b u, h.get? b = some u → h'.get? b = some u) : HOk P w H h' := fun a o e =>
 (x a o e).stay (fun b u _ q => k b u q) (fun _ q => q) fun _ _ q => q
theorem HOk.laid (x : HOk P w H h) (k : ∀ b u, h.get? b = some u → h'.get? b = some u) (hp : h.objs.size ≤ a) (new : ObjOk P w (upd H a o) h' a o) : HOk P w (upd H a o) h' := fun b u e => by
 have hn := x.fresh hp
 by_cases hb : b = a
 ·subst hb; rw [upd_same] at e; cases e; exact new
 ·rw [upd_ne hb] at e
  exact (x b u e).stay (fun c v _ q => k c v q) (fun c q => by rw [upd_ne (ne_of_none q hn)]; exact q) fun c xs q => by rw [upd_ne (ne_of_none q hn)]; exact q
end
noncomputable def Rd (H : Hp) (a : Addr) (u : HO) : Prop := H a = some u ∨ ∃ o, H a = some (.frz o u)
theorem Rd.ok {P : Program} {w : World} {H : Hp} {h : Heap} {a : Addr} {u : HO} (r : Rd H a u) (x : HOk P w H h) : ObjOk P w H h a u := by
 rcases r with r | ⟨o, r⟩
 ·exact x a u r
 ·obtain ⟨_, q⟩ := x a _ r
  exact q
noncomputable def Mut : Option HO → Prop
 | some (.lst _) => True
 | some (.dK _) => True
 | some (.dT _) => True
 | some (.set _ _) => True
 | some (.ins _ _ _) => True
 | some (.ext _) => True
 | _ => False
section
variable {P : Program} {w : World} {H : Hp} {h h' : Heap} {x e : Addr} {o' : HO}
theorem HOk.write (ok : HOk P w H h) (mu : Mut (H x)) (he : e = x ∨ H e = some (.own x)) (k : ∀ b u, b ≠ e → h.get? b = some u → h'.get? b = some u) (heo : ∃ u, h'.get? e = some u)
  (new : ObjOk P w (upd H x o') h' x o') : HOk P w (upd H x o') h' := fun b u q => by
 have nown : ∀ c y, H c = some (.own y) → c ≠ x := fun c y r z => by subst z; rw [r] at mu; exact mu
 have ntup : ∀ c xs, H c = some (.tup xs) → c ≠ x := fun c xs r z => by subst z; rw [r] at mu; exact mu
 by_cases hb : b = x
 ·subst hb; rw [upd_same] at q; cases q; exact new
 ·rw [upd_ne hb] at q
  by_cases hbe : b = e
  ·have q' : H b = some (.own x) := by
    rcases he with z | z
    ·exact absurd (hbe.trans z) hb
    ·rw [hbe]; exact z
   rw [q] at q'; cases q'
   obtain ⟨v, hv⟩ := heo
   exact ⟨v, by rw [hbe]; exact hv⟩
  ·refine (ok b u q).stay (fun c v hc r => k c v ?_ r) (fun c r => by rw [upd_ne (nown c b r)]; exact r) fun c xs r => by rw [upd_ne (ntup c xs r)]; exact r
   rcases hc with rfl | hc
   ·exact hbe
   ·rintro rfl
    rcases he with z | z
    ·exact nown c b hc z
    ·rw [hc] at z; cases z; exact hb rfl
end
structure Un (fs ex : List Addr) (H H' : Hp) (h h' : Heap) : Prop where
 keep : ∀ b o, h.get? b = some o → H b = none → b ∉ fs → b ∉ ex → h'.get? b = some o
 slot : ∀ b o, h.get? b = some o → H b = none → b ∈ fs → b ∉ ex → ∃ sl, h'.get? b = some { o with slots := sl }
 free : ∀ b o, h.get? b = some o → H b = none → b ∉ ex → H' b = none
 there : ∀ b o, h.get? b = some o → b ∉ ex → ∃ o', h'.get? b = some o'
 tups : ∀ b xs, H b = some (.tup xs) → H' b = some (.tup xs)
 frzs : ∀ b o u, H b = some (.frz o u) → H' b = some (.frz o u)
 tbls : ∀ b ps, H b = some (.tbl ps) → ∃ more, H' b = some (.tbl (ps ++ more))
section
variable {fs fs' ex ex' : List Addr} {H H1 H2 : Hp} {h h1 h2 h' : Heap} {a x e : Addr} {o : HO}
theorem Un.any (u : Un fs ex H H1 h h1) {b : Addr} {ob : Obj} (q : h.get? b = some ob) (n : H b = none) (hx : b ∉ ex) : ∃ sl, h1.get? b = some { ob with slots := sl } := by
 by_cases hb : b ∈ fs
 ·exact u.slot b ob q n hb hx
 ·exact ⟨ob.slots, u.keep b ob q n hb hx⟩
theorem Un.kept (k : ∀ b u, h.get? b = some u → h'.get? b = some u) : Un fs ex H H h h' :=
 ⟨fun b ob q _ _ _ => k b ob q, fun b ob q _ _ _ => ⟨ob.slots, k b ob q⟩, fun _ _ _ n _ => n, fun b ob q _ => ⟨ob, k b ob q⟩, fun _ _ q => q, fun _ _ _ q => q, fun _ ps q => ⟨#[], by rw [q]; simp⟩⟩
theorem Un.refl : Un fs ex H H h h := Un.kept fun _ _ q => q
theorem Un.laid (k : ∀ b u, h.get? b = some u → h'.get? b = some u) (hp : h.objs.size ≤ a) (hn : H a = none) : Un fs ex H (upd H a o) h h' where
 keep := fun b u q _ _ _ => k b u q
 slot := fun b u q _ _ _ => ⟨u.slots, k b u q⟩
 free := fun b u q n _ => by rw [upd_ne (Nat.ne_of_lt (Nat.lt_of_lt_of_le (Heap.lt_size q) hp))]; exact n
 there := fun b u q _ => ⟨u, k b u q⟩
 tups := fun b xs q => by rw [upd_ne (ne_of_none q hn)]; exact q
 frzs := fun b u xs q => by rw [upd_ne (ne_of_none q hn)]; exact q
 tbls := fun b ps q => ⟨#[], by rw [upd_ne (ne_of_none q hn), q]; simp⟩
theorem Un.write (mu : Mut (H x)) (he : e = x ∨ H e = some (.own x)) (k : ∀ b u, b ≠ e → h.get? b = some u → h'.get? b = some u) (heo : ∃ u, h'.get? e = some u) : Un fs ex H (upd H x o) h h' := by
 have hx : ∀ b, H b = none → b ≠ x := fun b n z => by subst z; rw [n] at mu; exact mu
 have hb : ∀ b, H b = none → b ≠ e := fun b n z => by
  subst z
  rcases he with r | r
  ·exact hx b n r
  ·rw [n] at r; cases r
 have hm : ∀ b u, H b = some u → ¬ Mut (some u) → b ≠ x := fun b u q nm z => by subst z; rw [q] at mu; exact nm mu
 refine ⟨fun b u q n _ _ => k b u (hb b n) q, fun b u q n _ _ => ⟨u.slots, k b u (hb b n) q⟩, fun b u q n _ => by rw [upd_ne (hx b n)]; exact n, fun b u q _ => ?_,
  fun b xs q => by rw [upd_ne (hm b _ q fun z => z)]; exact q, fun b u xs q => by rw [upd_ne (hm b _ q fun z => z)]; exact q, fun b ps q => ⟨#[], by rw [upd_ne (hm b _ q fun z => z), q]; simp⟩⟩
 by_cases hbe : b = e
 ·subst hbe; exact heo
 ·exact ⟨u, k b u hbe q⟩
end
noncomputable def trk (h : Heap) (H : Hp) : List Addr := (List.range h.objs.size).filter fun a => (H a).isSome
noncomputable def hidT (h : Heap) (H : Hp) : Heap := PySem.W.hideAll h (trk h H)
theorem hidT_size (h : Heap) (H : Hp) : (hidT h H).objs.size = h.objs.size := PySem.W.hideAll_size _ _
theorem hidT_get {h : Heap} {H : Hp} {b : Addr} {o : Obj} (e : h.get? b = some o) (n : H b = none) : (hidT h H).get? b = some o :=
 PySem.W.hideAll_get _ e fun hm => by
  have q : (H b).isSome = true := (List.mem_filter.mp hm).2
  rw [n] at q; simp at q
theorem of_hidT {h : Heap} {H : Hp} {b : Addr} {o : Obj} (e : (hidT h H).get? b = some o) : h.get? b = some o ∧ H b = none := by
 have e' : h.get? b = some o := PySem.W.of_hideAll (trk h H) e
 refine ⟨e', ?_⟩
 cases q : H b with
 | none => rfl
 | some x =>
  have hm : b ∈ trk h H := List.mem_filter.mpr ⟨List.mem_range.mpr (Heap.lt_size e'), by simp [q]⟩
  have z : (hidT h H).get? b = none := PySem.W.hideAll_none (trk h H) hm
  rw [z] at e; cases e
end L2
namespace L2
open PySem PySem.Spec PyProof.Rows
structure Mod (K : PySem.W.Frag) (mg : Str → Option Value) (base : Heap) : Prop where
 kin : K.In base
 glob : base.Ns mainGlobals mg
 blt : ∃ mb, base.Ns builtinsNs mb ∧ ∀ x : Str, x ≠ "__name__" → mb x = bootBuiltins x
 nolimit : base.NoLimit
structure Cx where
 prog : Program
 w : World
 K : PySem.W.Frag
 mg : Str → Option Value
 base : Heap
 A : Around
 N : List Str
 s₀ : Shared
 H₀ : Hp
 env : Env
 outer : List Env
 stack : List Env
 ex : List Addr
 fn : Str → Bool
 calm : Bool
 pn : List (Addr × Obj)
 xe : Value → Shared → Prop
noncomputable def frs (l : List Env) : List Addr := l.filterMap (·.frame)
noncomputable abbrev Cx.fs (X : Cx) : List Addr := frs X.outer
noncomputable def Vis (sc : Scope) (x : Str) : Prop := sc.names.lookup x = some .local ∨ sc.names.lookup x = some .cell ∨ sc.names.lookup x = some .free
noncomputable def Loc (sc : Scope) (x : Str) : Prop := sc.names.lookup x = some .local ∨ sc.names.lookup x = some .cell
noncomputable def Look (env : Env) (h : Heap) (m : Str → Option Value) (x : Str) (u : Value) : Prop :=
 (env.kindOf x = some .local ∧ m x = some u) ∨ ((env.kindOf x = some .cell ∨ env.kindOf x = some .free) ∧ ∃ c, env.cells.lookup x = some c ∧ h.IsCell c (some u))
structure Cx.Ok (X : Cx) : Prop where
 mod : Mod X.K X.mg X.base
 kind : X.env.scope.kind = .function
 glob : X.env.globals = mainGlobals
 blt : X.env.builtins = builtinsNs
 above : X.s₀.heap.objs.size ≤ X.env.locals
 inj : ∀ x y c, X.env.cells.lookup x = some c → X.env.cells.lookup y = some c → x = y
 has : ∀ x, (X.env.kindOf x = some .cell ∨ X.env.kindOf x = some .free) → ∃ c, X.env.cells.lookup x = some c
 cab : ∀ x c, X.fn x = true → X.env.cells.lookup x = some c → X.s₀.heap.objs.size ≤ c
 hd : X.calm = true → X.A.handled = none
 frames : X.A.frames = some X.stack
 stk : X.stack = X.outer ∨ (X.stack = X.env :: X.outer ∧ X.env.frame = some X.env.locals)
 exf : ∀ b ∈ X.ex, b ≠ X.env.locals ∧ ∀ x c, X.env.cells.lookup x = some c → c ≠ b
 bs : ∀ b o, X.base.get? b = some o → X.s₀.heap.get? b = some o ∧ X.H₀ b = none
 bsz : X.base.objs.size ≤ X.s₀.heap.objs.size
 noex : ∀ b o, X.base.get? b = some o → b ∉ X.ex
 exfs : ∀ b ∈ X.ex, b ∉ X.fs
 funs : X.s₀.heap.FunFrames X.base X.outer
 frf : ∀ b ∈ X.fs, X.H₀ b = none
structure Inv (X : Cx) (pins : List (Addr × Obj)) (σ : List (Option V)) (H : Hp) (s : Shared) : Prop where
 ok : X.Ok
 os : s.os = X.s₀.os
 bare : AllBare s.gens
 base : Un X.fs X.ex X.H₀ H X.s₀.heap s.heap
 loc : ∃ m, s.heap.Ns X.env.locals m ∧ ∀ (i : Nat) (x : Str) (v : V), X.N[i]? = some x → σ[i]? = some (some v) → Vis X.env.scope x → ∃ u, RelV v u ∧ Look X.env s.heap m x u
 cell : ∀ x c, X.env.cells.lookup x = some c → ∃ v, s.heap.IsCell c v
 free : H X.env.locals = none
 freeC : ∀ x c, X.env.cells.lookup x = some c → H c = none
 pin : ∀ p ∈ X.pn ++ pins, s.heap.get? p.1 = some p.2 ∧ H p.1 = none ∧ p.1 ≠ X.env.locals ∧ p.1 ∉ X.fs ∧ ∀ v, p.2.data ≠ .cell v
 hok : HOk X.prog X.w H s.heap
 len : σ.length = X.N.length
section
variable {X : Cx} {pins : List (Addr × Obj)} {σ : List (Option V)} {H H' : Hp} {s : Shared} {h' : Heap}
theorem Cx.Ok.nofr (ok : X.Ok) {b : Addr} {o : Obj} (e : X.base.get? b = some o) : b ∉ X.fs := fun hb => by
 have := (ok.funs.mem hb).1
 rw [e] at this; cases this
theorem Inv.bs (I : Inv X pins σ H s) : ∀ b o, X.base.get? b = some o → s.heap.get? b = some o ∧ H b = none := fun b o e =>
 ⟨I.base.keep b o (I.ok.bs b o e).1 (I.ok.bs b o e).2 (I.ok.nofr e) (I.ok.noex b o e), I.base.free b o (I.ok.bs b o e).1 (I.ok.bs b o e).2 (I.ok.noex b o e)⟩
theorem Inv.bk (I : Inv X pins σ H s) : ∀ b o, X.base.get? b = some o → s.heap.get? b = some o := fun b o e => (I.bs b o e).1
theorem Inv.mod (I : Inv X pins σ H s) : Mod X.K X.mg X.base := I.ok.mod
theorem Inv.kIn (I : Inv X pins σ H s) : X.K.In s.heap := I.ok.mod.kin.keeps I.bk
theorem Inv.lt (I : Inv X pins σ H s) : X.env.locals < s.heap.objs.size := let ⟨_, hn, _⟩ := I.loc; hn.lt
theorem Inv.sz (I : Inv X pins σ H s) : X.s₀.heap.objs.size ≤ s.heap.objs.size := Nat.le_trans I.ok.above (Nat.le_of_lt I.lt)
theorem Inv.nofs (I : Inv X pins σ H s) {a : Addr} (h : s.heap.objs.size ≤ a) : a ∉ X.fs := fun hb => by
 obtain ⟨_, o, ho, _⟩ := I.ok.funs.mem hb
 exact absurd (Nat.lt_of_lt_of_le (Heap.lt_size ho) (Nat.le_trans I.sz h)) (Nat.lt_irrefl _)
theorem Inv.cne (I : Inv X pins σ H s) : ∀ x c, X.env.cells.lookup x = some c → c ≠ X.env.locals := fun x c e z => by
 obtain ⟨v, o, ho, hd⟩ := I.cell x c e
 obtain ⟨m, ⟨o', es, ep, ho', hd', _⟩, _⟩ := I.loc
 rw [z, ho'] at ho; cases ho; rw [hd'] at hd; cases hd
theorem Inv.funs (I : Inv X pins σ H s) : s.heap.FunFrames X.base X.outer := by
 have all : ∀ (l : List Env), (∀ b ∈ frs l, b ∈ X.fs) → X.s₀.heap.FunFrames X.base l → s.heap.FunFrames X.base l := by
  intro l
  induction l with
  | nil => intro _ _; trivial
  | cons env r ih =>
   intro hs hl
   obtain ⟨hk, ⟨L, o, hf, hn, ho, hd⟩, hr⟩ := hl
   have hL : L ∈ X.fs := hs L (by unfold frs; rw [List.filterMap_cons, hf]; exact List.mem_cons_self)
   obtain ⟨sl, e⟩ := I.base.slot L o ho (I.ok.frf L hL) hL fun z => I.ok.exfs L z hL
   exact ⟨hk, ⟨L, _, hf, hn, e, hd⟩, ih (fun b hb => hs b (by unfold frs; rw [List.filterMap_cons, hf]; exact List.mem_cons_of_mem _ hb)) hr⟩
 exact all X.outer (fun _ hb => hb) I.ok.funs
theorem Inv.stack (I : Inv X pins σ H s) : s.heap.FunFrames X.base X.stack := by
 rcases I.ok.stk with e | ⟨e, hf⟩
 ·rw [e]; exact I.funs
 ·rw [e]
  obtain ⟨m, hn, _⟩ := I.loc
  refine .cons (by rw [I.ok.kind]; decide) hf hn ?_ I.funs
  exact Heap.get?_none_of_le (Nat.le_trans I.ok.bsz I.ok.above)
theorem Inv.stkSub (I : Inv X pins σ H s) : ∀ b ∈ frs X.stack, b ∈ X.env.locals :: X.fs := fun b hb => by
 rcases I.ok.stk with e | ⟨e, hf⟩
 ·rw [e] at hb; exact List.mem_cons_of_mem _ hb
 ·rw [e] at hb
  unfold frs at hb
  rw [List.filterMap_cons, hf] at hb
  exact hb
theorem Inv.stkFree (I : Inv X pins σ H s) : ∀ b ∈ frs X.stack, H b = none := fun b hb => by
 rcases List.mem_cons.mp (I.stkSub b hb) with e | hb
 ·rw [e]; exact I.free
 ·obtain ⟨_, o, ho, _⟩ := I.ok.funs.mem hb
  exact I.base.free b o ho (I.ok.frf b hb) fun z => I.ok.exfs b z hb
theorem Inv.step {g' : Array GenState} {t' : Nat} {d' : Drawn} {ch : List Addr} (I : Inv X pins σ H s)
  (hch : ∀ b ∈ ch, (b ∈ X.ex ∨ X.s₀.heap.objs.size ≤ b) ∧ b ≠ X.env.locals ∧ (∀ x c, X.env.cells.lookup x = some c → c ≠ b) ∧ ∀ p ∈ X.pn ++ pins, p.1 ≠ b)
  (keep : ∀ b o, b ≠ X.env.locals → b ∉ X.fs → b ∉ ch → s.heap.get? b = some o → H b = none → h'.get? b = some o)
  (slot : ∀ b o, b ≠ X.env.locals → b ∈ X.fs → b ∉ ch → s.heap.get? b = some o → H b = none → ∃ sl, h'.get? b = some { o with slots := sl }) (free : ∀ b o, b ∉ ch → s.heap.get? b = some o → H b = none → H' b = none)
  (there : ∀ b o, b ∉ ch → s.heap.get? b = some o → ∃ o', h'.get? b = some o')
  (tups : ∀ b xs, H b = some (.tup xs) → H' b = some (.tup xs)) (frzs : ∀ b o u, H b = some (.frz o u) → H' b = some (.frz o u)) (tbls : ∀ b ps, H b = some (.tbl ps) → ∃ more, H' b = some (.tbl (ps ++ more)))
  (ns : ∀ m, s.heap.Ns X.env.locals m → h'.Ns X.env.locals m) (hok : HOk X.prog X.w H' h') (hg : AllBare g') :
  Inv X pins σ H' { s with heap := h', gens := g', drawn := d', toks := t' } := by
 have neL : ∀ b o, X.s₀.heap.get? b = some o → b ≠ X.env.locals := fun b o e => Nat.ne_of_lt (Nat.lt_of_lt_of_le (Heap.lt_size e) I.ok.above)
 have neC : ∀ b o, X.s₀.heap.get? b = some o → b ∉ X.ex → b ∉ ch := fun b o e hx hb => by
  rcases (hch b hb).1 with z | z
  ·exact hx z
  ·exact absurd (Nat.lt_of_lt_of_le (Heap.lt_size e) z) (Nat.lt_irrefl _)
 have cellK : ∀ x c, X.env.cells.lookup x = some c → ∀ v, s.heap.IsCell c v → h'.IsCell c v := fun x c e v ⟨o, ho, hd⟩ => by
  have nch : c ∉ ch := fun z => (hch c z).2.2.1 x c e rfl
  by_cases hc : c ∈ X.fs
  ·obtain ⟨sl, q⟩ := slot c o (I.cne x c e) hc nch ho (I.freeC x c e)
   exact ⟨_, q, hd⟩
  ·exact ⟨o, keep c o (I.cne x c e) hc nch ho (I.freeC x c e), hd⟩
 refine ⟨I.ok, I.os, hg, ⟨fun b o e n hb hx => ?_, fun b o e n hb hx => ?_, fun b o e n hx => ?_, fun b o e hx => ?_, fun b xs e => tups b xs (I.base.tups b xs e), fun b o xs e => frzs b o xs (I.base.frzs b o xs e), fun b ps e => ?_⟩, ?_, fun x c e => ?_, ?_, fun x c e => ?_, fun p hp => ?_, hok, I.len⟩
 ·exact keep b o (neL b o e) hb (neC b o e hx) (I.base.keep b o e n hb hx) (I.base.free b o e n hx)
 ·obtain ⟨sl, e1⟩ := I.base.slot b o e n hb hx
  obtain ⟨sl', e2⟩ := slot b _ (neL b o e) hb (neC b o e hx) e1 (I.base.free b o e n hx)
  exact ⟨sl', e2⟩
 ·obtain ⟨o', e1⟩ := I.base.there b o e hx
  exact free b o' (neC b o e hx) e1 (I.base.free b o e n hx)
 ·obtain ⟨o', e1⟩ := I.base.there b o e hx
  exact there b o' (neC b o e hx) e1
 ·obtain ⟨m1, e1⟩ := I.base.tbls b ps e
  obtain ⟨m2, e2⟩ := tbls b _ e1
  exact ⟨m1 ++ m2, by rw [e2, Array.append_assoc]⟩
 ·obtain ⟨m, hn, hl⟩ := I.loc
  refine ⟨m, ns m hn, fun i x v e1 e2 e3 => ?_⟩
  obtain ⟨u, r, l⟩ := hl i x v e1 e2 e3
  refine ⟨u, r, ?_⟩
  rcases l with l | ⟨k, c, e, z⟩
  ·exact .inl l
  ·exact .inr ⟨k, c, e, cellK x c e _ z⟩
 ·obtain ⟨v, z⟩ := I.cell x c e
  exact ⟨v, cellK x c e v z⟩
 ·obtain ⟨m, ⟨o, _, _, ho, _⟩, _⟩ := I.loc
  exact free _ o (fun z => (hch _ z).2.1 rfl) ho I.free
 ·obtain ⟨v, o, ho, hd⟩ := I.cell x c e
  exact free c o (fun z => (hch c z).2.2.1 x c e rfl) ho (I.freeC x c e)
 ·obtain ⟨e, n, ne, nf, d⟩ := I.pin p hp
  have nch : p.1 ∉ ch := fun z => (hch p.1 z).2.2.2 p hp rfl
  exact ⟨keep p.1 p.2 ne nf nch e n, free p.1 p.2 nch e n, ne, nf, d⟩
theorem Inv.un {t' : Nat} (I : Inv X pins σ H s) (u : Un X.fs [] H H' s.heap h') (hok : HOk X.prog X.w H' h') : Inv X pins σ H' { s with heap := h', toks := t' } := by
 obtain ⟨m, ⟨o, es, ep, ho, r⟩, _⟩ := id I.loc
 obtain ⟨sl, hL⟩ := u.any ho I.free (by simp)
 exact I.step (g' := s.gens) (d' := s.drawn) (ch := []) (fun _ z => nomatch z) (fun b o _ hb _ e n => u.keep b o e n hb (by simp)) (fun b o _ hb _ e n => u.slot b o e n hb (by simp)) (fun b o _ e n => u.free b o e n (by simp)) (fun b o _ e => u.there b o e (by simp)) u.tups u.frzs u.tbls (fun m' hm => by
  obtain ⟨o', es', ep', ho', r'⟩ := hm
  rw [ho] at ho'; cases ho'
  exact ⟨_, es', ep', hL, r'⟩) hok I.bare
theorem Inv.call {g' : Array GenState} {t' : Nat} {d' : Drawn} {ch : List Addr} (I : Inv X pins σ H s) (u : Un (frs X.stack) ch H H' s.heap h') (hok : HOk X.prog X.w H' h') (hg : AllBare g')
  (hch : ∀ b ∈ ch, (b ∈ X.ex ∨ X.s₀.heap.objs.size ≤ b) ∧ b ≠ X.env.locals ∧ (∀ x c, X.env.cells.lookup x = some c → c ≠ b) ∧ ∀ p ∈ X.pn ++ pins, p.1 ≠ b) :
  Inv X pins σ H' { s with heap := h', gens := g', drawn := d', toks := t' } := by
 obtain ⟨m, ⟨o, es, ep, ho, r⟩, _⟩ := id I.loc
 obtain ⟨sl, hL⟩ := u.any ho I.free fun z => (hch _ z).2.1 rfl
 exact I.step (ch := ch) hch (fun b o hL hb hc e n => u.keep b o e n (fun z => (List.mem_cons.mp (I.stkSub b z)).elim hL hb) hc) (fun b o _ _ hc e n => u.any e n hc) (fun b o hc e n => u.free b o e n hc) (fun b o hc e => u.there b o e hc) u.tups u.frzs u.tbls (fun m' hm => by
  obtain ⟨o', es', ep', ho', r'⟩ := hm
  rw [ho] at ho'; cases ho'
  exact ⟨_, es', ep', hL, r'⟩) hok hg
theorem Inv.turned {t' : Nat} {it : Addr} (I : Inv X pins σ H s) (k : ∀ b o, b ≠ it → s.heap.get? b = some o → h'.get? b = some o) (hn : H it = none) (hL : it ≠ X.env.locals)
  (h1 : it ∈ X.ex ∨ X.s₀.heap.objs.size ≤ it) (h2 : ∀ x c, X.env.cells.lookup x = some c → c ≠ it) (h3 : ∀ p ∈ X.pn ++ pins, p.1 ≠ it) : Inv X pins σ H { s with heap := h', toks := t' } := by
 have nit : ∀ b u, H b = some u → b ≠ it := fun b u e z => by rw [z, hn] at e; cases e
 refine I.step (g' := s.gens) (d' := s.drawn) (ch := [it]) (fun b hb => ?_) (fun b o _ _ hc e _ => k b o (fun z => hc (by simp [z])) e) (fun b o _ _ hc e _ => ⟨o.slots, k b o (fun z => hc (by simp [z])) e⟩) (fun _ _ _ _ n => n)
  (fun b o hc e => ⟨o, k b o (fun z => hc (by simp [z])) e⟩) (fun _ _ e => e) (fun _ _ _ e => e) (fun b ps e => ⟨#[], by rw [e]; simp⟩) (fun m hm => ?_) (fun b u e => ?_) I.bare
 ·have e : b = it := by simpa using hb
  subst e
  exact ⟨h1, hL, h2, h3⟩
 ·obtain ⟨o, es, ep, ho, r⟩ := hm
  exact ⟨o, es, ep, k _ o (Ne.symm hL) ho, r⟩
 ·refine (I.hok b u e).stay (fun c v hc q => k c v ?_ q) (fun _ q => q) fun _ _ q => q
  rcases hc with z | z
  ·rw [z]; exact nit b u e
  ·exact nit c _ z
theorem Inv.tok (I : Inv X pins σ H s) (t : Nat) : Inv X pins σ H { s with toks := t } := I.un (h' := s.heap) (t' := t) Un.refl I.hok
theorem Inv.kept {t' : Nat} (I : Inv X pins σ H s) (k : ∀ b u, s.heap.get? b = some u → h'.get? b = some u) : Inv X pins σ H { s with heap := h', toks := t' } := I.un (Un.kept k) (I.hok.kept k)
theorem Inv.laid {a : Addr} {o : HO} {t' : Nat} (I : Inv X pins σ H s) (k : ∀ b u, s.heap.get? b = some u → h'.get? b = some u) (hp : s.heap.objs.size ≤ a) (new : ObjOk X.prog X.w (upd H a o) h' a o) :
  Inv X pins σ (upd H a o) { s with heap := h', toks := t' } := I.un (Un.laid k hp (I.hok.fresh hp)) (I.hok.laid k hp new)
theorem Inv.write {x e : Addr} {o : HO} {t' : Nat} (I : Inv X pins σ H s) (mu : Mut (H x)) (he : e = x ∨ H e = some (.own x)) (k : ∀ b u, b ≠ e → s.heap.get? b = some u → h'.get? b = some u) (heo : ∃ u, h'.get? e = some u)
  (new : ObjOk X.prog X.w (upd H x o) h' x o) : Inv X pins σ (upd H x o) { s with heap := h', toks := t' } := I.un (Un.write mu he k heo) (I.hok.write mu he k heo new)
theorem Inv.pins_of {pins' : List (Addr × Obj)} (I : Inv X pins σ H s) (h : ∀ p ∈ pins', s.heap.get? p.1 = some p.2 ∧ H p.1 = none ∧ p.1 ≠ X.env.locals ∧ p.1 ∉ X.fs ∧ ∀ v, p.2.data ≠ .cell v) : Inv X pins' σ H s :=
 ⟨I.ok, I.os, I.bare, I.base, I.loc, I.cell, I.free, I.freeC, fun p hp => (List.mem_append.mp hp).elim (fun z => I.pin p (List.mem_append_left _ z)) (h p), I.hok, I.len⟩
theorem nodup_ix {N : List Str} (hN : N.Nodup) {i j : Nat} {x : Str} (a : N[i]? = some x) (b : N[j]? = some x) : i = j := by
 obtain ⟨h1, e1⟩ := List.getElem?_eq_some_iff.mp a
 obtain ⟨h2, e2⟩ := List.getElem?_eq_some_iff.mp b
 exact (List.getElem_inj hN).mp (e1.trans e2.symm)
theorem store_ok2 {M : Model} {A : Around} {E : Value → Shared → Prop} {i : Nat} {x : Str} {v : V} {u : Value} {Q : Unit → Shared → Prop} (I : Inv X pins σ H s) (hN : X.N.Nodup) (hi : X.N[i]? = some x) (hx : Loc X.env.scope x) (r : RelV v u)
  (h : ∀ s', Inv X pins (σ.set i (some v)) H s' → (∃ a, Heap.SameBut a s.heap s'.heap ∧ (a = X.env.locals ∨ X.env.cells.lookup x = some a)) → Q () s') (hf : X.fn x = true ∨ X.env.scope.names.lookup x = some .local := by first | exact .inl rfl | exact .inr rfl | assumption) : wpAny M A (storeName X.env x u) Q E s := by
 obtain ⟨m, hn, hl⟩ := id I.loc
 have hcls : (X.env.scope.kind == .class || (X.env.scope.kind == .module && X.env.locals != X.env.globals)) = false := by rw [I.ok.kind]; rfl
 have hiσ : i < σ.length := by rw [I.len]; exact (List.getElem?_eq_some_iff.mp hi).1
 have cne := I.cne
 have tracked : ∀ {a : Addr} {h' : Heap}, (∃ o, s.heap.get? a = some o ∧ H a = none) → Heap.SameBut a s.heap h' → HOk X.prog X.w H h' := fun {a h'} ha hs b ob e => by
  obtain ⟨_, _, hfree⟩ := ha
  refine (I.hok b ob e).stay (fun c w' hc q => (hs.2 c ?_).trans q) (fun _ q => q) fun _ _ q => q
  rintro rfl
  rcases hc with rfl | hc
  ·rw [hfree] at e; cases e
  ·rw [hfree] at hc; cases hc
 rcases hx with hk | hk
 ·refine wpAny_storeName_local hk hn (fun h' hn' hs => ?_) hcls
  obtain ⟨oL, _, _, hoL, _⟩ := id hn
  refine h _ ⟨I.ok, I.os, I.bare, ⟨fun b o e n hb hx => ?_, fun b o e n hb hx => ?_, I.base.free, fun b o e hx => ?_, I.base.tups, I.base.frzs, I.base.tbls⟩, ⟨_, hn', fun j y v' e1 e2 e3 => ?_⟩, fun y c e => ?_, I.free, I.freeC, fun p hp => ?_, tracked ⟨oL, hoL, I.free⟩ hs, by simpa using I.len⟩ ⟨_, hs, .inl rfl⟩
  ·exact (hs.2 b (Nat.ne_of_lt (Nat.lt_of_lt_of_le (Heap.lt_size e) I.ok.above))).trans (I.base.keep b o e n hb hx)
  ·obtain ⟨sl, e1⟩ := I.base.slot b o e n hb hx
   exact ⟨sl, (hs.2 b (Nat.ne_of_lt (Nat.lt_of_lt_of_le (Heap.lt_size e) I.ok.above))).trans e1⟩
  ·obtain ⟨o', e1⟩ := I.base.there b o e hx
   exact ⟨o', (hs.2 b (Nat.ne_of_lt (Nat.lt_of_lt_of_le (Heap.lt_size e) I.ok.above))).trans e1⟩
  ·by_cases hj : j = i
   ·subst hj
    rw [hi] at e1; cases e1
    rw [List.getElem?_set_self hiσ] at e2
    cases e2
    exact ⟨u, r, .inl ⟨hk, by simp⟩⟩
   ·rw [List.getElem?_set_ne (Ne.symm hj)] at e2
    obtain ⟨u', r', q⟩ := hl j y v' e1 e2 e3
    refine ⟨u', r', ?_⟩
    rcases q with ⟨k, e⟩ | ⟨k, c, e, z⟩
    ·refine .inl ⟨k, ?_⟩
     have : y ≠ x := fun e => hj (nodup_ix hN e1 (e ▸ hi))
     simp [this, e]
    ·exact .inr ⟨k, c, e, z.sameBut hs (cne y c e)⟩
  ·obtain ⟨w', z⟩ := I.cell y c e
   exact ⟨w', z.sameBut hs (cne y c e)⟩
  ·obtain ⟨e, n, ne, nf, d⟩ := I.pin p hp
   exact ⟨(hs.2 p.1 ne).trans e, n, ne, nf, d⟩
 ·have hfn : X.fn x = true := by
   rcases hf with z | z
   ·exact z
   ·rw [z] at hk; cases hk
  obtain ⟨c, hc⟩ := I.ok.has x (.inl hk)
  obtain ⟨w', z⟩ := I.cell x c hc
  refine wpAny_storeName_cell I.ok.kind hk hc z (fun h' hc' hs => ?_)
  obtain ⟨oc, hoc, hocd⟩ := id z
  refine h { s with heap := h' } ⟨I.ok, I.os, I.bare, ⟨fun b o e n hb hx => ?_, fun b o e n hb hx => ?_, I.base.free, fun b o e hx => ?_, I.base.tups, I.base.frzs, I.base.tbls⟩, ⟨m, hn.sameBut hs (Ne.symm (cne x c hc)), fun j y v' e1 e2 e3 => ?_⟩, fun y c' e => ?_, I.free, I.freeC, fun p hp => ?_, tracked ⟨oc, hoc, I.freeC x c hc⟩ hs, by simpa using I.len⟩ ⟨c, hs, .inr hc⟩
  ·exact (hs.2 b (Nat.ne_of_lt (Nat.lt_of_lt_of_le (Heap.lt_size e) (I.ok.cab x c hfn hc)))).trans (I.base.keep b o e n hb hx)
  ·obtain ⟨sl, e1⟩ := I.base.slot b o e n hb hx
   exact ⟨sl, (hs.2 b (Nat.ne_of_lt (Nat.lt_of_lt_of_le (Heap.lt_size e) (I.ok.cab x c hfn hc)))).trans e1⟩
  ·obtain ⟨o', e1⟩ := I.base.there b o e hx
   exact ⟨o', (hs.2 b (Nat.ne_of_lt (Nat.lt_of_lt_of_le (Heap.lt_size e) (I.ok.cab x c hfn hc)))).trans e1⟩
  ·by_cases hj : j = i
   ·subst hj
    rw [hi] at e1; cases e1
    rw [List.getElem?_set_self hiσ] at e2
    cases e2
    exact ⟨u, r, .inr ⟨.inl hk, c, hc, hc'⟩⟩
   ·rw [List.getElem?_set_ne (Ne.symm hj)] at e2
    obtain ⟨u', r', q⟩ := hl j y v' e1 e2 e3
    refine ⟨u', r', ?_⟩
    rcases q with q | ⟨k, c', e, z'⟩
    ·exact .inl q
    ·refine .inr ⟨k, c', e, z'.sameBut hs ?_⟩
     rintro rfl
     exact hj (nodup_ix hN e1 (I.ok.inj _ _ _ e hc ▸ hi))
  ·by_cases hcc : c' = c
   ·subst hcc; exact ⟨_, hc'⟩
   ·obtain ⟨w2, z2⟩ := I.cell y c' e
    exact ⟨w2, z2.sameBut hs hcc⟩
  ·obtain ⟨e, n, ne, nf, d⟩ := I.pin p hp
   refine ⟨(hs.2 p.1 ?_).trans e, n, ne, nf, d⟩
   intro q
   rw [q, hoc] at e
   have q' : oc = p.2 := Option.some.inj e
   exact d w' (by rw [← q']; exact hocd)
theorem store_ok {M : Model} {A : Around} {E : Value → Shared → Prop} {i : Nat} {x : Str} {v : V} {u : Value} {Q : Unit → Shared → Prop} (I : Inv X pins σ H s) (hN : X.N.Nodup) (hi : X.N[i]? = some x) (hx : Loc X.env.scope x) (r : RelV v u)
  (h : ∀ s', Inv X pins (σ.set i (some v)) H s' → Q () s') (hf : X.fn x = true ∨ X.env.scope.names.lookup x = some .local := by first | exact .inl rfl | exact .inr rfl | assumption) : wpAny M A (storeName X.env x u) Q E s :=
 store_ok2 I hN hi hx r (fun s' I' _ => h s' I') hf
theorem Inv.call' {s' : Shared} {ch : List Addr} (I : Inv X pins σ H s) (ho : s'.os = s.os) (u : Un (frs X.stack) ch H H' s.heap s'.heap) (hok : HOk X.prog X.w H' s'.heap) (hg : AllBare s'.gens)
  (hch : ∀ b ∈ ch, (b ∈ X.ex ∨ X.s₀.heap.objs.size ≤ b) ∧ b ≠ X.env.locals ∧ (∀ x c, X.env.cells.lookup x = some c → c ≠ b) ∧ ∀ p ∈ X.pn ++ pins, p.1 ≠ b) : Inv X pins σ H' s' := by
 obtain ⟨h', g', d', t', o'⟩ := s'
 have e : o' = s.os := ho
 subst e
 exact I.call (g' := g') (t' := t') (d' := d') u hok hg hch
end
noncomputable abbrev XK := Value → Option Addr → Hp → Prop
noncomputable abbrev St := List (Option V)
noncomputable abbrev VK := V → Hp → Prop
noncomputable abbrev TE := St → Hp → VK → Prop
noncomputable abbrev TT := St → Hp → (Bool → Hp → Prop) → Prop
noncomputable abbrev TA := St → Hp → (List V → Hp → Prop) → Prop
structure Ends where
 nx : St → Hp → Prop
 rt : VK
 bk : St → Hp → Prop := fun _ _ => False
 ct : St → Hp → Prop := fun _ _ => False
noncomputable abbrev TS := Ends → St → Hp → Prop
noncomputable def EP (X : Cx) (pins : List (Addr × Obj)) (σ : St) (Q : VK) (u : Value) (s' : Shared) : Prop := ∃ v H', Inv X pins σ H' s' ∧ RelV v u ∧ Q v H'
noncomputable def TP (X : Cx) (pins : List (Addr × Obj)) (σ : St) (Q : Bool → Hp → Prop) (b : Bool) (s' : Shared) : Prop := ∃ H', Inv X pins σ H' s' ∧ Q b H'
noncomputable def AP (X : Cx) (pins : List (Addr × Obj)) (σ : St) (Q : List V → Hp → Prop) (us : List Value) (s' : Shared) : Prop := ∃ vs H', Inv X pins σ H' s' ∧ Vals vs us ∧ Q vs H'
noncomputable def SP (X : Cx) (pins : List (Addr × Obj)) (D : Ends) (f : Flow) (s' : Shared) : Prop :=
 match f with
 | .next => ∃ σ' H', Inv X pins σ' H' s' ∧ D.nx σ' H'
 | .brk => ∃ σ' H', Inv X pins σ' H' s' ∧ D.bk σ' H'
 | .cont => ∃ σ' H', Inv X pins σ' H' s' ∧ D.ct σ' H'
 | .ret u => ∃ v σ' H', Inv X pins σ' H' s' ∧ RelV v u ∧ D.rt v H'
noncomputable def PE (X : Cx) (e : Expr) (t : TE) : Prop :=
 ∀ (pins : List (Addr × Obj)) (s : Shared) (σ : St) (H : Hp) (Q : VK), Inv X pins σ H s → t σ H Q → wpAny (model X.prog X.w) X.A (eval e X.env) (EP X pins σ Q) X.xe s
noncomputable def PT (X : Cx) (e : Expr) (t : TT) : Prop :=
 ∀ (pins : List (Addr × Obj)) (s : Shared) (σ : St) (H : Hp) (Q : Bool → Hp → Prop), Inv X pins σ H s → t σ H Q → wpAny (model X.prog X.w) X.A (isTrue e X.env (eval e X.env)) (TP X pins σ Q) X.xe s
noncomputable def PW (X : Cx) (e : Expr) (t : TT) : Prop :=
 ∀ (whole : Sem Value) (pins : List (Addr × Obj)) (s : Shared) (σ : St) (H : Hp) (Q : Bool → Hp → Prop), Inv X pins σ H s → t σ H Q → wpAny (model X.prog X.w) X.A (isTrue e X.env whole) (TP X pins σ Q) X.xe s
theorem PW.pt {X : Cx} {e : Expr} {t : TT} (h : PW X e t) : PT X e t := h _
noncomputable def PA (X : Cx) (es : List Expr) (t : TA) : Prop :=
 ∀ (pos : Pos) (pins : List (Addr × Obj)) (s : Shared) (σ : St) (H : Hp) (Q : List V → Hp → Prop), Inv X pins σ H s → t σ H Q → wpAny (model X.prog X.w) X.A (spliced (backTo pos (starEach es X.env))) (AP X pins σ Q) X.xe s
noncomputable def PS (X : Cx) (st : Stmt) (t : TS) : Prop :=
 ∀ (pins : List (Addr × Obj)) (s : Shared) (σ : St) (H : Hp) (D : Ends), Inv X pins σ H s → t D σ H → wpAny (model X.prog X.w) X.A (exec st X.env) (SP X pins D) X.xe s
noncomputable def PSs (X : Cx) (st : List Stmt) (t : TS) : Prop :=
 ∀ (pins : List (Addr × Obj)) (s : Shared) (σ : St) (H : Hp) (D : Ends), Inv X pins σ H s → t D σ H → wpAny (model X.prog X.w) X.A (execs st X.env) (SP X pins D) X.xe s
theorem thn {α : Type} {t : Sem α} {Q Q' : α → Shared → Prop} {M : Model} {A : Around} {E : Value → Shared → Prop} {s : Shared} (h : wpAny M A t Q E s) (hQ : ∀ a s, Q a s → Q' a s) : wpAny M A t Q' E s := wpAny_mono h hQ fun _ _ x => x
end L2
namespace L2
open PySem PySem.Spec PyProof.Rows
section
variable {X : Cx}
theorem bin {a b : Expr} {ta tb : TE} (ha : PE X a ta) (hb : PE X b tb) {pins : List (Addr × Obj)} {s : Shared} {σ : St} {H : Hp} {R : V → V → Hp → Prop} (I : Inv X pins σ H s) (h : ta σ H fun x H1 => tb σ H1 fun y H2 => R x y H2)
  {α : Type} {Q : α → Shared → Prop} {f : Value → Value → Sem α}
  (hf : ∀ v u s2 x y H2, Inv X pins σ H2 s2 → RelV x v → RelV y u → R x y H2 → wpAny (model X.prog X.w) X.A (f v u) Q X.xe s2) :
  wpAny (model X.prog X.w) X.A (eval a X.env) (fun v s₁ => wpAny (model X.prog X.w) X.A (eval b X.env) (fun u s₂ => wpAny (model X.prog X.w) X.A (f v u) Q X.xe s₂) X.xe s₁) X.xe s := by
 refine thn (ha pins s σ H _ I h) fun v s1 ⟨x, H1, I1, r1, q1⟩ => ?_
 refine thn (hb pins s1 σ H1 _ I1 q1) fun u s2 ⟨y, H2, I2, r2, q2⟩ => ?_
 exact hf v u s2 x y H2 I2 r1 r2 q2
noncomputable def tVar (i : Nat) : TE := fun σ H Q => ∃ v, σ[i]? = some (some v) ∧ Q v H
noncomputable def tC (v : V) : TE := fun _ H Q => Q v H
theorem pe_var {i : Nat} {x : Str} {pos : Pos} (hN : X.N[i]? = some x) (hv : Vis X.env.scope x) (hd : (x == ("__debug__" : Str)) = false := by decide) (hcd : (x == ("__classdict__" : Str)) = false := by decide) : PE X (.Name x pos) (tVar i) := by
 intro pins s σ H Q I h
 obtain ⟨v, e, h⟩ := h
 obtain ⟨m, hn, hl⟩ := I.loc
 obtain ⟨u, r, l⟩ := hl i x v hN e hv
 have fin : EP X pins σ Q u s := ⟨v, H, I, r, h⟩
 rcases l with ⟨hk, hm⟩ | ⟨hk, c, hc, hcell⟩
 ·exact wpAny_Name (wpAny_loadName_local I.ok.kind hk hn hm fin) hd
 ·rcases hk with hk | hk
  ·exact wpAny_Name (wpAny_loadName_cell I.ok.kind hk hc hcell fin) hd
  ·exact wpAny_Name (wpAny_loadName_free I.ok.kind hk hc hcell fin hcd) hd
theorem pe_int {i j pos} : PE X (.Constant (.int i) j pos) (tC (.int i)) := fun _ _ _ H _ I h => wpAny_Constant_int ⟨.int i, H, I.tok _, ⟨_, rfl⟩, h⟩
theorem pe_bl {b j pos} : PE X (.Constant (.bool b) j pos) (tC (.bl b)) := fun _ _ _ H _ I h => Constant_bool ⟨.bl b, H, I, rfl, h⟩
theorem pe_non {j pos} : PE X (.Constant .none j pos) (tC .non) := fun _ _ _ H _ I h => Constant_none ⟨.non, H, I, rfl, h⟩
theorem pe_str {x j pos} : PE X (.Constant (.str x) j pos) (tC (.str x)) := fun _ _ _ H _ I h => Calls.Constant_str ⟨.str x, H, I.tok _, ⟨_, rfl⟩, h⟩
noncomputable def Gl (X : Cx) (x : Str) : Prop := X.env.kindOf x = some .globalImplicit
theorem ld_glob {E : Value → Shared → Prop} {pins : List (Addr × Obj)} {s : Shared} {σ : St} {H : Hp} {x : Str} {u : Value} {pos : Pos} {Q : Value → Shared → Prop} (I : Inv X pins σ H s) (hg : Gl X x) (hm : X.mg x = some u) (h : Q u s)
  (hd : (x == ("__debug__" : Str)) = false := by decide) : wpAny (model X.prog X.w) X.A (eval (.Name x pos) X.env) Q E s :=
 Calls.Name_function_global I.ok.kind hg (Calls.loadGlobal_global (by rw [I.ok.glob]; exact I.mod.glob.keeps I.bk) hm h) hd
theorem ld_blt {E : Value → Shared → Prop} {pins : List (Addr × Obj)} {s : Shared} {σ : St} {H : Hp} {x : Str} {u : Value} {pos : Pos} {Q : Value → Shared → Prop} (I : Inv X pins σ H s) (hg : Gl X x) (hm : X.mg x = none) (hv : bootBuiltins x = some u) (h : Q u s)
  (hn : x ≠ "__name__" := by decide) (hd : (x == ("__debug__" : Str)) = false := by decide) : wpAny (model X.prog X.w) X.A (eval (.Name x pos) X.env) Q E s := by
 obtain ⟨mb, h1, h2⟩ := I.mod.blt
 exact Calls.Name_function_global I.ok.kind hg (Calls.loadGlobal_builtin (by rw [I.ok.glob]; exact I.mod.glob.keeps I.bk) hm (by rw [I.ok.blt]; exact h1.keeps I.bk) ((h2 x hn).trans hv) h) hd
theorem pe_glob {x : Str} {v : V} {u : Value} {pos : Pos} (hg : Gl X x) (hm : X.mg x = some u) (r : RelV v u) (hd : (x == ("__debug__" : Str)) = false := by decide) : PE X (.Name x pos) (tC v) :=
 fun _ _ _ H _ I h => ld_glob I hg hm ⟨v, H, I, r, h⟩ hd
theorem pe_bltn {x : Str} {v : V} {u : Value} {pos : Pos} (hg : Gl X x) (hm : X.mg x = none) (hv : bootBuiltins x = some u) (r : RelV v u) (hn : x ≠ "__name__" := by decide) (hd : (x == ("__debug__" : Str)) = false := by decide) : PE X (.Name x pos) (tC v) :=
 fun _ _ _ H _ I h => ld_blt I hg hm hv ⟨v, H, I, r, h⟩ hn hd
variable {a b : Expr} {ta tb : TE} {pos : Pos}
noncomputable def PC (X : Cx) (op : CmpOp) (a b : Expr) (t : TE) : Prop :=
 ∀ (pins : List (Addr × Obj)) (s : Shared) (σ : St) (H : Hp) (Q : VK), Inv X pins σ H s → t σ H Q →
  wpAny (model X.prog X.w) X.A (eval a X.env) (fun v s₁ => wpAny (model X.prog X.w) X.A (eval b X.env) (fun u s₂ => wpAny (model X.prog X.w) X.A (compareOp op v u) (EP X pins σ Q) X.xe s₂) X.xe s₁) X.xe s
noncomputable def tB (t : TE) : TT := fun σ H Q => t σ H fun x H1 => ∃ c, x = .bl c ∧ Q c H1
theorem pt_cmp {op : CmpOp} {t : TE} (h : PC X op a b t) (h1 : behindInMarks op b = false := by first | exact nobehind _ (by decide) (by decide) | rfl) : PT X (.Compare a [op] [b] pos) (tB t) := by
 intro pins s σ H Q I hw
 refine wpAny_isTrue_Compare1 (thn (h pins s σ H _ I hw) fun v s1 h1 => thn h1 fun u s2 h2 => thn h2 fun c s3 ⟨x, H1, I1, r1, q1⟩ => ?_) h1
 obtain ⟨d, rfl, q⟩ := q1
 cases r1
 exact wpAny_truthy_bool ⟨H1, I1, q⟩
variable {tA tB' : TT} {rest : List Expr}
noncomputable def tAnd (t u : TT) : TT := fun σ H Q => t σ H fun c H1 => if c = true then u σ H1 Q else Q false H1
noncomputable def tOr (t u : TT) : TT := fun σ H Q => t σ H fun c H1 => if c = true then Q true H1 else u σ H1 Q
noncomputable def tNot (t : TT) : TT := fun σ H Q => t σ H fun c H1 => Q (!c) H1
theorem pw_and1 (ha : PT X a tA) : PW X (.BoolOp .And [a] pos) tA := by
 intro wh pins s σ H Q I h
 refine isTrue_and (thn (ha pins s σ H Q I h) fun c s1 e => ?_)
 cases c with
 | true => exact isTrue_and_nil e
 | false => exact e
theorem pw_or1 (ha : PT X a tA) : PW X (.BoolOp .Or [a] pos) tA := by
 intro wh pins s σ H Q I h
 refine isTrue_or (thn (ha pins s σ H Q I h) fun c s1 e => ?_)
 cases c with
 | false => exact isTrue_or_nil e
 | true => exact e
theorem pw_and (ha : PT X a tA) (hb : PW X (.BoolOp .And (b :: rest) pos) tB') : PW X (.BoolOp .And (a :: b :: rest) pos) (tAnd tA tB') := by
 intro wh pins s σ H Q I h
 refine isTrue_and (thn (ha pins s σ H _ I h) fun c s1 ⟨H1, I1, q1⟩ => ?_)
 cases c with
 | true => exact hb wh pins s1 σ H1 Q I1 q1
 | false => exact ⟨H1, I1, q1⟩
theorem pw_or (ha : PT X a tA) (hb : PW X (.BoolOp .Or (b :: rest) pos) tB') : PW X (.BoolOp .Or (a :: b :: rest) pos) (tOr tA tB') := by
 intro wh pins s σ H Q I h
 refine isTrue_or (thn (ha pins s σ H _ I h) fun c s1 ⟨H1, I1, q1⟩ => ?_)
 cases c with
 | true => exact ⟨H1, I1, q1⟩
 | false => exact hb wh pins s1 σ H1 Q I1 q1
theorem pt_not (ha : PT X a tA) : PT X (.UnaryOp .Not a pos) (tNot tA) := by
 intro pins s σ H Q I h
 exact isTrue_not (ha pins s σ H (fun c H1 => Q (!c) H1) I h)
noncomputable def tAndV (ta tb : TE) : TE := fun σ H Q => ta σ H fun x H1 => ∃ c, x = .bl c ∧ if c = true then tb σ H1 Q else Q (.bl false) H1
noncomputable def tNotV (ta : TE) : TE := fun σ H Q => ta σ H fun x H1 => ∃ c, x = .bl c ∧ Q (.bl (!c)) H1
theorem pe_one {op} {t : TE} (h : PE X a t) : PE X (.BoolOp op [a] pos) t := fun pins s σ H Q I hw => BoolOp_one (h pins s σ H Q I hw)
theorem pe_and (ha : PE X a ta) (hb : PE X (.BoolOp .And (b :: rest) pos) tb) : PE X (.BoolOp .And (a :: b :: rest) pos) (tAndV ta tb) := by
 intro pins s σ H Q I h
 refine BoolOp_and (thn (ha pins s σ H _ I h) fun v s1 ⟨x, H1, I1, r1, q1⟩ => ?_)
 obtain ⟨c, rfl, q1⟩ := q1
 cases r1
 refine wpAny_truthy_bool ?_
 cases c with
 | true => exact hb pins s1 σ H1 Q I1 q1
 | false => exact ⟨.bl false, H1, I1, rfl, q1⟩
theorem pe_not (ha : PE X a ta) : PE X (.UnaryOp .Not a pos) (tNotV ta) := by
 intro pins s σ H Q I h
 refine UnaryOp_ (thn (ha pins s σ H _ I h) fun v s1 ⟨x, H1, I1, r1, q1⟩ => ?_)
 obtain ⟨c, rfl, q1⟩ := q1
 cases r1
 exact not_of (wpAny_truthy_bool ⟨.bl (!c), H1, I1, rfl, q1⟩)
noncomputable def tIf (t : TT) (ta tb : TE) : TE := fun σ H Q => t σ H fun c H1 => if c = true then ta σ H1 Q else tb σ H1 Q
theorem pe_ifExp {c : Expr} (hc : PT X c tA) (ha : PE X a ta) (hb : PE X b tb) : PE X (.IfExp c a b pos) (tIf tA ta tb) := by
 intro pins s σ H Q I h
 refine wpAny_IfExp (thn (hc pins s σ H _ I h) fun d s1 ⟨H1, I1, q1⟩ => ?_)
 cases d with
 | true => exact ha pins s1 σ H1 Q I1 q1
 | false => exact hb pins s1 σ H1 Q I1 q1
end
end L2
namespace L2
open PySem PySem.Spec PyProof.Rows
noncomputable def SqL (K : PySem.W.Frag) (H : Hp) (a : Addr) (xs : List V) : Prop :=
 Rd H a (.lst xs) ∨
  ∃ (o : Obj) (its : Array Value) (n : Nat), K.lookup a = some o ∧ o.cls = .type "list" ∧ o.dict = none ∧ o.data = .seq its n ∧ its.size ≤ sizeLine ∧ Vals xs its.toList
noncomputable def SqT (K : PySem.W.Frag) (H : Hp) (a : Addr) (xs : List V) : Prop :=
 Rd H a (.tup xs) ∨
  ∃ (o : Obj) (its : Array Value) (n : Nat), K.lookup a = some o ∧ o.cls = .type "tuple" ∧ o.data = .seq its n ∧ its.size ≤ sizeLine ∧ Vals xs its.toList
noncomputable def absV : Value → Option V
 | .none => some .non
 | .bool b => some (.bl b)
 | .int i _ => some (.int i)
 | .str x _ => some (.str x)
 | .bytes b _ => some (.byt b)
 | .float b _ => some (.flt b)
 | .ref a => some (.ref a)
 | .type n => some (.ty n)
 | _ => none
theorem RelV.abs {x : V} {u : Value} (r : RelV x u) : absV u = some x := by
 cases x with
 | non => cases r; rfl
 | bl _ => cases r; rfl
 | int _ => obtain ⟨t, rfl⟩ := r; rfl
 | str _ => obtain ⟨t, rfl⟩ := r; rfl
 | byt _ => obtain ⟨t, rfl⟩ := r; rfl
 | flt _ => obtain ⟨t, rfl⟩ := r; rfl
 | ref _ => cases r; rfl
 | ty _ => cases r; rfl
theorem RelV.inj {x y : V} {u : Value} (r : RelV x u) (q : RelV y u) : x = y := Option.some.inj (r.abs.symm.trans q.abs)
theorem Vals.inj : ∀ {xs ys : List V} {us : List Value}, Vals xs us → Vals ys us → xs = ys
 | _, _, _, .nil, .nil => rfl
 | _, _, _, .cons r t, .cons r' t' => by rw [r.inj r', Vals.inj t t']
section
variable {X : Cx} {pins : List (Addr × Obj)} {σ : St} {H : Hp} {s : Shared} {a : Addr} {xs ys : List V}
theorem SqL.of {K : PySem.W.Frag} (h : H a = some (.lst xs)) : SqL K H a xs := .inl (.inl h)
theorem SqT.of {K : PySem.W.Frag} (h : H a = some (.tup xs)) : SqT K H a xs := .inl (.inl h)
theorem Inv.list (I : Inv X pins σ H s) (h : SqL X.K H a xs) : ∃ its : List Value, Vals xs its ∧ PlainL s.heap a its.toArray ∧ xs.length ≤ sizeLine := by
 rcases h with h | ⟨o, its, n, hk, hc, hd, hs, hz, r⟩
 ·obtain ⟨z, its, n, r, e⟩ := h.ok I.hok
  exact ⟨its, r, ⟨_, n, e, rfl, rfl, rfl⟩, z⟩
 ·refine ⟨its.toList, r, ⟨o, n, I.kIn a o hk, hc, hd, by simpa using hs⟩, ?_⟩
  have e := r.length
  simp only [Array.length_toList] at e
  lia
theorem Inv.tuple (I : Inv X pins σ H s) (h : SqT X.K H a xs) : ∃ its : List Value, Vals xs its ∧ IsTup s.heap a its.toArray ∧ xs.length ≤ sizeLine := by
 rcases h with h | ⟨o, its, n, hk, hc, hs, hz, r⟩
 ·obtain ⟨z, its, r, p⟩ := h.ok I.hok
  exact ⟨its, r, p, z⟩
 ·refine ⟨its.toList, r, ⟨o, I.kIn a o hk, hc, n, by simpa using hs⟩, ?_⟩
  have e := r.length
  simp only [Array.length_toList] at e
  lia
theorem Inv.list_inj (I : Inv X pins σ H s) (h : SqL X.K H a xs) (h' : SqL X.K H a ys) : xs = ys := by
 obtain ⟨its, r, ⟨o, n, e, _, _, d⟩, _⟩ := I.list h
 obtain ⟨its', r', ⟨o', n', e', _, _, d'⟩, _⟩ := I.list h'
 rw [e] at e'; cases e'
 rw [d] at d'
 injection d' with d1 _
 have : its = its' := by simpa using congrArg Array.toList d1
 subst this
 exact r.inj r'
theorem Inv.tuple_inj (I : Inv X pins σ H s) (h : SqT X.K H a xs) (h' : SqT X.K H a ys) : xs = ys := by
 obtain ⟨its, r, ⟨o, e, _, n, d⟩, _⟩ := I.tuple h
 obtain ⟨its', r', ⟨o', e', _, n', d'⟩, _⟩ := I.tuple h'
 rw [e] at e'; cases e'
 rw [d] at d'
 injection d' with d1 _
 have : its = its' := by simpa using congrArg Array.toList d1
 subst this
 exact r.inj r'
end
noncomputable abbrev Cx.wish (X : Cx) (E : Value → Shared → Prop) : Cx := { X with xe := E }
noncomputable abbrev Cx.nox (X : Cx) : Cx := X.wish fun _ _ => False
theorem Cx.Ok.wish {X : Cx} (ok : X.Ok) (E : Value → Shared → Prop) : (X.wish E).Ok :=
 ⟨ok.mod, ok.kind, ok.glob, ok.blt, ok.above, ok.inj, ok.has, ok.cab, ok.hd, ok.frames, ok.stk, ok.exf, ok.bs, ok.bsz, ok.noex, ok.exfs, ok.funs, ok.frf⟩
theorem Cx.Ok.unwish {X : Cx} {E : Value → Shared → Prop} (ok : (X.wish E).Ok) : X.Ok :=
 ⟨ok.mod, ok.kind, ok.glob, ok.blt, ok.above, ok.inj, ok.has, ok.cab, ok.hd, ok.frames, ok.stk, ok.exf, ok.bs, ok.bsz, ok.noex, ok.exfs, ok.funs, ok.frf⟩
section
variable {X : Cx} {pins : List (Addr × Obj)} {σ : St} {H : Hp} {s : Shared} {E : Value → Shared → Prop}
theorem Inv.wish (I : Inv X pins σ H s) (E : Value → Shared → Prop) : Inv (X.wish E) pins σ H s := ⟨I.ok.wish E, I.os, I.bare, I.base, I.loc, I.cell, I.free, I.freeC, I.pin, I.hok, I.len⟩
theorem Inv.unwish (I : Inv (X.wish E) pins σ H s) : Inv X pins σ H s := ⟨I.ok.unwish, I.os, I.bare, I.base, I.loc, I.cell, I.free, I.freeC, I.pin, I.hok, I.len⟩
theorem SP.unwish {D : Ends} {f : Flow} {s' : Shared} (h : SP (X.wish E) pins D f s') : SP X pins D f s' := by
 cases f with
 | next => obtain ⟨σ', H', I, q⟩ := h; exact ⟨σ', H', I.unwish, q⟩
 | brk => obtain ⟨σ', H', I, q⟩ := h; exact ⟨σ', H', I.unwish, q⟩
 | cont => obtain ⟨σ', H', I, q⟩ := h; exact ⟨σ', H', I.unwish, q⟩
 | ret u => obtain ⟨v, σ', H', I, r, q⟩ := h; exact ⟨v, σ', H', I.unwish, r, q⟩
theorem PSs.nox {st : List Stmt} {t : TS} (h : PSs X.nox st t) : PSs X st t := fun pins s σ H D I hw =>
 wpAny_mono (h pins s σ H D (I.wish _) hw) (fun _ _ q => q.unwish) fun _ _ z => False.elim z
end
section
variable {X : Cx} {st : Stmt} {rest : List Stmt} {t u : TS} {e : Expr} {te : TE} {pos : Pos}
noncomputable def tNext : TS := fun D σ H => D.nx σ H
noncomputable def tSeq (t u : TS) : TS := fun D σ H => t { D with nx := u D } σ H
theorem pss_nil : PSs X [] tNext := fun _ _ σ H _ I h => wpAny_execs_nil ⟨σ, H, I, h⟩
theorem pss_cons (h1 : PS X st t) (h2 : PSs X rest u) : PSs X (st :: rest) (tSeq t u) := by
 intro pins s σ H D I h
 refine wpAny_execs_cons (thn (h1 pins s σ H { D with nx := u D } I h) fun f s1 q => ?_)
 cases f with
 | next =>
  obtain ⟨σ', H', I', q⟩ := q
  exact h2 pins s1 σ' H' D I' q
 | ret v => exact q
 | brk => exact q
 | cont => exact q
theorem pss_one (h1 : PS X st t) : PSs X [st] t := by
 intro pins s σ H D I h
 refine wpAny_execs_cons (thn (h1 pins s σ H D I h) fun f s1 q => ?_)
 cases f with
 | next => exact wpAny_execs_nil q
 | ret v => exact q
 | brk => exact q
 | cont => exact q
theorem Inv.quiet {pins : List (Addr × Obj)} {σ : St} {H : Hp} {s : Shared} (I : Inv X pins σ H s) : interactive X.env = false := by simp [interactive, I.ok.kind]
noncomputable def tDrop (te : TE) : TS := fun D σ H => te σ H fun _ H1 => D.nx σ H1
theorem ps_expr (he : PE X e te) (hs : swapsWith e none pos.line X.env = pure false := by rfl) : PS X (.Expr e pos) (tDrop te) := by
 intro pins s σ H D I h
 exact wpAny_Expr_any (thn (he pins s σ H _ I h) fun v s1 ⟨x, H1, I1, r1, q1⟩ => ⟨σ, H1, I1, q1⟩) I.quiet hs
noncomputable def tRet (te : TE) : TS := fun D σ H => te σ H D.rt
theorem ps_ret (he : PE X e te) : PS X (.Return (some e) pos) (tRet te) := by
 intro pins s σ H D I h
 exact wpAny_Return_some (thn (he pins s σ H _ I h) fun v s1 ⟨x, H1, I1, r1, q1⟩ => ⟨x, σ, H1, I1, r1, q1⟩)
noncomputable def tIfS (c : TT) (t u : TS) : TS := fun D σ H => c σ H fun b H1 => if b = true then t D σ H1 else u D σ H1
theorem ps_if {c : Expr} {a b : List Stmt} {tc : TT} (hc : PT X c tc) (ha : PSs X a t) (hb : PSs X b u) : PS X (.If c a b pos) (tIfS tc t u) := by
 intro pins s σ H D I h
 refine wpAny_If (thn (hc pins s σ H _ I h) fun d s1 ⟨H1, I1, q1⟩ => ?_)
 cases d with
 | true => exact ha pins s1 σ H1 D I1 q1
 | false => exact hb pins s1 σ H1 D I1 q1
end
noncomputable abbrev TG := V → St → Hp → (St → Hp → Prop) → Prop
noncomputable abbrev TGs := List V → St → Hp → (St → Hp → Prop) → Prop
noncomputable def PG (X : Cx) (target : Expr) (t : TG) : Prop :=
 ∀ (pins : List (Addr × Obj)) (s : Shared) (σ : St) (H : Hp) (v : V) (u : Value) (Q : St → Hp → Prop), Inv X pins σ H s → RelV v u → t v σ H Q →
  wpAny (model X.prog X.w) X.A (assign target X.env u) (fun _ s' => ∃ σ' H', Inv X pins σ' H' s' ∧ Q σ' H') X.xe s
noncomputable def PGs (X : Cx) (ts : List Expr) (t : TGs) : Prop :=
 ∀ (pins : List (Addr × Obj)) (s : Shared) (σ : St) (H : Hp) (vs : List V) (us : List Value) (Q : St → Hp → Prop), Inv X pins σ H s → Vals vs us → t vs σ H Q →
  wpAny (model X.prog X.w) X.A (assignInOrder ((assignEach ts X.env).map (·.2)) us) (fun _ s' => ∃ σ' H', Inv X pins σ' H' s' ∧ Q σ' H') X.xe s
noncomputable abbrev TSet := V → V → V → Hp → (Hp → Prop) → Prop
noncomputable def PSet (X : Cx) (t : TSet) : Prop :=
 ∀ (pins : List (Addr × Obj)) (s : Shared) (σ : St) (H : Hp) (o i v : V) (ov iv u : Value) (Q : Hp → Prop), Inv X pins σ H s → RelV o ov → RelV i iv → RelV v u → t o i v H Q →
  wpAny (model X.prog X.w) X.A (setItem ov iv u) (fun _ s' => ∃ H', Inv X pins σ H' s' ∧ Q H') X.xe s
section
variable {X : Cx} {pos : Pos}
noncomputable def gName (i : Nat) : TG := fun v σ H Q => Q (σ.set i (some v)) H
theorem pg_name {i : Nat} {x : Str} (hN : X.N.Nodup) (hi : X.N[i]? = some x) (hx : Loc X.env.scope x) (hf : X.fn x = true ∨ X.env.scope.names.lookup x = some .local := by first | exact .inl rfl | exact .inr rfl | assumption) : PG X (.Name x pos) (gName i) := by
 intro pins s σ H v u Q I r h
 exact wpAny_assign_Name (store_ok I hN hi hx r (fun s' I' => ⟨_, H, I', h⟩) hf)
noncomputable def gNil : TGs := fun vs σ H Q => vs = [] ∧ Q σ H
noncomputable def gCons (t : TG) (u : TGs) : TGs := fun vs σ H Q => ∃ v r, vs = v :: r ∧ t v σ H fun σ' H' => u r σ' H' Q
theorem pgs_nil : PGs X [] gNil := by
 intro pins s σ H vs us Q I r h
 obtain ⟨e, h⟩ := h
 subst e
 cases r
 exact assignInOrder_nil ⟨σ, H, I, h⟩
theorem pgs_cons {e : Expr} {es : List Expr} {t : TG} {u : TGs} (h1 : PG X e t) (h2 : PGs X es u)
  (hs : (assignEach (e :: es) X.env).map (·.2) = assign e X.env :: (assignEach es X.env).map (·.2) := by rfl) : PGs X (e :: es) (gCons t u) := by
 intro pins s σ H vs us Q I r h
 obtain ⟨v, vr, e1, h⟩ := h
 subst e1
 cases r with
 | cons r rr =>
  rw [hs]
  refine assignInOrder_cons (thn (h1 pins s σ H _ _ _ I r h) fun _ s1 ⟨σ1, H1, I1, q1⟩ => ?_)
  exact h2 pins s1 σ1 H1 _ _ Q I1 rr q1
noncomputable def gTup (K : PySem.W.Frag) (n : Nat) (t : TGs) : TG := fun v σ H Q => ∃ a xs, v = .ref a ∧ SqT K H a xs ∧ xs.length = n ∧ t xs σ H Q
theorem pg_tup {es : List Expr} {k : Nat} {t : TGs} {n : Nat} (hc : X.calm = true) (h : PGs X es t)
  (hn : (assignEach es X.env).length = n := by rfl) (hst : (assignEach es X.env).findIdx? (·.1) = none := by rfl) : PG X (.Tuple es k pos) (gTup X.K n t) := by
 intro pins s σ H v u Q I r hw
 obtain ⟨a, xs, e1, hq, hl, hw⟩ := hw
 subst e1
 cases r
 obtain ⟨its, rv, ht, hz⟩ := I.tuple hq
 refine assign_Tuple_tuple (I.ok.hd hc) ht (by simp [hn, ← hl, rv.length]) hst fun h' hx => ?_
 have I1 : Inv X pins σ H { s with heap := h' } := I.kept (t' := s.toks) fun b o e => hx b o (Nat.ne_of_lt (Heap.lt_size e)) e
 exact h pins _ σ H xs _ Q I1 (by simpa using rv) hw
noncomputable def gSub (to ti : TE) (t : TSet) : TG := fun v σ H Q => to σ H fun o H1 => ti σ H1 fun i H2 => t o i v H2 fun H3 => Q σ H3
theorem pg_sub {o i : Expr} {to ti : TE} {t : TSet} (ho : PE X o to) (hi : PE X i ti) (hs : PSet X t)
  (ha : ∀ v, assign (.Subscript o i pos) X.env v = (do
   let ov ← holding [v] (eval o X.env)
   let iv ← holding [v, ov] (eval i X.env)
   standAt pos
   holding [v, ov, iv] (setItem ov iv v)
   release [v, ov, iv] []) := by intro _; rfl) : PG X (.Subscript o i pos) (gSub to ti t) := by
 intro pins s σ H v u Q I r h
 rw [ha]
 refine wpAny_bind (wpAny_holding (thn (ho pins s σ H _ I h) fun ov s1 ⟨x, H1, I1, r1, q1⟩ => ?_))
 refine wpAny_bind (wpAny_holding (thn (hi pins s1 σ H1 _ I1 q1) fun iv s2 ⟨y, H2, I2, r2, q2⟩ => ?_))
 refine wpAny_bind (wpAny_standAt (wpAny_bind (wpAny_holding (thn (hs pins s2 σ H2 x y v ov iv u _ I2 r1 r2 r q2) fun _ s3 ⟨H3, I3, q3⟩ => ?_))))
 exact wpAny_release ⟨σ, H3, I3, q3⟩
noncomputable def tAsg (te : TE) (g : TG) : TS := fun D σ H => te σ H fun x H1 => g x σ H1 D.nx
theorem ps_asg {tg e : Expr} {te : TE} {g : TG} (he : PE X e te) (hg : PG X tg g) (hs : swapsWithSole [tg] e pos.line X.env = pure false := by rfl) (hw : swappedStores [tg] e X.env = pure none := by rfl)
  (h1 : (assignEach [tg] X.env).map (·.2) = [assign tg X.env] := by rfl) : PS X (.Assign [tg] e pos) (tAsg te g) := by
 intro pins s σ H D I h
 refine wpAny_Assign_stores (thn (he pins s σ H _ I h) fun v s1 ⟨x, H1, I1, r1, q1⟩ => ?_) hs hw
 rw [h1]
 exact thn (hg pins s1 σ H1 x v _ I1 r1 q1) fun _ s2 q => q
theorem ps_set {i : Nat} {x : Str} {e : Expr} {te : TE} {pos' : Pos} (hN : X.N.Nodup) (hi : X.N[i]? = some x) (hx : Loc X.env.scope x) (he : PE X e te) (hs : swapsWith e (some (.Name x pos')) pos.line X.env = pure false := by rfl) (hf : X.fn x = true ∨ X.env.scope.names.lookup x = some .local := by first | exact .inl rfl | exact .inr rfl | assumption) :
  PS X (.Assign [.Name x pos'] e pos) (tAsg te (gName i)) := by
 intro pins s σ H D I h
 refine wpAny_Assign_Name (thn (he pins s σ H _ I h) fun v s1 ⟨y, H1, I1, r1, q1⟩ => ?_) hs
 exact store_ok I1 hN hi hx r1 (fun s2 I2 => ⟨_, H1, I2, q1⟩) hf
end
structure It where
 go : Nat → Hp → Prop
 yld : Nat → Hp → V → Hp → Prop
 stop : Nat → Hp → Prop
noncomputable def FpOk (X : Cx) (pins : List (Addr × Obj)) (H : Hp) (b : Addr) : Prop :=
 H b = none ∧ b ≠ X.env.locals ∧ b ∉ X.fs ∧ (b ∈ X.ex ∨ X.s₀.heap.objs.size ≤ b) ∧ (∀ x c, X.env.cells.lookup x = some c → c ≠ b) ∧ ∀ p ∈ X.pn ++ pins, p.1 ≠ b
theorem Inv.fpOk {X : Cx} {pins : List (Addr × Obj)} {σ : St} {H H' : Hp} {s : Shared} {b : Addr} (I : Inv X pins σ H s) (hb : s.heap.objs.size ≤ b) (hn : H' b = none) : FpOk X pins H' b := by
 refine ⟨hn, Nat.ne_of_gt (Nat.lt_of_lt_of_le I.lt hb), I.nofs hb, .inr (Nat.le_trans I.sz hb), fun x c e z => ?_, fun p hp z => ?_⟩
 ·obtain ⟨v, q⟩ := I.cell x c e
  exact absurd (Nat.lt_of_lt_of_le q.lt (by rw [z]; exact hb)) (Nat.lt_irrefl _)
 ·exact absurd (Nat.lt_of_lt_of_le (Heap.lt_size (I.pin p hp).1) (by rw [z]; exact hb)) (Nat.lt_irrefl _)
structure Turn (P : Program) (w : World) (K : PySem.W.Frag) (tg : Expr) (J : It) (fp : List Addr) (it : Addr) (tn : Nat → Heap → Prop) : Prop where
 mem : it ∈ fp
 obj : ∀ i h, tn i h → ∀ b ∈ fp, ∃ o, h.get? b = some o ∧ ∀ v, o.data ≠ .cell v
 keep : ∀ i h h', tn i h → (∀ b ∈ fp, ∀ o, h.get? b = some o → h'.get? b = some o) → tn i h'
 item : ∀ (X : Cx), X.prog = P → X.w = w → X.K = K → X.calm = true → ∀ (i : Nat) (pins : List (Addr × Obj)) (s : Shared) (σ : St) (H : Hp) (E : Value → Shared → Prop), Inv X pins σ H s → (∀ b ∈ fp, FpOk X pins H b) → tn i s.heap → J.go i H →
  wpAny (model P w) X.A (pyNext (.ref it)) (fun r s1 => ∃ u, r = some u ∧
   wpAny (model P w) X.A (letOwnedTupleGo tg (.ref it) u) (fun _ s2 => ∃ x H', Inv X pins σ H' s2 ∧ RelV x u ∧ J.yld i H x H' ∧ tn (i + 1) s2.heap ∧ ∀ b ∈ fp, H' b = none) E s1) E s
 done : ∀ (X : Cx), X.prog = P → X.w = w → X.K = K → X.calm = true → ∀ (i : Nat) (pins : List (Addr × Obj)) (s : Shared) (σ : St) (H : Hp) (E : Value → Shared → Prop), Inv X pins σ H s → (∀ b ∈ fp, FpOk X pins H b) → tn i s.heap → J.stop i H →
  wpAny (model P w) X.A (pyNext (.ref it)) (fun r s1 => r = none ∧ Inv X pins σ H s1) E s
 self : ∀ (A : Around) (i : Nat) (s : Shared) (Q : Value → Shared → Prop) (E : Value → Shared → Prop), tn i s.heap → Q (.ref it) s → wpAny (model P w) A (pyIter (.ref it)) Q E s
noncomputable abbrev TI := St → Hp → (It → Hp → Prop) → Prop
noncomputable def PIE (X : Cx) (pins : List (Addr × Obj)) (σ : St) (tg : Expr) (R : It → Hp → Prop) (itv : Value) (s2 : Shared) : Prop :=
 ∃ (it : Addr) (fp : List Addr) (tn : Nat → Heap → Prop) (J : It) (H' : Hp), itv = .ref it ∧ Inv X pins σ H' s2 ∧ Turn X.prog X.w X.K tg J fp it tn ∧ tn 0 s2.heap ∧ (∀ b ∈ fp, FpOk X pins H' b) ∧ R J H'
noncomputable def PI (X : Cx) (tg iter : Expr) (wi : TI) : Prop :=
 ∀ (pins : List (Addr × Obj)) (s : Shared) (σ : St) (H : Hp) (R : It → Hp → Prop), Inv X pins σ H s → wi σ H R →
  wpAny (model X.prog X.w) X.A (eval iter X.env) (fun v s1 => wpAny (model X.prog X.w) X.A (pyIter v) (PIE X pins σ tg R) X.xe s1) X.xe s
theorem go_of {M : Model} {A : Around} {E : Value → Shared → Prop} {s : Shared} {tg : Expr} {it : Addr} {u : Value} {o : Obj} {n : String} {vs : Array Value} {Q : Unit → Shared → Prop} (ho : s.heap.get? it = some o) (hc : o.cls = .type n) (hd : o.data = .fields vs)
    (hn : ["enumerate", "zip", "dict_itemiterator", "dict_reverseitemiterator", "odict_iterator", "itertools.zip_longest", "itertools.pairwise"].contains n = false) (hQ : Q () s) : wpAny M A (letOwnedTupleGo tg (.ref it) u) Q E s := by
  unfold letOwnedTupleGo
  cases tg <;> first
    | exact wpAny_pure hQ
    | (cases u <;> first
        | exact wpAny_pure hQ
        | (refine wpAny_bind (wpAny_load ho ?_)
           rw [hc, hd]
           show wpAny M A (if (["enumerate", "zip", "dict_itemiterator", "dict_reverseitemiterator", "odict_iterator", "itertools.zip_longest", "itertools.pairwise"].contains n && vs[0]? == some (rawInt _)) = true then _ else _) Q E s
           rw [if_neg (by intro h; rw [hn, Bool.false_and] at h; cases h)]
           exact wpAny_pure hQ))
noncomputable def Itl (K : PySem.W.Frag) (a : Addr) : It :=
 ⟨fun i H => ∃ xs x, SqL K H a xs ∧ xs[i]? = some x, fun i H x H' => H' = H ∧ ∀ xs, SqL K H a xs → xs[i]? = some x, fun i H => ∃ xs, SqL K H a xs ∧ xs.length ≤ i⟩
noncomputable def Itt (K : PySem.W.Frag) (a : Addr) : It :=
 ⟨fun i H => ∃ xs x, SqT K H a xs ∧ xs[i]? = some x, fun i H x H' => H' = H ∧ ∀ xs, SqT K H a xs → xs[i]? = some x, fun i H => ∃ xs, SqT K H a xs ∧ xs.length ≤ i⟩
noncomputable def Itr (lo : Int) (n : Nat) : It := ⟨fun i _ => i < n, fun i H x H' => H' = H ∧ x = .int (lo + i), fun i _ => n ≤ i⟩
theorem turn_list {P : Program} {w : World} {K : PySem.W.Frag} {tg : Expr} (a it : Addr) : Turn P w K tg (Itl K a) [it] it (fun i h => h.IsListIter it a i) where
 mem := by simp
 obj := fun i h st b hb => by
  have e : b = it := by simpa using hb
  subst e
  obtain ⟨o, e, c, d⟩ := st
  exact ⟨o, e, fun v z => by rw [d] at z; cases z⟩
 keep := fun i h h' st k => st.at fun o e => k it (by simp) o e
 item := by
  intro X hP hw hK hc i pins s σ H E I hf st hg
  subst hP hw hK
  obtain ⟨xs, x, hq, hx⟩ := hg
  obtain ⟨its, rv, p, hz⟩ := I.list hq
  obtain ⟨u, hu, ru⟩ := rv.get hx
  obtain ⟨f0, f1, f2, f3, f4, f5⟩ := hf it (by simp)
  refine wpAny_pyNext_list_item st p.isList (x := u) (by simpa using hu) fun h' st' sb => ?_
  have I1 : Inv X pins σ H { s with heap := h' } := I.turned (t' := s.toks) (fun b o hb e => (sb.2 b hb).trans e) f0 f1 f3 f4 f5
  obtain ⟨o, e, c, d⟩ := id st'
  exact ⟨u, rfl, go_of (s := { s with heap := h' }) e c d (by decide) ⟨x, H, I1, ru, ⟨rfl, fun ys hy => by rw [I.list_inj hy hq]; exact hx⟩, st', fun b hb => (hf b hb).1⟩⟩
 done := by
  intro X hP hw hK hc i pins s σ H E I hf st hg
  subst hP hw hK
  obtain ⟨xs, hq, hx⟩ := hg
  obtain ⟨its, rv, p, hz⟩ := I.list hq
  obtain ⟨f0, f1, f2, f3, f4, f5⟩ := hf it (by simp)
  have hl := rv.length
  exact wpAny_pyNext_list_end (I.ok.hd hc) st p.isList (by simp; lia) fun h' eb => ⟨rfl, I.turned (t' := s.toks) (fun b o hb e => eb b o hb e) f0 f1 f3 f4 f5⟩
 self := fun _ _ _ _ _ st h => wpAny_pyIter_listiter st h
theorem turn_tuple {P : Program} {w : World} {K : PySem.W.Frag} {tg : Expr} (a it : Addr) : Turn P w K tg (Itt K a) [it] it (fun i h => h.IsTupleIter it a i) where
 mem := by simp
 obj := fun i h st b hb => by
  have e : b = it := by simpa using hb
  subst e
  obtain ⟨o, e, c, d⟩ := st
  exact ⟨o, e, fun v z => by rw [d] at z; cases z⟩
 keep := fun i h h' st k => st.at fun o e => k it (by simp) o e
 item := by
  intro X hP hw hK hc i pins s σ H E I hf st hg
  subst hP hw hK
  obtain ⟨xs, x, hq, hx⟩ := hg
  obtain ⟨its, rv, p, hz⟩ := I.tuple hq
  obtain ⟨u, hu, ru⟩ := rv.get hx
  obtain ⟨f0, f1, f2, f3, f4, f5⟩ := hf it (by simp)
  refine wpAny_pyNext_tuple_item st (show s.heap.IsTuple a its.toArray from p) (x := u) (by simpa using hu) fun h' st' sb => ?_
  have I1 : Inv X pins σ H { s with heap := h' } := I.turned (t' := s.toks) (fun b o hb e => (sb.2 b hb).trans e) f0 f1 f3 f4 f5
  obtain ⟨o, e, c, d⟩ := id st'
  exact ⟨u, rfl, go_of (s := { s with heap := h' }) e c d (by decide) ⟨x, H, I1, ru, ⟨rfl, fun ys hy => by rw [I.tuple_inj hy hq]; exact hx⟩, st', fun b hb => (hf b hb).1⟩⟩
 done := by
  intro X hP hw hK hc i pins s σ H E I hf st hg
  subst hP hw hK
  obtain ⟨xs, hq, hx⟩ := hg
  obtain ⟨its, rv, p, hz⟩ := I.tuple hq
  obtain ⟨f0, f1, f2, f3, f4, f5⟩ := hf it (by simp)
  have hl := rv.length
  exact wpAny_pyNext_tuple_end (I.ok.hd hc) st (show s.heap.IsTuple a its.toArray from p) (by simp; lia) fun h' eb => ⟨rfl, I.turned (t' := s.toks) (fun b o hb e => eb b o hb e) f0 f1 f3 f4 f5⟩
 self := fun _ _ _ _ _ st h => wpAny_pyIter_tupleiter st h
theorem turn_range {P : Program} {w : World} {K : PySem.W.Frag} {tg : Expr} (it : Addr) (lo : Int) (n : Nat) : Turn P w K tg (Itr lo n) [it] it (fun i h => IsRangeIter h it (lo + (i : Nat) * 1) ((n : Int) - (i : Nat)) 1) where
 mem := by simp
 obj := fun i h st b hb => by
  have e : b = it := by simpa using hb
  subst e
  exact ⟨_, st, fun v z => by
   have z' : Data.fields _ = Data.cell v := z
   cases z'⟩
 keep := fun i h h' st k => k it (by simp) _ st
 item := by
  intro X hP hw hK hc i pins s σ H E I hf st hg
  subst hP hw hK
  obtain ⟨f0, f1, f2, f3, f4, f5⟩ := hf it (by simp)
  have W := Walks.range (prog := X.prog) (w := X.w) (I.ok.hd hc) it lo 1 n
  refine W.item i s _ _ hg st fun v h' tk hv st' kk => ?_
  obtain ⟨t, rfl⟩ := hv
  have I1 : Inv X pins σ H { s with heap := h', toks := tk } := I.turned (fun b o hb e => kk b o (by simpa using hb) e) f0 f1 f3 f4 f5
  refine ⟨_, rfl, go_of (s := { s with heap := h', toks := tk }) (n := "range_iterator") st' rfl rfl (by decide) ⟨.int (lo + i), H, I1, ⟨t, ?_⟩, ⟨rfl, rfl⟩, st', fun b hb => (hf b hb).1⟩⟩
  rw [Int.mul_one]
 done := by
  intro X hP hw hK hc i pins s σ H E I hf st hg
  subst hP hw hK
  obtain ⟨f0, f1, f2, f3, f4, f5⟩ := hf it (by simp)
  exact wpAny_pyNext_range_end (I.ok.hd hc) st (by have : n ≤ i := hg; lia) fun h' eb => ⟨rfl, I.turned (t' := s.toks) (fun b o hb e => eb b o hb e) f0 f1 f3 f4 f5⟩
 self := fun _ _ _ _ _ st h => wpAny_pyIter_rangeiter st h
end L2
namespace L2
open PySem PySem.Spec PyProof.Rows
section
variable {X : Cx} {tg : Expr}
noncomputable def iList (K : PySem.W.Frag) (tl : TE) : TI := fun σ H R => tl σ H fun x H1 => ∃ a, x = .ref a ∧ (∃ xs, SqL K H1 a xs) ∧ R (Itl K a) H1
noncomputable def iTup (K : PySem.W.Frag) (tl : TE) : TI := fun σ H R => tl σ H fun x H1 => ∃ a, x = .ref a ∧ (∃ xs, SqT K H1 a xs) ∧ R (Itt K a) H1
theorem pi_list {l : Expr} {tl : TE} (hl : PE X l tl) : PI X tg l (iList X.K tl) := by
 intro pins s σ H R I h
 refine thn (hl pins s σ H _ I h) fun v s1 ⟨x, H1, I1, r1, q1⟩ => ?_
 obtain ⟨a, e, ⟨xs, hq⟩, q⟩ := q1
 subst e
 cases r1
 obtain ⟨its, rv, p, hz⟩ := I1.list hq
 refine wpAny_pyIter_list p.isList ?_
 refine ⟨s1.heap.objs.size, [s1.heap.objs.size], _, _, H1, rfl, I1.kept (t' := s1.toks) fun b o e => Heap.get?_push_of_some _ e, turn_list a _, ⟨_, Heap.get?_push_size _ rfl, rfl, rfl⟩, fun b hb => ?_, q⟩
 have e : b = s1.heap.objs.size := by simpa using hb
 subst e
 exact I1.fpOk (Nat.le_refl _) (I1.hok.fresh (Nat.le_refl _))
theorem pi_tup {l : Expr} {tl : TE} (hl : PE X l tl) : PI X tg l (iTup X.K tl) := by
 intro pins s σ H R I h
 refine thn (hl pins s σ H _ I h) fun v s1 ⟨x, H1, I1, r1, q1⟩ => ?_
 obtain ⟨a, e, ⟨xs, hq⟩, q⟩ := q1
 subst e
 cases r1
 obtain ⟨its, rv, p, hz⟩ := I1.tuple hq
 refine wpAny_pyIter_tuple (show s1.heap.IsTuple a its.toArray from p) ?_
 refine ⟨s1.heap.objs.size, [s1.heap.objs.size], _, _, H1, rfl, I1.kept (t' := s1.toks) fun b o e => Heap.get?_push_of_some _ e, turn_tuple a _, ⟨_, Heap.get?_push_size _ rfl, rfl, rfl⟩, fun b hb => ?_, q⟩
 have e : b = s1.heap.objs.size := by simpa using hb
 subst e
 exact I1.fpOk (Nat.le_refl _) (I1.hok.fresh (Nat.le_refl _))
theorem range_it {pins : List (Addr × Obj)} {σ : St} {H : Hp} {s : Shared} {R : It → Hp → Prop} {E : Value → Shared → Prop} {lo hi : Int} {t u v : Tok} {tk : Nat} (I : Inv X pins σ H s) (h1 : -(2 ^ 62) ≤ lo) (h2 : lo < 2 ^ 62) (h3 : -(2 ^ 62) ≤ hi) (h4 : hi < 2 ^ 62)
  (q : R (Itr lo (hi - lo).toNat) H) : wpAny (model X.prog X.w) X.A (pyIter (.ref s.heap.objs.size)) (PIE X pins σ tg R) E { s with heap := s.heap.push { cls := .type "range", data := .fields #[.int lo t, .int hi u, .int 1 v] }, toks := tk } := by
 refine wpAny_pyIter_range (IsRange.new ..) (small_one h1 h2 h3 h4) ?_
 have I1 : Inv X pins σ H { s with heap := s.heap.push { cls := .type "range", data := .fields #[.int lo t, .int hi u, .int 1 v] }, toks := tk } := I.kept fun b o e => Heap.get?_push_of_some _ e
 refine ⟨(s.heap.push { cls := .type "range", data := .fields #[.int lo t, .int hi u, .int 1 v] }).objs.size, [(s.heap.push { cls := .type "range", data := .fields #[.int lo t, .int hi u, .int 1 v] }).objs.size], _, _, H, rfl,
  I1.kept (t' := tk) fun b o e => Heap.get?_push_of_some _ e, turn_range _ lo (hi - lo).toNat, ?_, fun b hb => ?_, q⟩
 ·have e1 : lo + ((0 : Nat) : Int) * 1 = lo := by simp
  have e2 : (((hi - lo).toNat : Nat) : Int) - ((0 : Nat) : Int) = Builtin.Range.rangeSize lo hi 1 := by rw [rangeSize_one]; split <;> lia
  show IsRangeIter _ _ (lo + ((0 : Nat) : Int) * 1) ((((hi - lo).toNat : Nat) : Int) - ((0 : Nat) : Int)) 1
  rw [e1, e2]
  exact Heap.get?_push_size _ rfl
 ·have e : b = (s.heap.push { cls := .type "range", data := .fields #[.int lo t, .int hi u, .int 1 v] }).objs.size := by simpa using hb
  subst e
  exact I1.fpOk (Nat.le_refl _) (I1.hok.fresh (Nat.le_refl _))
noncomputable def iRng1 (ta : TA) : TI := fun σ H R => ta σ H fun vs H1 => ∃ j : Int, vs = [.int j] ∧ -(2 ^ 62) ≤ j ∧ j < 2 ^ 62 ∧ R (Itr 0 j.toNat) H1
theorem pi_range1 {a : Expr} {ta : TA} {p pos : Pos} (hg : Gl X "range") (hm : X.mg "range" = none) (ha : PA X [a] ta) (hs : starEach [a] X.env = [(false, eval a X.env)] := by rfl) : PI X tg (.Call (.Name "range" p) [a] [] pos) (iRng1 ta) := by
 intro pins s σ H R I h
 refine Call_ (ld_blt I hg hm boot_range (PyProof.Rows.callWith_type1 (thn (ha pos pins s σ H _ I h) fun us s1 ⟨vs, H1, I1, r1, q1⟩ => ?_) hs rfl))
 obtain ⟨j, e, q1, q2, q⟩ := q1
 subst e
 cases r1 with
 | cons r rr =>
  cases rr
  obtain ⟨t, rfl⟩ := r
  exact call_range_1 (range_it I1 (by lia) (by lia) q1 q2 (by simpa using q))
noncomputable def tFor (wi : TI) (g : TG) (tb : TS) : TS := fun D σ H => wi σ H fun J H1 => ∃ W : Nat → Nat → St → Hp → Prop, (∃ m, W 0 m σ H1) ∧ ∀ i m σ H, W i m σ H →
 (J.stop i H ∧ D.nx σ H) ∨ (J.go i H ∧ ∃ N : St → Hp → Prop, (∀ σ' H', N σ' H' → ∃ m', m' < m ∧ W (i + 1) m' σ' H') ∧ ∀ x H', J.yld i H x H' → g x σ H' fun σ2 H2 => tb { D with nx := N, ct := N, bk := D.nx } σ2 H2)
noncomputable def pinsAt (fp : List Addr) (h : Heap) : List (Addr × Obj) := fp.filterMap fun b => (h.get? b).map fun o => (b, o)
theorem mem_pinsAt {fp : List Addr} {h : Heap} {b : Addr} {o : Obj} (hb : b ∈ fp) (e : h.get? b = some o) : (b, o) ∈ pinsAt fp h := List.mem_filterMap.mpr ⟨b, hb, by rw [e]; rfl⟩
theorem of_pinsAt {fp : List Addr} {h : Heap} {p : Addr × Obj} (hp : p ∈ pinsAt fp h) : p.1 ∈ fp ∧ h.get? p.1 = some p.2 := by
 obtain ⟨b, hb, e⟩ := List.mem_filterMap.mp hp
 cases q : h.get? b with
 | none => rw [q] at e; cases e
 | some o =>
  rw [q] at e
  have e' : (b, o) = p := Option.some.inj e
  subst e'
  exact ⟨hb, q⟩
theorem Inv.pinned {pins : List (Addr × Obj)} {σ : St} {H : Hp} {s : Shared} {fp : List Addr} (I : Inv X pins σ H s) (hf : ∀ b ∈ fp, FpOk X pins H b) (ho : ∀ b ∈ fp, ∃ o, s.heap.get? b = some o ∧ ∀ v, o.data ≠ .cell v) : Inv X (pins ++ pinsAt fp s.heap) σ H s :=
 I.pins_of fun p hp => (List.mem_append.mp hp).elim (fun z => I.pin p (List.mem_append_right _ z)) fun z => by
  obtain ⟨hb, e⟩ := of_pinsAt z
  obtain ⟨f0, f1, f2, _⟩ := hf p.1 hb
  obtain ⟨o, e', d⟩ := ho p.1 hb
  rw [e] at e'; cases e'
  exact ⟨e, f0, f1, f2, d⟩
theorem Inv.unpinned {pins pl : List (Addr × Obj)} {σ : St} {H : Hp} {s : Shared} (I : Inv X (pins ++ pl) σ H s) : Inv X pins σ H s := I.pins_of fun p hp => I.pin p (List.mem_append_right _ (List.mem_append_left _ hp))
theorem ps_for {iter : Expr} {body : List Stmt} {wi : TI} {g : TG} {tb : TS} {pos : Pos} (hp : PassesOwn (model X.prog X.w) X.A X.env X.xe) (hc : X.calm = true) (hi : PI X tg iter wi) (hg : PG X tg g) (hb : PSs X body tb)
  (hs : ∀ x, foldedSetIterable iter X.env x = pure x := by intro _; rfl) : PS X (.For tg iter body [] pos) (tFor wi g tb) := by
 intro pins s σ H D I h
 refine wpAny_For (thn (hi pins s σ H _ I h) fun v s1 h1 => thn h1 fun itv s2 h2 => ?_) hs
 obtain ⟨it, fp, tn, J, H2, e, I2, T, st2, f2, W, ⟨m0, w0⟩, turn⟩ := h2
 subst e
 have stat : ∀ {H' : Hp}, (∀ b ∈ fp, H' b = none) → ∀ b ∈ fp, FpOk X pins H' b := fun hn b hb => ⟨hn b hb, (f2 b hb).2⟩
 refine codeAny_forLoop_any (fun n s' => ∃ i σ' H', Inv X pins σ' H' s' ∧ tn i s'.heap ∧ (∀ b ∈ fp, H' b = none) ∧ W i n σ' H') ?_ m0 ⟨0, σ, H2, I2, st2, fun b hb => (f2 b hb).1, w0⟩
 rintro n s3 ⟨i, σ3, H3, I3, st3, fr3, w3⟩
 rcases turn i n σ3 H3 w3 with ⟨stop, qn⟩ | ⟨go, N, hN, step⟩
 ·refine wpAny_passesOwn hp (thn (T.done X rfl rfl rfl hc i pins s3 σ3 H3 X.xe I3 (stat fr3) st3 stop) fun r s4 ⟨hr, I4⟩ => ?_)
  subst hr
  exact wpAny_execs_nil ⟨σ3, H3, I4, qn⟩
 ·refine wpAny_passesOwn hp (thn (T.item X rfl rfl rfl hc i pins s3 σ3 H3 X.xe I3 (stat fr3) st3 go) fun r s4 ⟨u, hr, h4⟩ => ?_)
  subst hr
  refine wpAny_passesOwn hp (thn h4 fun _ s5 ⟨x, H5, I5, r5, y5, st5, fr5⟩ => ?_)
  have I5' := I5.pinned (stat fr5) (T.obj _ _ st5)
  refine wpAny_passesOwn hp (thn (hg _ s5 σ3 H5 x u _ I5' r5 (step x H5 y5)) fun _ s6 ⟨σ6, H6, I6, q6⟩ => ?_)
  refine wpAny_passesOwn hp (thn (hb _ s6 σ6 H6 _ I6 q6) fun f s7 q7 => ?_)
  have again : ∀ {σ7 : St} {H7 : Hp}, Inv X (pins ++ pinsAt fp s5.heap) σ7 H7 s7 → N σ7 H7 → ∃ m, m < n ∧ ∃ i σ' H', Inv X pins σ' H' s7 ∧ tn i s7.heap ∧ (∀ b ∈ fp, H' b = none) ∧ W i m σ' H' := fun {σ7 H7} I7 n7 => by
   obtain ⟨m', hm, w7⟩ := hN σ7 H7 n7
   refine ⟨m', hm, i + 1, σ7, H7, I7.unpinned, T.keep _ _ _ st5 fun b hb o e => (I7.pin (b, o) (List.mem_append_right _ (List.mem_append_right _ (mem_pinsAt hb e)))).1, fun b hb => ?_, w7⟩
   obtain ⟨o, e, d⟩ := T.obj _ _ st5 b hb
   exact (I7.pin (b, o) (List.mem_append_right _ (List.mem_append_right _ (mem_pinsAt hb e)))).2.1
  cases f with
  | next => obtain ⟨σ7, H7, I7, n7⟩ := q7; exact again I7 n7
  | cont => obtain ⟨σ7, H7, I7, n7⟩ := q7; exact again I7 n7
  | brk => obtain ⟨σ7, H7, I7, q7⟩ := q7; exact ⟨σ7, H7, I7.unpinned, q7⟩
  | ret v => obtain ⟨x7, σ7, H7, I7, r7, q7⟩ := q7; exact ⟨x7, σ7, H7, I7.unpinned, r7, q7⟩
end
theorem for_list {K : PySem.W.Frag} {a : Addr} {xs : List V} {g : TG} {tb : TS} {D : Ends} {σ : St} {H : Hp} (Pv : Nat → St → Hp → Prop) (h0 : Pv 0 σ H) (hl : ∀ i σ H, i ≤ xs.length → Pv i σ H → SqL K H a xs)
  (hs : ∀ i x σ H, xs[i]? = some x → Pv i σ H → g x σ H fun σ2 H2 => tb { D with nx := Pv (i + 1), ct := Pv (i + 1), bk := D.nx } σ2 H2) (hd : ∀ σ H, Pv xs.length σ H → D.nx σ H) :
  ∃ W : Nat → Nat → St → Hp → Prop, (∃ m, W 0 m σ H) ∧ ∀ i m σ H, W i m σ H →
   ((Itl K a).stop i H ∧ D.nx σ H) ∨ ((Itl K a).go i H ∧ ∃ N : St → Hp → Prop, (∀ σ' H', N σ' H' → ∃ m', m' < m ∧ W (i + 1) m' σ' H') ∧ ∀ x H', (Itl K a).yld i H x H' → g x σ H' fun σ2 H2 => tb { D with nx := N, ct := N, bk := D.nx } σ2 H2) := by
 refine ⟨fun i m σ H => m = xs.length - i ∧ i ≤ xs.length ∧ Pv i σ H, ⟨xs.length, by simp, Nat.zero_le _, h0⟩, ?_⟩
 rintro i m σ H ⟨rfl, hi, p⟩
 have q := hl i σ H hi p
 by_cases hlt : i < xs.length
 ·refine .inr ⟨⟨xs, xs[i], q, by simp [hlt]⟩, Pv (i + 1), fun σ' H' p' => ⟨xs.length - (i + 1), by lia, rfl, hlt, p'⟩, fun x H' y => ?_⟩
  obtain ⟨e, y⟩ := y
  subst e
  exact hs i x σ _ (y xs q) p
 ·have e : i = xs.length := by lia
  subst e
  exact .inl ⟨⟨xs, q, Nat.le_refl _⟩, hd σ H p⟩
theorem for_tup {K : PySem.W.Frag} {a : Addr} {xs : List V} {g : TG} {tb : TS} {D : Ends} {σ : St} {H : Hp} (Pv : Nat → St → Hp → Prop) (h0 : Pv 0 σ H) (hl : ∀ i σ H, i ≤ xs.length → Pv i σ H → SqT K H a xs)
  (hs : ∀ i x σ H, xs[i]? = some x → Pv i σ H → g x σ H fun σ2 H2 => tb { D with nx := Pv (i + 1), ct := Pv (i + 1), bk := D.nx } σ2 H2) (hd : ∀ σ H, Pv xs.length σ H → D.nx σ H) :
  ∃ W : Nat → Nat → St → Hp → Prop, (∃ m, W 0 m σ H) ∧ ∀ i m σ H, W i m σ H →
   ((Itt K a).stop i H ∧ D.nx σ H) ∨ ((Itt K a).go i H ∧ ∃ N : St → Hp → Prop, (∀ σ' H', N σ' H' → ∃ m', m' < m ∧ W (i + 1) m' σ' H') ∧ ∀ x H', (Itt K a).yld i H x H' → g x σ H' fun σ2 H2 => tb { D with nx := N, ct := N, bk := D.nx } σ2 H2) := by
 refine ⟨fun i m σ H => m = xs.length - i ∧ i ≤ xs.length ∧ Pv i σ H, ⟨xs.length, by simp, Nat.zero_le _, h0⟩, ?_⟩
 rintro i m σ H ⟨rfl, hi, p⟩
 have q := hl i σ H hi p
 by_cases hlt : i < xs.length
 ·refine .inr ⟨⟨xs, xs[i], q, by simp [hlt]⟩, Pv (i + 1), fun σ' H' p' => ⟨xs.length - (i + 1), by lia, rfl, hlt, p'⟩, fun x H' y => ?_⟩
  obtain ⟨e, y⟩ := y
  subst e
  exact hs i x σ _ (y xs q) p
 ·have e : i = xs.length := by lia
  subst e
  exact .inl ⟨⟨xs, q, Nat.le_refl _⟩, hd σ H p⟩
theorem for_range {lo : Int} {n : Nat} {g : TG} {tb : TS} {D : Ends} {σ : St} {H : Hp} (Pv : Nat → St → Hp → Prop) (h0 : Pv 0 σ H)
  (hs : ∀ i σ H, i < n → Pv i σ H → g (.int (lo + i)) σ H fun σ2 H2 => tb { D with nx := Pv (i + 1), ct := Pv (i + 1), bk := D.nx } σ2 H2) (hd : ∀ σ H, Pv n σ H → D.nx σ H) :
  ∃ W : Nat → Nat → St → Hp → Prop, (∃ m, W 0 m σ H) ∧ ∀ i m σ H, W i m σ H →
   ((Itr lo n).stop i H ∧ D.nx σ H) ∨ ((Itr lo n).go i H ∧ ∃ N : St → Hp → Prop, (∀ σ' H', N σ' H' → ∃ m', m' < m ∧ W (i + 1) m' σ' H') ∧ ∀ x H', (Itr lo n).yld i H x H' → g x σ H' fun σ2 H2 => tb { D with nx := N, ct := N, bk := D.nx } σ2 H2) := by
 refine ⟨fun i m σ H => m = n - i ∧ i ≤ n ∧ Pv i σ H, ⟨n, by simp, Nat.zero_le _, h0⟩, ?_⟩
 rintro i m σ H ⟨rfl, hi, p⟩
 by_cases hlt : i < n
 ·refine .inr ⟨hlt, Pv (i + 1), fun σ' H' p' => ⟨n - (i + 1), by lia, rfl, hlt, p'⟩, fun x H' y => ?_⟩
  obtain ⟨e, y⟩ := y
  subst e y
  exact hs i σ _ hlt p
 ·have e : i = n := by lia
  subst e
  exact .inl ⟨Nat.le_refl _, hd σ H p⟩
end L2
namespace L2
open PySem PySem.Spec PyProof.Rows
noncomputable abbrev R2 := V → V → Hp → VK → Prop
noncomputable def OpR (X : Cx) (f : Value → Value → Sem Value) (r : R2) : Prop :=
 ∀ (pins : List (Addr × Obj)) (s : Shared) (σ : St) (H : Hp) (x y : V) (v u : Value) (Q : VK), Inv X pins σ H s → RelV x v → RelV y u → r x y H Q →
  wpAny (model X.prog X.w) X.A (f v u) (EP X pins σ Q) X.xe s
noncomputable def UnR (X : Cx) (f : Value → Sem Value) (r : V → Hp → VK → Prop) : Prop :=
 ∀ (pins : List (Addr × Obj)) (s : Shared) (σ : St) (H : Hp) (x : V) (v : Value) (Q : VK), Inv X pins σ H s → RelV x v → r x H Q →
  wpAny (model X.prog X.w) X.A (f v) (EP X pins σ Q) X.xe s
noncomputable def CallR (X : Cx) (f : Value) (r : List V → Hp → VK → Prop) : Prop :=
 ∀ (pins : List (Addr × Obj)) (s : Shared) (σ : St) (H : Hp) (xs : List V) (us : List Value) (Q : VK), Inv X pins σ H s → Vals xs us → r xs H Q →
  wpAny (model X.prog X.w) X.A (call f us) (EP X pins σ Q) X.xe s
noncomputable def TruR (X : Cx) (r : V → Hp → (Bool → Hp → Prop) → Prop) : Prop :=
 ∀ (pins : List (Addr × Obj)) (s : Shared) (σ : St) (H : Hp) (x : V) (v : Value) (Q : Bool → Hp → Prop), Inv X pins σ H s → RelV x v → r x H Q →
  wpAny (model X.prog X.w) X.A (truthy v) (TP X pins σ Q) X.xe s
noncomputable def tOp (r : R2) (ta tb : TE) : TE := fun σ H Q => ta σ H fun x H1 => tb σ H1 fun y H2 => r x y H2 Q
noncomputable def tUn (r : V → Hp → VK → Prop) (ta : TE) : TE := fun σ H Q => ta σ H fun x H1 => r x H1 Q
noncomputable def rI (C : Int → Int → Prop) (g : Int → Int → V) : R2 := fun x y H Q => ∃ i j, x = .int i ∧ y = .int j ∧ C i j ∧ Q (g i j) H
noncomputable def rI0 (g : Int → Int → V) : R2 := fun x y H Q => ∃ i j, x = .int i ∧ y = .int j ∧ Q (g i j) H
noncomputable def rU (g : Int → V) : V → Hp → VK → Prop := fun x H Q => ∃ i, x = .int i ∧ Q (g i) H
section
variable {X : Cx} {a b c : Expr} {ta tb tc : TE} {pos : Pos}
theorem binT (ha : PE X a ta) (hb : PE X b tb) {pins : List (Addr × Obj)} {s : Shared} {σ : St} {H : Hp} {R : V → V → Hp → Prop} (I : Inv X pins σ H s)
  (h : ta σ H fun x H1 => tb σ H1 fun y H2 => R x y H2) {Q : Value → Shared → Prop} {f : Value → Value → Sem Value}
  (hf : ∀ v u s2 x y H2, Inv X pins σ H2 s2 → RelV x v → RelV y u → R x y H2 → wpAny (model X.prog X.w) X.A (f v u) Q X.xe s2) :
  wpAny (model X.prog X.w) X.A (eval a X.env) (fun v s₁ => wpAny (model X.prog X.w) X.A (eval b X.env) (fun u s₂ => wpAny (model X.prog X.w) X.A (f v u) Q X.xe s₂) X.xe s₁) X.xe s := by
 refine thn (ha pins s σ H _ I h) fun v s1 ⟨x, H1, I1, r1, q1⟩ => ?_
 refine thn (hb pins s1 σ H1 _ I1 q1) fun u s2 ⟨y, H2, I2, r2, q2⟩ => ?_
 exact hf v u s2 x y H2 I2 r1 r2 q2
theorem pe_op {op : Operator} {r : R2} (ho : OpR X (binaryOp op) r) (ha : PE X a ta) (hb : PE X b tb) : PE X (.BinOp a op b pos) (tOp r ta tb) := by
 intro pins s σ H Q I h
 exact wpAny_BinOp (binT ha hb I h fun v u s2 x y H2 I2 rx ry q => ho pins s2 σ H2 x y v u Q I2 rx ry q)
theorem pe_un {op : UnaryOp} {r : V → Hp → VK → Prop} (ho : UnR X (unaryOp op) r) (ha : PE X a ta) : PE X (.UnaryOp op a pos) (tUn r ta) := by
 intro pins s σ H Q I h
 exact UnaryOp_ (thn (ha pins s σ H _ I h) fun v s1 ⟨x, H1, I1, r1, q1⟩ => ho pins s1 σ H1 x v Q I1 r1 q1)
theorem opI {f : Value → Value → Sem Value} {C : Int → Int → Prop} {g : Int → Int → Int}
  (rule : ∀ (i j : Int) (t u : Tok) (s : Shared) (Q : Value → Shared → Prop) (E : Value → Shared → Prop), C i j → Q (.int (g i j) s.toks) { s with toks := s.toks + 1 } → wpAny (model X.prog X.w) X.A (f (.int i t) (.int j u)) Q E s) :
  OpR X f (rI C fun i j => .int (g i j)) := by
 intro pins s σ H x y v u Q I rx ry h
 obtain ⟨i, j, rfl, rfl, hc, q⟩ := h
 obtain ⟨t, rfl⟩ := rx
 obtain ⟨t', rfl⟩ := ry
 exact rule i j t t' s _ _ hc ⟨.int (g i j), H, I.tok _, ⟨_, rfl⟩, q⟩
theorem opI0 {f : Value → Value → Sem Value} {g : Int → Int → Int}
  (rule : ∀ (i j : Int) (t u : Tok) (s : Shared) (Q : Value → Shared → Prop) (E : Value → Shared → Prop), Q (.int (g i j) s.toks) { s with toks := s.toks + 1 } → wpAny (model X.prog X.w) X.A (f (.int i t) (.int j u)) Q E s) :
  OpR X f (rI0 fun i j => .int (g i j)) := by
 intro pins s σ H x y v u Q I rx ry h
 obtain ⟨i, j, rfl, rfl, q⟩ := h
 obtain ⟨t, rfl⟩ := rx
 obtain ⟨t', rfl⟩ := ry
 exact rule i j t t' s _ _ ⟨.int (g i j), H, I.tok _, ⟨_, rfl⟩, q⟩
theorem opB0 {f : Value → Value → Sem Value} {g : Int → Int → Bool}
  (rule : ∀ (i j : Int) (t u : Tok) (s : Shared) (Q : Value → Shared → Prop) (E : Value → Shared → Prop), Q (.bool (g i j)) s → wpAny (model X.prog X.w) X.A (f (.int i t) (.int j u)) Q E s) :
  OpR X f (rI0 fun i j => .bl (g i j)) := by
 intro pins s σ H x y v u Q I rx ry h
 obtain ⟨i, j, rfl, rfl, q⟩ := h
 obtain ⟨t, rfl⟩ := rx
 obtain ⟨t', rfl⟩ := ry
 exact rule i j t t' s _ _ ⟨.bl (g i j), H, I, rfl, q⟩
noncomputable def CDiv (i j : Int) : Prop := 0 < j ∧ j < 1073741824
noncomputable def CPow (i j : Int) : Prop := 0 ≤ j ∧ j ≤ 1000000 ∧ i.natAbs < 2 ^ 64
noncomputable def CMul (i j : Int) : Prop := (-(2 ^ 64) < i ∧ i < 2 ^ 64) ∨ (-(2 ^ 64) < j ∧ j < 2 ^ 64)
theorem CMul.ok {i j : Int} (h : CMul i j) : IntMulOk i j := by
 rcases h with ⟨h1, h2⟩ | ⟨h1, h2⟩
 ·exact .of_left (intBits_le_64 h1 h2)
 ·exact .of_right (intBits_le_64 h1 h2)
theorem op_add : OpR X (binaryOp .Add) (rI0 fun i j => .int (i + j)) := opI0 fun _ _ _ _ _ _ _ q => add_int q
theorem op_sub : OpR X (binaryOp .Sub) (rI0 fun i j => .int (i - j)) := opI0 fun _ _ _ _ _ _ _ q => sub_int q
theorem op_mul : OpR X (binaryOp .Mult) (rI CMul fun i j => .int (i * j)) := opI fun _ _ _ _ _ _ _ hc q => mul_int q hc.ok
theorem op_fdiv : OpR X (binaryOp .FloorDiv) (rI CDiv fun i j => .int (i / j)) := opI fun i j _ _ _ _ _ hc q => by
 have h1 : (0 : Int) < j := hc.1
 have h2 : j < 1073741824 := hc.2
 exact floordiv_int (by lia) (by rw [Int.fdiv_eq_ediv_of_nonneg i (by lia)]; exact q) (.inl (PyProof.noPylong_small (by lia)))
theorem op_mod : OpR X (binaryOp .Mod) (rI (fun _ j => 0 < j) fun i j => .int (i % j)) := opI fun i j _ _ _ _ _ hc q => by
 have h1 : (0 : Int) < j := hc
 exact mod_int' (by lia) (by rw [Int.fmod_eq_emod_of_nonneg i (by lia)]; exact q)
theorem op_pow : OpR X (binaryOp .Pow) (rI CPow fun i j => .int (i ^ j.toNat)) := opI fun _ _ _ _ _ _ _ hc q => pow_int_small hc.1 hc.2.1 hc.2.2 q
theorem unI {f : Value → Sem Value} {g : Int → Int}
  (rule : ∀ (i : Int) (t : Tok) (s : Shared) (Q : Value → Shared → Prop) (E : Value → Shared → Prop), Q (.int (g i) s.toks) { s with toks := s.toks + 1 } → wpAny (model X.prog X.w) X.A (f (.int i t)) Q E s) :
  UnR X f (rU fun i => .int (g i)) := by
 intro pins s σ H x v Q I rx h
 obtain ⟨i, rfl, q⟩ := h
 obtain ⟨t, rfl⟩ := rx
 exact rule i t s _ _ ⟨.int (g i), H, I.tok _, ⟨_, rfl⟩, q⟩
theorem un_neg : UnR X (unaryOp .USub) (rU fun i => .int (-i)) := unI fun _ _ _ _ _ q => neg_int q
end
noncomputable def scal : V → V → Bool
 | .non, .non => true | .non, .int _ => true | .int _, .non => true | .non, .bl _ => true | .bl _, .non => true | .non, .str _ => true | .str _, .non => true
 | .int _, .int _ => true | .bl _, .bl _ => true | .str _, .str _ => true | .byt _, .byt _ => true
 | .int _, .str _ => true | .str _, .int _ => true | .bl _, .str _ => true | .str _, .bl _ => true
 | _, _ => false
noncomputable def rEq : R2 := fun x y H Q => scal x y = true ∧ Q (.bl (decide (x = y))) H
noncomputable def rNe : R2 := fun x y H Q => scal x y = true ∧ Q (.bl (!decide (x = y))) H
theorem dec_int {i j : Int} : decide (V.int i = V.int j) = (i == j) := by
 rw [Bool.eq_iff_iff]
 simp
theorem dec_bl {i j : Bool} : decide (V.bl i = V.bl j) = (i == j) := by
 rw [Bool.eq_iff_iff]
 simp
theorem dec_str {i j : Str} : decide (V.str i = V.str j) = (i == j) := by
 rw [Bool.eq_iff_iff]
 simp
theorem dec_byt {i j : Array UInt8} : decide (V.byt i = V.byt j) = (i.toList == j.toList) := by
 rw [Bool.eq_iff_iff]
 cases i
 cases j
 simp
section
variable {X : Cx} {a b c : Expr} {ta tb tc : TE} {pos : Pos}
theorem fin_bl {pins : List (Addr × Obj)} {σ : St} {H : Hp} {s : Shared} {Q : VK} {k k' : Bool} (I : Inv X pins σ H s) (q : Q (.bl k) H) (e : k = k') : EP X pins σ Q (.bool k') s := by
 subst e
 exact ⟨.bl k, H, I, rfl, q⟩
theorem op_eq : OpR X (compareOp .Eq) rEq := by
 intro pins s σ H x y v u Q I rx ry h
 obtain ⟨hs, q⟩ := h
 cases x with
 | non =>
  cases rx
  cases y with
  | non => cases ry; exact PySem.EqNone.eq_none_none (fin_bl I q (by simp))
  | bl j => cases ry; exact PySem.EqNone.eq_none_bool (fin_bl I q (by simp))
  | int j => obtain ⟨t', rfl⟩ := ry; exact PySem.EqNone.eq_none_int (fin_bl I q (by simp))
  | str j => obtain ⟨t', rfl⟩ := ry; exact PySem.EqNone.eq_none_str (fin_bl I q (by simp))
  | _ => exact absurd (show false = true from hs) Bool.false_ne_true
 | bl i =>
  cases rx
  cases y with
  | non => cases ry; exact PySem.EqNone.eq_bool_none (fin_bl I q (by simp))
  | bl j => cases ry; exact eq_bool (fin_bl I q dec_bl)
  | str j => obtain ⟨t', rfl⟩ := ry; exact PySem.EqMixed.eq_bool_str (fin_bl I q (by simp))
  | _ => exact absurd (show false = true from hs) Bool.false_ne_true
 | int i =>
  obtain ⟨t, rfl⟩ := rx
  cases y with
  | non => cases ry; exact PySem.EqNone.eq_int_none (fin_bl I q (by simp))
  | int j => obtain ⟨t', rfl⟩ := ry; exact eq_int (fin_bl I q dec_int)
  | str j => obtain ⟨t', rfl⟩ := ry; exact PySem.EqMixed.eq_int_str (fin_bl I q (by simp))
  | _ => exact absurd (show false = true from hs) Bool.false_ne_true
 | str i =>
  obtain ⟨t, rfl⟩ := rx
  cases y with
  | non => cases ry; exact PySem.EqNone.eq_str_none (fin_bl I q (by simp))
  | bl j => cases ry; exact PySem.EqMixed.eq_str_bool (fin_bl I q (by simp))
  | int j => obtain ⟨t', rfl⟩ := ry; exact PySem.EqMixed.eq_str_int (fin_bl I q (by simp))
  | str j => obtain ⟨t', rfl⟩ := ry; exact eq_str (fin_bl I q dec_str)
  | _ => exact absurd (show false = true from hs) Bool.false_ne_true
 | byt i =>
  obtain ⟨t, rfl⟩ := rx
  cases y with
  | byt j => obtain ⟨t', rfl⟩ := ry; exact PySem.W.eq_bytes (fin_bl I q dec_byt)
  | _ => exact absurd (show false = true from hs) Bool.false_ne_true
 | _ => cases y <;> exact absurd (show false = true from hs) Bool.false_ne_true
theorem op_ne : OpR X (compareOp .NotEq) rNe := by
 intro pins s σ H x y v u Q I rx ry h
 obtain ⟨hs, q⟩ := h
 cases x with
 | non =>
  cases rx
  cases y with
  | non => cases ry; exact PySem.EqNone.ne_none_none (fin_bl I q (by simp))
  | bl j => cases ry; exact PySem.EqNone.ne_none_bool (fin_bl I q (by simp))
  | int j => obtain ⟨t', rfl⟩ := ry; exact PySem.EqNone.ne_none_int (fin_bl I q (by simp))
  | str j => obtain ⟨t', rfl⟩ := ry; exact PySem.EqNone.ne_none_str (fin_bl I q (by simp))
  | _ => exact absurd (show false = true from hs) Bool.false_ne_true
 | bl i =>
  cases rx
  cases y with
  | non => cases ry; exact PySem.EqNone.ne_bool_none (fin_bl I q (by simp))
  | bl j => cases ry; exact ne_bool (fin_bl I q (congrArg not dec_bl))
  | str j => obtain ⟨t', rfl⟩ := ry; exact PySem.EqMixed.ne_bool_str (fin_bl I q (by simp))
  | _ => exact absurd (show false = true from hs) Bool.false_ne_true
 | int i =>
  obtain ⟨t, rfl⟩ := rx
  cases y with
  | non => cases ry; exact PySem.EqNone.ne_int_none (fin_bl I q (by simp))
  | int j => obtain ⟨t', rfl⟩ := ry; exact ne_int (fin_bl I q (congrArg not dec_int))
  | str j => obtain ⟨t', rfl⟩ := ry; exact PySem.EqMixed.ne_int_str (fin_bl I q (by simp))
  | _ => exact absurd (show false = true from hs) Bool.false_ne_true
 | str i =>
  obtain ⟨t, rfl⟩ := rx
  cases y with
  | non => cases ry; exact PySem.EqNone.ne_str_none (fin_bl I q (by simp))
  | bl j => cases ry; exact PySem.EqMixed.ne_str_bool (fin_bl I q (by simp))
  | int j => obtain ⟨t', rfl⟩ := ry; exact PySem.EqMixed.ne_str_int (fin_bl I q (by simp))
  | str j => obtain ⟨t', rfl⟩ := ry; exact ne_str (fin_bl I q (congrArg not dec_str))
  | _ => exact absurd (show false = true from hs) Bool.false_ne_true
 | byt i =>
  obtain ⟨t, rfl⟩ := rx
  cases y with
  | byt j => obtain ⟨t', rfl⟩ := ry; exact PySem.W.ne_bytes (fin_bl I q (congrArg not dec_byt))
  | _ => exact absurd (show false = true from hs) Bool.false_ne_true
 | _ => cases y <;> exact absurd (show false = true from hs) Bool.false_ne_true
theorem op_lt : OpR X (compareOp .Lt) (rI0 fun i j => .bl (decide (i < j))) := opB0 fun _ _ _ _ _ _ _ q => lt_int q
theorem op_le : OpR X (compareOp .LtE) (rI0 fun i j => .bl (decide (i ≤ j))) := opB0 fun _ _ _ _ _ _ _ q => le_int q
theorem op_gt : OpR X (compareOp .Gt) (rI0 fun i j => .bl (decide (j < i))) := opB0 fun _ _ _ _ _ _ _ q => gt_int q
theorem op_ge : OpR X (compareOp .GtE) (rI0 fun i j => .bl (decide (j ≤ i))) := opB0 fun _ _ _ _ _ _ _ q => ge_int q
theorem op_isN : OpR X (compareOp .Is) (fun x y H Q => y = .non ∧ Q (.bl (decide (x = .non))) H) := by
 intro pins s σ H x y v u Q I rx ry h
 obtain ⟨rfl, q⟩ := h
 cases ry
 refine is_none_gen (fin_bl I q ?_)
 cases x <;> first
  | (cases rx; rfl)
  | (obtain ⟨t, rfl⟩ := rx; rfl)
theorem op_notN : OpR X (compareOp .IsNot) (fun x y H Q => y = .non ∧ Q (.bl (!decide (x = .non))) H) := by
 intro pins s σ H x y v u Q I rx ry h
 obtain ⟨rfl, q⟩ := h
 cases ry
 refine isnot_none_gen (fin_bl I q ?_)
 cases x <;> first
  | (cases rx; rfl)
  | (obtain ⟨t, rfl⟩ := rx; rfl)
theorem nomark (b : Expr) {op : CmpOp} (h : op ≠ .In := by decide) (h2 : op ≠ .NotIn := by decide) : behindInMarks op b = false := by
 have e1 : (op == CmpOp.In) = false := by cases op <;> first | rfl | exact absurd rfl h
 have e2 : (op == CmpOp.NotIn) = false := by cases op <;> first | rfl | exact absurd rfl h2
 cases b <;> simp [behindInMarks, e1, e2]
theorem pe_cmpR {op : CmpOp} {r : R2} (ho : OpR X (compareOp op) r) (ha : PE X a ta) (hb : PE X b tb) (hm : behindInMarks op b = false) : PE X (.Compare a [op] [b] pos) (tOp r ta tb) := by
 intro pins s σ H Q I h
 exact wpAny_Compare1 (binT ha hb I h fun v u s2 x y H2 I2 rx ry q => ho pins s2 σ H2 x y v u Q I2 rx ry q) hm
noncomputable def tTest (t : TE) : TT := fun σ H Q => t σ H fun x H' => ∃ k, x = .bl k ∧ Q k H'
theorem pt_cmpR {op : CmpOp} {r : R2} (ho : OpR X (compareOp op) r) (ha : PE X a ta) (hb : PE X b tb) (hm : behindInMarks op b = false) : PT X (.Compare a [op] [b] pos) (tTest (tOp r ta tb)) := by
 intro pins s σ H Q I h
 refine wpAny_isTrue_Compare1 (thn (ha pins s σ H _ I h) fun v s1 ⟨x, H1, I1, r1, q1⟩ => thn (hb pins s1 σ H1 _ I1 q1) fun u s2 ⟨y, H2, I2, r2, q2⟩ =>
  thn (ho pins s2 σ H2 x y v u _ I2 r1 r2 q2) fun c s3 ⟨z, H3, I3, r3, k, e, q3⟩ => ?_) hm
 subst e
 cases r3
 exact wpAny_truthy_bool ⟨H3, I3, q3⟩
noncomputable def tChain (r r' : R2) (ta tb tc : TE) : TE := fun σ H Q => ta σ H fun x H1 => tb σ H1 fun y H2 => r x y H2 fun z H3 => ∃ k, z = .bl k ∧
 (if k = true then tc σ H3 fun w' H4 => r' y w' H4 Q else Q (.bl false) H3)
theorem pe_chain {op op' : CmpOp} {r r' : R2} (ho : OpR X (compareOp op) r) (ho' : OpR X (compareOp op') r') (ha : PE X a ta) (hb : PE X b tb) (hc : PE X c tc)
  (hm : lastMarks [op, op'] [b, c] = false := by with_unfolding_all rfl) : PE X (.Compare a [op, op'] [b, c] pos) (tChain r r' ta tb tc) := by
 intro pins s σ H Q I h
 refine Compare_chain (thn (ha pins s σ H _ I h) fun v s1 ⟨x, H1, I1, r1, q1⟩ => chain_link (thn (hb pins s1 σ H1 _ I1 q1) fun u s2 ⟨y, H2, I2, r2, q2⟩ =>
  thn (ho pins s2 σ H2 x y v u _ I2 r1 r2 q2) fun d s3 ⟨z, H3, I3, r3, k, e, q3⟩ => ?_)) hm
 subst e
 cases r3
 refine wpAny_truthy_bool ?_
 cases k with
 | false => exact ite_ff ⟨.bl false, H3, I3, rfl, q3⟩
 | true => exact ite_tt (chain_last (thn (hc pins s3 σ H3 _ I3 q3) fun w' s4 ⟨z', H4, I4, r4, q4⟩ => ho' pins s4 σ H4 y z' u w' Q I4 r2 r4 q4))
theorem pt_chain {op op' : CmpOp} {r r' : R2} (ho : OpR X (compareOp op) r) (ho' : OpR X (compareOp op') r') (ha : PE X a ta) (hb : PE X b tb) (hc : PE X c tc)
  (hm : lastMarks [op, op'] [b, c] = false := by with_unfolding_all rfl) : PT X (.Compare a [op, op'] [b, c] pos) (tTest (tChain r r' ta tb tc)) := by
 intro pins s σ H Q I h
 refine isTrue_chain (thn (ha pins s σ H _ I h) fun v s1 ⟨x, H1, I1, r1, q1⟩ => test_link (thn (hb pins s1 σ H1 _ I1 q1) fun u s2 ⟨y, H2, I2, r2, q2⟩ =>
  thn (ho pins s2 σ H2 x y v u _ I2 r1 r2 q2) fun d s3 ⟨z, H3, I3, r3, k, e, q3⟩ => ?_)) hm
 subst e
 cases r3
 refine wpAny_truthy_bool ?_
 cases k with
 | false =>
  obtain ⟨k', e', q'⟩ := q3
  cases e'
  exact ite_ff ⟨H3, I3, q'⟩
 | true =>
  refine ite_tt (test_last (thn (hc pins s3 σ H3 _ I3 q3) fun w' s4 ⟨z', H4, I4, r4, q4⟩ => thn (ho' pins s4 σ H4 y z' u w' _ I4 r2 r4 q4) fun d' s5 ⟨z2, H5, I5, r5, k2, e2, q5⟩ => ?_))
  subst e2
  cases r5
  exact wpAny_truthy_bool ⟨H5, I5, q5⟩
noncomputable def TruV (K : PySem.W.Frag) (x : V) (H : Hp) (k : Bool) : Prop :=
 match x with
 | .non => k = false
 | .bl b => k = b
 | .int i => k = (i != 0)
 | .str y => y.length ≤ sizeLine ∧ k = ((y.length : Int) != 0)
 | .byt y => y.size ≤ sizeLine ∧ k = ((y.size : Int) != 0)
 | .ref p => (∃ xs, SqL K H p xs ∧ k = !xs.isEmpty) ∨ (∃ xs, SqT K H p xs ∧ k = !xs.isEmpty) ∨ ∃ kvs, H p = some (.dK kvs) ∧ k = !kvs.isEmpty
 | _ => False
theorem isEmpty_kv {κ : Type} {kvs : List (κ × V)} {vs : List (κ × Value)} (r : KV kvs vs) : (!vs.isEmpty) = !kvs.isEmpty := by
 cases r <;> rfl
theorem isEmpty_of {xs : List V} {its : List Value} (r : Vals xs its) : (!its.toArray.isEmpty) = !xs.isEmpty := by
 cases r <;> simp
theorem line63 : (sizeLine : Nat) < 2 ^ 63 := by rw [sizeLine_eq]; decide
theorem tru_ok : TruR X (fun x H Q => ∃ k, TruV X.K x H k ∧ Q k H) := by
 intro pins s σ H x v Q I rx h
 obtain ⟨k, e, q⟩ := h
 have hl := line63
 have hs : sizeLine = 16777216 := sizeLine_eq
 cases x with
 | non =>
  cases rx
  have e' : k = false := e
  subst e'
  exact truthy_none ⟨H, I, q⟩
 | bl b =>
  cases rx
  have e' : k = b := e
  subst e'
  exact wpAny_truthy_bool ⟨H, I, q⟩
 | int i =>
  obtain ⟨t, rfl⟩ := rx
  have e' : k = (i != 0) := e
  subst e'
  exact PySem.P.truthy_int ⟨H, I, q⟩
 | str y =>
  obtain ⟨t, rfl⟩ := rx
  obtain ⟨hy, e'⟩ : y.length ≤ sizeLine ∧ k = ((y.length : Int) != 0) := e
  subst e'
  exact PySem.P.truthy_str (by lia) ⟨H, I.tok _, q⟩
 | byt y =>
  obtain ⟨t, rfl⟩ := rx
  obtain ⟨hy, e'⟩ : y.size ≤ sizeLine ∧ k = ((y.size : Int) != 0) := e
  subst e'
  exact PySem.W.truthy_bytes (by lia) ⟨H, I.tok _, q⟩
 | ref p =>
  cases rx
  have e' : (∃ xs, SqL X.K H p xs ∧ k = !xs.isEmpty) ∨ (∃ xs, SqT X.K H p xs ∧ k = !xs.isEmpty) ∨ ∃ kvs, H p = some (.dK kvs) ∧ k = !kvs.isEmpty := e
  rcases e' with ⟨xs, hx, e'⟩ | ⟨xs, hx, e'⟩ | ⟨kvs, hx, e'⟩
  ·subst e'
   obtain ⟨its, r, pl, hz⟩ := I.list hx
   have hlen := r.length
   exact wpAny_truthy_list pl.isList (by simp only [List.size_toArray]; lia) ⟨H, I.tok _, by rw [isEmpty_of r]; exact q⟩
  ·subst e'
   obtain ⟨its, r, pl, hz⟩ := I.tuple hx
   have hlen := r.length
   exact truthy_tuple pl (by simp only [List.size_toArray]; lia) ⟨H, I.tok _, by rw [isEmpty_of r]; exact q⟩
  ·subst e'
   obtain ⟨hz, hS, vs, r, m⟩ : kvs.length ≤ sizeLine ∧ (p == sysModules) = false ∧ ∃ vs, KV kvs vs ∧ s.heap.DictOf (mixKind X.prog X.w) p vs := I.hok p _ hx
   have hlen : kvs.length = vs.length := Paired.length r
   exact wpAny_truthy_dict hS m (by lia) ⟨H, I.tok _, by rw [isEmpty_kv r]; exact q⟩
 | _ => exact (show False from e).elim
theorem pt_truth (ha : PE X a ta) (he : ∀ whole, isTrue a X.env whole = (do let v ← whole; standAt a.pos; holding [v] (truthy v))) :
  PT X a (fun σ H Q => ta σ H fun x H' => ∃ k, TruV X.K x H' k ∧ Q k H') := by
 intro pins s σ H Q I h
 exact isTrue_plain (thn (ha pins s σ H _ I h) fun v s1 ⟨x, H1, I1, r1, q1⟩ => tru_ok pins s1 σ H1 x v Q I1 r1 q1) (he _)
theorem vals1 {x : V} {us : List Value} (r : Vals [x] us) : ∃ u, us = [u] ∧ RelV x u := by
 cases r with
 | cons r1 r2 => cases r2; exact ⟨_, rfl, r1⟩
theorem vals2 {x y : V} {us : List Value} (r : Vals [x, y] us) : ∃ u w', us = [u, w'] ∧ RelV x u ∧ RelV y w' := by
 cases r with
 | cons r1 r2 =>
  cases r2 with
  | cons r3 r4 => cases r4; exact ⟨_, _, rfl, r1, r3⟩
theorem call_abs : CallR X (.builtin "abs") (fun xs H Q => ∃ i, xs = [.int i] ∧ Q (.int (if i < 0 then -i else i)) H) := by
 intro pins s σ H xs us Q I r h
 obtain ⟨i, rfl, q⟩ := h
 obtain ⟨u, rfl, t, rfl⟩ := vals1 r
 exact call_abs_int fun u tk => ⟨.int (if i < 0 then -i else i), H, I.tok _, ⟨_, rfl⟩, q⟩
theorem call_min2 (hc : X.calm = true) : CallR X (.builtin "min") (fun xs H Q => ∃ i j, xs = [.int i, .int j] ∧ Q (.int (if j < i then j else i)) H) := by
 intro pins s σ H xs us Q I r h
 obtain ⟨i, j, rfl, q⟩ := h
 obtain ⟨u, w', rfl, ⟨t, rfl⟩, ⟨t', rfl⟩⟩ := vals2 r
 refine min_two_ints (I.ok.hd hc) fun h' tk k => ⟨_, H, I.kept k, ?_, q⟩
 by_cases hj : j < i
 ·rw [if_pos hj, if_pos hj]; exact ⟨_, rfl⟩
 ·rw [if_neg hj, if_neg hj]; exact ⟨_, rfl⟩
theorem call_int1 : CallR X (.type "int") (fun xs H Q => (∃ i, xs = [.int i] ∧ Q (.int i) H) ∨ ∃ k, xs = [.bl k] ∧ Q (.int (if k then 1 else 0)) H) := by
 intro pins s σ H xs us Q I r h
 rcases h with ⟨i, rfl, q⟩ | ⟨k, rfl, q⟩
 ·obtain ⟨u, rfl, t, rfl⟩ := vals1 r
  exact call_int_int ⟨.int i, H, I, ⟨_, rfl⟩, q⟩
 ·obtain ⟨u, rfl, r1⟩ := vals1 r
  cases r1
  exact call_int_bool ⟨.int (if k then 1 else 0), H, I.tok _, ⟨_, rfl⟩, q⟩
theorem call_divmod : CallR X (.builtin "divmod") (fun xs H Q => ∃ i j, xs = [.int i, .int j] ∧ CDiv i j ∧ ∀ p, H p = none → Q (.ref p) (upd H p (.tup [.int (i / j), .int (i % j)]))) := by
 intro pins s σ H xs us Q I r h
 obtain ⟨i, j, rfl, ⟨h1, h2⟩, q⟩ := h
 obtain ⟨u, w', rfl, ⟨t, rfl⟩, ⟨t', rfl⟩⟩ := vals2 r
 refine divmod_int (by lia) ?_ (.inl (PyProof.noPylong_small (by lia)))
 rw [Int.fdiv_eq_ediv_of_nonneg i (by lia), Int.fmod_eq_emod_of_nonneg i (by lia)]
 have hn : H s.heap.objs.size = none := I.hok.fresh (Nat.le_refl _)
 refine ⟨.ref s.heap.objs.size, _, ?_, rfl, q _ hn⟩
 refine I.laid (fun b o e => Heap.get?_push_of_some _ e) (Nat.le_refl _) ⟨by simp only [List.length_cons, List.length_nil]; rw [sizeLine_eq]; decide, [.int (i / j) s.toks, .int (i % j) (s.toks + 1)], .cons ⟨_, rfl⟩ (.cons ⟨_, rfl⟩ .nil), ?_⟩
 exact ⟨_, Heap.get?_push_size s.heap rfl, rfl, 0, rfl⟩
end
end L2
namespace L2
open PySem PySem.Spec PyProof.Rows
structure ObjM (h : Heap) (x dx C : Addr) (mA : Str → Option Value) : Prop where
 obj : h.get? x = some (PySem.W.instObj C dx)
 ns : h.Ns1 dx mA
 ne : dx ≠ x
theorem lookIn_ns {h : Heap} {dx : Addr} {mA : Str → Option Value} (n : h.Ns1 dx mA) : ∃ od, h.get? dx = some od ∧ ∀ name, PySem.W.lookIn name od = some (mA name) := by
 obtain ⟨o, es, ep, ho, hd, hk, _, hm⟩ := n
 refine ⟨o, ho, fun name => ?_⟩
 have e := hm name
 unfold nsFind findBy at e
 rw [← Array.find?_toList] at e
 unfold PySem.W.lookIn
 rw [hd]
 dsimp only
 split
 ·rename_i y q
  rw [q] at e
  exact congrArg some e
 ·rename_i q
  rw [q] at e
  have a : es.toList.any (·.refKey) = false := by
   rw [List.any_eq_false]
   intro y hy
   obtain ⟨z, t, hkey⟩ := hk y (Array.mem_toList_iff.mp hy)
   simp [DictEntry.refKey, hkey]
  have a' : ¬ es.toList.any (·.refKey) = true := by rw [a]; exact Bool.false_ne_true
  rw [if_neg a']
  exact congrArg some e
theorem ObjM.look {h : Heap} {x dx C : Addr} {mA : Str → Option Value} (I : ObjM h x dx C mA) : ∃ od, PySem.W.InstAt h x (PySem.W.instObj C dx) C (some od) ∧ ∀ name, PySem.W.lookIn name od = some (mA name) :=
 let ⟨od, ho, hl⟩ := lookIn_ns I.ns
 ⟨od, ⟨I.obj, rfl, rfl, ho⟩, hl⟩
section
variable {P : Program} {w : World} {H H' : Hp} {h h' : Heap} {a C dx : Addr} {fs fs' : List (Str × V)}
theorem ins_get (hok : HOk P w H h) (e : H a = some (.ins C dx fs)) : ∃ mA, ObjM h a dx C mA ∧ (∀ f, RelO (fs.lookup f) (mA f)) ∧ PySem.Within mA (fs.map (·.1)) ∧ fs.length ≤ 1000 ∧ H dx = some (.own a) := by
 obtain ⟨d, z, ne, ob, mA, n, r, q⟩ := (show ObjOk P w H h a (.ins C dx fs) from hok a _ e)
 exact ⟨mA, ⟨ob, n, ne⟩, r, q, z, d⟩
end
structure Cls (K : PySem.W.Frag) (C : Addr) : Prop where
 pg : PySem.W.plainGet K C Str.empty = true
 hd : PySem.W.hasDictIn K C = true
 po : PySem.W.plainOver K C = true
 sa : PySem.W.findIn K (.ref C) "__setattr__" = some (some (.builtin "object.__setattr__"))
theorem Cls.get {K : PySem.W.Frag} {C : Addr} (c : Cls K C) (f : Str) : PySem.W.plainGet K C f = true := c.pg
section
variable {X : Cx} {pins : List (Addr × Obj)} {σ : St} {H : Hp} {s : Shared} {A : Around} {E : Value → Shared → Prop} {Q : Value → Shared → Prop} {c : Value} {b : Bool}
inductive TyOf (K : PySem.W.Frag) (H : Hp) : V → Value → Prop where
 | non : TyOf K H .non (.type "NoneType")
 | bl (x : Bool) : TyOf K H (.bl x) (.type "bool")
 | int (i : Int) : TyOf K H (.int i) (.type "int")
 | str (x : Str) : TyOf K H (.str x) (.type "str")
 | flt (x : UInt64) : TyOf K H (.flt x) (.type "float")
 | lst {a : Addr} {xs : List V} (e : H a = some (.lst xs)) : TyOf K H (.ref a) (.type "list")
 | frz {a : Addr} {o : Obj} {xs : List V} (e : H a = some (.frz o (.lst xs))) : TyOf K H (.ref a) (.type "list")
 | tup {a : Addr} {xs : List V} (e : H a = some (.tup xs)) : TyOf K H (.ref a) (.type "tuple")
 | dK {a : Addr} {kvs : List (Key × V)} (e : H a = some (.dK kvs)) : TyOf K H (.ref a) (.type "dict")
 | dT {a : Addr} {kvs : List (List Key × V)} (e : H a = some (.dT kvs)) : TyOf K H (.ref a) (.type "dict")
 | ins {a C dx : Addr} {fs : List (Str × V)} (e : H a = some (.ins C dx fs)) (cl : Cls K C) (ha : PySem.W.findIn K (.ref C) "__class__" = some (some (.builtin "object.__class__")))
   (hn : PySem.W.specialIn K (.builtin "object.__class__") "__get__" = some (some (.builtin "getset_descriptor.__get__"))) (htk : PySem.W.takesIn K (.builtin "object.__class__") = some true)
   (hm : PySem.W.mroIn K C (.type "object") = some true) : TyOf K H (.ref a) (.ref C)
theorem isinst_ok {x : V} {u t : Value} (I : Inv X pins σ H s) (rx : RelV x u) (ty : TyOf X.K H x t) (e : PySem.W.kitOne X.K t c = some b) (h : ∀ tk, Q (.bool b) { s with toks := tk }) :
  wpAny (model X.prog X.w) A (call (.builtin "isinstance") [u, c]) Q E s := by
 cases ty with
 | non => cases (show u = Value.none from rx); exact PySem.W.kia_one PySem.W.kitx_none I.kIn True.intro e (fun z => nomatch z) h
 | bl y => cases (show u = Value.bool y from rx); exact PySem.W.kia_one PySem.W.kitx_bool I.kIn True.intro e (fun z => nomatch z) h
 | int i => obtain ⟨t, q⟩ := (show ∃ t, u = Value.int i t from rx); cases q; exact PySem.W.kia_one PySem.W.kitx_int I.kIn True.intro e (fun z => nomatch z) h
 | str y => obtain ⟨t, q⟩ := (show ∃ t, u = Value.str y t from rx); cases q; exact PySem.W.kia_one PySem.W.kitx_str I.kIn True.intro e (fun z => nomatch z) h
 | flt y => obtain ⟨t, q⟩ := (show ∃ t, u = Value.float y t from rx); cases q; exact PySem.W.kia_one PySem.W.kitx_float I.kIn True.intro e (fun z => nomatch z) h
 | @lst a xs ea =>
  cases (show u = Value.ref a from rx)
  obtain ⟨_, _, n, _, h1⟩ := (show ObjOk X.prog X.w H s.heap a (.lst xs) from I.hok a _ ea)
  exact PySem.W.kia_one PySem.W.kitx_list I.kIn ⟨_, h1, rfl⟩ e (fun z => nomatch z) h
 | @frz a ob xs ea =>
  cases (show u = Value.ref a from rx)
  obtain ⟨_, _, _, n, _, h1⟩ := (show ObjOk X.prog X.w H s.heap a (.frz ob (.lst xs)) from I.hok a _ ea)
  exact PySem.W.kia_one PySem.W.kitx_list I.kIn ⟨_, h1, rfl⟩ e (fun z => nomatch z) h
 | @tup a xs ea =>
  cases (show u = Value.ref a from rx)
  obtain ⟨_, _, _, p⟩ := (show ObjOk X.prog X.w H s.heap a (.tup xs) from I.hok a _ ea)
  obtain ⟨o, h1, h2, _⟩ := p
  exact PySem.W.kia_one PySem.W.kitx_tuple I.kIn ⟨o, h1, h2⟩ e (fun z => nomatch z) h
 | @dK a kvs ea =>
  cases (show u = Value.ref a from rx)
  obtain ⟨_, _, vs, _, p⟩ := (show ObjOk X.prog X.w H s.heap a (.dK kvs) from I.hok a _ ea)
  obtain ⟨o, es, ep, h1, h2, _⟩ := p
  exact PySem.W.kia_one PySem.W.kitx_dict I.kIn ⟨o, h1, h2.1⟩ e (fun z => nomatch z) h
 | @dT a kvs ea =>
  cases (show u = Value.ref a from rx)
  obtain ⟨_, _, xs, _, o, es, ep, h1, h2, _⟩ := (show ObjOk X.prog X.w H s.heap a (.dT kvs) from I.hok a _ ea)
  exact PySem.W.kia_one PySem.W.kitx_dict I.kIn ⟨o, h1, h2.1⟩ e (fun z => nomatch z) h
 | @ins a C dx fs ea cl ha hn htk hm =>
  cases (show u = Value.ref a from rx)
  obtain ⟨mA, O, _⟩ := ins_get I.hok ea
  obtain ⟨od, J, _⟩ := O.look
  exact PySem.W.kia_one (PySem.W.kitx_own (cl.get _) cl.hd ha hn htk hm) I.kIn J e (fun z => nomatch z) h
end
end L2
namespace L2
open PySem PySem.Spec PyProof.Rows
structure Room (k : Nat) (A : Around) : Prop where
 hd : A.handled = none
 dp : A.depth + 3 * k + 5 < recursionLimit
 un : A.units + 16 * k + 200 < cLine
theorem Room.mono {j k : Nat} {A : Around} (r : Room k A) (h : j ≤ k) : Room j A := ⟨r.hd, by have := r.dp; lia, by have := r.un; lia⟩
theorem Room.deeper {k : Nat} {A : Around} (r : Room (k + 1) A) (env : Env) : Room k (A.deeper env) :=
 ⟨r.hd, by have := r.dp; show A.depth + 1 + 3 * k + 5 < _; lia, by have := r.un; show A.units + 3 + 16 * k + 200 < _; lia⟩
theorem Room.depth {k : Nat} {A : Around} (r : Room k A) : A.depth < recursionLimit := by have := r.dp; lia
theorem Room.units {k : Nat} {A : Around} (r : Room k A) : A.units + 64 < cLine := by have := r.un; lia
theorem Room.units0 {k : Nat} {A : Around} (r : Room k A) : A.units < cLine := by have := r.un; lia
noncomputable def tNil : TA := fun _ H Q => Q [] H
noncomputable def tCons (ta : TE) (tr : TA) : TA := fun σ H Q => ta σ H fun x H1 => tr σ H1 fun xs H2 => Q (x :: xs) H2
section
variable {X : Cx} {e : Expr} {es : List Expr} {te : TE} {t : TA} {pos : Pos}
theorem pa_nil : PA X [] tNil := fun _ _ _ _ H Q I h => Calls.spliced_nil ⟨[], H, I, .nil, h⟩
theorem pa_cons (ha : PE X e te) (hr : PA X es t) (hs : starEach (e :: es) X.env = (false, eval e X.env) :: starEach es X.env := by rfl) : PA X (e :: es) (tCons te t) := by
 intro pos pins s σ H Q I h
 rw [hs]
 show wpAny _ _ (spliced ((false, eval e X.env) :: backTo pos (starEach es X.env))) _ _ s
 refine Calls.spliced_cons (thn (ha pins s σ H _ I h) fun u s1 ⟨x, H1, I1, r1, q1⟩ => ?_)
 exact thn (hr pos pins s1 σ H1 _ I1 q1) fun us s2 ⟨xs, H2, I2, r2, q2⟩ => ⟨x :: xs, H2, I2, .cons r1 r2, q2⟩
noncomputable def tTup (t : TA) : TE := fun σ H Q => t σ H fun xs H1 => xs.length ≤ sizeLine ∧ ∀ p, H1 p = none → Q (.ref p) (upd H1 p (.tup xs))
noncomputable def tLst (t : TA) : TE := fun σ H Q => t σ H fun xs H1 => xs.length ≤ sizeLine ∧ ∀ p, H1 p = none → Q (.ref p) (upd H1 p (.lst xs))
theorem pe_tup {x1} (h : PA X es t) : PE X (.Tuple es x1 pos) (tTup t) := by
 intro pins s σ H Q I hq
 refine wpAny_Tuple_spliced (thn (h pos pins s σ H _ I hq) fun us s1 ⟨xs, H1, I1, r, z, q⟩ => ⟨by rw [← r.length]; exact z, ?_⟩)
 have hf : H1 s1.heap.objs.size = none := I1.hok.fresh (Nat.le_refl _)
 refine ⟨.ref s1.heap.objs.size, upd H1 s1.heap.objs.size (.tup xs), I1.laid (t' := s1.toks) (fun b u e => Heap.get?_push_of_some _ e) (Nat.le_refl _) ?_, rfl, q _ hf⟩
 exact ⟨z, us, r, ⟨_, Heap.get?_push_size _ rfl, rfl, _, rfl⟩⟩
theorem pe_lst (h : PA X es t) : PE X (.List es pos) (tLst t) := by
 intro pins s σ H Q I hq
 refine wpAny_List_spliced (thn (h pos pins s σ H _ I hq) fun us s1 ⟨xs, H1, I1, r, z, q⟩ => ⟨by rw [← r.length]; exact z, ?_⟩)
 have hf : H1 s1.heap.objs.size = none := I1.hok.fresh (Nat.le_refl _)
 refine ⟨.ref s1.heap.objs.size, upd H1 s1.heap.objs.size (.lst xs), I1.laid (t' := s1.toks) (fun b u e => Heap.get?_push_of_some _ e) (Nat.le_refl _) ?_, rfl, q _ hf⟩
 exact ⟨z, us, 0, r, Heap.get?_push_size _ rfl⟩
end
noncomputable abbrev Sp := List V → Hp → VK → XK → Prop
noncomputable abbrev CXT := List Env → Hp → Shared → XK → Value → Shared → Prop
structure Env0 (P : Program) (w : World) (K : PySem.W.Frag) (mg : Str → Option Value) (base : Heap) (A : Around) (outer : List Env) (s : Shared) (H : Hp) : Prop where
 frames : A.frames = some outer
 mod : Mod K mg base
 bs : ∀ b o, base.get? b = some o → s.heap.get? b = some o ∧ H b = none
 bsz : base.objs.size ≤ s.heap.objs.size
 funs : s.heap.FunFrames base outer
 frf : ∀ b ∈ frs outer, H b = none
 hok : HOk P w H s.heap
 bare : AllBare s.gens
noncomputable def CE (outer : List Env) (P : Program) (w : World) (H : Hp) (s : Shared) (Q : VK) (u : Value) (s' : Shared) : Prop :=
 ∃ v H', s'.os = s.os ∧ AllBare s'.gens ∧ Un (frs outer) [] H H' s.heap s'.heap ∧ HOk P w H' s'.heap ∧ RelV v u ∧ Q v H'
noncomputable def CR (CX : CXT) (outer : List Env) (P : Program) (w : World) (H : Hp) (s : Shared) (Q : VK) (E : XK) (r : Result) (s' : Shared) : Prop :=
 match r with
 | .ok (.ret u) => CE outer P w H s Q u s'
 | .ok _ => False
 | .error e => CX outer H s E e s'
structure FnOk (P : Program) (w : World) (K : PySem.W.Frag) (mg : Str → Option Value) (base : Heap) (CX : CXT) (k : Nat) (f : Addr) (fd : FuncData) (ps : List Str) (sp : Sp) : Prop where
 len : ∀ vs H Q E, sp vs H Q E → vs.length = ps.length
 run : ∀ (A : Around) (outer : List Env) (s : Shared) (H : Hp) (args : Args) (us : List Value) (vs : List V) (Q : VK) (E : XK), Room k A → Env0 P w K mg base A outer s H → BindsTo s fd args (ps.zip us) → Vals vs us → sp vs H Q E →
  codeAny (model P w) A (.call (.ref f) args) (CR CX outer P w H s Q E) s
section
variable {X : Cx} {pins : List (Addr × Obj)} {σ : St} {H : Hp} {s s' : Shared}
theorem Inv.env0 (I : Inv X pins σ H s) : Env0 X.prog X.w X.K X.mg X.base X.A X.stack s H :=
 ⟨I.ok.frames, I.ok.mod, I.bs, Nat.le_trans I.ok.bsz I.sz, I.stack, I.stkFree, I.hok, I.bare⟩
theorem Inv.after {Q : VK} {u : Value} (I : Inv X pins σ H s) (h : CE X.stack X.prog X.w H s Q u s') : EP X pins σ Q u s' := by
 obtain ⟨v, H', os, bare, un, hok, r, q⟩ := h
 obtain ⟨hh, g, d, t, os'⟩ := s'
 obtain rfl : os' = s.os := os
 exact ⟨v, H', I.call (h' := hh) (g' := g) (d' := d) (t' := t) (ch := []) un hok bare (fun b z => absurd z (by simp)), r, q⟩
end
noncomputable def tCall (sp : Sp) (dvs : List V) (E : XK) (t : TA) : TE := fun σ H Q => t σ H fun vs H1 => sp (vs ++ dvs) H1 Q E
noncomputable def Binds (K : PySem.W.Frag) (fd : FuncData) (ps : List Str) (ds : List Value) : Prop :=
 ∀ (s : Shared) (us : List Value), K.In s.heap → (us ++ ds).length = ps.length → BindsTo s fd ⟨us, []⟩ (ps.zip (us ++ ds))
theorem Binds.all {K : PySem.W.Frag} {fd : FuncData} {ps : List Str} (h : ∀ us : List Value, us.length = ps.length → bindArgs fd ⟨us, []⟩ = pure (ps.zip us)) : Binds K fd ps [] := fun s us _ hl => by
 rw [List.append_nil] at hl ⊢
 exact .of_eq (h us hl)
noncomputable def Passes (CX : CXT) (X : Cx) (E : XK) : Prop := ∀ (pins : List (Addr × Obj)) (σ : St) (H : Hp) (s : Shared) (e : Value) (s' : Shared), Inv X pins σ H s → CX X.stack H s E e s' → X.xe e s'
section
variable {X : Cx} {CX : CXT} {k : Nat} {f C : Addr} {fd : FuncData} {ps : List Str} {sp : Sp} {dvs : List V} {ds : List Value} {E : XK} {x m : Str} {p pos apos : Pos} {e o : Expr} {es : List Expr} {ta : TE} {t : TA}
theorem run_fn {pins : List (Addr × Obj)} {σ : St} {H : Hp} {s : Shared} {Q : VK} {us : List Value} {vs : List V} (F : FnOk X.prog X.w X.K X.mg X.base CX k f fd ps sp) (hr : Room k X.A) (hb : Binds X.K fd ps ds) (hd : Vals dvs ds) (hx : Passes CX X E)
  (I : Inv X pins σ H s) (r : Vals vs us) (h : sp (vs ++ dvs) H Q E) : wpAny (model X.prog X.w) X.A (call (.ref f) us) (EP X pins σ Q) X.xe s := by
 have r2 : Vals (vs ++ dvs) (us ++ ds) := r.append hd
 have hl : (us ++ ds).length = ps.length := by rw [← r2.length]; exact F.len _ _ _ _ h
 refine wpAny_call (codeAny_mono (F.run X.A X.stack s H ⟨us, []⟩ (us ++ ds) (vs ++ dvs) Q E hr I.env0 (hb s us I.kIn hl) r2 h) fun r s' hq => ?_)
 cases r with
 | error e => exact hx pins σ H s e s' I hq
 | ok fl =>
  cases fl with
  | ret u => exact I.after hq
  | next => exact False.elim hq
  | brk => exact False.elim hq
  | cont => exact False.elim hq
theorem pe_call (F : FnOk X.prog X.w X.K X.mg X.base CX k f fd ps sp) (hr : Room k X.A) (hg : Gl X x) (hm : X.mg x = some (.ref f)) (hk : PySem.W.keepIn X.K (.ref f) = true) (hb : Binds X.K fd ps ds) (hd : Vals dvs ds) (hx : Passes CX X E)
  (ha : PA X (e :: es) t) (hdb : (x == ("__debug__" : Str)) = false := by decide) (he : starEach (e :: es) X.env = (false, eval e X.env) :: starEach es X.env := by rfl) (hpl : (backTo pos (starEach es X.env)).any (·.1) = false := by rfl) :
  PE X (.Call (.Name x p) (e :: es) [] pos) (tCall sp dvs E t) := by
 intro pins s σ H Q I h
 refine wpAny_Call_Name_kw (ld_glob I hg hm ?_ hdb)
 refine PySem.W.callWith_K (h₀ := X.base) I.ok.mod.kin hk (thn (ha pos pins s σ H _ I h) fun us s1 ⟨vs, H1, I1, r, q⟩ => ⟨I1.kIn, ?_⟩) he hpl
 exact run_fn F hr hb hd hx I1 r q
end
structure FnScope (N P : List Str) (sc : Scope) : Prop where
 kind : sc.kind = .function
 co : sc.isCoroutine = false
 gen : sc.isGenerator = false
 nd : N.Nodup
 pre : N.take P.length = P
 par : ∀ x ∈ P, sc.names.lookup x = some .local ∨ sc.names.lookup x = some .cell
 nofree : ∀ y ∈ sc.names, y.2 ≠ .free
theorem bindL_out {kindOf : Str → Option NameKind} {x : Str} : ∀ {binds : List (Str × Value)} {m : Str → Option Value}, (∀ v, (x, v) ∉ binds) → bindL kindOf binds m x = m x
 | [], _, _ => rfl
 | (n, v) :: r, m, h => by
  unfold bindL
  rw [bindL_out fun w hw => h w (List.mem_cons_of_mem _ hw)]
  split
  ·have : x ≠ n := by rintro rfl; exact h v List.mem_cons_self
   simp [this]
  ·rfl
theorem bindC_out {kindOf : Str → Option NameKind} {x : Str} : ∀ {binds : List (Str × Value)} {m : Str → Option Value}, (∀ v, (x, v) ∉ binds) → bindC kindOf binds m x = m x
 | [], _, _ => rfl
 | (n, v) :: r, m, h => by
  unfold bindC
  rw [bindC_out fun w hw => h w (List.mem_cons_of_mem _ hw)]
  split
  ·rfl
  ·have : x ≠ n := by rintro rfl; exact h v List.mem_cons_self
   simp [this]
theorem bindL_get {kindOf : Str → Option NameKind} {x : Str} {v : Value} : ∀ {P : List Str} {vs : List Value} {i : Nat} {m : Str → Option Value}, P.Nodup → P[i]? = some x → vs[i]? = some v → kindOf x = some .local →
  bindL kindOf (P.zip vs) m x = some v
 | [], _, _, _, _, h, _, _ => by simp at h
 | _ :: _, [], _, _, _, _, h, _ => by simp at h
 | p :: P, w :: vs, 0, m, nd, h1, h2, hk => by
  simp at h1 h2; subst h1; subst h2
  show bindL kindOf ((p, w) :: P.zip vs) m p = _
  unfold bindL
  rw [bindL_out fun v hv => (List.nodup_cons.mp nd).1 (List.of_mem_zip hv).1, if_pos hk]
  simp
 | p :: P, w :: vs, i + 1, m, nd, h1, h2, hk => by
  show bindL kindOf ((p, w) :: P.zip vs) m x = _
  unfold bindL
  exact bindL_get (i := i) (List.nodup_cons.mp nd).2 (by simpa using h1) (by simpa using h2) hk
theorem bindC_get {kindOf : Str → Option NameKind} {x : Str} {v : Value} : ∀ {P : List Str} {vs : List Value} {i : Nat} {m : Str → Option Value}, P.Nodup → P[i]? = some x → vs[i]? = some v → kindOf x ≠ some .local →
  bindC kindOf (P.zip vs) m x = some v
 | [], _, _, _, _, h, _, _ => by simp at h
 | _ :: _, [], _, _, _, _, h, _ => by simp at h
 | p :: P, w :: vs, 0, m, nd, h1, h2, hk => by
  simp at h1 h2; subst h1; subst h2
  show bindC kindOf ((p, w) :: P.zip vs) m p = _
  unfold bindC
  rw [bindC_out fun v hv => (List.nodup_cons.mp nd).1 (List.of_mem_zip hv).1, if_neg hk]
  simp
 | p :: P, w :: vs, i + 1, m, nd, h1, h2, hk => by
  show bindC kindOf ((p, w) :: P.zip vs) m x = _
  unfold bindC
  exact bindC_get (i := i) (List.nodup_cons.mp nd).2 (by simpa using h1) (by simpa using h2) hk
noncomputable def start (N : List Str) (vs : List V) : St := vs.map some ++ List.replicate (N.length - vs.length) none
noncomputable def cxOf (CX : CXT) (P : Program) (w : World) (K : PySem.W.Frag) (mg : Str → Option Value) (base : Heap) (N : List Str) (qual : Str) (scope : Scope) (f : Addr) (cd : Value) (A : Around) (outer : List Env) (s : Shared) (H : Hp) (E : XK) : Cx where
 prog := P
 w := w
 K := K
 mg := mg
 base := base
 A := A.deeper (envOfC qual scope s.heap.objs.size f cd)
 N := N
 s₀ := s
 H₀ := H
 env := envOfC qual scope s.heap.objs.size f cd
 outer := outer
 stack := envOfC qual scope s.heap.objs.size f cd :: outer
 ex := []
 calm := true
 fn := fun _ => true
 pn := []
 xe := fun e s' => wpAny (model P w) (A.deeper (envOfC qual scope s.heap.objs.size f cd)) (leaving (envOfC qual scope s.heap.objs.size f cd) e) (fun _ s'' => CX outer H s E e s'') (fun e' s'' => CX outer H s E e' s'') s'
theorem cell_has {sc : Scope} {n : Nat} {x : Str} (h : sc.names.lookup x = some .cell) : ∃ c, (cellsFrom n sc.names []).lookup x = some c := by
 have q := PySem.W.cellsFrom_some sc.names n [] (.inl h)
 exact Option.isSome_iff_exists.mp q
theorem inv_start {CX : CXT} {P : Program} {w : World} {K : PySem.W.Frag} {mg : Str → Option Value} {base : Heap} {N ps : List Str} {qual : Str} {scope : Scope} {f : Addr} {cd : Value} {A : Around} {outer : List Env} {s s1 : Shared} {H : Hp} {E : XK} {us : List Value} {vs : List V}
  (S : FnScope N ps scope) (hd : A.handled = none) (e0 : Env0 P w K mg base A outer s H) (hl : vs.length = ps.length) (r : Vals vs us)
  (x : InCallC s s.heap.objs.size (bindL (envOfC qual scope s.heap.objs.size f cd).kindOf (ps.zip us) fun _ => none) (cellsFrom (s.heap.objs.size + 1) scope.names []) (bindC (envOfC qual scope s.heap.objs.size f cd).kindOf (ps.zip us) fun _ => none) s1) :
  Inv (cxOf CX P w K mg base N qual scope f cd A outer s H E) [] (start N vs) H s1 := by
 have hpl : ps.length ≤ N.length := by have := congrArg List.length S.pre; rw [List.length_take] at this; lia
 obtain ⟨h1, tk, rfl, hk⟩ := x.done
 have noA : ∀ b : Addr, b ∉ (cxOf CX P w K mg base N qual scope f cd A outer s H E).ex := fun b z => absurd (show b ∈ ([] : List Addr) from z) (by simp)
 refine ⟨⟨e0.mod, S.kind, rfl, rfl, Nat.le_refl _, fun y z c h1 h2 => ?_, fun y hy => ?_, fun y c _ h => ?_, fun _ => hd, Around.frames_deeper e0.frames, .inr ⟨rfl, rfl⟩, fun b z => absurd z (noA b), e0.bs, e0.bsz, fun b _ _ => noA b, fun b z => absurd z (noA b), e0.funs, e0.frf⟩,
  rfl, e0.bare, Un.kept hk, ⟨_, x.toInCall.ns, fun i y v h1 h2 h3 => ?_⟩, fun y c h => ⟨_, x.cell y c h⟩, e0.hok.fresh (Nat.le_refl _), fun y c h => ?_, fun p hp => absurd (show p ∈ ([] : List (Addr × Obj)) from hp) (by simp), e0.hok.kept hk, ?_⟩
 ·exact name_of_addr x.apart (PySem.mem_of_lookup h1) (PySem.mem_of_lookup h2)
 ·have hy : scope.names.lookup y = some .cell ∨ scope.names.lookup y = some .free := hy
  rcases hy with hy | hy
  ·exact cell_has hy
  ·exact absurd rfl (S.nofree _ (PySem.mem_of_lookup hy))
 ·exact Nat.le_of_lt (x.above y c (PySem.mem_of_lookup h))
 ·have hi : i < vs.length := by
   unfold start at h2
   by_cases hi : i < vs.length
   ·exact hi
   ·rw [List.getElem?_append_right (by simpa using hi)] at h2
    rw [List.getElem?_replicate] at h2
    split at h2 <;> cases h2
  have ha : vs[i]? = some v := by
   unfold start at h2
   rw [List.getElem?_append_left (by simpa using hi), List.getElem?_map] at h2
   cases e : vs[i]? with
   | none => rw [e] at h2; cases h2
   | some a => rw [e] at h2; cases h2; rfl
  obtain ⟨u, hu, rv⟩ := r.get ha
  have hp : ps[i]? = some y := by
   rw [← S.pre, List.getElem?_take_of_lt (by lia)]; exact h1
  have ndP : ps.Nodup := by rw [← S.pre]; exact S.nd.sublist (List.take_sublist _ _)
  refine ⟨u, rv, ?_⟩
  rcases S.par y (List.mem_of_getElem? hp) with k | k
  ·exact .inl ⟨k, bindL_get ndP hp hu k⟩
  ·obtain ⟨c, e⟩ := cell_has (n := s.heap.objs.size + 1) k
   refine .inr ⟨.inl k, c, e, ?_⟩
   have q := x.cell y c e
   rw [bindC_get ndP hp hu (by show scope.names.lookup y ≠ _; rw [k]; decide)] at q
   exact q
 ·exact e0.hok.fresh (Nat.le_of_lt (x.above y c (PySem.mem_of_lookup h)))
 ·unfold start
  show _ = N.length
  rw [List.length_append, List.length_map, List.length_replicate]
  lia
theorem fn_of {CX : CXT} {P : Program} {w : World} {K : PySem.W.Frag} {mg : Str → Option Value} {base : Heap} {k : Nat} {f : Addr} {name qual : Str} {params : Arguments} {body : List Stmt} {scope : Scope} {dV kV doc pm cdv ct oc : Value} {an od : Option Addr}
  {osl : Array (Option Value)} {N ps : List Str} {sp : Sp} (lk : K.lookup f = some ⟨oc, od, .func (PySem.W.fnOf name qual params body scope dV kV doc pm an cdv ct), osl⟩) (hcd : PySem.W.codeIn K cdv qual = true) (S : FnScope N ps scope)
  (len : ∀ vs H Q E, sp vs H Q E → vs.length = ps.length)
  (hbody : ∀ (A : Around) (outer : List Env) (s : Shared) (H : Hp) (vs : List V) (Q : VK) (E : XK), Room k (A.deeper (envOfC qual scope s.heap.objs.size f cdv)) → sp vs H Q E →
   ∃ t, PSs (cxOf CX P w K mg base N qual scope f cdv A outer s H E) body t ∧ t { nx := fun _ H' => Q .non H', rt := Q } (start N vs) H) :
  FnOk P w K mg base CX (k + 1) f (PySem.W.fnOf name qual params body scope dV kV doc pm an cdv ct) ps sp := by
 refine ⟨len, fun A outer s H args us vs Q E hr e0 hb r hsp => ?_⟩
 have hl := len _ _ _ _ hsp
 have KX : K.In s.heap := e0.mod.kin.keeps fun b o e => (e0.bs b o e).1
 have lim : s.heap.NoLimit := e0.mod.nolimit.keeps fun b o e => (e0.bs b o e).1
 have hkind : ∀ y ∈ ps.zip us, scope.names.lookup y.1 = some .local ∨ (scope.names.lookup y.1 = some .cell ∧ ((cellsFrom (s.heap.objs.size + 1) scope.names []).lookup y.1).isSome = true) := fun ⟨n, v⟩ hy => by
  rcases S.par n (List.of_mem_zip hy).1 with q | q
  ·exact .inl q
  ·exact .inr ⟨q, PySem.W.cellsFrom_some _ _ _ (.inl q)⟩
 refine codeAny_call_function hr.depth (KX _ _ lk) rfl S.co S.gen rfl (PySem.W.codeRec_of KX hcd) (hb _ _ _ _ ?_)
 refine wpAny_newFunctionEnv_cells S.kind hkind fun env he s1 x => ?_
 subst he
 refine ⟨lim.keeps x.toInCall.keep, codeAny_func ?_⟩
 obtain ⟨t, ht, hq⟩ := hbody A outer s H vs Q E (hr.deeper _) hsp
 have I : Inv (cxOf CX P w K mg base N qual scope f cdv A outer s H E) [] (start N vs) H s1 := inv_start S hr.hd e0 hl r x
 refine wpAny_mono (ht [] s1 (start N vs) H _ I hq) (fun fl s' hs => ?_) fun e s' hs => hs
 have fin : ∀ {σ' : St} {H' : Hp} {v : V} {u : Value}, Inv (cxOf CX P w K mg base N qual scope f cdv A outer s H E) [] σ' H' s' → RelV v u → Q v H' → CE outer P w H s Q u s' :=
  fun {σ' H' v u} J rv q => ⟨v, H', J.os, J.bare, J.base, J.hok, rv, q⟩
 cases fl with
 | ret u =>
  obtain ⟨v, σ', H', J, rv, q⟩ := hs
  exact fin J rv q
 | next =>
  obtain ⟨σ', H', J, q⟩ := hs
  exact fin (v := V.non) (u := Value.none) J rfl q
 | brk =>
  obtain ⟨_, _, _, q⟩ := hs
  exact False.elim q
 | cont =>
  obtain ⟨_, _, _, q⟩ := hs
  exact False.elim q
end L2
namespace L2
open PySem PySem.Spec PyProof.Rows
section
variable {X : Cx} {x : Str} {p pos : Pos} {e : Expr} {es : List Expr} {t : TA} {id T : String} {r : List V → Hp → VK → Prop}
noncomputable def tCB (r : List V → Hp → VK → Prop) (t : TA) : TE := fun σ H Q => t σ H fun vs H1 => r vs H1 Q
theorem pe_callB (hc : CallR X (.builtin id) r) (hg : Gl X x) (hm : X.mg x = none) (hv : bootBuiltins x = some (.builtin id)) (ha : PA X (e :: es) t) (hn : x ≠ "__name__" := by decide) (hdb : (x == ("__debug__" : Str)) = false := by decide)
  (he : starEach (e :: es) X.env = (false, eval e X.env) :: starEach es X.env := by rfl) (hpl : (backTo pos (starEach es X.env)).any (·.1) = false := by rfl) : PE X (.Call (.Name x p) (e :: es) [] pos) (tCB r t) := by
 intro pins s σ H Q I h
 refine wpAny_Call_Name_kw (ld_blt I hg hm hv ?_ hn hdb)
 exact PyProof.Rows.callWith_builtin1 (thn (ha pos pins s σ H _ I h) fun us s1 ⟨vs, H1, I1, r1, q1⟩ => hc pins s1 σ H1 vs us Q I1 r1 q1) he hpl
theorem pe_callTy (hc : CallR X (.type T) r) (hg : Gl X x) (hm : X.mg x = none) (hv : bootBuiltins x = some (.type T)) (ha : PA X (e :: es) t) (hn : x ≠ "__name__" := by decide) (hdb : (x == ("__debug__" : Str)) = false := by decide)
  (he : starEach (e :: es) X.env = (false, eval e X.env) :: starEach es X.env := by rfl) (hpl : (backTo pos (starEach es X.env)).any (·.1) = false := by rfl) : PE X (.Call (.Name x p) (e :: es) [] pos) (tCB r t) := by
 intro pins s σ H Q I h
 refine wpAny_Call_Name_kw (ld_blt I hg hm hv ?_ hn hdb)
 exact PyProof.Rows.callWith_type1 (thn (ha pos pins s σ H _ I h) fun us s1 ⟨vs, H1, I1, r1, q1⟩ => hc pins s1 σ H1 vs us Q I1 r1 q1) he hpl
end
end L2
namespace HT
open PySem PyProof.Rows
section
variable {prog : Program} {w : World} {A : Around} {E : Value → Shared → Prop} {s : Shared}
noncomputable def sIx (n d : Nat) : Option Int → Nat
 | none => d
 | some v => if v < 0 then (v + (n : Int)).toNat else min v.toNat n
theorem sIx_none (n d : Nat) : sIx n d none = d := rfl
theorem sIx_nat (n d k : Nat) : sIx n d (some (k : Int)) = min k n := by
 show (if (k : Int) < 0 then ((k : Int) + (n : Int)).toNat else min (k : Int).toNat n) = min k n
 rw [if_neg (by lia), Int.toNat_natCast]
end
end HT
namespace L2
open PySem PySem.Spec PyProof.Rows
noncomputable abbrev TO := St → Hp → (Option Int → Hp → Prop) → Prop
noncomputable def PO (X : Cx) (e : Option Expr) (t : TO) : Prop :=
 ∀ (pins : List (Addr × Obj)) (s : Shared) (σ : St) (H : Hp) (Q : Option Int → Hp → Prop), Inv X pins σ H s → t σ H Q →
  wpAny (model X.prog X.w) X.A (evalPart e X.env) (fun u s' => ∃ o H', Inv X pins σ H' s' ∧ IsPart u o ∧ Q o H') X.xe s
noncomputable def tNoPart : TO := fun _ H Q => Q none H
noncomputable def tPart (t : TE) : TO := fun σ H Q => t σ H fun x H1 => ∃ i, x = .int i ∧ Q (some i) H1
theorem intsAre_of {ns : List Int} : ∀ {us : List Value}, Vals (ns.map V.int) us → IntsAre us ns := by
 induction ns with
 | nil => intro us r; rw [List.map_nil] at r; cases r; exact .nil
 | cons n ns ih =>
  intro us r
  rw [List.map_cons] at r
  cases r with
  | cons r1 r2 =>
   obtain ⟨t, e⟩ := r1
   subst e
   exact .cons n t (ih r2)
section
variable {X : Cx} {e : Expr} {te : TE} {lo hi : Option Expr} {tl th : TO} {pos p2 : Pos}
theorem po_none : PO X none tNoPart := by
 intro pins s σ H Q I h
 rw [evalPart_none]
 exact wpAny_pure ⟨none, H, I, .none, h⟩
theorem po_some (h : PE X e te) : PO X (some e) (tPart te) := by
 intro pins s σ H Q I hw
 rw [evalPart_some]
 refine thn (h pins s σ H _ I hw) fun u s1 ⟨x, H1, I1, r1, q1⟩ => ?_
 obtain ⟨i, rfl, q⟩ := q1
 obtain ⟨t, rfl⟩ := r1
 exact ⟨some i, H1, I1, .int i t, q⟩
noncomputable def SlR (X : Cx) (r : V → Option Int → Option Int → Hp → VK → Prop) : Prop :=
 ∀ (pins : List (Addr × Obj)) (s : Shared) (σ : St) (H : Hp) (x : V) (v vl vu : Value) (lo hi : Option Int) (sl : Addr) (Q : VK), Inv X pins σ H s → RelV x v → s.heap.IsSliceOf sl vl vu .none → IsPart vl lo → IsPart vu hi → r x lo hi H Q →
  ∃ T id, typeLookup (.type T) "__getitem__" = pure (some (.builtin id)) ∧ s.TypeIs v T ∧ wpAny (model X.prog X.w) X.A (getItem v (.ref sl)) (EP X pins σ Q) X.xe s
noncomputable def tSl (r : V → Option Int → Option Int → Hp → VK → Prop) (te : TE) (tl th : TO) : TE := fun σ H Q => te σ H fun x H1 => tl σ H1 fun l H2 => th σ H2 fun u H3 => r x l u H3 Q
theorem pe_slice {r : V → Option Int → Option Int → Hp → VK → Prop} (hr : SlR X r) (he : PE X e te) (hl : PO X lo tl) (hu : PO X hi th) : PE X (.Subscript e (.Slice lo hi none p2) pos) (tSl r te tl th) := by
 intro pins s σ H Q I h
 refine Subscript_ (thn (he pins s σ H _ I h) fun v s1 ⟨x, H1, I1, r1, q1⟩ => ?_)
 refine wpAny_Slice (thn (hl pins s1 σ H1 _ I1 q1) fun vl s2 ⟨l, H2, I2, pl, q2⟩ => thn (hu pins s2 σ H2 _ I2 q2) fun vu s3 ⟨u, H3, I3, pu, q3⟩ => ?_)
 rw [evalPart_none]
 refine wpAny_pure ?_
 have I4 : Inv X pins σ H3 { s3 with heap := s3.heap.push { cls := .type "slice", data := .fields #[vl, vu, .none] } } := I3.kept (t' := s3.toks) fun b ob q => Heap.get?_push_of_some _ q
 obtain ⟨T, id, hT, ht, hg⟩ := hr pins { s3 with heap := s3.heap.push { cls := .type "slice", data := .fields #[vl, vu, .none] } } σ H3 x v vl vu l u s3.heap.objs.size Q I4 r1 (Heap.IsSliceOf.new ..) pl pu q3
 show wpAny (model X.prog X.w) X.A (subscriptTail e (.Slice lo hi none p2) v (.ref s3.heap.objs.size)) (EP X pins σ Q) X.xe { s3 with heap := s3.heap.push { cls := .type "slice", data := .fields #[vl, vu, .none] } }
 exact tail_any (ops := [.ref s3.heap.objs.size, v]) ht hT hg (by with_unfolding_all rfl)
noncomputable def cutV (xs : List V) (lo hi : Option Int) : List V := (xs.drop (HT.sIx xs.length 0 lo)).take (HT.sIx xs.length xs.length hi - HT.sIx xs.length 0 lo)
theorem cutV_length (xs : List V) (lo hi : Option Int) : (cutV xs lo hi).length ≤ xs.length := by
 unfold cutV
 rw [List.length_take, List.length_drop]
 lia
end
end L2
namespace L2
open PySem PySem.Spec PyProof.Rows
noncomputable def ixN (n : Nat) (i : Int) : Option Nat := if 0 ≤ i then (if i < n then some i.toNat else none) else if -(n : Int) ≤ i then some (i + n).toNat else none
noncomputable def atI {α : Type} (xs : List α) (i : Int) : Option α := (ixN xs.length i).bind fun j => xs[j]?
theorem ixN_seq {n : Nat} {i : Int} {j : Nat} (h : ixN n i = some j) : seqIndex? i n = some j ∧ j < n ∧ -(n : Int) ≤ i ∧ i < n := by
 unfold ixN at h
 by_cases h0 : 0 ≤ i
 ·rw [if_pos h0] at h
  by_cases h1 : i < n
  ·rw [if_pos h1] at h
   have e : i.toNat = j := Option.some.inj h
   exact ⟨by rw [seqIndex_of h0 h1, e], by lia, by lia, h1⟩
  ·rw [if_neg h1] at h; cases h
 ·rw [if_neg h0] at h
  by_cases h1 : -(n : Int) ≤ i
  ·rw [if_pos h1] at h
   have e : (i + n).toNat = j := Option.some.inj h
   exact ⟨by rw [seqIndex_neg (by lia) h1, e], by lia, h1, by lia⟩
  ·rw [if_neg h1] at h; cases h
theorem atI_get {α : Type} {xs : List α} {i : Int} {v : α} (h : atI xs i = some v) : ∃ j, seqIndex? i xs.length = some j ∧ xs[j]? = some v ∧ j < xs.length ∧ -(xs.length : Int) ≤ i ∧ i < xs.length := by
 unfold atI at h
 cases e : ixN xs.length i with
 | none => rw [e] at h; cases h
 | some j =>
  rw [e] at h
  obtain ⟨h1, h2, h3, h4⟩ := ixN_seq e
  exact ⟨j, h1, h, h2, h3, h4⟩
theorem atI_nat {α : Type} {xs : List α} {j : Nat} {v : α} (h : xs[j]? = some v) : atI xs (j : Int) = some v := by
 have hj : j < xs.length := (List.getElem?_eq_some_iff.mp h).1
 have e : ixN xs.length (j : Int) = some j := by
  unfold ixN
  rw [if_pos (by lia), if_pos (by lia)]; simp
 unfold atI; rw [e]; exact h
noncomputable def PlainIx (b : Expr) : Prop := ∀ o i, subscripted b false o i = operate [o, i] (getItem o i)
noncomputable def IxR (X : Cx) (r : R2) : Prop :=
 ∀ (value slice : Expr) (pins : List (Addr × Obj)) (s : Shared) (σ : St) (H : Hp) (x y : V) (v u : Value) (Q : VK), Inv X pins σ H s → RelV x v → RelV y u → r x y H Q →
  subscripted slice false v u = operate [v, u] (getItem v u) → wpAny (model X.prog X.w) X.A (subscriptTail value slice v u) (EP X pins σ Q) X.xe s
noncomputable def MtR (X : Cx) (id : String) (r : V → List V → Hp → VK → Prop) : Prop :=
 ∀ (pins : List (Addr × Obj)) (s : Shared) (σ : St) (H : Hp) (x : V) (xs : List V) (v : Value) (us : List Value) (Q : VK), Inv X pins σ H s → RelV x v → Vals xs us → r x xs H Q →
  wpAny (model X.prog X.w) X.A (call (.builtin id) (v :: us)) (EP X pins σ Q) X.xe s
section
variable {X : Cx} {a b : Expr} {ta tb : TE} {pos : Pos}
theorem IxR.or {r r' : R2} (h : IxR X r) (h' : IxR X r') : IxR X (fun x y H Q => r x y H Q ∨ r' x y H Q) := by
 intro value slice pins s σ H x y v u Q I rx ry q hs
 rcases q with q | q
 ·exact h value slice pins s σ H x y v u Q I rx ry q hs
 ·exact h' value slice pins s σ H x y v u Q I rx ry q hs
theorem pe_ix {r : R2} (hr : IxR X r) (ha : PE X a ta) (hb : PE X b tb) (hs : PlainIx b) : PE X (.Subscript a b pos) (tOp r ta tb) := by
 intro pins s σ H Q I h
 exact Subscript_ (binT ha hb I h fun v u s2 x y H2 I2 rx ry q => hr a b pins s2 σ H2 x y v u Q I2 rx ry q (hs _ _))
noncomputable def rIxL (K : PySem.W.Frag) : R2 := fun x y H Q => ∃ p xs i v, x = .ref p ∧ y = .int i ∧ SqL K H p xs ∧ atI xs i = some v ∧ Q v H
noncomputable def rIxT (K : PySem.W.Frag) : R2 := fun x y H Q => ∃ p xs i v, x = .ref p ∧ y = .int i ∧ SqT K H p xs ∧ atI xs i = some v ∧ Q v H
noncomputable def rIxS : R2 := fun x y H Q => ∃ z i c, x = .str z ∧ y = .int i ∧ z.length ≤ sizeLine ∧ atI z.cps.toList i = some c ∧ Q (.str ⟨#[c]⟩) H
theorem ix_list : IxR X (rIxL X.K) := by
 intro value slice pins s σ H x y v u Q I rx ry h hs
 obtain ⟨p, xs, i, z, rfl, rfl, hq, he, q⟩ := h
 cases rx
 obtain ⟨t, rfl⟩ := ry
 obtain ⟨its, r, pl, hz⟩ := I.list hq
 obtain ⟨j, h1, h2, h3, h4, h5⟩ := atI_get he
 obtain ⟨w, ew, rw'⟩ := r.get h2
 have hl := r.length
 have hn := line63
 have fin : EP X pins σ Q w s := ⟨z, H, I, rw', q⟩
 by_cases h0 : 0 ≤ i
 ·have hj : i.toNat = j := by
   rw [seqIndex_of h0 h5] at h1
   exact Option.some.inj h1
  exact item_listR pl.isList h0 (by lia) (by rw [hj]; simpa using ew) fin hs
 ·have hj : (i + (its.toArray.size : Int)).toNat = j := by
   rw [seqIndex_neg (by lia) h4] at h1
   rw [List.size_toArray, ← hl]
   exact Option.some.inj h1
  exact subscriptTail_builtinR (x := w) pl.isList.typeIs slot_list_getitem.lookup
   (wpAny_getItem_list_neg (Q := fun r s' => r = w ∧ EP X pins σ Q r s') pl.isList (by lia) (by rw [List.size_toArray] <;> lia) (by lia) (by rw [hj]; simpa using ew) ⟨rfl, fin⟩) hs
theorem ix_tup : IxR X (rIxT X.K) := by
 intro value slice pins s σ H x y v u Q I rx ry h hs
 obtain ⟨p, xs, i, z, rfl, rfl, hq, he, q⟩ := h
 cases rx
 obtain ⟨t, rfl⟩ := ry
 obtain ⟨its, r, pl, hz⟩ := I.tuple hq
 obtain ⟨j, h1, h2, h3, h4, h5⟩ := atI_get he
 obtain ⟨w, ew, rw'⟩ := r.get h2
 have hl := r.length
 have hn := line63
 have fin : EP X pins σ Q w s := ⟨z, H, I, rw', q⟩
 exact subscriptTail_builtinR (x := w) pl.typeIs slot_tuple_getitem.lookup
  (getItem_tuple (j := j) (Q := fun r s' => r = w ∧ EP X pins σ Q r s') pl (by lia) (by lia) (by rw [List.size_toArray, ← hl]; exact h1) (by simpa using ew) ⟨rfl, fin⟩) hs
theorem ix_str : IxR X rIxS := by
 intro value slice pins s σ H x y v u Q I rx ry h hs
 obtain ⟨z, i, c, rfl, rfl, hz, he, q⟩ := h
 obtain ⟨t, rfl⟩ := rx
 obtain ⟨t', rfl⟩ := ry
 obtain ⟨j, h1, h2, h3, h4, h5⟩ := atI_get he
 have hl : z.cps.toList.length = z.length := by simp [Str.length]
 rw [hl] at h1 h4 h5
 have hn := line63
 exact tail_any (typeIs_str s z t) slot_str_getitem.lookup (getItem_str (c := c) (by
  have e1 : decide (i < -(2 ^ 63 : Int)) = false := decide_eq_false (by lia)
  have e2 : decide (i ≥ 2 ^ 63) = false := decide_eq_false (by lia)
  rw [e1, e2, Bool.or_false]) (by rw [h1]; simpa using h2) ⟨.str ⟨#[c]⟩, H, I.tok _, ⟨_, rfl⟩, q⟩) hs
noncomputable def rIx (K : PySem.W.Frag) : R2 := fun x y H Q => rIxL K x y H Q ∨ rIxT K x y H Q ∨ rIxS x y H Q
theorem ix_seq : IxR X (rIx X.K) := ix_list.or (ix_tup.or ix_str)
theorem mapSeq_set (its : List Value) (n j : Nat) (u : Value) : Obj.mapSeq (·.setIfInBounds j u) { cls := .type "list", data := .seq its.toArray n } = { cls := .type "list", data := .seq (its.set j u).toArray n } := by
 simp [Obj.mapSeq]
theorem Inv.lst {pins : List (Addr × Obj)} {σ : St} {H : Hp} {s : Shared} {p : Addr} {xs : List V} (I : Inv X pins σ H s) (h : H p = some (.lst xs)) :
  ∃ (its : List Value) (n : Nat), Vals xs its ∧ s.heap.get? p = some { cls := .type "list", data := .seq its.toArray n } ∧ xs.length ≤ sizeLine := by
 obtain ⟨z, its, n, r, e⟩ := I.hok p _ h
 exact ⟨its, n, r, e, z⟩
theorem Inv.lstUpd {pins : List (Addr × Obj)} {σ : St} {H : Hp} {s : Shared} {p : Addr} {xs ys : List V} {its its' : List Value} {n n' : Nat} {f : Obj → Obj} (I : Inv X pins σ H s) (h : H p = some (.lst xs))
  (ho : s.heap.get? p = some { cls := .type "list", data := .seq its.toArray n }) (hf : f { cls := .type "list", data := .seq its.toArray n } = { cls := .type "list", data := .seq its'.toArray n' }) (r : Vals ys its') (hz : ys.length ≤ sizeLine) (t : Nat) :
  Inv X pins σ (upd H p (.lst ys)) { s with heap := s.heap.update p f, toks := t } := by
 have e : (s.heap.update p f).get? p = some { cls := .type "list", data := .seq its'.toArray n' } := by
  rw [Heap.get?_update_self f ho (by rw [hf] <;> rfl), hf]
 refine I.write (x := p) (e := p) (by rw [h]; trivial) (.inl rfl) (fun b u hb q => (Heap.get?_update_other _ _ (Ne.symm hb)).trans q) ⟨_, e⟩ ?_
 exact ⟨hz, its', n', r, e⟩
noncomputable def rSetL : V → V → V → Hp → (Hp → Prop) → Prop := fun o i v H Q => ∃ p xs k j, o = .ref p ∧ i = .int k ∧ H p = some (.lst xs) ∧ ixN xs.length k = some j ∧ Q (upd H p (.lst (xs.set j v)))
theorem set_list : PSet X rSetL := by
 intro pins s σ H o i v ov iv u Q I ro ri rv h
 obtain ⟨p, xs, k, j, rfl, rfl, hp, hj, q⟩ := h
 cases ro
 obtain ⟨t, rfl⟩ := ri
 obtain ⟨its, n, r, ho, hz⟩ := I.lst hp
 obtain ⟨h1, h2, h3, h4⟩ := ixN_seq hj
 have hl := r.length
 have hn := line63
 have I' : Inv X pins σ (upd H p (.lst (xs.set j v))) { s with heap := s.heap.update p (Obj.mapSeq (·.setIfInBounds j u)) } :=
  I.lstUpd hp ho (mapSeq_set its n j u) (r.set rv j) (by rw [List.length_set]; exact hz) s.toks
 by_cases h0 : 0 ≤ k
 ·have hk : k.toNat = j := by
   rw [seqIndex_of h0 h4] at h1
   exact Option.some.inj h1
  exact PySem.W.ki_setAt ho h0 (by lia) (by rw [List.size_toArray, ← hl]; exact h4) (by rw [hk]; exact ⟨_, I', q⟩)
 ·have hk : (k + (its.toArray.size : Int)).toNat = j := by
   rw [seqIndex_neg (by lia) h3] at h1
   rw [List.size_toArray, ← hl]
   exact Option.some.inj h1
  exact PySem.W.ki_setBack ho (by lia) (by rw [List.size_toArray, ← hl]; exact h3) (by lia) (by rw [hk]; exact ⟨_, I', q⟩)
theorem slice_bounds (lo hi : Option Int) (n : Nat) : (sliceBounds lo hi none n).1 = ((HT.sIx n 0 lo : Nat) : Int) ∧ (sliceBounds lo hi none n).2.1 = ((HT.sIx n n hi : Nat) : Int) ∧ (sliceBounds lo hi none n).2.2 = 1 := by
 refine ⟨?_, ?_, rfl⟩
 ·cases lo with
  | none => simp [sliceBounds, HT.sIx]
  | some i =>
   simp only [sliceBounds, HT.sIx, Option.getD_none, show (1 : Int) > 0 by decide, if_true]
   by_cases h : i < 0
   ·simp only [h, if_true] <;> lia
   ·simp only [h, if_false] <;> lia
 ·cases hi with
  | none => simp [sliceBounds, HT.sIx]
  | some i =>
   simp only [sliceBounds, HT.sIx, Option.getD_none, show (1 : Int) > 0 by decide, if_true]
   by_cases h : i < 0
   ·simp only [h, if_true] <;> lia
   ·simp only [h, if_false] <;> lia
theorem slicePick_cut (its : List Value) (lo hi : Option Int) : slicePick its.toArray lo hi none = ((its.drop (HT.sIx its.length 0 lo)).take (HT.sIx its.length its.length hi - HT.sIx its.length 0 lo)).toArray := by
 obtain ⟨h1, h2, h3⟩ := slice_bounds lo hi its.toArray.size
 unfold slicePick
 rw [h1, h2, h3]
 simp only [sliceRange_one, pick_run, List.size_toArray] <;> rfl
noncomputable def rSlL (K : PySem.W.Frag) : V → Option Int → Option Int → Hp → VK → Prop := fun x lo hi H Q => ∃ a xs, x = .ref a ∧ SqL K H a xs ∧ ∀ p, H p = none → Q (.ref p) (upd H p (.lst (cutV xs lo hi)))
theorem sl_list : SlR X (rSlL X.K) := by
 intro pins s σ H x v vl vu lo hi sl Q I rx hs pl pu h
 obtain ⟨a, xs, rfl, hx, q⟩ := h
 cases rx
 obtain ⟨its, r, ht, hz⟩ := I.list hx
 have hlen := r.length
 refine ⟨"list", _, slot_list_getitem.lookup, ht.isList.typeIs, ?_⟩
 refine wpAny_getItem_list_slice ht.isList hs pl pu .none (by simp) ?_ (by rw [List.size_toArray] <;> lia)
 rw [slicePick_cut, ← hlen]
 refine ⟨.ref s.heap.objs.size, _, I.laid (t' := s.toks) (o := .lst (cutV xs lo hi)) (fun b ob q => Heap.get?_push_of_some _ q) (Nat.le_refl _) ?_, rfl, q _ (I.hok.fresh (Nat.le_refl _))⟩
 exact ⟨Nat.le_trans (cutV_length xs lo hi) hz, _, 0, (r.drop (HT.sIx xs.length 0 lo)).take (HT.sIx xs.length xs.length hi - HT.sIx xs.length 0 lo), Heap.get?_push_size _ rfl⟩
noncomputable def flatV : V → Bool
 | .non => true
 | .bl _ => true
 | .int _ => true
 | .str _ => true
 | _ => false
noncomputable def eqV : V → V → Bool
 | .non, .non => true
 | .bl a, .bl b => a == b
 | .bl a, .int b => (if a then 1 else 0) == b
 | .int a, .bl b => a == (if b then 1 else 0)
 | .int a, .int b => a == b
 | .str a, .str b => a == b
 | _, _ => false
theorem eqAt_V {A : Around} {s : Shared} {y x : V} {u v : Value} (ry : RelV y u) (rx : RelV x v) (fy : flatV y = true) (fx : flatV x = true) : SeqAt.EqAt A s u v (eqV y x) := by
 cases y with
 | non =>
  cases ry
  cases x with
  | non => cases rx; exact SeqAt.EqAt.same _
  | bl b => cases rx; exact SeqAt.EqAt.none_bool b
  | int b => obtain ⟨t, rfl⟩ := rx; exact SeqAt.EqAt.none_int b t
  | str b => obtain ⟨t, rfl⟩ := rx; exact SeqAt.EqAt.none_str b t
  | _ => exact absurd (show false = true from fx) Bool.false_ne_true
 | bl a =>
  cases ry
  cases x with
  | non => cases rx; exact SeqAt.EqAt.bool_none a
  | bl b => cases rx; exact SeqAt.EqAt.bool_bool a b
  | int b => obtain ⟨t, rfl⟩ := rx; exact SeqAt.EqAt.bool_int a b t
  | str b => obtain ⟨t, rfl⟩ := rx; exact SeqAt.EqAt.bool_str a b t
  | _ => exact absurd (show false = true from fx) Bool.false_ne_true
 | int a =>
  obtain ⟨t', rfl⟩ := ry
  cases x with
  | non => cases rx; exact SeqAt.EqAt.int_none a t'
  | bl b => cases rx; exact SeqAt.EqAt.int_bool a t' b
  | int b => obtain ⟨t, rfl⟩ := rx; exact SeqAt.EqAt.int_int a t' b t
  | str b => obtain ⟨t, rfl⟩ := rx; exact SeqAt.EqAt.int_str a t' b t
  | _ => exact absurd (show false = true from fx) Bool.false_ne_true
 | str a =>
  obtain ⟨t', rfl⟩ := ry
  cases x with
  | non => cases rx; exact SeqAt.EqAt.str_none a t'
  | bl b => cases rx; exact SeqAt.EqAt.str_bool a t' b
  | int b => obtain ⟨t, rfl⟩ := rx; exact SeqAt.EqAt.str_int a t' b t
  | str b => obtain ⟨t, rfl⟩ := rx; exact SeqAt.EqAt.str_str a t' b t
  | _ => exact absurd (show false = true from fx) Bool.false_ne_true
 | _ => exact absurd (show false = true from fy) Bool.false_ne_true
noncomputable def eqU (x : V) (u : Value) : Bool := match u with
 | .none => eqV .non x
 | .bool b => eqV (.bl b) x
 | .int i _ => eqV (.int i) x
 | .str z _ => eqV (.str z) x
 | _ => false
theorem eqU_of {x y : V} {u : Value} (r : RelV y u) (f : flatV y = true) : eqU x u = eqV y x := by
 cases y with
 | non => cases r; rfl
 | bl b => cases r; rfl
 | int i => obtain ⟨t, rfl⟩ := r; rfl
 | str z => obtain ⟨t, rfl⟩ := r; rfl
 | _ => exact absurd (show false = true from f) Bool.false_ne_true
theorem any_eqU {x : V} : ∀ {xs : List V} {us : List Value}, Vals xs us → xs.all flatV = true → us.any (eqU x) = xs.any fun y => eqV y x
 | _, _, .nil, _ => rfl
 | y :: xs, u :: us, .cons r t, f => by
  rw [List.all_cons, Bool.and_eq_true] at f
  rw [List.any_cons, List.any_cons, eqU_of r f.1, any_eqU t f.2]
theorem mem_eqAt {A : Around} {s : Shared} {x : V} {v : Value} (rx : RelV x v) (fx : flatV x = true) : ∀ {xs : List V} {us : List Value}, Vals xs us → xs.all flatV = true → ∀ u ∈ us, SeqAt.EqAt A s u v (eqU x u)
 | _, _, .nil, _ => fun u hu => by cases hu
 | y :: xs, u :: us, .cons r t, f => fun u' hu => by
  rw [List.all_cons, Bool.and_eq_true] at f
  rcases List.mem_cons.mp hu with rfl | hu
  ·rw [eqU_of r f.1]; exact eqAt_V r rx f.1 fx
  ·exact mem_eqAt rx fx t f.2 u' hu
noncomputable def inV (x : V) (xs : List V) : Bool := xs.any fun y => eqV y x
noncomputable def rIn (K : PySem.W.Frag) (neg : Bool) : R2 := fun x y H Q => ∃ p xs, y = .ref p ∧ (SqL K H p xs ∨ SqT K H p xs) ∧ flatV x = true ∧ xs.all flatV = true ∧ Q (.bl (if neg then !inV x xs else inV x xs)) H
theorem op_in_seq : OpR X (compareOp .In) (rIn X.K false) := by
 intro pins s σ H x y v u Q I rx ry h
 obtain ⟨p, xs, rfl, hq, fx, fs, q⟩ := h
 cases ry
 rcases hq with hq | hq
 ·obtain ⟨its, r, pl, hz⟩ := I.list hq
  refine SeqAt.in_listAt (eqU x) pl.isList (fun w hw => mem_eqAt rx fx r fs w (by simpa using hw)) ⟨.bl _, H, I, rfl, ?_⟩
  rw [show its.toArray.any (eqU x) = its.any (eqU x) by simp, any_eqU r fs]
  exact q
 ·obtain ⟨its, r, pl, hz⟩ := I.tuple hq
  refine SeqAt.in_tupleAt (eqU x) pl (fun w hw => mem_eqAt rx fx r fs w (by simpa using hw)) ⟨.bl _, H, I, rfl, ?_⟩
  rw [show its.toArray.any (eqU x) = its.any (eqU x) by simp, any_eqU r fs]
  exact q
theorem op_notIn_seq : OpR X (compareOp .NotIn) (rIn X.K true) := by
 intro pins s σ H x y v u Q I rx ry h
 obtain ⟨p, xs, rfl, hq, fx, fs, q⟩ := h
 cases ry
 rcases hq with hq | hq
 ·obtain ⟨its, r, pl, hz⟩ := I.list hq
  refine SeqAt.notIn_listAt (eqU x) pl.isList (fun w hw => mem_eqAt rx fx r fs w (by simpa using hw)) ⟨.bl _, H, I, rfl, ?_⟩
  rw [show its.toArray.any (eqU x) = its.any (eqU x) by simp, any_eqU r fs]
  exact q
 ·obtain ⟨its, r, pl, hz⟩ := I.tuple hq
  refine SeqAt.notIn_tupleAt (eqU x) pl (fun w hw => mem_eqAt rx fx r fs w (by simpa using hw)) ⟨.bl _, H, I, rfl, ?_⟩
  rw [show its.toArray.any (eqU x) = its.any (eqU x) by simp, any_eqU r fs]
  exact q
theorem call_len_seq : CallR X (.builtin "len") (fun xs H Q => ∃ p ys, xs = [.ref p] ∧ (SqL X.K H p ys ∨ SqT X.K H p ys) ∧ Q (.int ys.length) H) := by
 intro pins s σ H xs us Q I r h
 obtain ⟨p, ys, rfl, hq, q⟩ := h
 obtain ⟨u, rfl, rx⟩ := vals1 r
 cases rx
 have hn := line63
 rcases hq with hq | hq
 ·obtain ⟨its, r', pl, hz⟩ := I.list hq
  have hlen := r'.length
  exact Calls.call_len_list pl.isList (by simp only [List.size_toArray] <;> lia) ⟨.int ys.length, H, I.tok _, ⟨s.toks + 1, by rw [List.size_toArray, hlen]⟩, q⟩
 ·obtain ⟨its, r', pl, hz⟩ := I.tuple hq
  have hlen := r'.length
  exact len_tuple pl (by simp only [List.size_toArray] <;> lia) ⟨.int ys.length, H, I.tok _, ⟨s.toks + 1, by rw [List.size_toArray, hlen]⟩, q⟩
theorem call_list_of : CallR X (.type "list") (fun xs H Q => ∃ p ys, xs = [.ref p] ∧ (SqL X.K H p ys ∨ SqT X.K H p ys) ∧ ∀ l, H l = none → Q (.ref l) (upd H l (.lst ys))) := by
 intro pins s σ H xs us Q I r h
 obtain ⟨p, ys, rfl, hq, q⟩ := h
 obtain ⟨u, rfl, rx⟩ := vals1 r
 cases rx
 have fin : ∀ (its : List Value), Vals ys its → ys.length ≤ sizeLine → ∀ (h' : Heap) (c' : Nat), (∀ b o', s.heap.get? b = some o' → h'.get? b = some o') →
   h'.get? s.heap.objs.size = some { cls := .type "list", dict := none, data := .seq its.toArray c', slots := #[] } → EP X pins σ Q (.ref s.heap.objs.size) { s with heap := h' } := fun its r' hz h' c' kp e =>
  ⟨.ref s.heap.objs.size, _, I.laid (t' := s.toks) kp (Nat.le_refl _) (show ObjOk X.prog X.w _ h' _ (.lst ys) from ⟨hz, its, c', r', e⟩), rfl, q _ (I.hok.fresh (Nat.le_refl _))⟩
 rcases hq with hq | hq
 ·obtain ⟨its, r', pl, hz⟩ := I.list hq
  have hlen := r'.length
  obtain ⟨o, ho, hc, n, hd⟩ := pl.isList
  exact call_list_seq p (.inl rfl) ho hc hd (fun h' c' kp e => fin its r' hz h' c' kp e) (by simp only [List.size_toArray] <;> lia)
 ·obtain ⟨its, r', pl, hz⟩ := I.tuple hq
  have hlen := r'.length
  obtain ⟨o, ho, hc, n, hd⟩ := pl
  exact call_list_seq p (.inr rfl) ho hc hd (fun h' c' kp e => fin its r' hz h' c' kp e) (by simp only [List.size_toArray] <;> lia)
theorem call_tuple_of : CallR X (.type "tuple") (fun xs H Q => ∃ p ys, xs = [.ref p] ∧ ((SqL X.K H p ys ∧ ∀ l, H l = none → Q (.ref l) (upd H l (.tup ys))) ∨ (SqT X.K H p ys ∧ Q (.ref p) H))) := by
 intro pins s σ H xs us Q I r h
 obtain ⟨p, ys, rfl, h⟩ := h
 obtain ⟨u, rfl, rx⟩ := vals1 r
 cases rx
 rcases h with ⟨hq, q⟩ | ⟨hq, q⟩
 ·obtain ⟨its, r', pl, hz⟩ := I.list hq
  have hlen := r'.length
  refine call_tuple_list pl.isList (fun h' kp => ?_) (by simp only [List.size_toArray] <;> lia)
  have I1 : Inv X pins σ H { s with heap := h' } := I.kept (t' := s.toks) kp
  have I2 : Inv X pins σ (upd H h'.objs.size (.tup ys)) { s with heap := h'.push { cls := .type "tuple", data := .seq its.toArray } } :=
   I1.laid (t' := s.toks) (fun b o e => Heap.get?_push_of_some _ e) (Nat.le_refl _) (show ObjOk X.prog X.w _ _ _ (.tup ys) from ⟨hz, its, r', IsTup.new _ _⟩)
  exact ⟨.ref h'.objs.size, _, I2, rfl, q _ (I1.hok.fresh (Nat.le_refl _))⟩
 ·obtain ⟨its, r', pl, hz⟩ := I.tuple hq
  exact call_tuple_same pl ⟨.ref p, H, I, rfl, q⟩
noncomputable def tyV (K : PySem.W.Frag) (T : String) (x : V) (H : Hp) : Prop := match x with
 | .str _ => T = "str"
 | .int _ => T = "int"
 | .ref p => (T = "list" ∧ ∃ xs, SqL K H p xs) ∨ (T = "tuple" ∧ ∃ o, K.lookup p = some o ∧ o.cls = .type "tuple" ∧ o.dict = none) ∨
   (T = "dict" ∧ ((∃ kvs, H p = some (.dK kvs)) ∨ ∃ kvs, H p = some (.dT kvs))) ∨ (T = "set" ∧ ∃ S n, H p = some (.set S n))
 | _ => False
theorem tyV_is {pins : List (Addr × Obj)} {σ : St} {H : Hp} {s : Shared} {T : String} {x : V} {v : Value} (I : Inv X pins σ H s) (r : RelV x v) (ty : tyV X.K T x H) :
  s.TypeIs v T ∧ ∀ a, v = .ref a → ∃ ob, s.heap.get? a = some ob ∧ ob.dict = none := by
 cases x with
 | str z =>
  obtain ⟨t, rfl⟩ := r
  cases (show T = "str" from ty)
  exact ⟨typeIs_str s z t, fun _ e => nomatch e⟩
 | int i =>
  obtain ⟨t, rfl⟩ := r
  cases (show T = "int" from ty)
  exact ⟨typeIs_int s i t, fun _ e => nomatch e⟩
 | ref p =>
  cases r
  rcases ty with ⟨rfl, xs, hq⟩ | ⟨rfl, o, hk, hc, hd⟩ | ⟨rfl, hk⟩ | ⟨rfl, S, n, hk⟩
  ·obtain ⟨its, _, pl, _⟩ := I.list hq
   refine ⟨pl.isList.typeIs, fun a e => ?_⟩
   cases e
   obtain ⟨o, n, e, c, hd, _⟩ := pl
   exact ⟨o, e, hd⟩
  ·refine ⟨⟨o, I.kIn p o hk, hc⟩, fun a e => ?_⟩
   cases e
   exact ⟨o, I.kIn _ o hk, hd⟩
  ·have z : ∃ o, s.heap.get? p = some o ∧ o.ExactDict := by
    rcases hk with ⟨kvs, hk⟩ | ⟨kvs, hk⟩
    ·obtain ⟨_, _, _, _, o, _, _, e, ex, _⟩ := I.hok p _ hk
     exact ⟨o, e, ex⟩
    ·obtain ⟨_, _, _, _, o, _, _, e, ex, _⟩ := I.hok p _ hk
     exact ⟨o, e, ex⟩
   obtain ⟨o, e, ex⟩ := z
   refine ⟨⟨o, e, ex.1⟩, fun a e2 => ?_⟩
   cases e2
   exact ⟨o, e, ex.2.1⟩
  ·obtain ⟨o, _, _, _, e, ex, _⟩ := I.hok p _ hk
   refine ⟨⟨o, e, ex.1⟩, fun a e2 => ?_⟩
   cases e2
   exact ⟨o, e, ex.2.1⟩
 | _ => exact False.elim ty
noncomputable def tBM (K : PySem.W.Frag) (T : String) (r : V → List V → Hp → VK → Prop) (to : TE) (t : TA) : TE := fun σ H Q => to σ H fun x H1 => tyV K T x H1 ∧ t σ H1 fun xs H2 => r x xs H2 Q
variable {o e : Expr} {es : List Expr} {to : TE} {t : TA} {name : Str} {apos cpos : Pos} {T id : String} {r : V → List V → Hp → VK → Prop}
theorem pe_bm (pa : PlainAttrs T) (slot : Slot T name id) (hty : typeOf (.builtin id) = pure (.type "method_descriptor")) (hm : MtR X id r) (ho : PE X o to) (ha : PA X (e :: es) t)
  (hbase : attributeBase o name X.env (eval o X.env) = eval o X.env := by rfl)
  (hfew : ((backTo cpos (starEach (e :: es) X.env)).all (fun x => !x.1) && (backToKw cpos (keywordEach [] X.env)).all (fun x => x.1.isSome)
   && decide ((e :: es).length + ([] : List Keyword).length + (if ([] : List Keyword).isEmpty then 0 else 1) < 30)) = true := by rfl)
  (hline : (apos.endLine == cpos.line) = true := by rfl) (hs : starEach (e :: es) X.env = (false, eval e X.env) :: starEach es X.env := by rfl) (hplain : (backTo cpos (starEach es X.env)).any (·.1) = false := by rfl) :
  PE X (.Call (.Attribute o name apos) (e :: es) [] cpos) (tBM X.K T r to t) := by
 intro pins s σ H Q I h
 refine wpAny_Call_method_late hbase hfew hline rfl (thn (ho pins s σ H _ I h) fun v s1 ⟨x, H1, I1, r1, ty, q1⟩ => ?_)
 obtain ⟨h1, h2⟩ := tyV_is I1 r1 ty
 refine ⟨T, id, pa, slot, hty, h1, h2, ?_⟩
 have hA := ha cpos pins s1 σ H1 _ I1 q1
 rw [hs] at hA ⊢
 refine Calls.callWith_builtin (by show (false || (backTo cpos (starEach es X.env)).any (·.1)) = false; rw [hplain] <;> rfl) (Calls.evalArgs_plain ?_)
 exact thn hA fun us s2 ⟨vs, H2, I2, r2, q2⟩ => hm pins s2 σ H2 x vs v us Q I2 r1 r2 q2
end
end L2
namespace L2
open PySem PySem.Spec PyProof.Rows
noncomputable def MtM (X : Cx) (id : String) (r : V → List V → Hp → VK → Prop) : Prop :=
 ∀ (pins : List (Addr × Obj)) (s : Shared) (σ : St) (H : Hp) (x : V) (xs : List V) (v : Value) (us : List Value) (Q : VK), Inv X pins σ H s → RelV x v → Vals xs us → r x xs H Q →
  wpAny (model X.prog X.w) X.A (call (.builtin id) (v :: us)) (EP X pins σ Q) X.xe s
theorem Vals.one : ∀ {x : V} {us : List Value}, Vals [x] us → ∃ u, us = [u] ∧ RelV x u
 | _, _, .cons r .nil => ⟨_, rfl, r⟩
section
variable {X : Cx} {pins : List (Addr × Obj)} {σ : St} {H : Hp} {s : Shared} {l b : Addr} {xs ys zs : List V}
theorem Inv.lset {its its' : List Value} {n : Nat} {f : Array Value → Array Value} {t' : Nat} (I : Inv X pins σ H s) (hH : H l = some (.lst xs))
  (e : s.heap.get? l = some { cls := .type "list", data := .seq its.toArray n }) (hf : f its.toArray = its'.toArray) (hv : Vals ys its') (hz : ys.length ≤ sizeLine) :
  Inv X pins σ (upd H l (.lst ys)) { s with heap := s.heap.update l (Obj.mapSeq f), toks := t' } := by
 have q := PySem.IsL.update e f
 rw [hf] at q
 refine I.write (x := l) (e := l) (by rw [hH]; exact trivial) (.inl rfl) (fun b' u hb hu => (Heap.get?_update_other s.heap (Obj.mapSeq f) (Ne.symm hb)).trans hu) ⟨_, q⟩ ?_
 exact ⟨hz, its', _, hv, q⟩
theorem Inv.lnew {its : List Value} {t' : Nat} (I : Inv X pins σ H s) (hv : Vals ys its) (hz : ys.length ≤ sizeLine) :
  Inv X pins σ (upd H s.heap.objs.size (.lst ys)) { s with heap := s.heap.push { cls := .type "list", data := .seq its.toArray }, toks := t' } :=
 I.laid (fun _ _ q => Heap.get?_push_of_some _ q) (Nat.le_refl _) ⟨hz, its, 0, hv, Heap.get?_push_size _ rfl⟩
theorem Inv.fresh (I : Inv X pins σ H s) : H s.heap.objs.size = none := I.hok.fresh (Nat.le_refl _)
theorem Inv.lstM (I : Inv X pins σ H s) (hH : H l = some (.lst xs)) : xs.length ≤ sizeLine ∧ ∃ (its : List Value) (n : Nat), Vals xs its ∧ xs.length = its.length ∧ s.heap.get? l = some { cls := .type "list", data := .seq its.toArray n } := by
 obtain ⟨z, its, n, r, e⟩ := I.hok l _ hH
 exact ⟨z, its, n, r, r.length, e⟩
theorem notLongL {n : Nat} (h : n ≤ sizeLine) : Builtin.List.listTooLong n = false := by
 unfold Builtin.List.listTooLong
 exact decide_eq_false (by lia)
end
section
variable {X : Cx}
noncomputable def rAppend : V → List V → Hp → VK → Prop := fun x vs H Q => ∃ l xs y, x = .ref l ∧ vs = [y] ∧ H l = some (.lst xs) ∧ xs.length < sizeLine ∧ Q .non (upd H l (.lst (xs ++ [y])))
theorem mt_append : MtM X "list.append" rAppend := by
 intro pins s σ H x vs v us Q I rx rv h
 obtain ⟨l, xs, y, rfl, rfl, hH, hz, q⟩ := h
 cases rx
 obtain ⟨u, rfl, ru⟩ := rv.one
 obtain ⟨z, its, n, r, hl, e⟩ := I.lstM hH
 refine call_meets F.slot_list_append ⟨_, e, rfl⟩ F.entry_list_append (F.args_list_append_2 _ _) (PySem.list_append l its.toArray n u (by rw [List.size_toArray]; lia)) ⟨e, ?_⟩
 refine ⟨.non, _, I.lset (its' := its ++ [u]) hH e (by simp) (r.append (.cons ru .nil)) ?_, rfl, q⟩
 rw [List.length_append, List.length_singleton]
 lia
noncomputable def rExtend : V → List V → Hp → VK → Prop := fun x vs H Q => ∃ l b xs zs, x = .ref l ∧ vs = [.ref b] ∧ H l = some (.lst xs) ∧ H b = some (.lst zs) ∧ xs.length + zs.length ≤ sizeLine ∧ Q .non (upd H l (.lst (xs ++ zs)))
theorem mt_extend : MtM X "list.extend" rExtend := by
 intro pins s σ H x vs v us Q I rx rv h
 obtain ⟨l, b, xs, zs, rfl, rfl, hH, hB, hz, q⟩ := h
 cases rx
 obtain ⟨u, rfl, ru⟩ := rv.one
 cases ru
 obtain ⟨z, its, n, r, hl, e⟩ := I.lstM hH
 obtain ⟨z2, its2, n2, r2, hl2, e2⟩ := I.lstM hB
 have hsz : its.toArray.size + its2.toArray.size ≤ sizeLine := by rw [List.size_toArray, List.size_toArray]; lia
 have hlong : ¬ (!its.toArray.isEmpty && Builtin.List.listTooLong (its.toArray.size + its2.toArray.size)) = true := by
  rw [notLongL hsz, Bool.and_false]
  exact Bool.false_ne_true
 refine call_meets F.slot_list_extend ⟨_, e, rfl⟩ F.entry_list_extend (F.args_list_extend_2 _ _)
  (AutoSeq1.list_extend_list_list_0 l its.toArray n b its2.toArray n2 hlong (by rw [List.size_toArray]; lia) (by lia)) ⟨e, e2, ?_⟩
 refine ⟨.non, _, I.lset (its' := its ++ its2) hH e (by simp) (r.append r2) ?_, rfl, q⟩
 rw [List.length_append]
 lia
noncomputable def rCat : R2 := fun x y H Q => ∃ l b xs zs, x = .ref l ∧ y = .ref b ∧ H l = some (.lst xs) ∧ H b = some (.lst zs) ∧ xs.length + zs.length ≤ sizeLine ∧ ∀ p, H p = none → Q (.ref p) (upd H p (.lst (xs ++ zs)))
theorem op_cat : OpR X (binaryOp .Add) rCat := by
 intro pins s σ H x y v u Q I rx ry h
 obtain ⟨l, b, xs, zs, rfl, rfl, hH, hB, hz, q⟩ := h
 cases rx
 cases ry
 obtain ⟨z, its, n, r, hl, e⟩ := I.lstM hH
 obtain ⟨z2, its2, n2, r2, hl2, e2⟩ := I.lstM hB
 refine PySem.P.add_list e e2 ?_ (by rw [List.size_toArray, List.size_toArray]; lia)
 have ea : its.toArray ++ its2.toArray = (its ++ its2).toArray := by simp
 rw [ea]
 exact ⟨.ref _, _, I.lnew (t' := s.toks) (r.append r2) (by rw [List.length_append]; lia), rfl, q _ I.fresh⟩
end
end L2
namespace Att
open PySem PySem.W PySem.Calls PyProof.Rows
theorem ints_of_wellAll {P : Params} {h : Heap} : ∀ (ns : List Int) (vs : List Value), WellAll P h vs (ns.map WData.int) → IntsAre vs ns := by
 intro ns
 induction ns with
 | nil =>
  intro vs w
  rw [List.map_nil] at w
  cases w
  exact .nil
 | cons n ns ih =>
  intro vs w
  rw [List.map_cons] at w
  cases w with
  | cons a b =>
   cases a
   exact .cons _ _ (ih _ b)
theorem script_of {l : OpenLaw} {n : Nat} (hn : l.most = some n) {P : Params} {h : Heap} {args : List WData} {vals : List Value}
  (hpre : l.row.toRowW.claim.pre args = true) (hwl : WellAll P h vals args) :
  ∃ a vs ns, vals = [Value.ref a] ∧ args = [WData.list (ns.map WData.int)] ∧ h.get? a = some { cls := .type "list", data := .seq vs.toArray } ∧ IntsAre vs ns ∧ ns.length ≤ n := by
 have hsh : WShape.hasAll [] args [.list .int] = true := (pre_splitW hpre).1
 have hc : l.pre.holds [] { args := args } = true := (pre_splitW hpre).2
 obtain ⟨d, r, rfl, h1, h2⟩ := hasAllW_cons hsh
 obtain rfl := hasAllW_nil h2
 obtain ⟨xs, rfl, h3⟩ := hasW_list h1
 obtain ⟨ns, rfl⟩ := items_int h3
 have hlen : ns.length ≤ n := by
  unfold OpenLaw.pre at hc
  have h4 : (WTm.not (.lt (.lit (.int (n : Int))) (.len (.arg 0)))).holds [] { args := [.list (ns.map .int)] } = true := by
   have h4 := (holds_andW hc).1
   rw [hn] at h4
   exact h4
  have h5 := condW_of h4 (w_not (w_lt w_lit (w_len_list (w_arg rfl))))
  rw [List.length_map] at h5
  refine Nat.le_of_not_lt fun q => ?_
  have q' : (n : Int) < ((ns.length : Nat) : Int) := by lia
  first
   | (rw [decide_eq_true q'] at h5; exact absurd h5 (by decide))
   | (simp at h5; lia)
 cases hwl with
 | cons w1 w2 =>
  cases w2
  cases w1 with
  | list ho hall => exact ⟨_, _, ns, rfl, rfl, ho, ints_of_wellAll ns _ hall, hlen⟩
theorem post_true (l : OpenLaw) (args : List WData) : l.row.toRowW.claim.post args (.bool true) args = true :=
 postW_of (r := l.row.toRowW) (X := (true == true))
  (show WShape.has [] (.bool true) .bool = true by first | rfl | decide | simp [WShape.has, WShape.arms, WShape.armsAll])
  (show (WTm.eq .res (.lit (.bool true))).value [] { args := args, res := some (.bool true), after := args } = some (.bool (true == true)) from w_eq_bool (w_res rfl) w_lit) rfl
theorem attach_call {l : OpenLaw} {n : Nat} {q : Program} {loose : List Str} {XP : (Str → Option Value) → Heap → Prop} {YP : World → Heap → Prop} {d : DefRec}
  (hn : l.most = some n) (hdf : d.params.defaults = [])
  (call : ∀ (w : World) (s₀ s₁ : Shared) (mg mb : Str → Option Value) (fa : Addr) (o : Obj) (pm cd doc : Value) (a : Addr) (vs : List Value) (ns : List Int),
   Ground q loose [] XP w s₀ mg mb s₁.heap → YP w s₁.heap →
   s₁.heap.get? fa = some o → o.data = .func (docDef d.name d.params d.body d.scope pm cd doc) → s₁.heap.CodeRec cd d.name → mg d.name = some (.ref fa) →
   s₁.heap.get? a = some { cls := .type "list", data := .seq vs.toArray } → IntsAre vs ns → ns.length ≤ n → s₁.gens = #[] →
   codeAny (model l.prog w) callerA (.call (.ref fa) ⟨[.ref a], []⟩) (fun r s' => r = .ok (.ret (.bool true)) ∧ OldK s₁.heap s'.heap ∧ s'.os = s₁.os ∧ AllBare s'.gens) s₁) :
  WalkO q loose XP YP l.row.toRowW d [] (fun f vs => PySem.call f vs) := by
 intro w s₀ s₁ mg mb G Y fa o pm cd doc dV kV ho hd hcd hD hmg hg args vals as hpre hlay hrd hwl hlo
 obtain rfl : dV = .none := Dflts.none hD hdf
 obtain rfl : kV = .none := Dflts.noKw hD
 obtain ⟨a, vs, ns, rfl, rfl, hobj, hints, hlen⟩ := script_of hn hpre hwl
 refine enter_call (codeAny_mono (call w s₀ s₁ mg mb fa o pm cd doc a vs ns G Y ho (fd_plain hd) hcd hmg hobj hints hlen hg) fun r s' hq => ?_)
 obtain ⟨rfl, h2, h3, h4⟩ := hq
 exact ⟨.inl ⟨.bool true, .bool true, [], rfl, fun _ => rfl, .bool true, post_true l _, fun _ => ⟨List.Pairwise.nil, fun _ hm => (nomatch hm)⟩⟩, h2, h3, h4⟩
end Att
namespace L2
open PySem PySem.Spec PyProof.Rows
theorem vals_ints : ∀ {vs : List Value} {ns : List Int}, IntsAre vs ns → Vals (ns.map V.int) vs
 | _, _, .nil => .nil
 | _, _, .cons n t h => .cons ⟨t, rfl⟩ (vals_ints h)
noncomputable def Only (H : Hp) : Prop := ∀ b, H b = none ∨ ∃ o xs, H b = some (.frz o (.lst xs))
theorem law_call {P : Program} {w : World} {K : PySem.W.Frag} {mg mb : Str → Option Value} {CX : CXT} {k : Nat} {fa a : Addr} {fd : FuncData} {x : Str} {sp : Sp} {s₁ : Shared} {vs : List Value} {ns : List Int}
  (KX : K.In s₁.heap) (hns : s₁.heap.Ns mainGlobals mg) (hb : s₁.heap.Ns builtinsNs mb) (hbb : ∀ x : Str, x ≠ "__name__" → mb x = bootBuiltins x) (hlim : s₁.heap.NoLimit) (hg : s₁.gens = #[])
  (ha : s₁.heap.get? a = some { cls := .type "list", data := .seq vs.toArray }) (hi : IntsAre vs ns) (hl : ns.length ≤ sizeLine) (hr : Room k callerA)
  (F : ∀ base : Heap, K.In base → base.Ns mainGlobals mg → FnOk P w K mg base CX k fa fd [x] sp) (hbind : ∀ (s : Shared) (u : Value), BindsTo s fd ⟨[u], []⟩ [(x, u)])
  (hsp : ∀ H : Hp, Only H → SqL K H a (ns.map V.int) → sp [.ref a] H (fun v _ => v = .bl true) fun _ _ _ => False)
  (hCX : ∀ H e s', CX [] H s₁ (fun _ _ _ => False) e s' → False) :
  codeAny (model P w) callerA (.call (.ref fa) ⟨[.ref a], []⟩) (fun r s' => r = .ok (.ret (.bool true)) ∧ OldK s₁.heap s'.heap ∧ s'.os = s₁.os ∧ AllBare s'.gens) s₁ := by
 have rv := vals_ints hi
 have lenV := hi.length
 have core : ∀ H : Hp, Only H → SqL K H a (ns.map V.int) → HOk P w H s₁.heap → (∀ b, H b ≠ none → b = a) → (H a ≠ none → K.lookup a = none) →
   codeAny (model P w) callerA (.call (.ref fa) ⟨[.ref a], []⟩) (fun r s' => r = .ok (.ret (.bool true)) ∧ OldK s₁.heap s'.heap ∧ s'.os = s₁.os ∧ AllBare s'.gens) s₁ := by
  intro H hO hS hok hA hK
  have base_of : ∀ {b : Addr} {o : Obj}, s₁.heap.get? b = some o → H b = none → (hidT s₁.heap H).get? b = some o := fun e n => hidT_get e n
  have noA : ∀ {b : Addr} {o : Obj} {es : Array DictEntry} {ep : Nat}, s₁.heap.get? b = some o → o.data = .dict es ep → H b = none := fun {b o es ep} e d => by
   cases q : H b with
   | none => rfl
   | some u =>
    have e' : b = a := hA b (by rw [q]; simp)
    subst e'
    rw [ha] at e; cases e
    have d' : Data.seq vs.toArray _ = Data.dict es ep := d
    cases d'
  have nsK : ∀ {b : Addr} {m : Str → Option Value}, s₁.heap.Ns b m → (hidT s₁.heap H).Ns b m := fun {b m} ⟨o, es, ep, e, d, r⟩ => ⟨o, es, ep, base_of e (noA e d), d, r⟩
  have hKb : K.In (hidT s₁.heap H) := fun b o e => base_of (KX b o e) (by
   cases q : H b with
   | none => rfl
   | some u =>
    have e' : b = a := hA b (by rw [q]; simp)
    subst e'
    rw [hK (by rw [q]; simp)] at e; cases e)
  have hM : Mod K mg (hidT s₁.heap H) := ⟨hKb, nsK hns, ⟨mb, nsK hb, hbb⟩, let ⟨mc, h1, h2⟩ := hlim; ⟨mc, nsK h1, h2⟩⟩
  have e0 : Env0 P w K mg (hidT s₁.heap H) callerA [] s₁ H := ⟨rfl, hM, fun b o e => of_hidT e, Nat.le_of_eq (hidT_size _ _), trivial, fun b hb => absurd (show b ∈ ([] : List Addr) from hb) (by simp), hok, .of_eq hg⟩
  refine codeAny_mono ((F _ hKb (nsK hns)).run callerA [] s₁ H ⟨[.ref a], []⟩ [.ref a] [.ref a] _ _ hr e0 (hbind s₁ (.ref a)) (.cons rfl .nil) (hsp H hO hS)) fun r s' h => ?_
  cases r with
  | error e => exact (hCX H e s' h).elim
  | ok fl =>
   cases fl with
   | next => exact False.elim h
   | brk => exact False.elim h
   | cont => exact False.elim h
   | ret u =>
    obtain ⟨v, H', os, bare, un, hok', r', q⟩ := h
    have q' : v = .bl true := q
    subst q'
    obtain rfl : u = Value.bool true := r'
    refine ⟨rfl, OldK.of_keep fun b o e => ?_, os, bare⟩
    cases q : H b with
    | none => exact un.keep b o e q (by intro z; exact absurd (show b ∈ ([] : List Addr) from z) (by simp)) (by simp)
    | some u =>
     rcases hO b with z | ⟨ob, xs, z⟩
     ·rw [q] at z; cases z
     ·have z2 := un.frzs b ob _ z
      obtain ⟨e1, _⟩ := hok b _ z
      obtain ⟨e2, _⟩ := hok' b _ z2
      rw [e] at e1; cases e1
      exact e2
 cases hk : K.lookup a with
 | some o =>
  have e := KX a o hk
  rw [ha] at e
  cases e
  refine core (fun _ => none) (fun _ => .inl rfl) (.inr ⟨_, vs.toArray, _, hk, rfl, rfl, rfl, by rw [List.size_toArray, lenV]; exact hl, by simpa using rv⟩) (fun b u z => by have z' : (none : Option HO) = some u := z; cases z') (fun b z => absurd rfl z) fun z => absurd rfl z
 | none =>
  refine core (fun b => if b = a then some (.frz { cls := .type "list", data := .seq vs.toArray } (.lst (ns.map V.int))) else none) (fun b => ?_) (.inl (.inr ⟨{ cls := .type "list", data := .seq vs.toArray }, if_pos rfl⟩)) (fun b u z => ?_) (fun b z => ?_) fun _ => hk
  ·by_cases hb : b = a
   ·exact .inr ⟨_, _, if_pos hb⟩
   ·exact .inl (if_neg hb)
  ·by_cases hb : b = a
   ·have z' := (if_pos hb).symm.trans z
    cases z'
    subst hb
    exact ⟨ha, by rw [List.length_map]; exact hl, vs, _, rv, ha⟩
   ·have z' := (if_neg hb).symm.trans z
    cases z'
  ·by_cases hb : b = a
   ·exact hb
   ·exact absurd (if_neg hb) z
end L2
namespace L2
open PySem PySem.Spec PyProof.Rows
theorem walk_of {l : PySem.W.OpenLaw} {n k : Nat} {q : Program} {loose : List Str} {XP : (Str → Option Value) → Heap → Prop} {YP : World → Heap → Prop} {d : DefRec} {K : Params → PySem.W.Frag} {CX : World → CXT} {sp : World → Sp} {x : Str}
  (hn : l.most = some n) (hn2 : n ≤ sizeLine) (hdf : d.params.defaults = []) (hr : Room k callerA)
  (hY : ∀ (w : World) (h : Heap), YP w h → (K w.params).In h)
  (F : ∀ (w : World) (mg : Str → Option Value) (fa : Addr) (h : Heap), (K w.params).In h → h.Ns mainGlobals mg → mg d.name = some (.ref fa) →
   ∃ fd : FuncData, (∀ (s : Shared) (u : Value), BindsTo s fd ⟨[u], []⟩ [(x, u)]) ∧
    ∀ base : Heap, (K w.params).In base → base.Ns mainGlobals mg → FnOk l.prog w (K w.params) mg base (CX w) k fa fd [x] (sp w))
  (hsp : ∀ (w : World) (H : Hp) (a : Addr) (ns : List Int), ns.length ≤ n → Only H → SqL (K w.params) H a (ns.map V.int) → sp w [.ref a] H (fun v _ => v = .bl true) fun _ _ _ => False)
  (hCX : ∀ (w : World) (H : Hp) (s : Shared) (e : Value) (s' : Shared), CX w [] H s (fun _ _ _ => False) e s' → False) :
  PySem.W.WalkO q loose XP YP l.row.toRowW d [] (fun f vs => PySem.call f vs) := by
 refine Att.attach_call hn hdf fun w s₀ s₁ mg mb fa o pm cd doc a vs ns G Y ho hd hcd hmg hobj hints hlen hg => ?_
 have KX := hY w _ Y
 obtain ⟨fd, hb, hF⟩ := F w mg fa _ KX G.T.g hmg
 exact law_call KX G.T.g G.T.b G.T.builtins G.T.nolimit hg hobj hints (Nat.le_trans hlen hn2) hr hF hb (fun H hO hS => hsp w H a ns hlen hO hS) fun H e s' => hCX w H s₁ e s'
end L2
namespace L2
open PySem PySem.Spec PyProof.Rows
noncomputable def defArgs (s : Stmt) : Arguments := match s with
 | .FunctionDef _ a _ _ _ _ _ _ _ _ => a
 | _ => { posonlyargs := [], args := [], vararg := none, kwonlyargs := [], kw_defaults := [], kwarg := none, defaults := [] }
noncomputable def defBody (s : Stmt) : List Stmt := match s with
 | .FunctionDef _ _ b _ _ _ _ _ _ _ => b
 | _ => []
noncomputable def defScope (s : Stmt) : Scope := match s with
 | .FunctionDef _ _ _ _ _ _ sc _ _ _ => sc
 | _ => { kind := .function, names := [], isGenerator := false, isCoroutine := false }
noncomputable abbrev CX0 : CXT := fun _ _ _ _ _ _ => False
noncomputable abbrev E0 : XK := fun _ _ _ => False
theorem pass0 {X : Cx} : Passes CX0 X E0 := fun _ _ _ _ _ _ _ h => h.elim
structure Fun (K : PySem.W.Frag) (x qual : Str) (st : Stmt) (f : Addr) (fd : FuncData) : Prop where
 ex : ∃ (oc : Value) (od : Option Addr) (kV doc pm : Value) (an : Option Addr) (cdv ct : Value) (osl : Array (Option Value)),
  fd = PySem.W.fnOf x qual (defArgs st) (defBody st) (defScope st) .none kV doc pm an cdv ct ∧ K.lookup f = some ⟨oc, od, .func fd, osl⟩ ∧ PySem.W.codeIn K cdv qual = true
 kp : PySem.W.keepIn K (.ref f) = true
section
variable {P : Program} {w : World} {K : PySem.W.Frag} {mg : Str → Option Value} {base : Heap}
theorem Fun.ok {x qual : Str} {st : Stmt} {f : Addr} {fd : FuncData} {N ps : List Str} {k : Nat} {sp : Sp} (F : Fun K x qual st f fd) (S : FnScope N ps (defScope st)) (len : ∀ vs H Q E, sp vs H Q E → vs.length = ps.length)
  (hbody : ∀ (cdv : Value) (A : Around) (outer : List Env) (s : Shared) (H : Hp) (vs : List V) (Q : VK) (E : XK), Room k (A.deeper (envOfC qual (defScope st) s.heap.objs.size f cdv)) → sp vs H Q E →
   ∃ t, PSs (cxOf CX0 P w K mg base N qual (defScope st) f cdv A outer s H E).nox (defBody st) t ∧ t { nx := fun _ H' => Q .non H', rt := Q } (start N vs) H) : FnOk P w K mg base CX0 (k + 1) f fd ps sp := by
 obtain ⟨oc, od, kV, doc, pm, an, cdv, ct, osl, rfl, lk, hcd⟩ := F.ex
 refine fn_of lk hcd S len fun A outer s H vs Q E hr hsp => ?_
 obtain ⟨t, h, q⟩ := hbody cdv A outer s H vs Q E hr hsp
 exact ⟨t, h.nox, q⟩
theorem fun_mk {x qual : Str} {st : Stmt} {f : Addr} {oc : Value} {od an : Option Addr} {osl : Array (Option Value)} {kV doc pm cdv ct : Value} (l : K.lookup f = some ⟨oc, od, .func (PySem.W.fnOf x qual (defArgs st) (defBody st) (defScope st) .none kV doc pm an cdv ct), osl⟩)
  (c : PySem.W.codeIn K cdv qual = true) (k : PySem.W.keepIn K (.ref f) = true) : Fun K x qual st f (PySem.W.fnOf x qual (defArgs st) (defBody st) (defScope st) .none kV doc pm an cdv ct) := ⟨⟨oc, od, kV, doc, pm, an, cdv, ct, osl, rfl, l, c⟩, k⟩
end
theorem hu_of {A : Around} {k : Nat} (hr : Room k A) : A.units + 1 < cLine := Nat.lt_of_le_of_lt (Nat.add_le_add_left (by decide : 1 ≤ 64) _) hr.units
theorem small1000 {n : Nat} (h : n ≤ 1000) : n < sizeLine := Nat.lt_of_le_of_lt h (by decide)
section
variable {X : Cx}
theorem pv (i : Nat) {x : Str} {pos : Pos} (hN : X.N[i]? = some x := by rfl) (hv : Vis X.env.scope x := by first | exact Or.inl rfl | exact Or.inr (Or.inl rfl) | exact Or.inr (Or.inr rfl)) (hd : (x == ("__debug__" : Str)) = false := by decide)
  (hcd : (x == ("__classdict__" : Str)) = false := by decide) : PE X (.Name x pos) (tVar i) := pe_var hN hv hd hcd
end
theorem iteF {A B : Prop} (h : B) : if false = true then A else B := by
 rw [if_neg Bool.false_ne_true]
 exact h
theorem iteT {A B : Prop} (h : A) : if true = true then A else B := by
 rw [if_pos rfl]
 exact h
theorem ite2 {c A B : Prop} [Decidable c] (h1 : c → A) (h2 : ¬ c → B) : if c then A else B := by
 by_cases h : c
 ·rw [if_pos h]
  exact h1 h
 ·rw [if_neg h]
  exact h2 h
noncomputable def Same (H H' : Hp) : Prop := ∀ b o, H b = some o → H' b = some o
theorem Same.refl (H : Hp) : Same H H := fun _ _ h => h
theorem Same.trans {H H1 H2 : Hp} (a : Same H H1) (b : Same H1 H2) : Same H H2 := fun c o h => b c o (a c o h)
theorem Same.free {H H' : Hp} (e : Same H H') {l : Addr} (h : H' l = Option.none) : H l = Option.none := by
 cases q : H l with
 | none => rfl
 | some o =>
  rw [e l o q] at h
  cases h
theorem Same.seq {K : PySem.W.Frag} {H H' : Hp} {a : Addr} {xs : List V} (e : Same H H') (h : SqL K H a xs) : SqL K H' a xs := by
 rcases h with (h | ⟨o, h⟩) | h
 ·exact .inl (.inl (e _ _ h))
 ·exact .inl (.inr ⟨o, e _ _ h⟩)
 ·exact .inr h
end L2
namespace L2
open PySem PySem.Spec PyProof.Rows
section
variable {κ : Type} [DecidableEq κ]
noncomputable def valV (kvs : List (κ × V)) (k : κ) : Option V := (kvs.find? fun kv => decide (kv.1 = k)).map (·.2)
noncomputable def putK (kvs : List (κ × V)) (k : κ) (v : V) : List (κ × V) :=
 if (kvs.any fun kv => decide (kv.1 = k)) = true then kvs.map (fun kv => if kv.1 = k then (kv.1, v) else kv) else kvs ++ [(k, v)]
theorem valV_pos {p : κ × V} {r : List (κ × V)} {k : κ} (e : p.1 = k) : valV (p :: r) k = some p.2 := by simp [valV, List.find?_cons, e]
theorem valV_neg {p : κ × V} {r : List (κ × V)} {k : κ} (e : ¬ p.1 = k) : valV (p :: r) k = valV r k := by simp [valV, List.find?_cons, e]
theorem valV_any (k : κ) : ∀ kvs : List (κ × V), (kvs.any fun kv => decide (kv.1 = k)) = (valV kvs k).isSome
 | [] => rfl
 | p :: r => by
  rw [List.any_cons]
  by_cases e : p.1 = k
  ·simp only [valV_pos e, decide_eq_true e, Bool.true_or, Option.isSome_some]
  ·rw [valV_neg e, decide_eq_false e, Bool.false_or]; exact valV_any k r
theorem valV_map (k j : κ) (y : V) : ∀ kvs : List (κ × V), valV (kvs.map fun kv => if kv.1 = k then (kv.1, y) else kv) j = (valV kvs j).map fun x => if j = k then y else x
 | [] => rfl
 | p :: r => by
  have ih := valV_map k j y r
  rw [List.map_cons]
  by_cases h : p.1 = k
  ·rw [if_pos h]
   by_cases e : p.1 = j
   ·rw [valV_pos (p := (p.1, y)) e, valV_pos e, Option.map_some, if_pos (e.symm.trans h)]
   ·rw [valV_neg (p := (p.1, y)) e, valV_neg e, ih]
  ·rw [if_neg h]
   by_cases e : p.1 = j
   ·rw [valV_pos (p := p) e, valV_pos e, Option.map_some, if_neg (fun z => h (e.trans z))]
   ·rw [valV_neg (p := p) e, valV_neg e, ih]
theorem valV_snoc (k j : κ) (y : V) : ∀ kvs : List (κ × V), valV kvs k = none → valV (kvs ++ [(k, y)]) j = if j = k then some y else valV kvs j
 | [], _ => by
  by_cases e : k = j
  ·rw [if_pos e.symm]; exact valV_pos (p := (k, y)) e
  ·rw [if_neg (fun z => e z.symm)]; exact valV_neg (p := (k, y)) e
 | p :: r, hn => by
  rw [List.cons_append]
  have hk : ¬ p.1 = k := fun z => by rw [valV_pos z] at hn; cases hn
  rw [valV_neg hk] at hn
  have ih := valV_snoc k j y r hn
  by_cases e : p.1 = j
  ·rw [valV_pos e, valV_pos e, if_neg (fun z => hk (e.trans z))]
  ·rw [valV_neg e, valV_neg e, ih]
theorem valV_put (kvs : List (κ × V)) (k j : κ) (y : V) : valV (putK kvs k y) j = if j = k then some y else valV kvs j := by
 unfold putK
 by_cases a : (kvs.any fun kv => decide (kv.1 = k)) = true
 ·rw [if_pos a, valV_map]
  rw [valV_any] at a
  by_cases e : j = k
  ·obtain ⟨x, hx⟩ := Option.isSome_iff_exists.mp a
   rw [if_pos e, e, hx, Option.map_some, if_pos rfl]
  ·rw [if_neg e]
   cases valV kvs j with
   | none => rfl
   | some x => rw [Option.map_some, if_neg e]
 ·rw [if_neg a]
  refine valV_snoc k j y kvs ?_
  rw [valV_any] at a
  cases q : valV kvs k with
  | none => rfl
  | some x => rw [q] at a; exact (a rfl).elim
theorem length_putK (kvs : List (κ × V)) (k : κ) (v : V) : (putK kvs k v).length ≤ kvs.length + 1 := by
 unfold putK
 split
 ·rw [List.length_map]; lia
 ·rw [List.length_append, List.length_cons, List.length_nil]; lia
theorem RelO.isSome_eq {o : Option V} {u : Option Value} (r : RelO o u) : o.isSome = u.isSome := by
 cases o with
 | none => cases u with
  | none => rfl
  | some _ => exact (show False from r).elim
 | some _ => cases u with
  | none => exact (show False from r).elim
  | some _ => rfl
theorem RelO.getD {o : Option V} {u : Option Value} {d : V} {d' : Value} (r : RelO o u) (rd : RelV d d') : RelV (o.getD d) (u.getD d') := by
 cases o with
 | none => cases u with
  | none => exact rd
  | some _ => exact (show False from r).elim
 | some _ => cases u with
  | none => exact (show False from r).elim
  | some _ => exact r
theorem KV.val {kvs : List (κ × V)} {vs : List (κ × Value)} (r : KV kvs vs) (k : κ) : RelO (valV kvs k) (valueAt vs k) := by
 unfold KV at r
 induction r with
 | nil => exact True.intro
 | @cons p q ps qs h t ih =>
  obtain ⟨h1, h2⟩ := h
  by_cases e : p.1 = k
  ·have e' : q.1 = k := h1.symm.trans e
   have b : valueAt (q :: qs) k = some q.2 := by simp [valueAt, List.find?_cons, e']
   rw [valV_pos e, b]; exact h2
  ·have e' : ¬ q.1 = k := fun z => e (h1.trans z)
   have b : valueAt (q :: qs) k = valueAt qs k := by simp [valueAt, List.find?_cons, e']
   rw [valV_neg e, b]; exact ih
theorem KV.any {kvs : List (κ × V)} {vs : List (κ × Value)} (r : KV kvs vs) (k : κ) : (kvs.any fun kv => decide (kv.1 = k)) = vs.any fun kv => decide (kv.1 = k) := by
 unfold KV at r
 induction r with
 | nil => rfl
 | cons h t ih => rw [List.any_cons, List.any_cons, ih, h.1]
theorem KV.repl {kvs : List (κ × V)} {vs : List (κ × Value)} (r : KV kvs vs) (k : κ) {y : V} {u : Value} (ry : RelV y u) :
  KV (kvs.map fun kv => if kv.1 = k then (kv.1, y) else kv) (vs.map fun kv => if kv.1 = k then (kv.1, u) else kv) := by
 unfold KV at r ⊢
 induction r with
 | nil => exact .nil
 | @cons p q ps qs h t ih =>
  rw [List.map_cons, List.map_cons]
  refine .cons ?_ ih
  obtain ⟨h1, h2⟩ := h
  by_cases e : p.1 = k
  ·rw [if_pos e, if_pos (h1.symm.trans e)]; exact ⟨h1, ry⟩
  ·rw [if_neg e, if_neg (fun z => e (h1.trans z))]; exact ⟨h1, h2⟩
theorem KV.put {kvs : List (κ × V)} {vs : List (κ × Value)} (r : KV kvs vs) (k : κ) {y : V} {u : Value} (ry : RelV y u) : KV (putK kvs k y) (stored vs k u) := by
 unfold putK stored
 rw [r.any k]
 by_cases e : (vs.any fun kv => decide (kv.1 = k)) = true
 ·rw [if_pos e, if_pos e]; exact r.repl k ry
 ·rw [if_neg e, if_neg e]; exact Paired.snoc r ⟨rfl, ry⟩
theorem KV.length {kvs : List (κ × V)} {vs : List (κ × Value)} (r : KV kvs vs) : kvs.length = vs.length := Paired.length r
end
theorem kV_is {P : Program} {w : World} {k : Key} {u : Value} (r : RelV (kV k) u) : (mixKind P w).is k u = true := by
 cases k with
 | inl i => obtain ⟨t, e⟩ := (show ∃ t, u = Value.int i t from r); subst e; exact mixKind_int P w i t
 | inr x => obtain ⟨t, e⟩ := (show ∃ t, u = Value.str x t from r); subst e; exact mixKind_str P w x t
theorem kV_inj {a b : Key} (e : kV a = kV b) : a = b := by
 cases a with
 | inl i => cases b with
  | inl j => have e' : V.int i = V.int j := e; injection e' with e'; rw [e']
  | inr y => exact nomatch (show V.int i = V.str y from e)
 | inr x => cases b with
  | inl j => exact nomatch (show V.str x = V.int j from e)
  | inr y => have e' : V.str x = V.str y := e; injection e' with e'; rw [e']
theorem items_are {P : Program} {w : World} : ∀ {ks : List Key} {us : List Value}, Vals (ks.map kV) us → ItemsAre (mixKind P w) ks us
 | [], _, r => by rw [List.map_nil] at r; cases r; exact .nil
 | k :: ks, _, r => by
  rw [List.map_cons] at r
  cases r with
  | cons h t => exact .cons (kV_is h) (items_are t)
noncomputable abbrev KT (H : Hp) : List (List Key × V) → List (List Key × Addr × Value) → Prop := Paired fun p q => p.1 = q.1 ∧ H q.2.1 = some (.tup (p.1.map kV)) ∧ RelV p.2 q.2.2
theorem KT.val {H : Hp} {kvs : List (List Key × V)} {xs : List (List Key × Addr × Value)} (r : KT H kvs xs) (k : List Key) : RelO (valV kvs k) ((atKey xs k).map (·.2)) := by
 induction r with
 | nil => exact True.intro
 | @cons p q ps qs h t ih =>
  obtain ⟨h1, _, h2⟩ := h
  by_cases e : p.1 = k
  ·have e' : q.1 = k := h1.symm.trans e
   have b : atKey (q :: qs) k = some q.2 := by simp [atKey, List.find?_cons, e']
   rw [valV_pos e, b]; exact h2
  ·have e' : ¬ q.1 = k := fun z => e (h1.trans z)
   have b : atKey (q :: qs) k = atKey qs k := by simp [atKey, List.find?_cons, e']
   rw [valV_neg e, b]; exact ih
theorem KT.repl {H : Hp} {kvs : List (List Key × V)} {xs : List (List Key × Addr × Value)} (r : KT H kvs xs) (k : List Key) {y : V} {u : Value} (ry : RelV y u) :
  KT H (kvs.map fun kv => if kv.1 = k then (kv.1, y) else kv) (xs.map (putAt k u)) := by
 induction r with
 | nil => exact .nil
 | @cons p q ps qs h t ih =>
  rw [List.map_cons, List.map_cons]
  refine .cons ?_ ih
  obtain ⟨h1, h2, h3⟩ := h
  unfold putAt
  by_cases e : p.1 = k
  ·rw [if_pos e, if_pos (h1.symm.trans e)]; exact ⟨h1, h2, ry⟩
  ·rw [if_neg e, if_neg (fun z => e (h1.trans z))]; exact ⟨h1, h2, h3⟩
theorem KT.put {H : Hp} {kvs : List (List Key × V)} {xs : List (List Key × Addr × Value)} (r : KT H kvs xs) (k : List Key) {b : Addr} {y : V} {u : Value} (hb : H b = some (.tup (k.map kV))) (ry : RelV y u) :
  KT H (putK kvs k y) (storedH xs k b u) := by
 have e : (kvs.any fun kv => decide (kv.1 = k)) = (atKey xs k).isSome := by
  rw [valV_any, (r.val k).isSome_eq, Option.isSome_map]
 unfold putK storedH
 rw [e]
 by_cases q : (atKey xs k).isSome = true
 ·rw [if_pos q, if_pos q]; exact r.repl k ry
 ·rw [if_neg q, if_neg q]; exact Paired.snoc r ⟨rfl, hb, ry⟩
theorem KT.keeps {H H' : Hp} {kvs : List (List Key × V)} {xs : List (List Key × Addr × Value)} (r : KT H kvs xs) (ht : ∀ b ys, H b = some (.tup ys) → H' b = some (.tup ys)) : KT H' kvs xs :=
 Paired.mapP r fun _ _ z => ⟨z.1, ht _ _ z.2.1, z.2.2⟩
section
variable {P : Program} {w : World} {H : Hp} {h : Heap} {a : Addr}
theorem rd_of {u : HO} (ok : HOk P w H h) (e : Rd H a u) : ObjOk P w H h a u := e.ok ok
theorem dk_rd {kvs : List (Key × V)} (ok : HOk P w H h) (e : Rd H a (.dK kvs)) : kvs.length ≤ sizeLine ∧ (a == sysModules) = false ∧ ∃ vs, KV kvs vs ∧ h.DictOf (mixKind P w) a vs :=
 show ObjOk P w H h a (.dK kvs) from rd_of ok e
theorem dk_of {kvs : List (Key × V)} (ok : HOk P w H h) (e : H a = some (.dK kvs)) : kvs.length ≤ sizeLine ∧ (a == sysModules) = false ∧ ∃ vs, KV kvs vs ∧ h.DictOf (mixKind P w) a vs := dk_rd ok (.inl e)
theorem key_of {ks : List Key} (ok : HOk P w H h) (e : H a = some (.tup (ks.map kV))) : (tupleKind (mixKind P w)).is h ks a := by
 obtain ⟨_, its, r, o, h1, h2, n, h3⟩ := (show ObjOk P w H h a (.tup (ks.map kV)) from ok a _ e)
 exact ⟨o, its.toArray, n, h1, h2, h3, by simpa using items_are r⟩
theorem dt_rd {kvs : List (List Key × V)} (ok : HOk P w H h) (e : Rd H a (.dT kvs)) : kvs.length ≤ sizeLine ∧ (a == sysModules) = false ∧
  ∃ xs, KT H kvs xs ∧ h.DictOfH (tupleKind (mixKind P w)) a xs := by
 obtain ⟨z, y, xs, r, o, es, ep, h1, h2, h3, h4, h5⟩ := (show ObjOk P w H h a (.dT kvs) from rd_of ok e)
 refine ⟨z, y, xs, r, o, es, ep, h1, h2, h3, h4, fun x hx => ?_, h5⟩
 have all : ∀ {l : List (List Key × V)} {m : List (List Key × Addr × Value)}, KT H l m → ∀ x ∈ m, (tupleKind (mixKind P w)).is h x.1 x.2.1 := by
  intro l m q
  induction q with
  | nil => intro x hx; exact nomatch hx
  | @cons p q ps qs hq t ih =>
   intro x hx
   rcases List.mem_cons.mp hx with e | hx
   ·subst e
    exact key_of ok (by rw [← hq.1]; exact hq.2.1)
   ·exact ih x hx
 exact all r x hx
theorem dt_of {kvs : List (List Key × V)} (ok : HOk P w H h) (e : H a = some (.dT kvs)) : kvs.length ≤ sizeLine ∧ (a == sysModules) = false ∧
  ∃ xs, KT H kvs xs ∧ h.DictOfH (tupleKind (mixKind P w)) a xs := dt_rd ok (.inl e)
end
noncomputable def DGet (H : Hp) (a : Addr) (y : V) (r : Option V) : Prop :=
 (∃ kvs k, Rd H a (.dK kvs) ∧ y = kV k ∧ r = valV kvs k) ∨ ∃ kvs k b, Rd H a (.dT kvs) ∧ y = .ref b ∧ H b = some (.tup (k.map kV)) ∧ r = valV kvs k
noncomputable def DPut (H : Hp) (a : Addr) (y v : V) (H' : Hp) : Prop :=
 (∃ kvs k, H a = some (.dK kvs) ∧ y = kV k ∧ kvs.length < sizeLine ∧ H' = upd H a (.dK (putK kvs k v))) ∨
 ∃ kvs k b, H a = some (.dT kvs) ∧ y = .ref b ∧ H b = some (.tup (k.map kV)) ∧ kvs.length < sizeLine ∧ H' = upd H a (.dT (putK kvs k v))
theorem DGet.k {H : Hp} {a : Addr} {kvs : List (Key × V)} {k : Key} (e : H a = some (.dK kvs)) : DGet H a (kV k) (valV kvs k) := .inl ⟨kvs, k, .inl e, rfl, rfl⟩
theorem DGet.t {H : Hp} {a b : Addr} {kvs : List (List Key × V)} {k : List Key} (e : H a = some (.dT kvs)) (eb : H b = some (.tup (k.map kV))) : DGet H a (.ref b) (valV kvs k) := .inr ⟨kvs, k, b, .inl e, rfl, eb, rfl⟩
theorem DPut.k {H : Hp} {a : Addr} {kvs : List (Key × V)} {k : Key} {v : V} (e : H a = some (.dK kvs)) (hl : kvs.length < sizeLine) : DPut H a (kV k) v (upd H a (.dK (putK kvs k v))) := .inl ⟨kvs, k, e, rfl, hl, rfl⟩
theorem DPut.t {H : Hp} {a b : Addr} {kvs : List (List Key × V)} {k : List Key} {v : V} (e : H a = some (.dT kvs)) (eb : H b = some (.tup (k.map kV))) (hl : kvs.length < sizeLine) :
  DPut H a (.ref b) v (upd H a (.dT (putK kvs k v))) := .inr ⟨kvs, k, b, e, rfl, eb, hl, rfl⟩
section
variable {X : Cx} {pins : List (Addr × Obj)} {σ : St} {H : Hp} {s : Shared} {a : Addr} {y v : V} {u r : Value} {o : Option V} {A : Around} {E : Value → Shared → Prop}
theorem Inv.big (I : Inv X pins σ H s) : sysModules < s.heap.objs.size := by
 have h : mainGlobals < s.heap.objs.size := (I.mod.glob.keeps I.bk).lt
 exact Nat.lt_trans (by decide) h
theorem d_in {Q : Value → Shared → Prop} (hu : A.units + 1 < cLine) (I : Inv X pins σ H s) (g : DGet H a y o) (ry : RelV y u) (h : ∀ s', Inv X pins σ H s' → Q (.bool o.isSome) s') :
  wpAny (model X.prog X.w) A (compareOp .In u (.ref a)) Q E s := by
 rcases g with ⟨kvs, k, e, ey, l⟩ | ⟨kvs, k, b, e, ey, eb, l⟩
 ·subst ey
  obtain ⟨z, hd, vs, rel, dd⟩ := dk_rd I.hok e
  refine wpAny_in_of (kV_is ry) hd dd.mapOf ?_
  rw [← (rel.val k).isSome_eq, ← l]
  exact h _ (I.tok _)
 ·subst ey
  cases (show u = Value.ref b from ry)
  obtain ⟨z, hd, xs, rel, dd⟩ := dt_rd I.hok e
  refine wpAny_in_heap (tupleKind_room_in1 hu) (key_of I.hok eb) hd dd ?_
  have q := (rel.val k).isSome_eq
  rw [Option.isSome_map] at q
  rw [← q, ← l]
  exact h _ (I.tok _)
theorem d_write {h' : Heap} {t' : Nat} {ob : HO} (I : Inv X pins σ H s) (mu : Mut (H a)) (hs : Heap.SameBut a s.heap h') (he : ∃ q, h'.get? a = some q) (new : ObjOk X.prog X.w (upd H a ob) h' a ob) :
  Inv X pins σ (upd H a ob) { s with heap := h', toks := t' } :=
 I.write (x := a) (e := a) mu (.inl rfl) (fun b q hb z => (hs.2 b hb).trans z) he new
theorem dk_new {P : Program} {w : World} {H' : Hp} {h' : Heap} {kvs : List (Key × V)} {vs : List (Key × Value)} (z : kvs.length ≤ sizeLine) (hd : (a == sysModules) = false) (rel : KV kvs vs) (dd : h'.DictOf (mixKind P w) a vs) :
  ObjOk P w H' h' a (.dK kvs) := ⟨z, hd, vs, rel, dd⟩
theorem d_setItem {H' : Hp} {Q : Unit → Shared → Prop} (hu : A.units + 1 < cLine) (I : Inv X pins σ H s) (g : DPut H a y v H') (ry : RelV y u) (rv : RelV v r) (h : ∀ s', Inv X pins σ H' s' → Q () s') :
  wpAny (model X.prog X.w) A (setItem (.ref a) u r) Q E s := by
 rcases g with ⟨kvs, k, e, ey, l, eH⟩ | ⟨kvs, k, b, e, ey, eb, l, eH⟩
 ·subst ey eH
  obtain ⟨z, hd, vs, rel, dd⟩ := dk_of I.hok e
  have hz : vs.length ≤ sizeLine := by rw [← rel.length]; exact z
  have hl : (putK kvs k v).length ≤ sizeLine := by have := length_putK kvs k v; lia
  refine wpAny_setItem_pairs (hsz := hz) (kV_is ry) dd fun h' dd' hs => h _ ?_
  have he : ∃ q, h'.get? a = some q := let ⟨q, _, _, hq, _⟩ := dd'; ⟨q, hq⟩
  exact d_write I (by rw [e]; exact True.intro) hs he (dk_new hl hd (rel.put k rv) dd')
 ·subst ey eH
  cases (show u = Value.ref b from ry)
  obtain ⟨z, hd, xs, rel, dd⟩ := dt_of I.hok e
  have hz : xs.length ≤ sizeLine := by rw [← Paired.length rel]; exact z
  have hl : (putK kvs k v).length ≤ sizeLine := by have := length_putK kvs k v; lia
  refine wpAny_setItem_heap (hsz := hz) (tupleKind_room_in1 hu) (key_of I.hok eb) dd fun h' dd' hs => h _ ?_
  obtain ⟨q, es, ep, hq, h2, h3, h4, _, h5⟩ := dd'
  refine d_write I (by rw [e]; exact True.intro) hs ⟨q, hq⟩ ⟨hl, hd, _, (rel.put k eb rv).keeps fun c ys ec => ?_, q, es, ep, hq, h2, h3, h4, h5⟩
  rw [upd_ne (ne_of ec e (fun z => nomatch z))]
  exact ec
end
noncomputable def tDIn (ty td : TE) : TE := fun σ H Q => ty σ H fun y H1 => td σ H1 fun x H2 => ∃ a o, x = .ref a ∧ DGet H2 a y o ∧ Q (.bl o.isSome) H2
noncomputable def sDPut (td ty tv : TE) : TS := fun D σ H => tv σ H fun v H1 => td σ H1 fun x H2 => ty σ H2 fun y H3 => ∃ a H4, x = .ref a ∧ DPut H3 a y v H4 ∧ D.nx σ H4
section
variable {X : Cx} {o i e value : Expr} {pos pos' tpos : Pos} {td ty tv : TE}
theorem pc_din (hu : X.A.units + 1 < cLine) (hi : PE X i ty) (ho : PE X o td) : PC X .In i o (tDIn ty td) := by
 intro pins s σ H Q I h
 refine thn (hi pins s σ H _ I h) fun iv s1 ⟨y, H1, I1, ry, q1⟩ => thn (ho pins s1 σ H1 _ I1 q1) fun u s2 ⟨x, H2, I2, rx, a, ov, ex, g, q2⟩ => ?_
 subst ex
 obtain rfl : u = Value.ref a := rx
 exact d_in hu I2 g ry fun s3 I3 => ⟨.bl ov.isSome, H2, I3, rfl, q2⟩
theorem ps_dput (hu : X.A.units + 1 < cLine) (ho : PE X o td) (hi : PE X i ty) (hv : PE X value tv) (hs : swapsWith value (some (.Subscript o i pos')) pos.line X.env = pure false) :
  PS X (.Assign [.Subscript o i pos'] value pos) (sDPut td ty tv) := by
 intro pins s σ H D I h
 refine wpAny_Assign_Subscript (thn (hv pins s σ H _ I h) fun r s1 ⟨v, H1, I1, rv, q1⟩ => thn (ho pins s1 σ H1 _ I1 q1) fun u s2 ⟨x, H2, I2, rx, q2⟩ => thn (hi pins s2 σ H2 _ I2 q2) fun iv s3 ⟨y, H3, I3, ry, a, H4, ex, g, q3⟩ => ?_) hs
 subst ex
 obtain rfl : u = Value.ref a := rx
 exact d_setItem hu I3 g ry rv fun s4 I4 => ⟨σ, H4, I4, q3⟩
end
theorem dk_empty {P : Program} {w : World} {H : Hp} (h : Heap) (hb : sysModules < h.objs.size) : ObjOk P w H (h.push { cls := .type "dict", data := .dict #[] }) h.objs.size (.dK []) :=
 ⟨Nat.zero_le _, beq_eq_false_iff_ne.mpr (Ne.symm (Nat.ne_of_lt hb)), [], .nil, Heap.DictOf.new h⟩
theorem dt_empty {P : Program} {w : World} {H : Hp} (h : Heap) (hb : sysModules < h.objs.size) : ObjOk P w H (h.push { cls := .type "dict", data := .dict #[] }) h.objs.size (.dT []) :=
 ⟨Nat.zero_le _, beq_eq_false_iff_ne.mpr (Ne.symm (Nat.ne_of_lt hb)), [], .nil, _, #[], 0, Heap.get?_push_size _ rfl, ⟨rfl, rfl, rfl⟩, rfl, rfl, List.nodup_nil⟩
noncomputable def tDNewK : TE := fun _ H Q => ∀ p, H p = none → Q (.ref p) (upd H p (.dK []))
noncomputable def tDNewT : TE := fun _ H Q => ∀ p, H p = none → Q (.ref p) (upd H p (.dT []))
section
variable {X : Cx} {pos : Pos}
theorem pe_dnewK : PE X (.Dict [] [] pos) tDNewK := fun pins s σ H Q I h =>
 wpAny_Dict_empty ⟨.ref s.heap.objs.size, _, I.laid (a := s.heap.objs.size) (o := .dK []) (t' := s.toks) (fun _ _ q => Heap.get?_push_of_some _ q) (Nat.le_refl _) (dk_empty s.heap I.big), rfl, h _ (I.hok.fresh (Nat.le_refl _))⟩
theorem pe_dnewT : PE X (.Dict [] [] pos) tDNewT := fun pins s σ H Q I h =>
 wpAny_Dict_empty ⟨.ref s.heap.objs.size, _, I.laid (a := s.heap.objs.size) (o := .dT []) (t' := s.toks) (fun _ _ q => Heap.get?_push_of_some _ q) (Nat.le_refl _) (dt_empty s.heap I.big), rfl, h _ (I.hok.fresh (Nat.le_refl _))⟩
end
structure M2 (X : Cx) (o : Expr) (m : Str) (apos : Pos) (e f : Expr) (cpos : Pos) : Prop where
 base : attributeBase o m X.env (eval o X.env) = eval o X.env
 few : ((backTo cpos (starEach [e, f] X.env)).all (fun x => !x.1) && (backToKw cpos (keywordEach [] X.env)).all (fun x => x.1.isSome)
  && decide (([e, f] : List Expr).length + ([] : List Keyword).length + (if ([] : List Keyword).isEmpty then 0 else 1) < 30)) = true
 line : (apos.endLine == cpos.line) = true
 trees : backTo cpos (starEach [e, f] X.env) = [(false, eval e X.env), (false, eval f X.env)]
noncomputable def IsD (H : Hp) (a : Addr) : Prop := (∃ kvs, Rd H a (.dK kvs)) ∨ ∃ kvs, Rd H a (.dT kvs)
theorem isD_at {X : Cx} {pins : List (Addr × Obj)} {σ : St} {H : Hp} {s : Shared} {a : Addr} (I : Inv X pins σ H s) (d : IsD H a) :
  s.TypeIs (.ref a) "dict" ∧ (∀ b, Value.ref a = .ref b → ∃ ob, s.heap.get? b = some ob ∧ ob.dict = none) ∧ (a == sysModules) = false := by
 rcases d with ⟨kvs, e⟩ | ⟨kvs, e⟩
 ·obtain ⟨_, hd, vs, _, dd⟩ := dk_rd I.hok e
  refine ⟨dd.typeIs, fun b q => ?_, hd⟩
  cases q
  obtain ⟨ob, _, _, h1, h2, _⟩ := dd
  exact ⟨ob, h1, h2.2.1⟩
 ·obtain ⟨_, hd, xs, _, dd⟩ := dt_rd I.hok e
  refine ⟨dd.typeIs, fun b q => ?_, hd⟩
  cases q
  obtain ⟨ob, _, _, h1, h2, _⟩ := dd
  exact ⟨ob, h1, h2.2.1⟩
section
variable {X : Cx} {pins : List (Addr × Obj)} {σ : St} {H : Hp} {s : Shared} {a : Addr} {y d : V} {u r : Value} {o : Option V} {A : Around} {E : Value → Shared → Prop}
theorem d_get2 {Q : Value → Shared → Prop} (hu : A.units + 1 < cLine) (I : Inv X pins σ H s) (g : DGet H a y o) (ry : RelV y u) (rd : RelV d r) (h : ∀ w' s', Inv X pins σ H s' → RelV (o.getD d) w' → Q w' s') :
  wpAny (model X.prog X.w) A (call (.builtin "dict.get") [.ref a, u, r]) Q E s := by
 rcases g with ⟨kvs, k, e, ey, l⟩ | ⟨kvs, k, b, e, ey, eb, l⟩
 ·subst ey
  obtain ⟨z, hd, vs, rel, dd⟩ := dk_rd I.hok e
  refine call_meetsIn PySem.F.slot_dict_get dd.typeIs PySem.F.entry_dict_get (PySem.F.args_dict_get_3 _ _ _) (meets_dict_get_default (mixKind X.prog X.w) a (kV_is ry) hd r) ⟨_, dd.mapOf, h _ _ (I.tok _) ?_⟩
  rw [l]
  exact (rel.val k).getD rd
 ·subst ey
  cases (show u = Value.ref b from ry)
  obtain ⟨z, hd, xs, rel, dd⟩ := dt_rd I.hok e
  refine call_meetsIn PySem.F.slot_dict_get dd.typeIs PySem.F.entry_dict_get (PySem.F.args_dict_get_3 _ _ _) (meetsH_dict_get_default (tupleKind (mixKind X.prog X.w)) a b hd r) ⟨tupleKind_room_in1 hu, k, xs, key_of I.hok eb, dd, h _ _ (I.tok _) ?_⟩
  rw [l]
  exact (rel.val k).getD rd
end
noncomputable def tDGet2 (td ty tx : TE) : TE := fun σ H Q => td σ H fun x H1 => ∃ a, x = .ref a ∧ IsD H1 a ∧ ty σ H1 fun y H2 => tx σ H2 fun z H3 => ∃ o, DGet H3 a y o ∧ Q (o.getD z) H3
section
variable {X : Cx} {o e f : Expr} {apos cpos : Pos} {td ty tx : TE}
theorem pe_dget2 (hu : X.A.units + 1 < cLine) (ho : PE X o td) (he : PE X e ty) (hf : PE X f tx) (m : M2 X o "get" apos e f cpos) : PE X (.Call (.Attribute o "get" apos) [e, f] [] cpos) (tDGet2 td ty tx) := by
 intro pins s σ H Q I h
 refine wpAny_Call_method m.base m.few m.line PySem.F.plainAttrs_dict PySem.F.slot_dict_get PySem.F.type_dict_get (thn (ho pins s σ H _ I h) fun u s1 ⟨x, H1, I1, rx, a, ex, d, q1⟩ => ?_)
 subst ex
 obtain rfl : u = Value.ref a := rx
 obtain ⟨t1, t2, _⟩ := isD_at I1 d
 refine ⟨t1, t2, ?_⟩
 rw [m.trees]
 refine Calls.callWith_builtin rfl (Calls.evalArgs_plain (Calls.spliced_cons (thn (he pins s1 σ H1 _ I1 q1) fun iv s2 ⟨y, H2, I2, ry, q2⟩ =>
  Calls.spliced_cons (thn (hf pins s2 σ H2 _ I2 q2) fun fv s3 ⟨z, H3, I3, rz, ov, g, q3⟩ => Calls.spliced_nil ?_))))
 exact d_get2 hu I3 g ry rz fun w' s4 I4 rw' => ⟨_, H3, I4, rw', q3⟩
end
end L2
set_option maxHeartbeats 1000000
namespace L2
open PySem PySem.Spec PyProof.Rows
theorem closure_ok {scope : Scope} {env : Env} (h : ∀ x, (x, NameKind.free) ∈ scope.names → ∃ c, env.cells.lookup x = some c) :
  ∃ cl, closureFor scope env = pure cl ∧ (∀ x c, cl.lookup x = some c → env.cells.lookup x = some c) ∧ ∀ x, (x, NameKind.free) ∈ scope.names → ∃ c, cl.lookup x = some c := by
 have go : ∀ (names : List (Str × NameKind)) (acc : List (Str × Addr)), (∀ x, (x, NameKind.free) ∈ names → ∃ c, env.cells.lookup x = some c) → (∀ x c, acc.lookup x = some c → env.cells.lookup x = some c) →
   ∃ cl, (forIn names acc fun (p : Str × NameKind) (r : List (Str × Addr)) => if p.2 == .free then (do let a ← cellOf env p.1; pure (ForInStep.yield ((p.1, a) :: r))) else pure (ForInStep.yield r) : Sem (List (Str × Addr))) = pure cl ∧
    (∀ x c, cl.lookup x = some c → env.cells.lookup x = some c) ∧ (∀ x c, acc.lookup x = some c → ∃ c', cl.lookup x = some c') ∧ ∀ x, (x, NameKind.free) ∈ names → ∃ c, cl.lookup x = some c := by
  intro names
  induction names with
  | nil => intro acc _ ha; exact ⟨acc, rfl, ha, fun x c e => ⟨c, e⟩, fun x z => nomatch z⟩
  | cons p r ih =>
   intro acc hn ha
   obtain ⟨n, k⟩ := p
   rw [List.forIn_cons]
   cases hk : (k == NameKind.free) with
   | false =>
    obtain ⟨cl, h1, h2, h3, h4⟩ := ih acc (fun x z => hn x (List.mem_cons_of_mem _ z)) ha
    refine ⟨cl, ?_, h2, h3, fun x z => ?_⟩
    ·simp only [hk, Bool.false_eq_true, if_false, pure_bind]
     exact h1
    ·rcases List.mem_cons.mp z with e | z
     ·injection e with e1 e2
      rw [← e2] at hk
      exact absurd hk (by decide)
     ·exact h4 x z
   | true =>
    have ek : k = .free := by simpa using hk
    subst ek
    obtain ⟨c, hc⟩ := hn n List.mem_cons_self
    have hcell : cellOf env n = pure c := by unfold cellOf; rw [hc]
    obtain ⟨cl, h1, h2, h3, h4⟩ := ih ((n, c) :: acc) (fun x z => hn x (List.mem_cons_of_mem _ z)) (fun x c' e => by
     rw [List.lookup_cons] at e
     cases hx : x == n with
     | true =>
      rw [hx] at e
      have e' : c = c' := Option.some.inj e
      have ex : x = n := by simpa using hx
      rw [ex, ← e']; exact hc
     | false => rw [hx] at e; exact ha x c' e)
    refine ⟨cl, ?_, h2, fun x c' e => ?_, fun x z => ?_⟩
    ·simp only [beq_self_eq_true, if_true, hcell, pure_bind]
     exact h1
    ·cases hx : x == n with
     | true => exact h3 x c (by rw [List.lookup_cons, hx])
     | false => exact h3 x c' (by rw [List.lookup_cons, hx]; exact e)
    ·rcases List.mem_cons.mp z with e | z
     ·injection e with e1 e2
      exact h3 x c (by rw [e1, List.lookup_cons]; simp)
     ·exact h4 x z
 obtain ⟨cl, h1, h2, _, h4⟩ := go scope.names [] h (fun x c e => nomatch e)
 refine ⟨cl, ?_, h2, h4⟩
 rw [← h1]
 unfold closureFor
 simp only [bind_pure]
noncomputable def cxComp (X : Cx) (scope : Scope) (cl : List (Str × Addr)) (C : Addr) (N : List Str) (s : Shared) (H : Hp) (ex : List Addr) : Cx where
 prog := X.prog
 w := X.w
 K := X.K
 mg := X.mg
 base := X.base
 A := X.A
 N := N
 s₀ := s
 H₀ := H
 env := compEnvC scope cl C X.env
 outer := X.stack
 stack := X.stack
 ex := ex
 calm := X.calm
 fn := fun x => match scope.names.lookup x with | some .cell => true | _ => false
 pn := []
 xe := fun _ _ => False
theorem lookup_relabel {env : Env} : ∀ {names : List (Str × NameKind)} {x : Str} {k : NameKind},
  (names.map fun (n, k) => if (k == NameKind.free && env.scope.kind == .function && env.kindOf n == some .cell) then (n, NameKind.cell) else (n, k)).lookup x = some k →
  ∃ k', names.lookup x = some k' ∧ (k' = k ∨ (k' = .free ∧ k = .cell))
 | [], _, _, h => by simp at h
 | (n, kk) :: r, x, k, h => by
  have ih := @lookup_relabel env r x k
  have h' : List.lookup x ((if (kk == NameKind.free && env.scope.kind == .function && env.kindOf n == some .cell) = true then (n, NameKind.cell) else (n, kk)) :: r.map fun (n, k) => if (k == NameKind.free && env.scope.kind == .function && env.kindOf n == some .cell) then (n, NameKind.cell) else (n, k)) = some k := h
  cases hx : x == n with
  | true =>
   by_cases hc : (kk == NameKind.free && env.scope.kind == .function && env.kindOf n == some .cell) = true
   ·rw [if_pos hc, List.lookup_cons, hx] at h'
    have e : NameKind.cell = k := Option.some.inj h'
    have hf : kk = .free := by
     rw [Bool.and_eq_true, Bool.and_eq_true] at hc
     simpa using hc.1.1
    exact ⟨kk, by rw [List.lookup_cons, hx], .inr ⟨hf, e.symm⟩⟩
   ·rw [if_neg hc, List.lookup_cons, hx] at h'
    exact ⟨kk, by rw [List.lookup_cons, hx], .inl (Option.some.inj h')⟩
  | false =>
   have h2 : List.lookup x (r.map fun (n, k) => if (k == NameKind.free && env.scope.kind == .function && env.kindOf n == some .cell) then (n, NameKind.cell) else (n, k)) = some k := by
    by_cases hc : (kk == NameKind.free && env.scope.kind == .function && env.kindOf n == some .cell) = true
    ·rw [if_pos hc, List.lookup_cons, hx] at h'; exact h'
    ·rw [if_neg hc, List.lookup_cons, hx] at h'; exact h'
   obtain ⟨k', e1, e2⟩ := ih h2
   exact ⟨k', by rw [List.lookup_cons, hx]; exact e1, e2⟩
structure CompScope (N : List Str) (osc scope : Scope) (own : List Str) (fr : List (Nat × Str)) : Prop where
 kind : scope.kind = .function
 cells : ∀ y ∈ scope.names, y.2 = .cell → scope.names.lookup y.1 = some .cell
 locs : ∀ y ∈ scope.names, y.2 = .local → scope.names.lookup y.1 = some .local
 free : ∀ y ∈ scope.names, y.2 = .free → osc.names.lookup y.1 = some .cell ∨ osc.names.lookup y.1 = some .free
 slot : ∀ p ∈ fr, N[p.1]? = some p.2 ∧ scope.names.lookup p.2 = some .free
theorem HOk.track {P : Program} {w : World} {H : Hp} {h : Heap} {a : Addr} {o : HO} (x : HOk P w H h) (hn : H a = none) (new : ObjOk P w (upd H a o) h a o) : HOk P w (upd H a o) h := fun b u e => by
 by_cases hb : b = a
 ·subst hb; rw [upd_same] at e; cases e; exact new
 ·rw [upd_ne hb] at e
  exact (x b u e).stay (fun c v _ q => q) (fun c q => by rw [upd_ne (ne_of_none q hn)]; exact q) fun c xs q => by rw [upd_ne (ne_of_none q hn)]; exact q
theorem HOk.but {P : Program} {w : World} {H : Hp} {h h' : Heap} {a : Addr} (x : HOk P w H h) (hn : H a = none) (k : ∀ b o, b ≠ a → h.get? b = some o → h'.get? b = some o) : HOk P w H h' := fun b u e =>
 (x b u e).stay (fun c v hc q => k c v (by
  rintro rfl
  rcases hc with rfl | hc
  ·rw [hn] at e; cases e
  ·rw [hn] at hc; cases hc) q) (fun _ q => q) fun _ _ q => q
theorem Un.track {fs ex : List Addr} {H H' : Hp} {h h' : Heap} {a : Addr} {o : HO} (u : Un fs ex H H' h h') (ha : h.objs.size ≤ a) (hn : H a = none) : Un fs ex H (upd H' a o) h h' where
 keep := u.keep
 slot := u.slot
 free := fun b ob q n hx => by rw [upd_ne (Nat.ne_of_lt (Nat.lt_of_lt_of_le (Heap.lt_size q) ha))]; exact u.free b ob q n hx
 there := u.there
 tups := fun b xs q => by rw [upd_ne (ne_of_none q hn)]; exact u.tups b xs q
 frzs := fun b ob v q => by rw [upd_ne (ne_of_none q hn)]; exact u.frzs b ob v q
 tbls := fun b ps q => by rw [upd_ne (ne_of_none q hn)]; exact u.tbls b ps q
theorem Un.but {fs ex : List Addr} {H H' : Hp} {h h' h'' : Heap} {a : Addr} (u : Un fs ex H H' h h') (ha : h.objs.size ≤ a) (k : ∀ b o, b ≠ a → h'.get? b = some o → h''.get? b = some o) : Un fs ex H H' h h'' where
 keep := fun b ob q n hb hx => k b ob (Nat.ne_of_lt (Nat.lt_of_lt_of_le (Heap.lt_size q) ha)) (u.keep b ob q n hb hx)
 slot := fun b ob q n hb hx => let ⟨sl, e⟩ := u.slot b ob q n hb hx; ⟨sl, k b _ (Nat.ne_of_lt (Nat.lt_of_lt_of_le (Heap.lt_size q) ha)) e⟩
 free := u.free
 there := fun b ob q hx => let ⟨o', e⟩ := u.there b ob q hx; ⟨o', k b _ (Nat.ne_of_lt (Nat.lt_of_lt_of_le (Heap.lt_size q) ha)) e⟩
 tups := u.tups
 frzs := u.frzs
 tbls := u.tbls
structure NewCells (scope : Scope) (nw : List (Str × Addr)) (h1 : Heap) (C : Addr) : Prop where
 ok : ∀ n c, (n, c) ∈ nw → h1.IsCell c none ∧ C < c
 apart : nw.Pairwise fun x y => x.2 ≠ y.2
 has : ∀ x, scope.names.lookup x = some .cell → ∃ c, nw.lookup x = some c
 of : ∀ x c, nw.lookup x = some c → (x, NameKind.cell) ∈ scope.names
theorem cellsFrom_acc : ∀ (names : List (Str × NameKind)) (n : Nat) (acc : List (Str × Addr)), cellsFrom n names acc = cellsFrom n names [] ++ acc
 | [], _, _ => rfl
 | (x, k) :: r, n, acc => by
  unfold cellsFrom
  split
  ·rw [cellsFrom_acc r (n + 1) ((x, n) :: acc), cellsFrom_acc r (n + 1) [(x, n)], List.append_assoc]
   rfl
  ·exact cellsFrom_acc r n acc
theorem cellsFrom_of : ∀ (names : List (Str × NameKind)) (n : Nat) (x : Str) (c : Addr), (x, c) ∈ cellsFrom n names [] → (x, NameKind.cell) ∈ names
 | [], _, _, _, h => nomatch h
 | (y, k) :: r, n, x, c, h => by
  unfold cellsFrom at h
  split at h
  ·rename_i hk
   rw [cellsFrom_acc] at h
   rcases List.mem_append.mp h with h | h
   ·exact List.mem_cons_of_mem _ (cellsFrom_of r _ x c h)
   ·rw [List.mem_singleton] at h
    cases h
    have : k = .cell := by simpa using hk
    rw [this]
    exact List.mem_cons_self ..
  ·exact List.mem_cons_of_mem _ (cellsFrom_of r _ x c h)
theorem lookup_app {α : Type} {x : Str} {a b : List (Str × α)} {c : α} (h : (a ++ b).lookup x = some c) : a.lookup x = some c ∨ (a.lookup x = none ∧ b.lookup x = some c) := by
 induction a with
 | nil => exact .inr ⟨rfl, h⟩
 | cons p r ih =>
  rw [List.cons_append, List.lookup_cons] at h
  rw [List.lookup_cons]
  cases hx : x == p.1 with
  | true => rw [hx] at h; exact .inl h
  | false => rw [hx] at h; exact ih h
theorem lookup_app_l {α : Type} {x : Str} {a b : List (Str × α)} {c : α} (h : a.lookup x = some c) : (a ++ b).lookup x = some c := by
 induction a with
 | nil => cases h
 | cons p r ih =>
  rw [List.lookup_cons] at h
  rw [List.cons_append, List.lookup_cons]
  cases hx : x == p.1 with
  | true => rw [hx] at h; exact h
  | false => rw [hx] at h; exact ih h
theorem lookup_app_r {α : Type} {x : Str} {a b : List (Str × α)} {c : α} (h : a.lookup x = none) (h2 : b.lookup x = some c) : (a ++ b).lookup x = some c := by
 induction a with
 | nil => exact h2
 | cons p r ih =>
  rw [List.lookup_cons] at h
  rw [List.cons_append, List.lookup_cons]
  cases hx : x == p.1 with
  | true => rw [hx] at h; cases h
  | false => rw [hx] at h; exact ih h
theorem newEnv_around {M : Model} {A : Around} {E : Value → Shared → Prop} {s : Shared} {scope : Scope} {globals : Addr} {closure : List (Str × Addr)} {qual : Str} {outer : Env} {Q : Env → Shared → Prop}
  (hQ : ∀ nw h1, NewCells scope nw h1 s.heap.objs.size → h1.Ns s.heap.objs.size (fun _ => none) → (∀ b o, s.heap.get? b = some o → h1.get? b = some o) →
   Q { scope, locals := s.heap.objs.size, globals, cells := nw ++ closure, qual, func := none, code := outer.code, frame := outer.frame, builtins := outer.builtins } { s with heap := h1 }) :
  wpAny M A (newFunctionEnv scope globals closure [] qual none .none (some outer)) Q E s := by
 simp only [newFunctionEnv, Option.isSome_some, if_true]
 refine wpAny_bind (wpAny_alloc ?_)
 refine wpAny_bind (wpAny_layCells _ (fun name kind cells => by cases hkc : kind == NameKind.cell <;> simp [hkc]) _ _ _ _ ?_)
 have ok := cellsFrom_ok scope.names (s.heap.push { cls := .type "dict", data := .dict #[] }) (s.heap.objs.size + 1) [] ⟨fun _ _ hm => (nomatch hm), List.Pairwise.nil⟩ (by rw [Heap.size_push]; exact Nat.le_refl _)
 rw [Heap.size_push] at ok
 rw [show ({ s with heap := s.heap.push { cls := .type "dict", data := .dict #[] } } : Shared).heap.objs.size = s.heap.objs.size + 1 from Heap.size_push ..]
 rw [List.forIn_nil]
 refine wpAny_bind (wpAny_pure (wpAny_pure ?_))
 rw [cellsFrom_acc]
 exact hQ _ _ ⟨fun n c h => ⟨(ok.empty n c h).1, (ok.empty n c h).2⟩, ok.apart, fun x h => cell_has h, fun x c h => cellsFrom_of _ _ x c (PySem.mem_of_lookup h)⟩
  ((Heap.Ns.new s.heap (.type "dict")).keeps (pushCells_keeps _ _)) fun b o e => pushCells_keeps _ _ b o (Heap.get?_push_of_some _ e)
noncomputable def PIfs (X : Cx) (ifs : List Expr) (t : TT) : Prop :=
 ∀ (pins : List (Addr × Obj)) (s : Shared) (σ : St) (H : Hp) (Q : Bool → Hp → Prop), Inv X pins σ H s → t σ H Q →
  wpAny (model X.prog X.w) X.A (forIn ifs true fun c r => if r = true then do let ok ← isTrue c X.env (eval c X.env); pure (ForInStep.yield ok) else pure (ForInStep.yield r)) (TP X pins σ Q) X.xe s
noncomputable def tYes : TT := fun _ H Q => Q true H
theorem pif_nil {X : Cx} : PIfs X [] tYes := fun _ _ _ H Q I h => wpAny_tests_nil ⟨H, I, h⟩
theorem pif_one {X : Cx} {c : Expr} {t : TT} (h : PT X c t) : PIfs X [c] t := fun pins s σ H Q I q => wpAny_tests_one (h pins s σ H Q I q)
noncomputable def compStart' (own : List Str) (fr : List (Nat × Str)) (σ : St) : St := own.map (fun _ => none) ++ fr.map fun p => (σ[p.1]?).join
noncomputable def CompGo (J : It) (g : TG) (tt : TT) (te : TE) (Q : VK) (σ₀ : St) (H1 : Hp) : Prop :=
 ∃ W : Nat → Nat → List V → St → Hp → Prop, (∃ m, W 0 m [] σ₀ H1) ∧ ∀ i m acc σ' H', W i m acc σ' H' →
  (J.stop i H' ∧ acc.length ≤ sizeLine ∧ ∀ p, H' p = none → Q (.ref p) (upd H' p (.lst acc))) ∨
  (J.go i H' ∧ acc.length < sizeLine ∧ ∃ N : List V → St → Hp → Prop, (∀ acc σ' H', N acc σ' H' → ∃ m', m' < m ∧ W (i + 1) m' acc σ' H') ∧ ∀ x H'', J.yld i H' x H'' → g x σ' H'' fun σ2 H2 => tt σ2 H2 fun ok H3 => if ok = true then te σ2 H3 fun y H4 => N (acc ++ [y]) σ2 H4 else N acc σ2 H3)
noncomputable def tComp (own : List Str) (fr : List (Nat × Str)) (wi : TI) (g : TG) (tt : TT) (te : TE) : TE := fun σ H Q => wi σ H fun J H1 => CompGo J g tt te Q (compStart' own fr σ) H1
section
variable {X : Cx} {tg iter elt : Expr} {ifs : List Expr} {scope : Scope} {own : List Str} {fr : List (Nat × Str)} {pos : Pos}
theorem inv_comp {pins : List (Addr × Obj)} {σ : St} {H : Hp} {s : Shared} {cl : List (Str × Addr)} {ex : List Addr} {h1 : Heap} {m : Str → Option Value} {C : Addr} {t' : Nat} (S : CompScope X.N X.env.scope scope own fr) (I : Inv X pins σ H s)
  (hcl : ∀ x c, cl.lookup x = some c → X.env.cells.lookup x = some c) (hcl2 : ∀ x, (x, NameKind.free) ∈ scope.names → ∃ c, cl.lookup x = some c) (hex : ∀ b ∈ ex, FpOk X pins H b ∧ b < s.heap.objs.size)
  (hC : s.heap.objs.size ≤ C) (k : ∀ b o, s.heap.get? b = some o → h1.get? b = some o) (hn : h1.Ns C m) {nw : List (Str × Addr)} (nc : NewCells scope nw h1 C) :
  Inv (cxComp X scope (nw ++ cl) C (own ++ fr.map (·.2)) s H ex) [] (compStart' own fr σ) H { s with heap := h1, toks := t' } := by
 have okX := I.ok
 have isNew : ∀ x c, nw.lookup x = some c → C < c := fun x c e => (nc.ok x c (PySem.mem_of_lookup e)).2
 have isOld : ∀ x c, cl.lookup x = some c → c < C := fun x c e => by
  obtain ⟨v, o, ho, _⟩ := I.cell x c (hcl x c e)
  exact Nat.lt_of_lt_of_le (Heap.lt_size ho) hC
 have hinj : ∀ x y c, (nw ++ cl).lookup x = some c → (nw ++ cl).lookup y = some c → x = y := fun x y c e1 e2 => by
  rcases lookup_app e1 with a | ⟨_, a⟩ <;> rcases lookup_app e2 with b | ⟨_, b⟩
  ·exact name_of_addr nc.apart (PySem.mem_of_lookup a) (PySem.mem_of_lookup b)
  ·exact absurd (Nat.lt_trans (isNew x c a) (isOld y c b)) (Nat.lt_irrefl _)
  ·exact absurd (Nat.lt_trans (isNew y c b) (isOld x c a)) (Nat.lt_irrefl _)
  ·exact okX.inj x y c (hcl x c a) (hcl y c b)
 have hasF : ∀ x, (x, NameKind.free) ∈ scope.names → ∃ c, (nw ++ cl).lookup x = some c := fun x hx => by
  obtain ⟨c, e⟩ := hcl2 x hx
  cases z : nw.lookup x with
  | none => exact ⟨c, lookup_app_r z e⟩
  | some c' => exact ⟨c', lookup_app_l z⟩
 refine ⟨⟨okX.mod, ?_, okX.glob, okX.blt, hC, hinj, fun x hx => ?_, fun x c e1 e2 => ?_, okX.hd, okX.frames, .inl rfl, fun b hb => ?_, I.bs, Nat.le_trans okX.bsz I.sz, fun b o e hb => ?_, fun b hb hf => ?_, I.stack, I.stkFree⟩,
  rfl, I.bare, Un.kept k, ⟨m, hn, fun i x v e1 e2 e3 => ?_⟩, fun x c e => ?_, I.hok.fresh hC, fun x c e => ?_, fun p hp => absurd (show p ∈ ([] : List (Addr × Obj)) from hp) (by simp), I.hok.kept k, ?_⟩
 ·exact S.kind
 ·-- a cell's or a free name
  have hx' : (relabel scope X.env).names.lookup x = some .cell ∨ (relabel scope X.env).names.lookup x = some .free := hx
  have hfree : scope.names.lookup x = some .cell ∨ scope.names.lookup x = some .free := by
   rcases hx' with q | q
   ·obtain ⟨k', e1, e2⟩ := lookup_relabel q
    rcases e2 with e2 | ⟨e2, _⟩
    ·exact .inl (by rw [e1, e2])
    ·exact .inr (by rw [e1, e2])
   ·obtain ⟨k', e1, e2⟩ := lookup_relabel q
    rcases e2 with e2 | ⟨e2, e3⟩
    ·exact .inr (by rw [e1, e2])
    ·cases e3
  rcases hfree with hfree | hfree
  ·obtain ⟨c, e⟩ := nc.has x hfree
   exact ⟨c, lookup_app_l e⟩
  ·exact hasF x (PySem.mem_of_lookup hfree)
 ·-- an own cell is new
  have e1' : (match scope.names.lookup x with | some .cell => true | _ => false) = true := e1
  have hce : scope.names.lookup x = some .cell := by
   split at e1'
   ·assumption
   ·cases e1'
  obtain ⟨c', e⟩ := nc.has x hce
  have e2' : (nw ++ cl).lookup x = some c := e2
  rw [lookup_app_l e] at e2'
  cases e2'
  exact Nat.le_trans hC (Nat.le_of_lt (isNew x c e))
 ·obtain ⟨⟨f0, f1, f2, f3, f4, f5⟩, f6⟩ := hex b hb
  refine ⟨Nat.ne_of_lt (Nat.lt_of_lt_of_le f6 hC), fun x c e => ?_⟩
  rcases lookup_app (show (nw ++ cl).lookup x = some c from e) with a | ⟨_, a⟩
  ·exact Nat.ne_of_gt (Nat.lt_trans (Nat.lt_of_lt_of_le f6 hC) (isNew x c a))
  ·exact f4 x c (hcl x c a)
 ·obtain ⟨⟨f0, f1, f2, f3, f4, f5⟩, f6⟩ := hex b hb
  rcases f3 with f3 | f3
  ·exact okX.noex b o e f3
  ·exact absurd (Nat.lt_of_lt_of_le (Heap.lt_size e) (Nat.le_trans okX.bsz f3)) (Nat.lt_irrefl _)
 ·obtain ⟨⟨f0, f1, f2, f3, f4, f5⟩, f6⟩ := hex b hb
  rcases List.mem_cons.mp (I.stkSub b hf) with z | z
  ·exact f1 z
  ·exact f2 z
 ·-- the values of the free names
  have e1' : (own ++ fr.map (·.2))[i]? = some x := e1
  have hi : own.length ≤ i := by
   by_cases h : i < own.length
   ·unfold compStart' at e2
    rw [List.getElem?_append_left (by simpa using h), List.getElem?_map] at e2
    cases q : own[i]? with
    | none => rw [q] at e2; cases e2
    | some z => rw [q] at e2; cases e2
   ·lia
  unfold compStart' at e2
  rw [List.getElem?_append_right (by simpa using hi), List.getElem?_map, List.length_map] at e2
  rw [List.getElem?_append_right hi, List.getElem?_map] at e1'
  cases q : fr[i - own.length]? with
  | none => rw [q] at e2; cases e2
  | some p =>
   rw [q] at e2 e1'
   have e1' : p.2 = x := Option.some.inj e1'
   have e2' : (σ[p.1]?).join = some v := Option.some.inj e2
   obtain ⟨hs1, hs2⟩ := S.slot p (List.mem_of_getElem? q)
   rw [e1'] at hs1 hs2
   have e2'' : σ[p.1]? = some (some v) := by
    cases z : σ[p.1]? with
    | none => rw [z] at e2'; cases e2'
    | some y => rw [z] at e2'; exact congrArg some e2'
   obtain ⟨mX, hnX, hlX⟩ := I.loc
   have hfr := S.free (x, .free) (PySem.mem_of_lookup hs2) rfl
   have hvis : Vis X.env.scope x := by
    rcases hfr with z | z
    ·exact .inr (.inl z)
    ·exact .inr (.inr z)
   obtain ⟨u, r, l⟩ := hlX p.1 x v hs1 e2'' hvis
   refine ⟨u, r, ?_⟩
   have hkc : X.env.kindOf x = some .cell ∨ X.env.kindOf x = some .free := hfr
   rcases l with ⟨kx, _⟩ | ⟨kx, c, hc, z⟩
   ·rcases hkc with w | w
    ·rw [w] at kx; cases kx
    ·rw [w] at kx; cases kx
   ·obtain ⟨c', hc'⟩ := hcl2 x (PySem.mem_of_lookup hs2)
    have hcc := hcl x c' hc'
    rw [hc] at hcc
    cases hcc
    have e3' : (relabel scope X.env).names.lookup x = some .local ∨ (relabel scope X.env).names.lookup x = some .cell ∨ (relabel scope X.env).names.lookup x = some .free := e3
    have hnew : nw.lookup x = none := by
     cases z : nw.lookup x with
     | none => rfl
     | some c'' =>
      have := S.cells _ (nc.of x c'' z) rfl
      rw [hs2] at this
      cases this
    refine .inr ⟨?_, c, lookup_app_r hnew hc', ?_⟩
    ·rcases e3' with w | w | w
     ·obtain ⟨k', q1, q2⟩ := lookup_relabel w
      rw [hs2] at q1
      cases q1
      rcases q2 with q2 | ⟨_, q2⟩ <;> cases q2
     ·exact .inl w
     ·exact .inr w
    ·obtain ⟨o, ho, hd⟩ := z
     exact ⟨o, k _ _ ho, hd⟩
 ·rcases lookup_app (show (nw ++ cl).lookup x = some c from e) with a | ⟨_, a⟩
  ·exact ⟨none, (nc.ok x c (PySem.mem_of_lookup a)).1⟩
  ·obtain ⟨v, o, ho, hd⟩ := I.cell x c (hcl x c a)
   exact ⟨v, o, k _ _ ho, hd⟩
 ·rcases lookup_app (show (nw ++ cl).lookup x = some c from e) with a | ⟨_, a⟩
  ·exact I.hok.fresh (Nat.le_trans hC (Nat.le_of_lt (isNew x c a)))
  ·exact I.freeC x c (hcl x c a)
 ·show (compStart' own fr σ).length = (own ++ fr.map (·.2)).length
  unfold compStart'
  rw [List.length_append, List.length_append, List.length_map, List.length_map, List.length_map]
theorem comp_block {pins : List (Addr × Obj)} {σ : St} {H2 : Hp} {s2 : Shared} {cl : List (Str × Addr)} {it : Addr} {fp : List Addr} {tn : Nat → Heap → Prop} {J : It} {g : TG} {tt : TT} {te : TE} {Q : VK} {E : Value → Shared → Prop}
  {RR : Value → Addr → Result → Shared → Prop} (hc : X.calm = true) (S : CompScope X.N X.env.scope scope own fr) (I : Inv X pins σ H2 s2) (hcl : ∀ x c, cl.lookup x = some c → X.env.cells.lookup x = some c)
  (hcl2 : ∀ x, (x, NameKind.free) ∈ scope.names → ∃ c, cl.lookup x = some c) (T : Turn X.prog X.w X.K tg J fp it tn) (st : tn 0 s2.heap) (hfp : ∀ b ∈ fp, FpOk X pins H2 b)
  (hb : ∀ (cl : List (Str × Addr)) (C : Addr) (s : Shared) (H : Hp) (ex : List Addr), PG (cxComp X scope cl C (own ++ fr.map (·.2)) s H ex) tg g ∧ PIfs (cxComp X scope cl C (own ++ fr.map (·.2)) s H ex) ifs tt ∧ PE (cxComp X scope cl C (own ++ fr.map (·.2)) s H ex) elt te)
  (hq : CompGo J g tt te Q (compStart' own fr σ) H2)
  (fin : ∀ (D C : Addr) (s' : Shared) (H' : Hp), (∃ m, s'.heap.Ns C m) → s2.heap.objs.size ≤ C → C ≠ D → H' C = none → Q (.ref D) H' → (∀ h'', (∀ b o, b ≠ C → s'.heap.get? b = some o → h''.get? b = some o) → Inv X pins σ H' { s' with heap := h'' }) → RR (.ref D) C (.ok .next) s') :
  wpAny (model X.prog X.w) X.A (newList []) (fun acc s₃ => wpAny (model X.prog X.w) X.A (newFunctionEnv scope X.env.globals cl [] X.env.qual none .none (some X.env)) (fun cenv s₄ =>
   codeAny (model X.prog X.w) X.A (.compStart (.ListComp elt [⟨tg, iter, ifs, 0⟩] scope pos) 0 (.ref it) acc { cenv with scope := relabel scope X.env }) (RR acc cenv.locals) s₄) E s₃) E s2 := by
 obtain ⟨W, ⟨m0, w0⟩, turn⟩ := hq
 refine wpAny_newObj_type (newEnv_around (fun nw h₁ nc hns₁ hsb₁ => ?_))
 dsimp only at nc hns₁ hsb₁ ⊢
 generalize hH2 : s2.heap.push { cls := .type "list", dict := none, data := .seq ([] : List Value).toArray } = HH at nc hns₁ hsb₁ ⊢
 have hC : HH.objs.size = s2.heap.objs.size + 1 := by rw [← hH2, Heap.size_push]
 have hDC : s2.heap.objs.size ≠ HH.objs.size := by rw [hC]; exact Nat.ne_of_lt (Nat.lt_succ_self _)
 have hCle : s2.heap.objs.size ≤ HH.objs.size := by rw [hC]; exact Nat.le_succ _
 have old : ∀ b o, s2.heap.get? b = some o → h₁.get? b = some o := fun b o e =>
  hsb₁ b o (hH2 ▸ Heap.get?_push_of_some _ e)
 have hacc : h₁.get? s2.heap.objs.size = some { cls := .type "list", data := .seq ([] : List Value).toArray } := hsb₁ _ _ (hH2 ▸ Heap.get?_push_size _ rfl)
 have flt : ∀ b ∈ fp, b < s2.heap.objs.size := fun b hb => by
  obtain ⟨o, e, _⟩ := T.obj _ _ st b hb
  exact Heap.lt_size e
 have hlt : s2.heap.objs.size < HH.objs.size := by rw [hC]; exact Nat.lt_succ_self _
 obtain ⟨D, hD⟩ : ∃ D : Nat, D = s2.heap.objs.size := ⟨_, rfl⟩
 obtain ⟨C, hCC⟩ : ∃ C : Nat, C = HH.objs.size := ⟨_, rfl⟩
 rw [← hD] at hacc ⊢
 rw [← hCC] at nc hns₁ ⊢
 have hDlt : D < C := by rw [hD, hCC]; exact hlt
 have hDs : s2.heap.objs.size ≤ D := Nat.le_of_eq hD.symm
 have hCs : s2.heap.objs.size ≤ C := Nat.le_trans hDs (Nat.le_of_lt hDlt)
 have nDC : D ≠ C := Nat.ne_of_lt hDlt
 have nfD : ∀ b ∈ fp, b ≠ D := fun b hb => Nat.ne_of_lt (Nat.lt_of_lt_of_le (flt b hb) hDs)
 have nfC : ∀ b ∈ fp, b ≠ C := fun b hb => Nat.ne_of_lt (Nat.lt_of_lt_of_le (flt b hb) hCs)
 have I0 : Inv (cxComp X scope (nw ++ cl) C (own ++ fr.map (·.2)) s2 H2 fp) [] (compStart' own fr σ) H2 { s2 with heap := h₁, toks := s2.toks } :=
  inv_comp S I hcl hcl2 (fun b hb => ⟨hfp b hb, flt b hb⟩) hCs old hns₁ nc
 obtain ⟨pg, pt, pe⟩ := hb (nw ++ cl) C s2 H2 fp
 have Dcell : ∀ x c, (nw ++ cl).lookup x = some c → c ≠ D := fun x c e => by
  rcases lookup_app e with a | ⟨_, a⟩
  ·exact Nat.ne_of_gt (Nat.lt_trans hDlt (nc.ok x c (PySem.mem_of_lookup a)).2)
  ·obtain ⟨v, q⟩ := I.cell x c (hcl x c a)
   exact Nat.ne_of_lt (Nat.lt_of_lt_of_le q.lt hDs)
 have Dstk : D ∉ frs X.stack := fun hf => by
  rcases List.mem_cons.mp (I.stkSub D hf) with z | z
  ·have h1 := I.lt
   rw [← z] at h1
   exact Nat.lt_irrefl _ (Nat.lt_of_lt_of_le h1 hDs)
  ·exact I.nofs hDs z
 have stat : ∀ {H' : Hp} {pl : List (Addr × Obj)}, (∀ b ∈ fp, H' b = none) → (∀ p ∈ pl, p.1 = D) → ∀ b ∈ fp, FpOk (cxComp X scope (nw ++ cl) C (own ++ fr.map (·.2)) s2 H2 fp) pl H' b := fun {H' pl} hn hpl b hb => by
  obtain ⟨f0, f1, f2, f3, f4, f5⟩ := hfp b hb
  refine ⟨hn b hb, nfC b hb, fun hf => ?_, .inl hb, fun x c e => (by
   rcases lookup_app (show (nw ++ cl).lookup x = some c from e) with a | ⟨_, a⟩
   ·exact Nat.ne_of_gt (Nat.lt_trans (Nat.lt_of_lt_of_le (flt b hb) hCs) (nc.ok x c (PySem.mem_of_lookup a)).2)
   ·exact f4 x c (hcl x c a)), fun p hp z => ?_⟩
  ·rcases List.mem_cons.mp (I.stkSub b hf) with z | z
   ·exact f1 z
   ·exact f2 z
  ·have h1 : p.1 = D := hpl p (by simpa [cxComp] using hp)
   exact nfD b hb (z.symm.trans h1)
 have loop : ∀ s₃ : Shared, s₃ = { s2 with heap := h₁, toks := s2.toks } →
   codeAny (model X.prog X.w) X.A (.compLoop (.ListComp elt [⟨tg, iter, ifs, 0⟩] scope pos) 0 (.ref it) (.ref D) (compEnvC scope (nw ++ cl) C X.env)) (RR (.ref D) C) s₃ := by
  rintro s₃ rfl
  refine codeAny_loop rfl (fun n s' => ∃ i σ' H' acc its k, Inv (cxComp X scope (nw ++ cl) C (own ++ fr.map (·.2)) s2 H2 fp) [] σ' H' s' ∧ tn i s'.heap ∧ (∀ b ∈ fp, H' b = none) ∧ H' D = none ∧
   s'.heap.get? D = some { cls := .type "list", data := .seq its.toArray k } ∧ Vals acc its ∧ W i n acc σ' H') ?_ m0
   ⟨0, _, H2, [], [], 0, I0, T.keep _ _ _ st fun b hb o e => old b o e, fun b hb => (hfp b hb).1, I.hok.fresh hDs, hacc, .nil, w0⟩
  rintro n s' ⟨i, σ', H', acc, its, k, I1, st1, fr1, nD, gD, rv, w1⟩
  show wpAny _ X.A ((compTurn (.ListComp elt [⟨tg, iter, ifs, 0⟩] scope pos) 0 (.ref it) (.ref D) (compEnvC scope (nw ++ cl) C X.env)).onRaise (fun x => do noteFrame x (compEnvC scope (nw ++ cl) C X.env); theTreesLotGoes x)) _ _ s'
  refine wpAny_noted ?_
  rw [compTurn_list]
  have I1' : Inv (cxComp X scope (nw ++ cl) C (own ++ fr.map (·.2)) s2 H2 fp) [(D, { cls := .type "list", data := .seq its.toArray k })] σ' H' s' := I1.pins_of fun p hp => by
   have e : p = (D, { cls := .type "list", data := .seq its.toArray k }) := by simpa using hp
   subst e
   exact ⟨gD, nD, nDC, Dstk, fun v z => nomatch z⟩
  rcases turn i n acc σ' H' w1 with ⟨stop, hz, qq⟩ | ⟨go, hz, NN, hNN, step⟩
  ·refine wpAny_bind (wpAny_standAt (wpAny_bind (wpAny_mono (T.done (cxComp X scope (nw ++ cl) C (own ++ fr.map (·.2)) s2 H2 fp) rfl rfl rfl hc i _ s' σ' H' (fun _ _ => False) I1' (stat fr1 (by simp)) st1 stop) (fun r s4 ⟨hr, I4⟩ => ?_) fun _ _ z => z.elim)))
   subst hr
   refine wpAny_pure ?_
   have gD4 := (I4.pin (D, _) (List.mem_append_right _ (List.mem_singleton.mpr rfl))).1
   have hC4 : H' C = none := I4.free
   have hC5 : (upd H' D (.lst acc)) C = none := by rw [upd_ne (Ne.symm nDC)]; exact hC4
   refine fin D C s4 (upd H' D (.lst acc)) ?_ hCs (Ne.symm nDC) hC5 (qq D nD) fun h'' kk => ?_
   ·obtain ⟨m, hn, _⟩ := I4.loc
    exact ⟨m, hn⟩
   ·have un : Un (frs X.stack) fp H2 (upd H' D (.lst acc)) s2.heap h'' := Un.but (a := C) (Un.track (o := .lst acc) I4.base hDs (I.hok.fresh hDs)) hCs kk
    have hok : HOk X.prog X.w (upd H' D (.lst acc)) s4.heap := HOk.track I4.hok nD ⟨hz, its, k, rv, gD4⟩
    exact I.call' (s' := { s4 with heap := h'' }) (ch := fp) I4.os un (HOk.but hok hC5 kk) I4.bare fun b hb => by
     obtain ⟨f0, f1, f2, f3, f4, f5⟩ := hfp b hb
     exact ⟨f3, f1, f4, f5⟩
  ·refine wpAny_bind (wpAny_standAt (wpAny_bind (wpAny_mono (T.item (cxComp X scope (nw ++ cl) C (own ++ fr.map (·.2)) s2 H2 fp) rfl rfl rfl hc i _ s' σ' H' (fun _ _ => False) I1' (stat fr1 (by simp)) st1 go) (fun r s4 ⟨u, hr, h4⟩ => ?_) fun _ _ z => z.elim)))
   subst hr
   refine wpAny_bind (wpAny_mono h4 (fun _ s5 ⟨x, H5, I5, r5, y5, st5, fr5⟩ => ?_) fun _ _ z => z.elim)
   have I5' := I5.pinned (stat fr5 (by simp)) (T.obj _ _ st5)
   refine wpAny_bind (wpAny_mono (pg _ s5 σ' H5 x u _ I5' r5 (step x H5 y5)) (fun _ s6 ⟨σ6, H6, I6, q6⟩ => ?_) fun _ _ z => z.elim)
   refine wpAny_bind (wpAny_mono (pt _ s6 σ6 H6 _ I6 q6) (fun ok s7 ⟨H7, I7, q7⟩ => ?_) fun _ _ z => z.elim)
   have again : ∀ {s8 : Shared} {H8 : Hp} {acc' : List V} {its' : List Value} {k' m' : Nat}, Inv (cxComp X scope (nw ++ cl) C (own ++ fr.map (·.2)) s2 H2 fp) (pinsAt fp s5.heap) σ6 H8 s8 → H8 D = none →
     s8.heap.get? D = some { cls := .type "list", data := .seq its'.toArray k' } → Vals acc' its' → m' < n → W (i + 1) m' acc' σ6 H8 →
     ∃ m, m < n ∧ ∃ i σ' H' acc its k, Inv (cxComp X scope (nw ++ cl) C (own ++ fr.map (·.2)) s2 H2 fp) [] σ' H' s8 ∧ tn i s8.heap ∧ (∀ b ∈ fp, H' b = none) ∧ H' D = none ∧
      s8.heap.get? D = some { cls := .type "list", data := .seq its.toArray k } ∧ Vals acc its ∧ W i m acc σ' H' := fun {s8 H8 acc' its' k' m'} I8 n8 g8 rv8 hm w8 => by
    refine ⟨m', hm, i + 1, σ6, H8, acc', its', k', I8.pins_of (fun p hp => nomatch hp), T.keep _ _ _ st5 fun b hb o e => (I8.pin (b, o) (List.mem_append_right _ (mem_pinsAt hb e))).1, fun b hb => ?_, n8, g8, rv8, w8⟩
    obtain ⟨o, e, d⟩ := T.obj _ _ st5 b hb
    exact (I8.pin (b, o) (List.mem_append_right _ (mem_pinsAt hb e))).2.1
   have dropD : ∀ {s8 : Shared} {H8 : Hp}, Inv (cxComp X scope (nw ++ cl) C (own ++ fr.map (·.2)) s2 H2 fp) ([(D, { cls := .type "list", data := .seq its.toArray k })] ++ pinsAt fp s5.heap) σ6 H8 s8 →
     Inv (cxComp X scope (nw ++ cl) C (own ++ fr.map (·.2)) s2 H2 fp) (pinsAt fp s5.heap) σ6 H8 s8 := fun I8 => I8.pins_of fun p hp => I8.pin p (List.mem_append_right _ (List.mem_append_right _ hp))
   cases ok with
   | false =>
    rw [if_neg Bool.false_ne_true] at q7
    obtain ⟨m', hm, w7⟩ := hNN _ _ _ q7
    have pD := I7.pin (D, _) (List.mem_append_right _ (List.mem_append_left _ (List.mem_singleton.mpr rfl)))
    simp only [Bool.false_eq_true, if_false]
    exact wpAny_pure ⟨rfl, again (dropD I7) pD.2.1 pD.1 rv hm w7⟩
   | true =>
    rw [if_pos rfl] at q7
    simp only [if_true]
    refine wpAny_bind (wpAny_bind (wpAny_mono (pe _ s7 σ6 H7 _ I7 q7) (fun u8 s8 ⟨y, H8, I8, r8, q8⟩ => ?_) fun _ _ z => z.elim))
    obtain ⟨m', hm, w8⟩ := hNN _ _ _ q8
    have pD := I8.pin (D, _) (List.mem_append_right _ (List.mem_append_left _ (List.mem_singleton.mpr rfl)))
    obtain ⟨gD8, nD8, _⟩ := pD
    have hlen := rv.length
    refine wpAny_bind (call_meets F.slot_list_append ⟨_, gD8, rfl⟩ F.entry_list_append (F.args_list_append_2 _ _) (PySem.list_append D its.toArray k u8 (by rw [List.size_toArray]; lia)) ⟨gD8, ?_⟩)
    refine wpAny_pure (wpAny_pure ⟨rfl, ?_⟩)
    have q := PySem.IsL.update gD8 (·.push u8)
    have e9 : its.toArray.push u8 = (its ++ [u8]).toArray := by simp
    rw [e9] at q
    refine again (its' := its ++ [u8]) ((dropD I8).turned (it := D) (t' := _) (fun b o hb e => (Heap.get?_update_other s8.heap _ (Ne.symm hb)).trans e) nD8 nDC (.inr hDs) (fun x c e => Dcell x c e) fun p hp z => ?_) nD8 q (rv.append (.cons r8 .nil)) hm w8
    have hp' : p ∈ pinsAt fp s5.heap := by simpa [cxComp] using hp
    exact nfD p.1 (of_pinsAt hp').1 z
 exact codeAny_compStart_list (loop _ rfl) (T.self _ 0 _ _ _ (T.keep _ _ _ st fun b hb o e => old b o e) (loop _ rfl))
theorem pe_comp {wi : TI} {g : TG} {tt : TT} {te : TE} (hc : X.calm = true) (S : CompScope X.N X.env.scope scope own fr) (hi : PI X tg iter wi)
  (hb : ∀ (cl : List (Str × Addr)) (C : Addr) (s : Shared) (H : Hp) (ex : List Addr), PG (cxComp X scope cl C (own ++ fr.map (·.2)) s H ex) tg g ∧ PIfs (cxComp X scope cl C (own ++ fr.map (·.2)) s H ex) ifs tt ∧ PE (cxComp X scope cl C (own ++ fr.map (·.2)) s H ex) elt te)
  (hs : ∀ x, foldedSetIterable iter X.env x = pure x := by intro _; rfl) : PE X (.ListComp elt [⟨tg, iter, ifs, 0⟩] scope pos) (tComp own fr wi g tt te) := by
 intro pins s σ H Q I h
 obtain ⟨cl, hclos, hcl, hcl2⟩ := closure_ok (scope := scope) (env := X.env) fun x hx => I.ok.has x (S.free (x, .free) hx rfl)
 rw [eval_ListComp]
 refine wpAny_comprehension_free (use := none) rfl hs hclos S.kind S.locs (thn (hi pins s σ H _ I h) fun xv s₁ h₁ => thn h₁ fun itv s₂ h₂ => ?_)
 obtain ⟨it, fp, tn, J, H2, e, I2, T, st2, f2, hq⟩ := h₂
 subst e
 refine comp_block hc S I2 hcl hcl2 T st2 f2 hb hq (RR := fun acc C => compPost (model X.prog X.w) X.A X.xe none (EP X pins σ Q) acc C) fun D C s' H' hn hC1 hCD hC2 q inv => ?_
 obtain ⟨m, hn⟩ := hn
 exact ⟨m, hn, fun h'' sb => ⟨.ref D, H', inv h'' fun b o hb e => sb.extBut b o hb e, rfl, q⟩⟩
theorem ps_comp {i : Nat} {x : Str} {px spos : Pos} {wi : TI} {g : TG} {tt : TT} {te : TE} (hc : X.calm = true) (hN : X.N.Nodup) (hix : X.N[i]? = some x) (hx : X.env.scope.names.lookup x = some .local) (S : CompScope X.N X.env.scope scope own fr) (hi : PI X tg iter wi)
  (hb : ∀ (cl : List (Str × Addr)) (C : Addr) (s : Shared) (H : Hp) (ex : List Addr), PG (cxComp X scope cl C (own ++ fr.map (·.2)) s H ex) tg g ∧ PIfs (cxComp X scope cl C (own ++ fr.map (·.2)) s H ex) ifs tt ∧ PE (cxComp X scope cl C (own ++ fr.map (·.2)) s H ex) elt te)
  (hsw : swapsWith (.ListComp elt [⟨tg, iter, ifs, 0⟩] scope pos) (some (.Name x px)) spos.line X.env = pure true) (hs : ∀ x, foldedSetIterable iter X.env x = pure x := by intro _; rfl) :
  PS X (.Assign [.Name x px] (.ListComp elt [⟨tg, iter, ifs, 0⟩] scope pos) spos) (tAsg (tComp own fr wi g tt te) (gName i)) := by
 intro pins s σ H D I h
 obtain ⟨cl, hclos, hcl, hcl2⟩ := closure_ok (scope := scope) (env := X.env) fun x hx => I.ok.has x (S.free (x, .free) hx rfl)
 rw [exec_Assign_Name_used _ _ _ _ hsw]
 refine wpAny_bind (wpAny_standAt (wpAny_bind ?_))
 show wpAny _ X.A (do let _ ← comprehension (.ListComp elt [⟨tg, iter, ifs, 0⟩] scope pos) scope X.env _ (newList []) false (eval iter X.env) (some (assign (.Name x px) X.env))) _ _ s
 refine wpAny_bind (wpAny_mono (wpAny_comprehension_free (use := some (assign (.Name x px) X.env)) (Q := fun _ s' => SP X pins D .next s') rfl hs hclos S.kind S.locs (thn (hi pins s σ H _ I h) fun xv s₁ h₁ => thn h₁ fun itv s₂ h₂ => ?_)) (fun _ s' hq => wpAny_pure (wpAny_pure hq)) fun _ _ e => e)
 obtain ⟨it, fp, tn, J, H2, e, I2, T, st2, f2, hq⟩ := h₂
 subst e
 refine comp_block (Q := fun x H1 => gName i x σ H1 D.nx) hc S I2 hcl hcl2 T st2 f2 hb hq (RR := fun acc C => compPost (model X.prog X.w) X.A X.xe (some (assign (.Name x px) X.env)) (fun _ s' => SP X pins D .next s') acc C) fun Da C s' H' hn hC1 hCD hC2 q inv => ?_
 obtain ⟨m, hn⟩ := hn
 have I3 : Inv X pins σ H' { s' with heap := s'.heap } := inv s'.heap fun _ _ _ e => e
 show wpAny _ X.A (assign (.Name x px) X.env (.ref Da)) _ _ s'
 refine wpAny_assign_Name (store_ok2 I3 hN hix (.inl hx) (v := .ref Da) rfl (fun s4 I4 ⟨a, sb, ha⟩ => ?_) (.inr hx))
 have hCL : C ≠ X.env.locals := Nat.ne_of_gt (Nat.lt_of_lt_of_le I2.lt hC1)
 have hCc : ∀ y c, X.env.cells.lookup y = some c → c ≠ C := fun y c e => by
  obtain ⟨v, w⟩ := I2.cell y c e
  exact Nat.ne_of_lt (Nat.lt_of_lt_of_le w.lt hC1)
 have haC : C ≠ a := by
  rcases ha with ha | ha
  ·rw [ha]; exact hCL
  ·exact (hCc _ _ ha).symm
 refine ⟨m, hn.sameBut sb haC, fun h'' sb2 => ⟨_, H', I4.turned (it := C) (t' := s4.toks) (fun b o hb e => sb2.extBut b o hb e) hC2 hCL (.inr (Nat.le_trans I2.sz hC1)) hCc fun p hp z => ?_, q⟩⟩
 exact Nat.ne_of_lt (Nat.lt_of_lt_of_le (Heap.lt_size (I2.pin p hp).1) hC1) z
end
theorem comp_list {K : PySem.W.Frag} {a : Addr} {xs : List V} {g : TG} {tt : TT} {te : TE} {σ₀ : St} {H : Hp} {Q : VK} (Pv : Nat → List V → St → Hp → Prop) (h0 : Pv 0 [] σ₀ H) (hz : xs.length ≤ sizeLine) (hn : ∀ i acc σ H, Pv i acc σ H → acc.length ≤ i)
  (hl : ∀ i acc σ H, i ≤ xs.length → Pv i acc σ H → SqL K H a xs)
  (hs : ∀ i x acc σ H, xs[i]? = some x → Pv i acc σ H → g x σ H fun σ2 H2 => tt σ2 H2 fun ok H3 => if ok = true then te σ2 H3 fun y H4 => Pv (i + 1) (acc ++ [y]) σ2 H4 else Pv (i + 1) acc σ2 H3)
  (hd : ∀ acc σ H, Pv xs.length acc σ H → ∀ p, H p = none → Q (.ref p) (upd H p (.lst acc))) :
  CompGo (Itl K a) g tt te Q σ₀ H := by
 refine ⟨fun i m acc σ H => m = xs.length - i ∧ i ≤ xs.length ∧ Pv i acc σ H, ⟨xs.length, by simp, Nat.zero_le _, h0⟩, ?_⟩
 rintro i m acc σ H ⟨rfl, hi, p⟩
 have q := hl i acc σ H hi p
 have hlen := hn i acc σ H p
 by_cases hlt : i < xs.length
 ·refine .inr ⟨⟨xs, xs[i], q, by simp [hlt]⟩, by lia, Pv (i + 1), fun acc' σ' H' p' => ⟨xs.length - (i + 1), by lia, rfl, hlt, p'⟩, fun x H' y => ?_⟩
  obtain ⟨e, y⟩ := y
  subst e
  exact hs i x acc σ _ (y xs q) p
 ·have e : i = xs.length := by lia
  subst e
  exact .inl ⟨⟨xs, q, Nat.le_refl _⟩, by lia, hd acc σ H p⟩
theorem comp_tup {K : PySem.W.Frag} {a : Addr} {xs : List V} {g : TG} {tt : TT} {te : TE} {σ₀ : St} {H : Hp} {Q : VK} (Pv : Nat → List V → St → Hp → Prop) (h0 : Pv 0 [] σ₀ H) (hz : xs.length ≤ sizeLine) (hn : ∀ i acc σ H, Pv i acc σ H → acc.length ≤ i)
  (hl : ∀ i acc σ H, i ≤ xs.length → Pv i acc σ H → SqT K H a xs)
  (hs : ∀ i x acc σ H, xs[i]? = some x → Pv i acc σ H → g x σ H fun σ2 H2 => tt σ2 H2 fun ok H3 => if ok = true then te σ2 H3 fun y H4 => Pv (i + 1) (acc ++ [y]) σ2 H4 else Pv (i + 1) acc σ2 H3)
  (hd : ∀ acc σ H, Pv xs.length acc σ H → ∀ p, H p = none → Q (.ref p) (upd H p (.lst acc))) :
  CompGo (Itt K a) g tt te Q σ₀ H := by
 refine ⟨fun i m acc σ H => m = xs.length - i ∧ i ≤ xs.length ∧ Pv i acc σ H, ⟨xs.length, by simp, Nat.zero_le _, h0⟩, ?_⟩
 rintro i m acc σ H ⟨rfl, hi, p⟩
 have q := hl i acc σ H hi p
 have hlen := hn i acc σ H p
 by_cases hlt : i < xs.length
 ·refine .inr ⟨⟨xs, xs[i], q, by simp [hlt]⟩, by lia, Pv (i + 1), fun acc' σ' H' p' => ⟨xs.length - (i + 1), by lia, rfl, hlt, p'⟩, fun x H' y => ?_⟩
  obtain ⟨e, y⟩ := y
  subst e
  exact hs i x acc σ _ (y xs q) p
 ·have e : i = xs.length := by lia
  subst e
  exact .inl ⟨⟨xs, q, Nat.le_refl _⟩, by lia, hd acc σ H p⟩
end L2
namespace L2
open PySem PySem.Spec PyProof.Rows
theorem iteP {c A B : Prop} [Decidable c] (h : c) (a : A) : if c then A else B := by rw [if_pos h]; exact a
theorem iteN {c A B : Prop} [Decidable c] (h : ¬ c) (b : B) : if c then A else B := by rw [if_neg h]; exact b
structure Callee (P : Program) (w : World) (K : PySem.W.Frag) (mg : Str → Option Value) (base : Heap) (k : Nat) (x : Str) (ps : List Str) (sp : Sp) : Prop where
 ex : ∃ (f : Addr) (fd : FuncData), FnOk P w K mg base CX0 k f fd ps sp ∧ Binds K fd ps [] ∧ PySem.W.keepIn K (.ref f) = true ∧ mg x = some (.ref f)
structure Def (K : PySem.W.Frag) (mg : Str → Option Value) (x : Str) (st : Stmt) (ps : List Str) : Prop where
 ex : ∃ (f : Addr) (fd : FuncData), Fun K x x st f fd ∧ Binds K fd ps [] ∧ mg x = some (.ref f)
section
variable {P : Program} {w : World} {K : PySem.W.Frag} {mg : Str → Option Value} {base : Heap}
theorem Def.ok {x : Str} {st : Stmt} {N ps : List Str} {k : Nat} {sp : Sp} (D : Def K mg x st ps) (S : FnScope N ps (defScope st)) (len : ∀ vs H Q E, sp vs H Q E → vs.length = ps.length)
  (hbody : ∀ (f : Addr) (cdv : Value) (A : Around) (outer : List Env) (s : Shared) (H : Hp) (vs : List V) (Q : VK) (E : XK), Room k (A.deeper (envOfC x (defScope st) s.heap.objs.size f cdv)) → sp vs H Q E →
   ∃ t, PSs (cxOf CX0 P w K mg base N x (defScope st) f cdv A outer s H E).nox (defBody st) t ∧ t { nx := fun _ H' => Q .non H', rt := Q } (start N vs) H) : Callee P w K mg base (k + 1) x ps sp := by
 obtain ⟨f, fd, F, b, m⟩ := D.ex
 exact ⟨f, fd, F.ok S len fun cdv A outer s H vs Q E hr h => hbody f cdv A outer s H vs Q E hr h, b, F.kp, m⟩
end
section
variable {X : Cx} {k n : Nat} {ps : List Str} {sp : Sp} {x : Str} {p pos : Pos} {e : Expr} {es : List Expr} {t : TA}
theorem pe_fn (C : Callee X.prog X.w X.K X.mg X.base k x ps sp) (hr : Room n X.A) (hg : Gl X x) (ha : PA X (e :: es) t) (hk : k ≤ n := by decide) (hdb : (x == ("__debug__" : Str)) = false := by decide)
  (he : starEach (e :: es) X.env = (false, eval e X.env) :: starEach es X.env := by rfl) (hpl : (backTo pos (starEach es X.env)).any (·.1) = false := by rfl) :
  PE X (.Call (.Name x p) (e :: es) [] pos) (tCall sp [] E0 t) := by
 obtain ⟨f, fd, F, b, kp, m⟩ := C.ex
 exact pe_call F (hr.mono hk) hg m kp b .nil pass0 ha hdb he hpl
theorem call_isinst : CallR X (.builtin "isinstance") (fun xs H Q => ∃ v T t b, xs = [v, .ty T] ∧ TyOf X.K H v t ∧ PySem.W.kitOne X.K t (.type T) = some b ∧ Q (.bl b) H) := by
 intro pins s σ H xs us Q I r h
 obtain ⟨v, T, t, b, rfl, ty, e, q⟩ := h
 obtain ⟨u, u', rfl, r1, r2⟩ := vals2 r
 cases r2
 exact isinst_ok I r1 ty e fun tk => ⟨.bl b, H, I.tok _, rfl, q⟩
noncomputable def kitB (S T : String) : Option Bool := if (Value.type S == Value.type T) = true then some true else if PySem.W.kitMeta T = true then (fastBuiltinMro S).map (·.contains (.type T)) else none
theorem kit_of {K : PySem.W.Frag} {S T : String} {b : Bool} (h : kitB S T = some b) : PySem.W.kitOne K (.type S) (.type T) = some b := h
section
variable {K : PySem.W.Frag}
theorem kit_int_int : PySem.W.kitOne K (.type "int") (.type "int") = some true := kit_of (by decide +kernel)
theorem kit_int_bool : PySem.W.kitOne K (.type "int") (.type "bool") = some false := kit_of (by decide +kernel)
theorem kit_tup_tup : PySem.W.kitOne K (.type "tuple") (.type "tuple") = some true := kit_of (by decide +kernel)
theorem kit_lst_lst : PySem.W.kitOne K (.type "list") (.type "list") = some true := kit_of (by decide +kernel)
theorem kit_lst_tup : PySem.W.kitOne K (.type "list") (.type "tuple") = some false := kit_of (by decide +kernel)
theorem kit_tup_int : PySem.W.kitOne K (.type "tuple") (.type "int") = some false := kit_of (by decide +kernel)
theorem kit_lst_int : PySem.W.kitOne K (.type "list") (.type "int") = some false := kit_of (by decide +kernel)
end
theorem call_sorted_ints : CallR X (.builtin "sorted") (fun xs H Q => ∃ (p : Addr) (ns : List Int), xs = [.ref p] ∧ SqL X.K H p (ns.map V.int) ∧ ns.length < 64 ∧ ∀ ns' : List Int, ns'.Perm ns → ns'.Pairwise (· ≤ ·) → ∀ l, H l = none → Q (.ref l) (upd H l (.lst (ns'.map V.int)))) := by
 intro pins s σ H xs us Q I r h
 obtain ⟨p, ns, rfl, hq, h64, q⟩ := h
 obtain ⟨u, rfl, rx⟩ := vals1 r
 cases rx
 obtain ⟨its, r', pl, hz⟩ := I.list hq
 have hi : IntsAre its ns := intsAre_of r'
 have hlen : its.length = ns.length := hi.length
 refine sorted_ints pl.isList hi (by lia) fun out ns' a1 a2 a3 => ?_
 obtain ⟨e, he⟩ := sortedAll_at s.heap its out
 have hz' : (ns'.map V.int).length ≤ sizeLine := by
  rw [List.length_map, a2.length_eq]
  rw [List.length_map] at hz
  exact hz
 exact ⟨.ref (s.heap.objs.size + 1), _, I.laid (t' := s.toks) (o := .lst (ns'.map V.int)) (fun b o e => sortedAll_old e) (Nat.le_succ _) ⟨hz', out.toList, e, vals_ints a1, by simpa [seqObj] using he⟩, rfl, q ns' a2 a3 _ (I.hok.fresh (Nat.le_succ _))⟩
theorem bools_at {bs : List Bool} : ∀ {us : List Value}, Vals (bs.map V.bl) us → ∀ (i : Nat) (v : Value), us[i]? = some v → v = .bool (bs.getD i false) := by
 induction bs with
 | nil => intro us r i v e; rw [List.map_nil] at r; cases r; simp at e
 | cons b bs ih =>
  intro us r i v e
  rw [List.map_cons] at r
  cases r with
  | cons r1 r2 =>
   cases i with
   | zero =>
    have e' := Option.some.inj e
    rw [← e']
    exact r1
   | succ i => exact ih r2 i v (by simpa using e)
theorem all_range (bs : List Bool) : (List.range bs.length).all (fun i => bs.getD i false) = bs.all id := by
 rw [Bool.eq_iff_iff, List.all_eq_true, List.all_eq_true]
 constructor
 ·intro h b hb
  obtain ⟨i, hi, e⟩ := List.getElem_of_mem hb
  have := h i (by simpa using hi)
  simpa [List.getD, hi, e] using this
 ·intro h i hi
  have hi' : i < bs.length := by simpa using hi
  have := h bs[i] (List.getElem_mem hi')
  simpa [List.getD, hi'] using this
theorem call_all_bools (hc : X.calm = true) : CallR X (.builtin "all") (fun xs H Q => ∃ (p : Addr) (bs : List Bool), xs = [.ref p] ∧ SqL X.K H p (bs.map V.bl) ∧ Q (.bl (bs.all id)) H) := by
 intro pins s σ H xs us Q I r h
 obtain ⟨p, bs, rfl, hq, q⟩ := h
 obtain ⟨u, rfl, rx⟩ := vals1 r
 cases rx
 obtain ⟨its, r', pl, hz⟩ := I.list hq
 have hlen : its.length = bs.length := by rw [← r'.length, List.length_map]
 obtain ⟨o, n, ho, _⟩ := id pl
 have hne : p ≠ s.heap.objs.size := Nat.ne_of_lt (Heap.lt_size ho)
 refine call_all_walk (wpAny_pyIter_list pl.isList ?_)
 refine ⟨s.heap.objs.size, _, _, its.toArray.size, _, _, fun i => bs.getD i false, rfl, Walks.list (A := X.A.in1) (I.ok.hd hc) s.heap.objs.size p hne its.toArray, ⟨⟨_, Heap.get?_push_size _ rfl, rfl, rfl⟩, pl.isList.at fun o e => Heap.get?_push_of_some _ e⟩, fun i v s' Q' E' e hQ => ?_, fun h' tk kk => ?_⟩
 ·rw [bools_at r' i v (by simpa using e)]
  exact wpAny_truthy_bool hQ
 ·have kp : ∀ b o, s.heap.get? b = some o → h'.get? b = some o := fun b o e => kk b o (by simpa using Nat.ne_of_lt (Heap.lt_size e)) (Heap.get?_push_of_some _ e)
  rw [List.size_toArray, hlen, all_range]
  exact ⟨.bl (bs.all id), H, I.kept kp, rfl, q⟩
end
end L2
namespace L2
open PySem PySem.Spec PyProof.Rows
noncomputable def RowAt (b : Bool) (h : Heap) (l : Addr) (xs : Array Value) : Prop := match b with
 | true => h.IsTuple l xs
 | false => h.IsList l xs
noncomputable def RowIt (b : Bool) (h : Heap) (i l : Addr) (k : Nat) : Prop := match b with
 | true => h.IsTupleIter i l k
 | false => h.IsListIter i l k
theorem RowAt.kept {b : Bool} {h h' : Heap} {l : Addr} {xs : Array Value} (x : RowAt b h l xs) (k : ∀ o, h.get? l = some o → h'.get? l = some o) : RowAt b h' l xs := by
 cases b with
 | true => obtain ⟨o, e, r⟩ := (show h.IsTuple l xs from x); exact ⟨o, k o e, r⟩
 | false => obtain ⟨o, e, r⟩ := (show h.IsList l xs from x); exact ⟨o, k o e, r⟩
theorem RowIt.kept {b : Bool} {h h' : Heap} {i l : Addr} {n : Nat} (x : RowIt b h i l n) (k : ∀ o, h.get? i = some o → h'.get? i = some o) : RowIt b h' i l n := by
 cases b with
 | true => obtain ⟨o, e, r⟩ := (show h.IsTupleIter i l n from x); exact ⟨o, k o e, r⟩
 | false => obtain ⟨o, e, r⟩ := (show h.IsListIter i l n from x); exact ⟨o, k o e, r⟩
theorem RowIt.there {b : Bool} {h : Heap} {i l : Addr} {n : Nat} (x : RowIt b h i l n) : ∃ o, h.get? i = some o ∧ ∀ v, o.data ≠ .cell v := by
 cases b with
 | true => obtain ⟨o, e, c, d⟩ := (show h.IsTupleIter i l n from x); exact ⟨o, e, fun v z => by rw [d] at z; cases z⟩
 | false => obtain ⟨o, e, c, d⟩ := (show h.IsListIter i l n from x); exact ⟨o, e, fun v z => by rw [d] at z; cases z⟩
section
variable {prog : Program} {w : World} {A : Around} {E : Value → Shared → Prop} {s : Shared}
theorem tupNext {it t : Addr} {i : Nat} {items : Array Value} {x : Value} {Q : Value → Shared → Prop} (hit : s.heap.IsTupleIter it t i) (ht : s.heap.IsTuple t items) (hx : items[i]? = some x)
  (hQ : ∀ h', h'.IsTupleIter it t (i + 1) → Heap.SameBut it s.heap h' → Q x { s with heap := h' }) : wpAny (model prog w) A (Builtin.SmallTypes.nextOf (.ref it)) Q E s := by
 obtain ⟨oi, gi, ci, di⟩ := id hit
 obtain ⟨ot, gt, _, nt, dt⟩ := ht
 unfold Builtin.SmallTypes.nextOf
 refine wpAny_bind (wpAny_callSpecial?_slot (name := Str.ofString "__next__") hit.typeIs F.slot_tuple_iterator_next (wpAny_call_entry F.slot_tuple_iterator_next hit.typeIs F.entry_tuple_iterator_next ?_ (F.args_tuple_iterator_next_1 _)))
 show wpAny _ _ (field (.ref it) 0 >>= _) _ _ s
 refine wpAny_bind (wpAny_field gi di (x := .ref t) rfl ?_)
 show wpAny _ _ (if (Value.ref t == Value.none) = true then _ else _) _ _ s
 rw [if_neg (show ¬ ((Value.ref t == Value.none) = true) from Bool.false_ne_true)]
 show wpAny _ _ (field (.ref it) 1 >>= _) _ _ s
 refine wpAny_bind (wpAny_field gi di (x := .int i 0) rfl ?_)
 show wpAny _ _ (seqItems? (.ref t) >>= _) _ _ s
 refine wpAny_bind (wpAny_seqItems gt dt ?_)
 simp only [Int.toNat_natCast, hx]
 refine wpAny_bind (wpAny_setField gi di (by simp) (wpAny_pure ⟨x, rfl, wpAny_pure (hQ _ ?_ (Heap.SameBut.update ..))⟩))
 exact ⟨_, Heap.get?_update_self _ gi (Obj.isFreed_of_fields (Obj.data_mapFields di _)), (Obj.cls_mapFields ..).trans ci, by rw [Obj.data_mapFields di]; simp [rawInt]⟩
theorem tupStop {it t : Addr} {i : Nat} {items : Array Value} {Q : Value → Shared → Prop} (hh : A.handled = none) (hit : s.heap.IsTupleIter it t i) (ht : s.heap.IsTuple t items) (hx : items[i]? = none)
  (hE : ∀ h' e, Heap.ExtBut it s.heap h' → (∃ o, h'.get? e = some o ∧ o.cls = .type "StopIteration") → E (.ref e) { s with heap := h' }) : wpAny (model prog w) A (Builtin.SmallTypes.nextOf (.ref it)) Q E s := by
 obtain ⟨oi, gi, ci, di⟩ := id hit
 obtain ⟨ot, gt, _, nt, dt⟩ := ht
 unfold Builtin.SmallTypes.nextOf
 refine wpAny_bind (wpAny_callSpecial?_slot (name := Str.ofString "__next__") hit.typeIs F.slot_tuple_iterator_next (wpAny_call_entry F.slot_tuple_iterator_next hit.typeIs F.entry_tuple_iterator_next ?_ (F.args_tuple_iterator_next_1 _)))
 show wpAny _ _ (field (.ref it) 0 >>= _) _ _ s
 refine wpAny_bind (wpAny_field gi di (x := .ref t) rfl ?_)
 show wpAny _ _ (if (Value.ref t == Value.none) = true then _ else _) _ _ s
 rw [if_neg (show ¬ ((Value.ref t == Value.none) = true) from Bool.false_ne_true)]
 show wpAny _ _ (field (.ref it) 1 >>= _) _ _ s
 refine wpAny_bind (wpAny_field gi di (x := .int i 0) rfl ?_)
 show wpAny _ _ (seqItems? (.ref t) >>= _) _ _ s
 refine wpAny_bind (wpAny_seqItems gt dt ?_)
 simp only [Int.toNat_natCast, hx]
 refine wpAny_bind (wpAny_rule (wpAny_bind (wpAny_setField gi di (by simp) ?_)))
 show wpAny _ _ (newExc (.type "StopIteration") [] >>= _) _ _ _
 refine wpAny_bind ?_
 simp only [newExc, newTuple]
 refine wpAny_bind (wpAny_newObj_type ?_ (by size_fits))
 refine wpAny_bind (m := firstArgMember _ _) (wpAny_of_eq (a := Value.none) (by first | rfl | (simp only [firstArgMember]; rfl)) ?_)
 refine wpAny_newObj_type ?_ (by size_fits)
 simp only [raiseNew]
 refine wpAny_bind (wpAny_handled ?_)
 first | rw [show A.in1.handled = none from hh] | rw [hh]
 refine wpAny_bind (wpAny_pure (wpAny_throw ?_))
 exact hE _ _ (((Heap.SameBut.update ..).extBut.push _).push _) ⟨_, Heap.get?_push_size _ rfl, rfl⟩
theorem rowNext {b : Bool} {it l : Addr} {i : Nat} {items : Array Value} {x : Value} {Q : Value → Shared → Prop} (hit : RowIt b s.heap it l i) (hl : RowAt b s.heap l items) (hx : items[i]? = some x)
  (hQ : ∀ h', RowIt b h' it l (i + 1) → Heap.SameBut it s.heap h' → Q x { s with heap := h' }) : wpAny (model prog w) A (Builtin.SmallTypes.nextOf (.ref it)) Q E s := by
 cases b with
 | true => exact tupNext hit hl hx hQ
 | false => exact wpAny_nextOf_list_item hit hl hx hQ
theorem rowStop {b : Bool} {it l : Addr} {i : Nat} {items : Array Value} {Q : Value → Shared → Prop} (hh : A.handled = none) (hit : RowIt b s.heap it l i) (hl : RowAt b s.heap l items) (hx : items[i]? = none)
  (hE : ∀ h' e, Heap.ExtBut it s.heap h' → (∃ o, h'.get? e = some o ∧ o.cls = .type "StopIteration") → E (.ref e) { s with heap := h' }) : wpAny (model prog w) A (Builtin.SmallTypes.nextOf (.ref it)) Q E s := by
 cases b with
 | true => exact tupStop hh hit hl hx hE
 | false => exact wpAny_nextOf_list_end hh hit hl hx hE
structure ZAp (z t o i j l m : Addr) : Prop where
 tz : t ≠ z
 oz : o ≠ z
 iz : i ≠ z
 jz : j ≠ z
 ot : o ≠ t
 it : i ≠ t
 jt : j ≠ t
 io : i ≠ o
 jo : j ≠ o
 ij : i ≠ j
 lz : l ≠ z
 lo : l ≠ o
 li : l ≠ i
 lj : l ≠ j
 mz : m ≠ z
 mo : m ≠ o
 mi : m ≠ i
 mj : m ≠ j
theorem zipNext {b : Bool} {z t o i j l m : Addr} {n : Nat} {xs ys : Array Value} {x y c d : Value} {Q : Option Value → Shared → Prop} (D : ZAp z t o i j l m) (hz : IsZip s.heap z t o .none) (ht : IsPair s.heap t (.ref i) (.ref j)) (ho : IsPair s.heap o c d)
  (hi : RowIt b s.heap i l n) (hj : RowIt b s.heap j m n) (hl : RowAt b s.heap l xs) (hm : RowAt b s.heap m ys) (hx : xs[n]? = some x) (hy : ys[n]? = some y)
  (hQ : ∀ h', IsZip h' z t o (rawInt s.heap.objs.size) → IsPair h' o x y → RowIt b h' i l (n + 1) → RowIt b h' j m (n + 1) → IsPair h' s.heap.objs.size x y → h'.objs.size = s.heap.objs.size + 1 →
   (∀ a u, a ≠ z → a ≠ o → a ≠ i → a ≠ j → s.heap.get? a = some u → h'.get? a = some u) → Q (some (.ref s.heap.objs.size)) { s with heap := h' }) : wpAny (model prog w) A (pyNext (.ref z)) Q E s := by
 have hT : s.TypeIs (.ref z) "zip" := ⟨_, hz, rfl⟩
 unfold pyNext
 refine wpAny_bind (wpAny_attempt (wpAny_callSpecial?_slot (name := Str.ofString "__next__") hT F.slot_zip_next (wpAny_call_entry F.slot_zip_next hT F.entry_zip_next ?_ (F.args_zip_next_1 _))))
 show wpAny _ _ (field (.ref z) 2 >>= _) _ _ _
 refine wpAny_bind (wpAny_field hz rfl (x := .bool false) rfl ?_)
 show wpAny _ _ (field (.ref z) 3 >>= _) _ _ _
 refine wpAny_bind (wpAny_field hz rfl (x := .ref t) rfl ?_)
 refine wpAny_bind (wpAny_seqItems ht rfl ?_)
 show wpAny _ _ (Builtin.SmallTypes.ownedTupleIsFree (.ref z) >>= _) _ _ _
 refine wpAny_bind ?_
 unfold Builtin.SmallTypes.ownedTupleIsFree
 refine wpAny_bind (wpAny_field hz rfl (x := .none) rfl (wpAny_pure ?_))
 simp only [if_true]
 refine wpAny_bind (wpAny_rule ?_)
 refine wpAny_bind (wpAny_field hz rfl (x := .ref o) rfl ?_)
 refine wpAny_bind (wpAny_setField_rec hz (by simp) fun h1 z1 s1 => ?_)
 replace z1 : IsZip h1 z t o .ellipsis := z1
 refine wpAny_bind ?_
 simp only [List.zipIdx_cons, List.zipIdx_nil, List.forIn_cons, List.forIn_nil]
 refine wpAny_bind (wpAny_bind (wpAny_onRaise ?_))
 show wpAny _ _ (Builtin.SmallTypes.nextOf (.ref i) >>= _) _ _ _
 refine wpAny_bind (rowNext (s := { s with heap := h1 }) (hi.kept fun u e => s1.extBut _ u D.iz e) (hl.kept fun u e => s1.extBut _ u D.lz e) hx fun h2 i2 s2 => wpAny_pure ?_)
 have o2 : IsPair h2 o c d := s2.extBut _ _ (Ne.symm D.io) (s1.extBut _ _ D.oz ho)
 refine wpAny_bind (wpAny_seqItems o2 rfl ?_)
 refine wpAny_bind (wpAny_updateSeq_pair o2 fun h3 o3 s3 => ?_)
 replace o3 : IsPair h3 o x d := o3
 refine wpAny_bind (wpAny_letGo (wpAny_pure ?_))
 refine wpAny_bind (wpAny_bind (wpAny_onRaise ?_))
 show wpAny _ _ (Builtin.SmallTypes.nextOf (.ref j) >>= _) _ _ _
 refine wpAny_bind (rowNext (s := { s with heap := h3 }) (hj.kept fun u e => s3.extBut _ u D.jo (s2.extBut _ u (Ne.symm D.ij) (s1.extBut _ u D.jz e))) (hm.kept fun u e => s3.extBut _ u D.mo (s2.extBut _ u D.mi (s1.extBut _ u D.mz e))) hy fun h4 j4 s4 => wpAny_pure ?_)
 have o4 : IsPair h4 o x d := s4.extBut _ _ (Ne.symm D.jo) o3
 refine wpAny_bind (wpAny_seqItems o4 rfl ?_)
 refine wpAny_bind (wpAny_updateSeq_pair o4 fun h5 o5 s5 => ?_)
 replace o5 : IsPair h5 o x y := o5
 refine wpAny_bind (wpAny_letGo (wpAny_pure (wpAny_pure ?_)))
 refine wpAny_bind (wpAny_seqItems o5 rfl ?_)
 refine wpAny_bind (wpAny_newTuple ?_)
 have hsz : h5.objs.size = s.heap.objs.size := by rw [s5.1, s4.1, s3.1, s2.1, s1.1]
 have z5 : IsZip h5 z t o .ellipsis := s5.extBut _ _ (Ne.symm D.oz) (s4.extBut _ _ (Ne.symm D.jz) (s3.extBut _ _ (Ne.symm D.oz) (s2.extBut _ _ (Ne.symm D.iz) z1)))
 have k5 : ∀ a u, a ≠ z → a ≠ o → a ≠ i → a ≠ j → s.heap.get? a = some u → h5.get? a = some u := fun a u a1 a2 a3 a4 e => s5.extBut _ _ a2 (s4.extBut _ _ a4 (s3.extBut _ _ a2 (s2.extBut _ _ a3 (s1.extBut _ _ a1 e))))
 have i5 : RowIt b h5 i l (n + 1) := i2.kept fun u e => s5.extBut _ u D.io (s4.extBut _ u D.ij (s3.extBut _ u D.io e))
 have j5 : RowIt b h5 j m (n + 1) := j4.kept fun u e => s5.extBut _ u D.jo e
 have hzlt : z < h5.objs.size := Heap.lt_size z5
 show wpAny _ _ (Builtin.SmallTypes.ownedTupleHandOut (.ref z) (.ref h5.objs.size) >>= _) _ _ _
 refine wpAny_bind ?_
 unfold Builtin.SmallTypes.ownedTupleHandOut
 have z6 : IsZip (h5.push { cls := .type "tuple", data := .seq #[x, y] }) z t o .ellipsis := Heap.get?_push_of_some _ z5
 refine wpAny_bind (wpAny_setField_rec z6 (by simp) fun h7 z7 s7 => ?_)
 replace z7 : IsZip h7 z t o (rawInt h5.objs.size) := z7
 refine wpAny_setField_rec z7 (by simp) fun h8 z8 s8 => ?_
 replace z8 : IsZip h8 z t o (rawInt h5.objs.size) := z8
 have up : ∀ a u, a ≠ z → h5.get? a = some u → h8.get? a = some u := fun a u a1 e => s8.extBut _ _ a1 (s7.extBut _ _ a1 (Heap.get?_push_of_some _ e))
 have t8 : IsPair h8 h5.objs.size x y := s8.extBut _ _ (Nat.ne_of_gt hzlt) (s7.extBut _ _ (Nat.ne_of_gt hzlt) (Heap.get?_push_size _ rfl))
 have n8 : h8.objs.size = h5.objs.size + 1 := by rw [s8.1, s7.1, Heap.size_push]
 rw [hsz] at z8 t8 n8
 refine wpAny_pure ⟨_, rfl, wpAny_pure ?_⟩
 show Q (some (.ref h5.objs.size)) _
 rw [hsz]
 exact hQ h8 z8 (up _ _ D.oz o5) (i5.kept fun u e => up _ u D.iz e) (j5.kept fun u e => up _ u D.jz e) t8 n8 fun a u a1 a2 a3 a4 e => up a u a1 (k5 a u a1 a2 a3 a4 e)
theorem zipStop {b : Bool} {z t o i j l m : Addr} {n : Nat} {xs ys : Array Value} {c d : Value} {Q : Option Value → Shared → Prop} (hh : A.handled = none) (D : ZAp z t o i j l m) (hz : IsZip s.heap z t o .none) (ht : IsPair s.heap t (.ref i) (.ref j)) (ho : IsPair s.heap o c d)
  (hi : RowIt b s.heap i l n) (hj : RowIt b s.heap j m n) (hl : RowAt b s.heap l xs) (hm : RowAt b s.heap m ys) (hend : xs[n]? = none ∨ ys[n]? = none)
  (hQ : ∀ h', (∀ a u, a ≠ z → a ≠ o → a ≠ i → a ≠ j → s.heap.get? a = some u → h'.get? a = some u) → Q none { s with heap := h' }) : wpAny (model prog w) A (pyNext (.ref z)) Q E s := by
 have hT : s.TypeIs (.ref z) "zip" := ⟨_, hz, rfl⟩
 unfold pyNext
 have fin : ∀ (h' : Heap) (e : Addr), (∀ a u, a ≠ z → a ≠ o → a ≠ i → a ≠ j → s.heap.get? a = some u → h'.get? a = some u) → (∃ u, h'.get? e = some u ∧ u.cls = .type "StopIteration") →
   wpAny (model prog w) A (do if ← isInstance (.ref e) (.type "StopIteration") then pure none else throw (.ref e)) Q E { s with heap := h' } := fun h' e kk ⟨u, hu, hc⟩ => by
  refine wpAny_bind (wpAny_isInstance (T := "StopIteration") (b := true) ⟨u, hu, hc⟩ isSubtype_stop ?_)
  exact wpAny_pure (hQ _ kk)
 refine wpAny_bind (wpAny_attempt (wpAny_callSpecial?_slot (name := Str.ofString "__next__") hT F.slot_zip_next (wpAny_call_entry F.slot_zip_next hT F.entry_zip_next ?_ (F.args_zip_next_1 _))))
 show wpAny _ _ (field (.ref z) 2 >>= _) _ _ _
 refine wpAny_bind (wpAny_field hz rfl (x := .bool false) rfl ?_)
 show wpAny _ _ (field (.ref z) 3 >>= _) _ _ _
 refine wpAny_bind (wpAny_field hz rfl (x := .ref t) rfl ?_)
 refine wpAny_bind (wpAny_seqItems ht rfl ?_)
 show wpAny _ _ (Builtin.SmallTypes.ownedTupleIsFree (.ref z) >>= _) _ _ _
 refine wpAny_bind ?_
 unfold Builtin.SmallTypes.ownedTupleIsFree
 refine wpAny_bind (wpAny_field hz rfl (x := .none) rfl (wpAny_pure ?_))
 simp only [if_true]
 refine wpAny_bind (wpAny_rule ?_)
 refine wpAny_bind (wpAny_field hz rfl (x := .ref o) rfl ?_)
 refine wpAny_bind (wpAny_setField_rec hz (by simp) fun h1 z1 s1 => ?_)
 replace z1 : IsZip h1 z t o .ellipsis := z1
 refine wpAny_bind ?_
 simp only [List.zipIdx_cons, List.zipIdx_nil, List.forIn_cons, List.forIn_nil]
 refine wpAny_bind (wpAny_bind (wpAny_onRaise ?_))
 show wpAny _ _ (Builtin.SmallTypes.nextOf (.ref i) >>= _) _ _ _
 cases hx : xs[n]? with
 | none =>
  refine wpAny_bind (rowStop (s := { s with heap := h1 }) hh (hi.kept fun u e => s1.extBut _ u D.iz e) (hl.kept fun u e => s1.extBut _ u D.lz e) hx fun h2 e s2 he => ?_)
  obtain ⟨oe, hoe, hce⟩ := he
  have z2 : IsZip h2 z t o .ellipsis := s2 _ _ (Ne.symm D.iz) z1
  have hez : e ≠ z := fun q => by subst q; rw [z2] at hoe; cases hoe; simp at hce
  refine wpAny_setField_rec z2 (by simp) fun h3 _ s3 => ?_
  exact fin h3 e (fun a u a1 _ a3 _ q => s3.extBut _ _ a1 (s2 _ _ a3 (s1.extBut _ _ a1 q))) ⟨oe, s3.extBut _ _ hez hoe, hce⟩
 | some x =>
  have hy : ys[n]? = none := by
   rcases hend with q | q
   ·rw [hx] at q; cases q
   ·exact q
  refine wpAny_bind (rowNext (s := { s with heap := h1 }) (hi.kept fun u e => s1.extBut _ u D.iz e) (hl.kept fun u e => s1.extBut _ u D.lz e) hx fun h2 i2 s2 => wpAny_pure ?_)
  have o2 : IsPair h2 o c d := s2.extBut _ _ (Ne.symm D.io) (s1.extBut _ _ D.oz ho)
  refine wpAny_bind (wpAny_seqItems o2 rfl ?_)
  refine wpAny_bind (wpAny_updateSeq_pair o2 fun h3 o3 s3 => ?_)
  refine wpAny_bind (wpAny_letGo (wpAny_pure ?_))
  refine wpAny_bind (wpAny_bind (wpAny_onRaise ?_))
  show wpAny _ _ (Builtin.SmallTypes.nextOf (.ref j) >>= _) _ _ _
  refine wpAny_bind (rowStop (s := { s with heap := h3 }) hh (hj.kept fun u e => s3.extBut _ u D.jo (s2.extBut _ u (Ne.symm D.ij) (s1.extBut _ u D.jz e))) (hm.kept fun u e => s3.extBut _ u D.mo (s2.extBut _ u D.mi (s1.extBut _ u D.mz e))) hy fun h4 e s4 he => ?_)
  obtain ⟨oe, hoe, hce⟩ := he
  have z4 : IsZip h4 z t o .ellipsis := s4 _ _ (Ne.symm D.jz) (s3.extBut _ _ (Ne.symm D.oz) (s2.extBut _ _ (Ne.symm D.iz) z1))
  have hez : e ≠ z := fun q => by subst q; rw [z4] at hoe; cases hoe; simp at hce
  refine wpAny_setField_rec z4 (by simp) fun h5 _ s5 => ?_
  exact fin h5 e (fun a u a1 a2 a3 a4 q => s5.extBut _ _ a1 (s4 _ _ a4 (s3.extBut _ _ a2 (s2.extBut _ _ a3 (s1.extBut _ _ a1 q))))) ⟨oe, s5.extBut _ _ hez hoe, hce⟩
end
section
variable {prog : Program} {w : World} {A : Around} {E : Value → Shared → Prop} {s : Shared}
noncomputable abbrev rowIter (b : Bool) (l : Addr) : Obj := { cls := .type (if b then "tuple_iterator" else "list_iterator"), data := .fields #[.ref l, .int 0 0] }
theorem rowIt_iter {b : Bool} {l : Addr} {items : Array Value} {Q : Value → Shared → Prop} (hl : RowAt b s.heap l items) (hQ : Q (.ref s.heap.objs.size) { s with heap := s.heap.push (rowIter b l) }) : wpAny (model prog w) A (pyIter (.ref l)) Q E s := by
 cases b with
 | true => exact wpAny_pyIter_tuple hl hQ
 | false => exact wpAny_pyIter_list hl hQ
noncomputable abbrev zH1 (b : Bool) (h : Heap) (l : Addr) : Heap := h.push (rowIter b l)
noncomputable abbrev zH2 (b : Bool) (h : Heap) (l m : Addr) : Heap := (zH1 b h l).push (rowIter b m)
noncomputable abbrev zH3 (b : Bool) (h : Heap) (l m : Addr) : Heap := (zH2 b h l m).push { cls := .type "tuple", data := .seq #[.ref h.objs.size, .ref (zH1 b h l).objs.size] }
noncomputable abbrev zH4 (b : Bool) (h : Heap) (l m : Addr) : Heap := (zH3 b h l m).push { cls := .type "tuple", data := .seq #[.none, .none] }
noncomputable abbrev zH5 (b : Bool) (h : Heap) (l m : Addr) : Heap := (zH4 b h l m).push { cls := .type "zip", data := .fields #[.none, .bool false, .bool false, .ref (zH2 b h l m).objs.size, .ref (zH3 b h l m).objs.size] }
theorem zip_made (b : Bool) (l m : Addr) (xs ys : Array Value) : Meets (Builtin.«zip.__new__» ⟨[.type "zip", .ref l, .ref m], []⟩) (fun _ R s => RowAt b s.heap l xs ∧ RowAt b s.heap m ys ∧ R (.ok (.ret (.ref (zH4 b s.heap l m).objs.size))) { s with heap := zH5 b s.heap l m }) :=
 .of_wp fun prog w A R s h => by
  obtain ⟨hp, g, d, tk, os⟩ := s; obtain ⟨hl, hm, h⟩ := h
  have hsub := sub_zip
  have hL : RowAt b (Shared.heap ⟨hp, g, d, tk, os⟩) l xs := hl
  have hM : RowAt b (Shared.heap ⟨hp.push (rowIter b l), g, d, tk, os⟩) m ys := hm.kept fun o e => Heap.get?_push_of_some _ e
  wp_walk using rowIt_iter hL, rowIt_iter hM
  exact ⟨_, rfl, h⟩
theorem call_zip_rows {b : Bool} {l m : Addr} {xs ys : Array Value} {Q : Value → Shared → Prop} (hl : RowAt b s.heap l xs) (hm : RowAt b s.heap m ys)
  (h : ∀ h', IsZip h' (s.heap.objs.size + 4) (s.heap.objs.size + 2) (s.heap.objs.size + 3) .none → IsPair h' (s.heap.objs.size + 2) (.ref s.heap.objs.size) (.ref (s.heap.objs.size + 1)) → IsPair h' (s.heap.objs.size + 3) .none .none →
   RowIt b h' s.heap.objs.size l 0 → RowIt b h' (s.heap.objs.size + 1) m 0 → (∀ c o, s.heap.get? c = some o → h'.get? c = some o) → Q (.ref (s.heap.objs.size + 4)) { s with heap := h' }) :
  wpAny (model prog w) A (call (.type "zip") [.ref l, .ref m]) Q E s := by
 refine callType_new F.called_zip (by decide) (F.typeCall_zip_2 _ _) (F.newCall_zip_2 _ _) (fun obj => F.args_object_init_3 obj _ _) F.entry_zip_new (zip_made b l m xs ys) ⟨hl, hm, ?_⟩
 have z1 : (zH1 b s.heap l).objs.size = s.heap.objs.size + 1 := Heap.size_push ..
 have z2 : (zH2 b s.heap l m).objs.size = s.heap.objs.size + 2 := by rw [Heap.size_push, z1]
 have z3 : (zH3 b s.heap l m).objs.size = s.heap.objs.size + 3 := by rw [Heap.size_push, z2]
 have z4 : (zH4 b s.heap l m).objs.size = s.heap.objs.size + 4 := by rw [Heap.size_push, z3]
 have g5 : (zH5 b s.heap l m).get? (zH4 b s.heap l m).objs.size = some _ := Heap.get?_push_size _ rfl
 have g4 : (zH5 b s.heap l m).get? (zH3 b s.heap l m).objs.size = some _ := Heap.get?_push_of_some _ (Heap.get?_push_size _ rfl)
 have g3 : (zH5 b s.heap l m).get? (zH2 b s.heap l m).objs.size = some _ := Heap.get?_push_of_some _ (Heap.get?_push_of_some _ (Heap.get?_push_size _ rfl))
 have g2 : (zH5 b s.heap l m).get? (zH1 b s.heap l).objs.size = some (rowIter b m) := Heap.get?_push_of_some _ (Heap.get?_push_of_some _ (Heap.get?_push_of_some _ (Heap.get?_push_size _ rfl)))
 have g1 : (zH5 b s.heap l m).get? s.heap.objs.size = some (rowIter b l) := Heap.get?_push_of_some _ (Heap.get?_push_of_some _ (Heap.get?_push_of_some _ (Heap.get?_push_of_some _ (Heap.get?_push_size _ rfl))))
 show _ ∧ _
 rw [z2, z3, z4] at g5
 rw [z1, z2] at g3
 rw [z3] at g4
 rw [z1] at g2
 rw [z4]
 have r1 : RowIt b (zH5 b s.heap l m) s.heap.objs.size l 0 := by cases b <;> exact ⟨_, g1, rfl, rfl⟩
 have r2 : RowIt b (zH5 b s.heap l m) (s.heap.objs.size + 1) m 0 := by cases b <;> exact ⟨_, g2, rfl, rfl⟩
 exact ⟨⟨_, g5, rfl⟩, h _ g5 g3 g4 r1 r2 fun c o x => Heap.get?_push_of_some _ (Heap.get?_push_of_some _ (Heap.get?_push_of_some _ (Heap.get?_push_of_some _ (Heap.get?_push_of_some _ x))))⟩
end
noncomputable def Sq (b : Bool) (K : PySem.W.Frag) (H : Hp) (a : Addr) (xs : List V) : Prop := match b with
 | true => SqT K H a xs
 | false => SqL K H a xs
section
variable {X : Cx} {pins : List (Addr × Obj)} {σ : St} {H : Hp} {s : Shared} {b : Bool} {a : Addr} {xs ys : List V}
theorem Inv.row (I : Inv X pins σ H s) (h : Sq b X.K H a xs) : ∃ its : List Value, Vals xs its ∧ RowAt b s.heap a its.toArray ∧ xs.length ≤ sizeLine := by
 cases b with
 | true =>
  obtain ⟨its, r, p, z⟩ := I.tuple h
  exact ⟨its, r, p, z⟩
 | false =>
  obtain ⟨its, r, p, z⟩ := I.list h
  exact ⟨its, r, p.isList, z⟩
theorem Inv.row_inj (I : Inv X pins σ H s) (h : Sq b X.K H a xs) (h' : Sq b X.K H a ys) : xs = ys := by
 cases b with
 | true => exact I.tuple_inj h h'
 | false => exact I.list_inj h h'
end
theorem Sq.there {b : Bool} {h : Heap} {l : Addr} {xs : Array Value} (x : RowAt b h l xs) : l < h.objs.size := by
 cases b with
 | true => obtain ⟨o, e, _⟩ := (show h.IsTuple l xs from x); exact Heap.lt_size e
 | false => obtain ⟨o, e, _⟩ := (show h.IsList l xs from x); exact Heap.lt_size e
noncomputable def Itz (b : Bool) (K : PySem.W.Frag) (l m : Addr) : It :=
  ⟨fun i H => ∃ xs ys x y, Sq b K H l xs ∧ Sq b K H m ys ∧ xs[i]? = some x ∧ ys[i]? = some y,
   fun i H v H' => ∃ p x y, H p = none ∧ v = .ref p ∧ H' = upd H p (.tup [x, y]) ∧ (∀ xs, Sq b K H l xs → xs[i]? = some x) ∧ ∀ ys, Sq b K H m ys → ys[i]? = some y,
   fun i H => ∃ xs ys, Sq b K H l xs ∧ Sq b K H m ys ∧ (xs.length ≤ i ∨ ys.length ≤ i)⟩
theorem turn_zip {P : Program} {w : World} {K : PySem.W.Frag} {es : List Expr} {kk : Nat} {pos : Pos} {b : Bool} {z t o i j l m : Addr} (D : ZAp z t o i j l m) :
  Turn P w K (.Tuple es kk pos) (Itz b K l m) [z, t, o, i, j] z (fun n h => IsZip h z t o .none ∧ IsPair h t (.ref i) (.ref j) ∧ (∃ c d, IsPair h o c d) ∧ RowIt b h i l n ∧ RowIt b h j m n) where
 mem := by simp
 obj := fun n h ⟨hz, ht, ⟨c, d, ho⟩, hi, hj⟩ a ha => by
  simp only [List.mem_cons, List.not_mem_nil, or_false] at ha
  rcases ha with rfl | rfl | rfl | rfl | rfl
  ·exact ⟨_, hz, fun v q => nomatch q⟩
  ·exact ⟨_, ht, fun v q => nomatch q⟩
  ·exact ⟨_, ho, fun v q => nomatch q⟩
  ·exact hi.there
  ·exact hj.there
 keep := fun n h h' ⟨hz, ht, ⟨c, d, ho⟩, hi, hj⟩ k => ⟨k z (by simp) _ hz, k t (by simp) _ ht, ⟨c, d, k o (by simp) _ ho⟩, hi.kept fun u e => k i (by simp) u e, hj.kept fun u e => k j (by simp) u e⟩
 item := by
  intro X hP hw hK hc n pins s σ H E I hf ⟨hz, ht, ⟨c, d, ho⟩, hi, hj⟩ hg
  subst hP hw hK
  obtain ⟨xs, ys, x, y, hl, hm, hx, hy⟩ := hg
  obtain ⟨us, ru, hl', hzl⟩ := I.row hl
  obtain ⟨vs, rv, hm', hzm⟩ := I.row hm
  obtain ⟨u, hu, r1⟩ := ru.get hx
  obtain ⟨v, hv, r2⟩ := rv.get hy
  refine zipNext D hz ht ho hi hj hl' hm' (x := u) (y := v) (by simpa using hu) (by simpa using hv) fun h' z' o' i' j' t' n' kp => ⟨_, rfl, ?_⟩
  refine wpAny_letOwnedTupleGo_zip (s := { s with heap := h' }) z' fun h'' z'' sb => ?_
  have fresh : H s.heap.objs.size = none := I.hok.fresh (Nat.le_refl _)
  have kp2 : ∀ a q, a ≠ z → a ≠ o → a ≠ i → a ≠ j → s.heap.get? a = some q → h''.get? a = some q := fun a q a1 a2 a3 a4 e => sb.extBut _ _ a1 (kp a q a1 a2 a3 a4 e)
  have hT : s.heap.objs.size ≠ z := Nat.ne_of_gt (Heap.lt_size hz)
  have pT : IsPair h'' s.heap.objs.size u v := sb.extBut _ _ hT t'
  have notin : ∀ a, a ∉ [z, o, i, j] → a ≠ z ∧ a ≠ o ∧ a ≠ i ∧ a ≠ j := fun a ha => by simpa using ha
  have fpn : ∀ a ∈ [z, o, i, j], H a = none := fun a ha => by
   simp only [List.mem_cons, List.not_mem_nil, or_false] at ha
   rcases ha with rfl | rfl | rfl | rfl
   ·exact (hf _ (by simp)).1
   ·exact (hf _ (by simp)).1
   ·exact (hf _ (by simp)).1
   ·exact (hf _ (by simp)).1
  have trk : ∀ a q, H a = some q → a ∉ [z, o, i, j] := fun a q e ha => by rw [fpn a ha] at e; cases e
  have hok : HOk X.prog X.w (upd H s.heap.objs.size (.tup [x, y])) h'' := fun a q e => by
   by_cases ha : a = s.heap.objs.size
   ·subst ha
    rw [upd_same] at e
    cases e
    exact ⟨by show 2 ≤ sizeLine; decide, [u, v], .cons r1 (.cons r2 .nil), ⟨_, pT, rfl, _, rfl⟩⟩
   ·rw [upd_ne ha] at e
    refine (I.hok a q e).stay (fun a' q' h1 h2 => ?_) (fun a' q' => by rw [upd_ne (ne_of_none q' fresh)]; exact q') fun a' xs' q' => by rw [upd_ne (ne_of_none q' fresh)]; exact q'
    have ni : a' ∉ [z, o, i, j] := by
     rcases h1 with rfl | h1
     ·exact trk _ _ e
     ·exact trk _ _ h1
    obtain ⟨n1, n2, n3, n4⟩ := notin a' ni
    exact kp2 a' q' n1 n2 n3 n4 h2
  have J : Inv X pins σ (upd H s.heap.objs.size (.tup [x, y])) { s with heap := h'' } := by
   refine I.step (g' := s.gens) (d' := s.drawn) (t' := s.toks) (ch := [z, o, i, j]) (fun a ha => ?_) (fun a q _ _ hc' e _ => ?_) (fun a q _ _ hc' e _ => ?_) (fun a q _ e n2 => ?_) (fun a q hc' e => ?_) (fun a xs' e => ?_) (fun a q u' e => ?_) (fun a ps e => ?_) (fun m' hm'' => ?_) hok I.bare
   ·have ha' : a ∈ [z, t, o, i, j] := by
     simp only [List.mem_cons, List.not_mem_nil, or_false] at ha ⊢
     rcases ha with q | q | q | q
     ·exact .inl q
     ·exact .inr (.inr (.inl q))
     ·exact .inr (.inr (.inr (.inl q)))
     ·exact .inr (.inr (.inr (.inr q)))
    obtain ⟨_, f1, _, f3, f4, f5⟩ := hf a ha'
    exact ⟨f3, f1, f4, f5⟩
   ·obtain ⟨n1, n2, n3, n4⟩ := notin a hc'
    exact kp2 a q n1 n2 n3 n4 e
   ·obtain ⟨n1, n2, n3, n4⟩ := notin a hc'
    exact ⟨q.slots, kp2 a q n1 n2 n3 n4 e⟩
   ·rw [upd_ne (Nat.ne_of_lt (Heap.lt_size e))]
    exact n2
   ·obtain ⟨n1, n2, n3, n4⟩ := notin a hc'
    exact ⟨q, kp2 a q n1 n2 n3 n4 e⟩
   ·rw [upd_ne (ne_of_none e fresh)]
    exact e
   ·rw [upd_ne (ne_of_none e fresh)]
    exact e
   ·exact ⟨#[], by rw [upd_ne (ne_of_none e fresh), e]; simp⟩
   ·obtain ⟨ob, es', ep, e1, r⟩ := hm''
    have f1 : ∀ a' ∈ [z, t, o, i, j], a' ≠ X.env.locals := fun a' ha' => (hf a' ha').2.1
    exact ⟨ob, es', ep, kp2 _ _ (Ne.symm (f1 z (by simp))) (Ne.symm (f1 o (by simp))) (Ne.symm (f1 i (by simp))) (Ne.symm (f1 j (by simp))) e1, r⟩
  refine ⟨.ref s.heap.objs.size, _, J, rfl, ⟨s.heap.objs.size, x, y, fresh, rfl, rfl, fun xs' q => ?_, fun ys' q => ?_⟩, ⟨z'', ?_, ⟨_, _, sb.extBut _ _ D.oz o'⟩, i'.kept fun q e => sb.extBut _ q D.iz e, j'.kept fun q e => sb.extBut _ q D.jz e⟩, fun a ha => ?_⟩
  ·rw [I.row_inj q hl]; exact hx
  ·rw [I.row_inj q hm]; exact hy
  ·exact kp2 t _ D.tz (Ne.symm D.ot) (Ne.symm D.it) (Ne.symm D.jt) ht
  ·have : a ≠ s.heap.objs.size := by
    simp only [List.mem_cons, List.not_mem_nil, or_false] at ha
    rcases ha with rfl | rfl | rfl | rfl | rfl
    ·exact Ne.symm hT
    ·exact Nat.ne_of_lt (Heap.lt_size ht)
    ·exact Nat.ne_of_lt (Heap.lt_size ho)
    ·obtain ⟨q, e, _⟩ := hi.there; exact Nat.ne_of_lt (Heap.lt_size e)
    ·obtain ⟨q, e, _⟩ := hj.there; exact Nat.ne_of_lt (Heap.lt_size e)
   rw [upd_ne this]
   exact (hf a ha).1
 done := by
  intro X hP hw hK hc n pins s σ H E I hf ⟨hz, ht, ⟨c, d, ho⟩, hi, hj⟩ hg
  subst hP hw hK
  obtain ⟨xs, ys, hl, hm, hend⟩ := hg
  obtain ⟨us, ru, hl', hzl⟩ := I.row hl
  obtain ⟨vs, rv, hm', hzm⟩ := I.row hm
  have e1 := ru.length
  have e2 := rv.length
  have hend' : us.toArray[n]? = none ∨ vs.toArray[n]? = none := by
   rcases hend with q | q
   ·exact .inl (by simp; lia)
   ·exact .inr (by simp; lia)
  refine zipStop (I.ok.hd hc) D hz ht ho hi hj hl' hm' hend' fun h' kp => ⟨rfl, ?_⟩
  have notin : ∀ a, a ∉ [z, o, i, j] → a ≠ z ∧ a ≠ o ∧ a ≠ i ∧ a ≠ j := fun a ha => by simpa using ha
  have fpn : ∀ a ∈ [z, o, i, j], FpOk X pins H a := fun a ha => hf a (by
   simp only [List.mem_cons, List.not_mem_nil, or_false] at ha ⊢
   rcases ha with q | q | q | q
   ·exact .inl q
   ·exact .inr (.inr (.inl q))
   ·exact .inr (.inr (.inr (.inl q)))
   ·exact .inr (.inr (.inr (.inr q))))
  have trk : ∀ a q, H a = some q → a ∉ [z, o, i, j] := fun a q e ha => by rw [(fpn a ha).1] at e; cases e
  have kp2 : ∀ a q, a ∉ [z, o, i, j] → s.heap.get? a = some q → h'.get? a = some q := fun a q ha e => by
   obtain ⟨n1, n2, n3, n4⟩ := notin a ha
   exact kp a q n1 n2 n3 n4 e
  refine I.step (g' := s.gens) (d' := s.drawn) (t' := s.toks) (ch := [z, o, i, j]) (fun a ha => ?_) (fun a q _ _ hc' e _ => kp2 a q hc' e) (fun a q _ _ hc' e _ => ⟨q.slots, kp2 a q hc' e⟩) (fun a q _ e n2 => n2) (fun a q hc' e => ⟨q, kp2 a q hc' e⟩) (fun a xs' e => e) (fun a q u' e => e) (fun a ps e => ⟨#[], by rw [e]; simp⟩) (fun m' hm'' => ?_) (fun a q e => ?_) I.bare
  ·obtain ⟨_, f1, _, f3, f4, f5⟩ := fpn a ha
   exact ⟨f3, f1, f4, f5⟩
  ·obtain ⟨ob, es', ep, e1, r⟩ := hm''
   exact ⟨ob, es', ep, kp2 _ _ (fun ha => (fpn _ ha).2.1 rfl) e1, r⟩
  ·refine (I.hok a q e).stay (fun a' q' h1 h2 => kp2 a' q' ?_ h2) (fun _ q' => q') fun _ _ q' => q'
   rcases h1 with rfl | h1
   ·exact trk _ _ e
   ·exact trk _ _ h1
 self := fun _ _ _ _ _ st h => wpAny_pyIter_zip st.1 h
section
variable {X : Cx}
noncomputable def iZip (b : Bool) (K : PySem.W.Frag) (ta : TA) : TI := fun σ H R => ta σ H fun vs H1 => ∃ l m xs ys, vs = [.ref l, .ref m] ∧ Sq b K H1 l xs ∧ Sq b K H1 m ys ∧ R (Itz b K l m) H1
theorem pi_zip {b : Bool} {es : List Expr} {kk : Nat} {tpos : Pos} {e1 e2 : Expr} {ta : TA} {p pos : Pos} (hg : Gl X "zip") (hm : X.mg "zip" = none) (ha : PA X [e1, e2] ta) (hs : starEach [e1, e2] X.env = [(false, eval e1 X.env), (false, eval e2 X.env)] := by rfl) (hs2 : starEach [e2] X.env = [(false, eval e2 X.env)] := by rfl) :
  PI X (.Tuple es kk tpos) (.Call (.Name "zip" p) [e1, e2] [] pos) (iZip b X.K ta) := by
 intro pins s σ H R I h
 refine Call_ (ld_blt I hg hm boot_zip (PyProof.Rows.callWith_type1 (thn (ha pos pins s σ H _ I h) fun us s1 ⟨vs, H1, I1, r1, q1⟩ => ?_) (by rw [hs, hs2]) (by rw [hs2]; rfl)))
 obtain ⟨l, m, xs, ys, e, hl, hm, q⟩ := q1
 subst e
 obtain ⟨u, u', rfl, ru, ru'⟩ := vals2 r1
 cases ru
 cases ru'
 obtain ⟨its, rv, hl', _⟩ := I1.row hl
 obtain ⟨its2, rv2, hm', _⟩ := I1.row hm
 refine call_zip_rows hl' hm' fun h' hz ht ho hi hj kp => wpAny_pyIter_zip hz ?_
 have ll := Sq.there hl'
 have lm := Sq.there hm'
 have N : ∀ n, l ≠ s1.heap.objs.size + n := fun n => Nat.ne_of_lt (Nat.lt_of_lt_of_le ll (Nat.le_add_right _ n))
 have M : ∀ n, m ≠ s1.heap.objs.size + n := fun n => Nat.ne_of_lt (Nat.lt_of_lt_of_le lm (Nat.le_add_right _ n))
 have L : ∀ n k, n < k → s1.heap.objs.size + n ≠ s1.heap.objs.size + k := fun n k q => Nat.ne_of_lt (Nat.add_lt_add_left q _)
 have G : ∀ n k, k < n → s1.heap.objs.size + n ≠ s1.heap.objs.size + k := fun n k q => Nat.ne_of_gt (Nat.add_lt_add_left q _)
 have D : ZAp (s1.heap.objs.size + 4) (s1.heap.objs.size + 2) (s1.heap.objs.size + 3) s1.heap.objs.size (s1.heap.objs.size + 1) l m :=
  ⟨L 2 4 (by decide), L 3 4 (by decide), L 0 4 (by decide), L 1 4 (by decide), G 3 2 (by decide), L 0 2 (by decide), L 1 2 (by decide), L 0 3 (by decide), L 1 3 (by decide), L 0 1 (by decide), N 4, N 3, N 0, N 1, M 4, M 3, M 0, M 1⟩
 have fr : ∀ n, FpOk X pins H1 (s1.heap.objs.size + n) := fun n => I1.fpOk (Nat.le_add_right _ n) (I1.hok.fresh (Nat.le_add_right _ n))
 refine ⟨s1.heap.objs.size + 4, [s1.heap.objs.size + 4, s1.heap.objs.size + 2, s1.heap.objs.size + 3, s1.heap.objs.size, s1.heap.objs.size + 1], _, _, H1, rfl, I1.kept (t' := s1.toks) kp, turn_zip (b := b) D, ⟨hz, ht, ⟨_, _, ho⟩, hi, hj⟩, fun a ha => ?_, q⟩
 simp only [List.mem_cons, List.not_mem_nil, or_false] at ha
 rcases ha with rfl | rfl | rfl | rfl | rfl
 ·exact fr 4
 ·exact fr 2
 ·exact fr 3
 ·exact fr 0
 ·exact fr 1
end
theorem comp_zip {b : Bool} {K : PySem.W.Frag} {l m : Addr} {xs ys : List V} {g : TG} {tt : TT} {te : TE} {σ₀ : St} {H : Hp} {Q : VK} (Pv : Nat → List V → St → Hp → Prop) (h0 : Pv 0 [] σ₀ H) (hz : xs.length ≤ sizeLine) (hn : ∀ i acc σ H, Pv i acc σ H → acc.length ≤ i)
  (hl : ∀ i acc σ H, i ≤ xs.length → i ≤ ys.length → Pv i acc σ H → Sq b K H l xs ∧ Sq b K H m ys)
  (hs : ∀ i x y acc σ H p, xs[i]? = some x → ys[i]? = some y → Pv i acc σ H → H p = none → g (.ref p) σ (upd H p (.tup [x, y])) fun σ2 H2 => tt σ2 H2 fun ok H3 => if ok = true then te σ2 H3 fun z H4 => Pv (i + 1) (acc ++ [z]) σ2 H4 else Pv (i + 1) acc σ2 H3)
  (hd : ∀ acc σ H, Pv (min xs.length ys.length) acc σ H → ∀ p, H p = none → Q (.ref p) (upd H p (.lst acc))) :
  CompGo (Itz b K l m) g tt te Q σ₀ H := by
 refine ⟨fun i n acc σ H => n = min xs.length ys.length - i ∧ i ≤ min xs.length ys.length ∧ Pv i acc σ H, ⟨min xs.length ys.length, by simp, Nat.zero_le _, h0⟩, ?_⟩
 rintro i n acc σ H ⟨rfl, hi, p⟩
 obtain ⟨q1, q2⟩ := hl i acc σ H (by lia) (by lia) p
 have hlen := hn i acc σ H p
 by_cases hlt : i < min xs.length ys.length
 ·have h1 : i < xs.length := by lia
  have h2 : i < ys.length := by lia
  refine .inr ⟨⟨xs, ys, xs[i], ys[i], q1, q2, by simp [h1], by simp [h2]⟩, by lia, Pv (i + 1), fun acc' σ' H' p' => ⟨min xs.length ys.length - (i + 1), by lia, rfl, hlt, p'⟩, fun v H' y => ?_⟩
  obtain ⟨a, x, y, fr, rfl, rfl, k1, k2⟩ := y
  exact hs i x y acc σ H a (k1 xs q1) (k2 ys q2) p fr
 ·have e : i = min xs.length ys.length := by lia
  subst e
  refine .inl ⟨⟨xs, ys, q1, q2, ?_⟩, by lia, hd acc σ H p⟩
  lia
end L2
namespace L2
open PySem
theorem below_go (xs : Array Nat) (j : Nat) (mono : xs.toList.Pairwise (· < ·)) : ∀ fuel lo hi, hi - lo ≤ fuel → lo ≤ hi → hi ≤ xs.size → (∀ i, i < lo → xs.getD i j < j) → (∀ i, hi ≤ i → i < xs.size → j ≤ xs.getD i j) →
  SetTable.below.go xs j fuel lo hi ≤ xs.size ∧ (∀ i, i < SetTable.below.go xs j fuel lo hi → xs.getD i j < j) ∧ ∀ i, SetTable.below.go xs j fuel lo hi ≤ i → i < xs.size → j ≤ xs.getD i j := by
 have le : ∀ a b, a ≤ b → b < xs.size → xs.getD a j ≤ xs.getD b j := fun a b h hb => by
  rcases Nat.lt_or_eq_of_le h with h | h
  ·have := List.pairwise_iff_getElem.mp mono a b (by simp; lia) (by simpa using hb) h
   simp only [Array.getElem_toList] at this
   simp only [Array.getD_eq_getD_getElem?, Array.getElem?_eq_getElem hb, Array.getElem?_eq_getElem (show a < xs.size by lia), Option.getD_some]
   lia
  ·rw [h]; exact Nat.le_refl _
 intro fuel
 induction fuel with
 | zero =>
  intro lo hi h1 h2 h3 h4 h5
  have e : lo = hi := by lia
  subst e
  exact ⟨h3, h4, h5⟩
 | succ fuel ih =>
  intro lo hi h1 h2 h3 h4 h5
  unfold SetTable.below.go
  by_cases hl : lo < hi
  ·rw [if_pos hl]
   dsimp only
   by_cases hm : xs.getD ((lo + hi) / 2) j < j
   ·rw [if_pos hm]
    refine ih _ _ (by lia) (by lia) h3 (fun i hi' => ?_) h5
    exact Nat.lt_of_le_of_lt (le i ((lo + hi) / 2) (by lia) (by lia)) hm
   ·rw [if_neg hm]
    refine ih _ _ (by lia) (by lia) (by lia) h4 (fun i hi' hs => ?_)
    exact Nat.le_trans (by lia) (le ((lo + hi) / 2) i hi' hs)
  ·rw [if_neg hl]
   have e : lo = hi := by lia
   subst e
   exact ⟨h3, h4, h5⟩
theorem below_spec (xs : Array Nat) (j : Nat) (mono : xs.toList.Pairwise (· < ·)) : SetTable.below xs j ≤ xs.size ∧ (∀ i, i < SetTable.below xs j → xs.getD i j < j) ∧ ∀ i, SetTable.below xs j ≤ i → i < xs.size → j ≤ xs.getD i j :=
 below_go xs j mono xs.size 0 xs.size (by lia) (by lia) (Nat.le_refl _) (fun i h => absurd h (by lia)) (fun i h h' => absurd h' (by lia))
theorem insert_rises (xs : Array Nat) (j : Nat) (mono : xs.toList.Pairwise (· < ·)) (hn : xs[SetTable.below xs j]? ≠ some j) : (SetTable.insertAt xs (SetTable.below xs j) j).toList.Pairwise (· < ·) := by
 obtain ⟨h1, h2, h3⟩ := below_spec xs j mono
 have e : (SetTable.insertAt xs (SetTable.below xs j) j).toList = xs.toList.take (SetTable.below xs j) ++ j :: xs.toList.drop (SetTable.below xs j) := by
  simp [SetTable.insertAt, List.extract_eq_take_drop, List.take_of_length_le]
 rw [e]
 generalize hp : SetTable.below xs j = p at *
 have gt : ∀ i, p ≤ i → (h : i < xs.size) → j < xs[i] := fun i hi h => by
  have q := h3 i hi h
  rw [Array.getD_eq_getD_getElem?, Array.getElem?_eq_getElem h, Option.getD_some] at q
  rcases Nat.lt_or_eq_of_le q with q | q
  ·exact q
  ·exfalso
   have hps : p < xs.size := by lia
   have q2 := h3 p (Nat.le_refl _) hps
   rw [Array.getD_eq_getD_getElem?, Array.getElem?_eq_getElem hps, Option.getD_some] at q2
   rcases Nat.lt_or_eq_of_le hi with z | z
   ·have := List.pairwise_iff_getElem.mp mono p i (by simpa using hps) (by simpa using h) z
    simp only [Array.getElem_toList] at this
    lia
   ·subst z
    exact hn (by rw [Array.getElem?_eq_getElem h, ← q])
 rw [List.pairwise_append, List.pairwise_cons]
 refine ⟨mono.sublist (List.take_sublist _ _), ⟨fun a ha => ?_, mono.sublist (List.drop_sublist _ _)⟩, fun a ha b hb => ?_⟩
 ·obtain ⟨i, hi, rfl⟩ := List.getElem_of_mem ha
  rw [List.getElem_drop]
  rw [List.length_drop, Array.length_toList] at hi
  have := gt (p + i) (by lia) (by lia)
  simpa using this
 ·obtain ⟨i, hi, rfl⟩ := List.getElem_of_mem ha
  rw [List.length_take, Array.length_toList] at hi
  have q := h2 i (by lia)
  rw [Array.getD_eq_getD_getElem?, Array.getElem?_eq_getElem (by lia), Option.getD_some] at q
  rw [List.getElem_take]
  rw [Array.getElem_toList]
  rcases List.mem_cons.mp hb with rfl | hb
  ·exact q
  ·obtain ⟨k, hk, rfl⟩ := List.getElem_of_mem hb
   rw [List.getElem_drop]
   rw [List.length_drop, Array.length_toList] at hk
   have := gt (p + k) (by lia) (by lia)
   rw [Array.getElem_toList]
   lia
structure JT (L : Bool) (t : SetTable) : Prop where
 led : t.led = L
 dum : t.dummies = #[]
 mono : t.place.toList.Pairwise (· < ·)
theorem has_nil (j : Nat) : SetTable.has #[] j = false := by simp [SetTable.has]
theorem slot_cases (t : SetTable) (j : Nat) (h : t.dummies = #[]) : (t.slot j = .empty ∧ t.place[SetTable.below t.place j]? ≠ some j) ∨ ∃ i, t.slot j = .live i := by
 unfold SetTable.slot
 rw [h, has_nil]
 dsimp only
 by_cases e : (t.place[SetTable.below t.place j]? == some j) = true
 ·rw [if_pos e]; exact .inr ⟨_, rfl⟩
 ·rw [if_neg e]
  refine .inl ⟨by simp, fun q => e ?_⟩
  rw [q]; simp
theorem probe_empty (t : SetTable) (hd : t.dummies = #[]) (f : Nat → Int) (h : Int) : ∀ (fuel : Nat) (p : SetTable.Probe) (j : Nat) (d : Option Nat), p.dummy = none → SetTable.probe.go t f h fuel p = some (.empty j d) →
  d = none ∧ t.place[SetTable.below t.place j]? ≠ some j := by
 intro fuel
 induction fuel with
 | zero => intro p j d _ e; simp [SetTable.probe.go] at e
 | succ fuel ih =>
  intro p j d hp e
  unfold SetTable.probe.go at e
  rcases slot_cases t p.j hd with ⟨q, q2⟩ | ⟨i, q⟩
  ·rw [q] at e
   injection e with e
   injection e with e1 e2
   subst e1
   exact ⟨e2 ▸ hp, q2⟩
  ·rw [q] at e
   dsimp only at e
   have ha : (t.advance p).dummy = none := by
    unfold SetTable.advance
    split
    ·exact hp
    ·exact hp
   split at e
   ·cases e
   ·exact ih _ j d ha e
theorem standIn_JT {L : Bool} {t : SetTable} (n : Nat) (h : JT L t) : JT L (t.standIn n) where
 led := h.led
 dum := rfl
 mono := by
  show (Array.range n).toList.Pairwise (· < ·)
  rw [Array.toList_range]
  exact List.pairwise_lt_range
theorem layNew_JT {L : Bool} {t : SetTable} (es : Array (Int × Value)) (h : Int) (x : Value) (J : JT L t) : JT L (layNew t es h x).2.1 := by
 unfold layNew
 cases q : t.freeSlot h with
 | none => exact standIn_JT _ J
 | some r =>
  obtain ⟨slot, wasDummy⟩ := r
  dsimp only
  have hs : t.place[SetTable.below t.place slot]? ≠ some slot := by
   unfold SetTable.freeSlot at q
   cases e : t.probe (fun _ => h + 1) h (t.probeStart h) with
   | none => rw [e] at q; cases q
   | some m =>
    rw [e] at q
    cases m with
    | candidate _ _ _ => cases q
    | empty j d =>
     obtain ⟨rfl, z⟩ := probe_empty t J.dum _ h _ _ j d rfl e
     have q1 := Option.some.inj q
     injection q1 with q2 _
     subst q2
     exact z
  have Jp : JT L (t.put slot).1 := by
   refine ⟨J.led, ?_, insert_rises t.place slot J.mono hs⟩
   show (if SetTable.has t.dummies slot = true then _ else t.dummies) = #[]
   rw [J.dum, has_nil]
   rfl
  unfold SetTable.orStandIn
  split
  ·exact Jp
  ·exact standIn_JT _ Jp
theorem laid_JT {L : Bool} {mask finger moves : Nat} {plain : Bool} {hs : Array Int} {t : SetTable} {o : Array Nat} (h : SetTable.laid mask finger moves L plain hs = some (t, o)) : JT L t := by
 unfold SetTable.laid at h
 cases q : SetTable.layClean mask hs with
 | none => rw [q] at h; cases h
 | some owner =>
  rw [q] at h
  have e := Option.some.inj h
  injection e with e1 _
  subst e1
  refine ⟨rfl, rfl, ?_⟩
  show (List.map (fun x => x.1) ((List.range (mask + 1)).filterMap fun j => (owner.getD j none).map (j, ·))).toArray.toList.Pairwise (· < ·)
  have : ∀ l : List Nat, List.Sublist (List.map (fun x : Nat × Nat => x.1) (l.filterMap fun j => (owner.getD j none).map (j, ·))) l := by
   intro l
   induction l with
   | nil => exact List.Sublist.refl _
   | cons a r ih =>
    rw [List.filterMap_cons]
    cases (owner.getD a none) with
    | none => exact ih.cons _
    | some k => exact ih.cons₂ _
  exact (List.pairwise_lt_range (n := mask + 1)).sublist (by simpa using this (List.range (mask + 1)))
theorem relayAll_JT {L : Bool} {t : SetTable} (es : Array (Int × Value)) (wanted : Nat) (J : JT L t) : JT L (relayAll t es wanted).2.1 := by
 unfold relayAll
 cases q : t.relaid (es.map (·.1)) wanted with
 | none => exact standIn_JT _ J
 | some r =>
  obtain ⟨t', order⟩ := r
  dsimp only
  split
  ·unfold SetTable.relaid at q
   rw [J.led] at q
   exact laid_JT q
  ·exact standIn_JT _ J
theorem plain_off_JT {L : Bool} {t : SetTable} (J : JT L t) : JT L { t with plain := false } := ⟨J.led, J.dum, J.mono⟩
theorem below_next {xs : Array Nat} (mono : xs.toList.Pairwise (· < ·)) (k : Nat) (hk : k < xs.size) : SetTable.below xs (xs[k] + 1) = k + 1 := by
 obtain ⟨h1, h2, h3⟩ := below_spec xs (xs[k] + 1) mono
 have q1 : ¬ SetTable.below xs (xs[k] + 1) ≤ k := fun q => by
  have := h3 k q hk
  rw [Array.getD_eq_getD_getElem?, Array.getElem?_eq_getElem hk, Option.getD_some] at this
  lia
 have q2 : ¬ k + 1 < SetTable.below xs (xs[k] + 1) := fun q => by
  have hk1 : k + 1 < xs.size := by lia
  have := h2 (k + 1) q
  rw [Array.getD_eq_getD_getElem?, Array.getElem?_eq_getElem hk1, Option.getD_some] at this
  have z := List.pairwise_iff_getElem.mp mono k (k + 1) (by simpa using hk) (by simpa using hk1) (by lia)
  simp only [Array.getElem_toList] at z
  lia
 lia
theorem below_first {xs : Array Nat} (mono : xs.toList.Pairwise (· < ·)) : SetTable.below xs 0 = 0 := by
 obtain ⟨h1, h2, h3⟩ := below_spec xs 0 mono
 rcases Nat.eq_zero_or_pos (SetTable.below xs 0) with h | h
 ·exact h
 ·exact absurd (h2 0 h) (by lia)
theorem erase_perm {α : Type} : ∀ (l : List α) (i : Nat) (h : i < l.length), List.Perm (l[i] :: l.eraseIdx i) l
 | a :: l, 0, _ => List.Perm.refl _
 | a :: l, i + 1, h => (List.Perm.swap _ _ _).trans ((erase_perm l i (by simpa using h)).cons a)
theorem pickOrder_perm {α : Type} (next : Nat → Nat) (xs : Array α) : List.Perm (pickOrder next xs).toList xs.toList := by
 have go : ∀ (fuel k : Nat) (left : List α) (out : Array α), left.length = fuel → List.Perm (pickOrder.go next fuel k left out).toList (out.toList ++ left) := by
  intro fuel
  induction fuel with
  | zero =>
   intro k left out h
   have e : left = [] := List.eq_nil_of_length_eq_zero h
   subst e
   simp [pickOrder.go]
  | succ fuel ih =>
   intro k left out h
   unfold pickOrder.go
   have hlt : next k % left.length < left.length := Nat.mod_lt _ (by lia)
   rw [List.getElem?_eq_getElem hlt]
   dsimp only
   refine (ih (k + 1) _ _ (by rw [List.length_eraseIdx_of_lt hlt]; lia)).trans ?_
   rw [Array.toList_push, List.append_assoc]
   exact List.Perm.append_left _ (erase_perm left _ hlt)
 exact (go xs.size 0 xs.toList #[] (by simp)).trans (by simp)
end L2
namespace L2
open PySem
section
variable {prog : Program} {w : World} {κ : Type} [DecidableEq κ]
noncomputable def SetX (knd : KeyKind prog w κ) (h : Heap) (a : Addr) (S : κ → Bool) (n : Nat) : Prop :=
 ∃ o es ep t, h.get? a = some o ∧ o.ExactSet ∧ o.data = .set es ep t ∧ (ElemsOf knd es.toList ∧ (∀ k, S k = true ↔ ∃ e ∈ es.toList, knd.is k e.2 = true) ∧ es.size < scanBound ∧ t.fits es.size = true ∧ es.size = n) ∧ JT (!w.params.followText "set-order") t
variable {knd : KeyKind prog w κ} {A : Around} {E : Value → Shared → Prop} {s : Shared}
theorem SetX.of_get {h h' : Heap} {a : Addr} {S : κ → Bool} {n : Nat} (x : SetX knd h a S n) (k : ∀ o, h.get? a = some o → h'.get? a = some o) : SetX knd h' a S n := by
 obtain ⟨o, es, ep, t, e, r⟩ := x
 exact ⟨o, es, ep, t, k o e, r⟩
theorem SetX.congr {h : Heap} {a : Addr} {S S' : κ → Bool} {n n' : Nat} (x : SetX knd h a S n) (e : ∀ k, S k = S' k) (en : n = n') : SetX knd h a S' n' := by
 obtain rfl : S = S' := funext e
 subst en
 exact x
theorem SetX.new (h : Heap) {l : Bool} (hl : l = !w.params.followText "set-order") : SetX knd (h.push { cls := .type "set", dict := none, data := .set #[] 0 (.fresh 0 0 l) }) h.objs.size (fun _ => false) 0 := by
 refine ⟨_, #[], 0, _, Heap.get?_push_size _ rfl, ⟨rfl, rfl, rfl⟩, rfl, ⟨fun e he => absurd he (by simp), fun k => by simp, by decide, by simp [SetTable.fits, SetTable.fresh, SetTable.fill], rfl⟩, hl, rfl, ?_⟩
 exact List.Pairwise.nil
theorem SetX.store {h : Heap} {a : Addr} {o : Obj} {es es' : Array (Int × Value)} {ep : Nat} {t t' : SetTable} {S : κ → Bool} (ho : h.get? a = some o) (hx : o.ExactSet) (hd : o.data = .set es ep t)
  (el : ElemsOf knd es'.toList) (mem : ∀ k, S k = true ↔ ∃ e ∈ es'.toList, knd.is k e.2 = true) (hb : es'.size < scanBound) (hf : t'.fits es'.size = true) (J : JT (!w.params.followText "set-order") t') :
  (h.update a (Obj.putSet es' t')).get? a = some { o with data := .set es' (ep + 1) t' } ∧ SetX knd (h.update a (Obj.putSet es' t')) a S es'.size := by
 have g : (h.update a (Obj.putSet es' t')).get? a = some { o with data := .set es' (ep + 1) t' } := (SetOf_store (knd := knd) (S' := S) ho hx hd el mem hb hf).1
 exact ⟨g, _, es', ep + 1, t', g, hx, rfl, ⟨el, mem, hb, hf, rfl⟩, J⟩
theorem addTailX {g : Bool → Sem Unit} (hg : ∀ (b : Bool) (s₁ : Shared) (Q' : Unit → Shared → Prop), Q' () s₁ → wpAny (model prog w) A (g b) Q' E s₁)
  {a : Addr} {o : Obj} {es es1 : Array (Int × Value)} {ep : Nat} {t t2 : SetTable} {S : κ → Bool} {wd : Bool} {R : Option Bool → Shared → Prop} (ho : s.heap.get? a = some o) (hx : o.ExactSet) (hd : o.data = .set es ep t)
  (el : ElemsOf knd es1.toList) (mem : ∀ k, S k = true ↔ ∃ e ∈ es1.toList, knd.is k e.2 = true) (hb : es1.size < scanBound) (hf : t2.fits es1.size = true) (J : JT (!w.params.followText "set-order") t2)
  (fin : ∀ h', Heap.SameBut a s.heap h' → SetX knd h' a S es1.size → R (some true) { s with heap := h' }) :
  wpAny (model prog w) A (do
    storeSet a es1 t2
    if (!wd && t2.tooFull) = true then do
      g (relayAll t2 es1 (SetTable.grown es1.size)).2.2
      storeSet a (relayAll t2 es1 (SetTable.grown es1.size)).1 (relayAll t2 es1 (SetTable.grown es1.size)).2.1
      pure (some true)
     else pure (some true)) R E s := by
 obtain ⟨g1, x1⟩ := SetX.store (knd := knd) ho hx hd el mem hb hf J
 have sb1 := Heap.SameBut.update s.heap a (Obj.putSet es1 t2)
 refine wpAny_bind (wpAny_storeSet_of ho hd ?_ (fits_of_scanBound hb))
 by_cases c : (!wd && t2.tooFull) = true
 ·rw [if_pos c]
  have pm := relayAll_perm t2 es1 (SetTable.grown es1.size)
  have ft := relayAll_fits t2 es1 (SetTable.grown es1.size)
  have J2 := relayAll_JT (t := t2) es1 (SetTable.grown es1.size) J
  generalize relayAll t2 es1 (SetTable.grown es1.size) = r at pm ft J2 ⊢
  obtain ⟨es2, t3, gave⟩ := r
  dsimp only at pm ft J2 ⊢
  have sz : es2.size = es1.size := by simpa using pm.length_eq
  refine wpAny_bind (hg _ _ _ (wpAny_bind (wpAny_storeSet_of g1 rfl ?_ (by rw [sz]; exact fits_of_scanBound hb))))
  obtain ⟨_, x2⟩ := SetX.store (knd := knd) (S := S) g1 hx rfl (el.perm pm) (fun k => (mem k).trans ⟨fun ⟨e, he, q⟩ => ⟨e, pm.mem_iff.mpr he, q⟩, fun ⟨e, he, q⟩ => ⟨e, pm.mem_iff.mp he, q⟩⟩) (by rw [sz]; exact hb) ft J2
  rw [sz] at x2
  exact wpAny_pure (fin _ (sb1.trans (Heap.SameBut.update _ a _)) x2)
 ·rw [if_neg c]
  exact wpAny_pure (fin _ sb1 x1)
theorem addX {a : Addr} {S : κ → Bool} {n : Nat} {k : κ} {x : Value} {Q : Bool → Shared → Prop} (hk : knd.is k x = true) (hsc : x.scannable = true) (hS : SetX knd s.heap a S n) (room : n + 1 < scanBound)
  (fin : ∀ h', Heap.SameBut a s.heap h' → SetX knd h' a (fun k' => S k' || decide (k' = k)) (if S k then n else n + 1) → Q (!S k) { s with heap := h' }) :
  wpAny (model prog w) A (setAddHashed a x (knd.hash k)) Q E s := by
 obtain ⟨o, es, ep, t, ho, hx, hd, ⟨el, mem, hb, hf, hn⟩, J⟩ := hS
 have quiet : ∀ (b : Bool) (s₁ : Shared) (Q' : Unit → Shared → Prop), Q' () s₁ → wpAny (model prog w) A (match b with | true => rule "set.scan.the-table-gave-way" | false => pure ()) Q' E s₁ := fun b s₁ Q' z => by
  cases b
  ·exact wpAny_pure z
  ·exact wpAny_rule z
 unfold setAddHashed setAddHashedIn
 refine wpAny_holding (wpAny_bind (wpAny_setState_of ho hd hf ?_))
 dsimp only
 rw [if_pos (byScan_of hsc hb el)]
 unfold setAddByScan
 refine wpAny_bind (wpAny_bind (wpAny_rule (wpAny_bind (wpAny_setScan_of hk ho hd hf el ?_))))
 cases found : List.findIdx? (fun e => knd.is k e.2) es.toList with
 | some j =>
  obtain ⟨hj, pj, _⟩ := List.findIdx?_eq_some_iff_getElem.mp found
  have there : S k = true := (mem k).mpr ⟨_, List.getElem_mem hj, pj⟩
  dsimp only
  refine wpAny_pure (wpAny_pure ?_)
  have z := fin s.heap (Heap.SameBut.refl a s.heap) ⟨o, es, ep, t, ho, hx, hd, ⟨el, fun k' => ?_, hb, hf, by rw [there]; exact hn⟩, J⟩
  ·rw [there] at z
   exact z
  ·rw [← mem k', Bool.or_eq_true, decide_eq_true_eq]
   exact ⟨fun q => q.elim id fun e => by rw [e]; exact there, .inl⟩
 | none =>
  have away : S k = false := by
   cases q : S k with
   | false => rfl
   | true =>
    obtain ⟨e, he, pe⟩ := (mem k).mp q
    exact absurd pe (by simpa using List.findIdx?_eq_none_iff.mp found e he)
  dsimp only
  have pm := layNew_perm t es (knd.hash k) x
  have ft := layNew_fits t es (knd.hash k) x
  have J1 := layNew_JT es (knd.hash k) x J
  generalize layNew t es (knd.hash k) x = r at pm ft J1 ⊢
  obtain ⟨es1, t1, wd, gave⟩ := r
  dsimp only at pm ft J1 ⊢
  rw [Array.toList_push] at pm
  have sz : es1.size = n + 1 := by
   have := pm.length_eq
   rw [List.length_append] at this
   simp at this
   lia
  have last : ∀ h', Heap.SameBut a s.heap h' → SetX knd h' a (fun k' => S k' || decide (k' = k)) es1.size → Q true { s with heap := h' } := fun h' sb q => by
   have z := fin h' sb
   rw [away] at z
   rw [sz] at q
   exact z q
  have go : ∀ t2 : SetTable, t2.fits es1.size = true → JT (!w.params.followText "set-order") t2 → ∀ (R : Option Bool → Shared → Prop), (∀ h', Heap.SameBut a s.heap h' → SetX knd h' a (fun k' => S k' || decide (k' = k)) es1.size → R (some true) { s with heap := h' }) → wpAny (model prog w) A (do
    storeSet a es1 t2
    if (!wd && t2.tooFull) = true then do
      (match (relayAll t2 es1 (SetTable.grown es1.size)).2.2 with | true => rule "set.scan.the-table-gave-way" | false => pure ())
      storeSet a (relayAll t2 es1 (SetTable.grown es1.size)).1 (relayAll t2 es1 (SetTable.grown es1.size)).2.1
      pure (some true)
     else pure (some true)) R E s := fun t2 f2 J2 R hR =>
   addTailX quiet ho hx hd ((el.push hk hsc).perm pm) (mem_push_iff hk mem pm) (by rw [sz]; exact room) f2 J2 hR
  refine wpAny_bind (quiet _ _ _ ?_)
  by_cases c : t1.plain = true
  ·rw [if_pos c]
   refine wpAny_bind ?_
   rw [hashByValue_scannable 8 hsc]
   refine wpAny_pure ?_
   refine go _ ?_ ?_ _ fun h' sb q => wpAny_pure (last h' sb q)
   ·split
    ·exact ft
    ·exact SetTable.fits_plain_off ft
   ·split
    ·exact J1
    ·exact plain_off_JT J1
  ·rw [if_neg c]
   refine wpAny_bind (wpAny_pure ?_)
   rw [if_pos rfl]
   exact go _ ft J1 _ fun h' sb q => wpAny_pure (last h' sb q)
end
end L2
namespace L2
open PySem
theorem slot_setit_next : Slot "set_iterator" "__next__" "set_iterator.__next__" :=
 .of (owner := "set_iterator") (n := "__next__") (by rw [typeLookup_type, builtinLookup_eq_fast]; kernel_rfl)
  (by decide +kernel) (by decide +kernel) (by decide +kernel)
  (by first | exact .inl (by decide +kernel) | exact .inr (by decide +kernel)) (by rw [isSubtype_type]; kernel_rfl)
theorem slot_setit_iter : Slot "set_iterator" "__iter__" "set_iterator.__iter__" :=
 .of (owner := "set_iterator") (n := "__iter__") (by rw [typeLookup_type, builtinLookup_eq_fast]; kernel_rfl)
  (by decide +kernel) (by decide +kernel) (by decide +kernel)
  (by first | exact .inl (by decide +kernel) | exact .inr (by decide +kernel)) (by rw [isSubtype_type]; kernel_rfl)
theorem entry_setit_next : entryFor table "set_iterator.__next__" = some Builtin.«set_iterator.__next__» := entryFor_of_fast (by kernel_rfl)
theorem entry_setit_iter : entryFor table "set_iterator.__iter__" = some Builtin.«dict_keyiterator.__iter__» :=
 entryFor_alias (id' := "dict_keyiterator.__iter__") (by kernel_rfl)
  (by first | rfl | decide +kernel | (unfold String.splitOn; simp +decide [String.splitOnAux])) (by decide +kernel) (by kernel_rfl)
theorem entry_set_iter' : entryFor table "set.__iter__" = some Builtin.«frozenset.__iter__» :=
 entryFor_alias (id' := "frozenset.__iter__") (by kernel_rfl)
  (by first | rfl | decide +kernel | (unfold String.splitOn; simp +decide [String.splitOnAux])) (by decide +kernel) (by kernel_rfl)
theorem args_setit_next (a : Value) : argsOk "set_iterator.__next__" ⟨[a], []⟩ := by unfold argsOk; kernel_rfl
theorem args_setit_iter (a : Value) : argsOk "set_iterator.__iter__" ⟨[a], []⟩ := by unfold argsOk; kernel_rfl
noncomputable abbrev setIt (first : Value) (i : Nat) (a : Addr) (n ep : Nat) : Obj := { cls := .type "set_iterator", dict := none, data := .fields #[first, .int i 0, .ref a, .int n 0, .int ep 0], slots := #[] }
section
variable {prog : Program} {w : World} {A : Around} {E : Value → Shared → Prop} {s : Shared} {a I : Addr} {o : Obj} {es : Array (Int × Value)} {ep : Nat} {t : SetTable}
theorem byText_ {Q : Bool → Shared → Prop} (h : Q (w.params.followText "set-order") s) : wpAny (model prog w) A setsByText Q E s := wpAny_bind (wpAny_askSetting (wpAny_pure h))
theorem setWalk_text {Q : Array (Int × Value) → Shared → Prop} (ht : w.params.followText "set-order" = true) (ho : s.heap.get? a = some o) (hd : o.data = .set es ep t) (hf : t.fits es.size = true)
  (h : Q (pickOrder (w.params.setOrder a ep) es) s) : wpAny (model prog w) A (setWalk a) Q E s := by
 unfold setWalk
 refine wpAny_bind (wpAny_setState_of ho hd hf ?_)
 dsimp only
 refine wpAny_bind (byText_ ?_)
 rw [ht]
 simp only [if_true]
 exact wpAny_bind (wpAny_askSetting (wpAny_pure h))
theorem setNext_text {sl k : Nat} {Q : Option (Value × Nat) → Shared → Prop} (ht : w.params.followText "set-order" = true) (ho : s.heap.get? a = some o) (hd : o.data = .set es ep t) (hf : t.fits es.size = true)
  (h : Q (((pickOrder (w.params.setOrder a ep) es)[k]?).map fun e => (e.2, sl)) s) : wpAny (model prog w) A (setNext a sl k ep) Q E s := by
 unfold setNext
 refine wpAny_bind (wpAny_setState_of ho hd hf ?_)
 dsimp only
 refine wpAny_bind (byText_ ?_)
 rw [ht]
 simp only [if_true, bne_self_eq_false, Bool.false_eq_true, if_false]
 exact wpAny_bind (setWalk_text ht ho hd hf (wpAny_pure h))
theorem setNext_plain {sl k : Nat} {Q : Option (Value × Nat) → Shared → Prop} (ht : w.params.followText "set-order" = false) (ho : s.heap.get? a = some o) (hd : o.data = .set es ep t) (hf : t.fits es.size = true) (J : JT true t)
  (hp : (!t.plain && decide (es.size > 1)) = false) (hs : SetTable.below t.place sl = k)
  (h : Q (match es[k]?, t.place[k]? with | some (_, x), some j => some (x, j + 1) | _, _ => none) s) : wpAny (model prog w) A (setNext a sl k ep) Q E s := by
 unfold setNext
 refine wpAny_bind (wpAny_setState_of ho hd hf ?_)
 dsimp only
 refine wpAny_bind (byText_ ?_)
 rw [ht]
 simp only [Bool.false_eq_true, if_false]
 show wpAny _ _ (if (!t.plain && decide (es.size > 1)) = true then unsupported _ else _) _ _ s
 rw [hp]
 simp only [Bool.false_eq_true, if_false]
 refine wpAny_bind ?_
 show wpAny _ _ (if (!t.led && !es.isEmpty) = true then unsupported _ else pure ()) _ _ s
 rw [J.led]
 simp only [Bool.not_true, Bool.false_and, Bool.false_eq_true, if_false]
 refine wpAny_pure ?_
 rw [hs]
 exact wpAny_pure h
theorem setEntries_ {Q : Array (Int × Value) → Shared → Prop} (ho : s.heap.get? a = some o) (hd : o.data = .set es ep t) (hf : t.fits es.size = true) (h : Q es s) : wpAny (model prog w) A (setEntries a) Q E s := by
 unfold setEntries
 exact wpAny_bind (wpAny_setState_of ho hd hf (wpAny_pure h))
theorem setit_item {slot : Nat → Nat} {k n : Nat} {x : Value} {Q : Option Value → Shared → Prop} (hI : s.heap.get? I = some (setIt (.int (slot k : Nat) 0) k a n ep)) (ho : s.heap.get? a = some o) (hd : o.data = .set es ep t) (hf : t.fits es.size = true) (hn : es.size = n)
  (hnx : ∀ (B : Around) (Q' : Option (Value × Nat) → Shared → Prop) (E' : Value → Shared → Prop), Q' (some (x, slot (k + 1))) s → wpAny (model prog w) B (setNext a (slot k) k ep) Q' E' s)
  (hQ : ∀ h', h'.get? I = some (setIt (.int (slot (k + 1) : Nat) 0) (k + 1) a n ep) → Heap.SameBut I s.heap h' → Q (some x) { s with heap := h' }) : wpAny (model prog w) A (pyNext (.ref I)) Q E s := by
 have hT : s.TypeIs (.ref I) "set_iterator" := ⟨_, hI, rfl⟩
 unfold pyNext
 refine wpAny_bind (wpAny_attempt (wpAny_callSpecial?_slot (name := Str.ofString "__next__") hT slot_setit_next
  (wpAny_call_entry slot_setit_next hT entry_setit_next ?_ (args_setit_next _))))
 show wpAny _ _ (fieldsOf (.ref I) >>= _) _ _ s
 refine wpAny_bind (wpAny_fieldsOf hI rfl ?_)
 show wpAny _ _ (setEntries a >>= _) _ _ s
 refine wpAny_bind (setEntries_ ho hd hf ?_)
 rw [hn]
 simp only [bne_self_eq_false, Bool.false_eq_true, if_false]
 show wpAny _ _ (setNext a ((slot k : Nat) : Int).toNat ((k : Nat) : Int).toNat ((ep : Nat) : Int).toNat >>= _) _ _ s
 simp only [Int.toNat_natCast]
 refine wpAny_bind (hnx _ _ _ ?_)
 dsimp only
 refine wpAny_bind (wpAny_setField_rec hI (by simp) fun h1 g1 s1 => ?_)
 refine wpAny_bind (wpAny_setField_rec g1 (by simp) fun h2 g2 s2 => wpAny_pure ⟨x, rfl, wpAny_pure (hQ h2 ?_ (s1.trans s2))⟩)
 rw [g2]
 simp [rawInt]
theorem stop_tail {α : Type} {h1 : Heap} {Q : Option Value → Shared → Prop} (hh : A.handled = none) (hQ : ∀ h', (∀ b ob, h1.get? b = some ob → h'.get? b = some ob) → Q none { s with heap := h' }) :
  wpAny (model prog w) A.in1 (newExc (.type "StopIteration") [] >>= fun e => (raiseNew e : Sem α)) (fun _ _ => False)
   (fun e s' => wpAny (model prog w) A (do if ← isInstance e (.type "StopIteration") then pure none else throw e) Q E s') { s with heap := h1 } := by
 refine wpAny_bind ?_
 simp only [newExc, newTuple]
 refine wpAny_bind (wpAny_newObj_type ?_ (by size_fits))
 refine wpAny_bind (m := firstArgMember _ _) (wpAny_of_eq (a := Value.none) (by first | rfl | (simp only [firstArgMember]; rfl)) ?_)
 refine wpAny_newObj_type ?_ (by size_fits)
 simp only [raiseNew]
 refine wpAny_bind (wpAny_handled ?_)
 rw [show A.in1.handled = none from hh]
 refine wpAny_bind (wpAny_pure (wpAny_throw ?_))
 refine wpAny_bind (wpAny_isInstance (T := "StopIteration") (b := true) ⟨_, Heap.get?_push_size _ rfl, rfl⟩ isSubtype_stop ?_)
 exact wpAny_pure (hQ _ fun b ob e => Heap.get?_push_of_some _ (Heap.get?_push_of_some _ e))
theorem setit_done {first : Nat} {k n : Nat} {Q : Option Value → Shared → Prop} (hh : A.handled = none) (hI : s.heap.get? I = some (setIt (.int (first : Nat) 0) k a n ep)) (ho : s.heap.get? a = some o) (hd : o.data = .set es ep t) (hf : t.fits es.size = true) (hn : es.size = n)
  (hnx : ∀ (B : Around) (Q' : Option (Value × Nat) → Shared → Prop) (E' : Value → Shared → Prop), Q' none s → wpAny (model prog w) B (setNext a first k ep) Q' E' s)
  (hQ : ∀ h', (∀ b ob, b ≠ I → s.heap.get? b = some ob → h'.get? b = some ob) → Q none { s with heap := h' }) : wpAny (model prog w) A (pyNext (.ref I)) Q E s := by
 have hT : s.TypeIs (.ref I) "set_iterator" := ⟨_, hI, rfl⟩
 unfold pyNext
 refine wpAny_bind (wpAny_attempt (wpAny_callSpecial?_slot (name := Str.ofString "__next__") hT slot_setit_next
  (wpAny_call_entry slot_setit_next hT entry_setit_next ?_ (args_setit_next _))))
 show wpAny _ _ (fieldsOf (.ref I) >>= _) _ _ s
 refine wpAny_bind (wpAny_fieldsOf hI rfl ?_)
 show wpAny _ _ (setEntries a >>= _) _ _ s
 refine wpAny_bind (setEntries_ ho hd hf ?_)
 rw [hn]
 simp only [bne_self_eq_false, Bool.false_eq_true, if_false]
 show wpAny _ _ (setNext a ((first : Nat) : Int).toNat ((k : Nat) : Int).toNat ((ep : Nat) : Int).toNat >>= _) _ _ s
 simp only [Int.toNat_natCast]
 refine wpAny_bind (hnx _ _ _ ?_)
 dsimp only
 refine wpAny_bind (wpAny_setField_rec hI (by simp) fun h1 g1 s1 => ?_)
 refine wpAny_mono (stop_tail (Q := Q) (E := E) hh fun h' kp => hQ h' fun b ob hb e => kp b ob (s1.extBut b ob hb e)) (fun _ _ z => z.elim) fun e s' z => z
theorem choose_ {src : Source} {n : Nat} {Q : Nat → Shared → Prop} (hn : n ≠ 0) (h : ∀ i d, i < n → Q i { s with drawn := d }) : wpAny (model prog w) A (choose src n) Q E s :=
 fun _ _ _ => ⟨hn, h _ _ (Nat.mod_lt _ (Nat.pos_of_ne_zero hn))⟩
theorem drawOrder_ {α : Type} : ∀ (n : Nat) (xs : List α) (s : Shared) {Q : List α → Shared → Prop}, xs.length = n → (∀ ys d, ys.Perm xs → Q ys { s with drawn := d }) → wpAny (model prog w) A (drawOrder n xs) Q E s := by
 intro n
 induction n with
 | zero =>
  intro xs s Q hn h
  obtain rfl : xs = [] := List.eq_nil_of_length_eq_zero hn
  exact wpAny_pure (h [] s.drawn (List.Perm.refl _))
 | succ n ih =>
  intro xs s Q hn h
  match xs, hn with
  | x :: r, hn =>
   show wpAny _ _ (choose .order (x :: r).length >>= _) _ _ s
   refine wpAny_bind (choose_ (by simp) fun i d hi => ?_)
   rw [List.getElem?_eq_getElem hi]
   dsimp only
   refine wpAny_bind (ih _ _ (by rw [List.length_eraseIdx_of_lt hi]; lia) fun ys d' pm => wpAny_pure (h _ d' ((pm.cons _).trans (erase_perm (x :: r) i hi))))
theorem setDrawn_ {Q : Bool → Shared → Prop} (ho : s.heap.get? a = some o) (hd : o.data = .set es ep t) (hf : t.fits es.size = true) (h : Q (!w.params.followText "set-order" && (!t.plain && decide (es.size > 1))) s) : wpAny (model prog w) A (setDrawn a) Q E s := by
 unfold setDrawn
 refine wpAny_bind (wpAny_setState_of ho hd hf ?_)
 dsimp only
 exact wpAny_bind (byText_ (wpAny_pure h))
theorem setitD_item {T : Addr} {ps : List Nat} {k n p : Nat} {x : Value} {h0 : Int} {Q : Option Value → Shared → Prop} (hI : s.heap.get? I = some (setIt (.ref T) k a n ep)) (hTu : s.heap.get? T = some { cls := .type "tuple", data := .seq (ps.map fun (i : Nat) => rawInt i).toArray })
  (ho : s.heap.get? a = some o) (hd : o.data = .set es ep t) (hf : t.fits es.size = true) (hn : es.size = n) (hp : ps[k]? = some p) (hx : es[p]? = some (h0, x))
  (hQ : ∀ h', h'.get? I = some (setIt (.ref T) (k + 1) a n ep) → Heap.SameBut I s.heap h' → Q (some x) { s with heap := h' }) : wpAny (model prog w) A (pyNext (.ref I)) Q E s := by
 have hT : s.TypeIs (.ref I) "set_iterator" := ⟨_, hI, rfl⟩
 unfold pyNext
 refine wpAny_bind (wpAny_attempt (wpAny_callSpecial?_slot (name := Str.ofString "__next__") hT slot_setit_next
  (wpAny_call_entry slot_setit_next hT entry_setit_next ?_ (args_setit_next _))))
 show wpAny _ _ (fieldsOf (.ref I) >>= _) _ _ s
 refine wpAny_bind (wpAny_fieldsOf hI rfl ?_)
 show wpAny _ _ (setEntries a >>= _) _ _ s
 refine wpAny_bind (setEntries_ ho hd hf ?_)
 rw [hn]
 simp only [bne_self_eq_false, Bool.false_eq_true, if_false]
 show wpAny _ _ (seqItems? (.ref T) >>= _) _ _ s
 refine wpAny_bind (wpAny_seqItems hTu rfl ?_)
 dsimp only
 have e : (ps.map fun (i : Nat) => rawInt i).toArray[((k : Nat) : Int).toNat]? = some (.int (p : Nat) 0) := by
  rw [Int.toNat_natCast, List.getElem?_toArray, List.getElem?_map, hp]
  rfl
 rw [e]
 dsimp only
 show wpAny _ _ (setNextDrawn a ((p : Nat) : Int).toNat ((ep : Nat) : Int).toNat >>= _) _ _ s
 simp only [Int.toNat_natCast]
 unfold setNextDrawn
 refine wpAny_bind (wpAny_bind (wpAny_setState_of ho hd hf ?_))
 dsimp only
 simp only [bne_self_eq_false, Bool.false_eq_true, if_false, hx]
 refine wpAny_pure ?_
 refine wpAny_bind (wpAny_setField_rec hI (by simp) fun h2 g2 s2 => wpAny_pure ⟨x, rfl, wpAny_pure (hQ h2 ?_ s2)⟩)
 rw [g2]
 simp [rawInt]
theorem setitD_done {T : Addr} {ps : List Nat} {k n : Nat} {Q : Option Value → Shared → Prop} (hh : A.handled = none) (hI : s.heap.get? I = some (setIt (.ref T) k a n ep)) (hTu : s.heap.get? T = some { cls := .type "tuple", data := .seq (ps.map fun (i : Nat) => rawInt i).toArray })
  (ho : s.heap.get? a = some o) (hd : o.data = .set es ep t) (hf : t.fits es.size = true) (hn : es.size = n) (hp : ps[k]? = none)
  (hQ : ∀ h', (∀ b ob, b ≠ I → s.heap.get? b = some ob → h'.get? b = some ob) → Q none { s with heap := h' }) : wpAny (model prog w) A (pyNext (.ref I)) Q E s := by
 have hT : s.TypeIs (.ref I) "set_iterator" := ⟨_, hI, rfl⟩
 unfold pyNext
 refine wpAny_bind (wpAny_attempt (wpAny_callSpecial?_slot (name := Str.ofString "__next__") hT slot_setit_next
  (wpAny_call_entry slot_setit_next hT entry_setit_next ?_ (args_setit_next _))))
 show wpAny _ _ (fieldsOf (.ref I) >>= _) _ _ s
 refine wpAny_bind (wpAny_fieldsOf hI rfl ?_)
 show wpAny _ _ (setEntries a >>= _) _ _ s
 refine wpAny_bind (setEntries_ ho hd hf ?_)
 rw [hn]
 simp only [bne_self_eq_false, Bool.false_eq_true, if_false]
 show wpAny _ _ (seqItems? (.ref T) >>= _) _ _ s
 refine wpAny_bind (wpAny_seqItems hTu rfl ?_)
 dsimp only
 have e : (ps.map fun (i : Nat) => rawInt i).toArray[((k : Nat) : Int).toNat]? = none := by
  rw [Int.toNat_natCast, List.getElem?_toArray, List.getElem?_map, hp]
  rfl
 rw [e]
 dsimp only
 refine wpAny_bind (wpAny_setField_rec hI (by simp) fun h1 g1 s1 => ?_)
 refine wpAny_bind (wpAny_setField_rec g1 (by simp) fun h2 g2 s2 => ?_)
 refine wpAny_mono (stop_tail (Q := Q) (E := E) hh fun h' kp => hQ h' fun b ob hb e => kp b ob (s2.extBut b ob hb (s1.extBut b ob hb e))) (fun _ _ z => z.elim) fun e s' z => z
theorem setit_self {first : Value} {k n : Nat} {Q : Value → Shared → Prop} (hI : s.heap.get? I = some (setIt first k a n ep)) (h : Q (.ref I) s) : wpAny (model prog w) A (pyIter (.ref I)) Q E s := by
 have hT : s.TypeIs (.ref I) "set_iterator" := ⟨_, hI, rfl⟩
 refine wpAny_pyIter_slot hT slot_setit_iter (wpAny_call_entry slot_setit_iter hT entry_setit_iter ?_ (args_setit_iter _))
 show wpAny _ _ (ret (.ref I)) _ _ s
 exact wpAny_pure ⟨_, rfl, "set_iterator", _, hT, slot_setit_next.lookup, h⟩
noncomputable def SetWalks (prog : Program) (w : World) (A : Around) (a I N : Addr) (n : Nat) (xs : List Value) (s : Shared) : Prop :=
 ∃ (fp : List Addr) (St : Nat → Shared → Prop), WalksS prog w A I fp [I] (fun a b => b = a) n (fun i v => xs[i]? = some v) St ∧ St 0 s ∧ (∀ b ∈ fp, (b = a ∨ N ≤ b) ∧ b < s.heap.objs.size) ∧ I ∈ fp
theorem walks_num {slot : Nat → Nat} {n : Nat} {xs : List Value} (hh : A.handled = none) (hne : a ≠ I) (hd : o.data = .set es ep t) (hf : t.fits es.size = true) (hn : es.size = n) (hxs : xs.length = n)
  (step : ∀ (k : Nat) (s : Shared) (B : Around) (Q' : Option (Value × Nat) → Shared → Prop) (E' : Value → Shared → Prop), k ≤ n → s.heap.get? a = some o → Q' ((xs[k]?).map fun x => (x, slot (k + 1))) s → wpAny (model prog w) B (setNext a (slot k) k ep) Q' E' s) :
  WalksS prog w A I [I, a] [I] (fun a b => b = a) n (fun i v => xs[i]? = some v) (fun k s => s.heap.get? I = some (setIt (.int (slot k : Nat) 0) k a n ep) ∧ s.heap.get? a = some o) where
 sub := fun b hb => by simp at hb; simp [hb]
 grefl := fun _ => rfl
 gtrans := fun _ _ _ p q => q.trans p
 frame := fun i s h' tk st _ kp => ⟨kp I (by simp) _ st.1, kp a (by simp) _ st.2⟩
 item := fun i s Q E hi st hQ => by
  have hx : xs[i]? = some (xs[i]'(by lia)) := List.getElem?_eq_getElem (by lia)
  refine setit_item (x := xs[i]'(by lia)) st.1 st.2 hd hf hn (fun B Q' E' q => step i s B Q' E' (by lia) st.2 (by rw [hx]; exact q)) fun h' g sb => ?_
  exact hQ _ _ hx ⟨g, sb.extBut a o hne st.2⟩ ⟨fun b ob hb e => sb.extBut b ob (fun z => hb (by simp [z])) e, rfl, rfl, rfl, Nat.le_refl _⟩
 done := fun s Q E st hQ => by
  have hx : xs[n]? = none := List.getElem?_eq_none (by lia)
  refine setit_done hh st.1 st.2 hd hf hn (fun B Q' E' q => step n s B Q' E' (Nat.le_refl _) st.2 (by rw [hx]; exact q)) fun h' kp => ?_
  exact hQ _ ⟨fun b ob hb e => kp b ob (fun z => hb (by simp [z])) e, rfl, rfl, rfl, Nat.le_refl _⟩
 self := fun i s Q E st q => setit_self st.1 q
theorem walks_drawn {T : Addr} {ps : List Nat} {n : Nat} {xs : List Value} (hh : A.handled = none) (hne : a ≠ I) (hnT : T ≠ I) (hd : o.data = .set es ep t) (hf : t.fits es.size = true) (hn : es.size = n) (hps : ps.length = n)
  (hx : ∀ (k p : Nat), ps[k]? = some p → ∃ h0 x, es[p]? = some (h0, x) ∧ xs[k]? = some x) :
  WalksS prog w A I [I, a, T] [I] (fun a b => b = a) n (fun i v => xs[i]? = some v) (fun k s => s.heap.get? I = some (setIt (.ref T) k a n ep) ∧ s.heap.get? a = some o ∧ s.heap.get? T = some { cls := .type "tuple", data := .seq (ps.map fun (i : Nat) => rawInt i).toArray }) where
 sub := fun b hb => by simp at hb; simp [hb]
 grefl := fun _ => rfl
 gtrans := fun _ _ _ p q => q.trans p
 frame := fun i s h' tk st _ kp => ⟨kp I (by simp) _ st.1, kp a (by simp) _ st.2.1, kp T (by simp) _ st.2.2⟩
 item := fun i s Q E hi st hQ => by
  have hp : ps[i]? = some (ps[i]'(by lia)) := List.getElem?_eq_getElem (by lia)
  obtain ⟨h0, x, e1, e2⟩ := hx i _ hp
  refine setitD_item st.1 st.2.2 st.2.1 hd hf hn hp e1 fun h' g sb => ?_
  exact hQ _ _ e2 ⟨g, sb.extBut a o hne st.2.1, sb.extBut T _ hnT st.2.2⟩ ⟨fun b ob hb e => sb.extBut b ob (fun z => hb (by simp [z])) e, rfl, rfl, rfl, Nat.le_refl _⟩
 done := fun s Q E st hQ => by
  refine setitD_done hh st.1 st.2.2 st.2.1 hd hf hn (List.getElem?_eq_none (by lia)) fun h' kp => ?_
  exact hQ _ ⟨fun b ob hb e => kp b ob (fun z => hb (by simp [z])) e, rfl, rfl, rfl, Nat.le_refl _⟩
 self := fun i s Q E st q => setit_self st.1 q
theorem pyIter_set {Q : Value → Shared → Prop} (ho : s.heap.get? a = some o) (hx : o.ExactSet) (hd : o.data = .set es ep t) (hf : t.fits es.size = true) (J : JT (!w.params.followText "set-order") t) (hz : es.size ≤ sizeLine)
  (hQ : ∀ (I : Addr) (xs : List Value) (h' : Heap) (d), xs.Perm (es.toList.map (·.2)) → s.heap.objs.size ≤ I → (∀ b ob, s.heap.get? b = some ob → h'.get? b = some ob) →
   (∀ B : Around, B.handled = none → SetWalks prog w B a I s.heap.objs.size es.size xs { s with heap := h', drawn := d }) → Q (.ref I) { s with heap := h', drawn := d }) : wpAny (model prog w) A (pyIter (.ref a)) Q E s := by
 have hT : s.TypeIs (.ref a) "set" := ⟨o, ho, hx.1⟩
 have hal : a < s.heap.objs.size := Heap.lt_size ho
 refine wpAny_pyIter_slot hT F.slot_set_iter (wpAny_call_entry F.slot_set_iter hT entry_set_iter' ?_ (F.args_set_iter_1 _))
 show wpAny _ _ (Builtin.Frozenset.sizeOf a >>= _) _ _ s
 refine wpAny_bind (wpAny_bind (setEntries_ ho hd hf (wpAny_pure ?_)))
 refine wpAny_bind (setDrawn_ ho hd hf ?_)
 by_cases c : (!w.params.followText "set-order" && (!t.plain && decide (es.size > 1))) = true
 ·rw [c]
  simp only [if_true]
  refine wpAny_bind (drawOrder_ es.size (List.range es.size) s (by simp) fun ps d pm => ?_)
  have hps : ps.length = es.size := by simpa using pm.length_eq
  simp only [newTuple]
  refine wpAny_bind (wpAny_newObj_type ?_ ?_)
  case refine_2 =>
   show (List.map (fun (i : Nat) => rawInt i) ps).toArray.size ≤ sizeLine
   rw [List.size_toArray, List.length_map, hps]
   exact hz
  have ho' : (s.heap.push { cls := .type "tuple", data := .seq (ps.map fun (i : Nat) => rawInt i).toArray }).get? a = some o := Heap.get?_push_of_some _ ho
  refine wpAny_bind (wpAny_setEpoch_of ho' hd hf ?_)
  refine wpAny_bind (wpAny_newObj_type ?_)
  have eI : (s.heap.push { cls := .type "tuple", data := .seq (ps.map fun (i : Nat) => rawInt i).toArray }).objs.size = s.heap.objs.size + 1 := Heap.size_push ..
  refine wpAny_pure ⟨_, rfl, "set_iterator", _, ⟨_, Heap.get?_push_size _ rfl, rfl⟩, slot_setit_next.lookup, ?_⟩
  refine hQ _ ((ps.map fun p => (es[p]?).map (·.2)).filterMap id) _ d ?_ (by rw [eI]; exact Nat.le_succ _) (fun b ob e => Heap.get?_push_of_some _ (Heap.get?_push_of_some _ e)) fun B hB => ?_
  ·refine ((pm.map _).filterMap _).trans ?_
   rw [List.filterMap_map]
   have : (List.range es.size).filterMap (id ∘ fun p => (es[p]?).map (·.2)) = ((List.range es.size).filterMap fun p => es[p]?).map (·.2) := by
    rw [List.map_filterMap]
    rfl
   rw [this, filterMap_getElem?_range]
  ·have key : ∀ (l : List Nat), (∀ p ∈ l, p < es.size) → ∀ (k p : Nat), l[k]? = some p → ∃ h0 x, es[p]? = some (h0, x) ∧ ((l.map fun p => (es[p]?).map (·.2)).filterMap id)[k]? = some x := by
    intro l
    induction l with
    | nil => intro _ k p e; simp at e
    | cons q r ih =>
     intro hl k p e
     have hq := hl q List.mem_cons_self
     have eq : es[q]? = some es[q] := Array.getElem?_eq_getElem hq
     have e2 : ((q :: r).map fun p => (es[p]?).map (·.2)).filterMap id = es[q].2 :: (r.map fun p => (es[p]?).map (·.2)).filterMap id := by
      rw [List.map_cons, eq]
      rfl
     rw [e2]
     cases k with
     | zero =>
      have : q = p := by simpa using e
      subst this
      exact ⟨es[q].1, es[q].2, eq, rfl⟩
     | succ k => exact ih (fun p hp => hl p (List.mem_cons_of_mem _ hp)) k p (by simpa using e)
   refine ⟨_, _, walks_drawn (o := o) (T := s.heap.objs.size) (ps := ps) hB (by rw [eI]; exact Nat.ne_of_lt (Nat.lt_succ_of_lt hal)) (by rw [eI]; exact Nat.ne_of_lt (Nat.lt_succ_self _)) hd hf rfl hps (key ps fun p hp => by simpa using pm.mem_iff.mp hp), ⟨Heap.get?_push_size _ rfl, Heap.get?_push_of_some _ ho', Heap.get?_push_of_some _ (Heap.get?_push_size _ rfl)⟩, fun b hb => ?_, by simp⟩
   simp only [List.mem_cons, List.not_mem_nil, or_false] at hb
   rw [Heap.size_push]
   rcases hb with rfl | rfl | rfl
   ·exact ⟨.inr (by rw [eI]; exact Nat.le_succ _), Nat.lt_succ_self _⟩
   ·exact ⟨.inl rfl, by rw [eI]; exact Nat.lt_succ_of_lt (Nat.lt_succ_of_lt hal)⟩
   ·exact ⟨.inr (Nat.le_refl _), by rw [eI]; exact Nat.lt_succ_of_lt (Nat.lt_succ_self _)⟩
 ·rw [Bool.eq_false_iff.mpr c]
  simp only [Bool.false_eq_true, if_false]
  refine wpAny_bind (wpAny_pure (wpAny_bind (wpAny_setEpoch_of ho hd hf ?_)))
  refine wpAny_bind (wpAny_newObj_type ?_)
  refine wpAny_pure ⟨_, rfl, "set_iterator", _, ⟨_, Heap.get?_push_size _ rfl, rfl⟩, slot_setit_next.lookup, ?_⟩
  have hne : a ≠ s.heap.objs.size := Nat.ne_of_lt hal
  have go : ∀ (slot : Nat → Nat) (xs : List Value), slot 0 = 0 → xs.Perm (es.toList.map (·.2)) → (∀ (k : Nat) (s : Shared) (B : Around) (Q' : Option (Value × Nat) → Shared → Prop) (E' : Value → Shared → Prop), k ≤ es.size → s.heap.get? a = some o → Q' ((xs[k]?).map fun x => (x, slot (k + 1))) s → wpAny (model prog w) B (setNext a (slot k) k ep) Q' E' s) →
    Q (.ref s.heap.objs.size) { s with heap := s.heap.push (setIt (rawInt 0) 0 a es.size ep) } := fun slot xs h0 pm step => by
   refine hQ _ xs _ s.drawn pm (Nat.le_refl _) (fun b ob e => Heap.get?_push_of_some _ e) fun B hB => ⟨_, _, walks_num (slot := slot) hB hne hd hf rfl (by simpa using pm.length_eq) step, ⟨?_, Heap.get?_push_of_some _ ho⟩, fun b hb => ?_, by simp⟩
   ·rw [h0]
    exact Heap.get?_push_size _ rfl
   ·simp only [List.mem_cons, List.not_mem_nil, or_false] at hb
    rw [Heap.size_push]
    rcases hb with rfl | rfl
    ·exact ⟨.inr (Nat.le_refl _), Nat.lt_succ_self _⟩
    ·exact ⟨.inl rfl, Nat.lt_succ_of_lt hal⟩
  cases ht : w.params.followText "set-order" with
  | true =>
   refine go (fun _ => 0) ((pickOrder (w.params.setOrder a ep) es).toList.map (·.2)) rfl ((pickOrder_perm _ es).map _) fun k s' B Q' E' hk ho' q => setNext_text ht ho' hd hf ?_
   have e : (((pickOrder (w.params.setOrder a ep) es).toList.map (·.2))[k]?).map (fun x => (x, 0)) = ((pickOrder (w.params.setOrder a ep) es)[k]?).map fun e => (e.2, 0) := by
    rw [List.getElem?_map, Array.getElem?_toList, Option.map_map]
    rfl
   rw [← e]
   exact q
  | false =>
   rw [ht] at c J
   have hpl : t.place.size = es.size := by
    simp only [SetTable.fits, Bool.and_eq_true, beq_iff_eq] at hf
    exact hf.1
   refine go (fun k => match k with | 0 => 0 | k + 1 => t.place.getD k 0 + 1) (es.toList.map (·.2)) rfl (List.Perm.refl _) fun k s' B Q' E' hk ho' q => setNext_plain ht ho' hd hf J (by simpa using c) ?_ ?_
   ·cases k with
    | zero => exact below_first J.mono
    | succ k =>
     have hk' : k < t.place.size := by lia
     have e : t.place.getD k 0 = t.place[k] := by simp [Array.getD, hk']
     show SetTable.below t.place (t.place.getD k 0 + 1) = k + 1
     rw [e]
     exact below_next J.mono k hk'
   ·rcases Nat.lt_or_eq_of_le hk with hlt | heq
    ·have hk' : k < t.place.size := by lia
     have e2 : t.place.getD k 0 = t.place[k] := by simp [Array.getD, hk']
     have e3 : (es.toList.map (·.2))[k]? = some es[k].2 := by simp [hlt]
     rw [e3] at q
     simp only [Array.getElem?_eq_getElem hlt, Array.getElem?_eq_getElem hk']
     rw [← e2]
     exact q
    ·have e3 : (es.toList.map (·.2))[k]? = none := by simp [heq]
     rw [e3] at q
     have e4 : es[k]? = none := by simp [heq]
     simp only [e4]
     exact q
end
end L2
namespace L2
open PySem PyProof.Rows
theorem len_of_set : typeLookup (.type "set") "__len__" = pure (some (.builtin "set.__len__")) := F.slot_set_len.lookup
theorem split_set_len : splitId "set.__len__" = some ("set", "__len__") := by kernel_rfl
section
variable {prog : Program} {w : World} {A : Around} {E : Value → Shared → Prop} {s : Shared} {a : Addr} {o : Obj} {es : Array (Int × Value)} {ep : Nat} {t : SetTable}
theorem hint_set {Q : Bool → Shared → Prop} (hT : s.TypeIs (.ref a) "set") (h : Q false s) : wpAny (model prog w) A (Builtin.List.listLengthHint (.ref a)) Q E s := by
 unfold Builtin.List.listLengthHint
 refine wpAny_bind (wpAny_specialOf hT len_of_set ?_)
 simp only [split_set_len]
 refine wpAny_bind (wpAny_isInstance hT sub_set_self ?_)
 simp only [Bool.not_true, Bool.false_eq_true, if_false]
 show wpAny _ _ (typeOf (.ref a) >>= _) _ _ s
 exact wpAny_bind (wpAny_typeOf hT (wpAny_pure h))
theorem collect_set {Q : List Value → Shared → Prop} (hh : A.handled = none) (ho : s.heap.get? a = some o) (hx : o.ExactSet) (hd : o.data = .set es ep t) (hf : t.fits es.size = true) (J : JT (!w.params.followText "set-order") t) (hz : es.size ≤ sizeLine)
  (hQ : ∀ (h' : Heap) (d) (tk : Nat) (xs : List Value), xs.Perm (es.toList.map (·.2)) → s.heap.objs.size < h'.objs.size → (∀ b ob, s.heap.get? b = some ob → h'.get? b = some ob) → Q xs { s with heap := h', drawn := d, toks := tk }) : wpAny (model prog w) A (collect (.ref a)) Q E s := by
 have hal : a < s.heap.objs.size := Heap.lt_size ho
 unfold collect
 refine wpAny_bind (wpAny_runValue (codeAny_builtin F.entry_proto_collect ?_))
 rw [Around.under_plainId F.plain_proto_collect _]
 show wpAny _ A.in1 (newList [] >>= fun l => again (.builtin "list.__iadd__" ⟨[l, .ref a], []⟩)) _ _ s
 refine wpAny_bind (wpAny_newObj_type ?_)
 refine wpAny_pure ⟨plainId_quiet F.plain_list_iadd _, codeAny_builtin F.entry_list_iadd ?_⟩
 rw [Around.under_plainId F.plain_list_iadd _]
 generalize hH1 : s.heap.push { cls := .type "list", data := .seq ([] : List Value).toArray } = H1
 have sz1 : H1.objs.size = s.heap.objs.size + 1 := by rw [← hH1]; exact Heap.size_push ..
 have old1 : ∀ b ob, s.heap.get? b = some ob → H1.get? b = some ob := fun b ob e => by rw [← hH1]; exact Heap.get?_push_of_some _ e
 have gS : H1.get? s.heap.objs.size = some { cls := .type "list", data := .seq ([] : List Value).toArray } := by rw [← hH1]; exact Heap.get?_push_size _ rfl
 show wpAny _ A.in1 (Builtin.List.listExtendWith (.ref s.heap.objs.size) (.ref a) (.ref s.heap.objs.size)) _ _ { s with heap := H1 }
 unfold Builtin.List.listExtendWith
 have ho1 := old1 a o ho
 refine wpAny_bind (wpAny_typeOf (T := "set") ⟨o, ho1, hx.1⟩ ?_)
 have h1 : Builtin.List.listSameRef (.ref s.heap.objs.size) (.ref a) = false := by simpa [Builtin.List.listSameRef] using Nat.ne_of_gt hal
 have h2 : (Value.type "set" == Value.type "list") = false := by decide
 have h3 : (Value.type "set" == Value.type "tuple") = false := by decide
 simp only [h1, h2, h3, Bool.or_false, Bool.false_eq_true, if_false]
 refine wpAny_bind (pyIter_set (s := { s with heap := H1 }) ho1 hx hd hf J hz fun I xs h' d pm hI old2 walks => ?_)
 refine wpAny_bind (wpAny_holding (hint_set ⟨o, old2 a o ho1, hx.1⟩ ?_))
 show wpAny _ A.in1 (rule "list.extend.makes-room" >>= fun _ => Builtin.List.listTouch (.ref s.heap.objs.size) >>= fun _ =>
  again (.builtin "list.extend.loop" ⟨[.ref s.heap.objs.size, .ref I, .ref s.heap.objs.size], []⟩)) _ _ _
 refine wpAny_bind (wpAny_rule (wpAny_bind ?_))
 have g2 := old2 _ _ gS
 show wpAny _ A.in1 (updateSeq s.heap.objs.size (·.push .none) >>= fun _ => updateSeq s.heap.objs.size (·.pop)) _ _ _
 refine wpAny_bind (wpAny_updateSeq g2 rfl ?_)
 have g3 := Heap.get?_update_self (Obj.mapSeq (·.push Value.none)) g2 rfl
 refine wpAny_updateSeq g3 rfl ?_
 have g4 := Heap.get?_update_self (Obj.mapSeq (·.pop)) g3 rfl
 have oth : ∀ b ob, b ≠ s.heap.objs.size → h'.get? b = some ob → ((h'.update s.heap.objs.size (Obj.mapSeq (·.push Value.none))).update s.heap.objs.size (Obj.mapSeq (·.pop))).get? b = some ob :=
  fun b ob hb e => (Heap.get?_update_other _ _ (Ne.symm hb)).trans ((Heap.get?_update_other _ _ (Ne.symm hb)).trans e)
 obtain ⟨fp, St, W, st, hfp, _⟩ := walks A.in1 hh
 have hSf : s.heap.objs.size ∉ fp := fun hm => by
  rcases (hfp _ hm).1 with e | e
  ·exact Nat.lt_irrefl _ (e ▸ hal)
  ·have e' : H1.objs.size ≤ s.heap.objs.size := e
   rw [sz1] at e'
   exact Nat.lt_irrefl _ e'
 refine wpAny_pure ⟨plainId_quiet F.plain_extend_loop _, codeAny_extend_loopS W hz _ hSf _ es.size 0 _ _ _ rfl (Nat.zero_le _)
  (W.frame 0 ({ s with heap := h', drawn := d } : Shared) _ s.toks st (Nat.le_refl _) fun b hb ob e => oth b ob (fun z => hSf (z ▸ hb)) e) g4 (ItemsOf.nil _) fun s' acc' c' hm hS' hacc => ?_⟩
 show wpAny _ A (load s.heap.objs.size >>= _) _ _ s'
 refine wpAny_bind (wpAny_load hS' (wpAny_pure ?_))
 have e1 : s'.gens = s.gens := hm.gens
 have e2 : s'.drawn = d := hm.drawn
 have e3 : s'.os = s.os := hm.os
 have es' : s' = { s with heap := s'.heap, drawn := d, toks := s'.toks } := by
  obtain ⟨h0, g0, d0, t0, o0⟩ := s'
  simp only at e1 e2 e3
  subst e1 e2 e3
  rfl
 have exs : acc'.toList = xs := by
  have hl : xs.length = es.size := by simpa using pm.length_eq
  apply List.ext_getElem
  ·rw [Array.length_toList, hacc.1, hl]
  ·intro i q1 q2
   have this : xs[i]? = some acc'[i] := hacc.2 i acc'[i] (by simp)
   rw [List.getElem?_eq_getElem q2] at this
   simpa using (Option.some.inj this).symm
 have big : s.heap.objs.size < s'.heap.objs.size := Heap.lt_size hS'
 rw [exs, es']
 refine hQ _ d _ xs pm big fun b ob e => ?_
 have hb : b ≠ s.heap.objs.size := Nat.ne_of_lt (Heap.lt_size e)
 refine hm.heap b ob ?_ (oth b ob hb (old2 b ob (old1 b ob e)))
 simp only [List.mem_cons, List.not_mem_nil, or_false, not_or]
 refine ⟨hb, fun z => ?_⟩
 have hI' : H1.objs.size ≤ I := hI
 rw [sz1, ← z] at hI'
 exact Nat.lt_irrefl _ (Nat.lt_of_lt_of_le (Nat.lt_succ_of_lt (Heap.lt_size e)) hI')
theorem ints_of_elems (h : ElemsOf (intKind prog w) es.toList) : ∃ ks : List Int, IntsAre (es.toList.map (·.2)) ks ∧ ∀ k, k ∈ ks ↔ ∃ e ∈ es.toList, (intKind prog w).is k e.2 = true := by
 have go : ∀ l : List (Int × Value), ElemsOf (intKind prog w) l → ∃ ks : List Int, IntsAre (l.map (·.2)) ks ∧ ∀ k, k ∈ ks ↔ ∃ e ∈ l, (intKind prog w).is k e.2 = true := by
  intro l
  induction l with
  | nil => intro _; exact ⟨[], .nil, by simp⟩
  | cons e r ih =>
   intro h
   obtain ⟨ks, h1, h2⟩ := ih h.tail
   obtain ⟨⟨k, hk, _⟩, _⟩ := h.head
   obtain ⟨tk, ek⟩ := Value.isInt_shape (k := k) (v := e.2) hk
   refine ⟨k :: ks, ?_, fun k' => ?_⟩
   ·rw [List.map_cons, ek]
    exact .cons k tk h1
   ·rw [List.mem_cons, h2 k']
    constructor
    ·rintro (rfl | ⟨e', he, q⟩)
     ·exact ⟨e, List.mem_cons_self, hk⟩
     ·exact ⟨e', List.mem_cons_of_mem _ he, q⟩
    ·rintro ⟨e', he, q⟩
     rcases List.mem_cons.mp he with rfl | he
     ·exact .inl ((intKind prog w).inj e'.2 k' k q hk)
     ·exact .inr ⟨e', he, q⟩
 exact go _ h
theorem IntsAre.perm {vs us : List Value} (p : us.Perm vs) : ∀ {ns : List Int}, IntsAre vs ns → ∃ ms, IntsAre us ms ∧ ms.Perm ns := by
 induction p with
 | nil => intro ns h; exact ⟨ns, h, List.Perm.refl _⟩
 | cons x _ ih =>
  intro ns h
  cases h with
  | cons n t h => obtain ⟨ms, h1, h2⟩ := ih h; exact ⟨n :: ms, .cons n t h1, h2.cons n⟩
 | swap x y l =>
  intro ns h
  cases h with
  | cons n t h => cases h with
   | cons m u h => exact ⟨_, .cons m u (.cons n t h), List.Perm.swap _ _ _⟩
 | trans _ _ ih1 ih2 =>
  intro ns h
  obtain ⟨ms, h1, h2⟩ := ih2 h
  obtain ⟨ls, h3, h4⟩ := ih1 h1
  exact ⟨ls, h3, h4.trans h2⟩
theorem sorted_set {S : Int → Bool} {n : Nat} {Q : Value → Shared → Prop} (hh : A.handled = none) (hS : SetX (intKind prog w) s.heap a S n) (h64 : n < 64)
  (h : ∀ (l : Addr) (h' : Heap) (d) (tk e : Nat) (out : Array Value) (ns : List Int), IntsAre out.toList ns → ns.Pairwise (· ≤ ·) → (∀ k, k ∈ ns ↔ S k = true) → ns.length = n → s.heap.objs.size ≤ l → (∀ b ob, s.heap.get? b = some ob → h'.get? b = some ob) →
   h'.get? l = some (seqObj "list" out e) → Q (.ref l) { s with heap := h', drawn := d, toks := tk }) : wpAny (model prog w) A (call (.builtin "sorted") [.ref a]) Q E s := by
 obtain ⟨o, es, ep, t, ho, hx, hd, ⟨el, mem, hb, hf, hn⟩, J⟩ := hS
 obtain ⟨ks, ik, mk⟩ := ints_of_elems el
 refine Calls.call_function_entry kind_sorted plain_sorted entry_sorted (args_sorted1 _) ?_
 unfold Builtin.«sorted»
 refine wpAny_bind (m := checkCount "sorted" 1 1 _) (wpAny_pure ?_)
 refine wpAny_bind (collect_set hh ho hx hd hf J (fits_of_scanBound hb) fun h1 d tk xs pm big old => ?_)
 obtain ⟨ms, im, pms⟩ := IntsAre.perm pm ik
 have hxl : xs.length = n := by rw [← hn]; simpa using pm.length_eq
 refine wpAny_bind (wpAny_newList ?_ (by rw [hxl]; exact Nat.le_trans (Nat.le_of_lt h64) (by decide)))
 have hoL : (h1.push (seqObj "list" xs.toArray 0)).get? h1.objs.size = some (seqObj "list" xs.toArray 0) := Heap.get?_push_size _ rfl
 show wpAny _ _ _ _ _ { s with heap := h1.push (seqObj "list" xs.toArray 0), drawn := d, toks := tk }
 refine wpAny_bind (wpAny_holding (wpAny_call_entry slot_list_sort ⟨_, hoL, rfl⟩ entry_list_sort (list_sort_tree hoL im (by lia) fun out ns a1 a2 a3 => ⟨_, rfl, ?_⟩) (args_list_sort _)))
 obtain ⟨e, he⟩ := sortedHeap_at (out := out) hoL
 refine wpAny_pure ⟨_, rfl, h h1.objs.size _ d tk e out ns a1 a3 (fun k => ?_) ?_ ?_ (fun b ob q => ?_) he⟩
 ·rw [a2.mem_iff, pms.mem_iff, mk k, mem k]
 ·rw [a2.length_eq, pms.length_eq, ← ik.length, List.length_map, Array.length_toList, hn]
 ·exact Nat.le_of_lt big
 ·have q1 := old b ob q
  have hlt := Heap.lt_size q1
  rw [sortedHeap_old (Nat.ne_of_lt hlt) (by rw [Heap.size_push]; exact Nat.lt_succ_of_lt hlt)]
  exact Heap.get?_push_of_some _ q1
end
end L2
namespace L2
open PySem PyProof.Rows
section
variable {prog : Program} {w : World} {A : Around} {R : Result → Shared → Prop} {I : Addr} {fp wr : List Addr} {G : Array GenState → Array GenState → Prop} {n : Nat} {P : Nat → Value → Prop} {St : Nat → Shared → Prop}
noncomputable abbrev metSet (prog : Program) (w : World) (val : Nat → Int) (i : Nat) (h : Heap) (S : Addr) : Prop := SetX (intKind prog w) h S (fun k => (firstMet val i).any (· == k)) (firstMet val i).length
theorem updLoopX (W : WalksS prog w A.in1 I fp wr G n P St) (S : Addr) (hSf : S ∉ fp) (val : Nat → Int) (hval : ∀ i v, P i v → ∃ t, v = .int (val i) t) (hb : n + 1 < scanBound) :
  ∀ (k i : Nat) (s : Shared), n - i = k → i ≤ n → St i s → metSet prog w val i s.heap S → (∀ s', Moved (S :: wr) G s s' → metSet prog w val n s'.heap S → R (.ok (.ret .none)) s') →
   codeAny (model prog w) A (.builtin "set.update.loop" ⟨[.ref S, .ref I], []⟩) R s := by
 have hSw : S ∉ wr := fun z => hSf (W.sub _ z)
 have sub : ∀ b ∈ wr, b ∈ S :: wr := fun b q => List.mem_cons_of_mem _ q
 intro k
 induction k with
 | zero =>
  intro i s hk hi st x fin
  obtain rfl : i = n := by lia
  refine codeAny_builtin PyProof.Rows.F.entry_set_update_loop ?_
  rw [Around.under_plainId PyProof.Rows.F.plain_set_update_loop _]
  show wpAny _ A.in1 (pyNext (.ref I) >>= _) _ _ s
  refine wpAny_bind (W.done s _ _ st fun s' m => ?_)
  show wpAny _ A.in1 (ret Value.none) _ _ s'
  exact wpAny_pure (fin s' (m.mono sub) (x.of_get fun o e => m.heap S _ hSw e))
 | succ k ih =>
  intro i s hk hi st x fin
  have lt : i < n := by lia
  refine codeAny_builtin PyProof.Rows.F.entry_set_update_loop ?_
  rw [Around.under_plainId PyProof.Rows.F.plain_set_update_loop _]
  show wpAny _ A.in1 (pyNext (.ref I) >>= _) _ _ s
  refine wpAny_bind (W.item i s _ _ lt st fun v s' pv st' m => ?_)
  obtain ⟨t, rfl⟩ := hval i v pv
  have x' : metSet prog w val i s'.heap S := x.of_get fun o e => m.heap S _ hSw e
  show wpAny _ A.in1 (holding [Value.int (val i) t] (setAdd S (.int (val i) t)) >>= _) _ _ s'
  refine wpAny_bind (wpAny_holding ?_)
  unfold setAdd
  refine wpAny_holding (wpAny_bind ((intKind prog w).pyHash (k := val i) (intKind_is _ _ _ _) ?_))
  have room : (firstMet val i).length + 1 < scanBound := by have := firstMet_length_le val i; lia
  refine addX (knd := intKind prog w) (s := { s' with toks := s'.toks + 1 }) (intKind_is _ _ _ _) rfl x' room fun h' sb x2 => ?_
  have x3 : metSet prog w val (i + 1) h' S := x2.congr (fun k' => by rw [firstMet_succ, step_any]) (by rw [firstMet_succ, step_length])
  refine wpAny_pure ⟨plainId_quiet PyProof.Rows.F.plain_set_update_loop _, ih (i + 1) _ (by lia) lt (W.frame _ s' _ _ st' (Nat.le_succ _) fun b hb o e => ?_) x3 fun s'' m2 x4 => ?_⟩
  ·rw [sb.2 b (fun z : b = S => hSf (z ▸ hb))]; exact e
  ·refine fin s'' (Moved.trans W.gtrans ((m.mono sub).then_heap (Nat.le_succ _) fun b o hb e => ?_) m2) x4
   rw [sb.2 b (fun z : b = S => hb (z ▸ List.mem_cons_self))]; exact e
end
section
variable {prog : Program} {w : World} {A : Around} {E : Value → Shared → Prop} {s : Shared}
noncomputable abbrev noSet (w : World) : Obj := { cls := .type "set", dict := none, data := .set #[] 0 (.fresh 0 0 (!w.params.followText "set-order")) }
theorem set_new_led (a : Value) {Q : Value → Shared → Prop} (h : Q (.ref s.heap.objs.size) { s with heap := s.heap.push (noSet w) }) :
  codeAny (model prog w) A (.call (.builtin "set.__new__") ⟨[.type "set", a], []⟩) (wants Q E) s := by
 refine codeAny_of_tree ?_
 show wpAny _ A.in1 (do checkBuiltinCall "set.__new__" ⟨[.type "set", a], []⟩; again (.builtin "set.__new__" ⟨[.type "set", a], []⟩)) _ _ s
 refine wpAny_bind (wpAny_of_eq (PySem.F.newCall_set_1 a) (wpAny_pure ⟨plainId_quiet PySem.F.plain_set_new _, codeAny_builtin PySem.F.entry_set_new ?_⟩))
 rw [Around.under_plainId PySem.F.plain_set_new _]
 unfold Builtin.«set.__new__» Builtin.Frozenset.newClass
 have hsub := sub_set_self
 obtain ⟨hp, g, d, tk, os⟩ := s
 dsimp only
 wp_walk
 refine wpAny_askSetting (wpAny_pure ?_)
 dsimp only
 simp only [newObj]
 exact wpAny_bind (wpAny_alloc (wpAny_pure (wpAny_pure h)))
set_option maxHeartbeats 3200000 in
theorem set_of_list {l : Addr} {items : Array Value} {ns : List Int} {Q : Value → Shared → Prop} (hh : A.handled = none) (hl : s.heap.IsList l items) (hi : IntsAre items.toList ns) (hb : items.size + 1 < scanBound)
  (h : ∀ (h' : Heap) (tk : Nat), metSet prog w (fun i => ns.getD i 0) items.size h' s.heap.objs.size → (∀ b o, b < s.heap.objs.size → s.heap.get? b = some o → h'.get? b = some o) → Q (.ref s.heap.objs.size) { s with heap := h', toks := tk }) :
  wpAny (model prog w) A (call (.type "set") [.ref l]) Q E s := by
 obtain ⟨c, tl, hmro⟩ := PySem.F.called_set.mro
 have hmade := PySem.F.called_set.made
 have hsub := PySem.F.called_set.sub
 refine wpAny_call (codeAny_of_tree ?_)
 show wpAny _ _ (callAny (.type "set") _) _ _ _
 refine wpAny_pure ⟨Code.quiet_builtin _ (by decide +kernel), codeAny_builtin PySem.F.entry_type_call ?_⟩
 rw [Around.under_plain (weight_type_call_type "set" [.ref l] []) rfl]
 have h1 := PySem.F.called_set.notType
 have h2 := PySem.F.called_set.canCreate
 have hct := PySem.F.typeCall_set_1 (.ref l)
 repeat (any_goals (first | assumption | wp_step))
 refine codeAny_mono (set_new_led (.ref l) (E := E) (Q := fun obj s₁ => obj = .ref s.heap.objs.size ∧ s₁ = { s with heap := s.heap.push (noSet w) }) ⟨rfl, rfl⟩) fun r s₁ hr => ?_
 cases r with
 | error e => exact hr
 | ok fl =>
  cases fl with
  | ret obj =>
   obtain ⟨rfl, rfl⟩ := hr
   have hS : (s.heap.push (noSet w)).get? s.heap.objs.size = some (noSet w) := Heap.get?_push_size _ rfl
   have hT : Shared.TypeIs { s with heap := s.heap.push (noSet w) } (.ref s.heap.objs.size) "set" := ⟨_, hS, rfl⟩
   have hli := PySem.F.called_set.init.lookup
   have hbi := PySem.F.called_set.init.bind (.ref s.heap.objs.size)
   repeat (any_goals (first | assumption | wp_step))
   refine codeAny_mono (codeAny_call_builtin (R := wants (fun r s₂ => r = .none ∧ ∃ h' tk, s₂ = { s with heap := h', toks := tk } ∧ metSet prog w (fun i => ns.getD i 0) items.size h' s.heap.objs.size ∧
     (∀ b o, b < s.heap.objs.size → s.heap.get? b = some o → h'.get? b = some o)) E) PySem.F.called_set.init.plain PySem.F.entry_set_init (check_set_init_1 hT ?_)) fun r₂ s₂ hr₂ => ?_
   ·obtain ⟨ol, hol, hcl, nl, hdl⟩ := id hl
    have hol' : (s.heap.push (noSet w)).get? l = some ol := Heap.get?_push_of_some _ hol
    have hTl : Shared.TypeIs { s with heap := s.heap.push (noSet w) } (.ref l) "list" := ⟨ol, hol', hcl⟩
    have hsls := PySem.F.sub_list_set
    have hslf := PySem.F.sub_list_frozenset
    have hne : (Value.type "list" == Value.type "dict") = false := by decide
    have hl1 : (s.heap.push (noSet w)).IsList l items := ⟨_, hol', hcl, nl, hdl⟩
    unfold Builtin.«set.__init__» noKeywords Builtin.Frozenset.updateFrom
    generalize hPI : pyIter = PI
    wp_walk
    subst hPI
    refine wpAny_pyIter_list hl1 (wpAny_bind (wpAny_runValue ?_))
    have hlS : l < s.heap.objs.size := Heap.lt_size hol
    have hneI : l ≠ (s.heap.push (noSet w)).objs.size := by rw [Heap.size_push]; exact Nat.ne_of_lt (Nat.lt_succ_of_lt hlS)
    have hSf : s.heap.objs.size ∉ [(s.heap.push (noSet w)).objs.size, l] := by
     rw [Heap.size_push]
     simp only [List.mem_cons, List.not_mem_nil, or_false, not_or]
     exact ⟨Nat.ne_of_lt (Nat.lt_succ_self _), Nat.ne_of_gt hlS⟩
    refine updLoopX ((Walks.list (by simpa using hh) _ l hneI items).toS) s.heap.objs.size hSf (fun i => ns.getD i 0) (fun i v hv => PyProof.Rows.IntsAre.int_at hi i v (by rw [Array.getElem?_toList]; exact hv)) hb (items.size - 0) 0 _ (by lia) (Nat.zero_le _)
     ⟨⟨_, Heap.get?_push_size _ rfl, rfl, rfl⟩, (hl1.push _)⟩ ?hS0 ?hR
    case hS0 =>
     exact ((SetX.new (knd := intKind prog w) s.heap rfl).congr (fun _ => rfl) rfl).of_get fun o e => Heap.get?_push_of_some _ e
    case hR =>
     intro s' m x
     obtain ⟨h', g', d', tk', os'⟩ := s'
     have eg : g' = s.gens := m.gens
     have ed : d' = s.drawn := m.drawn
     have eo : os' = s.os := m.os
     subst eg ed eo
     show wpAny _ _ _ _ _ _
     refine wpAny_pure ?_
     show wpAny _ _ (ret Value.none) _ _ _
     refine wpAny_pure ⟨rfl, h', tk', rfl, x, fun b o q e => ?_⟩
     refine m.heap b o ?_ (Heap.get?_push_of_some _ (Heap.get?_push_of_some _ e))
     simp only [List.mem_cons, List.not_mem_nil, or_false, not_or]
     refine ⟨Nat.ne_of_lt q, ?_⟩
     rw [Heap.size_push]
     exact Nat.ne_of_lt (Nat.lt_succ_of_lt q)
   ·cases r₂ with
    | error e => exact hr₂
    | ok fl₂ =>
     cases fl₂ with
     | ret r =>
      obtain ⟨rfl, h', tk, rfl, x, kp⟩ := hr₂
      repeat (any_goals (first | assumption | wp_step))
      exact h _ _ x kp
     | _ => exact hr₂.elim
  | _ => exact hr.elim
end
end L2
namespace L2
open PySem PySem.W PyProof.Rows
noncomputable def ev {α : Type} (lt : Nat → Nat → Bool) : KasT α → α
 | .ret a => a
 | .ask i j k => ev lt (k (lt i j))
theorem ev_bind {α β : Type} (lt : Nat → Nat → Bool) (f : α → KasT β) : ∀ t : KasT α, ev lt (t.bind f) = ev lt (f (ev lt t))
 | .ret _ => rfl
 | .ask i j k => ev_bind lt f (k (lt i j))
section
variable {r : Nat → Int}
noncomputable abbrev ltR (r : Nat → Int) : Nat → Nat → Bool := fun i j => decide (r i < r j)
noncomputable abbrev ky (r : Nat → Int) (p : Array Nat) (k : Nat) : Int := r (p.getD k 0)
theorem ev_ask {α : Type} (lt : Nat → Nat → Bool) (i j : Nat) (k : Bool → KasT α) : ev lt (.ask i j k) = ev lt (k (lt i j)) := rfl
theorem ltR_t {i j : Nat} (c : r i < r j) : ltR r i j = true := decide_eq_true c
theorem ltR_f {i j : Nat} (c : ¬ r i < r j) : ltR r i j = false := decide_eq_false c
noncomputable def Up (r : Nat → Int) (p : Array Nat) (b : Nat) : Prop := ∀ i, 0 < i → i < b → ky r p (i - 1) ≤ ky r p i
noncomputable def Dn (r : Nat → Int) (p : Array Nat) (b : Nat) : Prop := ∀ i, 0 < i → i < b → ky r p i ≤ ky r p (i - 1)
noncomputable def Eqs (r : Nat → Int) (p : Array Nat) (a b : Nat) : Prop := ∀ i, a < i → i < b → ky r p i = ky r p (i - 1)
theorem Up.mono {p : Array Nat} {b : Nat} (h : Up r p b) : ∀ i j, i ≤ j → j < b → ky r p i ≤ ky r p j := by
  intro i j hij hj
  induction j with
  | zero => have : i = 0 := by lia
            subst this; exact Int.le_refl _
  | succ j ih =>
    rcases Nat.lt_or_eq_of_le hij with q | q
    · exact Int.le_trans (ih (by lia) (by lia)) (h (j + 1) (by lia) hj)
    · rw [q]; exact Int.le_refl _
theorem Dn.mono {p : Array Nat} {b : Nat} (h : Dn r p b) : ∀ i j, i ≤ j → j < b → ky r p j ≤ ky r p i := by
  intro i j hij hj
  induction j with
  | zero => have : i = 0 := by lia
            subst this; exact Int.le_refl _
  | succ j ih =>
    rcases Nat.lt_or_eq_of_le hij with q | q
    · exact Int.le_trans (h (j + 1) (by lia) hj) (ih (by lia) (by lia))
    · rw [q]; exact Int.le_refl _
theorem Eqs.all {p : Array Nat} {a b : Nat} (h : Eqs r p a b) : ∀ i, a ≤ i → i < b → ky r p i = ky r p a := by
  intro i hi hb
  induction i with
  | zero => have : a = 0 := by lia
            subst this; rfl
  | succ i ih =>
    rcases Nat.lt_or_eq_of_le hi with q | q
    · rw [h (i + 1) q hb]; exact ih (by lia) (by lia)
    · rw [q]
theorem getD_rev {p : Array Nat} {i j : Nat} (hj : j ≤ p.size) (k : Nat) : (kas_rev p i j).getD k 0 = if i ≤ k ∧ k < j then p.getD (i + j - 1 - k) 0 else p.getD k 0 := by
 unfold kas_rev
 have e := getElem?_mirror (xs := p) (i := i) hj ((j - i) / 2) (by lia) k
 rw [Array.getD_eq_getD_getElem?, e]
 by_cases c : i ≤ k ∧ k < j
 ·rw [if_pos c]
  by_cases d : i ≤ k ∧ k < i + (j - i) / 2 ∨ j - (j - i) / 2 ≤ k ∧ k < j
  ·rw [if_pos d, Array.getD_eq_getD_getElem?]
  ·rw [if_neg d]
   have : i + j - 1 - k = k := by lia
   rw [this, Array.getD_eq_getD_getElem?]
 ·rw [if_neg c, if_neg (by lia), Array.getD_eq_getD_getElem?]
theorem rev_eqs {p : Array Nat} {i j : Nat} (hj : j ≤ p.size) (h : Eqs r p i j) (k : Nat) : ky r (kas_rev p i j) k = ky r p k := by
 show r _ = r _
 rw [getD_rev hj]
 by_cases c : i ≤ k ∧ k < j
 ·rw [if_pos c]
  have e1 : ky r p (i + j - 1 - k) = ky r p i := h.all _ (by lia) (by lia)
  have e2 : ky r p k = ky r p i := h.all _ c.1 c.2
  exact e1.trans e2.symm
 ·rw [if_neg c]
theorem rev_size (p : Array Nat) (i j : Nat) : (kas_rev p i j).size = p.size := mirror_size _ _ _ _
theorem rev_perm (p : Array Nat) (i j : Nat) : (kas_rev p i j).Perm p := mirror_perm _ _ _ _
theorem ev_asc (p : Array Nat) : ∀ f n, 1 ≤ n → Up r p n → n ≤ ev (ltR r) (kas_asc p f n) ∧ ev (ltR r) (kas_asc p f n) ≤ n + f ∧ Up r p (ev (ltR r) (kas_asc p f n)) ∧
  (ev (ltR r) (kas_asc p f n) < n + f → ky r p (ev (ltR r) (kas_asc p f n)) < ky r p (ev (ltR r) (kas_asc p f n) - 1)) := by
 intro f
 induction f with
 | zero => intro n h1 h; exact ⟨Nat.le_refl _, Nat.le_refl _, h, fun q => absurd q (Nat.lt_irrefl _)⟩
 | succ f ih =>
  intro n h1 h
  unfold kas_asc
  rw [ev_ask]
  by_cases c : r (p.getD n 0) < r (p.getD (n - 1) 0)
  ·rw [ltR_t c, if_pos rfl]
   exact ⟨Nat.le_refl _, by show n ≤ n + (f + 1); lia, h, fun _ => c⟩
  ·rw [ltR_f c, if_neg (by simp)]
   obtain ⟨q1, q2, q3, q4⟩ := ih (n + 1) (by lia) (fun i hi hb => by
    rcases Nat.lt_or_eq_of_le (Nat.le_of_lt_succ hb) with z | z
    ·exact h i hi z
    ·subst z; exact Int.not_lt.mp c)
   exact ⟨by lia, by lia, q3, fun z => q4 (by lia)⟩
theorem ev_desc : ∀ (f : Nat) (p : Array Nat) (n q : Nat), q < n → n + f ≤ p.size → Dn r p n → Eqs r p (n - (q + 1)) n →
  ∃ p' n' q', ev (ltR r) (kas_desc f p n q) = (p', n', q') ∧ q' < n' ∧ n ≤ n' ∧ n' ≤ n + f ∧ p'.size = p.size ∧ p'.Perm p ∧ Dn r p' n' ∧ Eqs r p' (n' - (q' + 1)) n' := by
 intro f
 induction f with
 | zero => intro p n q hq hz hd he; exact ⟨p, n, q, rfl, hq, Nat.le_refl _, Nat.le_refl _, rfl, Array.Perm.refl _, hd, he⟩
 | succ f ih =>
  intro p n q hq hz hd he
  unfold kas_desc
  rw [ev_ask]
  by_cases c : r (p.getD n 0) < r (p.getD (n - 1) 0)
  ·rw [ltR_t c, if_pos rfl]
   have step : ∀ p1 : Array Nat, p1.size = p.size → p1.Perm p → (∀ k, ky r p1 k = ky r p k) → ∃ p' n' q', ev (ltR r) (kas_desc f p1 (n + 1) 0) = (p', n', q') ∧ q' < n' ∧ n ≤ n' ∧ n' ≤ n + (f + 1) ∧ p'.size = p.size ∧ p'.Perm p ∧ Dn r p' n' ∧ Eqs r p' (n' - (q' + 1)) n' := fun p1 s1 pm hk => by
    obtain ⟨p', n', q', e, a1, a2, a3, a4, a5, a6, a7⟩ := ih p1 (n + 1) 0 (by lia) (by lia) (fun i hi hb => by
     rw [hk, hk]
     rcases Nat.lt_or_eq_of_le (Nat.le_of_lt_succ hb) with z | z
     ·exact hd i hi z
     ·subst z; exact Int.le_of_lt c) (fun i hi hb => by lia)
    exact ⟨p', n', q', e, a1, by lia, by lia, a4.trans s1, a5.trans pm, a6, a7⟩
   by_cases cq : q > 0
   ·rw [if_pos cq]
    exact step _ (rev_size _ _ _) (rev_perm _ _ _) (rev_eqs (by lia) he)
   ·rw [if_neg cq]
    exact step p rfl (Array.Perm.refl _) fun _ => rfl
  ·rw [ltR_f c, if_neg (by simp)]
   rw [ev_ask]
   by_cases d : r (p.getD (n - 1) 0) < r (p.getD n 0)
   ·rw [ltR_t d, if_pos rfl]
    exact ⟨p, n, q, rfl, hq, Nat.le_refl _, by lia, rfl, Array.Perm.refl _, hd, he⟩
   ·rw [ltR_f d, if_neg (by simp)]
    have eqn : ky r p n = ky r p (n - 1) := Int.le_antisymm (Int.not_lt.mp d) (Int.not_lt.mp c)
    obtain ⟨p', n', q', e, a1, a2, a3, a4, a5, a6, a7⟩ := ih p (n + 1) (q + 1) (by lia) (by lia) (fun i hi hb => by
     rcases Nat.lt_or_eq_of_le (Nat.le_of_lt_succ hb) with z | z
     ·exact hd i hi z
     ·subst z; exact Int.le_of_eq eqn) (fun i hi hb => by
     rcases Nat.lt_or_eq_of_le (Nat.le_of_lt_succ hb) with z | z
     ·exact he i (by lia) z
     ·subst z; exact eqn)
    exact ⟨p', n', q', e, a1, by lia, by lia, a4, a5, a6, a7⟩
noncomputable def Run (r : Nat → Int) (p : Array Nat) (nrem : Nat) (x : Nat × Array Nat) : Prop := x.1 ≤ nrem ∧ 1 ≤ x.1 ∧ x.2.size = p.size ∧ x.2.Perm p ∧ Up r x.2 x.1
theorem ev_tail3 {p : Array Nat} {n nrem : Nat} (h1 : 1 ≤ n) (hn : n ≤ nrem) (hz : nrem ≤ p.size) (hd : Dn r p n) : Run r p nrem (ev (ltR r) (kas_tail3 n nrem p)) := by
 unfold kas_tail3
 rw [ev_bind]
 have hu : Up r (kas_rev p 0 n) n := fun i hi hb => by
  show r _ ≤ r _
  rw [getD_rev (by lia), getD_rev (by lia), if_pos (by lia), if_pos (by lia)]
  exact hd.mono (0 + n - 1 - i) (0 + n - 1 - (i - 1)) (by lia) (by lia)
 obtain ⟨a1, a2, a3, _⟩ := ev_asc (kas_rev p 0 n) (nrem - n) n h1 hu
 exact ⟨by show ev (ltR r) _ ≤ _; lia, by show 1 ≤ ev (ltR r) _; lia, rev_size _ _ _, rev_perm _ _ _, a3⟩
theorem Run.of {p p1 : Array Nat} {nrem : Nat} {x : Nat × Array Nat} (h : Run r p1 nrem x) (s : p1.size = p.size) (m : p1.Perm p) : Run r p nrem x := ⟨h.1, h.2.1, h.2.2.1.trans s, h.2.2.2.1.trans m, h.2.2.2.2⟩
theorem ev_descPart {p : Array Nat} {n nrem : Nat} (hn : n + 1 ≤ nrem) (hz : nrem ≤ p.size) (hd : Dn r p (n + 1)) : Run r p nrem (ev (ltR r) (kas_descPart n nrem p)) := by
 unfold kas_descPart
 rw [ev_bind]
 obtain ⟨p', n', q', e, a1, a2, a3, a4, a5, a6, a7⟩ := ev_desc (nrem - (n + 1)) p (n + 1) 0 (by lia) (by lia) hd (fun i hi hb => by lia)
 rw [e]
 dsimp only
 by_cases c : q' > 0
 ·rw [if_pos c]
  have k := rev_eqs (r := r) (by lia) a7
  exact (ev_tail3 (p := kas_rev p' (n' - (q' + 1)) n') (by lia) (by lia) (by rw [rev_size]; lia) (fun i hi hb => by rw [k, k]; exact a6 i hi hb)).of ((rev_size _ _ _).trans a4) ((rev_perm _ _ _).trans a5)
 ·rw [if_neg c]
  exact (ev_tail3 (p := p') (by lia) (by lia) (by lia) a6).of a4 a5
theorem ev_count {p : Array Nat} {nrem : Nat} (h1 : 1 ≤ nrem) (hz : nrem ≤ p.size) : Run r p nrem (ev (ltR r) (kas_count nrem p)) := by
 unfold kas_count
 rw [ev_bind]
 obtain ⟨a1, a2, a3, a4⟩ := ev_asc (r := r) p (nrem - 1) 1 (Nat.le_refl _) (fun i hi hb => by lia)
 generalize ev (ltR r) (kas_asc p (nrem - 1) 1) = n at *
 by_cases c : (n == nrem) = true
 ·rw [if_pos c]
  exact ⟨by show n ≤ nrem; lia, a1, rfl, Array.Perm.refl _, a3⟩
 ·rw [if_neg c]
  have hne : n ≠ nrem := by simpa using c
  have stop := a4 (by lia)
  by_cases c2 : n > 1
  ·rw [if_pos c2]
   rw [ev_ask]
   by_cases d : r (p.getD 0 0) < r (p.getD (n - 1) 0)
   ·rw [ltR_t d, if_pos rfl]
    exact ⟨by show n ≤ nrem; lia, a1, rfl, Array.Perm.refl _, a3⟩
   ·rw [ltR_f d, if_neg (by simp)]
    have eqs : Eqs r p 0 n := fun i hi hb => by
     have q1 := a3.mono 0 (i - 1) (by lia) (by lia)
     have q2 := a3.mono (i - 1) i (by lia) hb
     have q3 := a3.mono i (n - 1) (by lia) (by lia)
     have q4 : ky r p (n - 1) ≤ ky r p 0 := Int.not_lt.mp d
     lia
    have k := rev_eqs (r := r) (by lia) eqs
    refine (ev_descPart (p := kas_rev p 0 n) (by lia) (by rw [rev_size]; exact hz) (fun i hi hb => ?_)).of (rev_size _ _ _) (rev_perm _ _ _)
    rw [k, k]
    rcases Nat.lt_or_eq_of_le (Nat.le_of_lt_succ hb) with z | z
    ·exact Int.le_of_eq (eqs i hi z)
    ·subst z; exact Int.le_of_lt stop
  ·rw [if_neg c2]
   obtain rfl : n = 1 := by lia
   exact ev_descPart (by lia) hz (fun i hi hb => by
    obtain rfl : i = 1 := by lia
    exact Int.le_of_lt stop)
theorem ev_place {p : Array Nat} {k : Nat} (hu : Up r p k) : ∀ f l m, m - l ≤ f → l ≤ m → m ≤ k → (∀ i, i < l → ky r p i ≤ ky r p k) → (∀ i, m ≤ i → i < k → ky r p k < ky r p i) →
  ev (ltR r) (kas_place p k f l m) ≤ k ∧ (∀ i, i < ev (ltR r) (kas_place p k f l m) → ky r p i ≤ ky r p k) ∧ ∀ i, ev (ltR r) (kas_place p k f l m) ≤ i → i < k → ky r p k < ky r p i := by
 intro f
 induction f with
 | zero =>
  intro l m h1 h2 h3 h4 h5
  obtain rfl : l = m := by lia
  exact ⟨h3, h4, h5⟩
 | succ f ih =>
  intro l m h1 h2 h3 h4 h5
  unfold kas_place
  by_cases c : l ≥ m
  ·rw [if_pos c]
   obtain rfl : l = m := by lia
   exact ⟨h3, h4, h5⟩
  ·rw [if_neg c]
   rw [ev_ask]
   by_cases d : r (p.getD k 0) < r (p.getD ((l + m) / 2) 0)
   ·rw [ltR_t d, if_pos rfl]
    refine ih l ((l + m) / 2) (by lia) (by lia) (by lia) h4 (fun i hi hb => ?_)
    exact Int.lt_of_lt_of_le d (hu.mono _ i hi hb)
   ·rw [ltR_f d, if_neg (by simp)]
    refine ih ((l + m) / 2 + 1) m (by lia) (by lia) h3 (fun i hi => ?_) h5
    exact Int.le_trans (hu.mono i ((l + m) / 2) (by lia) (by lia)) (Int.not_lt.mp d)
theorem getD_bubble {p : Array Nat} {k l : Nat} (hk : k < p.size) (hl : l ≤ k) (i : Nat) : (bubble p k (k - l)).getD i 0 = if i = l then p.getD k 0 else if l < i ∧ i ≤ k then p.getD (i - 1) 0 else p.getD i 0 := by
 have e := getElem?_bubble hk (k - l) (by lia) i
 rw [show k - (k - l) = l by lia] at e
 rw [Array.getD_eq_getD_getElem?, e]
 by_cases c1 : i = l
 ·rw [if_pos c1, if_pos c1, Array.getD_eq_getD_getElem?]
 ·rw [if_neg c1, if_neg c1]
  by_cases c2 : l < i ∧ i ≤ k
  ·rw [if_pos c2, if_pos c2, Array.getD_eq_getD_getElem?]
  ·rw [if_neg c2, if_neg c2, Array.getD_eq_getD_getElem?]
theorem ev_bin : ∀ (f : Nat) (p : Array Nat) (k : Nat), k + f ≤ p.size → Up r p k → (ev (ltR r) (kas_bin f p k)).Perm p ∧ Up r (ev (ltR r) (kas_bin f p k)) (k + f) := by
 intro f
 induction f with
 | zero => intro p k hz hu; exact ⟨Array.Perm.refl _, hu⟩
 | succ f ih =>
  intro p k hz hu
  unfold kas_bin
  rw [ev_bind]
  obtain ⟨b1, b2, b3⟩ := ev_place hu k 0 k (by lia) (by lia) (Nat.le_refl _) (fun i hi => absurd hi (by lia)) (fun i hi hb => absurd hb (by lia))
  generalize ev (ltR r) (kas_place p k k 0 k) = l at *
  have hk : k < p.size := by lia
  obtain ⟨c1, c2⟩ := ih (bubble p k (k - l)) (k + 1) (by rw [bubble_size]; lia) (fun i hi hb => by
   show r _ ≤ r _
   rw [getD_bubble hk b1, getD_bubble hk b1]
   by_cases e1 : i - 1 = l
   ·rw [if_pos e1, if_neg (show ¬ i = l by lia), if_pos (by lia)]
    have := b3 (i - 1) (by lia) (by lia)
    exact Int.le_of_lt this
   ·rw [if_neg e1]
    by_cases e2 : i = l
    ·rw [if_pos e2, if_neg (by lia)]
     exact b2 (i - 1) (by lia)
    ·rw [if_neg e2]
     by_cases e3 : l < i
     ·rw [if_pos (by lia), if_pos (by lia)]
      exact hu (i - 1) (by lia) (by lia)
     ·rw [if_neg (by lia), if_neg (by lia)]
      exact hu i hi (by lia))
  exact ⟨c1.trans (bubble_perm _ _ _), by rw [show k + (f + 1) = k + 1 + f by lia]; exact c2⟩
theorem ev_sort {n : Nat} (hn : 1 ≤ n) : (ev (ltR r) (kas_sort n)).Perm (List.range n).toArray ∧ Up r (ev (ltR r) (kas_sort n)) n := by
 unfold kas_sort
 rw [ev_bind]
 obtain ⟨h1, h2, h3, h4, h5⟩ := ev_count (r := r) (p := (List.range n).toArray) (nrem := n) hn (by simp)
 generalize ev (ltR r) (kas_count n (List.range n).toArray) = x at *
 have hs : x.2.size = n := by rw [h3]; simp
 by_cases c : x.1 < n
 ·rw [if_pos c]
  have hm : max x.1 1 = x.1 := by lia
  rw [hm]
  obtain ⟨c1, c2⟩ := ev_bin (r := r) (n - x.1) x.2 x.1 (by lia) h5
  rw [show x.1 + (n - x.1) = n by lia] at c2
  exact ⟨c1.trans h4, c2⟩
 ·rw [if_neg c]
  have : x.1 = n := by lia
  rw [this] at h5
  exact ⟨h4, h5⟩
noncomputable def Asks {α : Type} (lt : Nat → Nat → Bool) (n : Nat) : KasT α → Prop
 | .ret _ => True
 | .ask i j k => i < n ∧ j < n ∧ Asks lt n (k (lt i j))
theorem Asks.bind {α β : Type} {lt : Nat → Nat → Bool} {n : Nat} {f : α → KasT β} : ∀ {t : KasT α}, Asks lt n t → Asks lt n (f (ev lt t)) → Asks lt n (t.bind f)
 | .ret _, _, h => h
 | .ask i j k, h, h' => ⟨h.1, h.2.1, Asks.bind (t := k (lt i j)) h.2.2 h'⟩
noncomputable def InN (n : Nat) (p : Array Nat) : Prop := 0 < n ∧ ∀ x ∈ p.toList, x < n
theorem InN.at {n : Nat} {p : Array Nat} (h : InN n p) (k : Nat) : p.getD k 0 < n := by
 rw [Array.getD_eq_getD_getElem?]
 cases e : p[k]? with
 | none => exact h.1
 | some x => exact h.2 x (by rw [Array.mem_toList_iff]; exact Array.mem_of_getElem? e)
theorem InN.perm {n : Nat} {p p' : Array Nat} (h : InN n p) (m : p'.Perm p) : InN n p' := ⟨h.1, fun x hx => h.2 x (by
 rw [Array.mem_toList_iff] at hx ⊢
 exact (Array.Perm.mem_iff m).mp hx)⟩
variable {n₀ : Nat}
theorem asks_asc {p : Array Nat} (h : InN n₀ p) : ∀ f n, Asks (ltR r) n₀ (kas_asc p f n)
 | 0, _ => True.intro
 | f + 1, n => by
  unfold kas_asc
  refine ⟨h.at _, h.at _, ?_⟩
  dsimp only
  split
  ·exact True.intro
  ·exact asks_asc h f (n + 1)
theorem asks_desc : ∀ (f : Nat) {p : Array Nat} (n q : Nat), InN n₀ p → Asks (ltR r) n₀ (kas_desc f p n q)
 | 0, _, _, _, _ => True.intro
 | f + 1, p, n, q, h => by
  unfold kas_desc
  refine ⟨h.at _, h.at _, ?_⟩
  dsimp only
  split
  ·split
   ·exact asks_desc f _ _ (h.perm (rev_perm _ _ _))
   ·exact asks_desc f _ _ h
  ·refine ⟨h.at _, h.at _, ?_⟩
   dsimp only
   split
   ·exact True.intro
   ·exact asks_desc f _ _ h
theorem desc_perm : ∀ (f : Nat) (p : Array Nat) (n q : Nat), (ev (ltR r) (kas_desc f p n q)).1.Perm p
 | 0, p, _, _ => Array.Perm.refl _
 | f + 1, p, n, q => by
  unfold kas_desc
  rw [ev_ask]
  split
  ·split
   ·exact (desc_perm f _ _ _).trans (rev_perm _ _ _)
   ·exact desc_perm f _ _ _
  ·rw [ev_ask]
   split
   ·exact Array.Perm.refl _
   ·exact desc_perm f _ _ _
theorem asks_tail3 {p : Array Nat} (n nrem : Nat) (h : InN n₀ p) : Asks (ltR r) n₀ (kas_tail3 n nrem p) := (asks_asc (h.perm (rev_perm _ _ _)) _ _).bind True.intro
theorem asks_descPart {p : Array Nat} (n nrem : Nat) (h : InN n₀ p) : Asks (ltR r) n₀ (kas_descPart n nrem p) := by
 refine (asks_desc _ _ _ h).bind ?_
 have pm := desc_perm (r := r) (nrem - (n + 1)) p (n + 1) 0
 split
 ·exact asks_tail3 _ _ ((h.perm pm).perm (rev_perm _ _ _))
 ·exact asks_tail3 _ _ (h.perm pm)
theorem asks_count {p : Array Nat} (nrem : Nat) (h : InN n₀ p) : Asks (ltR r) n₀ (kas_count nrem p) := by
 refine (asks_asc h _ _).bind ?_
 split
 ·exact True.intro
 ·split
  ·refine ⟨h.at _, h.at _, ?_⟩
   dsimp only
   split
   ·exact True.intro
   ·exact asks_descPart _ _ (h.perm (rev_perm _ _ _))
  ·exact asks_descPart _ _ h
theorem asks_place {p : Array Nat} {k : Nat} (h : InN n₀ p) : ∀ f l m, Asks (ltR r) n₀ (kas_place p k f l m)
 | 0, _, _ => True.intro
 | f + 1, l, m => by
  unfold kas_place
  split
  ·exact True.intro
  ·refine ⟨h.at _, h.at _, ?_⟩
   dsimp only
   split
   ·exact asks_place h f _ _
   ·exact asks_place h f _ _
theorem asks_bin : ∀ (f : Nat) {p : Array Nat} (k : Nat), InN n₀ p → Asks (ltR r) n₀ (kas_bin f p k)
 | 0, _, _, _ => True.intro
 | f + 1, p, k, h => (asks_place h _ _ _).bind (asks_bin f _ (h.perm (bubble_perm _ _ _)))
theorem asks_sort {n : Nat} (hn : 1 ≤ n) : Asks (ltR r) n (kas_sort n) := by
 have h : InN n (List.range n).toArray := ⟨hn, fun x hx => by simpa using hx⟩
 refine (asks_count n h).bind ?_
 obtain ⟨h1, h2, h3, h4, h5⟩ := ev_count (r := r) (p := (List.range n).toArray) (nrem := n) hn (by simp)
 split
 ·exact asks_bin _ _ (h.perm h4)
 ·exact True.intro
theorem wp_ev {cmp : Nat → Nat → (Bool → Shared → Prop) → Shared → Prop} {J : Shared → Prop} {n : Nat} {lt : Nat → Nat → Bool} {α : Type} (hc : ∀ i j C s, i < n → j < n → J s → (∀ s', J s' → C (lt i j) s') → cmp i j C s) :
  ∀ (t : KasT α) (s : Shared) (Q : α → Shared → Prop), Asks lt n t → J s → (∀ s', J s' → Q (ev lt t) s') → t.kasWp cmp Q s
 | .ret a, s, Q, _, hJ, h => h s hJ
 | .ask i j k, s, Q, ha, hJ, h => hc i j _ s ha.1 ha.2.1 hJ fun s' hJ' => wp_ev hc (k (lt i j)) s' Q ha.2.2 hJ' h
theorem sort_out {α : Type} {xs : List α} {r : Nat → Int} {p : Array Nat} (hp : p.Perm (List.range xs.length).toArray) (hu : Up r p xs.length) (d : α) (key : α → Int) (hk : ∀ i, i < xs.length → r i = key (xs.getD i d)) :
  (p.toList.map fun i => xs.getD i d).Perm xs ∧ (p.toList.map fun i => xs.getD i d).Pairwise (fun a b => key a ≤ key b) := by
 have hpl : p.toList.Perm (List.range xs.length) := by simpa using Array.perm_iff_toList_perm.mp hp
 have hlen : p.toList.length = xs.length := by simpa using hpl.length_eq
 constructor
 ·refine (hpl.map _).trans ?_
  have : (List.range xs.length).map (fun i => xs.getD i d) = xs := by
   apply List.ext_getElem
   ·simp
   ·intro i h1 h2
    simp [List.getD, h2]
  rw [this]
 ·rw [List.pairwise_iff_getElem]
  intro i j hi hj hij
  rw [List.length_map] at hi hj
  rw [List.getElem_map, List.getElem_map]
  have m : ∀ k (hk : k < p.toList.length), p.toList[k] < xs.length := fun k hk => by
   have := hpl.mem_iff.mp (List.getElem_mem hk)
   simpa using this
  rw [← hk _ (m i hi), ← hk _ (m j hj)]
  have q := hu.mono i j (by lia) (by lia)
  have e : ∀ k (hk : k < p.toList.length), p.getD k 0 = p.toList[k] := fun k hk => by
   have hk' : k < p.size := by simpa using hk
   simp [Array.getD, hk']
  rw [ky, ky, e i hi, e j hj] at q
  exact q
end
end L2
namespace L2
open PySem PySem.Spec PyProof.Rows
noncomputable def insU (x : Int) : List Int → List Int
 | [] => [x]
 | y :: r => if x < y then x :: y :: r else if x = y then y :: r else y :: insU x r
noncomputable def sortU (ns : List Int) : List Int := ns.foldr insU []
theorem mem_insU (x k : Int) : ∀ l : List Int, k ∈ insU x l ↔ k = x ∨ k ∈ l
 | [] => by simp [insU]
 | y :: r => by
  unfold insU
  split
  ·simp
  ·split
   ·rename_i h; subst h; simp
   ·rw [List.mem_cons, mem_insU x k r, List.mem_cons]
    constructor
    ·rintro (h | h | h)
     ·exact .inr (.inl h)
     ·exact .inl h
     ·exact .inr (.inr h)
    ·rintro (h | h | h)
     ·exact .inr (.inl h)
     ·exact .inl h
     ·exact .inr (.inr h)
theorem rise_insU (x : Int) : ∀ l : List Int, l.Pairwise (· < ·) → (insU x l).Pairwise (· < ·)
 | [], _ => by simp [insU]
 | y :: r, h => by
  rw [List.pairwise_cons] at h
  unfold insU
  split
  ·rename_i hlt
   rw [List.pairwise_cons, List.pairwise_cons]
   refine ⟨fun a ha => ?_, h⟩
   rcases List.mem_cons.mp ha with rfl | ha
   ·exact hlt
   ·exact Int.lt_trans hlt (h.1 a ha)
  ·split
   ·rw [List.pairwise_cons]; exact h
   ·rename_i h1 h2
    rw [List.pairwise_cons]
    refine ⟨fun a ha => ?_, rise_insU x r h.2⟩
    rcases (mem_insU x a r).mp ha with rfl | ha
    ·lia
    ·exact h.1 a ha
theorem mem_sortU (k : Int) : ∀ ns : List Int, k ∈ sortU ns ↔ k ∈ ns
 | [] => Iff.rfl
 | x :: r => by
  show k ∈ insU x (sortU r) ↔ _
  rw [mem_insU, mem_sortU k r, List.mem_cons]
theorem rise_sortU : ∀ ns : List Int, (sortU ns).Pairwise (· < ·)
 | [] => List.Pairwise.nil
 | x :: r => rise_insU x _ (rise_sortU r)
theorem nodup_of_rise {l : List Int} (h : l.Pairwise (· < ·)) : l.Nodup := h.imp fun {a b} q e => by rw [e] at q; exact Int.lt_irrefl _ q
theorem perm_of_sub : ∀ (l1 l2 : List Int), l1.Nodup → (∀ x ∈ l1, x ∈ l2) → l2.length ≤ l1.length → l1.Perm l2
 | [], l2, _, _, h => by
  have : l2 = [] := List.eq_nil_of_length_eq_zero (by simpa using h)
  subst this; exact List.Perm.refl _
 | a :: r, l2, hn, hs, hl => by
  rw [List.nodup_cons] at hn
  have ha := hs a List.mem_cons_self
  have p := List.perm_cons_erase ha
  refine ((perm_of_sub r (l2.erase a) hn.2 (fun x hx => ?_) ?_).cons a).trans p.symm
  ·have hne : x ≠ a := fun e => hn.1 (e ▸ hx)
   exact (List.mem_erase_of_ne hne).mpr (hs x (List.mem_cons_of_mem _ hx))
  ·have := p.length_eq
   rw [List.length_cons] at this hl
   lia
theorem rise_ext : ∀ {l1 l2 : List Int}, l1.Pairwise (· < ·) → l2.Pairwise (· < ·) → (∀ k, k ∈ l1 ↔ k ∈ l2) → l1 = l2
 | [], [], _, _, _ => rfl
 | [], b :: r, _, _, h => absurd ((h b).mpr List.mem_cons_self) (by simp)
 | a :: r, [], _, _, h => absurd ((h a).mp List.mem_cons_self) (by simp)
 | a :: r, b :: t, h1, h2, h => by
  rw [List.pairwise_cons] at h1 h2
  have e : a = b := by
   rcases List.mem_cons.mp ((h a).mp List.mem_cons_self) with q | q
   ·exact q
   ·rcases List.mem_cons.mp ((h b).mpr List.mem_cons_self) with q' | q'
    ·exact q'.symm
    ·have z1 := h2.1 a q
     have z2 := h1.1 b q'
     lia
  subst e
  have : r = t := rise_ext h1.2 h2.2 fun k => by
   have q := h k
   rw [List.mem_cons, List.mem_cons] at q
   constructor
   ·intro hk
    rcases q.mp (.inr hk) with e | z
    ·have := h1.1 k hk; lia
    ·exact z
   ·intro hk
    rcases q.mpr (.inr hk) with e | z
    ·have := h2.1 k hk; lia
    ·exact z
  rw [this]
theorem sorted_is {ns' ns : List Int} (hp : ns'.Pairwise (· ≤ ·)) (hm : ∀ k, k ∈ ns' ↔ k ∈ ns) (hl : ns'.length = (sortU ns).length) : ns' = sortU ns := by
 have pm := perm_of_sub (sortU ns) ns' (nodup_of_rise (rise_sortU ns)) (fun x hx => (hm x).mpr ((mem_sortU x ns).mp hx)) (Nat.le_of_eq hl)
 have nd : ns'.Nodup := pm.nodup_iff.mp (nodup_of_rise (rise_sortU ns))
 refine rise_ext ((hp.and nd).imp fun {a b} q => ?_) (rise_sortU ns) fun k => by rw [hm, mem_sortU]
 have := q.1
 have := q.2
 lia
theorem firstMet_mem (ns : List Int) (k : Int) : (firstMet (fun i => ns.getD i 0) ns.length).any (· == k) = decide (k ∈ ns) := by
 rw [firstMet_any]
 have e : (List.range ns.length).map (fun i => ns.getD i 0) = ns := by
  apply List.ext_getElem
  ·simp
  ·intro i h1 h2
   simp [List.getD, h2]
 rw [e, Bool.eq_iff_iff, List.any_eq_true, decide_eq_true_iff]
 constructor
 ·rintro ⟨x, hx, q⟩
  rw [← eq_of_beq q]; exact hx
 ·intro h
  exact ⟨k, h, beq_self_eq_true k⟩
theorem firstMet_nodup (val : Nat → Int) : ∀ i, (firstMet val i).Nodup
 | 0 => List.nodup_nil
 | i + 1 => by
  rw [firstMet_succ]
  unfold step_dedup
  have ih := firstMet_nodup val i
  by_cases h : (firstMet val i).any (· == val i) = true
  ·rw [if_pos h]; exact ih
  ·rw [if_neg h, List.nodup_append]
   refine ⟨ih, by simp, fun a ha b hb e => h ?_⟩
   rw [List.mem_singleton] at hb
   rw [List.any_eq_true]
   exact ⟨a, ha, by rw [e, hb]; exact beq_self_eq_true _⟩
theorem firstMet_len (ns : List Int) : (firstMet (fun i => ns.getD i 0) ns.length).length = (sortU ns).length := by
 have m : ∀ k, k ∈ firstMet (fun i => ns.getD i 0) ns.length ↔ k ∈ ns := fun k => by
  have := firstMet_mem ns k
  rw [Bool.eq_iff_iff, List.any_eq_true, decide_eq_true_iff] at this
  rw [← this]
  exact ⟨fun h => ⟨k, h, beq_self_eq_true k⟩, fun ⟨x, hx, q⟩ => by rw [← eq_of_beq q]; exact hx⟩
 have n1 := firstMet_nodup (fun i => ns.getD i 0) ns.length
 have n2 := nodup_of_rise (rise_sortU ns)
 rcases Nat.le_total (firstMet (fun i => ns.getD i 0) ns.length).length (sortU ns).length with h | h
 ·exact (perm_of_sub (sortU ns) _ n2 (fun x hx => (m x).mpr ((mem_sortU x ns).mp hx)) h).length_eq.symm
 ·exact (perm_of_sub _ (sortU ns) n1 (fun x hx => (mem_sortU x ns).mpr ((m x).mp hx)) h).length_eq
theorem sortU_len (ns : List Int) : (sortU ns).length ≤ ns.length := by
  induction ns with
  | nil => exact Nat.le_refl _
  | cons x r ih =>
    have : ∀ l : List Int, (insU x l).length ≤ l.length + 1 := by
      intro l
      induction l with
      | nil => simp [insU]
      | cons y t ih => unfold insU; split <;> try split
                       all_goals simp only [List.length_cons]
                       all_goals lia
    have q := this (sortU r)
    show (insU x (sortU r)).length ≤ _
    rw [List.length_cons]
    lia
section
variable {X : Cx}
noncomputable def SetO (X : Cx) (l : Addr) (ns : List Int) : HO := .ext fun h => SetX (intKind X.prog X.w) h l (fun k => decide (k ∈ ns)) (sortU ns).length
theorem call_set_ints (hc : X.calm = true) : CallR X (.type "set") (fun xs H Q => ∃ (p : Addr) (ns : List Int), xs = [.ref p] ∧ SqL X.K H p (ns.map V.int) ∧ ns.length < 4000 ∧ ∀ l, H l = none → Q (.ref l) (upd H l (SetO X l ns))) := by
 intro pins s σ H xs us Q I r h
 obtain ⟨p, ns, rfl, hq, hlt, q⟩ := h
 obtain ⟨u, rfl, rx⟩ := vals1 r
 cases rx
 obtain ⟨its, r', pl, hz⟩ := I.list hq
 have hi : IntsAre its ns := intsAre_of r'
 have hlen : its.length = ns.length := hi.length
 refine set_of_list (I.ok.hd hc) pl.isList (ns := ns) (by simpa using hi) (by show its.toArray.size + 1 < 4096; rw [List.size_toArray]; lia) fun h' tk x kp => ?_
 have x' : SetX (intKind X.prog X.w) h' s.heap.objs.size (fun k => decide (k ∈ ns)) (sortU ns).length := x.congr (fun k => by
  rw [List.size_toArray, hlen]; exact firstMet_mem ns k) (by rw [List.size_toArray, hlen]; exact firstMet_len ns)
 have he : ∃ o, h'.get? s.heap.objs.size = some o := let ⟨o, _, _, _, e, _⟩ := x'; ⟨o, e⟩
 exact ⟨.ref s.heap.objs.size, _, I.laid (t' := tk) (o := SetO X s.heap.objs.size ns) (fun b o e => kp b o (Heap.lt_size e) e) (Nat.le_refl _) ⟨x', he, fun h1 h2 y k => y.of_get k⟩, rfl, q _ (I.hok.fresh (Nat.le_refl _))⟩
theorem setO_at {pins : List (Addr × Obj)} {σ : St} {H : Hp} {s : Shared} {p : Addr} {ns : List Int} (I : Inv X pins σ H s) (e : H p = some (SetO X p ns)) : SetX (intKind X.prog X.w) s.heap p (fun k => decide (k ∈ ns)) (sortU ns).length :=
 (show ObjOk X.prog X.w H s.heap p (SetO X p ns) from I.hok p _ e).1
theorem call_sorted_set (hc : X.calm = true) : CallR X (.builtin "sorted") (fun xs H Q => ∃ (p : Addr) (ns : List Int), xs = [.ref p] ∧ H p = some (SetO X p ns) ∧ ns.length < 64 ∧ ∀ l, H l = none → Q (.ref l) (upd H l (.lst ((sortU ns).map V.int)))) := by
 intro pins s σ H xs us Q I r h
 obtain ⟨p, ns, rfl, he, hlt, q⟩ := h
 obtain ⟨u, rfl, rx⟩ := vals1 r
 cases rx
 have hl := sortU_len ns
 refine sorted_set (I.ok.hd hc) (setO_at I he) (by lia) fun l h' d tk e out ns' a1 a2 a3 a4 hlz kp g => ?_
 have e2 : ns' = sortU ns := sorted_is a2 (fun k => by rw [a3, decide_eq_true_iff]) a4
 subst e2
 have fr := I.hok.fresh hlz
 have new : ObjOk X.prog X.w (upd H l (.lst ((sortU ns).map V.int))) h' l (.lst ((sortU ns).map V.int)) := ⟨by rw [List.length_map]; exact Nat.le_of_lt (small1000 (by lia)), out.toList, e, vals_ints a1, by simpa [seqObj] using g⟩
 exact ⟨.ref l, _, I.call' (s' := { s with heap := h', drawn := d, toks := tk }) (ch := []) rfl (Un.track (Un.kept kp) hlz fr) (HOk.track (I.hok.kept kp) fr new) I.bare (fun b z => nomatch z), rfl, q l fr⟩
theorem call_len_set : CallR X (.builtin "len") (fun xs H Q => ∃ (p : Addr) (ns : List Int), xs = [.ref p] ∧ H p = some (SetO X p ns) ∧ Q (.int (sortU ns).length) H) := by
 intro pins s σ H xs us Q I r h
 obtain ⟨p, ns, rfl, he, q⟩ := h
 obtain ⟨u, rfl, rx⟩ := vals1 r
 cases rx
 obtain ⟨o, es, ep, t, ho, hx, hd, ⟨el, mem, hb, hf, hn⟩, J⟩ := setO_at I he
 refine PySem.call_len_set ho hx hd hf (by have h4 : es.size < 4096 := hb; lia) ?_
 rw [hn]
 exact ⟨.int (sortU ns).length, H, I.tok _, ⟨_, rfl⟩, q⟩
end
noncomputable def EqV (X : Cx) (H : Hp) (n : Nat) (x y : V) (b : Bool) : Prop :=
 ∀ (A : Around) (pins : List (Addr × Obj)) (s : Shared) (σ : St) (u v : Value), Inv X pins σ H s → RelV x u → RelV y v → A.units + n < cLine → SeqAt.EqAt A s u v b
structure EqRep (X : Cx) {δ : Type} [DecidableEq δ] (n : Nat) (R : Hp → V → δ → Prop) : Prop where
 eq : ∀ H x y dx dy, R H x dx → R H y dy → EqV X H n x y (decide (dx = dy))
 fn : ∀ pins s σ H x d d', Inv X pins σ H s → R H x d → R H x d' → d = d'
noncomputable def rInt : Hp → V → Int → Prop := fun _ x i => x = .int i
theorem dec_beq {i j : Int} : (i == j) = decide (i = j) := by rw [Bool.eq_iff_iff]; simp
section
variable {X : Cx}
theorem ep_int : EqRep X 0 rInt where
 eq := fun H x y dx dy hx hy A pins s σ u v I ru rv hu => by
  subst hx hy
  obtain ⟨t, rfl⟩ := ru
  obtain ⟨t', rfl⟩ := rv
  rw [← dec_beq]
  exact SeqAt.EqAt.int_int _ _ _ _
 fn := fun _ _ _ _ x d d' _ h h' => by subst h; injection h'
variable {δ : Type} [DecidableEq δ] {n : Nat} {R : Hp → V → δ → Prop}
noncomputable def rTup (K : PySem.W.Frag) (R : Hp → V → δ → Prop) : Hp → V → List δ → Prop := fun H x ds => ∃ a xs, x = .ref a ∧ SqT K H a xs ∧ Paired (R H) xs ds
noncomputable def rLst (K : PySem.W.Frag) (R : Hp → V → δ → Prop) : Hp → V → List δ → Prop := fun H x ds => ∃ a xs, x = .ref a ∧ SqL K H a xs ∧ Paired (R H) xs ds
theorem paired_at {α β : Type} {Rl : α → β → Prop} : ∀ {xs : List α} {ds : List β}, Paired Rl xs ds → ∀ (i : Nat) (x : α), xs[i]? = some x → ∃ d, ds[i]? = some d ∧ Rl x d
 | _, _, .nil, i, x, h => by simp at h
 | _, _, .cons r t, 0, x, h => by simp at h; subst h; exact ⟨_, rfl, r⟩
 | _, _, .cons r t, i + 1, x, h => by
  obtain ⟨d, e, q⟩ := paired_at t i x (by simpa using h)
  exact ⟨d, by simpa using e, q⟩
theorem all_dec (ds ds' : List δ) (h : ds.length = ds'.length) : ((List.range ds.length).all fun j => decide (ds[j]? = ds'[j]?)) = decide (ds = ds') := by
 rw [Bool.eq_iff_iff, List.all_eq_true, decide_eq_true_iff]
 constructor
 ·intro q
  apply List.ext_getElem? 
  intro i
  by_cases hi : i < ds.length
  ·exact of_decide_eq_true (q i (by simpa using hi))
  ·rw [List.getElem?_eq_none (by lia), List.getElem?_eq_none (by lia)]
 ·rintro rfl i hi
  simp
theorem items_eq (ep : EqRep X n R) {H : Hp} {A : Around} {pins : List (Addr × Obj)} {s : Shared} {σ : St} (I : Inv X pins σ H s) {xs ys : List V} {ds ds' : List δ} {us vs : List Value} (hx : Paired (R H) xs ds) (hy : Paired (R H) ys ds') (ru : Vals xs us) (rv : Vals ys vs)
  (hu : A.units + n < cLine) : ∀ j (h1 : j < us.toArray.size) (h2 : j < vs.toArray.size), SeqAt.EqAt A s us.toArray[j] vs.toArray[j] (decide (ds[j]? = ds'[j]?)) := fun j h1 h2 => by
 have l1 := ru.length
 have l2 := rv.length
 rw [List.size_toArray] at h1 h2
 have e1 : xs[j]? = some (xs[j]'(by lia)) := List.getElem?_eq_getElem _
 have e2 : ys[j]? = some (ys[j]'(by lia)) := List.getElem?_eq_getElem _
 obtain ⟨d, q1, r1⟩ := paired_at hx j _ e1
 obtain ⟨d', q2, r2⟩ := paired_at hy j _ e2
 obtain ⟨u, w1, s1⟩ := ru.get e1
 obtain ⟨v, w2, s2⟩ := rv.get e2
 have z1 : us.toArray[j] = u := by rw [List.getElem?_eq_getElem h1] at w1; simpa using w1
 have z2 : vs.toArray[j] = v := by rw [List.getElem?_eq_getElem h2] at w2; simpa using w2
 rw [z1, z2, q1, q2]
 have : decide (some d = some d') = decide (d = d') := by rw [Bool.eq_iff_iff]; simp
 rw [this]
 exact ep.eq H _ _ _ _ r1 r2 A pins s σ u v I s1 s2 hu
theorem paired_fn (ep : EqRep X n R) {H : Hp} {pins : List (Addr × Obj)} {s : Shared} {σ : St} (I : Inv X pins σ H s) : ∀ {xs : List V} {ds ds' : List δ}, Paired (R H) xs ds → Paired (R H) xs ds' → ds = ds'
 | _, _, _, .nil, .nil => rfl
 | _, _, _, .cons r t, .cons r' t' => by rw [ep.fn pins s σ H _ _ _ I r r', paired_fn ep I t t']
theorem ep_tup (ep : EqRep X n R) : EqRep X (n + 1) (rTup X.K R) where
 eq := fun H x y dx dy hx hy A pins s σ u v I ru rv hu => by
  obtain ⟨a, xs, rfl, ha, px⟩ := hx
  obtain ⟨b, ys, rfl, hb, py⟩ := hy
  cases ru
  cases rv
  by_cases hab : a = b
  ·subst hab
   have := I.tuple_inj ha hb
   subst this
   rw [paired_fn ep I px py, decide_eq_true rfl]
   exact SeqAt.EqAt.same _
  ·obtain ⟨us, r1, p1, _⟩ := I.tuple ha
   obtain ⟨vs, r2, p2, _⟩ := I.tuple hb
   have l1 := r1.length
   have l2 := r2.length
   have l3 := Paired.length px
   have l4 := Paired.length py
   have := SeqAt.RcAt.tuples (A := A) (e := fun j => decide (dx[j]? = dy[j]?)) p1 p2 (by lia) (items_eq ep I px py r1 r2 (by show A.units + 1 + n < cLine; lia))
   refine SeqAt.EqAt.of_refs hab ?_
   have e : ((List.range (min us.toArray.size vs.toArray.size)).all (fun j => decide (dx[j]? = dy[j]?)) && us.toArray.size == vs.toArray.size) = decide (dx = dy) := by
    rw [List.size_toArray, List.size_toArray]
    by_cases hl : dx.length = dy.length
    ·rw [show min us.length vs.length = dx.length by lia, all_dec dx dy hl, show (us.length == vs.length) = true by simp; lia, Bool.and_true]
    ·rw [show (us.length == vs.length) = false by simp; lia, Bool.and_false, decide_eq_false (fun z => hl (by rw [z]))]
   rw [← e]
   exact this
 fn := fun pins s σ H x d d' I h h' => by
  obtain ⟨a, xs, rfl, ha, px⟩ := h
  obtain ⟨b, ys, e, hb, py⟩ := h'
  cases e
  have := I.tuple_inj ha hb
  subst this
  exact paired_fn ep I px py
theorem op_eqR (ep : EqRep X n R) (hu : X.A.units + 1 + n < cLine) : OpR X (compareOp .Eq) (fun x y H Q => ∃ ds ds', rLst X.K R H x ds ∧ rLst X.K R H y ds' ∧ Q (.bl (decide (ds = ds'))) H) := by
 intro pins s σ H x y v u Q I rx ry h
 obtain ⟨dx, dy, ⟨a, xs, rfl, ha, px⟩, ⟨b, ys, rfl, hb, py⟩, q⟩ := h
 cases rx
 cases ry
 obtain ⟨us, r1, p1, _⟩ := I.list ha
 obtain ⟨vs, r2, p2, _⟩ := I.list hb
 have l1 := r1.length
 have l2 := r2.length
 have l3 := Paired.length px
 have l4 := Paired.length py
 by_cases hl : dx.length = dy.length
 ·refine SeqAt.RcAt.lists (e := fun j => decide (dx[j]? = dy[j]?)) p1.isList p2.isList (by simp only [List.size_toArray]; lia) (by lia) (items_eq ep I px py r1 r2 (by show X.A.units + 1 + n < cLine; lia)) X.prog X.w X.xe _ ?_
  rw [List.size_toArray, show us.length = dx.length by lia, all_dec dx dy hl]
  exact ⟨.bl _, H, I, rfl, q⟩
 ·refine SeqAt.RcAt.lists_lengths p1.isList p2.isList (by simp only [List.size_toArray]; simpa using (by lia : us.length ≠ vs.length)) (by lia) X.prog X.w X.xe _ ?_
  rw [decide_eq_false (fun z => hl (by rw [z]))] at q
  exact ⟨.bl false, H, I, rfl, q⟩
end
end L2
namespace L2
open PySem PySem.Spec PyProof.Rows PySem.W
noncomputable def lexD : List V → List V → Option Bool
 | [], [] => some false
 | [], _ :: _ => some true
 | _ :: _, [] => some false
 | .int a :: r, .int b :: r' => if a = b then lexD r r' else some (decide (a < b))
 | .ref a :: r, .ref b :: r' => if a = b then lexD r r' else none
 | _, _ => none
section
variable {prog : Program} {w : World} {A : Around} {E : Value → Shared → Prop} {s : Shared}
theorem lt_int2 {a b : Int} {t u : Tok} {k : Bool} {Q : Bool → Shared → Prop} (h : Q (decide (a < b)) s) : wpAny (model prog w) A (oneLt' k (.int a t) (.int b u)) Q E s := by
 cases k with
 | true => exact oneLt_int h
 | false => exact kat_one _ _ (lt_int (show PySem.W.BoolBack Q (.bool (decide (a < b))) s from h))
theorem kat_lexD {b fin : Bool} {Q : Bool → Shared → Prop} : ∀ (xs ys : List V) (us vs : List Value) (i : Nat) (c : Bool), Vals xs us → Vals ys vs → lexD xs ys = some c → fin = decide (us.length < vs.length) → Q c s → KatLex prog w A b fin Q (us.zip vs) i s
 | [], [], _, _, i, c, .nil, .nil, h, hf, q => by
  have e : c = false := by simpa [lexD] using h.symm
  subst e
  refine kat_nil ?_
  rw [hf]; exact q
 | [], y :: ys, _, _, i, c, .nil, .cons _ _, h, hf, q => by
  have e : c = true := by simpa [lexD] using h.symm
  subst e
  refine kat_nil ?_
  rw [hf, decide_eq_true (by simp)]; exact q
 | x :: xs, [], _, _, i, c, .cons _ _, .nil, h, hf, q => by
  have e : c = false := by cases x <;> simpa [lexD] using h.symm
  subst e
  refine kat_nil ?_
  rw [hf, decide_eq_false (by simp)]; exact q
 | x :: xs, y :: ys, u :: us, v :: vs, i, c, .cons rx tx, .cons ry ty, h, hf, q => by
  have hf' : fin = decide (us.length < vs.length) := by
   rw [hf, List.length_cons, List.length_cons]
   rw [Bool.eq_iff_iff, decide_eq_true_iff, decide_eq_true_iff]
   lia
  rw [List.zip_cons_cons]
  cases x with
  | int m =>
   cases y with
   | int k =>
    obtain ⟨t, rfl⟩ := rx
    obtain ⟨t', rfl⟩ := ry
    refine kat_cons (wpAny_eqBool_int ?_)
    by_cases e : m = k
    ·rw [show (m == k) = true by simpa using e]
     have h' : lexD xs ys = some c := by simpa [lexD, e] using h
     exact kat_yes (kat_lexD xs ys us vs (i + 1) c tx ty h' hf' q)
    ·rw [show (m == k) = false by simpa using e]
     have h' : decide (m < k) = c := by simpa [lexD, e] using h
     refine kat_no (lt_int2 ?_)
     rw [h']; exact q
   | _ => simp [lexD] at h
  | ref m =>
   cases y with
   | ref k =>
    cases rx
    cases ry
    by_cases e : m = k
    ·subst e
     have h' : lexD xs ys = some c := by simpa [lexD] using h
     exact kat_cons (SeqAt.EqAt.same (.ref m) prog w _ _ (kat_yes (kat_lexD xs ys us vs (i + 1) c tx ty h' hf' q)))
    ·simp [lexD, e] at h
   | _ => simp [lexD] at h
  | _ => cases y <;> simp [lexD] at h
theorem list_sort_by {a : Addr} {vs : List Value} {n : Nat} {r : Nat → Int} {P : PySem.Fin → Shared → Prop} (ho : s.heap.get? a = some (seqObj "list" vs.toArray n)) (h64 : vs.length < 64)
  (hk : ∀ (h' : Heap), (∀ b o, b ≠ a → s.heap.get? b = some o → h'.get? b = some o) → 2 ≤ vs.length → ∀ Q' : SortKind → Shared → Prop, Q' (tuples' true) { s with heap := h' } → wpAny (model prog w) A (keyKind' vs.toArray) Q' E { s with heap := h' })
  (hc : ∀ (h' : Heap), (∀ b o, b ≠ a → s.heap.get? b = some o → h'.get? b = some o) → ∀ i j, i < vs.length → j < vs.length → ∀ C : Bool → Shared → Prop, C (decide (r i < r j)) { s with heap := h' } → wpAny (model prog w) A (keyLt' (tuples' true) (vs.getD i Value.none) (vs.getD j Value.none)) C (fun _ _ => False) { s with heap := h' })
  (h : ∀ p : Array Nat, p.Perm (List.range vs.length).toArray → Up r p vs.length → P (.done (.ret .none)) { s with heap := sortedHeap s.heap a vs (p.toList.map fun i => vs.getD i Value.none).toArray }) :
  wpAny (model prog w) A (Builtin.«list.sort» ⟨[.ref a], []⟩) P E s := by
 have ha : a < s.heap.objs.size := Heap.lt_size ho
 rw [list_sort_plain]
 refine wpAny_bind (listItems_at ho rfl ?_)
 refine wpAny_bind (listUpdate_at ho rfl ?_ (by rw [List.size_toArray, sizeLine_eq]; lia) (Nat.zero_le _))
 obtain ⟨e1, ho1⟩ : ∃ e1, (s.heap.update a (Obj.mapSeq fun _ => (#[] : Array Value))).get? a = some (seqObj "list" #[] e1) := ⟨_, get?_update_seq ho fun _ => #[]⟩
 refine wpAny_bind (seqEpoch_at ho1 rfl ?_)
 refine wpAny_bind (wpAny_newTuple ?_ (by show vs.length ≤ _; rw [sizeLine_eq]; lia))
 refine wpAny_bind (wpAny_newList ?_ (Nat.zero_le _))
 refine wpAny_holding ?_
 have keep : ∀ b o, b ≠ a → s.heap.get? b = some o → (((s.heap.update a (Obj.mapSeq fun _ => (#[] : Array Value))).push (seqObj "tuple" vs.toArray 0)).push (seqObj "list" #[] 0)).get? b = some o := fun b o hb q =>
  Heap.get?_push_of_some _ (Heap.get?_push_of_some _ ((Heap.get?_update_other _ _ (Ne.symm hb)).trans q))
 have ho6 : (((s.heap.update a (Obj.mapSeq fun _ => (#[] : Array Value))).push (seqObj "tuple" vs.toArray 0)).push (seqObj "list" #[] 0)).get? a = some (seqObj "list" #[] e1) := Heap.get?_push_of_some _ (Heap.get?_push_of_some _ ho1)
 show wpAny (model prog w) A _ P E { s with heap := ((s.heap.update a (Obj.mapSeq fun _ => (#[] : Array Value))).push (seqObj "tuple" vs.toArray 0)).push (seqObj "list" #[] 0) }
 dsimp only
 by_cases h2 : vs.toArray.size < 2
 ·rw [if_pos h2, if_pos h2]
  refine wpAny_bind (wpAny_pure ?_)
  rw [StateT.run_pure]
  refine wpAny_bind (wpAny_pure ?_)
  dsimp only
  refine wpAny_bind (seqEpoch_at ho6 rfl ?_)
  have eo : (arrOf (SortSt.mk' general' (vs.toArray.zip vs.toArray) #[] 7 none)).map (·.2) = (((List.range vs.length).toArray.toList).map fun i => vs.getD i Value.none).toArray := by
   have e3 : ((List.range vs.length).toArray.toList.map fun i => vs.getD i Value.none) = vs := by
    apply List.ext_getElem
    ·simp
    ·intro i q1 q2
     simp [List.getD, q2]
   rw [e3]
   show (vs.toArray.zip vs.toArray).map (·.2) = vs.toArray
   apply Array.ext
   ·simp
   ·intro i q1 q2
    simp
  refine wpAny_bind (listUpdate_at ho6 rfl ?_ (Nat.zero_le _) (by rw [eo, List.size_toArray, List.length_map]; simp; rw [sizeLine_eq]; lia))
  simp only [bne_self_eq_false, Bool.false_eq_true, if_false]
  refine wpAny_pure ?_
  rw [eo]
  refine h (List.range vs.length).toArray (Array.Perm.refl _) fun i hi hb => ?_
  rw [List.size_toArray] at h2
  lia
 ·rw [if_neg h2, if_neg h2]
  rw [List.size_toArray] at h2
  refine wpAny_bind (hk _ keep (by lia) _ ?_)
  have run := kat_run (E := E) (κ := tuples' true) (ks := vs) (vs := vs) (prog := prog) (w := w) (A := A) (Q := fun st' s' => s' = { s with heap := ((s.heap.update a (Obj.mapSeq fun _ => (#[] : Array Value))).push (seqObj "tuple" vs.toArray 0)).push (seqObj "list" #[] 0) } ∧ failedOf st' = none ∧ ∃ p : Array Nat, p.Perm (List.range vs.length).toArray ∧ Up r p vs.length ∧ arrOf st' = p.map (kas_item (vs.toArray.zip vs.toArray)))
   (G := fun p s' => s' = { s with heap := ((s.heap.update a (Obj.mapSeq fun _ => (#[] : Array Value))).push (seqObj "tuple" vs.toArray 0)).push (seqObj "list" #[] 0) } ∧ p.Perm (List.range vs.length).toArray ∧ Up r p vs.length) rfl (by lia) h64 (fun p st' s' a1 a2 a3 ⟨b1, b2, b3⟩ => ⟨b1, a3, p, b2, b3, a2⟩)
   (wp_ev (J := fun s' => s' = { s with heap := ((s.heap.update a (Obj.mapSeq fun _ => (#[] : Array Value))).push (seqObj "tuple" vs.toArray 0)).push (seqObj "list" #[] 0) }) (lt := ltR r) (n := vs.length) (fun i j C s' hi hj hJ q => by
    subst hJ
    exact hc _ keep i j hi hj C (q _ rfl)) _ _ _ (asks_sort (by lia)) rfl fun s' hJ => ⟨hJ, ev_sort (by lia)⟩)
  refine wpAny_bind (wpAny_mono run ?_ fun _ _ e => e)
  rintro ⟨⟨⟩, st'⟩ s' ⟨rfl, hf, p, pm, up, har⟩
  dsimp only
  have hout := kat_snds (ks := vs) (vs := vs) rfl har
  have hsz : (p.toList.map fun i => vs.getD i Value.none).toArray.size = vs.length := by rw [List.size_toArray, List.length_map, Array.length_toList, pm.size_eq]; simp
  rw [hout]
  refine wpAny_bind (seqEpoch_at ho6 rfl ?_)
  refine wpAny_bind (listUpdate_at ho6 rfl ?_ (Nat.zero_le _) (by rw [hsz, sizeLine_eq]; lia))
  rw [hf]
  simp only [bne_self_eq_false, Bool.false_eq_true, if_false]
  exact wpAny_pure (h p pm up)
theorem sorted_by {l : Addr} {vs : List Value} {r : Nat → Int} {Q : Value → Shared → Prop} (hl : s.heap.IsList l vs.toArray) (h64 : vs.length < 64)
  (hk : ∀ (A : Around) (E : Value → Shared → Prop) (h' : Heap), (∀ b o, s.heap.get? b = some o → h'.get? b = some o) → 2 ≤ vs.length → ∀ Q' : SortKind → Shared → Prop, Q' (tuples' true) { s with heap := h' } → wpAny (model prog w) A (keyKind' vs.toArray) Q' E { s with heap := h' })
  (hc : ∀ (A : Around) (h' : Heap), (∀ b o, s.heap.get? b = some o → h'.get? b = some o) → ∀ i j, i < vs.length → j < vs.length → ∀ C : Bool → Shared → Prop, C (decide (r i < r j)) { s with heap := h' } → wpAny (model prog w) A (keyLt' (tuples' true) (vs.getD i Value.none) (vs.getD j Value.none)) C (fun _ _ => False) { s with heap := h' })
  (h : ∀ (p : Array Nat), p.Perm (List.range vs.length).toArray → Up r p vs.length → Q (.ref (s.heap.objs.size + 1)) { s with heap := sortedAll s.heap vs (p.toList.map fun i => vs.getD i Value.none).toArray }) :
  wpAny (model prog w) A (call (.builtin "sorted") [.ref l]) Q E s := by
 refine Calls.call_function_entry kind_sorted plain_sorted entry_sorted (args_sorted1 _) ?_
 unfold Builtin.«sorted»
 refine wpAny_bind (m := checkCount "sorted" 1 1 _) (wpAny_pure ?_)
 refine wpAny_bind (collect_list hl ?_ (by rw [sizeLine_eq]; lia))
 refine wpAny_bind (wpAny_newList ?_ (by rw [sizeLine_eq]; lia))
 have sz : ((s.heap.push (seqObj "list" #[] 0)).update s.heap.objs.size (Obj.mapSeq (· ++ vs.toArray))).objs.size = s.heap.objs.size + 1 := by rw [Heap.size_update, size_push']
 have hoL : (((s.heap.push (seqObj "list" #[] 0)).update s.heap.objs.size (Obj.mapSeq (· ++ vs.toArray))).push (seqObj "list" vs.toArray 0)).get? (s.heap.objs.size + 1) = some (seqObj "list" vs.toArray 0) := by
  rw [← sz]; exact Heap.get?_push_size _ rfl
 have keep : ∀ b o, s.heap.get? b = some o → (((s.heap.push (seqObj "list" #[] 0)).update s.heap.objs.size (Obj.mapSeq (· ++ vs.toArray))).push (seqObj "list" vs.toArray 0)).get? b = some o := fun b o q =>
  Heap.get?_push_of_some _ ((Heap.get?_update_other _ _ (Nat.ne_of_gt (Heap.lt_size q))).trans (Heap.get?_push_of_some _ q))
 show wpAny _ _ _ _ _ { s with heap := ((s.heap.push (seqObj "list" #[] 0)).update s.heap.objs.size (Obj.mapSeq (· ++ vs.toArray))).push (seqObj "list" vs.toArray 0) }
 rw [sz]
 refine wpAny_bind (wpAny_holding (wpAny_call_entry slot_list_sort ⟨_, hoL, rfl⟩ entry_list_sort (list_sort_by (r := r) (s := { s with heap := ((s.heap.push (seqObj "list" #[] 0)).update s.heap.objs.size (Obj.mapSeq (· ++ vs.toArray))).push (seqObj "list" vs.toArray 0) }) hoL h64
  (fun h' kp h2 Q' q => hk _ _ h' (fun b o e => kp b o (Nat.ne_of_lt (Nat.lt_succ_of_lt (Heap.lt_size e))) (keep b o e)) h2 Q' q)
  (fun h' kp i j hi hj C q => hc _ h' (fun b o e => kp b o (Nat.ne_of_lt (Nat.lt_succ_of_lt (Heap.lt_size e))) (keep b o e)) i j hi hj C q) fun p pm up => ⟨_, rfl, ?_⟩) (args_list_sort _)))
 exact wpAny_pure ⟨_, rfl, h p pm up⟩
end
section
variable {X : Cx}
noncomputable def TupsAt (K : PySem.W.Frag) (H : Hp) (as : List Addr) (its : List (List V)) : Prop := Paired (fun a xs => SqT K H a xs ∧ ∃ i r, xs = V.int i :: r) as its
theorem tups_get {K : PySem.W.Frag} {H : Hp} {as : List Addr} {its : List (List V)} (h : TupsAt K H as its) : ∀ (i : Nat), i < as.length → ∃ a xs, as[i]? = some a ∧ its[i]? = some xs ∧ SqT K H a xs ∧ ∃ j r, xs = V.int j :: r := fun i hi => by
 have e : as[i]? = some as[i] := List.getElem?_eq_getElem hi
 obtain ⟨d, e2, q⟩ := paired_at h i _ e
 exact ⟨_, d, e, e2, q.1, q.2⟩
theorem call_sorted_tups : CallR X (.builtin "sorted") (fun xs H Q => ∃ (p : Addr) (as : List Addr) (its : List (List V)) (r : Nat → Int), xs = [.ref p] ∧ SqL X.K H p (as.map V.ref) ∧ TupsAt X.K H as its ∧ as.length < 64 ∧
  (∀ i j x y, its[i]? = some x → its[j]? = some y → lexD x y = some (decide (r i < r j))) ∧ ∀ q : Array Nat, q.Perm (List.range as.length).toArray → Up r q as.length → ∀ l, H l = none → Q (.ref l) (upd H l (.lst ((q.toList.map fun i => as.getD i 0).map V.ref)))) := by
 intro pins s σ H xs us Q I r0 h
 obtain ⟨p, as, its, r, rfl, hq, ht, h64, hcmp, q⟩ := h
 obtain ⟨u, rfl, rx⟩ := vals1 r0
 cases rx
 obtain ⟨vs, r', pl, hz⟩ := I.list hq
 have evs : vs = as.map Value.ref := by
  have go : ∀ (as : List Addr) (vs : List Value), Vals (as.map V.ref) vs → vs = as.map Value.ref := by
   intro as
   induction as with
   | nil => intro vs r; cases r; rfl
   | cons a t ih =>
    intro vs r
    rw [List.map_cons] at r
    cases r with
    | cons r1 r2 => rw [show _ = Value.ref a from r1, ih _ r2]; rfl
  exact go as vs r'
 subst evs
 have hl : (as.map Value.ref).length = as.length := List.length_map _
 have hget : ∀ i a, as[i]? = some a → (as.map Value.ref).getD i Value.none = .ref a := fun i a e => by
  rw [List.getD, List.getElem?_map, e]; rfl
 have tl := Paired.length ht
 refine sorted_by (r := r) pl.isList (by rw [hl]; exact h64) (fun A E h' kp h2 Q' q' => ?_) (fun A h' kp i j hi hj C q' => ?_) fun pq pm up => ?_
 ·-- the kind
  have I' : Inv X pins σ H { s with heap := h' } := I.kept (t' := s.toks) kp
  have go : ∀ (as : List Addr) (its : List (List V)), TupsAt X.K H as its → ∃ fs : List Value, KatTups h' (as.map Value.ref) fs ∧ (∀ v ∈ fs, ∃ i t, v = .int i t) ∧ fs.length = as.length := by
   intro as its hT
   unfold TupsAt at hT
   induction hT with
   | nil => exact ⟨[], trivial, fun v hv => absurd hv (by simp), rfl⟩
   | @cons a xs as its hx t ih =>
    obtain ⟨fs, k1, k2, k3⟩ := ih
    obtain ⟨hS, i, r, rfl⟩ := hx
    obtain ⟨us, ru, pu, _⟩ := I'.tuple hS
    cases ru with
    | @cons _ u _ us r1 r2 =>
     obtain ⟨tk, rfl⟩ := r1
     obtain ⟨o, e1, e2, n, e3⟩ := pu
     refine ⟨.int i tk :: fs, KatTups.cons e1 e2 e3 (by simp) k1, fun v hv => ?_, by rw [List.length_cons, List.length_cons, k3]⟩
     rcases List.mem_cons.mp hv with rfl | hv
     ·exact ⟨i, tk, rfl⟩
     ·exact k2 v hv
  obtain ⟨fs, k1, k2, k3⟩ := go as its ht
  refine kat_kind (T := .type "int") k1 (by rw [hl] at h2; lia) (fun v hv => ?_) (by decide) q'
  obtain ⟨i, tk, rfl⟩ := k2 v hv
  exact .now
 ·-- a comparison
  have I' : Inv X pins σ H { s with heap := h' } := I.kept (t' := s.toks) kp
  rw [hl] at hi hj
  obtain ⟨a, x, ea, ex, hS, _⟩ := tups_get ht i hi
  obtain ⟨b, y, eb, ey, hS', _⟩ := tups_get ht j hj
  rw [hget i a ea, hget j b eb]
  obtain ⟨us, ru, ⟨o, e1, e2, n, e3⟩, _⟩ := I'.tuple hS
  obtain ⟨us', ru', ⟨o', e1', e2', n', e3'⟩, _⟩ := I'.tuple hS'
  refine kat_lt e1 e3 e1' e3' ?_
  exact kat_lexD x y us us' 0 _ (by simpa using ru) (by simpa using ru') (hcmp i j x y ex ey) (by simp) q'
 ·have sz : (pq.toList.map fun i => (as.map Value.ref).getD i Value.none) = (pq.toList.map fun i => as.getD i 0).map Value.ref := by
   rw [List.map_map]
   apply List.map_congr_left
   intro i hi
   have hi' : i < as.length := by
    have := (Array.Perm.mem_iff pm (a := i)).mp (by simpa using hi)
    rw [hl] at this
    simpa using this
   show _ = Value.ref (as.getD i 0)
   rw [hget i as[i] (List.getElem?_eq_getElem hi')]
   simp [List.getD, hi']
  rw [sz]
  rw [hl] at pm up
  obtain ⟨e, he⟩ := sortedAll_at s.heap (as.map Value.ref) ((pq.toList.map fun i => as.getD i 0).map Value.ref).toArray
  have vr : ∀ bs : List Addr, Vals (bs.map V.ref) (bs.map Value.ref) := fun bs => by
   induction bs with
   | nil => exact .nil
   | cons b t ih => exact .cons rfl ih
  have hlen : ((pq.toList.map fun i => as.getD i 0).map V.ref).length ≤ sizeLine := by
   rw [List.length_map, List.length_map, Array.length_toList, pm.size_eq]
   exact Nat.le_of_lt (small1000 (by simp; lia))
  exact ⟨.ref (s.heap.objs.size + 1), _, I.laid (t' := s.toks) (o := .lst ((pq.toList.map fun i => as.getD i 0).map V.ref)) (fun b o e => sortedAll_old e) (Nat.le_succ _) ⟨hlen, _, e, vr _, by simpa [seqObj] using he⟩, rfl, q pq pm up _ (I.hok.fresh (Nat.le_succ _))⟩
end
end L2
namespace L2
open PySem PySem.Spec PyProof.Rows
section
variable {X : Cx} {x y z w : Str} {i j k l n : Nat} {px py pz pw pt : Pos}
structure Nm (X : Cx) (i : Nat) (x : Str) : Prop where
 at_ : X.N[i]? = some x
 loc : Loc X.env.scope x
 fn : X.fn x = true ∨ X.env.scope.names.lookup x = some .local
theorem Nm.pg (h : Nm X i x) (nd : X.N.Nodup) : PG X (.Name x px) (gName i) := pg_name nd h.at_ h.loc h.fn
theorem pg2 (hc : X.calm = true) (nd : X.N.Nodup) (a : Nm X i x) (b : Nm X j y) : PG X (.Tuple [.Name x px, .Name y py] n pt) (gTup X.K 2 (gCons (gName i) (gCons (gName j) gNil))) :=
 pg_tup (X := X) (n := 2) hc (pgs_cons (X := X) (a.pg nd) (pgs_cons (X := X) (b.pg nd) pgs_nil))
theorem pg3 (hc : X.calm = true) (nd : X.N.Nodup) (a : Nm X i x) (b : Nm X j y) (c : Nm X k z) : PG X (.Tuple [.Name x px, .Name y py, .Name z pz] n pt) (gTup X.K 3 (gCons (gName i) (gCons (gName j) (gCons (gName k) gNil)))) :=
 pg_tup (X := X) (n := 3) hc (pgs_cons (X := X) (a.pg nd) (pgs_cons (X := X) (b.pg nd) (pgs_cons (X := X) (c.pg nd) pgs_nil)))
end
end L2
namespace L2
open PySem PySem.Spec PyProof.Rows
section
variable {es : List Expr} {env : Env} {c : Const} {i : Nat} {p : Pos}
theorem st_const : starEach (.Constant c i p :: es) env = (false, eval (.Constant c i p) env) :: starEach es env := by rw [starEach]; intro a b h; cases h
theorem st_name {x : Str} : starEach (.Name x p :: es) env = (false, eval (.Name x p) env) :: starEach es env := by rw [starEach]; intro a b h; cases h
theorem st_call {f : Expr} {as : List Expr} {ks : List Keyword} : starEach (.Call f as ks p :: es) env = (false, eval (.Call f as ks p) env) :: starEach es env := by rw [starEach]; intro a b h; cases h
theorem st_bin {a b : Expr} {o : Operator} : starEach (.BinOp a o b p :: es) env = (false, eval (.BinOp a o b p) env) :: starEach es env := by rw [starEach]; intro a b h; cases h
theorem st_un {a : Expr} {o : UnaryOp} : starEach (.UnaryOp o a p :: es) env = (false, eval (.UnaryOp o a p) env) :: starEach es env := by rw [starEach]; intro a b h; cases h
theorem st_cmp {a : Expr} {o : List CmpOp} {b : List Expr} : starEach (.Compare a o b p :: es) env = (false, eval (.Compare a o b p) env) :: starEach es env := by rw [starEach]; intro a b h; cases h
theorem st_sub {a b : Expr} : starEach (.Subscript a b p :: es) env = (false, eval (.Subscript a b p) env) :: starEach es env := by rw [starEach]; intro a b h; cases h
theorem st_tup {a : List Expr} : starEach (.Tuple a i p :: es) env = (false, eval (.Tuple a i p) env) :: starEach es env := by rw [starEach]; intro a b h; cases h
theorem st_list {a : List Expr} : starEach (.List a p :: es) env = (false, eval (.List a p) env) :: starEach es env := by rw [starEach]; intro a b h; cases h
theorem st_comp {a : Expr} {g : List Comprehension} {s : Scope} : starEach (.ListComp a g s p :: es) env = (false, eval (.ListComp a g s p) env) :: starEach es env := by rw [starEach]; intro a b h; cases h
theorem st_if {a b d : Expr} : starEach (.IfExp a b d p :: es) env = (false, eval (.IfExp a b d p) env) :: starEach es env := by rw [starEach]; intro a b h; cases h
end
section
variable {X : Cx}
theorem ix_listK (K : PySem.W.Frag) (h : X.K = K := by rfl) : IxR X (rIxL K) := h ▸ ix_list
theorem ix_tupK (K : PySem.W.Frag) (h : X.K = K := by rfl) : IxR X (rIxT K) := h ▸ ix_tup
theorem sl_listK (K : PySem.W.Frag) (h : X.K = K := by rfl) : SlR X (rSlL K) := h ▸ sl_list
theorem op_inK (K : PySem.W.Frag) (h : X.K = K := by rfl) : OpR X (compareOp .In) (rIn K false) := h ▸ op_in_seq
theorem op_notInK (K : PySem.W.Frag) (h : X.K = K := by rfl) : OpR X (compareOp .NotIn) (rIn K true) := h ▸ op_notIn_seq
noncomputable def rLenSeq (K : PySem.W.Frag) : List V → Hp → VK → Prop := fun xs H Q => ∃ p ys, xs = [.ref p] ∧ (SqL K H p ys ∨ SqT K H p ys) ∧ Q (.int ys.length) H
theorem call_lenK (K : PySem.W.Frag) (h : X.K = K := by rfl) : CallR X (.builtin "len") (rLenSeq K) := h ▸ call_len_seq
noncomputable def rListOf (K : PySem.W.Frag) : List V → Hp → VK → Prop := fun xs H Q => ∃ p ys, xs = [.ref p] ∧ (SqL K H p ys ∨ SqT K H p ys) ∧ ∀ l, H l = none → Q (.ref l) (upd H l (.lst ys))
theorem call_listK (K : PySem.W.Frag) (h : X.K = K := by rfl) : CallR X (.type "list") (rListOf K) := h ▸ call_list_of
noncomputable def rTupleOf (K : PySem.W.Frag) : List V → Hp → VK → Prop := fun xs H Q => ∃ p ys, xs = [.ref p] ∧ ((SqL K H p ys ∧ ∀ l, H l = none → Q (.ref l) (upd H l (.tup ys))) ∨ (SqT K H p ys ∧ Q (.ref p) H))
theorem call_tupleK (K : PySem.W.Frag) (h : X.K = K := by rfl) : CallR X (.type "tuple") (rTupleOf K) := h ▸ call_tuple_of
noncomputable def rIsinst (K : PySem.W.Frag) : List V → Hp → VK → Prop := fun xs H Q => ∃ v T t b, xs = [v, .ty T] ∧ TyOf K H v t ∧ PySem.W.kitOne K t (.type T) = some b ∧ Q (.bl b) H
theorem call_isinstK (K : PySem.W.Frag) (h : X.K = K := by rfl) : CallR X (.builtin "isinstance") (rIsinst K) := h ▸ call_isinst
noncomputable def rAllB (K : PySem.W.Frag) : List V → Hp → VK → Prop := fun xs H Q => ∃ (p : Addr) (bs : List Bool), xs = [.ref p] ∧ SqL K H p (bs.map V.bl) ∧ Q (.bl (bs.all id)) H
theorem call_allK (K : PySem.W.Frag) (hc : X.calm = true) (h : X.K = K := by rfl) : CallR X (.builtin "all") (rAllB K) := h ▸ call_all_bools hc
noncomputable def rSortedI (K : PySem.W.Frag) : List V → Hp → VK → Prop := fun xs H Q => ∃ (p : Addr) (ns : List Int), xs = [.ref p] ∧ SqL K H p (ns.map V.int) ∧ ns.length < 64 ∧ ∀ ns' : List Int, ns'.Perm ns → ns'.Pairwise (· ≤ ·) → ∀ l, H l = none → Q (.ref l) (upd H l (.lst (ns'.map V.int)))
theorem call_sortedK (K : PySem.W.Frag) (h : X.K = K := by rfl) : CallR X (.builtin "sorted") (rSortedI K) := h ▸ call_sorted_ints
noncomputable def SetP (P : Program) (w : World) (l : Addr) (ns : List Int) : HO := .ext fun h => SetX (intKind P w) h l (fun k => decide (k ∈ ns)) (sortU ns).length
noncomputable def rSetI (K : PySem.W.Frag) (P : Program) (w : World) : List V → Hp → VK → Prop := fun xs H Q => ∃ (p : Addr) (ns : List Int), xs = [.ref p] ∧ SqL K H p (ns.map V.int) ∧ ns.length < 4000 ∧ ∀ l, H l = none → Q (.ref l) (upd H l (SetP P w l ns))
theorem call_setK (K : PySem.W.Frag) (P : Program) (w : World) (hc : X.calm = true) (h : X.K = K := by rfl) (hP : X.prog = P := by rfl) (hw : X.w = w := by rfl) : CallR X (.type "set") (rSetI K P w) := by
 subst h hP hw
 exact call_set_ints hc
noncomputable def rSortedS (P : Program) (w : World) : List V → Hp → VK → Prop := fun xs H Q => ∃ (p : Addr) (ns : List Int), xs = [.ref p] ∧ H p = some (SetP P w p ns) ∧ ns.length < 64 ∧ ∀ l, H l = none → Q (.ref l) (upd H l (.lst ((sortU ns).map V.int)))
theorem call_sortedSK (P : Program) (w : World) (hc : X.calm = true) (hP : X.prog = P := by rfl) (hw : X.w = w := by rfl) : CallR X (.builtin "sorted") (rSortedS P w) := by
 subst hP hw
 exact call_sorted_set hc
noncomputable def rLenS (P : Program) (w : World) : List V → Hp → VK → Prop := fun xs H Q => ∃ (p : Addr) (ns : List Int), xs = [.ref p] ∧ H p = some (SetP P w p ns) ∧ Q (.int (sortU ns).length) H
theorem call_lenSK (P : Program) (w : World) (hP : X.prog = P := by rfl) (hw : X.w = w := by rfl) : CallR X (.builtin "len") (rLenS P w) := by
 subst hP hw
 exact call_len_set
noncomputable def rSortedT (K : PySem.W.Frag) : List V → Hp → VK → Prop := fun xs H Q => ∃ (p : Addr) (as : List Addr) (its : List (List V)) (r : Nat → Int), xs = [.ref p] ∧ SqL K H p (as.map V.ref) ∧ TupsAt K H as its ∧ as.length < 64 ∧
  (∀ i j x y, its[i]? = some x → its[j]? = some y → lexD x y = some (decide (r i < r j))) ∧ ∀ q : Array Nat, q.Perm (List.range as.length).toArray → Up r q as.length → ∀ l, H l = none → Q (.ref l) (upd H l (.lst ((q.toList.map fun i => as.getD i 0).map V.ref)))
theorem call_sortedTK (K : PySem.W.Frag) (h : X.K = K := by rfl) : CallR X (.builtin "sorted") (rSortedT K) := h ▸ call_sorted_tups
section
variable {δ : Type} [DecidableEq δ] {n : Nat} {R : Hp → V → δ → Prop}
noncomputable def rEqR (K : PySem.W.Frag) (R : Hp → V → δ → Prop) : R2 := fun x y H Q => ∃ ds ds', rLst K R H x ds ∧ rLst K R H y ds' ∧ Q (.bl (decide (ds = ds'))) H
theorem op_eqRK (K : PySem.W.Frag) (ep : EqRep X n R) (hu : X.A.units + 1 + n < cLine) (h : X.K = K := by rfl) : OpR X (compareOp .Eq) (rEqR K R) := h ▸ op_eqR ep hu
end
noncomputable def tTru (K : PySem.W.Frag) (ta : TE) : TT := fun σ H Q => ta σ H fun x H' => ∃ k, TruV K x H' k ∧ Q k H'
theorem pt_truK (K : PySem.W.Frag) {a : Expr} {ta : TE} (ha : PE X a ta) (he : ∀ whole, isTrue a X.env whole = (do let v ← whole; standAt a.pos; holding [v] (truthy v))) (h : X.K = K := by rfl) : PT X a (tTru K ta) := h ▸ pt_truth ha he
theorem pi_listK (K : PySem.W.Frag) {tg l : Expr} {tl : TE} (hl : PE X l tl) (h : X.K = K := by rfl) : PI X tg l (iList K tl) := h ▸ pi_list hl
theorem pi_tupK (K : PySem.W.Frag) {tg l : Expr} {tl : TE} (hl : PE X l tl) (h : X.K = K := by rfl) : PI X tg l (iTup K tl) := h ▸ pi_tup hl
theorem pi_zipK (b : Bool) (K : PySem.W.Frag) {es : List Expr} {kk : Nat} {tpos : Pos} {e1 e2 : Expr} {ta : TA} {p pos : Pos} (hg : Gl X "zip") (hm : X.mg "zip" = none) (ha : PA X [e1, e2] ta) (h : X.K = K := by rfl) (hs : starEach [e1, e2] X.env = [(false, eval e1 X.env), (false, eval e2 X.env)] := by rfl) (hs2 : starEach [e2] X.env = [(false, eval e2 X.env)] := by rfl) :
  PI X (.Tuple es kk tpos) (.Call (.Name "zip" p) [e1, e2] [] pos) (iZip b K ta) := h ▸ pi_zip hg hm ha hs hs2
variable {x y z w : Str} {i j k l n : Nat} {px py pz pw pt : Pos}
theorem pg2K (K : PySem.W.Frag) (hc : X.calm = true) (nd : X.N.Nodup) (a : Nm X i x) (b : Nm X j y) (h : X.K = K := by rfl) : PG X (.Tuple [.Name x px, .Name y py] n pt) (gTup K 2 (gCons (gName i) (gCons (gName j) gNil))) := h ▸ pg2 hc nd a b
theorem pg3K (K : PySem.W.Frag) (hc : X.calm = true) (nd : X.N.Nodup) (a : Nm X i x) (b : Nm X j y) (c : Nm X k z) (h : X.K = K := by rfl) : PG X (.Tuple [.Name x px, .Name y py, .Name z pz] n pt) (gTup K 3 (gCons (gName i) (gCons (gName j) (gCons (gName k) gNil)))) := h ▸ pg3 hc nd a b c
end
section
variable {X : Cx} {o e : Expr} {es : List Expr} {to : TE} {t : TA} {name : Str} {apos cpos : Pos} {T id : String} {r : V → List V → Hp → VK → Prop}
theorem pe_bmK (K : PySem.W.Frag) (pa : PlainAttrs T) (slot : Slot T name id) (hty : typeOf (.builtin id) = pure (.type "method_descriptor")) (hm : MtR X id r) (ho : PE X o to) (ha : PA X (e :: es) t) (h : X.K = K := by rfl)
  (hbase : attributeBase o name X.env (eval o X.env) = eval o X.env := by rfl)
  (hfew : ((backTo cpos (starEach (e :: es) X.env)).all (fun x => !x.1) && (backToKw cpos (keywordEach [] X.env)).all (fun x => x.1.isSome)
   && decide ((e :: es).length + ([] : List Keyword).length + (if ([] : List Keyword).isEmpty then 0 else 1) < 30)) = true := by rfl)
  (hline : (apos.endLine == cpos.line) = true := by rfl) (hs : starEach (e :: es) X.env = (false, eval e X.env) :: starEach es X.env := by rfl) (hplain : (backTo cpos (starEach es X.env)).any (·.1) = false := by rfl) :
  PE X (.Call (.Attribute o name apos) (e :: es) [] cpos) (tBM K T r to t) := h ▸ pe_bm pa slot hty hm ho ha hbase hfew hline hs hplain
end
end L2
namespace L2
open PySem PySem.Spec PyProof.Rows
noncomputable def DataAt (K : PySem.W.Frag) (H : Hp) (as : List Addr) (ds : List (List Int)) : Prop := Paired (fun a d => SqT K H a (d.map V.int)) as ds
theorem paired_mem {α β : Type} {R R' : α → β → Prop} : ∀ {as : List α} {ds : List β}, Paired R as ds → (∀ a b, b ∈ ds → R a b → R' a b) → Paired R' as ds
 | _, _, .nil, _ => .nil
 | _, _, .cons h t, hi => .cons (hi _ _ (List.mem_cons_self ..) h) (paired_mem t fun a b hb => hi a b (List.mem_cons_of_mem _ hb))
end L2
namespace L2
open PySem PySem.Spec PyProof.Rows
theorem Room.units2 {k : Nat} {A : Around} (r : Room k A) : A.units + 1 + (0 + 1) < cLine := by have := r.un; lia
end L2
namespace L2
open PySem PySem.Spec PyProof.Rows
theorem mt_appendR {X : Cx} : MtR X "list.append" rAppend := mt_append
theorem mt_extendR {X : Cx} : MtR X "list.extend" rExtend := mt_extend
end L2
namespace L2
open PySem PySem.Spec PyProof.Rows
theorem ints_paired {H : Hp} : ∀ d : List Int, Paired (rInt H) (d.map V.int) d
 | [] => .nil
 | _ :: t => .cons rfl (ints_paired t)
end L2
namespace L2
open PySem PySem.Spec PyProof.Rows
noncomputable def rKey : Hp → V → Key → Prop := fun _ x k => x = kV k
section
variable {X : Cx}
theorem ep_key : EqRep X 0 rKey where
 eq := fun H x y dx dy hx hy A pins s σ u v I ru rv hu => by
  subst hx hy
  rcases dx with i | i <;> rcases dy with j | j
  ·obtain ⟨t, rfl⟩ := ru
   obtain ⟨t', rfl⟩ := rv
   have := SeqAt.EqAt.int_int (A := A) (s := s) i t j t'
   rw [show decide ((Sum.inl i : Key) = Sum.inl j) = (i == j) by rw [Bool.eq_iff_iff]; simp]
   exact this
  ·obtain ⟨t, rfl⟩ := ru
   obtain ⟨t', rfl⟩ := rv
   have := SeqAt.EqAt.int_str (A := A) (s := s) i t j t'
   rw [decide_eq_false (fun z => nomatch z)]
   exact this
  ·obtain ⟨t, rfl⟩ := ru
   obtain ⟨t', rfl⟩ := rv
   have := SeqAt.EqAt.str_int (A := A) (s := s) i t j t'
   rw [decide_eq_false (fun z => nomatch z)]
   exact this
  ·obtain ⟨t, rfl⟩ := ru
   obtain ⟨t', rfl⟩ := rv
   have := SeqAt.EqAt.str_str (A := A) (s := s) i t j t'
   rw [show decide ((Sum.inr i : Key) = Sum.inr j) = (i == j) by rw [Bool.eq_iff_iff]; simp]
   exact this
 fn := fun _ _ _ _ x d d' _ h h' => by subst h; exact kV_inj h'
noncomputable def inD (ds : List (List Key)) (d : List Key) : Bool := ds.any fun x => decide (x = d)
theorem inD_iff {ds : List (List Key)} {d : List Key} : inD ds d = true ↔ d ∈ ds := by
 unfold inD
 rw [List.any_eq_true]
 constructor
 ·rintro ⟨x, hx, h⟩
  rw [← of_decide_eq_true h]
  exact hx
 ·intro h
  exact ⟨d, h, decide_eq_true rfl⟩
noncomputable def rInT (K : PySem.W.Frag) (neg : Bool) : R2 := fun x y H Q => ∃ (p b : Addr) (as : List Addr) (d : List Key) (ds : List (List Key)), x = .ref b ∧ y = .ref p ∧ SqL K H p (as.map V.ref) ∧ SqT K H b (d.map kV) ∧ Paired (fun a d => SqT K H a (d.map kV)) as ds ∧ Q (.bl (if neg then !inD ds d else inD ds d)) H
theorem keys_paired {H : Hp} : ∀ d : List Key, Paired (rKey H) (d.map kV) d
 | [] => .nil
 | _ :: t => .cons rfl (keys_paired t)
theorem in_tups {pins : List (Addr × Obj)} {σ : St} {H : Hp} {s : Shared} {b : Addr} {as : List Addr} {d : List Key} {ds : List (List Key)} {A : Around} (I : Inv X pins σ H s) (hb : SqT X.K H b (d.map kV)) (hp : Paired (fun a d => SqT X.K H a (d.map kV)) as ds)
  (hu : A.units + 1 < cLine) {its : List Value} (r : Vals (as.map V.ref) its) :
  ∃ e : Value → Bool, (∀ y, y ∈ its.toArray → SeqAt.EqAt A s y (.ref b) (e y)) ∧ its.toArray.any e = inD ds d := by
 have ep := ep_tup (X := X) ep_key
 have rd : ∀ (j : Nat) a, as[j]? = some a → ∃ d', ds[j]? = some d' ∧ SqT X.K H a (d'.map kV) := fun j a h => paired_at hp j a h
 have evs : its = as.map Value.ref := by
  have go : ∀ (as : List Addr) (vs : List Value), Vals (as.map V.ref) vs → vs = as.map Value.ref := by
   intro as
   induction as with
   | nil => intro vs r; cases r; rfl
   | cons a t ih =>
    intro vs r
    rw [List.map_cons] at r
    cases r with
    | cons r1 r2 => rw [show _ = Value.ref a from r1, ih _ r2]; rfl
  exact go as its r
 subst evs
 let e : Value → Bool := fun y => match y with
  | .ref a => (List.range as.length).any fun j => decide (as[j]? = some a) && decide (ds[j]? = some d)
  | _ => false
 have eR : ∀ a, e (.ref a) = true ↔ ∃ j : Nat, as[j]? = some a ∧ ds[j]? = some d := fun a => by
  show ((List.range as.length).any fun j => decide (as[j]? = some a) && decide (ds[j]? = some d)) = true ↔ _
  rw [List.any_eq_true]
  constructor
  ·rintro ⟨j, _, h⟩
   rw [Bool.and_eq_true] at h
   exact ⟨j, of_decide_eq_true h.1, of_decide_eq_true h.2⟩
  ·rintro ⟨j, h1, h2⟩
   exact ⟨j, List.mem_range.mpr (List.getElem?_eq_some_iff.mp h1).1, by rw [Bool.and_eq_true]; exact ⟨decide_eq_true h1, decide_eq_true h2⟩⟩
 have key : ∀ (j : Nat) a d', as[j]? = some a → ds[j]? = some d' → e (.ref a) = decide (d' = d) := fun j a d' h1 h2 => by
  rw [Bool.eq_iff_iff, eR, decide_eq_true_iff]
  constructor
  ·rintro ⟨k, g1, g2⟩
   obtain ⟨d1, q1, s1⟩ := rd j a h1
   obtain ⟨d2, q2, s2⟩ := rd k a g1
   rw [h2] at q1
   rw [g2] at q2
   cases q1
   cases q2
   exact ep.fn pins s σ H (.ref a) _ _ I ⟨a, _, rfl, s1, keys_paired _⟩ ⟨a, _, rfl, s2, keys_paired _⟩
  ·rintro rfl
   exact ⟨j, h1, h2⟩
 refine ⟨e, fun y hy => ?_, ?_⟩
 ·have hy' : y ∈ as.map Value.ref := by simpa using hy
  obtain ⟨a, ha, rfl⟩ := List.mem_map.mp hy'
  obtain ⟨j, hj⟩ := List.getElem?_of_mem ha
  obtain ⟨d', q1, s1⟩ := rd j a hj
  rw [key j a d' hj q1]
  exact ep.eq H (.ref a) (.ref b) d' d ⟨a, _, rfl, s1, keys_paired _⟩ ⟨b, _, rfl, hb, keys_paired _⟩ A pins s σ (.ref a) (.ref b) I rfl rfl (by lia)
 ·rw [Bool.eq_iff_iff, inD_iff, Array.any_eq_true']
  constructor
  ·rintro ⟨y, hy, h⟩
   have hy' : y ∈ as.map Value.ref := by simpa using hy
   obtain ⟨a, ha, rfl⟩ := List.mem_map.mp hy'
   obtain ⟨j, _, h2⟩ := (eR a).mp h
   exact List.mem_of_getElem? h2
  ·intro h
   obtain ⟨j, hj⟩ := List.getElem?_of_mem h
   have hl : as.length = ds.length := Paired.length hp
   have hj' := (List.getElem?_eq_some_iff.mp hj).1
   have ea : as[j]? = some (as[j]'(by lia)) := List.getElem?_eq_getElem (by lia)
   exact ⟨.ref (as[j]'(by lia)), by simp, (eR _).mpr ⟨j, ea, hj⟩⟩
theorem op_notInTK (K : PySem.W.Frag) (hu : X.A.units + 2 < cLine) (h : X.K = K := by rfl) : OpR X (compareOp .NotIn) (rInT K true) := by
 subst h
 intro pins s σ H x y v u Q I rx ry h
 obtain ⟨p, b, as, d, ds, rfl, rfl, hq, hb, hp, q⟩ := h
 cases rx
 cases ry
 obtain ⟨its, r, pl, hz⟩ := I.list hq
 obtain ⟨e, h1, h2⟩ := in_tups (A := X.A.in1) I hb hp (by show X.A.units + 1 + 1 < cLine; lia) r
 refine SeqAt.notIn_listAt e pl.isList h1 ⟨.bl _, H, I, rfl, ?_⟩
 rw [h2]
 exact q
theorem Room.unitsT {k : Nat} {A : Around} (r : Room k A) : A.units + 2 < cLine := by have := r.un; lia
end
end L2
namespace L2
open PySem PySem.Spec PyProof.Rows
section
variable {X : Cx}
noncomputable def rNeSame (K : PySem.W.Frag) : R2 := fun x y H Q => ∃ (a b : Addr) (xs : List V), x = .ref a ∧ y = .ref b ∧ SqL K H a (xs) ∧ SqL K H b xs ∧ (∀ x ∈ xs, ∃ c, x = .ref c) ∧ Q (.bl false) H
theorem op_neSameK (K : PySem.W.Frag) (hu : X.A.units < cLine) (h : X.K = K := by rfl) : OpR X (compareOp .NotEq) (rNeSame K) := by
 subst h
 intro pins s σ H x y v u Q I rx ry h
 obtain ⟨a, b, xs, rfl, rfl, ha, hb, hr, q⟩ := h
 cases rx
 cases ry
 obtain ⟨us, r1, p1, _⟩ := I.list ha
 obtain ⟨vs, r2, p2, _⟩ := I.list hb
 have e : us = vs := by
  have go : ∀ (xs : List V) (us vs : List Value), (∀ x ∈ xs, ∃ c, x = V.ref c) → Vals xs us → Vals xs vs → us = vs := by
   intro xs
   induction xs with
   | nil => intro us vs _ r r'; cases r; cases r'; rfl
   | cons x t ih =>
    intro us vs hx r r'
    obtain ⟨c, rfl⟩ := hx x (List.mem_cons_self ..)
    cases r with
    | cons q1 q2 =>
     cases r' with
     | cons q3 q4 => rw [show _ = Value.ref c from q1, show _ = Value.ref c from q3, ih _ _ (fun y hy => hx y (List.mem_cons_of_mem _ hy)) q2 q4]
  exact go xs us vs hr r1 r2
 subst e
 refine SeqAt.RcNeAt.lists (e := fun j => true) p1.isList p2.isList rfl (by lia) (fun j h1 h2 => SeqAt.EqAt.same _) X.prog X.w X.xe _ ?_
 have : ((List.range us.toArray.size).all fun _ => true) = true := by simp
 rw [this]
 exact ⟨.bl false, H, I, rfl, q⟩
end
end L2
namespace L2
open PySem PySem.Spec PyProof.Rows
section
variable {X : Cx}
noncomputable def CDivL (i j : Int) : Prop := 0 < j ∧ j < 18446744073709551616
theorem op_fdivL : OpR X (binaryOp .FloorDiv) (rI CDivL fun i j => .int (i / j)) := opI fun i j _ _ _ _ _ hc q => by
 have h1 : (0 : Int) < j := hc.1
 have h2 : j < 18446744073709551616 := hc.2
 refine floordiv_int (by lia) (by rw [Int.fdiv_eq_ediv_of_nonneg i (by lia)]; exact q) (.inl (PyProof.noPylong_of_log2 ?_))
 have h3 : j.natAbs < 2 ^ 64 := by lia
 have h4 : j.natAbs ≠ 0 := by lia
 have := (Nat.log2_lt h4).mpr h3
 lia
variable {δ : Type} [DecidableEq δ] {n : Nat} {R : Hp → V → δ → Prop}
theorem ep_lst (ep : EqRep X n R) : EqRep X (n + 1) (rLst X.K R) where
 eq := fun H x y dx dy hx hy A pins s σ u v I ru rv hu => by
  obtain ⟨a, xs, rfl, ha, px⟩ := hx
  obtain ⟨b, ys, rfl, hb, py⟩ := hy
  cases ru
  cases rv
  by_cases hab : a = b
  ·subst hab
   have := I.list_inj ha hb
   subst this
   rw [paired_fn ep I px py, decide_eq_true rfl]
   exact SeqAt.EqAt.same _
  ·obtain ⟨us, r1, p1, _⟩ := I.list ha
   obtain ⟨vs, r2, p2, _⟩ := I.list hb
   have l1 := r1.length
   have l2 := r2.length
   have l3 := Paired.length px
   have l4 := Paired.length py
   refine SeqAt.EqAt.of_refs hab ?_
   by_cases hl : dx.length = dy.length
   ·have := SeqAt.RcAt.lists (A := A) (e := fun j => decide (dx[j]? = dy[j]?)) p1.isList p2.isList (by simp only [List.size_toArray]; lia) (by lia) (items_eq ep I px py r1 r2 (by show A.units + 1 + n < cLine; lia))
    rw [List.size_toArray, show us.length = dx.length by lia, all_dec dx dy hl] at this
    exact this
   ·rw [decide_eq_false (fun z => hl (by rw [z]))]
    exact SeqAt.RcAt.lists_lengths p1.isList p2.isList (by simp only [List.size_toArray]; simpa using (by lia : us.length ≠ vs.length)) (by lia)
 fn := fun pins s σ H x d d' I h h' => by
  obtain ⟨a, xs, rfl, ha, px⟩ := h
  obtain ⟨b, ys, e, hb, py⟩ := h'
  cases e
  have := I.list_inj ha hb
  subst this
  exact paired_fn ep I px py
theorem Room.units3 {k : Nat} {A : Around} (r : Room k A) : A.units + 1 + (0 + 1 + 1) < cLine := by have := r.un; lia
end
end L2
namespace L2
open PySem PySem.Spec PyProof.Rows
section
variable {X : Cx} {k n : Nat} {C : Addr} {ps : List Str} {dvs : List V} {kb : FuncData → Prop} {sp : Sp} {x m : Str} {p pos apos kpos : Pos} {e o : Expr} {es : List Expr} {ta te : TE} {t : TA}
theorem kit_own {K : PySem.W.Frag} {C D : Addr} (hc : PySem.W.isClsIn K D = true) (ht : PySem.W.typeIn K (.ref D) = some (.type "type")) (hs : PySem.W.subIn K (.ref C) (.ref D) = some true) : PySem.W.kitOne K (.ref C) (.ref D) = some true := by
 unfold PySem.W.kitOne
 split
 ·rfl
 ·show (if ((PySem.W.clsIn K D).isSome && PySem.W.typeIn K (.ref D) == some (.type "type")) = true then PySem.W.subIn K (.ref C) (.ref D) else none) = some true
  rw [if_pos (by rw [show (PySem.W.clsIn K D).isSome = true from hc, ht]; rfl), hs]
end
end L2
namespace L2
open PySem PySem.Spec PyProof.Rows
section
variable {X : Cx}
noncomputable def rNeNil (K : PySem.W.Frag) : R2 := fun x y H Q => ∃ (a b : Addr) (xs : List V), x = .ref a ∧ y = .ref b ∧ SqL K H a xs ∧ SqL K H b [] ∧ Q (.bl (!decide (xs = []))) H
theorem op_neNilK (K : PySem.W.Frag) (hu : X.A.units < cLine) (h : X.K = K := by rfl) : OpR X (compareOp .NotEq) (rNeNil K) := by
 subst h
 intro pins s σ H x y v u Q I rx ry h
 obtain ⟨a, b, xs, rfl, rfl, ha, hb, q⟩ := h
 cases rx
 cases ry
 obtain ⟨us, r1, p1, _⟩ := I.list ha
 obtain ⟨vs, r2, p2, _⟩ := I.list hb
 cases r2
 have l1 := r1.length
 cases xs with
 | nil =>
  cases r1
  refine SeqAt.RcNeAt.lists (e := fun j => true) p1.isList p2.isList rfl (by lia) (fun j h1 h2 => absurd h1 (by simp)) X.prog X.w X.xe _ ?_
  exact ⟨.bl false, H, I, rfl, q⟩
 | cons x t =>
  refine SeqAt.RcNeAt.lists_lengths p1.isList p2.isList (by simp only [List.size_toArray]; rw [← l1]; simp) (by lia) X.prog X.w X.xe _ ?_
  exact ⟨.bl true, H, I, rfl, q⟩
noncomputable def rEqNil (K : PySem.W.Frag) : R2 := fun x y H Q => ∃ (a b : Addr) (xs : List V), x = .ref a ∧ y = .ref b ∧ SqL K H a xs ∧ SqL K H b [] ∧ Q (.bl (decide (xs = []))) H
theorem op_eqNilK (K : PySem.W.Frag) (hu : X.A.units < cLine) (h : X.K = K := by rfl) : OpR X (compareOp .Eq) (rEqNil K) := by
 subst h
 intro pins s σ H x y v u Q I rx ry h
 obtain ⟨a, b, xs, rfl, rfl, ha, hb, q⟩ := h
 cases rx
 cases ry
 obtain ⟨us, r1, p1, _⟩ := I.list ha
 obtain ⟨vs, r2, p2, _⟩ := I.list hb
 cases r2
 have l1 := r1.length
 cases xs with
 | nil =>
  cases r1
  refine SeqAt.RcAt.lists (e := fun j => true) p1.isList p2.isList rfl (by lia) (fun j h1 h2 => absurd h1 (by simp)) X.prog X.w X.xe _ ?_
  exact ⟨.bl true, H, I, rfl, q⟩
 | cons x t =>
  refine SeqAt.RcAt.lists_lengths p1.isList p2.isList (by simp only [List.size_toArray]; rw [← l1]; simp) (by lia) X.prog X.w X.xe _ ?_
  exact ⟨.bl false, H, I, rfl, q⟩
end
theorem seq_cut {A u : TS} {D : Ends} {σ : St} {H : Hp} (S : St → Hp → Prop) (h1 : ∀ R : St → Hp → Prop, (∀ σ' H', S σ' H' → R σ' H') → A { D with nx := R } σ H) (h2 : ∀ σ' H', S σ' H' → u D σ' H') : tSeq A u D σ H := h1 (u D) h2
end L2
namespace L2
open PySem PySem.Spec PyProof.Rows
theorem ObjOk.at_ {P : Program} {w : World} {H : Hp} {h : Heap} {a : Addr} {o : HO} (x : ObjOk P w H h a o) : ∃ u, h.get? a = some u := by
 cases o with
 | lst xs => obtain ⟨_, _, _, _, e⟩ := x; exact ⟨_, e⟩
 | tup xs => obtain ⟨_, _, _, p⟩ := x; exact ⟨_, p.choose_spec.1⟩
 | dK kvs => obtain ⟨_, _, _, _, o, _, _, e, _⟩ := x; exact ⟨_, e⟩
 | dT kvs => obtain ⟨_, _, _, _, o, _, _, e, _⟩ := x; exact ⟨_, e⟩
 | set S n => obtain ⟨o, _, _, _, e, _⟩ := x; exact ⟨_, e⟩
 | ins C dx fs => obtain ⟨_, _, _, e, _⟩ := x; exact ⟨_, e⟩
 | own y => obtain ⟨_, e⟩ := x; exact ⟨_, e⟩
 | xd fs => obtain ⟨_, ⟨_, _, _, e, _⟩, _⟩ := x; exact ⟨_, e⟩
 | rng lo hi => obtain ⟨_, _, _, e⟩ := x; exact ⟨_, e⟩
 | frz ob u => obtain ⟨e, _⟩ := x; exact ⟨_, e⟩
 | tbl ps => exact ⟨_, (show h.get? a = some _ from x)⟩
 | met f y => exact ⟨_, (show h.get? a = some _ from x)⟩
 | ext φ => obtain ⟨_, e, _⟩ := x; exact e
structure Fly (fs : List Addr) (H1 H2 : Hp) (h1 B h2 : Heap) : Prop where
 kp : ∀ b o, h1.get? b = some o → b ∉ fs → (∃ o', B.get? b = some o') ∧ (H1 b = none → B.get? b = some o)
 sl : ∀ b o, h1.get? b = some o → b ∈ fs → ∃ sl, h2.get? b = some { o with slots := sl }
 free : ∀ b o, h1.get? b = some o → H1 b = none → H2 b = none
 tups : ∀ b xs, H1 b = some (.tup xs) → H2 b = some (.tup xs)
 frzs : ∀ b o u, H1 b = some (.frz o u) → H2 b = some (.frz o u)
 tbls : ∀ b ps, H1 b = some (.tbl ps) → ∃ more, H2 b = some (.tbl (ps ++ more))
theorem Fly.un {fs : List Addr} {H1 H2 : Hp} {h1 B h2 : Heap} (f : Fly fs H1 H2 h1 B h2) (st : B.StaysIn h2) : Un fs [] H1 H2 h1 h2 where
 keep := fun b o e n hb _ => st b o ((f.kp b o e hb).2 n)
 slot := fun b o e _ hb _ => f.sl b o e hb
 free := fun b o e n _ => f.free b o e n
 there := fun b o e _ => by
  by_cases hb : b ∈ fs
  ·obtain ⟨sl, q⟩ := f.sl b o e hb; exact ⟨_, q⟩
  ·obtain ⟨⟨o', q⟩, _⟩ := f.kp b o e hb; exact ⟨o', st _ _ q⟩
 tups := f.tups
 frzs := f.frzs
 tbls := f.tbls
theorem Fly.up {fs : List Addr} {H1 H2 : Hp} {h1 B h2 h3 : Heap} (f : Fly fs H1 H2 h1 B h2) (up : ∀ b ∈ fs, ∀ o, h2.get? b = some o → ∃ sl, h3.get? b = some { o with slots := sl }) : Fly fs H1 H2 h1 B h3 :=
 ⟨f.kp, fun b o e hb => by
  obtain ⟨s1, q1⟩ := f.sl b o e hb
  obtain ⟨s2, q2⟩ := up b hb _ q1
  exact ⟨s2, q2⟩, f.free, f.tups, f.frzs, f.tbls⟩
theorem Fly.after {fs fs' : List Addr} {H0 H1 H2 : Hp} {h0 h1 B h2 : Heap} (u : Un fs [] H0 H1 h0 h1) (f : Fly fs' H1 H2 h1 B h2) (hL : ∀ b o, h0.get? b = some o → b ∉ fs → b ∉ fs') (hs : ∀ b ∈ fs, b ∈ fs') (hf : ∀ b ∈ fs, H0 b = none) :
  Fly fs H0 H2 h0 B h2 where
 kp := fun b o e hb => by
  obtain ⟨o1, e1⟩ := u.there b o e (by simp)
  refine ⟨(f.kp b o1 e1 (hL b o e hb)).1, fun n => ?_⟩
  exact (f.kp b o (u.keep b o e n hb (by simp)) (hL b o e hb)).2 (u.free b o e n (by simp))
 sl := fun b o e hb => by
  obtain ⟨s1, q1⟩ := u.slot b o e (hf b hb) hb (by simp)
  obtain ⟨s2, q2⟩ := f.sl b _ q1 (hs b hb)
  exact ⟨s2, q2⟩
 free := fun b o e n => by
  obtain ⟨o1, e1⟩ := u.there b o e (by simp)
  exact f.free b o1 e1 (u.free b o e n (by simp))
 tups := fun b xs e => f.tups b xs (u.tups b xs e)
 frzs := fun b o x e => f.frzs b o x (u.frzs b o x e)
 tbls := fun b ps e => by
  obtain ⟨m1, e1⟩ := u.tbls b ps e
  obtain ⟨m2, e2⟩ := f.tbls b _ e1
  exact ⟨m1 ++ m2, by rw [e2, Array.append_assoc]⟩
noncomputable def CXE (P : Program) (w : World) : CXT := fun outer H s E e s' => ∃ (ea C : Addr) (a0 : Value) (B : Heap) (H' : Hp),
 e = .ref ea ∧ s'.os = s.os ∧ AllBare s'.gens ∧ Heap.FlyingW B outer ea (.ref C) a0 s'.heap ∧ Fly (frs outer) H H' s.heap B s'.heap ∧ HOk P w H' B ∧ E (.ref C) none H'
noncomputable def Lets (X : Cx) (E : XK) : Prop := ∀ (pins : List (Addr × Obj)) (σ : St) (H : Hp) (s : Shared) (C e : Addr) (h' : Heap) (args : List Value), Inv X pins σ H s → Heap.MadeExcOf s.heap h' e (.ref C) args → E (.ref C) none H → X.xe (.ref e) { s with heap := h' }
noncomputable def PassS (X : Cx) (E : St → XK) : Prop := ∀ (pins : List (Addr × Obj)) (σ : St) (H : Hp) (s : Shared) (e : Value) (s' : Shared), Inv X pins σ H s → CXE X.prog X.w X.stack H s (E σ) e s' → X.xe e s'
section
variable {P : Program} {w : World} {K : PySem.W.Frag} {mg : Str → Option Value} {base : Heap} {N : List Str} {qual : Str} {scope : Scope} {f : Addr} {cd : Value} {A : Around} {outer : List Env} {s : Shared} {H : Hp} {E : XK}
theorem frs_cons {env : Env} {L : Addr} {l : List Env} (h : env.frame = some L) : frs (env :: l) = L :: frs l := by unfold frs; rw [List.filterMap_cons, h]
theorem lets_cx : Lets (cxOf (CXE P w) P w K mg base N qual scope f cd A outer s H E) E := by
 intro pins σ H1 s1 C e h' args I hx hE
 show wpAny _ _ (leaving _ (.ref e)) _ _ _
 have fr : frs (cxOf (CXE P w) P w K mg base N qual scope f cd A outer s H E).stack = s.heap.objs.size :: frs outer := frs_cons rfl
 have hin : ∀ env ∈ (cxOf (CXE P w) P w K mg base N qual scope f cd A outer s H E).stack, ∀ a, env.frame = some a → a ∈ frs (cxOf (CXE P w) P w K mg base N qual scope f cd A outer s H E).stack := fun env he b hb => List.mem_filterMap.mpr ⟨env, he, hb⟩
 have frees := I.stkFree
 have stk := I.stack
 refine wpAny_leaves_madeW (base := PySem.W.hideAll s1.heap (frs (cxOf (CXE P w) P w K mg base N qual scope f cd A outer s H E).stack)) (h := s1.heap) I.ok.frames rfl (fun b o q => PySem.W.of_hideAll _ q) (PySem.W.funFrames_hide stk hin) hx fun h'' t fl _ _ up => ?_
 have f2 : Fly (frs (cxOf (CXE P w) P w K mg base N qual scope f cd A outer s H E).stack) H1 H1 s1.heap (PySem.W.hideAll s1.heap (frs (cxOf (CXE P w) P w K mg base N qual scope f cd A outer s H E).stack)) h'' :=
  ⟨fun b o e1 hb => ⟨⟨o, PySem.W.hideAll_get _ e1 hb⟩, fun _ => PySem.W.hideAll_get _ e1 hb⟩, fun b o e1 hb => up b o (hx.keeps b o e1) (by
   obtain ⟨_, o', q, d⟩ := stk.mem hb
   rw [e1] at q; cases q; exact d), fun _ _ _ n => n, fun _ _ q => q, fun _ _ _ q => q, fun _ ps q => ⟨#[], by rw [q]; simp⟩⟩
 refine ⟨e, C, _, _, H1, rfl, I.os, I.bare, fl, f2.after (u := I.base) (fun b o e1 hb => ?_) (fun b hb => by rw [fr]; exact List.mem_cons_of_mem _ hb) I.ok.frf, fun b u e1 => ?_, hE⟩
 ·rw [fr]
  intro z
  rcases List.mem_cons.mp z with z | z
  ·exact absurd (Heap.lt_size e1) (by rw [z]; exact Nat.lt_irrefl _)
  ·exact hb z
 ·refine (I.hok b u e1).stay (fun c v hc q => PySem.W.hideAll_get _ q fun hm => ?_) (fun _ q => q) fun _ _ q => q
  have hn := frees c hm
  rcases hc with z | z
  ·rw [z] at hn; rw [e1] at hn; cases hn
  ·rw [z] at hn; cases hn
theorem pass_cx {E2 : XK} (hE : ∀ c d H, E2 c d H → E c d H) : PassS (cxOf (CXE P w) P w K mg base N qual scope f cd A outer s H E) (fun _ => E2) := by
 intro pins σ H1 s1 e s' I c
 obtain ⟨ea, C, a0, B, H2, rfl, os, bare, fl, fy, hok, hE2⟩ := c
 show wpAny _ _ (leaving _ (.ref ea)) _ _ _
 have fr : frs (cxOf (CXE P w) P w K mg base N qual scope f cd A outer s H E).stack = s.heap.objs.size :: frs outer := frs_cons rfl
 refine wpAny_leaves_onW I.ok.frames rfl fl fun h'' fl' up => ?_
 have f2 := fy.up (h3 := h'') fun b hb o e1 => up b o e1 (by
  obtain ⟨_, o', q, d⟩ := fl.2.2.1.mem hb
  rw [e1] at q; cases q; exact d)
 refine ⟨ea, C, a0, B, H2, rfl, os.trans I.os, bare, fl', f2.after (u := I.base) (fun b o e1 hb => ?_) (fun b hb => by rw [fr]; exact List.mem_cons_of_mem _ hb) I.ok.frf, hok, hE _ _ _ hE2⟩
 rw [fr]
 intro z
 rcases List.mem_cons.mp z with z | z
 ·exact absurd (Heap.lt_size e1) (by rw [z]; exact Nat.lt_irrefl _)
 ·exact hb z
end
end L2
namespace L2
open PySem PySem.Spec PyProof.Rows
structure CalleeE (P : Program) (w : World) (K : PySem.W.Frag) (mg : Str → Option Value) (base : Heap) (k : Nat) (x : Str) (ps : List Str) (dvs : List V) (sp : Sp) : Prop where
 ex : ∃ (f : Addr) (fd : FuncData), FnOk P w K mg base (CXE P w) k f fd ps sp ∧ (∀ m, m ≤ dvs.length → ∃ ds, Vals (dvs.drop m) ds ∧ Binds K fd ps ds) ∧ PySem.W.keepIn K (.ref f) = true ∧ mg x = some (.ref f)
section
variable {P : Program} {w : World} {K : PySem.W.Frag} {mg : Str → Option Value} {base : Heap}
theorem Def.okE {x : Str} {st : Stmt} {N ps : List Str} {k : Nat} {sp : Sp} (D : Def K mg x st ps) (S : FnScope N ps (defScope st)) (len : ∀ vs H Q E, sp vs H Q E → vs.length = ps.length)
  (hbody : ∀ (f : Addr) (cdv : Value) (A : Around) (outer : List Env) (s : Shared) (H : Hp) (vs : List V) (Q : VK) (E : XK), Room k (A.deeper (envOfC x (defScope st) s.heap.objs.size f cdv)) → sp vs H Q E →
   ∃ t, PSs (cxOf (CXE P w) P w K mg base N x (defScope st) f cdv A outer s H E) (defBody st) t ∧ t { nx := fun _ H' => Q .non H', rt := Q } (start N vs) H) : CalleeE P w K mg base (k + 1) x ps [] sp := by
 obtain ⟨f, fd, ⟨⟨oc, od, kV, doc, pm, an, cdv, ct, osl, rfl, lk, hcd⟩, kp⟩, b, m⟩ := D.ex
 refine ⟨f, _, fn_of lk hcd S len fun A outer s H vs Q E hr hsp => hbody f cdv A outer s H vs Q E hr hsp, fun j hj => ⟨[], ?_, b⟩, kp, m⟩
 rw [List.drop_nil]; exact .nil
end
noncomputable def tCallS (sp : Sp) (dvs : List V) (E : St → XK) (t : TA) : TE := fun σ H Q => t σ H fun vs H1 => sp (vs ++ dvs) H1 Q (E σ)
section
variable {X : Cx} {k n : Nat} {ps : List Str} {dvs : List V} {sp : Sp} {x : Str} {p pos : Pos} {e : Expr} {es : List Expr} {t : TA} {E : St → XK}
theorem run_fnE {f : Addr} {fd : FuncData} {ds : List Value} {pins : List (Addr × Obj)} {σ : St} {H : Hp} {s : Shared} {Q : VK} {us : List Value} {vs : List V} (F : FnOk X.prog X.w X.K X.mg X.base (CXE X.prog X.w) k f fd ps sp) (hr : Room k X.A) (hb : Binds X.K fd ps ds) (hd : Vals dvs ds) (hx : PassS X E)
  (I : Inv X pins σ H s) (r : Vals vs us) (h : sp (vs ++ dvs) H Q (E σ)) : wpAny (model X.prog X.w) X.A (call (.ref f) us) (EP X pins σ Q) X.xe s := by
 have r2 : Vals (vs ++ dvs) (us ++ ds) := r.append hd
 have hl : (us ++ ds).length = ps.length := by rw [← r2.length]; exact F.len _ _ _ _ h
 refine wpAny_call (codeAny_mono (F.run X.A X.stack s H ⟨us, []⟩ (us ++ ds) (vs ++ dvs) Q (E σ) hr I.env0 (hb s us I.kIn hl) r2 h) fun r s' hq => ?_)
 cases r with
 | error e => exact hx pins σ H s e s' I hq
 | ok fl =>
  cases fl with
  | ret u => exact I.after hq
  | next => exact False.elim hq
  | brk => exact False.elim hq
  | cont => exact False.elim hq
theorem pe_fnE (m : Nat) (C : CalleeE X.prog X.w X.K X.mg X.base k x ps dvs sp) (hx : PassS X E) (hr : Room n X.A) (hg : Gl X x) (ha : PA X (e :: es) t) (hm : m ≤ dvs.length := by decide) (hk : k ≤ n := by decide) (hdb : (x == ("__debug__" : Str)) = false := by decide)
  (he : starEach (e :: es) X.env = (false, eval e X.env) :: starEach es X.env := by rfl) (hpl : (backTo pos (starEach es X.env)).any (·.1) = false := by rfl) :
  PE X (.Call (.Name x p) (e :: es) [] pos) (tCallS sp (dvs.drop m) E t) := by
 obtain ⟨f, fd, F, b, kp, mm⟩ := C.ex
 obtain ⟨ds, hv, hb⟩ := b m hm
 intro pins s σ H Q I h
 refine wpAny_Call_Name_kw (ld_glob I hg mm ?_ hdb)
 refine PySem.W.callWith_K (h₀ := X.base) I.ok.mod.kin kp (thn (ha pos pins s σ H _ I h) fun us s1 ⟨vs, H1, I1, r, q⟩ => ⟨I1.kIn, ?_⟩) he hpl
 exact run_fnE F (hr.mono hk) hb hv hx I1 r q
end
noncomputable def vErr : List Value := [.type "ValueError", .type "Exception", .type "BaseException", .type "object"]
structure ExcC (K : PySem.W.Frag) (mg : Str → Option Value) (x : Str) (C : Addr) : Prop where
 mg : mg x = some (.ref C)
 exc : PySem.W.excIn K C vErr "ValueError.__new__" = true
theorem ExcC.own {K : PySem.W.Frag} {mg : Str → Option Value} {x : Str} {C : Addr} {h : Heap} (M : ExcC K mg x C) (X : K.In h) : OwnCls x C vErr "ValueError.__new__" mg h := by
 refine ⟨M.mg, ?_⟩
 have q := M.exc
 unfold PySem.W.excIn at q
 split at q
 ·rename_i dd cd sl ho
  split at q
  ·rename_i C' bm k0 k1 k2 k3 n k5 hm hs
   simp only [Bool.and_eq_true, beq_iff_eq, Bool.not_eq_true'] at q
   obtain ⟨⟨⟨⟨⟨rfl, rfl⟩, hdel⟩, ht⟩, hok⟩, hni⟩ := q
   obtain ⟨nm, bs, mro, ns, qn, hd, sn, sub, ab, col, del⟩ := cd
   dsimp only at hm hdel hok hni
   subst hm hdel
   have hsl : sl = #[k0, k1, k2, k3, some (.builtin "ValueError.__new__"), k5] := by
    obtain ⟨l⟩ := sl
    simp only at hs
    rw [hs]
   subst hsl
   exact ⟨bm, ns, nm, qn, bs, hd, sn, sub, ab, col, dd, k0, k1, k2, k3, k5, _, X _ _ ho, .of_isNs (PySem.W.isNs_of_in X hok), PySem.W.nsMap_none_of_in X hok hni, PySem.W.tail_of_in X ht⟩
  ·cases q
 ·cases q
section
variable {X : Cx} {C : Addr} {x : Str} {E : XK} {np cpos pos : Pos} {e : Expr} {ta : TE}
noncomputable def tRaise (C : Addr) (E : XK) (ta : TE) : TS := fun _ σ H => ta σ H fun _ H1 => E (.ref C) none H1
theorem ps_raise (hl : Lets X E) (M : ExcC X.K X.mg x C) (hh : X.A.handled = none) (hg : Gl X x) (ha : PE X e ta) (hdb : (x == ("__debug__" : Str)) = false := by decide)
  (he : starEach [e] X.env = (false, eval e X.env) :: starEach [] X.env := by rfl) : PS X (.Raise (some (.Call (.Name x np) [e] [] cpos)) none pos) (tRaise C E ta) := by
 intro pins s σ H D I h
 obtain ⟨tl, N, nm, q, bs, hdct, sn, sub, ab, col, dd, k0, k1, k2, k3, k5, mN, hC, hN, hni, T⟩ := (M.own I.ok.mod.kin).obj
 refine wpAny_Raise_call_subT (C := C) (nm := nm) (q := q) (N := N) (bs := bs) (bm := tl) (hdct := hdct) (sn := sn) (sub := sub) (ab := ab) (col := col) (dd := dd) (k0 := k0) (k1 := k1) (k2 := k2) (k3 := k3) (k5 := k5)
  PySem.F.excBase_ValueError (mN := mN) (T.hasType PySem.F.excBase_ValueError.hasBase) hh (by rw [he]; rfl) hni (ld_glob I hg M.mg ⟨rfl, ?_⟩ hdb)
 rw [he]
 refine Calls.evalArgs_plain ?_
 show wpAny _ _ (spliced ((false, eval e X.env) :: backTo cpos (starEach [] X.env))) _ _ s
 refine Calls.spliced_cons (thn (ha pins s σ H _ I h) fun u s2 ⟨v, H2, I2, r, q⟩ => ?_)
 have hk := I2.bk
 exact Calls.spliced_nil ⟨rfl, (by show 1 ≤ sizeLine; decide), hk _ _ hC, hN.keeps hk, T.keeps hk, fun h' e' hm => hl pins σ H2 s2 C e' h' _ I2 hm q⟩
end
end L2
namespace L2
open PySem PySem.Spec PyProof.Rows
noncomputable def ExcO (ea C : Addr) : HO := .ext fun h => ∃ o vs, h.get? ea = some o ∧ o.cls = .ref C ∧ o.data = .fields vs
noncomputable abbrev Cx.pinned (X : Cx) (pn : List (Addr × Obj)) : Cx := { X with pn := pn }
noncomputable def xeT (X : Cx) (pn : List (Addr × Obj)) (E : St → XK) : Value → Shared → Prop := fun e s' => ∃ (pins : List (Addr × Obj)) (σ : St) (H : Hp) (s1 : Shared), Inv (X.pinned pn) pins σ H s1 ∧ CXE X.prog X.w X.stack H s1 (E σ) e s'
noncomputable abbrev tcx (X : Cx) (pn : List (Addr × Obj)) (E : St → XK) : Cx := (X.pinned pn).wish (xeT X pn E)
noncomputable abbrev hcx (X : Cx) (ea : Addr) : Cx := { X with A := X.A.mark (some (.ref ea)), calm := false, xe := fun _ _ => False }
section
variable {X : Cx} {pins : List (Addr × Obj)} {σ : St} {H : Hp} {s : Shared}
theorem pass_try {pn : List (Addr × Obj)} {E : St → XK} : PassS (tcx X pn E) E := fun pins σ H s _ _ I c => ⟨pins, σ, H, s, I.unwish, c⟩
theorem Inv.toPinned (I : Inv X pins σ H s) : Inv (X.pinned (X.pn ++ pins)) [] σ H s :=
 ⟨⟨I.ok.mod, I.ok.kind, I.ok.glob, I.ok.blt, I.ok.above, I.ok.inj, I.ok.has, I.ok.cab, I.ok.hd, I.ok.frames, I.ok.stk, I.ok.exf, I.ok.bs, I.ok.bsz, I.ok.noex, I.ok.exfs, I.ok.funs, I.ok.frf⟩, I.os, I.bare, I.base, I.loc, I.cell, I.free, I.freeC, fun p hp => I.pin p (by rw [List.append_nil] at hp; exact hp), I.hok, I.len⟩
theorem Inv.ofPinned {ps : List (Addr × Obj)} (I : Inv (X.pinned (X.pn ++ pins)) ps σ H s) : Inv X pins σ H s :=
 ⟨⟨I.ok.mod, I.ok.kind, I.ok.glob, I.ok.blt, I.ok.above, I.ok.inj, I.ok.has, I.ok.cab, I.ok.hd, I.ok.frames, I.ok.stk, I.ok.exf, I.ok.bs, I.ok.bsz, I.ok.noex, I.ok.exfs, I.ok.funs, I.ok.frf⟩, I.os, I.bare, I.base, I.loc, I.cell, I.free, I.freeC, fun p hp => I.pin p (List.mem_append_left _ hp), I.hok, I.len⟩
theorem Inv.toH (I : Inv X pins σ H s) (ea : Addr) : Inv (hcx X ea) pins σ H s :=
 ⟨⟨I.ok.mod, I.ok.kind, I.ok.glob, I.ok.blt, I.ok.above, I.ok.inj, I.ok.has, I.ok.cab, (fun z => nomatch z), I.ok.frames, I.ok.stk, I.ok.exf, I.ok.bs, I.ok.bsz, I.ok.noex, I.ok.exfs, I.ok.funs, I.ok.frf⟩, I.os, I.bare, I.base, I.loc, I.cell, I.free, I.freeC, I.pin, I.hok, I.len⟩
theorem Inv.ofH {ea : Addr} (ok : X.Ok) (I : Inv (hcx X ea) pins σ H s) : Inv X pins σ H s :=
 ⟨ok, I.os, I.bare, I.base, I.loc, I.cell, I.free, I.freeC, I.pin, I.hok, I.len⟩
theorem goes_ok {M : Model} {A : Around} {E : Value → Shared → Prop} {i : Nat} {n : Str} {pos : Pos} {Q : Unit → Shared → Prop} (I : Inv X pins σ H s) (hN : X.N.Nodup) (hi : X.N[i]? = some n) (hl : X.env.scope.names.lookup n = some .local)
  (h : ∀ s', Inv X pins (σ.set i none) H s' → Q () s') : wpAny M A (do bindName X.env n .none; unbindBehindTheSuite X.env n pos) Q E s := by
 obtain ⟨m, hn, hlm⟩ := id I.loc
 have hcls : (X.env.scope.kind == .class || (X.env.scope.kind == .module && X.env.locals != X.env.globals)) = false := by rw [I.ok.kind]; rfl
 have cne := I.cne
 obtain ⟨oL, _, _, hoL, _⟩ := id hn
 have iσ : i < σ.length := by rw [I.len]; exact (List.getElem?_eq_some_iff.mp hi).1
 refine wpAny_nameGoes_keeps hl hn hcls fun h' v hn' hs => ?_
 refine h _ ⟨I.ok, I.os, I.bare, ⟨fun b o e n hb hx => ?_, fun b o e n hb hx => ?_, I.base.free, fun b o e hx => ?_, I.base.tups, I.base.frzs, I.base.tbls⟩, ⟨_, hn', fun j y v' e1 e2 e3 => ?_⟩, fun y c e => ?_, I.free, I.freeC, fun p hp => ?_, fun b ob e => ?_, by simpa using I.len⟩
 ·exact (hs.2 b (Nat.ne_of_lt (Nat.lt_of_lt_of_le (Heap.lt_size e) I.ok.above))).trans (I.base.keep b o e n hb hx)
 ·obtain ⟨sl, e1⟩ := I.base.slot b o e n hb hx
  exact ⟨sl, (hs.2 b (Nat.ne_of_lt (Nat.lt_of_lt_of_le (Heap.lt_size e) I.ok.above))).trans e1⟩
 ·obtain ⟨o', e1⟩ := I.base.there b o e hx
  exact ⟨o', (hs.2 b (Nat.ne_of_lt (Nat.lt_of_lt_of_le (Heap.lt_size e) I.ok.above))).trans e1⟩
 ·by_cases hj : j = i
  ·subst hj
   rw [List.getElem?_set_self iσ] at e2
   cases e2
  ·rw [List.getElem?_set_ne (Ne.symm hj)] at e2
   obtain ⟨u', r', q⟩ := hlm j y v' e1 e2 e3
   refine ⟨u', r', ?_⟩
   rcases q with ⟨k, e⟩ | ⟨k, c, e, z⟩
   ·refine .inl ⟨k, ?_⟩
    have : y ≠ n := fun e => hj (nodup_ix hN e1 (e ▸ hi))
    simp [this, e]
   ·exact .inr ⟨k, c, e, z.sameBut hs (cne y c e)⟩
 ·obtain ⟨w', z⟩ := I.cell y c e
  exact ⟨w', z.sameBut hs (cne y c e)⟩
 ·obtain ⟨e, n, ne, nf, d⟩ := I.pin p hp
  exact ⟨(hs.2 p.1 ne).trans e, n, ne, nf, d⟩
 ·refine (I.hok b ob e).stay (fun c w' hc q => (hs.2 c ?_).trans q) (fun _ q => q) fun _ _ q => q
  rintro rfl
  have fr := I.free
  rcases hc with rfl | hc
  ·rw [fr] at e; cases e
  ·rw [fr] at hc; cases hc
end
section
variable {X : Cx}
noncomputable def Ends.gone (D : Ends) (i : Nat) : Ends := { nx := fun σ H => D.nx (σ.set i none) H, rt := D.rt, bk := fun σ H => D.bk (σ.set i none) H, ct := fun σ H => D.ct (σ.set i none) H }
noncomputable def tTry (K : PySem.W.Frag) (c : Value) (i : Nat) (tb : (St → XK) → TS) (th : TS) : TS := fun D σ H => ∃ E : St → XK, tb E D σ H ∧ ∀ σ' c0 d H', E σ' c0 d H' → σ'.length = σ.length ∧ PySem.W.exmOne K c0 c = some true ∧
 ∀ (ea C : Addr), c0 = .ref C → H' ea = none → th (D.gone i) (σ'.set i (some (.ref ea))) (upd H' ea (ExcO ea C))
theorem ps_try {x n : Str} {c : Value} {i : Nat} {body : List Stmt} {b₀ : Stmt} {suite : List Stmt} {np hpos pos : Pos} {tb : (St → XK) → TS} {th : TS} (hg : Gl X x) (hm : X.mg x = some c) (hN : X.N.Nodup) (hi : X.N[i]? = some n)
  (hl : X.env.scope.names.lookup n = some .local) (hst : X.stack = X.env :: X.outer) (hf : X.env.frame = some X.env.locals) (hx0 : X.ex = [])
  (hb : ∀ (pn : List (Addr × Obj)) (E : St → XK), PSs (tcx X pn E) body (tb E)) (hs : ∀ ea, PSs (hcx X ea) (b₀ :: suite) th) (hdb : (x == ("__debug__" : Str)) = false := by decide) :
  PS X (.Try body [.ExceptHandler (some (.Name x np)) (some n) (b₀ :: suite) hpos] [] [] pos) (tTry X.K c i tb th) := by
 intro pins s σ H D I h
 obtain ⟨E, h1, h2⟩ := h
 have lenσ := I.len
 refine wpAny_Try_except ?_
 refine wpAny_mono (hb (X.pn ++ pins) E [] s σ H D (I.toPinned.wish _) h1) (fun fl s1 q => ?_) (fun e s1 q => ?_)
 ·cases fl with
  | next => obtain ⟨σ', H', J, q⟩ := q; exact wpAny_execs_nil ⟨σ', H', J.unwish.ofPinned, q⟩
  | brk => obtain ⟨σ', H', J, q⟩ := q; exact ⟨σ', H', J.unwish.ofPinned, q⟩
  | cont => obtain ⟨σ', H', J, q⟩ := q; exact ⟨σ', H', J.unwish.ofPinned, q⟩
  | ret u => obtain ⟨v, σ', H', J, r, q⟩ := q; exact ⟨v, σ', H', J.unwish.ofPinned, r, q⟩
 ·obtain ⟨ps, σ1, H1, s0, J0, ea, C, a0, B, H2, rfl, os, bare, fl, fy, hok, hE⟩ := q
  have J1 : Inv X pins σ1 H1 s0 := J0.ofPinned
  obtain ⟨lσ, hex, hth⟩ := h2 σ1 _ _ H2 hE
  have he2 : H2 ea = none := by
   cases q : H2 ea with
   | none => rfl
   | some o => obtain ⟨u, e⟩ := (hok ea o q).at_; rw [fl.2.1] at e; cases e
  have hframes : X.A.frames = some (X.env :: X.outer) := hst ▸ I.ok.frames
  have flup : ∀ {h3 : Heap}, s1.heap.UpToSlots h3 → Fly (frs X.stack) H1 H2 s0.heap B h3 := fun {h3} up => fy.up fun b hb o e1 => up b o e1 (by
   obtain ⟨_, o', q, d⟩ := fl.2.2.1.mem hb
   rw [e1] at q; cases q; exact d)
  have inv : ∀ {h3 : Heap} {t : Nat}, s1.heap.UpToSlots h3 → B.StaysIn h3 → Inv X pins σ1 H2 { s1 with heap := h3, toks := t } := fun {h3 t} up st =>
   J1.call' (s' := { s1 with heap := h3, toks := t }) (ch := []) os ((flup up).un st) (hok.kept st) bare (fun _ z => nomatch z)
  refine wpAny_looks_onW hframes hf (hst ▸ fl) fun h4 held up4 => ?_
  refine wpAny_landsW held fun h5 fl5 up5 => ?_
  have up45 := up4.trans up5
  have I5 : Inv X pins σ1 H2 { s1 with heap := h5 } := inv (t := s1.toks) up45 fl5.1
  obtain ⟨ob, hob, hobc⟩ := fl5.there
  refine wpAny_handleBy_cons (codeAny_handlers_test (ld_glob (X := hcx X ea) (I5.toH ea) hg hm ?_ hdb)) (by intro q; cases q)
  have LT : PySem.W.Looks (model X.prog X.w) h5 (typeOf (.ref ea)) (.ref C) := hobc ▸ (PySem.W.Looks.ld hob).andThen .now
  refine (PySem.W.exm_one (M := model X.prog X.w) (K := X.K) (h := h5) I5.kIn LT hex).here ?_
  refine codeAny_handlers_suite_as ?_
  refine lands_againW fl5 fun h6 fl6 up6 => ?_
  have I6 : Inv X pins σ1 H2 { s1 with heap := h6 } := inv (t := s1.toks) (up45.trans up6) fl6.1
  obtain ⟨oe, ws, hoe, hoec, hoed, _⟩ := fl6.first
  have new : ObjOk X.prog X.w (upd H2 ea (ExcO ea C)) h6 ea (ExcO ea C) := ⟨⟨oe, ws, hoe, hoec, hoed⟩, ⟨oe, hoe⟩, fun g1 g2 ⟨o, vs, e1, e2, e3⟩ k => ⟨o, vs, k _ e1, e2, e3⟩⟩
  have none0 : X.s₀.heap.get? ea = none := by
   cases q : X.s₀.heap.get? ea with
   | none => rfl
   | some o =>
    exfalso
    have hx : ea ∉ X.ex := by rw [hx0]; simp
    obtain ⟨o1, e1⟩ := J1.base.there ea o q hx
    by_cases hb : ea ∈ frs X.stack
    ·obtain ⟨_, o', q', d⟩ := fl6.2.2.1.mem (hst ▸ hb)
     rw [hoe] at q'; cases q'; exact d _ hoed
    ·obtain ⟨⟨o', q'⟩, _⟩ := fy.kp ea o1 e1 hb
     rw [fl.2.1] at q'; cases q'
  have ne : ∀ {b : Addr} {u : HO}, H2 b = some u → b ≠ ea := fun {b u} e z => by rw [z, he2] at e; cases e
  have nL : X.env.locals ≠ ea := fun z => by
   obtain ⟨m, ⟨o, es, ep, ho, hd, _⟩, _⟩ := I6.loc
   rw [z] at ho
   have ho2 : h6.get? ea = some o := ho
   rw [hoe] at ho2; cases ho2; rw [hoed] at hd; cases hd
  have I7 : Inv X pins σ1 (upd H2 ea (ExcO ea C)) { s1 with heap := h6 } := by
   refine ⟨I6.ok, I6.os, I6.bare, ⟨I6.base.keep, I6.base.slot, fun b o e n hx => ?_, I6.base.there, fun b xs e => ?_, fun b o u e => ?_, fun b ps e => ?_⟩, I6.loc, I6.cell, ?_, fun y c e => ?_, fun p hp => ?_, fun b u e => ?_, I6.len⟩
   ·rw [upd_ne (fun z => by rw [z, none0] at e; cases e)]; exact I6.base.free b o e n hx
   ·have q := I6.base.tups b xs e; rw [upd_ne (ne q)]; exact q
   ·have q := I6.base.frzs b o u e; rw [upd_ne (ne q)]; exact q
   ·obtain ⟨m, q⟩ := I6.base.tbls b ps e; exact ⟨m, by rw [upd_ne (ne q)]; exact q⟩
   ·rw [upd_ne nL]; exact I6.free
   ·have nC : c ≠ ea := fun z => by
     obtain ⟨v, o, ho, hd⟩ := I6.cell y c e
     rw [z] at ho
     have ho2 : h6.get? ea = some o := ho
     rw [hoe] at ho2; cases ho2; rw [hoed] at hd; cases hd
    rw [upd_ne nC]; exact I6.freeC y c e
   ·obtain ⟨e, n, ne1, nf, d⟩ := I6.pin p hp
    obtain ⟨e0, n0, _, _, _⟩ := J1.pin p hp
    have np : p.1 ≠ ea := fun z => by
     have hb : p.1 ∉ frs X.stack := fun hm => (List.mem_cons.mp (J1.stkSub _ hm)).elim ne1 nf
     have q := (fy.kp p.1 p.2 e0 hb).2 n0
     rw [z, fl.2.1] at q; cases q
    exact ⟨e, by rw [upd_ne np]; exact n, ne1, nf, d⟩
   ·by_cases hb : b = ea
    ·subst hb; rw [upd_same] at e; cases e; exact new
    ·rw [upd_ne hb] at e
     exact (I6.hok b u e).stay (fun c v _ q => q) (fun c q => by rw [upd_ne (ne q)]; exact q) fun c xs q => by rw [upd_ne (ne q)]; exact q
  refine store_ok (X := hcx X ea) (I7.toH ea) hN hi (.inl hl) (v := .ref ea) rfl (fun s7 I8 => ?_) (.inr hl)
  refine wpAny_mono (hs ea pins s7 _ _ (D.gone i) I8 (hth ea C rfl he2)) (fun fl8 s8 q8 => ?_) fun _ _ z => z.elim
  cases fl8 with
  | next =>
   obtain ⟨σ', H', J, q⟩ := q8
   exact goes_ok (J.ofH I.ok) hN hi hl fun s9 J9 => ⟨_, H', J9, q⟩
  | brk =>
   obtain ⟨σ', H', J, q⟩ := q8
   exact goes_ok (J.ofH I.ok) hN hi hl fun s9 J9 => ⟨_, H', J9, q⟩
  | cont =>
   obtain ⟨σ', H', J, q⟩ := q8
   exact goes_ok (J.ofH I.ok) hN hi hl fun s9 J9 => ⟨_, H', J9, q⟩
  | ret u =>
   obtain ⟨v, σ', H', J, r, q⟩ := q8
   exact goes_ok (J.ofH I.ok) hN hi hl fun s9 J9 => ⟨v, _, H', J9, r, q⟩
end
end L2
namespace L2
open PySem PySem.Spec PyProof.Rows
open PySem.W (Looks)
open PySem.Builtin PySem.Builtin.ObjectAttr PySem.Builtin.Getset_descriptor
structure ExcX (K : PySem.W.Frag) (C : Addr) : Prop where
 ga : PySem.W.findIn K (.ref C) "__getattribute__" = some (some (.builtin "BaseException.__getattribute__"))
 gn : PySem.W.findIn K (.ref C) "__getattr__" = some none
 cl : PySem.W.findIn K (.ref C) "__class__" = some (some (.builtin "object.__class__"))
 gt : PySem.W.specialIn K (.builtin "object.__class__") "__get__" = some (some (.builtin "getset_descriptor.__get__"))
 tk : PySem.W.takesIn K (.builtin "object.__class__") = some true
 mo : PySem.W.mroIn K C (.type "object") = some true
 mb : PySem.W.mroIn K C (.type "BaseException") = some true
 cs : (PySem.W.clsIn K C).isSome = true
section
variable {prog : Program} {w : World} {A : Around} {E : Value → Shared → Prop} {s : Shared} {K : PySem.W.Frag} {x C : Addr}
theorem exc_find {M : Model} {h : Heap} (X : K.In h) (Z : ExcX K C) : Looks M h (find (.ref x) (.ref C) "__class__") (.bind (.builtin "getset_descriptor.__get__") (.builtin "object.__class__")) := by
 have L1 := PySem.W.looks_findIn (M := M) X Z.cl
 have L2 : Looks M h (getOf (some (.builtin "object.__class__"))) (some (.builtin "getset_descriptor.__get__")) := PySem.W.looks_specialIn X Z.gt
 have L3 := PySem.W.looks_takesIn (M := M) X Z.tk
 exact L1.andThen (L2.andThen ((show Looks M h (dataDescriptor? (some (.builtin "object.__class__")) (some (.builtin "getset_descriptor.__get__"))) (some (.builtin "getset_descriptor.__get__", .builtin "object.__class__")) from L3.andThen .now).andThen (Looks.tag .now)))
theorem exc_get {R : Result → Shared → Prop} {tp : Value} {o : Obj} (X : K.In s.heap) (Z : ExcX K C) (ho : s.heap.get? x = some o) (hc : o.cls = .ref C) (h : R (.ok (.ret (.ref C))) s) :
  codeAny (model prog w) A (.call (.builtin "getset_descriptor.__get__") ⟨[.builtin "object.__class__", .ref x, tp], []⟩) R s := by
 obtain ⟨hh, g, dr, t, os⟩ := s
 have L0 : Looks (model prog w) hh (typeOf (.ref x)) (.ref C) := hc ▸ (Looks.ld ho).andThen .now
 have L1 := PySem.W.looks_mroIn (M := model prog w) X Z.mo
 refine codeAny_call_builtin PySem.W.KF.slot_gs.plain PySem.W.KF.entry_gs (PySem.W.KF.slot_gs.check _ _ _ _ _ _ _ _ PySem.W.KF.type_class (PySem.W.KF.args_gs _ _ _) ?_)
 unfold Builtin.«getset_descriptor.__get__» descrGet
 rw [PySem.W.dga_obj]
 refine wpAny_bind (wpAny_pure ?_)
 unfold descrGetter descrCheckInstance descrNameAndClass isInstance
 simp only [PySem.W.KF.owner_class]
 repeat lk
 refine ⟨Code.quiet_builtin _ (by decide +kernel), codeAny_builtin PySem.W.KF.entry_class ?_⟩
 unfold Builtin.«object.__class__» shownTypeOf
 repeat lk
 exact h
theorem exc_class {Q : Option Value → Shared → Prop} {o : Obj} (X : K.In s.heap) (Z : ExcX K C) (ho : s.heap.get? x = some o) (hc : o.cls = .ref C) (h : Q (some (.ref C)) { s with toks := s.toks + 1 }) :
  wpAny (model prog w) A (getAttr? (.ref x) "__class__") Q E s := by
 obtain ⟨hh, g, dr, t, os⟩ := s
 have L0 : Looks (model prog w) hh (typeOf (.ref x)) (.ref C) := hc ▸ (Looks.ld ho).andThen .now
 have L1 := PySem.W.looks_findIn (M := model prog w) X Z.ga
 have L2 := PySem.W.looks_findIn (M := model prog w) X Z.gn
 have L3 := exc_find (M := model prog w) (x := x) X Z
 have L4 := PySem.W.looks_mroIn (M := model prog w) X Z.mb
 have f3 := PySem.F.attr_ValueError.ga.bind (.ref x)
 have hk : builtinKind "BaseException.__getattribute__" = some .slot := by decide +kernel
 have hsplit : splitId "BaseException.__getattribute__" = some ("BaseException", "__getattribute__") := by decide +kernel
 unfold getAttr? getAttrBy? getAttrBy
 refine wpAny_bind (wpAny_mkText (wpAny_bind (wpAny_attempt (wpAny_holding (wpAny_bind (L0.at (wpAny_bind (L1.at ?_))))))))
 show wpAny _ _ (getAttrByItsOwn _ _ _ _ _ _) _ _ _
 unfold getAttrByItsOwn
 refine wpAny_bind ?_
 show wpAny _ _ (typeLookup _ _) _ _ _
 refine L2.at ?_
 refine wpAny_bind (wpAny_attempt (wpAny_holding ?_))
 show wpAny _ _ (boundAndCalled _ _ _) _ _ _
 unfold boundAndCalled
 refine wpAny_bind ?_
 rw [f3]
 refine wpAny_pure ?_
 refine wpAny_call (codeAny_call_builtin PySem.F.attr_ValueError.ga.plain PySem.F.entry_bexc_ga ?_)
 have ha := PySem.F.args_bexc_ga (.ref x) (.str "__class__" t)
 simp only [checkBuiltinCall, hk, hsplit]
 refine wpAny_bind ?_
 unfold isInstance
 refine wpAny_bind (L0.at (L4.at ?_))
 simp only [Bool.not_true, Bool.false_eq_true, if_false]
 repeat (any_goals (first | assumption | wp_step))
 rw [hc]
 have La := PySem.W.looks_findIn (M := model prog w) X Z.cl
 have Lb : Looks (model prog w) hh (getOf (some (.builtin "object.__class__"))) (some (.builtin "getset_descriptor.__get__")) := PySem.W.looks_specialIn X Z.gt
 have Lc : Looks (model prog w) hh (dataDescriptor? (some (.builtin "object.__class__")) (some (.builtin "getset_descriptor.__get__"))) (some (.builtin "getset_descriptor.__get__", .builtin "object.__class__")) := (PySem.W.looks_takesIn (M := model prog w) X Z.tk).andThen .now
 refine La.at (wpAny_bind (Lb.at (wpAny_bind (Lc.at (wpAny_bind (wpAny_rule (wpAny_pure ?_)))))))
 unfold bindTo
 refine wpAny_bind (wpAny_holding (wpAny_call (exc_get (s := ⟨hh, g, dr, t + 1, os⟩) X Z ho hc ?_)))
 show wpAny _ _ (ret (.ref C)) _ _ _
 refine wpAny_pure ?_
 show wpAny _ _ (handedOut (.ref C)) _ _ _
 exact PySem.W.handed_on rfl (wpAny_pure h)
theorem kitx_exc (Z : ExcX K C) : PySem.W.KitX K (.ref x) (.ref C) (fun h => ∃ o, h.get? x = some o ∧ o.cls = .ref C) where
 ty := fun _ _ _ ⟨o, ho, hc⟩ => hc ▸ (Looks.ld ho).andThen .now
 it := fun _ _ X _ => by
  have z0 := Z.cs
  unfold PySem.W.clsIn at z0
  split at z0
  ·rename_i c' d' cd' sl' ho
   intro A' Q' E' s' k q
   unfold isType loadHead
   exact wpAny_bind (wpAny_loadPart (k _ _ (X _ _ ho)) (wpAny_pure q))
  ·cases z0
 ne := fun h tp dd its n sl X htp => by
  have z0 := Z.cs
  refine Bool.eq_false_iff.mpr fun q => ?_
  have e : C = tp := Value.ref.inj (beq_iff_eq.mp q)
  subst e
  unfold PySem.W.clsIn at z0
  split at z0
  ·rename_i c' d' cd' sl' ho
   have z := (X _ _ ho).symm.trans htp
   cases z
  ·cases z0
 ca := fun X ⟨o, ho, hc⟩ k => exc_class X Z ho hc k
end
section
variable {X : Cx}
noncomputable def rIsinstE (K : PySem.W.Frag) : List V → Hp → VK → Prop := fun xs H Q => ∃ ea C d c b, xs = [.ref ea, d] ∧ (∀ u, RelV d u → u = c) ∧ H ea = some (ExcO ea C) ∧ ExcX K C ∧ PySem.W.kitOne K (.ref C) c = some b ∧ Q (.bl b) H
theorem call_isinstE (K : PySem.W.Frag) (h : X.K = K := by rfl) : CallR X (.builtin "isinstance") (rIsinstE K) := by
 subst h
 intro pins s σ H xs us Q I r h
 obtain ⟨ea, C, d, c, b, rfl, hd, he, Z, e, q⟩ := h
 obtain ⟨u, u', rfl, r1, r2⟩ := vals2 r
 cases (show u = Value.ref ea from r1)
 cases hd u' r2
 obtain ⟨⟨o, vs, ho, hc, _⟩, _⟩ := (show ObjOk X.prog X.w H s.heap ea (ExcO ea C) from I.hok ea _ he)
 exact PySem.W.kia_one (kitx_exc Z) I.kIn ⟨o, ho, hc⟩ e (fun z => nomatch z) fun tk => ⟨.bl b, H, I.tok _, rfl, q⟩
end
end L2
namespace L2
open PySem PySem.Spec PyProof.Rows PySem.SeqAt
section
variable {K : PySem.W.Frag} {C D : Addr}
theorem kit_not (hc : PySem.W.isClsIn K D = true) (ht : PySem.W.typeIn K (.ref D) = some (.type "type")) (hs : PySem.W.subIn K (.ref C) (.ref D) = some false) (h1 : PySem.W.subIn K (.ref C) (.ref C) = some true) : PySem.W.kitOne K (.ref C) (.ref D) = some false := by
 unfold PySem.W.kitOne
 split
 ·rename_i z
  have e : C = D := Value.ref.inj (beq_iff_eq.mp z)
  rw [← e, h1] at hs
  cases hs
 ·show (if ((PySem.W.clsIn K D).isSome && PySem.W.typeIn K (.ref D) == some (.type "type")) = true then PySem.W.subIn K (.ref C) (.ref D) else none) = some false
  rw [if_pos (by rw [show (PySem.W.clsIn K D).isSome = true from hc, ht]; rfl), hs]
theorem kit_val (hs : PySem.W.subIn K (.ref C) (.type "ValueError") = some true) : PySem.W.kitOne K (.ref C) (.type "ValueError") = some true := by
 unfold PySem.W.kitOne
 split
 ·rfl
 ·show (if PySem.W.kitMeta "ValueError" = true then PySem.W.subIn K (.ref C) (.type "ValueError") else none) = some true
  rw [if_pos (by decide +kernel), hs]
theorem exm_own (hc : PySem.W.isClsIn K D = true) (ht : PySem.W.typeIn K (.ref D) = some (.type "type")) (hs : PySem.W.subIn K (.ref C) (.ref D) = some true) (hb : PySem.W.subIn K (.ref D) (.type "BaseException") = some true) : PySem.W.exmOne K (.ref C) (.ref D) = some true := by
 unfold PySem.W.exmOne
 rw [if_pos (by rw [hb]; rfl)]
 show (if ((PySem.W.clsIn K D).isSome && PySem.W.typeIn K (.ref D) == some (.type "type")) = true then PySem.W.subIn K (.ref C) (.ref D) else none) = some true
 rw [if_pos (by rw [show (PySem.W.clsIn K D).isSome = true from hc, ht]; rfl), hs]
end
theorem boot_ValueError : bootBuiltins "ValueError" = some (.type "ValueError") := by first | rfl | decide +kernel
theorem vals_bools : ∀ {bs : List Bool} {us : List Value}, Vals (bs.map V.bl) us → us = bs.map Value.bool
 | [], _, .nil => rfl
 | _ :: _, _, .cons r t => by rw [vals_bools t]; cases r; rfl
section
variable {X : Cx}
noncomputable def rCountB : V → List V → Hp → VK → Prop := fun x vs H Q => ∃ (l : Addr) (k : Bool) (bs : List Bool), x = .ref l ∧ vs = [.bl k] ∧ H l = some (.lst (bs.map V.bl)) ∧ Q (.int (bs.count k : Nat)) H
theorem eqB {A : Around} {s : Shared} {bs : List Bool} {k : Bool} : ∀ y, y ∈ (bs.map Value.bool).toArray → EqAt A s y (.bool k) (isBoolOf k y) := fun y hy => by
 have hy : y ∈ bs.map Value.bool := by simpa using hy
 obtain ⟨b, _, rfl⟩ := List.mem_map.mp hy
 exact EqAt.bool_bool b k
theorem mt_countB : MtR X "list.count" rCountB := by
 intro pins s σ H x vs v us Q I rx rv h
 obtain ⟨l, k, bs, rfl, rfl, hH, q⟩ := h
 cases rx
 obtain ⟨u, rfl, ru⟩ := rv.one
 cases ru
 obtain ⟨z, its, n, r, hl, e⟩ := I.lstM hH
 cases vals_bools r
 refine call_meets F.slot_list_count ⟨_, e, rfl⟩ F.entry_list_count (F.args_list_count_2 _ _) (list_countAt l _ n none #[] (.bool k) (isBoolOf k)) ⟨e, eqB, ?_⟩
 refine ⟨.int _, H, I.tok _, ⟨_, rfl⟩, ?_⟩
 have e2 : (bs.map Value.bool).toArray.toList.countP (isBoolOf k) = bs.count k := by
  show (bs.map Value.bool).countP (isBoolOf k) = _
  rw [List.countP_map]
  rfl
 rw [e2]
 exact q
noncomputable def rIndexB : V → List V → Hp → VK → Prop := fun x vs H Q => ∃ (l : Addr) (k : Bool) (bs : List Bool) (j : Nat), x = .ref l ∧ vs = [.bl k] ∧ H l = some (.lst (bs.map V.bl)) ∧ bs[j]? = some k ∧ (∀ m < j, bs[m]? = some (!k)) ∧ j ≤ 1000 ∧ Q (.int (j : Nat)) H
theorem mt_indexB : MtR X "list.index" rIndexB := by
 intro pins s σ H x vs v us Q I rx rv h
 obtain ⟨l, k, bs, j, rfl, rfl, hH, hj, hno, h1000, q⟩ := h
 cases rx
 obtain ⟨u, rfl, ru⟩ := rv.one
 cases ru
 obtain ⟨z, its, n, r, hl, e⟩ := I.lstM hH
 cases vals_bools r
 obtain ⟨jl, je⟩ := List.getElem?_eq_some_iff.mp hj
 refine call_meets F.slot_list_index ⟨_, e, rfl⟩ F.entry_list_index (F.args_list_index_2 _ _) (list_indexAt l _ n none #[] (.bool k) (isBoolOf k) j (by simpa using jl) (by lia) ?_ fun m hm h2 => ?_) ⟨e, eqB, ?_⟩
 ·simp [isBoolOf, je]
 ·obtain ⟨_, me⟩ := List.getElem?_eq_some_iff.mp (hno m h2)
  simp [isBoolOf, me]
 ·exact ⟨.int _, H, I.tok _, ⟨_, rfl⟩, q⟩
end
end L2
namespace L2
noncomputable def f5 : Nat → Nat → Nat
 | 0, x => x
 | n + 1, x => f5 n (5 * x + 1)
theorem f5_add (n m x : Nat) : f5 (n + m) x = f5 m (f5 n x) := by
 induction n generalizing x with
 | zero => rw [Nat.zero_add]; rfl
 | succ n ih => rw [Nat.succ_add]; exact ih _
theorem f5_four : ∀ n x, 4 * f5 n x + 1 = 5 ^ n * (4 * x + 1)
 | 0, x => by simp [f5]
 | n + 1, x => by
  rw [f5, f5_four n, Nat.pow_succ]
  rw [show 4 * (5 * x + 1) + 1 = 5 * (4 * x + 1) by lia, Nat.mul_assoc]
theorem five_pow : ∀ k, ∃ m, 5 ^ 2 ^ k = 1 + 2 ^ (k + 2) * (2 * m + 1)
 | 0 => ⟨0, by decide⟩
 | k + 1 => by
  obtain ⟨m, e⟩ := five_pow k
  refine ⟨m + 2 ^ k * (2 * m + 1) * (2 * m + 1), ?_⟩
  rw [Nat.pow_succ 2 k, Nat.pow_mul, e, Nat.pow_two]
  generalize hA : 2 * m + 1 = A
  have p : 2 ^ (k + 2) = 4 * 2 ^ k := by rw [Nat.pow_add]; lia
  have p2 : 2 ^ (k + 1 + 2) = 8 * 2 ^ k := by rw [Nat.pow_add, Nat.pow_add]; lia
  rw [p, p2]
  generalize 2 ^ k = P
  have : 2 * (m + P * A * A) + 1 = A + 2 * (P * A * A) := by lia
  rw [this]
  simp only [Nat.add_mul, Nat.mul_add, Nat.one_mul, Nat.mul_one]
  have e1 : 4 * P * A * (4 * P * A) = 16 * (P * P * (A * A)) := by
   simp only [Nat.mul_assoc, Nat.mul_comm, Nat.mul_left_comm]
  have e2 : 8 * P * (2 * (P * A * A)) = 16 * (P * P * (A * A)) := by
   simp only [Nat.mul_assoc, Nat.mul_comm, Nat.mul_left_comm]
  rw [e1, e2]
  have e3 : 8 * P * A = 4 * P * A + 4 * P * A := by
   rw [← Nat.add_mul]; congr 1; lia
  lia
theorem f5_half (k x : Nat) : ∃ q, f5 (2 ^ k) x = x + 2 ^ k + 2 * 2 ^ k * q := by
 obtain ⟨m, e⟩ := five_pow k
 have h := f5_four (2 ^ k) x
 rw [e] at h
 refine ⟨m + (2 * m + 1) * (2 * x), ?_⟩
 have p : 2 ^ (k + 2) = 4 * 2 ^ k := by rw [Nat.pow_add]; lia
 rw [p] at h
 generalize 2 ^ k = P at h
 generalize f5 P x = y at h
 have e1 : (1 + 4 * P * (2 * m + 1)) * (4 * x + 1) = (4 * x + 1) + 4 * (P * ((2 * m + 1) * (4 * x + 1))) := by
  rw [Nat.add_mul, Nat.one_mul, Nat.mul_assoc, Nat.mul_assoc]
 rw [e1] at h
 have e2 : (2 * m + 1) * (4 * x + 1) = 1 + 2 * (m + (2 * m + 1) * (2 * x)) := by
  rw [Nat.mul_add, Nat.mul_one]
  have : (2 * m + 1) * (4 * x) = 2 * ((2 * m + 1) * (2 * x)) := by
   rw [show 4 * x = 2 * (2 * x) by lia, Nat.mul_left_comm]
  lia
 rw [e2, Nat.mul_add, Nat.mul_one, ← Nat.mul_assoc, Nat.mul_comm P 2] at h
 lia
theorem f5_all : ∀ (k x j : Nat), ∃ n, n < 2 ^ k ∧ f5 n x % 2 ^ k = j % 2 ^ k
 | 0, x, j => ⟨0, by decide, by rw [Nat.pow_zero, Nat.mod_one, Nat.mod_one]⟩
 | k + 1, x, j => by
  obtain ⟨n, hn, e⟩ := f5_all k x j
  obtain ⟨q, hq⟩ := f5_half k (f5 n x)
  have p : 2 ^ (k + 1) = 2 * 2 ^ k := by rw [Nat.pow_succ]; lia
  have pos : 0 < 2 ^ k := Nat.two_pow_pos k
  rw [p]
  generalize hy : f5 n x = y at e hq
  have hadd := f5_add n (2 ^ k) x
  rw [hy, hq] at hadd
  generalize 2 ^ k = P at *
  have m1 := Nat.mod_mul_right_mod y P 2
  have a1 : y % (2 * P) = y % P ∨ y % (2 * P) = y % P + P := by
   have := Nat.mod_mul (x := y) (a := P) (b := 2)
   rw [Nat.mul_comm P 2] at this
   rcases Nat.mod_two_eq_zero_or_one (y / P) with z | z
   ·left; rw [this, z]; lia
   ·right; rw [this, z]; lia
  have a2 : j % (2 * P) = j % P ∨ j % (2 * P) = j % P + P := by
   have := Nat.mod_mul (x := j) (a := P) (b := 2)
   rw [Nat.mul_comm P 2] at this
   rcases Nat.mod_two_eq_zero_or_one (j / P) with z | z
   ·left; rw [this, z]; lia
   ·right; rw [this, z]; lia
  by_cases c : y % (2 * P) = j % (2 * P)
  ·exact ⟨n, by lia, by rw [hy]; exact c⟩
  ·refine ⟨n + P, by lia, ?_⟩
   rw [hadd, show y + P + 2 * P * q = (y + P) + (2 * P) * q from rfl, Nat.add_mul_mod_self_left]
   have lt : j % P < P := Nat.mod_lt _ pos
   have : (y + P) % (2 * P) = (y % (2 * P) + P) % (2 * P) := by rw [Nat.mod_add_mod]
   rw [this]
   rcases a1 with a1 | a1 <;> rcases a2 with a2 | a2
   ·exact absurd (by rw [a1, a2, e]) c
   ·rw [a1, a2, e, Nat.mod_eq_of_lt (by lia)]
   ·rw [a1, a2, e, show j % P + P + P = j % P + 2 * P by lia, Nat.add_mod_right, Nat.mod_eq_of_lt (by lia)]
   ·exact absurd (by rw [a1, a2, e]) c
end L2
namespace L2
open PySem PySem.SetTable
noncomputable def adv (t : SetTable) : Nat → Probe → Probe
 | 0, p => p
 | n + 1, p => adv t n (t.advance p)
theorem adv_add (t : SetTable) (n m : Nat) (p : Probe) : adv t (n + m) p = adv t m (adv t n p) := by
 induction n generalizing p with
 | zero => rw [Nat.zero_add]; rfl
 | succ n ih => rw [Nat.succ_add]; exact ih _
structure AtRun (t : SetTable) (p : Probe) (i q : Nat) : Prop where
 hj : p.j = i
 hi : p.i = i
 more : p.more = runEnd t.mask i - i
 perturb : p.perturb = q
theorem run_le (mask i : Nat) : runEnd mask i - i ≤ 9 := by
 unfold runEnd
 split <;> lia
theorem adv_more {t : SetTable} : ∀ (n : Nat) (p : Probe), p.more = n → ∃ p', adv t n p = p' ∧ p'.more = 0 ∧ p'.i = p.i ∧ p'.perturb = p.perturb
 | 0, p, h => ⟨p, rfl, h, rfl, rfl⟩
 | n + 1, p, h => by
  have e : t.advance p = { p with j := p.j + 1, more := p.more - 1 } := by
   unfold SetTable.advance
   rw [if_pos (by lia)]
  obtain ⟨p', h1, h2, h3, h4⟩ := adv_more (t := t) n (t.advance p) (by rw [e]; show p.more - 1 = n; lia)
  rw [e] at h3 h4
  exact ⟨p', h1, h2, h3, h4⟩
theorem adv_leap {t : SetTable} (p : Probe) (hm : p.more ≤ 9) : ∃ n, n ≤ 10 ∧ AtRun t (adv t n p) (leap t.mask p.i p.perturb).1 (leap t.mask p.i p.perturb).2 := by
 obtain ⟨p', h1, h2, h3, h4⟩ := adv_more (t := t) p.more p rfl
 refine ⟨p.more + 1, by lia, ?_⟩
 rw [adv_add, h1]
 show AtRun t (t.advance p') _ _
 unfold SetTable.advance
 rw [if_neg (by lia), h3, h4]
 exact ⟨rfl, rfl, rfl, rfl⟩
noncomputable def leaps (mask : Nat) : Nat → Nat × Nat → Nat × Nat
 | 0, s => s
 | n + 1, s => leaps mask n (leap mask s.1 s.2)
theorem leaps_add (mask n m : Nat) (s : Nat × Nat) : leaps mask (n + m) s = leaps mask m (leaps mask n s) := by
 induction n generalizing s with
 | zero => rw [Nat.zero_add]; rfl
 | succ n ih => rw [Nat.succ_add]; exact ih _
theorem adv_leaps {t : SetTable} : ∀ (m : Nat) (p : Probe) (i q : Nat), AtRun t p i q → ∃ n, n ≤ 10 * m ∧ AtRun t (adv t n p) (leaps t.mask m (i, q)).1 (leaps t.mask m (i, q)).2
 | 0, p, i, q, h => ⟨0, Nat.le_refl _, h⟩
 | m + 1, p, i, q, h => by
  obtain ⟨n, hn, r⟩ := adv_leap (t := t) p (by rw [h.more]; exact run_le _ _)
  rw [h.hi, h.perturb] at r
  obtain ⟨n', hn', r'⟩ := adv_leaps m _ _ _ r
  refine ⟨n + n', by lia, ?_⟩
  rw [adv_add]
  exact r'
theorem leaps_perturb (mask : Nat) : ∀ (n i q : Nat), (leaps mask n (i, q)).2 = q / 32 ^ n
 | 0, i, q => by rw [Nat.pow_zero, Nat.div_one]; rfl
 | n + 1, i, q => by
  show (leaps mask n (leap mask i q)).2 = _
  rw [show leap mask i q = ((i * 5 + 1 + q / 32) % (mask + 1), q / 32) from rfl, leaps_perturb mask n, Nat.pow_succ, Nat.mul_comm, Nat.div_div_eq_div_mul]
theorem leaps_plain (mask : Nat) : ∀ (n i q : Nat), q < 32 → i < mask + 1 → (leaps mask n (i, q)).1 = f5 n i % (mask + 1)
 | 0, i, q, _, h => (Nat.mod_eq_of_lt h).symm
 | n + 1, i, q, hq, h => by
  show (leaps mask n (leap mask i q)).1 = f5 n (5 * i + 1) % (mask + 1)
  have e : leap mask i q = ((i * 5 + 1) % (mask + 1), 0) := by
   show ((i * 5 + 1 + q / 32) % (mask + 1), q / 32) = _
   rw [Nat.div_eq_of_lt hq]
  rw [e, leaps_plain mask n _ 0 (by decide) (Nat.mod_lt _ (Nat.succ_pos _)), Nat.mul_comm i 5]
  have md : ∀ (n x y : Nat), x % (mask + 1) = y % (mask + 1) → f5 n x % (mask + 1) = f5 n y % (mask + 1) := by
   intro n
   induction n with
   | zero => intro x y h; exact h
   | succ n ih =>
    intro x y h
    refine ih _ _ ?_
    rw [Nat.add_mod, Nat.mul_mod, h, ← Nat.mul_mod, ← Nat.add_mod]
  exact md n _ _ (Nat.mod_mod _ _)
theorem walk_all {t : SetTable} {k : Nat} (hk : t.mask + 1 = 2 ^ k) (p : Probe) (hm : p.more ≤ 9) (hq : p.perturb < 2 ^ 64) (j : Nat) (hj : j ≤ t.mask) : ∃ n, n ≤ 10 * (t.mask + 14) ∧ (adv t n p).j = j := by
 obtain ⟨n0, h0, r0⟩ := adv_leap (t := t) p hm
 obtain ⟨n1, h1, r1⟩ := adv_leaps 12 _ _ _ r0
 generalize hs : leaps t.mask 12 ((leap t.mask p.i p.perturb).1, (leap t.mask p.i p.perturb).2) = s at r1
 have q1 : s.2 < 32 := by
  rw [← hs, leaps_perturb]
  show p.perturb / 32 / 32 ^ 12 < 32
  rw [Nat.div_div_eq_div_mul]
  exact Nat.div_lt_of_lt_mul (Nat.lt_of_lt_of_le hq (by decide))
 have i1 : s.1 < t.mask + 1 := by
  rw [← hs, show (12 : Nat) = 11 + 1 from rfl, leaps_add]
  exact Nat.mod_lt _ (Nat.succ_pos _)
 obtain ⟨m, hm2, e⟩ := f5_all k s.1 j
 obtain ⟨n2, h2, r2⟩ := adv_leaps m _ _ _ r1
 refine ⟨n0 + (n1 + n2), by rw [← hk] at hm2; lia, ?_⟩
 rw [adv_add, adv_add]
 rw [leaps_plain _ _ _ _ q1 i1, hk, e, Nat.mod_eq_of_lt (by lia)] at r2
 exact r2.hj
end L2
namespace L2
open PySem PySem.SetTable
theorem adv_succ (t : SetTable) (n : Nat) (p : Probe) : adv t (n + 1) p = t.advance (adv t n p) := by
 rw [adv_add]
 rfl
theorem advance_dummy (t : SetTable) (p : Probe) : (t.advance p).dummy = p.dummy := by
 unfold SetTable.advance
 split <;> rfl
theorem advance_more (t : SetTable) (p : Probe) (h : p.more ≤ 9) : (t.advance p).more ≤ 9 := by
 unfold SetTable.advance
 split
 ·show p.more - 1 ≤ 9
  lia
 ·exact run_le _ _
theorem advance_perturb (t : SetTable) (p : Probe) (h : p.perturb < 2 ^ 64) : (t.advance p).perturb < 2 ^ 64 := by
 unfold SetTable.advance
 split
 ·exact h
 ·exact Nat.lt_of_le_of_lt (Nat.div_le_self _ _) h
noncomputable def Clear (t : SetTable) (ha : Nat → Int) (h : Int) (n : Nat) (p : Probe) : Prop := ∀ m, m < n → ∃ i, t.slot (adv t m p).j = .live i ∧ ha i ≠ h
theorem go_spec {t : SetTable} {ha : Nat → Int} {h : Int} (hd : ∀ j, t.slot j ≠ .dummy) : ∀ (fuel : Nat) (p : Probe), p.dummy = none → (∃ n, n < fuel ∧ t.slot (adv t n p).j = .empty) →
  (∃ n, Clear t ha h n p ∧ t.slot (adv t n p).j = .empty ∧ probe.go t ha h fuel p = some (.empty (adv t n p).j none)) ∨
  ∃ n i, Clear t ha h n p ∧ t.slot (adv t n p).j = .live i ∧ ha i = h ∧ probe.go t ha h fuel p = some (.candidate (adv t n p).j i (adv t (n + 1) p))
 | 0, p, _, ⟨n, hn, _⟩ => absurd hn (Nat.not_lt_zero _)
 | fuel + 1, p, hp, ⟨n, hn, he⟩ => by
  unfold probe.go
  cases hs : t.slot p.j with
  | empty => exact .inl ⟨0, fun m hm => absurd hm (Nat.not_lt_zero _), hs, by rw [hp]; rfl⟩
  | dummy => exact absurd hs (hd _)
  | live i =>
   dsimp only
   by_cases c : ha i = h
   ·rw [if_pos (by simpa using c)]
    exact .inr ⟨0, i, fun m hm => absurd hm (Nat.not_lt_zero _), hs, c, rfl⟩
   ·rw [if_neg (by simpa using c)]
    have hn0 : n ≠ 0 := fun z => by subst z; rw [show adv t 0 p = p from rfl, hs] at he; cases he
    obtain ⟨n', rfl⟩ : ∃ n', n = n' + 1 := ⟨n - 1, by lia⟩
    have clr : ∀ {m : Nat}, Clear t ha h m (t.advance p) → Clear t ha h (m + 1) p := fun {m} q m' hm' => by
     cases m' with
     | zero => exact ⟨i, hs, c⟩
     | succ m' => exact q m' (by lia)
    rcases go_spec hd fuel (t.advance p) (by rw [advance_dummy]; exact hp) ⟨n', by lia, he⟩ with ⟨m, q1, q2, q3⟩ | ⟨m, i', q1, q2, q3, q4⟩
    ·exact .inl ⟨m + 1, clr q1, q2, q3⟩
    ·exact .inr ⟨m + 1, i', clr q1, q2, q3, q4⟩
structure TabOk (t : SetTable) (k : Nat) : Prop where
 mask : t.mask + 1 = 2 ^ k
 nodummy : ∀ j, t.slot j ≠ .dummy
 room : ∃ j, j ≤ t.mask ∧ t.slot j = .empty
structure Stand (p : Probe) : Prop where
 more : p.more ≤ 9
 perturb : p.perturb < 2 ^ 64
 dummy : p.dummy = none
theorem Stand.start (t : SetTable) (h : Int) : Stand (t.probeStart h) := ⟨run_le _ _, by
 show (h % (2 ^ 64 : Int)).toNat < 2 ^ 64
 have h1 := Int.emod_nonneg h (show (2 ^ 64 : Int) ≠ 0 by decide)
 have h2 := Int.emod_lt_of_pos h (show (0 : Int) < 2 ^ 64 by decide)
 lia, rfl⟩
theorem Stand.adv {t : SetTable} : ∀ (n : Nat) {p : Probe}, Stand p → Stand (L2.adv t n p)
 | 0, _, h => h
 | n + 1, p, h => Stand.adv n ⟨advance_more t p h.more, advance_perturb t p h.perturb, by rw [advance_dummy]; exact h.dummy⟩
theorem probe_spec {t : SetTable} {k : Nat} {ha : Nat → Int} {h : Int} {p : Probe} (T : TabOk t k) (S : Stand p) :
  (∃ n, Clear t ha h n p ∧ t.slot (adv t n p).j = .empty ∧ t.probe ha h p = some (.empty (adv t n p).j none)) ∨
  ∃ n i, Clear t ha h n p ∧ t.slot (adv t n p).j = .live i ∧ ha i = h ∧ t.probe ha h p = some (.candidate (adv t n p).j i (adv t (n + 1) p)) := by
 obtain ⟨j, hj, he⟩ := T.room
 obtain ⟨n, hn, e⟩ := walk_all T.mask p S.more S.perturb j hj
 exact go_spec T.nodummy _ p S.dummy ⟨n, by show n < 10 * (t.mask + 15); lia, by rw [e]; exact he⟩
end L2
namespace L2
open PySem PySem.SetTable
theorem below_at {xs : Array Nat} (mono : xs.toList.Pairwise (· < ·)) {i j : Nat} (h : xs[i]? = some j) : below xs j = i := by
 obtain ⟨h1, h2, h3⟩ := below_spec xs j mono
 have hi : i < xs.size := (Array.getElem?_eq_some_iff.mp h).1
 have gi : xs.getD i j = j := by simp [Array.getD, hi, (Array.getElem?_eq_some_iff.mp h).2]
 rcases Nat.lt_trichotomy (below xs j) i with c | c | c
 ·have hb : below xs j < xs.size := Nat.lt_trans c hi
  have := h3 (below xs j) (Nat.le_refl _) hb
  have m := (List.pairwise_iff_getElem.mp mono) (below xs j) i (by simpa using hb) (by simpa using hi) c
  have e1 : xs.getD (below xs j) j = xs.toList[below xs j]'(by simpa using hb) := by simp [Array.getD, hb]
  have e2 : xs.toList[i]'(by simpa using hi) = j := by
   have := (Array.getElem?_eq_some_iff.mp h).2
   simpa using this
  rw [e1] at this
  rw [e2] at m
  lia
 ·exact c
 ·have := h2 i c
  lia
theorem slot_live {t : SetTable} (mono : t.place.toList.Pairwise (· < ·)) {i j : Nat} (h : t.place[i]? = some j) : t.slot j = .live i := by
 unfold SetTable.slot
 have b := below_at mono h
 dsimp only
 rw [b, if_pos (by rw [h]; simp)]
theorem slot_of_live {t : SetTable} {i j : Nat} (h : t.slot j = .live i) : t.place[i]? = some j := by
 unfold SetTable.slot at h
 dsimp only at h
 split at h
 ·rename_i c
  injection h with h
  rw [← h]
  simpa using c
 ·split at h <;> cases h
theorem slot_empty {t : SetTable} (hd : t.dummies = #[]) (mono : t.place.toList.Pairwise (· < ·)) {j : Nat} : t.slot j = .empty ↔ ¬ j ∈ t.place.toList := by
 constructor
 ·intro h hj
  obtain ⟨i, hi⟩ := List.getElem?_of_mem hj
  rw [slot_live mono (i := i) (by simpa using hi)] at h
  cases h
 ·intro h
  rcases slot_cases t j hd with ⟨e, _⟩ | ⟨i, e⟩
  ·exact e
  ·have := slot_of_live e
   exact absurd (List.mem_of_getElem? (l := t.place.toList) (i := i) (by simpa using this)) h
noncomputable def pairs (t : SetTable) (es : Array (Int × Value)) : List (Nat × (Int × Value)) := t.place.toList.zip es.toList
theorem zip_insert {α β : Type} {xs : List α} {ys : List β} (h : xs.length = ys.length) (p : Nat) (x : α) (y : β) : ((xs.take p ++ x :: xs.drop p).zip (ys.take p ++ y :: ys.drop p)).Perm ((x, y) :: xs.zip ys) := by
 have hl : (xs.take p).length = (ys.take p).length := by rw [List.length_take, List.length_take, h]
 rw [List.zip_append hl, List.zip_cons_cons]
 have e : xs.zip ys = (xs.take p).zip (ys.take p) ++ (xs.drop p).zip (ys.drop p) := by
  rw [← List.zip_append hl, List.take_append_drop, List.take_append_drop]
 rw [e]
 exact List.perm_middle
noncomputable def Reach (t : SetTable) (es : Array (Int × Value)) : Prop := ∀ j e, (j, e) ∈ pairs t es → ∃ n, (adv t n (t.probeStart e.1)).j = j ∧ ∀ m, m < n → (adv t m (t.probeStart e.1)).j ∈ t.place.toList
theorem advance_mask {t t' : SetTable} (h : t.mask = t'.mask) (p : Probe) : t.advance p = t'.advance p := by
 unfold SetTable.advance
 rw [h]
theorem adv_mask {t t' : SetTable} (h : t.mask = t'.mask) : ∀ (n : Nat) (p : Probe), adv t n p = adv t' n p
 | 0, _ => rfl
 | n + 1, p => by
  show adv t n (t.advance p) = adv t' n (t'.advance p)
  rw [advance_mask h, adv_mask h n]
theorem start_mask {t t' : SetTable} (h : t.mask = t'.mask) (x : Int) : t.probeStart x = t'.probeStart x := by
 unfold SetTable.probeStart
 rw [h]
theorem put_place {t : SetTable} (hd : t.dummies = #[]) (j : Nat) : (t.put j).1 = { t with place := insertAt t.place (below t.place j) j } ∧ (t.put j).2 = below t.place j := by
 unfold SetTable.put
 dsimp only
 rw [hd, has_nil]
 exact ⟨by rw [if_neg Bool.false_ne_true, ← hd], rfl⟩
theorem put_pairs {t : SetTable} {es : Array (Int × Value)} (hd : t.dummies = #[]) (hz : t.place.size = es.size) (j : Nat) (e : Int × Value) : (pairs (t.put j).1 (insertAt es (t.put j).2 e)).Perm ((j, e) :: pairs t es) := by
 obtain ⟨h1, h2⟩ := put_place hd j
 rw [h1, h2]
 unfold pairs
 rw [SetTable.toList_insertAt, SetTable.toList_insertAt]
 exact zip_insert (by simpa using hz) _ _ _
theorem put_mem {t : SetTable} (hd : t.dummies = #[]) (j j' : Nat) : j' ∈ (t.put j).1.place.toList ↔ j' = j ∨ j' ∈ t.place.toList := by
 rw [(put_place hd j).1]
 show j' ∈ (insertAt t.place (below t.place j) j).toList ↔ _
 rw [(SetTable.insertAt_perm t.place (below t.place j) j).mem_iff]
 simp [or_comm]
theorem Reach.put {t : SetTable} {es : Array (Int × Value)} (hd : t.dummies = #[]) (hz : t.place.size = es.size) (R : Reach t es) {j n : Nat} {e : Int × Value} (hj : (adv t n (t.probeStart e.1)).j = j) (hb : ∀ m, m < n → (adv t m (t.probeStart e.1)).j ∈ t.place.toList) :
  Reach (t.put j).1 (insertAt es (t.put j).2 e) := by
 have hm : (t.put j).1.mask = t.mask := by rw [(put_place hd j).1]
 intro j' e' h'
 have key : ∀ n' x, (∀ m, m < n' → (adv t m (t.probeStart x)).j ∈ t.place.toList) → ∀ m, m < n' → (adv (t.put j).1 m ((t.put j).1.probeStart x)).j ∈ (t.put j).1.place.toList := fun n' x q m hm' => by
  rw [adv_mask hm, start_mask hm, put_mem hd]
  exact .inr (q m hm')
 rcases List.mem_cons.mp ((put_pairs hd hz j e).mem_iff.mp h') with z | z
 ·injection z with z1 z2
  subst z1 z2
  exact ⟨n, by rw [adv_mask hm, start_mask hm]; exact hj, key n _ hb⟩
 ·obtain ⟨n', q1, q2⟩ := R j' e' z
  exact ⟨n', by rw [adv_mask hm, start_mask hm]; exact q1, key n' _ q2⟩
end L2
namespace L2
open PySem PySem.SetTable
theorem adv_run {t : SetTable} {i q : Nat} : ∀ (m : Nat) (p : Probe), AtRun t p i q → m ≤ runEnd t.mask i - i → (adv t m p).j = i + m ∧ (adv t m p).more = runEnd t.mask i - i - m ∧ (adv t m p).i = i ∧ (adv t m p).perturb = q
 | 0, p, h, _ => ⟨h.hj, h.more, h.hi, h.perturb⟩
 | m + 1, p, h, hm => by
  obtain ⟨h1, h2, h3, h4⟩ := adv_run m p h (by lia)
  rw [adv_succ]
  unfold SetTable.advance
  rw [if_pos (by lia)]
  exact ⟨by show (adv t m p).j + 1 = _; lia, by show (adv t m p).more - 1 = _; lia, h3, h4⟩
theorem adv_next {t : SetTable} {i q : Nat} {p : Probe} (h : AtRun t p i q) : AtRun t (adv t (runEnd t.mask i - i + 1) p) (leap t.mask i q).1 (leap t.mask i q).2 := by
 obtain ⟨h1, h2, h3, h4⟩ := adv_run (runEnd t.mask i - i) p h (Nat.le_refl _)
 rw [adv_succ]
 unfold SetTable.advance
 rw [if_neg (by lia), h3, h4]
 exact ⟨rfl, rfl, rfl, rfl⟩
noncomputable def Taken (owner : Array (Option Nat)) (j : Nat) : Prop := (owner.getD j (some 0)).isNone = false
theorem free_spec {t : SetTable} {owner : Array (Option Nat)} : ∀ (fuel : Nat) (p : Probe) (i q j : Nat), AtRun t p i q → layClean.free t.mask owner fuel i q = some j → ∃ n, (adv t n p).j = j ∧ (owner.getD j (some 0)).isNone = true ∧ ∀ m, m < n → Taken owner (adv t m p).j
 | 0, _, _, _, _, _, e => by cases e
 | fuel + 1, p, i, q, j, h, e => by
  unfold layClean.free at e
  split at e
  ·rename_i k hk
   injection e with e
   have h1 := List.find?_some hk
   have h2 := List.mem_of_find?_eq_some hk
   have hk2 : k < runEnd t.mask i + 1 - i := List.mem_range.mp h2
   have hrun : i ≤ runEnd t.mask i := by unfold runEnd; split <;> lia
   obtain ⟨g1, _⟩ := adv_run k p h (by lia)
   refine ⟨k, by lia, by rw [← e]; exact h1, fun m hm => ?_⟩
   obtain ⟨g2, _⟩ := adv_run m p h (by lia)
   rw [g2]
   have := List.find?_range_eq_some.mp hk
   have h3 := this.2.2 m hm
   simpa [Taken] using h3
  ·rename_i hk
   have hrun : i ≤ runEnd t.mask i := by unfold runEnd; split <;> lia
   have all : ∀ m, m < runEnd t.mask i + 1 - i → Taken owner (i + m) := fun m hm => by
    exact Bool.eq_false_iff.mpr (List.find?_eq_none.mp hk m (List.mem_range.mpr hm))
   obtain ⟨n, q1, q2, q3⟩ := free_spec fuel _ _ _ j (adv_next h) e
   refine ⟨runEnd t.mask i - i + 1 + n, by rw [adv_add]; exact q1, q2, fun m hm => ?_⟩
   by_cases c : m < runEnd t.mask i - i + 1
   ·obtain ⟨g2, _⟩ := adv_run m p h (by lia)
    rw [g2]
    exact all m (by lia)
   ·obtain ⟨m', rfl⟩ : ∃ m', m = runEnd t.mask i - i + 1 + m' := ⟨m - (runEnd t.mask i - i + 1), by lia⟩
    rw [adv_add]
    exact q3 m' (by lia)
theorem free_none {mask : Nat} {owner : Array (Option Nat)} : ∀ (fuel i q : Nat), layClean.free mask owner fuel i q = none → ∀ n, n < fuel → Taken owner (leaps mask n (i, q)).1
 | 0, _, _, _, n, hn => absurd hn (Nat.not_lt_zero _)
 | fuel + 1, i, q, e, n, hn => by
  unfold layClean.free at e
  split at e
  ·cases e
  ·rename_i hk
   cases n with
   | zero =>
    have hrun : i ≤ runEnd mask i := by unfold runEnd; split <;> lia
    exact Bool.eq_false_iff.mpr (List.find?_eq_none.mp hk 0 (List.mem_range.mpr (by lia)))
   | succ n => exact free_none fuel _ _ e n (by lia)
theorem free_some {mask k : Nat} {owner : Array (Option Nat)} (hk : mask + 1 = 2 ^ k) (i q : Nat) (hi : i < mask + 1) (hq : q < 2 ^ 64) {j0 : Nat} (hj : j0 ≤ mask) (he : (owner.getD j0 (some 0)).isNone = true) : ∃ j, layClean.free mask owner (turns mask) i q = some j := by
 cases hf : layClean.free mask owner (turns mask) i q with
 | some j => exact ⟨j, rfl⟩
 | none =>
  exfalso
  have q1 : (leaps mask 13 (i, q)).2 < 32 := by
   rw [leaps_perturb]
   exact Nat.div_lt_of_lt_mul (Nat.lt_of_lt_of_le hq (by decide))
  have i1 : (leaps mask 13 (i, q)).1 < mask + 1 := by
   rw [show (13 : Nat) = 12 + 1 from rfl, leaps_add]
   exact Nat.mod_lt _ (Nat.succ_pos _)
  obtain ⟨m, hm, e⟩ := f5_all k (leaps mask 13 (i, q)).1 j0
  have := free_none (turns mask) i q hf (13 + m) (by unfold turns; rw [← hk] at hm; lia)
  rw [leaps_add] at this
  have e2 := leaps_plain mask m (leaps mask 13 (i, q)).1 (leaps mask 13 (i, q)).2 q1 i1
  rw [show ((leaps mask 13 (i, q)).1, (leaps mask 13 (i, q)).2) = leaps mask 13 (i, q) from rfl] at e2
  rw [e2, hk, e, Nat.mod_eq_of_lt (by lia)] at this
  unfold Taken at this
  rw [he] at this
  cases this
end L2
namespace L2
open PySem PySem.SetTable
structure LayInv (t : SetTable) (owner : Array (Option Nat)) (ds : List Int) : Prop where
 size : owner.size = t.mask + 1
 each : ∀ (k : Nat) h, ds[k]? = some h → ∃ j : Nat, j ≤ t.mask ∧ owner[j]? = some (some k) ∧ ∃ n, (adv t n (t.probeStart h)).j = j ∧ ∀ m, m < n → Taken owner (adv t m (t.probeStart h)).j
 only : ∀ (j k : Nat), owner[j]? = some (some k) → k < ds.length
 uniq : ∀ (j j' k : Nat), owner[j]? = some (some k) → owner[j']? = some (some k) → j = j'
 free : owner.toList.countP Option.isNone + ds.length = t.mask + 1
theorem LayInv.start (t : SetTable) : LayInv t (Array.replicate (t.mask + 1) none) [] where
 size := by simp
 each := fun k h e => by cases e
 only := fun j k e => by
  rw [Array.getElem?_replicate] at e
  split at e <;> cases e
 uniq := fun j j' k e => by
  rw [Array.getElem?_replicate] at e
  split at e <;> cases e
 free := by
  rw [Array.toList_replicate, List.countP_replicate]
  rfl
theorem LayInv.room {t : SetTable} {owner : Array (Option Nat)} {ds : List Int} (L : LayInv t owner ds) (h : ds.length ≤ t.mask) : ∃ j : Nat, j ≤ t.mask ∧ (owner.getD j (some 0)).isNone = true := by
 have : 0 < owner.toList.countP Option.isNone := by have := L.free; lia
 obtain ⟨x, hx, hn⟩ := List.countP_pos_iff.mp this
 obtain ⟨j, hj, e⟩ := List.getElem_of_mem hx
 have hj' : j < owner.size := by simpa using hj
 refine ⟨j, by have := L.size; lia, ?_⟩
 rw [Array.getD_eq_getD_getElem?, Array.getElem?_eq_getElem hj', Option.getD_some]
 rw [Array.getElem_toList] at e
 rw [e]
 exact hn
theorem taken_set {owner : Array (Option Nat)} {j j' k : Nat} (h : Taken owner j') : Taken (owner.setIfInBounds j (some k)) j' := by
 unfold Taken at *
 rw [Array.getD_eq_getD_getElem?] at *
 rw [Array.getElem?_setIfInBounds]
 by_cases c : j = j'
 ·subst c
  rw [if_pos rfl]
  split <;> rfl
 ·rw [if_neg c]
  exact h
theorem LayInv.put {t : SetTable} {owner : Array (Option Nat)} {ds : List Int} {h : Int} {j n : Nat} (L : LayInv t owner ds) (e : (adv t n (t.probeStart h)).j = j) (hj : (owner.getD j (some 0)).isNone = true) (hb : ∀ m, m < n → Taken owner (adv t m (t.probeStart h)).j) :
  LayInv t (owner.setIfInBounds j (some ds.length)) (ds ++ [h]) := by
 have hjs : j < owner.size := by
  rcases Nat.lt_or_ge j owner.size with c | c
  ·exact c
  ·rw [Array.getD_eq_getD_getElem?, Array.getElem?_eq_none c] at hj
   cases hj
 have hjn : owner[j]? = some none := by
  rw [Array.getElem?_eq_getElem hjs]
  rw [Array.getD_eq_getD_getElem?, Array.getElem?_eq_getElem hjs, Option.getD_some] at hj
  exact congrArg some (Option.isNone_iff_eq_none.mp hj)
 have at_ : ∀ i : Nat, (owner.setIfInBounds j (some ds.length))[i]? = if j = i then some (some ds.length) else owner[i]? := fun i => by
  rw [Array.getElem?_setIfInBounds]
  by_cases c : j = i
  ·subst c
   rw [if_pos rfl, if_pos hjs, if_pos rfl]
  ·rw [if_neg c, if_neg c]
 refine ⟨by rw [Array.size_setIfInBounds]; exact L.size, fun k h' e' => ?_, fun i k e' => ?_, fun i i' k e1 e2 => ?_, ?_⟩
 ·by_cases c : k < ds.length
  ·rw [List.getElem?_append_left c] at e'
   obtain ⟨i, q1, q2, m, q3, q4⟩ := L.each k h' e'
   refine ⟨i, q1, ?_, m, q3, fun m' hm' => taken_set (q4 m' hm')⟩
   rw [at_, if_neg (fun z => by rw [← z, hjn] at q2; cases q2)]
   exact q2
  ·have hk : k = ds.length := by
    have := (List.getElem?_eq_some_iff.mp e').1
    rw [List.length_append, List.length_singleton] at this
    lia
   subst hk
   rw [List.getElem?_append_right (Nat.le_refl _), Nat.sub_self] at e'
   cases e'
   refine ⟨j, by have := L.size; lia, by rw [at_, if_pos rfl], n, e, fun m hm => taken_set (hb m hm)⟩
 ·rw [at_] at e'
  rw [List.length_append, List.length_singleton]
  by_cases c : j = i
  ·rw [if_pos c] at e'
   cases e'
   lia
  ·rw [if_neg c] at e'
   have := L.only i k e'
   lia
 ·rw [at_] at e1 e2
  by_cases c : j = i
  ·rw [if_pos c] at e1
   cases e1
   by_cases d : j = i'
   ·rw [← c, ← d]
   ·rw [if_neg d] at e2
    have := L.only i' _ e2
    lia
  ·rw [if_neg c] at e1
   by_cases d : j = i'
   ·rw [if_pos d] at e2
    cases e2
    have := L.only i _ e1
    lia
   ·rw [if_neg d] at e2
    exact L.uniq i i' k e1 e2
 ·have hjl : j < owner.toList.length := by simpa using hjs
  rw [Array.toList_setIfInBounds, List.countP_set hjl, List.length_append, List.length_singleton]
  have hz : owner.toList[j]'hjl = none := by
   rw [Array.getElem_toList]
   have := hjn
   rw [Array.getElem?_eq_getElem hjs] at this
   exact Option.some.inj this
  rw [hz]
  have := L.free
  have hpos : 0 < owner.toList.countP Option.isNone := List.countP_pos_iff.mpr ⟨none, by rw [← hz]; exact List.getElem_mem hjl, rfl⟩
  rw [show (if (none : Option Nat).isNone = true then 1 else 0) = 1 from rfl, show (if (some ds.length : Option Nat).isNone = true then 1 else 0) = 0 from rfl]
  lia
noncomputable def layStep (mask : Nat) (acc : Option (Array (Option Nat) × Nat)) (h : Int) : Option (Array (Option Nat) × Nat) := do
 let (owner, k) ← acc
 let j ← layClean.free mask owner (turns mask) (bits h % (mask + 1)) (bits h)
 pure (owner.setIfInBounds j (some k), k + 1)
theorem bits_lt (h : Int) : bits h < 2 ^ 64 := by
 unfold bits
 have h1 := Int.emod_nonneg h (show (2 ^ 64 : Int) ≠ 0 by decide)
 have h2 := Int.emod_lt_of_pos h (show (0 : Int) < 2 ^ 64 by decide)
 lia
theorem lay_fold {t : SetTable} {k : Nat} (hk : t.mask + 1 = 2 ^ k) : ∀ (hs : List Int) (owner : Array (Option Nat)) (ds : List Int), LayInv t owner ds → ds.length + hs.length ≤ t.mask →
  ∃ owner', hs.foldl (layStep t.mask) (some (owner, ds.length)) = some (owner', (ds ++ hs).length) ∧ LayInv t owner' (ds ++ hs)
 | [], owner, ds, L, _ => ⟨owner, by rw [List.append_nil]; rfl, by rw [List.append_nil]; exact L⟩
 | h :: r, owner, ds, L, hl => by
  rw [List.length_cons] at hl
  obtain ⟨j0, q1, q2⟩ := L.room (by lia)
  obtain ⟨j, hj⟩ := free_some (owner := owner) hk (bits h % (t.mask + 1)) (bits h) (Nat.mod_lt _ (Nat.succ_pos _)) (bits_lt h) q1 q2
  have run : AtRun t (t.probeStart h) (bits h % (t.mask + 1)) (bits h) := ⟨rfl, rfl, rfl, rfl⟩
  obtain ⟨n, e1, e2, e3⟩ := free_spec (turns t.mask) _ _ _ j run hj
  have L' := L.put e1 e2 e3
  obtain ⟨owner', f1, f2⟩ := lay_fold hk r _ _ L' (by rw [List.length_append, List.length_singleton]; lia)
  refine ⟨owner', ?_, by rw [List.append_assoc] at f2; exact f2⟩
  rw [List.foldl_cons]
  have st : layStep t.mask (some (owner, ds.length)) h = some (owner.setIfInBounds j (some ds.length), ds.length + 1) := by
   unfold layStep
   show (layClean.free t.mask owner (turns t.mask) (bits h % (t.mask + 1)) (bits h) >>= fun j => pure (owner.setIfInBounds j (some ds.length), ds.length + 1)) = _
   rw [hj]
   rfl
  rw [st]
  rw [List.length_append, List.length_singleton, List.append_assoc] at f1
  exact f1
theorem lay_clean {t : SetTable} {k : Nat} (hk : t.mask + 1 = 2 ^ k) (hs : Array Int) (h : hs.size ≤ t.mask) : ∃ owner, layClean t.mask hs = some owner ∧ LayInv t owner hs.toList := by
 obtain ⟨owner, e, L⟩ := lay_fold hk hs.toList _ [] (LayInv.start t) (by rw [List.length_nil]; simpa using h)
 refine ⟨owner, ?_, L⟩
 have : layClean t.mask hs = (hs.foldl (layStep t.mask) (some (Array.replicate (t.mask + 1) none, 0))).map (·.1) := rfl
 rw [this, ← Array.foldl_toList]
 rw [show ((some (Array.replicate (t.mask + 1) none, 0)) : Option (Array (Option Nat) × Nat)) = some (Array.replicate (t.mask + 1) none, ([] : List Int).length) from rfl, e]
 rfl
end L2
namespace L2
open PySem PySem.SetTable
theorem run_in {mask i : Nat} (h : i < mask + 1) : i + (runEnd mask i - i) ≤ mask := by
 unfold runEnd
 split <;> lia
theorem fit_adv {t : SetTable} : ∀ (m : Nat) (p : Probe), p.j + p.more ≤ t.mask → (adv t m p).j + (adv t m p).more ≤ t.mask
 | 0, p, h => h
 | m + 1, p, h => by
  refine fit_adv m (t.advance p) ?_
  unfold SetTable.advance
  split
  ·show p.j + 1 + (p.more - 1) ≤ t.mask
   lia
  ·exact run_in (Nat.mod_lt _ (Nat.succ_pos _))
theorem adv_in (t : SetTable) (m : Nat) (h : Int) : (adv t m (t.probeStart h)).j ≤ t.mask := by
 have := fit_adv (t := t) m (t.probeStart h) (run_in (Nat.mod_lt _ (Nat.succ_pos _)))
 lia
noncomputable def liveOf (mask : Nat) (owner : Array (Option Nat)) : List (Nat × Nat) := (List.range (mask + 1)).filterMap fun j => (owner.getD j none).map (j, ·)
theorem mem_live {mask : Nat} {owner : Array (Option Nat)} (hz : owner.size = mask + 1) {j k : Nat} : (j, k) ∈ liveOf mask owner ↔ owner[j]? = some (some k) := by
 unfold liveOf
 rw [List.mem_filterMap]
 constructor
 ·rintro ⟨j', hj, e⟩
  obtain ⟨k', e1, e2⟩ := Option.map_eq_some_iff.mp e
  injection e2 with e3 e4
  subst e3 e4
  have hj' : j' < owner.size := by rw [hz]; exact List.mem_range.mp hj
  rw [Array.getD_eq_getD_getElem?, Array.getElem?_eq_getElem hj', Option.getD_some] at e1
  rw [Array.getElem?_eq_getElem hj', e1]
 ·intro e
  have hj := (Array.getElem?_eq_some_iff.mp e).1
  refine ⟨j, List.mem_range.mpr (by lia), ?_⟩
  rw [Array.getD_eq_getD_getElem?, e]
  rfl
theorem live_rises (mask : Nat) (owner : Array (Option Nat)) : ((liveOf mask owner).map (·.1)).Pairwise (· < ·) := by
 rw [List.pairwise_map]
 unfold liveOf
 rw [List.pairwise_filterMap]
 refine List.pairwise_lt_range.imp fun {a b} hab x hx y hy => ?_
 obtain ⟨_, _, rfl⟩ := Option.map_eq_some_iff.mp hx
 obtain ⟨_, _, rfl⟩ := Option.map_eq_some_iff.mp hy
 exact hab
theorem live_len {mask : Nat} {owner : Array (Option Nat)} (hz : owner.size = mask + 1) : (liveOf mask owner).length + owner.toList.countP Option.isNone = mask + 1 := by
 have e : liveOf mask owner = (owner.toList.zipIdx.filterMap fun x => x.1.map (x.2, ·)) := by
  unfold liveOf
  have : owner.toList.zipIdx = (List.range (mask + 1)).map fun j => (owner.getD j none, j) := by
   apply List.ext_getElem
   ·simp [hz]
   ·intro i h1 h2
    have hi : i < owner.size := by simpa using h1
    simp [Array.getD_eq_getD_getElem?, Array.getElem?_eq_getElem hi]
  rw [this, List.filterMap_map]
  rfl
 rw [e, ← hz, ← Array.length_toList]
 generalize owner.toList = l
 have go : ∀ (l : List (Option Nat)) (s : Nat), ((l.zipIdx s).filterMap fun x => x.1.map (x.2, ·)).length + l.countP Option.isNone = l.length := by
  intro l
  induction l with
  | nil => intro s; rfl
  | cons a r ih =>
   intro s
   rw [List.zipIdx_cons, List.filterMap_cons, List.countP_cons, List.length_cons]
   have := ih (s + 1)
   cases a with
   | none => simp only [Option.map_none, Option.isNone_none, if_true]; lia
   | some k => simp only [Option.map_some, Option.isNone_some, Bool.false_eq_true, if_false, List.length_cons]; lia
 exact go l 0
theorem perm_of_subN : ∀ (l1 l2 : List Nat), l1.Nodup → (∀ x ∈ l1, x ∈ l2) → l2.length ≤ l1.length → l1.Perm l2
 | [], l2, _, _, h => by
  have : l2 = [] := List.eq_nil_of_length_eq_zero (by simpa using h)
  subst this; exact List.Perm.refl _
 | a :: r, l2, hn, hs, hl => by
  rw [List.nodup_cons] at hn
  have ha := hs a List.mem_cons_self
  have p := List.perm_cons_erase ha
  refine ((perm_of_subN r (l2.erase a) hn.2 (fun x hx => ?_) ?_).cons a).trans p.symm
  ·have hne : x ≠ a := fun e => hn.1 (e ▸ hx)
   exact (List.mem_erase_of_ne hne).mpr (hs x (List.mem_cons_of_mem _ hx))
  ·have := p.length_eq
   rw [List.length_cons] at this hl
   lia
theorem live_perm {t : SetTable} {owner : Array (Option Nat)} {es : Array (Int × Value)} (L : LayInv t owner (es.map (·.1)).toList) : ((liveOf t.mask owner).map (·.2)).Perm (List.range es.size) := by
 have hlen := live_len L.size
 have hfree := L.free
 have hsz : (liveOf t.mask owner).length = es.size := by
  have : (es.map (·.1)).toList.length = es.size := by simp
  lia
 refine perm_of_subN _ _ ?_ (fun k hk => ?_) (by rw [List.length_range, List.length_map, hsz]; exact Nat.le_refl _)
 ·unfold List.Nodup
  rw [List.pairwise_map]
  have := List.pairwise_map.mp (live_rises t.mask owner)
  refine List.Pairwise.imp_of_mem ?_ this
  intro a b ha hb hab z
  have h1 := (mem_live L.size).mp ha
  have h2 := (mem_live L.size).mp hb
  rw [z] at h1
  have := L.uniq _ _ _ h1 h2
  lia
 ·obtain ⟨⟨j, k'⟩, hx, rfl⟩ := List.mem_map.mp hk
  have := L.only _ _ ((mem_live L.size).mp hx)
  exact List.mem_range.mpr (by simpa using this)
theorem laid_perm {t : SetTable} {owner : Array (Option Nat)} {es : Array (Int × Value)} (L : LayInv t owner (es.map (·.1)).toList) : (((liveOf t.mask owner).map (·.2)).toArray.filterMap (es[·]?)).toList.Perm es.toList := by
 rw [Array.toList_filterMap]
 refine ((live_perm L).filterMap _).trans ?_
 have : (List.range es.size).filterMap (es[·]?) = es.toList := by
  apply List.ext_getElem?
  intro i
  have go : ∀ n, n ≤ es.size → (List.range n).filterMap (es[·]?) = es.toList.take n := by
   intro n
   induction n with
   | zero => intro _; simp
   | succ n ih =>
    intro hn
    rw [List.range_succ, List.filterMap_append, ih (by lia), List.take_succ]
    have : es[n]? = some es[n] := Array.getElem?_eq_getElem (by lia)
    simp [this]
  rw [go es.size (Nat.le_refl _), ← Array.length_toList, List.take_length]
 rw [this]
theorem laid_reach {t : SetTable} {owner : Array (Option Nat)} {es : Array (Int × Value)} (L : LayInv t owner (es.map (·.1)).toList) (hp : t.place = ((liveOf t.mask owner).map (·.1)).toArray) :
  Reach t (((liveOf t.mask owner).map (·.2)).toArray.filterMap (es[·]?)) ∧ (((liveOf t.mask owner).map (·.2)).toArray.filterMap (es[·]?)).size = es.size ∧ t.place.size = es.size := by
 have hlen := live_len L.size
 have hfree := L.free
 have hsz : (liveOf t.mask owner).length = es.size := by
  have : (es.map (·.1)).toList.length = es.size := by simp
  lia
 have inn : ∀ x ∈ liveOf t.mask owner, x.2 < es.size := fun x hx => by
  have := L.only x.1 x.2 ((mem_live L.size).mp hx)
  simpa using this
 have em : ∀ l : List (Nat × Nat), (∀ x ∈ l, x.2 < es.size) → (l.map (·.2)).filterMap (es[·]?) = l.map fun x => es.getD x.2 (0, .none) := by
  intro l
  induction l with
  | nil => intro _; rfl
  | cons a r ih =>
   intro h
   have ha := h a (List.mem_cons_self ..)
   rw [List.map_cons, List.filterMap_cons, Array.getElem?_eq_getElem ha]
   dsimp only
   rw [ih fun x hx => h x (List.mem_cons_of_mem _ hx), List.map_cons, Array.getD_eq_getD_getElem?, Array.getElem?_eq_getElem ha, Option.getD_some]
 have et : (((liveOf t.mask owner).map (·.2)).toArray.filterMap (es[·]?)).toList = (liveOf t.mask owner).map fun x => es.getD x.2 (0, .none) := by
  rw [Array.toList_filterMap]
  exact em _ inn
 refine ⟨fun j e he => ?_, ?_, ?_⟩
 ·unfold pairs at he
  rw [et, hp] at he
  have he' : (j, e) ∈ (liveOf t.mask owner).map fun x => (x.1, es.getD x.2 (0, .none)) := by
   rw [← List.zip_map'] 
   simpa using he
  obtain ⟨⟨j', k⟩, hx, e2⟩ := List.mem_map.mp he'
  injection e2 with e3 e4
  subst e3
  have ho := (mem_live L.size).mp hx
  have hk := inn _ hx
  have e5 : e = es[k] := by rw [← e4, Array.getD_eq_getD_getElem?, Array.getElem?_eq_getElem hk, Option.getD_some]
  obtain ⟨i, q1, q2, n, q3, q4⟩ := L.each k e.1 (by rw [e5]; simp [hk])
  have := L.uniq _ _ _ q2 ho
  subst this
  refine ⟨n, q3, fun m hm => ?_⟩
  have ht := q4 m hm
  have hin := adv_in t m e.1
  rw [hp]
  show _ ∈ (liveOf t.mask owner).map (·.1)
  have hsz2 : (adv t m (t.probeStart e.1)).j < owner.size := by rw [L.size]; lia
  unfold Taken at ht
  rw [Array.getD_eq_getD_getElem?, Array.getElem?_eq_getElem hsz2, Option.getD_some] at ht
  cases hc : owner[(adv t m (t.probeStart e.1)).j] with
  | none => rw [hc] at ht; cases ht
  | some k' => exact List.mem_map.mpr ⟨(_, k'), (mem_live L.size).mpr (by rw [Array.getElem?_eq_getElem hsz2, hc]), rfl⟩
 ·rw [← Array.length_toList, et, List.length_map, hsz]
 ·rw [hp]
  simp [hsz]
end L2
namespace L2
open PySem PySem.SetTable PyProof.Rows
theorem above_go (m : Nat) : ∀ fuel k, m < 2 ^ (k + fuel) → ∃ k', sizeAbove.go m fuel (2 ^ k) = 2 ^ k' ∧ m < 2 ^ k' ∧ k ≤ k' ∧ (2 ^ k' ≤ 2 * m ∨ k' = k)
 | 0, k, h => ⟨k, rfl, by simpa using h, Nat.le_refl _, .inr rfl⟩
 | fuel + 1, k, h => by
  unfold sizeAbove.go
  by_cases c : 2 ^ k ≤ m
  ·rw [if_pos c, show 2 ^ k * 2 = 2 ^ (k + 1) from (Nat.pow_succ ..).symm]
   obtain ⟨k', e1, e2, e3, e4⟩ := above_go m fuel (k + 1) (by rw [show k + 1 + fuel = k + (fuel + 1) by lia]; exact h)
   refine ⟨k', e1, e2, by lia, .inl ?_⟩
   rcases e4 with e4 | rfl
   ·exact e4
   ·rw [Nat.pow_succ]; lia
  ·rw [if_neg c]
   exact ⟨k, rfl, by lia, Nat.le_refl _, .inr rfl⟩
theorem above_spec {m : Nat} (h : m < 2 ^ 60) : ∃ k, sizeAbove m = 2 ^ k ∧ m < 2 ^ k ∧ 3 ≤ k ∧ (2 ^ k ≤ 2 * m ∨ k = 3) :=
 above_go m 64 3 (Nat.lt_trans h (Nat.pow_lt_pow_right (by decide) (by decide)))
structure TabX (t : SetTable) (es : Array (Int × Value)) : Prop where
 mask : ∃ k, t.mask + 1 = 2 ^ k ∧ 3 ≤ k
 dum : t.dummies = #[]
 mono : t.place.toList.Pairwise (· < ·)
 size : t.place.size = es.size
 reach : Reach t es
 less : es.size * 5 < t.mask * 3
 small : t.mask < 8192
theorem TabX.fits {t : SetTable} {es : Array (Int × Value)} (T : TabX t es) : t.fits es.size = true := by
 have h1 := T.size
 have h2 := T.less
 unfold SetTable.fits SetTable.fill
 rw [T.dum, h1]
 simp only [beq_self_eq_true, Bool.true_and, decide_eq_true_eq, List.size_toArray, List.length_nil]
 lia
theorem TabX.odd {t : SetTable} {es : Array (Int × Value)} (T : TabX t es) : t.gaveWay = false := by
 obtain ⟨k, hk, h3⟩ := T.mask
 obtain ⟨k', rfl⟩ : ∃ k', k = k' + 1 := ⟨k - 1, by lia⟩
 rw [Nat.pow_succ] at hk
 unfold SetTable.gaveWay
 have : t.mask % 2 = 1 := by lia
 rw [this]; rfl
theorem TabX.ok {t : SetTable} {es : Array (Int × Value)} (T : TabX t es) : ∃ k, TabOk t k := by
 obtain ⟨k, hk, h3⟩ := T.mask
 refine ⟨k, hk, fun j => ?_, ?_⟩
 ·rcases slot_cases t j T.dum with ⟨q, _⟩ | ⟨i, q⟩ <;> rw [q] <;> intro z <;> cases z
 ·refine Classical.byContradiction fun no => ?_
  have all : ∀ j ∈ List.range (t.mask + 1), j ∈ t.place.toList := fun j hj => Classical.byContradiction fun z => no ⟨j, by rw [List.mem_range] at hj; lia, (slot_empty T.dum T.mono).mpr z⟩
  have h1 := T.size
  have h2 := T.less
  have p := (perm_of_subN _ _ List.nodup_range all (by rw [List.length_range, Array.length_toList]; lia)).length_eq
  rw [List.length_range, Array.length_toList] at p
  lia
theorem TabX.fresh (L : Bool) : TabX (.fresh 0 0 L) #[] where
 mask := ⟨3, rfl, by decide⟩
 dum := rfl
 mono := List.Pairwise.nil
 size := rfl
 reach := fun j e h => absurd h (by simp [pairs, SetTable.fresh])
 less := by show 0 * 5 < 7 * 3; decide
 small := by show 7 < 8192; decide
theorem TabX.relaid {t : SetTable} {es : Array (Int × Value)} {n : Nat} (hn : es.size = n) (h0 : 0 < n) (hb : n ≤ 1023) :
    ∃ t' order, t.relaid (es.map (·.1)) (grown n) = some (t', order) ∧ TabX t' (order.filterMap (es[·]?)) ∧ (order.filterMap (es[·]?)).size = es.size ∧ (order.filterMap (es[·]?)).toList.Perm es.toList ∧ t'.led = t.led := by
  have eg : grown n = n * 4 := by unfold grown; rw [if_neg (by lia)]
  rw [eg]
  obtain ⟨k, e1, e2, e3, e4⟩ := above_spec (m := n * 4) (by have : (4092 : Nat) < 2 ^ 60 := by decide
                                                            lia)
  have hz : (es.map (·.1)).size = n := by rw [Array.size_map]; exact hn
  obtain ⟨M, hM⟩ : ∃ M, M + 1 = 2 ^ k := ⟨2 ^ k - 1, by have := Nat.two_pow_pos k; lia⟩
  have eM : sizeAbove (n * 4) - 1 = M := by rw [e1]; lia
  have h8 : M < 8192 := by
    rcases e4 with e4 | e4
    · lia
    · rw [e4] at hM
      have : (2 : Nat) ^ 3 = 8 := rfl
      lia
  have hnM : n * 4 ≤ M := by lia
  clear e1 e2 e4 eg
  obtain ⟨owner, o1, _⟩ := lay_clean (t := { t with mask := M }) (k := k) hM (es.map (·.1)) (by rw [hz]; show n ≤ M; lia)
  have o1' : layClean M (es.map (·.1)) = some owner := o1
  obtain ⟨t', ht'⟩ : ∃ t' : SetTable, t' = { mask := M, place := ((liveOf M owner).map (·.1)).toArray, dummies := #[], finger := t.finger, led := t.led, moves := t.movedTo M, plain := t.plain } := ⟨_, rfl⟩
  have m1 : t'.mask = M := by rw [ht']
  have m2 : t'.place = ((liveOf M owner).map (·.1)).toArray := by rw [ht']
  obtain ⟨owner', o2, L⟩ := lay_clean (t := t') (k := k) (by rw [m1]; exact hM) (es.map (·.1)) (by rw [hz, m1]; lia)
  rw [m1] at o2
  obtain rfl : owner = owner' := Option.some.inj (o1'.symm.trans o2)
  obtain ⟨r1, r2, r3⟩ := laid_reach L (by rw [m1]; exact m2)
  have pm := laid_perm L
  rw [m1] at r1 r2 pm
  refine ⟨t', ((liveOf M owner).map (·.2)).toArray, ?_, ⟨⟨k, by rw [m1]; exact hM, e3⟩, by rw [ht'], ?_, r3.trans r2.symm, r1, ?_, ?_⟩, r2, pm, by rw [ht']⟩
  · unfold SetTable.relaid SetTable.laid
    rw [eM, o1', ht']
    rfl
  · rw [m2]
    exact live_rises _ _
  · rw [r2, hn, m1]
    lia
  · rw [m1]
    exact h8
theorem TabX.put {t : SetTable} {es : Array (Int × Value)} (T : TabX t es) {n : Nat} {e : Int × Value} (he : t.slot (adv t n (t.probeStart e.1)).j = .empty) (hb : ∀ m, m < n → (adv t m (t.probeStart e.1)).j ∈ t.place.toList) (l : Bool) :
  (∃ k, (t.put (adv t n (t.probeStart e.1)).j).1.mask + 1 = 2 ^ k ∧ 3 ≤ k) ∧ (t.put (adv t n (t.probeStart e.1)).j).1.dummies = #[] ∧ (t.put (adv t n (t.probeStart e.1)).j).1.place.toList.Pairwise (· < ·) ∧
  (t.put (adv t n (t.probeStart e.1)).j).1.place.size = es.size + 1 ∧ Reach (t.put (adv t n (t.probeStart e.1)).j).1 (insertAt es (t.put (adv t n (t.probeStart e.1)).j).2 e) ∧ (insertAt es (t.put (adv t n (t.probeStart e.1)).j).2 e).size = es.size + 1 ∧
  (t.put (adv t n (t.probeStart e.1)).j).1.mask = t.mask ∧ (t.put (adv t n (t.probeStart e.1)).j).1.led = t.led ∧ (t.put (adv t n (t.probeStart e.1)).j).1.plain = t.plain := by
 generalize hj : (adv t n (t.probeStart e.1)).j = j at he ⊢
 obtain ⟨p1, p2⟩ := put_place T.dum j
 have R := Reach.put T.dum T.size T.reach (e := e) hj hb
 have hno : t.place[below t.place j]? ≠ some j := fun z => ((slot_empty T.dum T.mono).mp he) (by
  have := List.mem_of_getElem? (l := t.place.toList) (i := below t.place j) (a := j) (by rw [Array.getElem?_toList]; exact z)
  exact this)
 have sz : ∀ {α : Type} (xs : Array α) (p : Nat) (x : α), (insertAt xs p x).size = xs.size + 1 := fun xs p x => by
  have := (SetTable.insertAt_perm xs p x).length_eq
  simpa using this
 refine ⟨?_, ?_, ?_, ?_, R, sz _ _ _, ?_, ?_, ?_⟩
 ·rw [p1]; exact T.mask
 ·rw [p1]; exact T.dum
 ·rw [p1]; exact insert_rises t.place j T.mono hno
 ·rw [p1]; exact (sz _ _ _).trans (by rw [T.size])
 ·rw [p1]
 ·rw [p1]
 ·rw [p1]
theorem perm_unmap {α β : Type} {g : α → β} {l1 l2 : List β} (p : l1.Perm l2) : ∀ fs : List α, l2 = fs.map g → ∃ fs2 : List α, fs2.Perm fs ∧ l1 = fs2.map g := by
 induction p with
 | nil => intro fs h; exact ⟨fs, List.Perm.refl _, h⟩
 | cons x p ih =>
  intro fs h
  cases fs with
  | nil => cases h
  | cons f r =>
   rw [List.map_cons] at h
   injection h with h1 h2
   obtain ⟨r2, q1, q2⟩ := ih r h2
   exact ⟨f :: r2, q1.cons f, by rw [List.map_cons, ← h1, ← q2]⟩
 | swap x y l =>
  intro fs h
  match fs, h with
  | [], h => cases h
  | [f], h => injection h with h1 h2; cases h2
  | f :: f' :: r, h =>
   rw [List.map_cons, List.map_cons] at h
   injection h with h1 h2
   injection h2 with h2 h3
   exact ⟨f' :: f :: r, List.Perm.swap _ _ _, by rw [List.map_cons, List.map_cons, h1, h2, h3]⟩
 | trans p q ih1 ih2 =>
  intro fs h
  obtain ⟨f2, a1, a2⟩ := ih2 fs h
  obtain ⟨f3, b1, b2⟩ := ih1 f2 a2
  exact ⟨f3, b1.trans a1, b2⟩
end L2
namespace L2
open PySem PySem.SetTable PyProof.Rows
section
variable {prog : Program} {w : World} {A : Around} {E : Value → Shared → Prop} {s : Shared}
noncomputable abbrev tkH (prog : Program) (w : World) (d : List Int) : Int := tupleKeyHash (intKind prog w) d
noncomputable abbrev TK (prog : Program) (w : World) (h : Heap) (d : List Int) (b : Addr) : Prop := IsTupleKey (intKind prog w) h d b
noncomputable def ent (prog : Program) (w : World) (f : List Int × Addr) : Int × Value := (tkH prog w f.1, .ref f.2)
theorem items_plain {ks : List Int} {vs : List Value} (h : ItemsAre (intKind prog w) ks vs) : ∀ v ∈ vs, ∃ n t, v = .int n t := by
 induction h with
 | nil => intro v hv; simp at hv
 | @cons k v' ks vs h1 _ ih =>
  intro v hv
  rcases List.mem_cons.mp hv with rfl | hv
  ·obtain ⟨t, e⟩ := Value.isInt_shape h1
   exact ⟨_, t, e⟩
  ·exact ih v hv
theorem class_no {ks : List Int} {a : Addr} {Q : Bool → Shared → Prop} (hk : TK prog w s.heap ks a) (h : Q false s) : wpAny (model prog w) A (ofAClassStatement 8 (.ref a)) Q E s := by
 have hT := hk.typeIs
 obtain ⟨o, items, n, ho, _, hd, hi⟩ := hk
 unfold ofAClassStatement
 refine wpAny_bind (wpAny_typeOf hT ?_)
 dsimp only
 rw [if_pos (by decide)]
 refine wpAny_bind (wpAny_pure ?_)
 simp only [Bool.not_true, Bool.false_eq_true, if_false]
 refine wpAny_bind (wpAny_seqItems ho hd ?_)
 dsimp only
 refine wpAny_bind ?_
 rw [← Array.forIn_toList]
 refine wpAny_forIn_list _ (fun rest r s' => r.1 = none ∧ s' = s ∧ ∀ v ∈ rest, ∃ n t, v = .int n t) _ ?_ ?_ _ _ ⟨rfl, rfl, items_plain hi⟩
 ·rintro v rest r s' ⟨hr, rfl, hall⟩
  obtain ⟨m, t, rfl⟩ := hall v List.mem_cons_self
  refine wpAny_bind ?_
  unfold ofAClassStatement
  refine wpAny_pure ?_
  simp only [Bool.false_eq_true, if_false]
  exact wpAny_pure ⟨rfl, rfl, fun u hu' => hall u (List.mem_cons_of_mem _ hu')⟩
 ·rintro ⟨r1, r2⟩ s' ⟨hr, rfl, _⟩
  simp only at hr
  subst hr
  exact wpAny_pure h
theorem hash_value {ks : List Int} {a : Addr} {Q : Bool → Shared → Prop} (hk : TK prog w s.heap ks a) (h : Q true s) : wpAny (model prog w) A (hashByValue 8 (.ref a)) Q E s := by
 have hT := hk.typeIs
 obtain ⟨o, items, n, ho, _, hd, hi⟩ := hk
 unfold hashByValue
 refine wpAny_bind (wpAny_specialOf hT F.slot_tuple_hash.lookup ?_)
 dsimp only
 refine wpAny_bind (wpAny_seqItems ho hd ?_)
 refine wpAny_bind ?_
 show wpAny _ _ (forIn items _ _) _ _ s
 rw [← Array.forIn_toList]
 refine wpAny_forIn_list _ (fun rest r s' => r.1 = none ∧ s' = s ∧ ∀ v ∈ rest, ∃ n t, v = .int n t) _ ?_ ?_ _ _ ⟨rfl, rfl, items_plain hi⟩
 ·rintro v rest r s' ⟨hr, rfl, hall⟩
  obtain ⟨m, t, rfl⟩ := hall v List.mem_cons_self
  refine wpAny_bind ?_
  unfold hashByValue
  refine wpAny_pure ?_
  simp only [Bool.not_true, Bool.false_eq_true, if_false]
  exact wpAny_pure ⟨rfl, rfl, fun u hu' => hall u (List.mem_cons_of_mem _ hu')⟩
 ·rintro ⟨r1, r2⟩ s' ⟨hr, rfl, _⟩
  simp only at hr
  subst hr
  exact wpAny_pure h
theorem not_seen {d : List Int} {b : Addr} {stored : List Value} {Q : Bool → Shared → Prop} (hb : TK prog w s.heap d b) (hst : ∀ v ∈ stored, ∃ d' b', v = .ref b' ∧ TK prog w s.heap d' b') (h : Q false s) :
  wpAny (model prog w) A (searchCouldBeSeen (.ref b) stored) Q E s := by
 unfold searchCouldBeSeen
 refine wpAny_bind ?_
 refine wpAny_forIn_list _ (fun rest r s' => r.1 = none ∧ s' = s ∧ ∀ v ∈ rest, ∃ d' b', v = .ref b' ∧ TK prog w s.heap d' b') _ ?_ ?_ _ _ ⟨rfl, rfl, hst⟩
 ·rintro v rest r s' ⟨hr, rfl, hall⟩
  obtain ⟨d', b', rfl, hb'⟩ := hall v List.mem_cons_self
  have nx : ∀ u ∈ rest, ∃ d' b', u = .ref b' ∧ TK prog w s'.heap d' b' := fun u hu' => hall u (List.mem_cons_of_mem _ hu')
  dsimp only
  split
  ·exact wpAny_pure ⟨rfl, rfl, nx⟩
  ·refine wpAny_bind (wpAny_eqIsQuiet_tuple hb ?_)
   simp only [Bool.not_true, Bool.false_eq_true, if_false]
   refine wpAny_bind (wpAny_eqIsQuiet_tuple hb' ?_)
   simp only [Bool.not_true, Bool.false_eq_true, if_false]
   refine wpAny_bind (class_no hb ?_)
   simp only [Bool.false_eq_true, if_false]
   refine wpAny_bind (class_no hb' ?_)
   simp only [Bool.false_eq_true, if_false]
   exact wpAny_pure ⟨rfl, rfl, nx⟩
 ·rintro ⟨r1, r2⟩ s' ⟨hr, rfl, _⟩
  simp only at hr
  subst hr
  exact wpAny_pure h
theorem search_tup {S : Addr} {o : Obj} {es : Array (Int × Value)} {ep : Nat} {t : SetTable} {fs : List (List Int × Addr)} {d : List Int} {b : Addr} {Q : SetFound → Shared → Prop}
  (hu : A.units < cLine) (ho : s.heap.get? S = some o) (hd : o.data = .set es ep t) (T : TabX t es) (hes : es.toList = fs.map (ent prog w)) (hk : ∀ f ∈ fs, TK prog w s.heap f.1 f.2) (hb : TK prog w s.heap d b)
  (hit : d ∈ fs.map (·.1) → Q (.there none) s)
  (miss : ¬ d ∈ fs.map (·.1) → ∀ n, t.slot (adv t n (t.probeStart (tkH prog w d))).j = .empty → (∀ m, m < n → (adv t m (t.probeStart (tkH prog w d))).j ∈ t.place.toList) → Q (.free (adv t n (t.probeStart (tkH prog w d))).j false) s) :
  wpAny (model prog w) A (setSearch S (.ref b) (tkH prog w d) true) Q E s := by
 obtain ⟨k, TO⟩ := T.ok
 obtain ⟨j0, hj0, he0⟩ := TO.room
 generalize hst0 : t.probeStart (tkH prog w d) = st at miss
 have S0 : Stand st := hst0 ▸ Stand.start t _
 obtain ⟨N, hN, eN⟩ := walk_all TO.mask st S0.more S0.perturb j0 hj0
 have hNe : t.slot (adv t N st).j = .empty := by rw [eN]; exact he0
 have small := T.small
 have entAt : ∀ (i : Nat) (f : List Int × Addr), fs[i]? = some f → es[i]? = some (ent prog w f) := fun i f e => by
  rw [← Array.getElem?_toList, hes, List.getElem?_map, e]; rfl
 have liveIn : ∀ {j i : Nat}, t.slot j = .live i → j ∈ t.place.toList := fun {j i} e => by
  have := slot_of_live e
  exact List.mem_of_getElem? (by rw [Array.getElem?_toList]; exact this)
 have go : ∀ (fuel n0 : Nat) (stand : Option Probe), N < fuel + n0 → n0 ≤ N → stand.getD st = adv t n0 st → (∀ m, m < n0 → ∃ i f, t.slot (adv t m st).j = .live i ∧ fs[i]? = some f ∧ f.1 ≠ d) →
   wpAny (model prog w) A (setSearchFrom S (.ref b) (tkH prog w d) true fuel stand) Q E s := by
  intro fuel
  induction fuel with
  | zero => intro n0 stand h1 h2; lia
  | succ fuel ih =>
   intro n0 stand h1 h2 hst hcl
   unfold setSearchFrom
   refine wpAny_bind (wpAny_setState_of ho hd T.fits ?_)
   dsimp only
   rw [T.odd]
   simp only [Bool.false_eq_true, if_false]
   rw [hst0, hst]
   rcases probe_spec (ha := fun i => (es[i]?.map (·.1)).getD 0) (h := tkH prog w d) TO (S0.adv n0) with ⟨n, c1, c2, c3⟩ | ⟨n, i, c1, c2, c3, c4⟩
   ·erw [c3]
    dsimp only
    rw [← adv_add] at c2 ⊢
    refine wpAny_pure (miss (fun hm => ?_) _ c2 fun m hm => ?_)
    ·obtain ⟨f, hf, rfl⟩ := List.mem_map.mp hm
     obtain ⟨i, hi, e⟩ := List.getElem_of_mem hf
     have ef : fs[i]? = some f := by rw [List.getElem?_eq_getElem hi, e]
     have ee := entAt i f ef
     have hip : i < t.place.size := by
      rw [T.size]
      exact (Array.getElem?_eq_some_iff.mp ee).1
     have ep' : t.place[i]? = some t.place[i] := Array.getElem?_eq_getElem hip
     have hpair : (t.place[i], ent prog w f) ∈ pairs t es := by
      refine List.mem_of_getElem? (i := i) ?_
      unfold pairs
      rw [List.getElem?_zip_eq_some]
      exact ⟨by rw [Array.getElem?_toList]; exact ep', by rw [Array.getElem?_toList]; exact ee⟩
     obtain ⟨n', q1, q2⟩ := T.reach _ _ hpair
     have q1' : (adv t n' st).j = t.place[i] := by rw [← hst0]; exact q1
     have q2' : ∀ m, m < n' → (adv t m st).j ∈ t.place.toList := fun m hm => by rw [← hst0]; exact q2 m hm
     have sl : t.slot (adv t n' st).j = .live i := by rw [q1']; exact slot_live T.mono ep'
     have c2' := (slot_empty T.dum T.mono).mp c2
     rcases Nat.lt_trichotomy n' (n0 + n) with z | z | z
     ·by_cases z0 : n' < n0
      ·obtain ⟨i', f', g1, g2, g3⟩ := hcl n' z0
       rw [sl] at g1
       injection g1 with g1
       subst g1
       rw [ef] at g2
       injection g2 with g2
       exact g3 (by rw [g2])
      ·obtain ⟨i', g1, g2⟩ := c1 (n' - n0) (by lia)
       rw [← adv_add, show n0 + (n' - n0) = n' by lia, sl] at g1
       injection g1 with g1
       subst g1
       exact g2 (by show (es[i]?.map (·.1)).getD 0 = _; rw [ee]; rfl)
     ·subst z
      exact c2' (liveIn sl)
     ·exact c2' (q2' _ z)
    ·by_cases z0 : m < n0
     ·obtain ⟨i', f', g1, _, _⟩ := hcl m z0
      exact liveIn g1
     ·obtain ⟨i', g1, _⟩ := c1 (m - n0) (by lia)
      rw [← adv_add, show n0 + (m - n0) = m by lia] at g1
      exact liveIn g1
   ·erw [c4]
    dsimp only
    have pl := slot_of_live c2
    have hie : i < es.size := by
     rw [← T.size]
     exact (Array.getElem?_eq_some_iff.mp pl).1
    have hif : i < fs.length := by
     have := congrArg List.length hes
     rw [Array.length_toList, List.length_map] at this
     lia
    obtain ⟨f, ef⟩ : ∃ f, fs[i]? = some f := ⟨_, List.getElem?_eq_getElem hif⟩
    have ee := entAt i f ef
    have hf := hk f (List.mem_of_getElem? ef)
    have stored : ∀ v ∈ (es.filter (fun x => x.1 == tkH prog w d)).toList.map (·.2), ∃ d' b', v = .ref b' ∧ TK prog w s.heap d' b' := fun v hv => by
     obtain ⟨e, he, rfl⟩ := List.mem_map.mp hv
     rw [Array.mem_toList_iff, Array.mem_filter] at he
     have : e ∈ fs.map (ent prog w) := hes ▸ Array.mem_toList_iff.mpr he.1
     obtain ⟨f', hf', rfl⟩ := List.mem_map.mp this
     exact ⟨_, _, rfl, hk f' hf'⟩
    have nlt : n0 + n < N := by
     refine Classical.byContradiction fun z => ?_
     have hN2 := (slot_empty T.dum T.mono).mp hNe
     by_cases zz : N = n0 + n
     ·rw [zz, adv_add] at hN2
      exact hN2 (liveIn c2)
     ·obtain ⟨i', g1, _⟩ := c1 (N - n0) (by lia)
      rw [← adv_add, show n0 + (N - n0) = N by lia] at g1
      exact hN2 (liveIn g1)
    cases hl : t.led
    ·simp only [Bool.not_false, if_true]
     refine wpAny_bind (not_seen hb stored ?_)
     simp only [Bool.false_eq_true, if_false]
     rw [ee]
     dsimp only [ent]
     refine wpAny_bind (wpAny_holding (wpAny_eqBool_tuple hu hf hb ?_))
     refine wpAny_bind (wpAny_setState_of ho hd T.fits ?_)
     dsimp only
     by_cases cd : f.1 = d
     ·rw [decide_eq_true cd, if_pos (by rfl)]
      exact wpAny_pure (hit (cd ▸ List.mem_map_of_mem (List.mem_of_getElem? ef)))
     ·rw [decide_eq_false cd, if_neg (by decide)]
      have sm : t.sameMemory t.moves t.mask = some true := by
       unfold SetTable.sameMemory
       rw [if_pos (by simp)]
      rw [sm]
      dsimp only
      rw [if_pos rfl, c2]
      dsimp only
      rw [ee]
      dsimp only [ent]
      refine wpAny_bind (wpAny_isSame_ref_self ?_)
      rw [if_pos rfl]
      refine wpAny_bind (wpAny_pure ?_)
      dsimp only
      rw [if_neg Bool.false_ne_true]
      refine ih (n0 + n + 1) _ (by lia) (by lia) ?_ fun m hm => ?_
      ·rw [Option.getD_some, ← adv_add, Nat.add_assoc]
      ·by_cases z0 : m < n0
       ·exact hcl m z0
       ·by_cases z1 : m = n0 + n
        ·exact ⟨i, f, by rw [z1, adv_add]; exact c2, ef, cd⟩
        ·obtain ⟨i', g1, g2⟩ := c1 (m - n0) (by lia)
         rw [← adv_add, show n0 + (m - n0) = m by lia] at g1
         have hip : i' < fs.length := by
          have h5 := (Array.getElem?_eq_some_iff.mp (slot_of_live g1)).1
          have h6 := congrArg List.length hes
          rw [Array.length_toList, List.length_map] at h6
          rw [T.size] at h5
          lia
         refine ⟨i', _, g1, List.getElem?_eq_getElem hip, fun z => g2 ?_⟩
         show (es[i']?.map (·.1)).getD 0 = _
         rw [entAt i' _ (List.getElem?_eq_getElem hip)]
         show tkH prog w (fs[i']'hip).1 = _
         rw [z]
    ·simp only [Bool.not_true, Bool.false_eq_true, if_false]
     rw [ee]
     dsimp only [ent]
     refine wpAny_bind (wpAny_holding (wpAny_eqBool_tuple hu hf hb ?_))
     refine wpAny_bind (wpAny_setState_of ho hd T.fits ?_)
     dsimp only
     by_cases cd : f.1 = d
     ·rw [decide_eq_true cd, if_pos (by rfl)]
      exact wpAny_pure (hit (cd ▸ List.mem_map_of_mem (List.mem_of_getElem? ef)))
     ·rw [decide_eq_false cd, if_neg (by decide)]
      have sm : t.sameMemory t.moves t.mask = some true := by
       unfold SetTable.sameMemory
       rw [if_pos (by simp)]
      rw [sm]
      dsimp only
      rw [if_pos rfl, c2]
      dsimp only
      rw [ee]
      dsimp only [ent]
      refine wpAny_bind (wpAny_isSame_ref_self ?_)
      rw [if_pos rfl]
      refine wpAny_bind (wpAny_pure ?_)
      dsimp only
      rw [if_neg Bool.false_ne_true]
      refine ih (n0 + n + 1) _ (by lia) (by lia) ?_ fun m hm => ?_
      ·rw [Option.getD_some, ← adv_add, Nat.add_assoc]
      ·by_cases z0 : m < n0
       ·exact hcl m z0
       ·by_cases z1 : m = n0 + n
        ·exact ⟨i, f, by rw [z1, adv_add]; exact c2, ef, cd⟩
        ·obtain ⟨i', g1, g2⟩ := c1 (m - n0) (by lia)
         rw [← adv_add, show n0 + (m - n0) = m by lia] at g1
         have hip : i' < fs.length := by
          have h5 := (Array.getElem?_eq_some_iff.mp (slot_of_live g1)).1
          have h6 := congrArg List.length hes
          rw [Array.length_toList, List.length_map] at h6
          rw [T.size] at h5
          lia
         refine ⟨i', _, g1, List.getElem?_eq_getElem hip, fun z => g2 ?_⟩
         show (es[i']?.map (·.1)).getD 0 = _
         rw [entAt i' _ (List.getElem?_eq_getElem hip)]
         show tkH prog w (fs[i']'hip).1 = _
         rw [z]
 exact go 100000 0 none (by lia) (Nat.zero_le _) (by rw [← hst0]; rfl) (fun m hm => absurd hm (Nat.not_lt_zero _))
end
end L2
namespace L2
open PySem PySem.SetTable PyProof.Rows
noncomputable def met (ds : List (List Int)) : Nat → List (List Int)
 | 0 => []
 | i + 1 => if ds.getD i [] ∈ met ds i then met ds i else met ds i ++ [ds.getD i []]
theorem met_spec (ds : List (List Int)) : ∀ i, i ≤ ds.length → (met ds i).Nodup ∧ (∀ x, x ∈ met ds i ↔ x ∈ ds.take i) ∧ (met ds i).length ≤ i ∧ ((met ds i).length = i ↔ (ds.take i).Nodup)
 | 0, _ => ⟨List.nodup_nil, fun x => by simp [met], Nat.le_refl _, by simp [met]⟩
 | i + 1, h => by
  obtain ⟨h1, h2, h3, h4⟩ := met_spec ds i (by lia)
  have hi : i < ds.length := by lia
  have eg : ds.getD i [] = ds[i] := by rw [List.getD_eq_getElem?_getD, List.getElem?_eq_getElem hi]; rfl
  have et : ds.take (i + 1) = ds.take i ++ [ds[i]] := by rw [List.take_succ, List.getElem?_eq_getElem hi]; rfl
  unfold met
  rw [eg, et]
  by_cases c : ds[i] ∈ met ds i
  ·rw [if_pos c]
   have c' := (h2 _).mp c
   refine ⟨h1, fun x => ?_, by lia, ⟨fun z => by lia, fun z => ?_⟩⟩
   ·rw [h2, List.mem_append, List.mem_singleton]
    exact ⟨.inl, fun q => q.elim id fun e => e ▸ c'⟩
   ·rw [List.nodup_append] at z
    exact absurd rfl (z.2.2 _ c' _ (by simp))
  ·rw [if_neg c]
   have c' : ¬ ds[i] ∈ ds.take i := fun z => c ((h2 _).mpr z)
   refine ⟨?_, fun x => ?_, ?_, ?_⟩
   ·rw [List.nodup_append]
    refine ⟨h1, by simp, fun a ha b hb e => c ?_⟩
    rw [List.mem_singleton] at hb
    rw [← hb, ← e]; exact ha
   ·rw [List.mem_append, List.mem_append, h2]
   ·rw [List.length_append, List.length_singleton]; lia
   ·rw [List.length_append, List.length_singleton, List.nodup_append]
    constructor
    ·intro z
     refine ⟨h4.mp (by lia), by simp, fun a ha b hb e => c' ?_⟩
     rw [List.mem_singleton] at hb
     rw [← hb, ← e]; exact ha
    ·intro z
     have := h4.mpr z.1
     lia
theorem met_all (ds : List (List Int)) : ((met ds ds.length).length = ds.length ↔ ds.Nodup) ∧ (met ds ds.length).length ≤ ds.length := by
 obtain ⟨_, _, h3, h4⟩ := met_spec ds ds.length (Nat.le_refl _)
 rw [List.take_length] at h4
 exact ⟨h4, h3⟩
section
variable {prog : Program} {w : World} {A : Around} {E : Value → Shared → Prop} {s : Shared}
theorem tk_at {h0 h : Heap} {d : List Int} {b : Addr} (x : TK prog w h0 d b) (kp : ∀ c o, h0.get? c = some o → h.get? c = some o) : TK prog w h d b := by
 obtain ⟨o, items, n, ho, r⟩ := x
 exact ⟨o, items, n, kp _ _ ho, r⟩
noncomputable def SetT (prog : Program) (w : World) (h0 h : Heap) (S : Addr) (L : List (List Int)) : Prop :=
 ∃ (o : Obj) (es : Array (Int × Value)) (ep : Nat) (t : SetTable) (fs : List (List Int × Addr)), h.get? S = some o ∧ o.ExactSet ∧ o.data = .set es ep t ∧ TabX t es ∧ es.toList = fs.map (ent prog w) ∧ (∀ f ∈ fs, TK prog w h0 f.1 f.2) ∧ (fs.map (·.1)).Perm L
theorem SetT.of_get {h0 h h' : Heap} {S : Addr} {L : List (List Int)} (x : SetT prog w h0 h S L) (k : ∀ o, h.get? S = some o → h'.get? S = some o) : SetT prog w h0 h' S L := by
 obtain ⟨o, es, ep, t, fs, e, r⟩ := x
 exact ⟨o, es, ep, t, fs, k o e, r⟩
theorem get_put {h : Heap} {a : Addr} {o : Obj} {es es' : Array (Int × Value)} {ep : Nat} {t t' : SetTable} (ho : h.get? a = some o) (hd : o.data = .set es ep t) : (h.update a (Obj.putSet es' t')).get? a = some { o with data := .set es' (ep + 1) t' } := by
 have := Heap.get?_update_self (Obj.putSet es' t') ho (by rw [putSet_of es' t' hd]; rfl)
 rw [putSet_of es' t' hd] at this; exact this
theorem relay_tup {S : Addr} {o : Obj} {es : Array (Int × Value)} {ep : Nat} {t : SetTable} {n : Nat} {Q : Unit → Shared → Prop} (ho : s.heap.get? S = some o) (hd : o.data = .set es ep t) (hf : t.fits es.size = true) (hn : es.size = n) (h0 : 0 < n) (hb : n ≤ 1023)
  (h : ∀ es' t', TabX t' es' → es'.toList.Perm es.toList → Q () { s with heap := s.heap.update S (Obj.putSet es' t') }) : wpAny (model prog w) A (setRelay S (grown n)) Q E s := by
 obtain ⟨t', order, e1, T', e2, pm, _⟩ := TabX.relaid (t := t) hn h0 hb
 obtain ⟨k, a1, a2, a3, a4⟩ := above_spec (m := grown n) (by
  unfold grown
  rw [if_neg (by lia)]
  have : (4092 : Nat) < 2 ^ 60 := by decide
  lia)
 have hsz : sizeAbove (grown n) ≤ 8192 := by
  rw [a1]
  rcases a4 with a4 | rfl
  ·have : grown n = n * 4 := by unfold grown; rw [if_neg (by lia)]
   lia
  ·decide
 unfold setRelay
 refine wpAny_bind (wpAny_setState_of ho hd hf ?_)
 dsimp only
 rw [if_neg (by rw [sizeLine_eq]; lia)]
 rw [e1]
 have er : ∀ {Q' : (Array (Int × Value) × SetTable) → Shared → Prop}, Q' (order.filterMap (es[·]?), t') s → wpAny (model prog w) A (if ((order.filterMap (es[·]?)).size != es.size) = true then unsupported "internal:set-table-lost-an-element" else pure (order.filterMap (es[·]?), t')) Q' E s := fun {Q'} z => by
  rw [if_neg (by rw [e2]; simp)]
  exact wpAny_pure z
 refine wpAny_bind (er ?_)
 exact wpAny_storeSet_of ho hd (h _ _ T' pm) (by rw [e2, sizeLine_eq]; lia)
theorem addT {h0 : Heap} {S : Addr} {L : List (List Int)} {d : List Int} {b : Addr} {Q : Bool → Shared → Prop} (hu : A.units < cLine) (kp : ∀ c o, h0.get? c = some o → s.heap.get? c = some o) (hb : TK prog w h0 d b) (x : SetT prog w h0 s.heap S L) (room : L.length < 1023)
  (fin : ∀ v h', Heap.SameBut S s.heap h' → SetT prog w h0 h' S (if d ∈ L then L else L ++ [d]) → Q v { s with heap := h' }) :
  wpAny (model prog w) A (setAddHashed S (.ref b) (tkH prog w d)) Q E s := by
 obtain ⟨o, es, ep, t, fs, ho, hx, hd, T, hes, hk, pm⟩ := x
 have hlen : es.size = L.length := by
  have h1 := congrArg List.length hes
  have h2 := pm.length_eq
  rw [Array.length_toList, List.length_map] at h1
  rw [List.length_map] at h2
  lia
 unfold setAddHashed setAddHashedIn
 refine wpAny_holding (wpAny_bind (wpAny_setState_of ho hd T.fits ?_))
 dsimp only
 rw [if_neg (by simp [byScan, Value.scannable])]
 refine wpAny_bind (search_tup hu ho hd T hes (fun f hf => tk_at (hk f hf) kp) (tk_at hb kp) (fun hm => ?_) (fun hm n c2 c3 => ?_))
 ·dsimp only
  have z := fin false s.heap (Heap.SameBut.refl S s.heap)
  rw [if_pos (pm.mem_iff.mp hm)] at z
  exact wpAny_pure (z ⟨o, es, ep, t, fs, ho, hx, hd, T, hes, hk, pm⟩)
 ·dsimp only
  have hm' : ¬ d ∈ L := fun z => hm (pm.mem_iff.mpr z)
  refine wpAny_bind (wpAny_setState_of ho hd T.fits ?_)
  dsimp only
  obtain ⟨p1, p2, p3, p4, p5, p6, p7, p8, p9⟩ := T.put (e := (tkH prog w d, Value.ref b)) c2 c3 true
  have pp := SetTable.insertAt_perm es (t.put (adv t n (t.probeStart (tkH prog w d))).j).2 (tkH prog w d, Value.ref b)
  dsimp only at p1 p2 p3 p4 p5 p6 p7 p8 p9
  generalize (t.put (adv t n (t.probeStart (tkH prog w d))).j).1 = t1 at p1 p2 p3 p4 p5 p6 p7 p8 p9 ⊢
  generalize insertAt es (t.put (adv t n (t.probeStart (tkH prog w d))).j).2 (tkH prog w d, Value.ref b) = es1 at p1 p2 p3 p4 p5 p6 p7 p8 p9 pp ⊢
  rw [Array.toList_push, hes, show fs.map (ent prog w) ++ [(tkH prog w d, Value.ref b)] = (fs ++ [(d, b)]).map (ent prog w) by rw [List.map_append]; rfl] at pp
  obtain ⟨fs1, f1, f2⟩ := perm_unmap pp _ rfl
  have hk1 : ∀ f ∈ fs1, TK prog w h0 f.1 f.2 := fun f hf => by
   rcases List.mem_append.mp (f1.mem_iff.mp hf) with q | q
   ·exact hk f q
   ·rw [List.mem_singleton] at q
    rw [q]; exact hb
  have pm1 : (fs1.map (·.1)).Perm (L ++ [d]) := by
   refine (f1.map _).trans ?_
   rw [List.map_append]
   exact pm.append_right _
  have less := T.less
  have small := T.small
  have hf1 : t1.fits es1.size = true := by
   unfold SetTable.fits SetTable.fill
   rw [p2, p4, p6]
   simp only [beq_self_eq_true, Bool.true_and, decide_eq_true_eq, List.size_toArray, List.length_nil]
   obtain ⟨k, hk3, h3⟩ := T.mask
   have : 2 ^ 3 ≤ 2 ^ k := Nat.pow_le_pow_right (by decide) h3
   lia
  have key : ∀ R : Bool → Shared → Prop, (∀ v h', Heap.SameBut S s.heap h' → SetT prog w h0 h' S (L ++ [d]) → R v { s with heap := h' }) → wpAny (model prog w) A (do
    storeSet S es1 t1
    if (!false && t1.tooFull) = true then setRelay S (grown (es.size + 1))
    return true) R E s := fun R hR => by
   refine wpAny_bind (wpAny_storeSet_of ho hd ?_ (by rw [p6, sizeLine_eq]; lia))
   have g1 := get_put (es' := es1) (t' := t1) ho hd
   have sb1 := Heap.SameBut.update s.heap S (Obj.putSet es1 t1)
   by_cases c : (!false && t1.tooFull) = true
   ·rw [if_pos c]
    refine wpAny_bind (relay_tup (s := { s with heap := s.heap.update S (Obj.putSet es1 t1) }) g1 rfl hf1 p6 (by lia) (by lia) fun es2 t2 T2 pm2 => ?_)
    rw [f2] at pm2
    obtain ⟨fs2, e1, e2⟩ := perm_unmap pm2 _ rfl
    have g2 := get_put (es' := es2) (t' := t2) g1 rfl
    refine wpAny_pure (hR _ _ (sb1.trans (Heap.SameBut.update _ S _)) ⟨_, es2, _, t2, fs2, g2, hx, rfl, T2, e2, fun f hf => hk1 f (e1.mem_iff.mp hf), (e1.map _).trans pm1⟩)
   ·rw [if_neg c]
    refine wpAny_pure (hR _ _ sb1 ⟨_, es1, _, t1, fs1, g1, hx, rfl, ⟨p1, p2, p3, p4.trans p6.symm, p5, ?_, ?_⟩, f2, hk1, pm1⟩)
    ·have c' : ¬ t1.fill * 5 ≥ t1.mask * 3 := fun z => c (by
      unfold SetTable.tooFull
      simp [z])
     unfold SetTable.fill at c'
     rw [p2, p4] at c'
     simp only [List.size_toArray, List.length_nil] at c'
     lia
    ·rw [p7]; exact small
  rw [if_neg hm'] at fin
  by_cases c : t1.plain = true
  ·rw [if_pos c]
   refine wpAny_bind (hash_value (tk_at hb kp) ?_)
   rw [if_pos rfl]
   exact key _ fin
  ·rw [if_neg c]
   refine wpAny_bind (wpAny_pure ?_)
   rw [if_pos rfl]
   exact key _ fin
end
end L2
namespace L2
open PySem PyProof.Rows
section
variable {prog : Program} {w : World} {A : Around} {R : Result → Shared → Prop} {I : Addr} {fp wr : List Addr} {G : Array GenState → Array GenState → Prop} {n : Nat} {P : Nat → Value → Prop} {St : Nat → Shared → Prop}
theorem updLoopT (W : WalksS prog w A.in1 I fp wr G n P St) (h0 : Heap) (S : Addr) (hSf : S ∉ fp) (h0S : h0.get? S = none) (h0w : ∀ b ∈ wr, h0.get? b = none) (ds : List (List Int)) (hn : n ≤ ds.length) (hu : A.in1.units < cLine) (hval : ∀ i v, P i v → ∃ b, v = .ref b ∧ TK prog w h0 (ds.getD i []) b) (hb : n ≤ 1000) :
  ∀ (k i : Nat) (s : Shared), n - i = k → i ≤ n → St i s → (∀ c o, h0.get? c = some o → s.heap.get? c = some o) → SetT prog w h0 s.heap S (met ds i) → (∀ s', Moved (S :: wr) G s s' → SetT prog w h0 s'.heap S (met ds n) → R (.ok (.ret .none)) s') →
   codeAny (model prog w) A (.builtin "set.update.loop" ⟨[.ref S, .ref I], []⟩) R s := by
 have hSw : S ∉ wr := fun z => hSf (W.sub _ z)
 have sub : ∀ b ∈ wr, b ∈ S :: wr := fun b q => List.mem_cons_of_mem _ q
 intro k
 induction k with
 | zero =>
  intro i s hk hi st kp x fin
  obtain rfl : i = n := by lia
  refine codeAny_builtin PyProof.Rows.F.entry_set_update_loop ?_
  rw [Around.under_plainId PyProof.Rows.F.plain_set_update_loop _]
  show wpAny _ A.in1 (pyNext (.ref I) >>= _) _ _ s
  refine wpAny_bind (W.done s _ _ st fun s' m => ?_)
  show wpAny _ A.in1 (ret Value.none) _ _ s'
  exact wpAny_pure (fin s' (m.mono sub) (x.of_get fun o e => m.heap S _ hSw e))
 | succ k ih =>
  intro i s hk hi st kp x fin
  have lt : i < n := by lia
  refine codeAny_builtin PyProof.Rows.F.entry_set_update_loop ?_
  rw [Around.under_plainId PyProof.Rows.F.plain_set_update_loop _]
  show wpAny _ A.in1 (pyNext (.ref I) >>= _) _ _ s
  refine wpAny_bind (W.item i s _ _ lt st fun v s' pv st' m => ?_)
  obtain ⟨b, rfl, hbk⟩ := hval i v pv
  have x' : SetT prog w h0 s'.heap S (met ds i) := x.of_get fun o e => m.heap S _ hSw e
  have kp' : ∀ c o, h0.get? c = some o → s'.heap.get? c = some o := fun c o e => m.heap c o (fun z => by rw [h0w c z] at e; cases e) (kp c o e)
  show wpAny _ A.in1 (holding [Value.ref b] (setAdd S (.ref b)) >>= _) _ _ s'
  refine wpAny_bind (wpAny_holding ?_)
  unfold setAdd
  refine wpAny_holding (wpAny_bind (wpAny_pyHash_tuple hu (tk_at hbk kp') ?_))
  obtain ⟨_, _, hlen, _⟩ := met_spec ds i (by lia)
  refine addT (s := { s' with toks := s'.toks + ((ds.getD i []).length + 1) }) hu kp' hbk x' (by lia) fun v h' sb x2 => ?_
  have x3 : SetT prog w h0 h' S (met ds (i + 1)) := x2
  refine wpAny_pure ⟨plainId_quiet PyProof.Rows.F.plain_set_update_loop _, ih (i + 1) _ (by lia) lt (W.frame _ s' _ _ st' (Nat.le_add_right _ _) fun b hb o e => ?_) (fun c o e => ?_) x3 fun s'' m2 x4 => ?_⟩
  ·rw [sb.2 b (fun z : b = S => hSf (z ▸ hb))]; exact e
  ·show h'.get? c = some o
   rw [sb.2 c (fun z : c = S => by rw [z, h0S] at e; cases e)]; exact kp' c o e
  ·refine fin s'' (Moved.trans W.gtrans ((m.mono sub).then_heap (Nat.le_add_right _ _) fun b o hb e => ?_) m2) x4
   rw [sb.2 b (fun z : b = S => hb (z ▸ List.mem_cons_self))]; exact e
end
section
variable {prog : Program} {w : World} {A : Around} {E : Value → Shared → Prop} {s : Shared}
set_option maxHeartbeats 3200000 in
theorem set_of_listT {l : Addr} {items : Array Value} {ds : List (List Int)} {Q : Value → Shared → Prop} (hh : A.handled = none) (hu : A.units + 8 < cLine) (hl : s.heap.IsList l items) (hn : items.size = ds.length) (hi : ∀ (i : Nat) v, items[i]? = some v → ∃ b, v = .ref b ∧ TK prog w s.heap (ds.getD i []) b) (hb : items.size ≤ 1000)
  (h : ∀ (h' : Heap) (tk : Nat), SetT prog w s.heap h' s.heap.objs.size (met ds ds.length) → (∀ b o, b < s.heap.objs.size → s.heap.get? b = some o → h'.get? b = some o) → Q (.ref s.heap.objs.size) { s with heap := h', toks := tk }) :
  wpAny (model prog w) A (call (.type "set") [.ref l]) Q E s := by
 obtain ⟨c, tl, hmro⟩ := PySem.F.called_set.mro
 have hmade := PySem.F.called_set.made
 have hsub := PySem.F.called_set.sub
 refine wpAny_call (codeAny_of_tree ?_)
 show wpAny _ _ (callAny (.type "set") _) _ _ _
 refine wpAny_pure ⟨Code.quiet_builtin _ (by decide +kernel), codeAny_builtin PySem.F.entry_type_call ?_⟩
 rw [Around.under_plain (weight_type_call_type "set" [.ref l] []) rfl]
 have h1 := PySem.F.called_set.notType
 have h2 := PySem.F.called_set.canCreate
 have hct := PySem.F.typeCall_set_1 (.ref l)
 repeat (any_goals (first | assumption | wp_step))
 refine codeAny_mono (set_new_led (.ref l) (E := E) (Q := fun obj s₁ => obj = .ref s.heap.objs.size ∧ s₁ = { s with heap := s.heap.push (noSet w) }) ⟨rfl, rfl⟩) fun r s₁ hr => ?_
 cases r with
 | error e => exact hr
 | ok fl =>
  cases fl with
  | ret obj =>
   obtain ⟨rfl, rfl⟩ := hr
   have hS : (s.heap.push (noSet w)).get? s.heap.objs.size = some (noSet w) := Heap.get?_push_size _ rfl
   have hT : Shared.TypeIs { s with heap := s.heap.push (noSet w) } (.ref s.heap.objs.size) "set" := ⟨_, hS, rfl⟩
   have hli := PySem.F.called_set.init.lookup
   have hbi := PySem.F.called_set.init.bind (.ref s.heap.objs.size)
   repeat (any_goals (first | assumption | wp_step))
   refine codeAny_mono (codeAny_call_builtin (R := wants (fun r s₂ => r = .none ∧ ∃ h' tk, s₂ = { s with heap := h', toks := tk } ∧ SetT prog w s.heap h' s.heap.objs.size (met ds ds.length) ∧
     (∀ b o, b < s.heap.objs.size → s.heap.get? b = some o → h'.get? b = some o)) E) PySem.F.called_set.init.plain PySem.F.entry_set_init (check_set_init_1 hT ?_)) fun r₂ s₂ hr₂ => ?_
   ·obtain ⟨ol, hol, hcl, nl, hdl⟩ := id hl
    have hol' : (s.heap.push (noSet w)).get? l = some ol := Heap.get?_push_of_some _ hol
    have hTl : Shared.TypeIs { s with heap := s.heap.push (noSet w) } (.ref l) "list" := ⟨ol, hol', hcl⟩
    have hsls := PySem.F.sub_list_set
    have hslf := PySem.F.sub_list_frozenset
    have hne : (Value.type "list" == Value.type "dict") = false := by decide
    have hl1 : (s.heap.push (noSet w)).IsList l items := ⟨_, hol', hcl, nl, hdl⟩
    unfold Builtin.«set.__init__» noKeywords Builtin.Frozenset.updateFrom
    generalize hPI : pyIter = PI
    wp_walk
    subst hPI
    refine wpAny_pyIter_list hl1 (wpAny_bind (wpAny_runValue ?_))
    have hlS : l < s.heap.objs.size := Heap.lt_size hol
    have hneI : l ≠ (s.heap.push (noSet w)).objs.size := by rw [Heap.size_push]; exact Nat.ne_of_lt (Nat.lt_succ_of_lt hlS)
    have hSf : s.heap.objs.size ∉ [(s.heap.push (noSet w)).objs.size, l] := by
     rw [Heap.size_push]
     simp only [List.mem_cons, List.not_mem_nil, or_false, not_or]
     exact ⟨Nat.ne_of_lt (Nat.lt_succ_self _), Nat.ne_of_gt hlS⟩
    have h0S : s.heap.get? s.heap.objs.size = none := by
     cases q : s.heap.get? s.heap.objs.size with
     | none => rfl
     | some o => exact absurd (Heap.lt_size q) (Nat.lt_irrefl _)
    have h0I : s.heap.get? (s.heap.push (noSet w)).objs.size = none := by
     cases q : s.heap.get? (s.heap.push (noSet w)).objs.size with
     | none => rfl
     | some o =>
      have := Heap.lt_size q
      rw [Heap.size_push] at this
      exact absurd this (by show ¬ s.heap.objs.size + 1 < s.heap.objs.size; lia)
    rw [← hn]
    refine updLoopT ((Walks.list (by simpa using hh) _ l hneI items).toS) s.heap s.heap.objs.size hSf h0S (fun b hb => by rw [List.mem_singleton] at hb; rw [hb]; exact h0I) ds (by lia) ?hU hi hb (items.size - 0) 0 _ (by lia) (Nat.zero_le _)
     ⟨⟨_, Heap.get?_push_size _ rfl, rfl, rfl⟩, (hl1.push _)⟩ (fun c o e => Heap.get?_push_of_some _ (Heap.get?_push_of_some _ e)) ?hS0 ?hR
    case hU => show A.units + 1 + 1 + 1 < cLine; lia
    case hS0 =>
     exact ⟨_, #[], 0, _, [], Heap.get?_push_of_some _ hS, ⟨rfl, rfl, rfl⟩, rfl, TabX.fresh _, rfl, (fun f hf => nomatch hf), List.Perm.refl _⟩
    case hR =>
     intro s' m x
     obtain ⟨h', g', d', tk', os'⟩ := s'
     have eg : g' = s.gens := m.gens
     have ed : d' = s.drawn := m.drawn
     have eo : os' = s.os := m.os
     subst eg ed eo
     show wpAny _ _ _ _ _ _
     refine wpAny_pure ?_
     show wpAny _ _ (ret Value.none) _ _ _
     refine wpAny_pure ⟨rfl, h', tk', rfl, x, fun b o q e => ?_⟩
     refine m.heap b o ?_ (Heap.get?_push_of_some _ (Heap.get?_push_of_some _ e))
     simp only [List.mem_cons, List.not_mem_nil, or_false, not_or]
     refine ⟨Nat.ne_of_lt q, ?_⟩
     rw [Heap.size_push]
     exact Nat.ne_of_lt (Nat.lt_succ_of_lt q)
   ·cases r₂ with
    | error e => exact hr₂
    | ok fl₂ =>
     cases fl₂ with
     | ret r =>
      obtain ⟨rfl, h', tk, rfl, x, kp⟩ := hr₂
      repeat (any_goals (first | assumption | wp_step))
      exact h _ _ x kp
     | _ => exact hr₂.elim
  | _ => exact hr.elim
end
end L2
namespace L2
open PySem PySem.Spec PyProof.Rows
theorem extend_tup (l : Addr) (items : Array Value) (n : Nat) (b : Addr) (items2 : Array Value) (n2 : Nat) (dc : Option Addr) (sl : Array (Option Value)) (hs0 : ¬(!items.isEmpty && Builtin.List.listTooLong (items.size + items2.size)) = true) (hs1 : items.size ≤ sizeLine) (hs2 : items.size + items2.size ≤ sizeLine + 1) :
  Meets (Builtin.«list.extend» ⟨[.ref l, .ref b], []⟩) (fun _ R s => s.heap.get? l = some { cls := .type "list", dict := none, data := .seq items n, slots := #[] } ∧ s.heap.get? b = some { cls := .type "tuple", dict := dc, data := .seq items2 n2, slots := sl } ∧ R (.ok (.ret Value.none)) { s with heap := s.heap.update l (Obj.mapSeq fun x => x ++ items2), toks := s.toks }) :=
 .of_wp fun prog w A R s h => by
  obtain ⟨hp, g, d, tk, os⟩ := s
  obtain ⟨hl, hb, h⟩ := h
  have f2 := PySem.AutoSeq1.sub_tuple_tuple
  have f3 := PySem.AutoSeq1.sub_list_list
  have f4 := PySem.AutoSeq1.sub_tuple_list
  have f5 := PySem.AutoSeq1.sub_list_tuple
  have hz' : (items ++ items2).size ≤ sizeLine + 1 := by rw [Array.size_append]; exact hs2
  wp_walk using (wpAny_updateSeq hl rfl (hz := hs1) (_hz' := hz')), wpAny_loadPart' hl, wpAny_loadPart' hb
  exact ⟨_, rfl, h⟩
section
variable {X : Cx}
noncomputable def rExtendT (K : PySem.W.Frag) : V → List V → Hp → VK → Prop := fun x vs H Q => ∃ l b xs zs, x = .ref l ∧ vs = [.ref b] ∧ H l = some (.lst xs) ∧ SqT K H b zs ∧ xs.length + zs.length ≤ sizeLine ∧ Q .non (upd H l (.lst (xs ++ zs)))
theorem mt_extendT (K : PySem.W.Frag) (hK : X.K = K := by rfl) : MtR X "list.extend" (rExtendT K) := by
 subst hK
 intro pins s σ H x vs v us Q I rx rv h
 obtain ⟨l, b, xs, zs, rfl, rfl, hH, hB, hz, q⟩ := h
 cases rx
 obtain ⟨u, rfl, ru⟩ := rv.one
 cases ru
 obtain ⟨z, its, n, r, hl, e⟩ := I.lstM hH
 obtain ⟨its2, r2, ⟨ob, e2, c2, n2, d2⟩, z2⟩ := I.tuple hB
 have hl2 := r2.length
 have hsz : its.toArray.size + its2.toArray.size ≤ sizeLine := by rw [List.size_toArray, List.size_toArray]; lia
 have hlong : ¬ (!its.toArray.isEmpty && Builtin.List.listTooLong (its.toArray.size + its2.toArray.size)) = true := by
  rw [notLongL hsz, Bool.and_false]
  exact Bool.false_ne_true
 obtain ⟨oc, od, oo, os⟩ := ob
 dsimp only at c2 d2
 subst c2 d2
 refine call_meets F.slot_list_extend ⟨_, e, rfl⟩ F.entry_list_extend (F.args_list_extend_2 _ _)
  (extend_tup l its.toArray n b its2.toArray n2 od os hlong (by rw [List.size_toArray]; lia) (by lia)) ⟨e, e2, ?_⟩
 refine ⟨.non, _, I.lset (its' := its ++ its2) hH e (by simp) (r.append r2) ?_, rfl, q⟩
 rw [List.length_append]
 lia
noncomputable def SetN (l : Addr) (n : Nat) : HO := .ext fun h => ∃ (o : Obj) (es : Array (Int × Value)) (ep : Nat) (t : SetTable), h.get? l = some o ∧ o.ExactSet ∧ o.data = .set es ep t ∧ t.fits es.size = true ∧ es.size = n ∧ n < 4096
theorem items_of {prog : Program} {w : World} : ∀ {d : List Int} {vs : List Value}, Vals (d.map V.int) vs → ItemsAre (intKind prog w) d vs
 | [], _, .nil => .nil
 | i :: d, _, .cons ⟨t, e⟩ r => .cons (by rw [e]; exact intKind_is _ _ _ _) (items_of r)
noncomputable def rSetD (K : PySem.W.Frag) : List V → Hp → VK → Prop := fun xs H Q => ∃ (p : Addr) (as : List Addr) (ds : List (List Int)), xs = [.ref p] ∧ SqL K H p (as.map V.ref) ∧ DataAt K H as ds ∧ ds.length ≤ 1000 ∧ ∀ l, H l = none → Q (.ref l) (upd H l (SetN l (met ds ds.length).length))
theorem call_setDK (K : PySem.W.Frag) (hc : X.calm = true) (hu : X.A.units + 8 < cLine) (hK : X.K = K := by rfl) : CallR X (.type "set") (rSetD K) := by
 subst hK
 intro pins s σ H xs us Q I r h
 obtain ⟨p, as, ds, rfl, hq, hD, hle, q⟩ := h
 obtain ⟨u, rfl, rx⟩ := vals1 r
 cases rx
 obtain ⟨its, r', pl, hz⟩ := I.list hq
 have hlen := r'.length
 have la := Paired.length hD
 rw [List.length_map] at hlen
 refine set_of_listT (I.ok.hd hc) hu pl.isList (ds := ds) (by rw [List.size_toArray]; lia) (fun i v hv => ?_) (by rw [List.size_toArray]; lia) fun h' tk x kp => ?_
 ·rw [← Array.getElem?_toList] at hv
  have hi : i < its.length := (List.getElem?_eq_some_iff.mp hv).1
  have ea : as[i]? = some (as[i]'(by lia)) := List.getElem?_eq_getElem (by lia)
  obtain ⟨v', hv', rv⟩ := r'.get (i := i) (x := .ref (as[i]'(by lia))) (by rw [List.getElem?_map, ea]; rfl)
  have : v' = v := by
   have := hv'.symm.trans hv
   injection this
  subst this
  cases rv
  obtain ⟨d, ed, hd⟩ := paired_at hD i _ ea
  obtain ⟨ti, rt, ⟨ob, e2, c2, n2, d2⟩, _⟩ := I.tuple hd
  refine ⟨_, rfl, ob, ti.toArray, n2, e2, c2, d2, ?_⟩
  rw [List.getD_eq_getElem?_getD, ed]
  simpa using items_of rt
 ·obtain ⟨o, es, ep, t, fs, ho, hx, hd, T, hes, hk, pm⟩ := x
  have hm := (met_all ds).2
  have hn : es.size = (met ds ds.length).length := by
   have h1 := congrArg List.length hes
   have h2 := pm.length_eq
   rw [Array.length_toList, List.length_map] at h1
   rw [List.length_map] at h2
   lia
  exact ⟨.ref s.heap.objs.size, _, I.laid (t' := tk) (o := SetN s.heap.objs.size (met ds ds.length).length) (fun b o e => kp b o (Heap.lt_size e) e) (Nat.le_refl _)
   ⟨⟨o, es, ep, t, ho, hx, hd, T.fits, hn, by lia⟩, ⟨o, ho⟩, fun h1 h2 y k => by
    obtain ⟨o, es, ep, t, ho, r⟩ := y
    exact ⟨o, es, ep, t, k o ho, r⟩⟩, rfl, q _ (I.hok.fresh (Nat.le_refl _))⟩
noncomputable def rLenN : List V → Hp → VK → Prop := fun xs H Q => ∃ (p : Addr) (n : Nat), xs = [.ref p] ∧ H p = some (SetN p n) ∧ Q (.int n) H
theorem call_lenNK : CallR X (.builtin "len") rLenN := by
 intro pins s σ H xs us Q I r h
 obtain ⟨p, n, rfl, he, q⟩ := h
 obtain ⟨u, rfl, rx⟩ := vals1 r
 cases rx
 obtain ⟨o, es, ep, t, ho, hx, hd, hf, hn, h4⟩ := (show ObjOk X.prog X.w H s.heap p (SetN p n) from I.hok p _ he).1
 refine PySem.call_len_set ho hx hd hf (by lia) ?_
 rw [hn]
 exact ⟨.int n, H, I.tok _, ⟨_, rfl⟩, q⟩
end
theorem Room.units9 {k : Nat} {A : Around} (r : Room k A) : A.units + 8 < cLine := by have := r.un; lia
end L2
namespace L2
open PySem PySem.Spec PyProof.Rows
section
variable {X : Cx}
theorem vals_rev : ∀ {xs : List V} {us : List Value}, Vals xs us → Vals xs.reverse us.reverse
 | _, _, .nil => .nil
 | _, _, .cons r t => by
  rw [List.reverse_cons, List.reverse_cons]
  exact (vals_rev t).append (.cons r .nil)
end
end L2
namespace L2
open PySem PySem.Spec PyProof.Rows
noncomputable def rCal (K : PySem.W.Frag) : Hp → V → Int × List Int × Int → Prop := fun H x d => ∃ a e, x = .ref a ∧ SqT K H a [.int d.1, .ref e, .int d.2.2] ∧ SqT K H e (d.2.1.map V.int)
section
variable {X : Cx}
noncomputable def eqC (d d' : Int × List Int × Int) (j : Nat) : Bool := match j with
 | 0 => decide (d.1 = d'.1)
 | 1 => decide (d.2.1 = d'.2.1)
 | _ => decide (d.2.2 = d'.2.2)
theorem all_eqC (d d' : Int × List Int × Int) : ((List.range 3).all (eqC d d')) = decide (d = d') := by
 obtain ⟨a, b, c⟩ := d
 obtain ⟨a', b', c'⟩ := d'
 rw [Bool.eq_iff_iff, decide_eq_true_iff, List.all_eq_true]
 constructor
 ·intro q
  have h0 := of_decide_eq_true (q 0 (by decide))
  have h1 := of_decide_eq_true (q 1 (by decide))
  have h2 := of_decide_eq_true (q 2 (by decide))
  simp only at h0 h1 h2
  rw [h0, h1, h2]
 ·intro z i hi
  injection z with z1 z2
  injection z2 with z2 z3
  subst z1 z2 z3
  match i with
  | 0 => exact decide_eq_true rfl
  | 1 => exact decide_eq_true rfl
  | _ + 2 => exact decide_eq_true rfl
end
end L2
namespace L2
open PySem PySem.Spec PyProof.Rows PyProof
section
variable {X : Cx}
theorem ep_cal (K : PySem.W.Frag) (h : X.K = K := by rfl) : EqRep X 2 (rCal K) where
 eq := fun H x y d d' hx hy A pins s σ u v I ru rv hu => by
  subst h
  obtain ⟨a, e, rfl, ha, he⟩ := hx
  obtain ⟨b, e', rfl, hb, he'⟩ := hy
  cases ru
  cases rv
  by_cases hab : a = b
  ·subst hab
   have q1 := I.tuple_inj ha hb
   injection q1 with q2 q3
   injection q3 with q4 q5
   injection q5 with q6 q7
   injection q2 with q2
   injection q4 with q4
   injection q6 with q6
   subst q4
   have q8 := I.tuple_inj he he'
   have q9 : d.2.1 = d'.2.1 := List.map_inj_right (fun x y z => by injection z) |>.mp q8
   have : d = d' := by
    obtain ⟨a1, a2, a3⟩ := d
    obtain ⟨b1, b2, b3⟩ := d'
    simp only at q2 q6 q9
    rw [q2, q6, q9]
   rw [this, decide_eq_true rfl]
   exact SeqAt.EqAt.same _
  ·obtain ⟨us, r1, p1, _⟩ := I.tuple ha
   obtain ⟨vs, r2, p2, _⟩ := I.tuple hb
   cases r1 with
   | cons r10 r1 =>
   cases r1 with
   | cons r11 r1 =>
   cases r1 with
   | cons r12 r1 =>
   cases r1
   cases r2 with
   | cons r20 r2 =>
   cases r2 with
   | cons r21 r2 =>
   cases r2 with
   | cons r22 r2 =>
   cases r2
   have := SeqAt.RcAt.tuples (A := A) (e := eqC d d') p1 p2 (by lia) (fun j h1 h2 => by
    match j, h1, h2 with
    | 0, _, _ => exact ep_int.eq H _ _ d.1 d'.1 rfl rfl A.in1 pins s σ _ _ I r10 r20 (by show A.units + 1 + 0 < cLine; lia)
    | 1, _, _ => exact (ep_tup ep_int).eq H _ _ d.2.1 d'.2.1 ⟨e, _, rfl, he, ints_paired _⟩ ⟨e', _, rfl, he', ints_paired _⟩ A.in1 pins s σ _ _ I r11 r21 (by show A.units + 1 + 1 < cLine; lia)
    | 2, _, _ => exact ep_int.eq H _ _ d.2.2 d'.2.2 rfl rfl A.in1 pins s σ _ _ I r12 r22 (by show A.units + 1 + 0 < cLine; lia))
   refine SeqAt.EqAt.of_refs hab ?_
   have e3 : ((List.range 3).all (eqC d d') && (3 == 3)) = decide (d = d') := by rw [all_eqC]; simp
   rw [← e3]
   exact this
 fn := fun pins s σ H x d d' I hx hy => by
  subst h
  obtain ⟨a, e, rfl, ha, he⟩ := hx
  obtain ⟨b, e', q0, hb, he'⟩ := hy
  cases q0
  have q1 := I.tuple_inj ha hb
  injection q1 with q2 q3
  injection q3 with q4 q5
  injection q5 with q6 q7
  injection q2 with q2
  injection q4 with q4
  injection q6 with q6
  subst q4
  have q8 := I.tuple_inj he he'
  have q9 : d.2.1 = d'.2.1 := List.map_inj_right (fun x y z => by injection z) |>.mp q8
  obtain ⟨a1, a2, a3⟩ := d
  obtain ⟨b1, b2, b3⟩ := d'
  simp only at q2 q6 q9
  rw [q2, q6, q9]
section
variable {δ : Type} [DecidableEq δ] {n : Nat} {R : Hp → V → δ → Prop}
theorem in_reps2 (ep : EqRep X n R) {pins : List (Addr × Obj)} {σ : St} {H : Hp} {s : Shared} {x : V} {u : Value} {as : List Addr} {d : δ} {ds : List δ} {A : Around} (I : Inv X pins σ H s) (hb : R H x d) (ru : RelV x u) (hp : Paired (fun a d => R H (.ref a) d) as ds)
  (hu : A.units + n < cLine) {its : List Value} (r : Vals (as.map V.ref) its) :
  its = as.map Value.ref ∧ ∃ e : Value → Bool, (∀ y, y ∈ its.toArray → SeqAt.EqAt A s y u (e y)) ∧ ∀ (j : Nat) a d', as[j]? = some a → ds[j]? = some d' → e (.ref a) = decide (d' = d) := by
 have rd : ∀ (j : Nat) a, as[j]? = some a → ∃ d', ds[j]? = some d' ∧ R H (.ref a) d' := fun j a h => paired_at hp j a h
 have evs : its = as.map Value.ref := by
  have go : ∀ (as : List Addr) (vs : List Value), Vals (as.map V.ref) vs → vs = as.map Value.ref := by
   intro as
   induction as with
   | nil => intro vs r; cases r; rfl
   | cons a t ih =>
    intro vs r
    rw [List.map_cons] at r
    cases r with
    | cons r1 r2 => rw [show _ = Value.ref a from r1, ih _ r2]; rfl
  exact go as its r
 subst evs
 let e : Value → Bool := fun y => match y with
  | .ref a => (List.range as.length).any fun j => decide (as[j]? = some a) && decide (ds[j]? = some d)
  | _ => false
 have eR : ∀ a, e (.ref a) = true ↔ ∃ j : Nat, as[j]? = some a ∧ ds[j]? = some d := fun a => by
  show ((List.range as.length).any fun j => decide (as[j]? = some a) && decide (ds[j]? = some d)) = true ↔ _
  rw [List.any_eq_true]
  constructor
  ·rintro ⟨j, _, h⟩
   rw [Bool.and_eq_true] at h
   exact ⟨j, of_decide_eq_true h.1, of_decide_eq_true h.2⟩
  ·rintro ⟨j, h1, h2⟩
   exact ⟨j, List.mem_range.mpr (List.getElem?_eq_some_iff.mp h1).1, by rw [Bool.and_eq_true]; exact ⟨decide_eq_true h1, decide_eq_true h2⟩⟩
 have key : ∀ (j : Nat) a d', as[j]? = some a → ds[j]? = some d' → e (.ref a) = decide (d' = d) := fun j a d' h1 h2 => by
  rw [Bool.eq_iff_iff, eR, decide_eq_true_iff]
  constructor
  ·rintro ⟨k, g1, g2⟩
   obtain ⟨d1, q1, s1⟩ := rd j a h1
   obtain ⟨d2, q2, s2⟩ := rd k a g1
   rw [h2] at q1
   rw [g2] at q2
   cases q1
   cases q2
   exact ep.fn pins s σ H (.ref a) _ _ I s1 s2
  ·rintro rfl
   exact ⟨j, h1, h2⟩
 refine ⟨rfl, e, fun y hy => ?_, key⟩
 ·have hy' : y ∈ as.map Value.ref := by simpa using hy
  obtain ⟨a, ha, rfl⟩ := List.mem_map.mp hy'
  obtain ⟨j, hj⟩ := List.getElem?_of_mem ha
  obtain ⟨d', q1, s1⟩ := rd j a hj
  rw [key j a d' hj q1]
  exact ep.eq H (.ref a) x d' d s1 hb A pins s σ (.ref a) u I rfl ru hu
end
noncomputable def rIndexR {δ : Type} [DecidableEq δ] (K : PySem.W.Frag) (R : Hp → V → δ → Prop) : V → List V → Hp → VK → Prop := fun x vs H Q => ∃ (l : Addr) (y : V) (as : List Addr) (d : δ) (ds : List δ) (j : Nat), x = .ref l ∧ vs = [y] ∧ H l = some (.lst (as.map V.ref)) ∧ R H y d ∧ Paired (fun a d => R H (.ref a) d) as ds ∧
 ds[j]? = some d ∧ (∀ m < j, ds[m]? ≠ some d) ∧ j ≤ 1000 ∧ Q (.int (j : Nat)) H
theorem mt_indexR {δ : Type} [DecidableEq δ] {n : Nat} {R : Hp → V → δ → Prop} (K : PySem.W.Frag) (ep : EqRep X n R) (hu : X.A.units + 1 + n < cLine) (h : X.K = K := by rfl) : MtR X "list.index" (rIndexR K R) := by
 subst h
 intro pins s σ H x vs v us Q I rx rv h
 obtain ⟨l, y, as, d, ds, j, rfl, rfl, hH, hy, hp, hj, hno, h1000, q⟩ := h
 cases rx
 obtain ⟨u, rfl, ru⟩ := rv.one
 obtain ⟨z, its, m0, r, hl, e⟩ := I.lstM hH
 obtain ⟨rfl, e1, h1, key⟩ := in_reps2 (A := X.A.in1) ep I hy ru hp (by show X.A.units + 1 + n < cLine; lia) r
 have la : as.length = ds.length := Paired.length hp
 obtain ⟨jl, je⟩ := List.getElem?_eq_some_iff.mp hj
 refine call_meets F.slot_list_index ⟨_, e, rfl⟩ F.entry_list_index (F.args_list_index_2 _ _) (SeqAt.list_indexAt l _ m0 none #[] u e1 j (by simp; lia) (by lia) ?_ fun m hm h2 => ?_) ⟨e, h1, ?_⟩
 ·have ea : as[j]? = some (as[j]'(by lia)) := List.getElem?_eq_getElem (by lia)
  have := key j _ d ea hj
  rw [decide_eq_true rfl] at this
  simpa using this
 ·have ml : m < as.length := by simpa using hm
  have ea : as[m]? = some (as[m]'ml) := List.getElem?_eq_getElem ml
  have ed : ds[m]? = some (ds[m]'(by lia)) := List.getElem?_eq_getElem (by lia)
  have := key m _ _ ea ed
  rw [decide_eq_false fun z => hno m h2 (by rw [ed, z])] at this
  simpa using this
 ·exact ⟨.int _, H, I.tok _, ⟨_, rfl⟩, q⟩
theorem vals_one : ∀ {xs : List V} {us vs : List Value}, (∀ x ∈ xs, ∃ c, x = .ref c) → Vals xs us → Vals xs vs → us = vs
 | _, _, _, _, .nil, .nil => rfl
 | _, _, _, hx, .cons q1 q2, .cons w1 w2 => by
  obtain ⟨c, rfl⟩ := hx _ (List.mem_cons_self ..)
  cases q1
  cases w1
  rw [vals_one (fun x hx' => hx x (List.mem_cons_of_mem _ hx')) q2 w2]
theorem flat_same {A : Around} {pins : List (Addr × Obj)} {s : Shared} {σ : St} {H : Hp} {a b : Addr} {xs : List V} (I : Inv X pins σ H s) (ha : SqL X.K H a xs) (hb : SqL X.K H b xs) (hx : (∀ x ∈ xs, ∃ c, x = .ref c) ∨ ∃ ns : List Int, xs = ns.map V.int) (hu : A.units + 1 < cLine) : SeqAt.EqAt A s (.ref a) (.ref b) true := by
 rcases hx with hx | ⟨ns, rfl⟩
 ·by_cases hab : a = b
  ·subst hab
   exact SeqAt.EqAt.same _
  ·obtain ⟨us, r1, p1, _⟩ := I.list ha
   obtain ⟨vs, r2, p2, _⟩ := I.list hb
   have e : us = vs := vals_one hx r1 r2
   subst e
   have := SeqAt.RcAt.lists (A := A) (e := fun _ => true) p1.isList p2.isList rfl (by lia) (fun j h1 h2 => SeqAt.EqAt.same _)
   refine SeqAt.EqAt.of_refs hab ?_
   rw [List.all_eq_true.mpr fun _ _ => rfl] at this
   exact this
 ·have := (ep_lst ep_int).eq H (.ref a) (.ref b) ns ns ⟨a, _, rfl, ha, ints_paired _⟩ ⟨b, _, rfl, hb, ints_paired _⟩ A pins s σ _ _ I rfl rfl (by lia)
  rw [decide_eq_true rfl] at this
  exact this
noncomputable def rNeTwo (K : PySem.W.Frag) : R2 := fun x y H Q => ∃ (a b a1 a2 b1 b2 : Addr) (xs ys : List V), x = .ref a ∧ y = .ref b ∧ SqL K H a [.ref a1, .ref a2] ∧ SqL K H b [.ref b1, .ref b2] ∧ SqL K H a1 xs ∧ SqL K H b1 xs ∧ SqL K H a2 ys ∧ SqL K H b2 ys ∧
 ((∀ x ∈ xs, ∃ c, x = .ref c) ∨ ∃ ns : List Int, xs = ns.map V.int) ∧ ((∀ x ∈ ys, ∃ c, x = .ref c) ∨ ∃ ns : List Int, ys = ns.map V.int) ∧ Q (.bl false) H
theorem op_neTwoK (K : PySem.W.Frag) (hu : X.A.units + 2 < cLine) (h : X.K = K := by rfl) : OpR X (compareOp .NotEq) (rNeTwo K) := by
 subst h
 intro pins s σ H x y v u Q I rx ry h
 obtain ⟨a, b, a1, a2, b1, b2, xs, ys, rfl, rfl, ha, hb, ha1, hb1, ha2, hb2, hx, hy, q⟩ := h
 cases rx
 cases ry
 obtain ⟨us, r1, p1, _⟩ := I.list ha
 obtain ⟨vs, r2, p2, _⟩ := I.list hb
 cases r1 with
 | cons r10 r1 =>
 cases r1 with
 | cons r11 r1 =>
 cases r1
 cases r2 with
 | cons r20 r2 =>
 cases r2 with
 | cons r21 r2 =>
 cases r2
 cases r10
 cases r11
 cases r20
 cases r21
 refine SeqAt.RcNeAt.lists (e := fun _ => true) p1.isList p2.isList rfl (by lia) (fun j h1 h2 => ?_) X.prog X.w X.xe _ ?_
 ·match j, h1, h2 with
  | 0, _, _ => exact flat_same I ha1 hb1 hx (by show X.A.units + 1 + 1 < cLine; lia)
  | 1, _, _ => exact flat_same I ha2 hb2 hy (by show X.A.units + 1 + 1 < cLine; lia)
 ·exact ⟨.bl false, H, I, rfl, q⟩
theorem range_get {α : Type} : ∀ l : List α, (List.range l.length).filterMap (fun k => l[k]?) = l
 | [] => rfl
 | a :: t => by
  rw [List.length_cons, List.range_succ_eq_map, List.filterMap_cons, List.getElem?_cons_zero, List.filterMap_map]
  show a :: List.filterMap (fun k => (a :: t)[k + 1]?) (List.range t.length) = a :: t
  have : (fun k => (a :: t)[k + 1]?) = fun k => t[k]? := funext fun k => List.getElem?_cons_succ
  rw [this, range_get t]
theorem filterMap_same {α β : Type} {f g : α → Option β} : ∀ {l : List α}, (∀ x ∈ l, f x = g x) → l.filterMap f = l.filterMap g
 | [], _ => rfl
 | x :: t, h => by rw [List.filterMap_cons, List.filterMap_cons, h x (List.mem_cons_self ..), filterMap_same fun y hy => h y (List.mem_cons_of_mem _ hy)]
theorem pick_rev (its : List Value) : slicePick its.toArray none none (some (-1)) = its.reverse.toArray := by
 have hb : sliceBounds none none (some (-1)) its.toArray.size = ((its.length : Int) - 1, -1, -1) := by
  simp [sliceBounds]
 unfold slicePick
 rw [hb]
 congr 1
 unfold sliceRange
 have hc : (if (its.length : Int) - 1 > -1 then ((its.length : Int) - 1 - -1 - -1 - 1) / (- -1) else 0) = (its.length : Int) := by
  by_cases h : (its.length : Int) - 1 > -1
  ·rw [if_pos h, show (- -1 : Int) = 1 by decide, Int.ediv_one]
   lia
  ·rw [if_neg h]
   lia
 simp only [show ¬ ((-1 : Int) > 0) by decide, if_false]
 rw [hc, Int.toNat_natCast, List.filterMap_map]
 have e1 : ∀ k ∈ List.range its.length, (fun k : Nat => its.toArray[((its.length : Int) - 1 + -1 * (k : Int)).toNat]?) k = its.reverse[k]? := fun k hk => by
  have hk' := List.mem_range.mp hk
  show its.toArray[((its.length : Int) - 1 + -1 * (k : Int)).toNat]? = _
  rw [List.getElem?_reverse hk', show ((its.length : Int) - 1 + -1 * (k : Int)).toNat = its.length - 1 - k by lia]
  simp
 have := range_get its.reverse
 rw [List.length_reverse] at this
 rw [← this]
 exact filterMap_same e1
noncomputable def tRev (K : PySem.W.Frag) (te ts : TE) : TE := fun σ H Q => te σ H fun x H1 => ts σ H1 fun y H2 => ∃ a xs, y = .int (-1) ∧ x = .ref a ∧ SqL K H2 a xs ∧ ∀ p, H2 p = none → Q (.ref p) (upd H2 p (.lst xs.reverse))
theorem pe_rev {e st : Expr} {te ts : TE} {pos p2 : Pos} (K : PySem.W.Frag) (he : PE X e te) (hs : PE X st ts) (h : X.K = K := by rfl) : PE X (.Subscript e (.Slice none none (some st) p2) pos) (tRev K te ts) := by
 subst h
 intro pins s σ H Q I h
 refine Subscript_ (thn (he pins s σ H _ I h) fun v s1 ⟨x, H1, I1, r1, q1⟩ => ?_)
 refine wpAny_Slice ?_
 rw [evalPart_none]
 refine wpAny_pure (wpAny_pure ?_)
 rw [evalPart_some]
 refine thn (hs pins s1 σ H1 _ I1 q1) fun u s2 ⟨y, H2, I2, r2, q2⟩ => ?_
 obtain ⟨a, xs, rfl, rfl, hx, q⟩ := q2
 obtain ⟨t, rfl⟩ := r2
 cases r1
 have I3 : Inv X pins σ H2 { s2 with heap := s2.heap.push { cls := .type "slice", data := .fields #[.none, .none, .int (-1) t] } } := I2.kept (t' := s2.toks) fun b ob q => Heap.get?_push_of_some _ q
 obtain ⟨its, r, ht, hz⟩ := I3.list hx
 have hlen := r.length
 show wpAny (model X.prog X.w) X.A (subscriptTail e (.Slice none none (some st) p2) (.ref a) (.ref s2.heap.objs.size)) (EP X pins σ Q) X.xe { s2 with heap := s2.heap.push { cls := .type "slice", data := .fields #[.none, .none, .int (-1) t] } }
 refine tail_any (ops := [.ref a, .ref s2.heap.objs.size]) ht.isList.typeIs slot_list_getitem.lookup ?_ (by with_unfolding_all rfl)
 refine wpAny_getItem_list_slice ht.isList (Heap.IsSliceOf.new ..) .none .none (.int (-1) t) (by decide) ?_ (by rw [List.size_toArray] <;> lia)
 rw [pick_rev]
 refine ⟨.ref _, _, I3.laid (t' := s2.toks) (o := .lst xs.reverse) (fun b ob q => Heap.get?_push_of_some _ q) (Nat.le_refl _) ?_, rfl, q _ (I3.hok.fresh (Nat.le_refl _))⟩
 exact ⟨by rw [List.length_reverse]; exact hz, _, 0, vals_rev r, Heap.get?_push_size _ rfl⟩
end
end L2
noncomputable def PySem.W.Fast.tw5223944134486506463 : Nat := 0
noncomputable def PySem.W.Fast.tw17739084298088729211 : Nat := 0
noncomputable def PySem.W.Fast.tw11559432175294601210 : Nat := 0
noncomputable def PySem.W.Fast.tw1784095035048801769 : Nat := 0
noncomputable def PySem.W.Fast.tw11245271225830997753 : Nat := 0
noncomputable def PySem.W.Fast.tw16021667275877741007 : Nat := 0
noncomputable def PySem.W.Fast.tw10691512707810413674 : Nat := 0
noncomputable def PySem.W.Fast.tw4943400784250200164 : Nat := 0
noncomputable def PySem.W.Fast.tw16850410465616689566 : Nat := 0
noncomputable def PySem.W.Fast.tw13030515125146761302 : Nat := 0
noncomputable def PySem.W.Fast.tw1724082849646474626 : Nat := 0
noncomputable def PySem.W.Fast.tw4076560190571232476 : Nat := 0
noncomputable def PySem.W.Fast.tw5309969935832963509 : Nat := 0
noncomputable def PySem.W.Fast.tw8025454232224030287 : Nat := 0
noncomputable def PySem.W.Fast.tw2294647623922587939 : Nat := 0
namespace My
open PySem L2 PyProof.Rows
seal PE PT PW PA PS PSs PG PGs PI PIfs PO OpR UnR CallR TruR IxR SlR MtR MtM PSet PC
noncomputable def top (i : Nat) : Stmt := PySem.Challenge.pw_crossracks_k33_moves.main.body.getD i (.Pass ⟨0, 0, 0, 0⟩)
structure Txt (K : PySem.W.Frag) (mg : Str → Option Value) : Prop where
 m_len : mg "len" = none
 m_isinstance : mg "isinstance" = none
 m_int : mg "int" = none
 m_bool : mg "bool" = none
 m_tuple : mg "tuple" = none
 m_list : mg "list" = none
 m_set : mg "set" = none
 m_sorted : mg "sorted" = none
 m_divmod : mg "divmod" = none
 m_range : mg "range" = none
 m_abs : mg "abs" = none
 m_min : mg "min" = none
 m_zip : mg "zip" = none
 m_all : mg "all" = none
 m_dict : mg "dict" = none
 m_ValueError : mg "ValueError" = none
structure TxtC (K : PySem.W.Frag) (mg : Str → Option Value) (C_HallError : Addr) (C_NoHall : Addr) (C_NoCalls : Addr) (C_NoLine : Addr) (C_NoRule : Addr) (C_Idle : Addr) (C_Busy : Addr) (C_Engaged : Addr) (C_NoMove : Addr) : Prop where
 mg_HallError : mg "HallError" = some (.ref C_HallError)
 mg_NoHall : mg "NoHall" = some (.ref C_NoHall)
 mg_NoCalls : mg "NoCalls" = some (.ref C_NoCalls)
 mg_NoLine : mg "NoLine" = some (.ref C_NoLine)
 mg_NoRule : mg "NoRule" = some (.ref C_NoRule)
 mg_Idle : mg "Idle" = some (.ref C_Idle)
 mg_Busy : mg "Busy" = some (.ref C_Busy)
 mg_Engaged : mg "Engaged" = some (.ref C_Engaged)
 mg_NoMove : mg "NoMove" = some (.ref C_NoMove)
 e_NoMove : ExcC K mg "NoMove" C_NoMove
 x_NoMove : ExcX K C_NoMove
 kv_NoMove : PySem.W.kitOne K (.ref C_NoMove) (.type "ValueError") = some true
 kh_NoMove : PySem.W.exmOne K (.ref C_NoMove) (.ref C_HallError) = some true
 kx_NoMove_HallError : PySem.W.kitOne K (.ref C_NoMove) (.ref C_HallError) = some true
 kx_NoMove_NoHall : PySem.W.kitOne K (.ref C_NoMove) (.ref C_NoHall) = some false
 kx_NoMove_NoCalls : PySem.W.kitOne K (.ref C_NoMove) (.ref C_NoCalls) = some false
 kx_NoMove_NoLine : PySem.W.kitOne K (.ref C_NoMove) (.ref C_NoLine) = some false
 kx_NoMove_NoRule : PySem.W.kitOne K (.ref C_NoMove) (.ref C_NoRule) = some false
 kx_NoMove_Idle : PySem.W.kitOne K (.ref C_NoMove) (.ref C_Idle) = some false
 kx_NoMove_Busy : PySem.W.kitOne K (.ref C_NoMove) (.ref C_Busy) = some false
 kx_NoMove_Engaged : PySem.W.kitOne K (.ref C_NoMove) (.ref C_Engaged) = some false
 kx_NoMove_NoMove : PySem.W.kitOne K (.ref C_NoMove) (.ref C_NoMove) = some true
noncomputable def cell (ns : List Int) (k : Nat) : Int := ns.getD k 0
theorem at_nat {ns : List Int} {k : Nat} (h : k < ns.length) : atI (ns.map V.int) (k : Int) = some (.int (cell ns k)) := atI_nat (by
 rw [List.getElem?_map, List.getElem?_eq_getElem h]
 simp [cell, List.getD, h])
theorem same_new {H : Hp} {p : Addr} (h : H p = none) (o : HO) : Same H (upd H p o) := fun b u q => by rw [upd_ne (ne_of_none q h)]; exact q
theorem Same.put {H H' : Hp} {l : Addr} {o : HO} (s : Same H H') (hl : H l = none) : Same H (upd H' l o) := fun b u q => by
 rw [upd_ne (ne_of_none q hl)]
 exact s b u q
noncomputable def spCell (K : PySem.W.Frag) : Sp := fun vs H Q _ => ∃ (a : Addr) (ns : List Int) (k : Nat), vs = [.ref a, .int k] ∧ SqL K H a (ns.map V.int) ∧ Q (.int (cell ns k)) H
noncomputable def spLaw (K : PySem.W.Frag) : Sp := fun vs H Q _ => ∃ (a : Addr) (ns : List Int), vs = [.ref a] ∧ SqL K H a (ns.map V.int) ∧ ns.length ≤ 63 ∧ ∀ H', Q (.bl true) H'
structure Hall where
 i : Int
 c : Int
 m : Int
 o : Int
 e : Int
noncomputable def Hall.row (h : Hall) : List Int := [h.i, h.c, h.m, h.o, h.e]
structure Hall.Ok (h : Hall) : Prop where
 i : 1 ≤ h.i ∧ h.i ≤ 12
 c : 1 ≤ h.c ∧ h.c ≤ 12
 m : 1 ≤ h.m ∧ h.m ≤ 24
 o : 1 ≤ h.o ∧ h.o ≤ 12
 e : 1 ≤ h.e ∧ h.e ≤ 12
theorem mul_in {a b : Int} (ha : 1 ≤ a ∧ a ≤ 12) (hb : 1 ≤ b ∧ b ≤ 12) : 1 ≤ a * b ∧ a * b ≤ 144 := by
 have h1 : 1 * 1 ≤ a * b := Int.mul_le_mul ha.1 hb.1 (by decide) (by lia)
 have h2 : a * b ≤ 12 * 12 := Int.mul_le_mul ha.2 hb.2 (by lia) (by decide)
 lia
theorem Hall.Ok.ic {h : Hall} (k : h.Ok) : 1 ≤ h.i * h.c ∧ h.i * h.c ≤ 144 := mul_in k.i k.c
theorem Hall.Ok.oe {h : Hall} (k : h.Ok) : 1 ≤ h.o * h.e ∧ h.o * h.e ≤ 144 := mul_in k.o k.e
noncomputable def spHall (K : PySem.W.Frag) : Sp := fun vs H Q _ => ∃ (a : Addr) (ns : List Int), vs = [.ref a] ∧ SqL K H a (ns.map V.int) ∧ ∀ (p : Addr) (h : Hall) (H' : Hp), h.Ok → 2 ≤ h.m → Same H H' → H' p = some (.tup (h.row.map V.int)) → Q (.ref p) H'
noncomputable def mostAt (j : Nat) : Int := if j = 2 then 24 else 12
noncomputable def one2 (j : Nat) : Int := if j = 2 then 1 else 0
theorem one2_in (j : Nat) : 0 ≤ one2 j ∧ one2 j ≤ 1 := by
 unfold one2
 split <;> lia
theorem one2_eq (j : Nat) : (if decide (V.int (j : Int) = V.int 2) = true then (1 : Int) else 0) = one2 j := by
 unfold one2
 by_cases h : j = 2
 ·subst h; rfl
 ·rw [if_neg h, if_neg]
  intro z
  have := V.int.inj (of_decide_eq_true z)
  lia
theorem most_at {i : Nat} (hi : i < 5) : (∃ m : Int, atI ([4, 4, 5, 4, 4].map V.int) (i : Int) = some (.int m) ∧ 1 ≤ m ∧ m ≤ mostAt i - one2 i) ∧ ∃ m : Int, atI ([12, 12, 23, 12, 12].map V.int) (i : Int) = some (.int m) ∧ 1 ≤ m ∧ m ≤ mostAt i - one2 i := by
 match i, hi with
 | 0, _ => exact ⟨⟨_, rfl, by decide, by decide⟩, _, rfl, by decide, by decide⟩
 | 1, _ => exact ⟨⟨_, rfl, by decide, by decide⟩, _, rfl, by decide, by decide⟩
 | 2, _ => exact ⟨⟨_, rfl, by decide, by decide⟩, _, rfl, by decide, by decide⟩
 | 3, _ => exact ⟨⟨_, rfl, by decide, by decide⟩, _, rfl, by decide, by decide⟩
 | 4, _ => exact ⟨⟨_, rfl, by decide, by decide⟩, _, rfl, by decide, by decide⟩
section
variable {P : Program} {w : World} {K : PySem.W.Frag} {mg : Str → Option Value} {base : Heap}
theorem Same.seqT {H H' : Hp} {a : Addr} {xs : List V} (e : Same H H') (h : SqT K H a xs) : SqT K H' a xs := by
 rcases h with (h | ⟨o, h⟩) | h
 ·exact .inl (.inl (e _ _ h))
 ·exact .inl (.inr ⟨o, e _ _ h⟩)
 ·exact .inr h
theorem sc__law_cell_at : FnScope ["_law_script", "_law_k"] ["_law_script", "_law_k"] (defScope (top 28)) := ⟨rfl, rfl, rfl, by decide +kernel, rfl, by decide +kernel, by decide +kernel⟩
theorem ok_cell (T : Txt K mg) (D : Def K mg "_law_cell_at" (top 28) ["_law_script", "_law_k"]) : Callee P w K mg base 1 "_law_cell_at" ["_law_script", "_law_k"] (spCell K) := by
 refine D.ok sc__law_cell_at (fun vs H Q E h => ?_) (fun f cdv A outer s H vs Q E hr h => ?_)
 ·obtain ⟨a, ns, k, rfl, _⟩ := h
  rfl
 obtain ⟨a, ns, k, rfl, hS, q⟩ := h
 refine ⟨_, (pss_cons (ps_if (pt_cmpR op_lt (pv 1) (pe_callB (call_lenK K) rfl T.m_len boot_len (pa_cons (pv 0) pa_nil st_name)) (nomark _)) (pss_one (ps_ret (pe_ix (ix_listK K) (pv 0) (pv 1) (fun _ _ => rfl)))) pss_nil)
  (pss_one (ps_ret pe_int))), ?_⟩
 refine ⟨_, rfl, _, rfl, a, _, rfl, .inl hS, _, _, rfl, rfl, _, rfl, ?_⟩
 refine ite2 (fun c => ?_) (fun c => ?_)
 ·have c' : (k : Int) < (((ns.map V.int).length : Nat) : Int) := of_decide_eq_true c
  rw [List.length_map] at c'
  exact ⟨_, rfl, _, rfl, a, _, _, _, rfl, rfl, hS, at_nat (by lia), q⟩
 ·have c' : ¬ (k : Int) < (((ns.map V.int).length : Nat) : Int) := of_decide_eq_false (Bool.eq_false_iff.mpr c)
  rw [List.length_map] at c'
  have e : cell ns k = 0 := by simp [cell, List.getD, List.getElem?_eq_none (show ns.length ≤ k by lia)]
  rw [e] at q
  exact q
theorem sc__law_hall : FnScope ["_law_script", "_law_sizes", "_law_k", "_law_number_here", "_law_most"] ["_law_script"] (defScope (top 29)) := ⟨rfl, rfl, rfl, by decide +kernel, rfl, by decide +kernel, by decide +kernel⟩
theorem ok_hall (T : Txt K mg) (C__law_cell_at : Callee P w K mg base 1 "_law_cell_at" ["_law_script", "_law_k"] (spCell K)) (D : Def K mg "_law_hall" (top 29) ["_law_script"]) : Callee P w K mg base 2 "_law_hall" ["_law_script"] (spHall K) := by
 refine D.ok sc__law_hall (fun vs H Q E h => ?_) (fun f cdv A outer s H vs Q E hr h => ?_)
 ·obtain ⟨a, ns, rfl, _⟩ := h
  rfl
 obtain ⟨a, ns, rfl, hS, q⟩ := h
 refine ⟨_, (pss_cons (ps_set (i := 1) sc__law_hall.nd rfl (Or.inl rfl) (pe_lst pa_nil))
  (pss_cons (ps_for PassesOwn.never rfl (pi_range1 rfl T.m_range (pa_cons pe_int pa_nil st_const)) (pg_name (i := 2) sc__law_hall.nd rfl (Or.inl rfl))
  (pss_cons (ps_set (i := 3) sc__law_hall.nd rfl (Or.inl rfl) (pe_op op_add (pe_op op_mul (pe_op op_mod (pe_fn C__law_cell_at hr rfl (pa_cons (pv 0) (pa_cons (pv 2) pa_nil st_name) st_name)) (pe_op op_pow pe_int pe_int)) (pe_op op_add (pe_op op_mul pe_int (pv 2)) pe_int)) (pe_op op_mul pe_int (pv 2))))
  (pss_cons (ps_set (i := 4) sc__law_hall.nd rfl (Or.inl rfl) (pe_ix (ix_listK K) (pe_lst (pa_cons pe_int (pa_cons pe_int (pa_cons pe_int (pa_cons pe_int (pa_cons pe_int pa_nil st_const) st_const) st_const) st_const) st_const)) (pv 2) (fun _ _ => rfl)))
  (pss_cons (ps_if (pt_cmpR op_eq (pe_op op_mod (pe_fn C__law_cell_at hr rfl (pa_cons (pv 0) (pa_cons pe_int pa_nil st_const) st_name)) pe_int) pe_int (nomark _)) (pss_one (ps_set (i := 4) sc__law_hall.nd rfl (Or.inl rfl) (pe_ix (ix_listK K) (pe_lst (pa_cons pe_int (pa_cons pe_int (pa_cons pe_int (pa_cons pe_int (pa_cons pe_int pa_nil st_const) st_const) st_const) st_const) st_const)) (pv 2) (fun _ _ => rfl)))) pss_nil)
  (pss_one (ps_expr (pe_bmK K PySem.F.plainAttrs_list PySem.F.slot_list_append PySem.F.type_list_append mt_appendR (pv 1) (pa_cons (pe_op op_add (pe_op op_add pe_int (pe_callTy call_int1 rfl T.m_int boot_int (pa_cons (pe_cmpR op_eq (pv 2) pe_int (nomark _)) pa_nil st_cmp))) (pe_op op_mod (pe_op op_mod (pv 3) pe_int) (pv 4))) pa_nil st_bin))))))))
  (pss_one (ps_ret (pe_callTy (call_tupleK K) rfl T.m_tuple boot_tuple (pa_cons (pv 1) pa_nil st_name)))))), ?_⟩
 refine ⟨(by show 0 ≤ sizeLine; decide), fun l hl => ?_⟩
 have el := upd_same (H := H) (a := l) (o := .lst [])
 have s1 := same_new hl (.lst [])
 generalize upd H l (.lst []) = H1 at el s1 ⊢
 refine ⟨_, rfl, by decide, by decide, ?_⟩
 refine for_range (lo := 0) (n := 5) (fun i σ H' => Same H H' ∧ ∃ xs : List Int, xs.length = i ∧ (∀ j x, xs[j]? = some x → 1 + one2 j ≤ x ∧ x ≤ mostAt j) ∧ H' l = some (.lst (xs.map V.int)) ∧ ∃ v2 v3 v4, σ = [some (.ref a), some (.ref l), v2, v3, v4])
  ⟨s1, [], rfl, (fun j x hx => by simp at hx), el, none, none, none, rfl⟩ ?_ ?_
 ·rintro i σ H' hi ⟨s2, xs, hlen, hx, el2, v2, v3, v4, rfl⟩
  rw [Int.zero_add]
  obtain ⟨⟨m1, a1, b1, c1⟩, m2, a2, b2, c2⟩ := most_at hi
  have fin : ∀ (H3 : Hp), Same H' H3 → ∀ n m : Int, 1 ≤ m → m ≤ mostAt i - one2 i → H3 l = some (.lst (xs.map V.int)) ∧ (xs.map V.int).length < sizeLine ∧ (∃ xs' : List Int, xs'.length = i + 1 ∧ (∀ j x, xs'[j]? = some x → 1 + one2 j ≤ x ∧ x ≤ mostAt j) ∧ upd H3 l (.lst (xs.map V.int ++ [.int (1 + one2 i + n % 999983 % m)])) l = some (.lst (xs'.map V.int))) ∧ Same H (upd H3 l (.lst (xs.map V.int ++ [.int (1 + one2 i + n % 999983 % m)]))) := fun H3 s3 n m hm1 hm2 => by
   refine ⟨s3 _ _ el2, small1000 (by rw [List.length_map]; lia), ⟨xs ++ [1 + one2 i + n % 999983 % m], by rw [List.length_append, hlen]; rfl, fun j x hj => ?_, by rw [upd_same, List.map_append]; rfl⟩, Same.put (s2.trans s3) hl⟩
   rcases Nat.lt_trichotomy j xs.length with c | c | c
   ·rw [List.getElem?_append_left c] at hj
    exact hx j x hj
   ·rw [c, List.getElem?_concat_length] at hj
    cases hj
    rw [c, hlen]
    have h1 := Int.emod_nonneg (n % 999983) (show m ≠ 0 by lia)
    have h2 := Int.emod_lt_of_pos (n % 999983) (show 0 < m by lia)
    have h3 := one2_in i
    lia
   ·rw [List.getElem?_eq_none (by rw [List.length_append, List.length_singleton]; lia)] at hj
    cases hj
  refine ⟨_, rfl, _, rfl, a, ns, i, rfl, s2.seq hS, _, _, rfl, rfl, ⟨by decide, by decide, by decide⟩, _, _, rfl, rfl, (by show (0 : Int) < 10 ^ 18; decide), _, rfl, _, _, rfl, rfl, .inl ⟨by decide, by decide⟩, _, _, rfl, rfl, _, _, rfl, rfl, .inr ⟨by lia, by lia⟩, _, rfl, _, _, rfl, rfl, .inl ⟨by decide, by decide⟩, _, _, rfl, rfl, ?_⟩
  refine ⟨(by show 5 ≤ sizeLine; decide), fun l1 hl1 => ?_⟩
  have el1 := upd_same (H := H') (a := l1) (o := .lst [.int 4, .int 4, .int 5, .int 4, .int 4])
  have s3 := same_new hl1 (.lst [.int 4, .int 4, .int 5, .int 4, .int 4])
  refine ⟨_, rfl, l1, _, _, _, rfl, rfl, SqL.of el1, a1, ?_⟩
  generalize upd H' l1 (.lst [.int 4, .int 4, .int 5, .int 4, .int 4]) = H3 at s3 ⊢
  have s23 := s2.trans s3
  refine ⟨_, rfl, a, ns, 5, rfl, s23.seq hS, _, _, rfl, rfl, (by show (0 : Int) < 5; decide), rfl, _, rfl, ?_⟩
  have o2 := one2_eq i
  refine ite2 (fun _ => ?_) (fun _ => ?_)
  ·refine ⟨(by show 5 ≤ sizeLine; decide), fun l2 hl2 => ?_⟩
   have el3 := upd_same (H := H3) (a := l2) (o := .lst [.int 12, .int 12, .int 23, .int 12, .int 12])
   have s4 := s3.trans (same_new hl2 (.lst [.int 12, .int 12, .int 23, .int 12, .int 12]))
   refine ⟨_, rfl, l2, _, _, _, rfl, rfl, SqL.of el3, a2, ?_⟩
   obtain ⟨f1, f2, ⟨xs', g1, g2, g3⟩, f4⟩ := fin _ s4 (cell ns i % 10 ^ Int.toNat 18 * (2 * (i : Int) + 48271) + 7 * (i : Int)) m2 b2 c2
   rw [← o2] at f4 g3
   exact ⟨_, rfl, .inl ⟨rfl, _, SqL.of f1⟩, _, rfl, rfl, .inr ⟨_, rfl, _, _, rfl, rfl, _, rfl, _, _, rfl, rfl, (by show (0 : Int) < 999983; decide), _, rfl, _, _, rfl, rfl, (by show (0 : Int) < m2; lia), _, _, rfl, rfl, l, xs.map V.int, _, rfl, rfl, f1, f2, f4, xs', g1, g2, g3, _, _, _, rfl⟩⟩
  ·obtain ⟨f1, f2, ⟨xs', g1, g2, g3⟩, f4⟩ := fin _ s3 (cell ns i % 10 ^ Int.toNat 18 * (2 * (i : Int) + 48271) + 7 * (i : Int)) m1 b1 c1
   rw [← o2] at f4 g3
   exact ⟨_, rfl, .inl ⟨rfl, _, SqL.of f1⟩, _, rfl, rfl, .inr ⟨_, rfl, _, _, rfl, rfl, _, rfl, _, _, rfl, rfl, (by show (0 : Int) < 999983; decide), _, rfl, _, _, rfl, rfl, (by show (0 : Int) < m1; lia), _, _, rfl, rfl, l, xs.map V.int, _, rfl, rfl, f1, f2, f4, xs', g1, g2, g3, _, _, _, rfl⟩⟩
 ·rintro σ H' ⟨s2, xs, hlen, hx, el2, v2, v3, v4, rfl⟩
  match xs, hlen with
  | [x0, x1, x2, x3, x4], _ =>
   refine ⟨_, rfl, l, _, rfl, .inl ⟨SqL.of el2, fun p hp => ?_⟩⟩
   have y0 : 1 ≤ x0 ∧ x0 ≤ 12 := hx 0 x0 rfl
   have y1 : 1 ≤ x1 ∧ x1 ≤ 12 := hx 1 x1 rfl
   have y2 : 2 ≤ x2 ∧ x2 ≤ 24 := hx 2 x2 rfl
   have y3 : 1 ≤ x3 ∧ x3 ≤ 12 := hx 3 x3 rfl
   have y4 : 1 ≤ x4 ∧ x4 ≤ 12 := hx 4 x4 rfl
   exact q p ⟨x0, x1, x2, x3, x4⟩ _ ⟨y0, y1, ⟨by show 1 ≤ x2; lia, y2.2⟩, y3, y4⟩ y2.1 (s2.trans (same_new hp _)) upd_same
end
theorem int_flat (es : List Int) : (es.map V.int).all flatV = true := by
 rw [List.all_eq_true]
 intro x hx
 obtain ⟨p, _, rfl⟩ := List.mem_map.mp hx
 rfl
theorem int_in (e : Int) (es : List Int) : inV (.int e) (es.map V.int) = decide (e ∈ es) := by
 unfold inV
 rw [List.any_map]
 rw [Bool.eq_iff_iff, List.any_eq_true, decide_eq_true_iff]
 constructor
 ·rintro ⟨q, hq, e'⟩
  have e' : (q == e) = true := e'
  exact eq_of_beq e' ▸ hq
 ·intro h
  exact ⟨e, h, beq_self_eq_true e⟩
structure EndsOk (h : Hall) (xs : List Int) : Prop where
 nd : xs.Nodup
 es : ∀ e ∈ xs, 0 ≤ e ∧ e < h.o * h.e
 some : xs ≠ []
 few : xs.length ≤ 12
theorem mod_in {x d : Int} (h : 0 < d) : 0 ≤ x % d ∧ x % d < d := ⟨Int.emod_nonneg _ (by lia), Int.emod_lt_of_pos _ h⟩
theorem rack_in {h : Hall} {r x : Int} (ok : h.Ok) (hr : 0 ≤ r ∧ r < h.o) : 0 ≤ r * h.e + x % h.e ∧ r * h.e + x % h.e < h.o * h.e := by
 have b3 := ok.e
 have h1 := mod_in (x := x) (d := h.e) (by lia)
 have h2 : 0 ≤ r * h.e := Int.mul_nonneg hr.1 (by lia)
 have h3 : (r + 1) * h.e ≤ h.o * h.e := Int.mul_le_mul_of_nonneg_right (by lia) (by lia)
 rw [Int.add_mul, Int.one_mul] at h3
 lia
noncomputable def spEnds (K : PySem.W.Frag) : Sp := fun vs H Q _ => ∃ (a : Addr) (h : Hall) (n : Int), vs = [.ref a, .int n] ∧ SqT K H a (h.row.map V.int) ∧ h.Ok ∧ ∀ (l : Addr) (es : List Int) (H' : Hp), Same H H' → H l = none → H' l = some (.lst (es.map V.int)) → EndsOk h es → Q (.ref l) H'
section
variable {P : Program} {w : World} {K : PySem.W.Frag} {mg : Str → Option Value} {base : Heap}
theorem sc__law_ends : FnScope ["_law_hall_here", "_law_number_here", "_law_ends_here", "_law_left", "_law_rack", "_law_wide", "_law_many", "_law_k", "_law_end"] ["_law_hall_here", "_law_number_here"] (defScope (top 30)) := ⟨rfl, rfl, rfl, by decide +kernel, rfl, by decide +kernel, by decide +kernel⟩
theorem ok_ends (T : Txt K mg) (D : Def K mg "_law_ends" (top 30) ["_law_hall_here", "_law_number_here"]) : Callee P w K mg base 1 "_law_ends" ["_law_hall_here", "_law_number_here"] (spEnds K) := by
 refine D.ok sc__law_ends (fun vs H Q E h => ?_) (fun f cdv A outer s H vs Q E hr h => ?_)
 ·obtain ⟨a, h, n, rfl, _⟩ := h
  rfl
 obtain ⟨a, h, n, rfl, hH, ok, q⟩ := h
 have b1 := ok.oe
 have b2 := ok.o
 have b3 := ok.e
 refine ⟨_, (pss_cons (ps_set (i := 2) sc__law_ends.nd rfl (Or.inl rfl) (pe_lst pa_nil))
  (pss_cons (ps_set (i := 3) sc__law_ends.nd rfl (Or.inl rfl) (pe_op op_fdivL (pv 1) (pe_op op_pow pe_int pe_int)))
  (pss_cons (ps_set (i := 4) sc__law_ends.nd rfl (Or.inl rfl) (pe_op op_mod (pe_op op_mod (pe_op op_mul (pv 1) pe_int) pe_int) (pe_ix (ix_tupK K) (pv 0) pe_int (fun _ _ => rfl))))
  (pss_cons (ps_set (i := 5) sc__law_ends.nd rfl (Or.inl rfl) (pe_cmpR op_eq (pe_op op_mod (pe_op op_mod (pe_op op_mul (pv 1) pe_int) pe_int) pe_int) pe_int (nomark _)))
  (pss_cons (ps_set (i := 6) sc__law_ends.nd rfl (Or.inl rfl) (pe_op op_add pe_int (pe_op op_mod (pe_op op_mod (pe_op op_mul (pv 1) pe_int) pe_int) pe_int)))
  (pss_cons (ps_if (pt_cmpR op_eq (pe_op op_mod (pe_op op_mod (pe_op op_mul (pv 1) pe_int) pe_int) pe_int) pe_int (nomark _)) (pss_one (ps_set (i := 6) sc__law_ends.nd rfl (Or.inl rfl) (pe_op op_add pe_int (pe_op op_mod (pe_op op_mod (pe_op op_mul (pv 1) pe_int) pe_int) pe_int)))) pss_nil)
  (pss_cons (ps_for PassesOwn.never rfl (pi_range1 rfl T.m_range (pa_cons (pv 6) pa_nil st_name)) (pg_name (i := 7) sc__law_ends.nd rfl (Or.inl rfl))
  (pss_cons (ps_set (i := 8) sc__law_ends.nd rfl (Or.inl rfl) (pe_op op_mod (pe_op op_mul (pv 1) (pe_op op_add pe_int (pe_op op_mul (pe_op op_mul pe_int (pv 7)) (pv 7)))) pe_int))
  (pss_cons (ps_if (pt_cmpR op_ge (pv 1) (pe_op op_pow pe_int pe_int) (nomark _)) (pss_cons (ps_set (i := 8) sc__law_ends.nd rfl (Or.inl rfl) (pe_op op_mod (pv 3) (pe_op op_mul (pe_ix (ix_tupK K) (pv 0) pe_int (fun _ _ => rfl)) (pe_ix (ix_tupK K) (pv 0) pe_int (fun _ _ => rfl)))))
  (pss_one (ps_set (i := 3) sc__law_ends.nd rfl (Or.inl rfl) (pe_op op_fdiv (pv 3) (pe_op op_mul (pe_ix (ix_tupK K) (pv 0) pe_int (fun _ _ => rfl)) (pe_ix (ix_tupK K) (pv 0) pe_int (fun _ _ => rfl))))))) pss_nil)
  (pss_cons (ps_if (pt_truK K (pv 5) (fun _ => rfl)) (pss_one (ps_set (i := 8) sc__law_ends.nd rfl (Or.inl rfl) (pe_op op_mod (pv 8) (pe_op op_mul (pe_ix (ix_tupK K) (pv 0) pe_int (fun _ _ => rfl)) (pe_ix (ix_tupK K) (pv 0) pe_int (fun _ _ => rfl)))))) (pss_one (ps_set (i := 8) sc__law_ends.nd rfl (Or.inl rfl) (pe_op op_add (pe_op op_mul (pv 4) (pe_ix (ix_tupK K) (pv 0) pe_int (fun _ _ => rfl))) (pe_op op_mod (pv 8) (pe_ix (ix_tupK K) (pv 0) pe_int (fun _ _ => rfl)))))))
  (pss_one (ps_if (pt_cmpR (op_notInK K) (pv 8) (pv 2) (by with_unfolding_all rfl)) (pss_one (ps_expr (pe_bmK K PySem.F.plainAttrs_list PySem.F.slot_list_append PySem.F.type_list_append mt_appendR (pv 2) (pa_cons (pv 8) pa_nil st_name)))) pss_nil))))))
  (pss_one (ps_ret (pv 2)))))))))), ?_⟩
 refine ⟨(by show 0 ≤ sizeLine; decide), fun l hl => ?_⟩
 have el := upd_same (H := H) (a := l) (o := .lst [])
 have s1 := same_new hl (.lst [])
 generalize upd H l (.lst []) = H1 at el s1 ⊢
 refine ⟨_, rfl, _, _, rfl, rfl, ⟨by decide, by decide, by decide⟩, _, _, rfl, rfl, ⟨by show (0 : Int) < 10 ^ 18; decide, by show (10 : Int) ^ 18 < 18446744073709551616; decide⟩, ?_⟩
 refine ⟨_, rfl, _, _, rfl, rfl, .inr ⟨by decide, by decide⟩, _, _, rfl, rfl, (by show (0 : Int) < 999931; decide), _, rfl, a, _, _, _, rfl, rfl, Same.seqT s1 hH, rfl, _, _, rfl, rfl, (by show (0 : Int) < h.o; lia), ?_⟩
 refine ⟨_, rfl, _, _, rfl, rfl, .inr ⟨by decide, by decide⟩, _, _, rfl, rfl, (by show (0 : Int) < 999917; decide), _, _, rfl, rfl, (by show (0 : Int) < 5; decide), rfl, ?_⟩
 refine ⟨_, rfl, _, _, rfl, rfl, .inr ⟨by decide, by decide⟩, _, _, rfl, rfl, (by show (0 : Int) < 999961; decide), _, _, rfl, rfl, (by show (0 : Int) < 3; decide), _, _, rfl, rfl, ?_⟩
 refine ⟨_, rfl, _, _, rfl, rfl, .inr ⟨by decide, by decide⟩, _, _, rfl, rfl, (by show (0 : Int) < 999863; decide), _, _, rfl, rfl, (by show (0 : Int) < 6; decide), rfl, _, rfl, ?_⟩
 refine ite2 (fun _ => ⟨_, rfl, _, _, rfl, rfl, .inr ⟨by decide, by decide⟩, _, _, rfl, rfl, (by show (0 : Int) < 999961; decide), _, _, rfl, rfl, (by show (0 : Int) < 12; decide), _, _, rfl, rfl, _, rfl, _, rfl, by show -(2 ^ 62) ≤ 1 + n * 16807 % 999961 % 12; lia, by show 1 + n * 16807 % 999961 % 12 < 2 ^ 62; lia, ?_⟩) (fun _ => ⟨_, rfl, _, rfl, by show -(2 ^ 62) ≤ 1 + n * 16807 % 999961 % 3; lia, by show 1 + n * 16807 % 999961 % 3 < 2 ^ 62; lia, ?_⟩)
 all_goals
  refine for_range (fun i σ H' => Same H H' ∧ ∃ es : List Int, es.Nodup ∧ (∀ e ∈ es, 0 ≤ e ∧ e < h.o * h.e) ∧ (i = 0 ∨ es ≠ []) ∧ es.length ≤ i ∧ H' l = some (.lst (es.map V.int)) ∧ ∃ (v3 : Int) (wd : Bool) (v4 v5 v6 : Option V), σ = [some (.ref a), some (.int n), some (.ref l), some (.int v3), some (.int (n * 62089911 % 999931 % h.o)), some (.bl wd), v4, v5, v6])
   ⟨s1, [], List.nodup_nil, (fun e he => nomatch he), .inl rfl, Nat.le_refl _, el, _, _, _, none, none, rfl⟩ ?_ ?_
  ·rintro i σ H' hi ⟨s2, es, d1, d2, d3, d4, el2, v3, wd, v4, v5, v6, rfl⟩
   have hi : i < 12 := by lia
   rw [Int.zero_add]
   have hk2 : 0 ≤ 2 * (i : Int) * (i : Int) ∧ 2 * (i : Int) * (i : Int) ≤ 24 * 12 := ⟨Int.mul_nonneg (by lia) (by lia), Int.mul_le_mul (by lia) (by lia) (by lia) (by lia)⟩
   have hH2 := Same.seqT s2 hH
   refine ⟨_, rfl, _, rfl, _, _, rfl, rfl, .inl ⟨by decide, by decide⟩, _, rfl, _, _, rfl, rfl, .inr ⟨by omega, by omega⟩, _, _, rfl, rfl, _, _, rfl, rfl, .inr ⟨by omega, by omega⟩, _, _, rfl, rfl, (by show (0 : Int) < 999983; decide), ?_⟩
   refine ⟨_, rfl, _, _, rfl, rfl, ⟨by decide, by decide, by decide⟩, _, _, rfl, rfl, _, rfl, ?_⟩
   have key : ∀ x : Int, (!inV (.int x) (es.map V.int)) = true → ¬ x ∈ es := fun x c => by rw [int_in] at c; simpa using c
   have key2 : ∀ x : Int, ¬ (!inV (.int x) (es.map V.int)) = true → x ∈ es := fun x c => by rw [int_in] at c; simpa using c
   have fin : ∀ x : Int, 0 ≤ x ∧ x < h.o * h.e → ¬ x ∈ es → (Same H (upd H' l (.lst (es.map V.int ++ [.int x])))) ∧ ∃ es' : List Int, es'.Nodup ∧ (∀ e ∈ es', 0 ≤ e ∧ e < h.o * h.e) ∧ (i + 1 = 0 ∨ es' ≠ []) ∧ es'.length ≤ i + 1 ∧ upd H' l (.lst (es.map V.int ++ [.int x])) l = some (.lst (es'.map V.int)) := fun x hx hn => by
    refine ⟨Same.put s2 hl, es ++ [x], List.nodup_append.mpr ⟨d1, by simp, fun y hy z hz => ?_⟩, fun e he => ?_, .inr (by simp), by rw [List.length_append, List.length_singleton]; lia, by rw [upd_same, List.map_append]; rfl⟩
    ·rw [List.mem_singleton] at hz
     exact fun e => hn (by rw [← hz, ← e]; exact hy)
    ·rcases List.mem_append.mp he with c | c
     ·exact d2 e c
     ·rw [List.mem_singleton] at c
      rw [c]; exact hx
   refine ite2 (fun _ => ⟨_, rfl, _, rfl, a, _, _, _, rfl, rfl, hH2, rfl, _, rfl, a, _, _, _, rfl, rfl, hH2, rfl, _, _, rfl, rfl, .inl ⟨by omega, by omega⟩, _, _, rfl, rfl, (by show 0 < h.o * h.e; omega), _, rfl, _, rfl, a, _, _, _, rfl, rfl, hH2, rfl, _, rfl, a, _, _, _, rfl, rfl, hH2, rfl, _, _, rfl, rfl, .inl ⟨by omega, by omega⟩, _, _, rfl, rfl, ⟨by show 0 < h.o * h.e; omega, by show h.o * h.e < 1073741824; omega⟩, ?_⟩) (fun _ => ?_)
   all_goals
    refine ⟨_, rfl, _, rfl, ?_⟩
    refine ite2 (fun _ => ⟨_, rfl, _, rfl, a, _, _, _, rfl, rfl, hH2, rfl, _, rfl, a, _, _, _, rfl, rfl, hH2, rfl, _, _, rfl, rfl, .inl ⟨by omega, by omega⟩, _, _, rfl, rfl, (by show 0 < h.o * h.e; omega), ?_⟩) (fun _ => ⟨_, rfl, _, rfl, a, _, _, _, rfl, rfl, hH2, rfl, _, _, rfl, rfl, .inr ⟨by omega, by omega⟩, _, rfl, _, rfl, a, _, _, _, rfl, rfl, hH2, rfl, _, _, rfl, rfl, (by show 0 < h.e; omega), _, _, rfl, rfl, ?_⟩)
   all_goals
    refine ⟨_, rfl, _, rfl, l, _, rfl, .inl (SqL.of el2), rfl, int_flat es, _, rfl, ?_⟩
    refine ite2 (fun c => ?_) (fun c => ?_)
    ·have c' := key _ c
     obtain ⟨g0, es', g1, g2, g3, g4, g5⟩ := fin _ (by first | exact mod_in (by omega) | exact rack_in ok (mod_in (by omega))) c'
     exact ⟨_, rfl, .inl ⟨rfl, _, SqL.of el2⟩, _, rfl, l, _, _, rfl, rfl, el2, small1000 (by rw [List.length_map]; lia), g0, es', g1, g2, g3, g4, g5, _, _, _, _, _, rfl⟩
    ·have c' := key2 _ c
     exact ⟨s2, es, d1, d2, .inr (List.ne_nil_of_mem c'), by lia, el2, _, _, _, _, _, rfl⟩
  ·rintro σ H' ⟨s2, es, d1, d2, d3, d4, el2, v3, wd, v4, v5, v6, rfl⟩
   exact ⟨_, rfl, q l es H' s2 hl el2 ⟨d1, d2, d3.resolve_left (by lia), by lia⟩⟩
end
noncomputable def nIn (r k : Int) : List Key := [.inr "in", .inl r, .inl k]
noncomputable def nOut (r k : Int) : List Key := [.inr "out", .inl r, .inl k]
noncomputable def lineStep (h : Hall) (k : Int) (acc : List (List Key)) (e : Int) : List (List Key) := if inD acc (nOut (e / h.e) k) then acc else acc ++ [nOut (e / h.e) k]
noncomputable def linesM (h : Hall) (c : Int) (es : List Int) (k : Int) : List (List Key) := es.foldl (lineStep h k) [nIn (c / h.c) k]
theorem mem_lines_fold (h : Hall) (k : Int) (d : List Key) : ∀ (es : List Int) (acc : List (List Key)), d ∈ es.foldl (lineStep h k) acc ↔ d ∈ acc ∨ ∃ e ∈ es, d = nOut (e / h.e) k
 | [], acc => by simp
 | e :: t, acc => by
  rw [List.foldl_cons, mem_lines_fold h k d t]
  have st : d ∈ lineStep h k acc e ↔ d ∈ acc ∨ d = nOut (e / h.e) k := by
   unfold lineStep
   by_cases c : inD acc (nOut (e / h.e) k) = true
   ·rw [if_pos c]
    have c' := inD_iff.mp c
    constructor
    ·exact .inl
    ·rintro (g | g)
     ·exact g
     ·rw [g]; exact c'
   ·rw [if_neg c, List.mem_append, List.mem_singleton]
  rw [st]
  constructor
  ·rintro ((g | g) | ⟨x, hx, g⟩)
   ·exact .inl g
   ·exact .inr ⟨e, List.mem_cons_self .., g⟩
   ·exact .inr ⟨x, List.mem_cons_of_mem _ hx, g⟩
  ·rintro (g | ⟨x, hx, g⟩)
   ·exact .inl (.inl g)
   ·rcases List.mem_cons.mp hx with rfl | hx
    ·exact .inl (.inr g)
    ·exact .inr ⟨x, hx, g⟩
theorem mem_lines {h : Hall} {c : Int} {es : List Int} {k : Int} {d : List Key} : d ∈ linesM h c es k ↔ d = nIn (c / h.c) k ∨ ∃ e ∈ es, d = nOut (e / h.e) k := by
 unfold linesM
 rw [mem_lines_fold, List.mem_singleton]
theorem lines_fold_len (h : Hall) (k : Int) : ∀ (es : List Int) (acc : List (List Key)), (es.foldl (lineStep h k) acc).length ≤ acc.length + es.length
 | [], acc => by simp
 | e :: t, acc => by
  have ih := lines_fold_len h k t (lineStep h k acc e)
  have : (lineStep h k acc e).length ≤ acc.length + 1 := by
   unfold lineStep
   split <;> simp
  rw [List.foldl_cons, List.length_cons]
  lia
theorem lines_len (h : Hall) (c : Int) (es : List Int) (k : Int) : (linesM h c es k).length ≤ 1 + es.length := lines_fold_len h k es _
noncomputable def TupsK (H : Hp) (as : List Addr) (ds : List (List Key)) : Prop := Paired (fun a d => H a = some (.tup (d.map kV))) as ds
noncomputable def BagK (H : Hp) (l : Addr) (ds : List (List Key)) : Prop := ∃ as : List Addr, H l = some (.lst (as.map V.ref)) ∧ TupsK H as ds
theorem TupsK.same {H H' : Hp} {as : List Addr} {ds : List (List Key)} (s : ∀ b xs, H b = some (.tup xs) → H' b = some (.tup xs)) (h : TupsK H as ds) : TupsK H' as ds := by
 unfold TupsK at h ⊢
 exact paired_mem h fun a d _ e => s _ _ e
theorem BagK.push {H : Hp} {l p : Addr} {as : List Addr} {ds : List (List Key)} {d : List Key} (e : H l = some (.lst (as.map V.ref))) (h : TupsK H as ds) (hp : H p = some (.tup (d.map kV))) :
  BagK (upd H l (.lst (as.map V.ref ++ [.ref p]))) l (ds ++ [d]) := by
 have hpl : p ≠ l := fun z => by rw [z, e] at hp; cases hp
 refine ⟨as ++ [p], by rw [upd_same, List.map_append]; rfl, Paired.snoc (TupsK.same (fun b xs hb => ?_) h) ?_⟩
 ·have hbl : b ≠ l := fun z => by rw [z, e] at hb; cases hb
  rw [upd_ne hbl]
  exact hb
 ·show upd _ l _ p = _
  rw [upd_ne hpl]
  exact hp
noncomputable def spLines (K : PySem.W.Frag) : Sp := fun vs H Q _ => ∃ (a e : Addr) (h : Hall) (c k : Int) (es : List Int), vs = [.ref a, .int c, .ref e, .int k] ∧ SqT K H a (h.row.map V.int) ∧ h.Ok ∧ (SqT K H e (es.map V.int) ∨ SqL K H e (es.map V.int)) ∧ es.length ≤ 12 ∧
 ∀ (l : Addr) (as : List Addr) (H' : Hp), Same H H' → H l = none → H' l = some (.lst (as.map V.ref)) → TupsK H' as (linesM h c es k) → Q (.ref l) H'
section
variable {P : Program} {w : World} {K : PySem.W.Frag} {mg : Str → Option Value} {base : Heap}
theorem sc__law_lines : FnScope ["_law_hall_here", "_law_caller", "_law_ends_here", "_law_k", "_law_lines_here", "_law_end", "_law_line"] ["_law_hall_here", "_law_caller", "_law_ends_here", "_law_k"] (defScope (top 31)) := ⟨rfl, rfl, rfl, by decide +kernel, rfl, by decide +kernel, by decide +kernel⟩
theorem ok_lines (T : Txt K mg) (D : Def K mg "_law_lines" (top 31) ["_law_hall_here", "_law_caller", "_law_ends_here", "_law_k"]) : Callee P w K mg base 1 "_law_lines" ["_law_hall_here", "_law_caller", "_law_ends_here", "_law_k"] (spLines K) := by
 refine D.ok sc__law_lines (fun vs H Q E h => ?_) (fun f cdv A outer s H vs Q E hr h => ?_)
 ·obtain ⟨a, e, h, c, k, es, rfl, _⟩ := h
  rfl
 obtain ⟨a, e, h, c, k, es, rfl, hH, ok, hE, few, q⟩ := h
 have o2 := ok.c
 have o3 := ok.e
 rcases hE with hE | hE
 ·refine ⟨_, (pss_cons (ps_set (i := 4) sc__law_lines.nd rfl (Or.inl rfl) (pe_lst (pa_cons (pe_tup (pa_cons pe_str (pa_cons (pe_op op_fdiv (pv 1) (pe_ix (ix_tupK K) (pv 0) pe_int (fun _ _ => rfl))) (pa_cons (pv 3) pa_nil st_name) st_bin) st_const)) pa_nil st_tup)))
  (pss_cons (ps_for PassesOwn.never rfl (pi_tupK K (pv 2)) (pg_name (i := 5) sc__law_lines.nd rfl (Or.inl rfl))
  (pss_cons (ps_set (i := 6) sc__law_lines.nd rfl (Or.inl rfl) (pe_tup (pa_cons pe_str (pa_cons (pe_op op_fdiv (pv 5) (pe_ix (ix_tupK K) (pv 0) pe_int (fun _ _ => rfl))) (pa_cons (pv 3) pa_nil st_name) st_bin) st_const)))
  (pss_one (ps_if (pt_cmpR (op_notInTK K (Room.unitsT hr)) (pv 6) (pv 4) (by with_unfolding_all rfl)) (pss_one (ps_expr (pe_bmK K PySem.F.plainAttrs_list PySem.F.slot_list_append PySem.F.type_list_append mt_appendR (pv 4) (pa_cons (pv 6) pa_nil st_name)))) pss_nil))))
  (pss_one (ps_ret (pv 4))))), ?_⟩
  refine ⟨_, rfl, _, rfl, a, _, _, _, rfl, rfl, hH, rfl, _, _, rfl, rfl, ⟨by lia, by lia⟩, _, rfl, (by show 3 ≤ sizeLine; decide), fun t1 ht1 => ?_⟩
  have e1 := upd_same (H := H) (a := t1) (o := .tup [.str "in", .int (c / h.c), .int k])
  have s1 := same_new ht1 (.tup [.str "in", .int (c / h.c), .int k])
  generalize upd H t1 (.tup [.str "in", .int (c / h.c), .int k]) = H1 at e1 s1 ⊢
  refine ⟨(by show 1 ≤ sizeLine; decide), fun l hl => ?_⟩
  have bag0 : BagK (upd H1 l (.lst [.ref t1])) l [nIn (c / h.c) k] := ⟨[t1], upd_same, .cons (same_new hl _ _ _ e1) .nil⟩
  have sl := same_new hl (.lst [.ref t1])
  generalize upd H1 l (.lst [.ref t1]) = H3 at bag0 sl ⊢
  have s3 := s1.trans sl
  refine ⟨_, rfl, e, rfl, ⟨_, Same.seqT s3 hE⟩, ?_⟩
  refine for_tup (xs := es.map V.int) (fun i σ H' => Same H1 H' ∧ BagK H' l ((es.take i).foldl (lineStep h k) [nIn (c / h.c) k]) ∧ ∃ v5 v6, σ = [some (.ref a), some (.int c), some (.ref e), some (.int k), some (.ref l), v5, v6])
   ⟨sl, bag0, none, none, rfl⟩ (fun i σ H' _ g => Same.seqT (s1.trans g.1) hE) ?_ ?_
  ·rintro i x σ H' hx ⟨s5, ⟨as, b1, b2⟩, v5, v6, rfl⟩
   rw [List.getElem?_map] at hx
   obtain ⟨y, hy, rfl⟩ := Option.map_eq_some_iff.mp hx
   have hlen := lines_fold_len h k (es.take i) [nIn (c / h.c) k]
   have hlt : (es.take i).length ≤ 12 := by rw [List.length_take]; lia
   rw [List.length_singleton] at hlen
   have step : (es.take (i + 1)).foldl (lineStep h k) [nIn (c / h.c) k] = lineStep h k ((es.take i).foldl (lineStep h k) [nIn (c / h.c) k]) y := by
    rw [List.take_succ, hy, List.foldl_append]
    rfl
   rw [step]
   generalize (es.take i).foldl (lineStep h k) [nIn (c / h.c) k] = ds at b2 hlen
   have hn := Paired.length b2
   have hH5 := Same.seqT (s1.trans s5) hH
   refine ⟨_, rfl, _, rfl, a, _, _, _, rfl, rfl, hH5, rfl, _, _, rfl, rfl, ⟨by lia, by lia⟩, _, rfl, (by show 3 ≤ sizeLine; decide), fun u hu => ?_⟩
   have eu := upd_same (H := H') (a := u) (o := .tup [.str "out", .int (y / h.e), .int k])
   have s6 := same_new hu (.tup [.str "out", .int (y / h.e), .int k])
   generalize upd H' u (.tup [.str "out", .int (y / h.e), .int k]) = H6 at eu s6 ⊢
   have c1 := s6 _ _ b1
   have c2 := TupsK.same (fun b xs hb => s6 _ _ hb) b2
   refine ⟨_, rfl, _, rfl, l, u, as, nOut (y / h.e) k, ds, rfl, rfl, SqL.of c1, SqT.of eu, paired_mem c2 (fun _ _ _ z => SqT.of z), _, rfl, ?_⟩
   refine ite2 (fun cc => ?_) (fun cc => ?_)
   ·have cc' : inD ds (nOut (y / h.e) k) = false := by simpa using cc
    refine ⟨_, rfl, .inl ⟨rfl, _, SqL.of c1⟩, _, rfl, l, as.map V.ref, .ref u, rfl, rfl, c1, small1000 (by rw [List.length_map, hn]; lia), ?_⟩
    refine ⟨Same.put (s5.trans s6) hl, ?_, _, _, rfl⟩
    unfold lineStep
    rw [if_neg (by rw [cc']; exact Bool.false_ne_true)]
    exact BagK.push (d := nOut (y / h.e) k) c1 c2 eu
   ·have cc' : inD ds (nOut (y / h.e) k) = true := by simpa using cc
    refine ⟨s5.trans s6, ?_, _, _, rfl⟩
    unfold lineStep
    rw [if_pos cc']
    exact ⟨as, c1, c2⟩
  ·rintro σ H' ⟨s5, ⟨as, b1, b2⟩, v5, v6, rfl⟩
   rw [List.length_map, List.take_length] at b2
   exact ⟨_, rfl, q l as H' (s1.trans s5) (s1.free hl) b1 b2⟩
 ·refine ⟨_, (pss_cons (ps_set (i := 4) sc__law_lines.nd rfl (Or.inl rfl) (pe_lst (pa_cons (pe_tup (pa_cons pe_str (pa_cons (pe_op op_fdiv (pv 1) (pe_ix (ix_tupK K) (pv 0) pe_int (fun _ _ => rfl))) (pa_cons (pv 3) pa_nil st_name) st_bin) st_const)) pa_nil st_tup)))
  (pss_cons (ps_for PassesOwn.never rfl (pi_listK K (pv 2)) (pg_name (i := 5) sc__law_lines.nd rfl (Or.inl rfl))
  (pss_cons (ps_set (i := 6) sc__law_lines.nd rfl (Or.inl rfl) (pe_tup (pa_cons pe_str (pa_cons (pe_op op_fdiv (pv 5) (pe_ix (ix_tupK K) (pv 0) pe_int (fun _ _ => rfl))) (pa_cons (pv 3) pa_nil st_name) st_bin) st_const)))
  (pss_one (ps_if (pt_cmpR (op_notInTK K (Room.unitsT hr)) (pv 6) (pv 4) (by with_unfolding_all rfl)) (pss_one (ps_expr (pe_bmK K PySem.F.plainAttrs_list PySem.F.slot_list_append PySem.F.type_list_append mt_appendR (pv 4) (pa_cons (pv 6) pa_nil st_name)))) pss_nil))))
  (pss_one (ps_ret (pv 4))))), ?_⟩
  refine ⟨_, rfl, _, rfl, a, _, _, _, rfl, rfl, hH, rfl, _, _, rfl, rfl, ⟨by lia, by lia⟩, _, rfl, (by show 3 ≤ sizeLine; decide), fun t1 ht1 => ?_⟩
  have e1 := upd_same (H := H) (a := t1) (o := .tup [.str "in", .int (c / h.c), .int k])
  have s1 := same_new ht1 (.tup [.str "in", .int (c / h.c), .int k])
  generalize upd H t1 (.tup [.str "in", .int (c / h.c), .int k]) = H1 at e1 s1 ⊢
  refine ⟨(by show 1 ≤ sizeLine; decide), fun l hl => ?_⟩
  have bag0 : BagK (upd H1 l (.lst [.ref t1])) l [nIn (c / h.c) k] := ⟨[t1], upd_same, .cons (same_new hl _ _ _ e1) .nil⟩
  have sl := same_new hl (.lst [.ref t1])
  generalize upd H1 l (.lst [.ref t1]) = H3 at bag0 sl ⊢
  have s3 := s1.trans sl
  refine ⟨_, rfl, e, rfl, ⟨_, Same.seq s3 hE⟩, ?_⟩
  refine for_list (xs := es.map V.int) (fun i σ H' => Same H1 H' ∧ BagK H' l ((es.take i).foldl (lineStep h k) [nIn (c / h.c) k]) ∧ ∃ v5 v6, σ = [some (.ref a), some (.int c), some (.ref e), some (.int k), some (.ref l), v5, v6])
   ⟨sl, bag0, none, none, rfl⟩ (fun i σ H' _ g => Same.seq (s1.trans g.1) hE) ?_ ?_
  ·rintro i x σ H' hx ⟨s5, ⟨as, b1, b2⟩, v5, v6, rfl⟩
   rw [List.getElem?_map] at hx
   obtain ⟨y, hy, rfl⟩ := Option.map_eq_some_iff.mp hx
   have hlen := lines_fold_len h k (es.take i) [nIn (c / h.c) k]
   have hlt : (es.take i).length ≤ 12 := by rw [List.length_take]; lia
   rw [List.length_singleton] at hlen
   have step : (es.take (i + 1)).foldl (lineStep h k) [nIn (c / h.c) k] = lineStep h k ((es.take i).foldl (lineStep h k) [nIn (c / h.c) k]) y := by
    rw [List.take_succ, hy, List.foldl_append]
    rfl
   rw [step]
   generalize (es.take i).foldl (lineStep h k) [nIn (c / h.c) k] = ds at b2 hlen
   have hn := Paired.length b2
   have hH5 := Same.seqT (s1.trans s5) hH
   refine ⟨_, rfl, _, rfl, a, _, _, _, rfl, rfl, hH5, rfl, _, _, rfl, rfl, ⟨by lia, by lia⟩, _, rfl, (by show 3 ≤ sizeLine; decide), fun u hu => ?_⟩
   have eu := upd_same (H := H') (a := u) (o := .tup [.str "out", .int (y / h.e), .int k])
   have s6 := same_new hu (.tup [.str "out", .int (y / h.e), .int k])
   generalize upd H' u (.tup [.str "out", .int (y / h.e), .int k]) = H6 at eu s6 ⊢
   have c1 := s6 _ _ b1
   have c2 := TupsK.same (fun b xs hb => s6 _ _ hb) b2
   refine ⟨_, rfl, _, rfl, l, u, as, nOut (y / h.e) k, ds, rfl, rfl, SqL.of c1, SqT.of eu, paired_mem c2 (fun _ _ _ z => SqT.of z), _, rfl, ?_⟩
   refine ite2 (fun cc => ?_) (fun cc => ?_)
   ·have cc' : inD ds (nOut (y / h.e) k) = false := by simpa using cc
    refine ⟨_, rfl, .inl ⟨rfl, _, SqL.of c1⟩, _, rfl, l, as.map V.ref, .ref u, rfl, rfl, c1, small1000 (by rw [List.length_map, hn]; lia), ?_⟩
    refine ⟨Same.put (s5.trans s6) hl, ?_, _, _, rfl⟩
    unfold lineStep
    rw [if_neg (by rw [cc']; exact Bool.false_ne_true)]
    exact BagK.push (d := nOut (y / h.e) k) c1 c2 eu
   ·have cc' : inD ds (nOut (y / h.e) k) = true := by simpa using cc
    refine ⟨s5.trans s6, ?_, _, _, rfl⟩
    unfold lineStep
    rw [if_pos cc']
    exact ⟨as, c1, c2⟩
  ·rintro σ H' ⟨s5, ⟨as, b1, b2⟩, v5, v6, rfl⟩
   rw [List.length_map, List.take_length] at b2
   exact ⟨_, rfl, q l as H' (s1.trans s5) (s1.free hl) b1 b2⟩
end
structure Call where
 c : Int
 es : List Int
 k : Int
structure Call.In (k : Call) (h : Hall) : Prop where
 c : 0 ≤ k.c ∧ k.c < h.i * h.c
 rise : k.es.Pairwise (· < ·)
 es : ∀ e ∈ k.es, 0 ≤ e ∧ e < h.o * h.e
 some : k.es ≠ []
 few : k.es.length ≤ 12
 k : 0 ≤ k.k ∧ k.k < h.m
noncomputable def nCaller (c : Int) : List Key := [.inr "caller", .inl c]
noncomputable def nEnd (e : Int) : List Key := [.inr "end", .inl e]
noncomputable def needsM (h : Hall) (k : Call) : List (List Key) := linesM h k.c k.es k.k ++ [nCaller k.c] ++ k.es.map nEnd
theorem mem_needs {h : Hall} {k : Call} {d : List Key} : d ∈ needsM h k ↔ d = nIn (k.c / h.c) k.k ∨ (∃ e ∈ k.es, d = nOut (e / h.e) k.k) ∨ d = nCaller k.c ∨ ∃ e ∈ k.es, d = nEnd e := by
 unfold needsM
 rw [List.mem_append, List.mem_append, mem_lines, List.mem_singleton, List.mem_map, or_assoc, or_assoc]
 have : (∃ a, a ∈ k.es ∧ nEnd a = d) ↔ ∃ e ∈ k.es, d = nEnd e := ⟨fun ⟨a, h1, h2⟩ => ⟨a, h1, h2.symm⟩, fun ⟨a, h1, h2⟩ => ⟨a, h1, h2.symm⟩⟩
 rw [this]
theorem needs_len {h : Hall} {k : Call} (few : k.es.length ≤ 12) : (needsM h k).length ≤ 26 := by
 unfold needsM
 have := lines_len h k.c k.es k.k
 rw [List.length_append, List.length_append, List.length_singleton, List.length_map]
 lia
noncomputable def CallAt (H : Hp) (p : Addr) (k : Call) : Prop := ∃ e : Addr, H e = some (.tup (k.es.map V.int)) ∧ H p = some (.tup [.int k.c, .ref e, .int k.k])
theorem CallAt.same {H H' : Hp} {p : Addr} {k : Call} (s : ∀ b xs, H b = some (.tup xs) → H' b = some (.tup xs)) (h : CallAt H p k) : CallAt H' p k := by
 obtain ⟨e, h1, h2⟩ := h
 exact ⟨e, s _ _ h1, s _ _ h2⟩
noncomputable def SameX (t : Addr) (H H' : Hp) : Prop := ∀ b u, b ≠ t → H b = some u → H' b = some u
theorem keyed_paired {K : PySem.W.Frag} {H : Hp} : ∀ {as : List Addr} {ds : List (List Key)}, TupsK H as ds → Paired (rTup K rKey H) (as.map V.ref) ds
 | _, _, .nil => .nil
 | _, _, .cons h t => .cons ⟨_, _, rfl, SqT.of h, keys_paired _⟩ (keyed_paired t)
theorem paired_append {α β : Type} {R : α → β → Prop} {as' : List α} {ds' : List β} (h' : Paired R as' ds') : ∀ {as : List α} {ds : List β}, Paired R as ds → Paired R (as ++ as') (ds ++ ds')
 | _, _, .nil => h'
 | _, _, .cons h t => .cons h (paired_append h' t)
theorem rise_of {es es' : List Int} (p : es'.Perm es) (s : es'.Pairwise (· ≤ ·)) (nd : es.Nodup) : es'.Pairwise (· < ·) := by
 have nd' : es'.Nodup := p.nodup_iff.mpr nd
 exact (s.and nd').imp fun {a b} ⟨h1, h2⟩ => by lia
noncomputable def spNum : Sp := fun vs H Q _ => ∃ (c : Int) (i : Nat), vs = [.int c, .int i] ∧ i < 64 ∧ ∀ n : Int, 0 ≤ n → Q (.int n) H
noncomputable def spTry (K : PySem.W.Frag) : Sp := fun vs H Q _ => ∃ (a t : Addr) (h : Hall) (n : Int) (kvs : List (List Key × V)), vs = [.ref a, .ref t, .int n] ∧ SqT K H a (h.row.map V.int) ∧ h.Ok ∧ H t = some (.dT kvs) ∧ kvs.length ≤ 10000 ∧
 (∀ H', Same H H' → Q .non H') ∧
 ∀ (p : Addr) (k : Call) (kvs' : List (List Key × V)) (H' : Hp), SameX t H H' → H' t = some (.dT kvs') → CallAt H' p k → k.In h → (∀ d ∈ needsM h k, ¬ (valV kvs d).isSome = true) → (∀ d, (valV kvs' d).isSome = true ↔ (valV kvs d).isSome = true ∨ d ∈ needsM h k) → kvs'.length ≤ kvs.length + 26 → Q (.ref p) H'
section
variable {P : Program} {w : World} {K : PySem.W.Frag} {mg : Str → Option Value} {base : Heap}
theorem sc__law_number : FnScope ["_law_cell", "_law_at"] ["_law_cell", "_law_at"] (defScope (top 32)) := ⟨rfl, rfl, rfl, by decide +kernel, rfl, by decide +kernel, by decide +kernel⟩
theorem ok_number (T : Txt K mg) (D : Def K mg "_law_number" (top 32) ["_law_cell", "_law_at"]) : Callee P w K mg base 1 "_law_number" ["_law_cell", "_law_at"] spNum := by
 refine D.ok sc__law_number (fun vs H Q E h => ?_) (fun f cdv A outer s H vs Q E hr h => ?_)
 ·obtain ⟨c, i, rfl, _⟩ := h
  rfl
 obtain ⟨c, i, rfl, hi, q⟩ := h
 refine ⟨_, (pss_one (ps_ret (pe_op op_add (pe_op op_mul (pe_callB call_abs rfl T.m_abs boot_abs (pa_cons (pv 0) pa_nil st_name)) (pe_op op_add (pe_op op_mul pe_int (pv 1)) pe_int)) (pe_op op_mul (pv 1) (pv 1))))), ?_⟩
 refine ⟨_, rfl, _, rfl, _, rfl, _, _, rfl, rfl, .inl ⟨by decide, by decide⟩, _, _, rfl, rfl, _, _, rfl, rfl, .inr ⟨by lia, by lia⟩, _, rfl, _, rfl, _, _, rfl, rfl, .inl ⟨by lia, by lia⟩, _, _, rfl, rfl, ?_⟩
 refine q _ (Int.add_nonneg (Int.mul_nonneg ?_ (by lia)) (Int.mul_nonneg (by lia) (by lia)))
 split <;> lia
theorem sc__law_try : FnScope ["_law_hall_here", "_law_taken", "_law_number_here", "_law_caller", "_law_ends_here", "_law_step", "_law_k", "_law_need", "_law_one"] ["_law_hall_here", "_law_taken", "_law_number_here"] (defScope (top 33)) := ⟨rfl, rfl, rfl, by decide +kernel, rfl, by decide +kernel, by decide +kernel⟩
theorem ok_try (T : Txt K mg) (C__law_ends : Callee P w K mg base 1 "_law_ends" ["_law_hall_here", "_law_number_here"] (spEnds K)) (C__law_lines : Callee P w K mg base 1 "_law_lines" ["_law_hall_here", "_law_caller", "_law_ends_here", "_law_k"] (spLines K)) (D : Def K mg "_law_try" (top 33) ["_law_hall_here", "_law_taken", "_law_number_here"]) : Callee P w K mg base 2 "_law_try" ["_law_hall_here", "_law_taken", "_law_number_here"] (spTry K) := by
 refine D.ok sc__law_try (fun vs H Q E h => ?_) (fun f cdv A outer s H vs Q E hr h => ?_)
 ·obtain ⟨a, t, h, n, kvs, rfl, _⟩ := h
  rfl
 obtain ⟨a, t, h, n, kvs, rfl, hH, ok, ht, hk, qN, q⟩ := h
 have b1 := ok.ic
 have b2 := ok.i
 have b3 := ok.m
 have b4 := ok.c
 refine ⟨_, (pss_cons (ps_set (i := 3) sc__law_try.nd rfl (Or.inl rfl) (pe_op op_mod (pe_op op_mod (pe_op op_mul (pv 2) pe_int) pe_int) (pe_op op_mul (pe_ix (ix_tupK K) (pv 0) pe_int (fun _ _ => rfl)) (pe_ix (ix_tupK K) (pv 0) pe_int (fun _ _ => rfl)))))
  (pss_cons (ps_set (i := 4) sc__law_try.nd rfl (Or.inl rfl) (pe_callB (call_sortedK K) rfl T.m_sorted boot_sorted (pa_cons (pe_fn C__law_ends hr rfl (pa_cons (pv 0) (pa_cons (pv 2) pa_nil st_name) st_name)) pa_nil st_call)))
  (pss_cons (ps_for PassesOwn.never rfl (pi_range1 rfl T.m_range (pa_cons (pe_callB (call_min2 rfl) rfl T.m_min boot_min (pa_cons (pe_ix (ix_tupK K) (pv 0) pe_int (fun _ _ => rfl)) (pa_cons pe_int pa_nil st_const) st_sub)) pa_nil st_call)) (pg_name (i := 5) sc__law_try.nd rfl (Or.inl rfl))
  (pss_cons (ps_set (i := 6) sc__law_try.nd rfl (Or.inl rfl) (pe_op op_mod (pe_op op_add (pe_op op_mod (pe_op op_mul (pv 2) pe_int) pe_int) (pv 5)) (pe_ix (ix_tupK K) (pv 0) pe_int (fun _ _ => rfl))))
  (pss_cons (ps_set (i := 7) sc__law_try.nd rfl (Or.inl rfl) (pe_op op_cat (pe_op op_cat (pe_fn C__law_lines hr rfl (pa_cons (pv 0) (pa_cons (pv 3) (pa_cons (pv 4) (pa_cons (pv 6) pa_nil st_name) st_name) st_name) st_name)) (pe_lst (pa_cons (pe_tup (pa_cons pe_str (pa_cons (pv 3) pa_nil st_name) st_const)) pa_nil st_tup))) (pe_comp (own := ["_law_end"]) (fr := []) rfl (show CompScope ["_law_hall_here", "_law_taken", "_law_number_here", "_law_caller", "_law_ends_here", "_law_step", "_law_k", "_law_need", "_law_one"] (defScope (top 33)) _ _ _ from ⟨rfl, by decide +kernel, by decide +kernel, by decide +kernel, by decide +kernel⟩) (pi_listK K (pv 4)) (fun cl C s H ex => ⟨(pg_name (i := 0) (show (["_law_end"] : List Str).Nodup from by decide +kernel) rfl (Or.inl rfl) (Or.inr rfl)), pif_nil, (pe_tup (pa_cons pe_str (pa_cons (pv 0) pa_nil st_name) st_const))⟩))))
  (pss_one (ps_if (pt_cmpR (op_eqRK K (ep_tup ep_key) (Room.units2 hr)) (pe_comp (own := ["_law_one"]) (fr := [(1, "_law_taken")]) rfl (show CompScope ["_law_hall_here", "_law_taken", "_law_number_here", "_law_caller", "_law_ends_here", "_law_step", "_law_k", "_law_need", "_law_one"] (defScope (top 33)) _ _ _ from ⟨rfl, by decide +kernel, by decide +kernel, by decide +kernel, by decide +kernel⟩) (pi_listK K (pv 7)) (fun cl C s H ex => ⟨(pg_name (i := 0) (show (["_law_one", "_law_taken"] : List Str).Nodup from by decide +kernel) rfl (Or.inl rfl) (Or.inr rfl)), (pif_one (pt_cmp (pc_din (hu_of hr) (pv 0) (pv 1)))), (pv 0)⟩)) (pe_lst pa_nil) (nomark _)) (pss_cons (ps_for PassesOwn.never rfl (pi_listK K (pv 7)) (pg_name (i := 8) sc__law_try.nd rfl (Or.inl rfl))
  (pss_one (ps_dput (hu_of hr) (pv 1) (pv 8) pe_bl rfl)))
  (pss_one (ps_ret (pe_tup (pa_cons (pv 3) (pa_cons (pe_callTy (call_tupleK K) rfl T.m_tuple boot_tuple (pa_cons (pv 4) pa_nil st_name)) (pa_cons (pv 6) pa_nil st_name) st_call) st_name))))) pss_nil)))))
  (pss_one (ps_ret pe_non))))), ?_⟩
 refine ⟨_, rfl, _, _, rfl, rfl, .inr ⟨by decide, by decide⟩, _, _, rfl, rfl, (by show (0 : Int) < 1000003; decide), _, rfl, a, _, _, _, rfl, rfl, hH, rfl, _, rfl, a, _, _, _, rfl, rfl, hH, rfl, _, _, rfl, rfl, .inl ⟨by lia, by lia⟩, _, _, rfl, rfl, (by show 0 < h.i * h.c; lia), ?_⟩
 have hc : 0 ≤ n * 48271 % 1000003 % (h.i * h.c) ∧ n * 48271 % 1000003 % (h.i * h.c) < h.i * h.c := mod_in (by lia)
 refine ⟨_, rfl, _, rfl, a, h, n, rfl, hH, ok, fun l0 es0 H0 s0 _ el0 eo => ?_⟩
 have few := eo.few
 refine ⟨l0, es0, rfl, SqL.of el0, by lia, fun es pm up le hle => ?_⟩
 have ee := upd_same (H := H0) (a := le) (o := .lst (es.map V.int))
 have s1 := s0.trans (same_new hle (.lst (es.map V.int)))
 generalize upd H0 le (.lst (es.map V.int)) = H1 at ee s1 ⊢
 have hes : ∀ e ∈ es, 0 ≤ e ∧ e < h.o * h.e := fun e he => eo.es e (pm.mem_iff.mp he)
 have hlen : es.length ≤ 12 := by rw [pm.length_eq]; exact few
 have hne : es ≠ [] := fun z => eo.some (by rw [z] at pm; exact pm.symm.eq_nil)
 have hri := rise_of pm up eo.nd
 refine ⟨_, rfl, a, _, _, _, rfl, rfl, Same.seqT s1 hH, rfl, _, _, rfl, _, rfl, ?_, ?_, ?_⟩
 ·show -(2 ^ 62) ≤ (if (6 : Int) < h.m then 6 else h.m)
  split <;> lia
 ·show (if (6 : Int) < h.m then 6 else h.m) < 2 ^ 62
  split <;> lia
 refine for_range (fun i σ H' => Same H H' ∧ H' le = some (.lst (es.map V.int)) ∧ ∃ c v5 v6 v7 v8, (0 ≤ c ∧ c < h.i * h.c) ∧ σ = [some (.ref a), some (.ref t), some (.int n), some (.int c), some (.ref le), v5, v6, v7, v8])
  ⟨s1, ee, _, none, none, none, none, hc, rfl⟩ ?_ ?_
 ·rintro i σ H' hi ⟨s2, ee2, c, v5, v6, v7, v8, hc, rfl⟩
  have hH2 := Same.seqT s2 hH
  refine ⟨_, rfl, _, _, rfl, rfl, .inr ⟨by decide, by decide⟩, _, _, rfl, rfl, (by show (0 : Int) < 999979; decide), _, rfl, _, _, rfl, rfl, _, rfl, a, _, _, _, rfl, rfl, hH2, rfl, _, _, rfl, rfl, (by show 0 < h.m; lia), ?_⟩
  have hkk : 0 ≤ (n * 40692 % 999979 + (0 + (i : Int))) % h.m ∧ (n * 40692 % 999979 + (0 + (i : Int))) % h.m < h.m := mod_in (by lia)
  refine ⟨_, rfl, _, rfl, _, rfl, _, rfl, a, le, h, c, (n * 40692 % 999979 + (0 + (i : Int))) % h.m, es, rfl, hH2, ok, .inr (SqL.of ee2), hlen, fun l1 as1 H3 s3 _ el1 tk1 => ?_⟩
  refine ⟨_, rfl, (by show 2 ≤ sizeLine; decide), fun t2 ht2 => ?_⟩
  have et2 := upd_same (H := H3) (a := t2) (o := .tup [.str "caller", .int c])
  have s4 := same_new ht2 (.tup [.str "caller", .int c])
  generalize upd H3 t2 (.tup [.str "caller", .int c]) = H4 at et2 s4 ⊢
  refine ⟨(by show 1 ≤ sizeLine; decide), fun l2 hl2 => ?_⟩
  have el2 := upd_same (H := H4) (a := l2) (o := .lst [.ref t2])
  have s5 := same_new hl2 (.lst [.ref t2])
  generalize upd H4 l2 (.lst [.ref t2]) = H5 at el2 s5 ⊢
  have ln1 := Paired.length tk1
  have ln2 := lines_len h c es ((n * 40692 % 999979 + (0 + (i : Int))) % h.m)
  refine ⟨l1, l2, as1.map V.ref, [.ref t2], rfl, rfl, s5 _ _ (s4 _ _ el1), el2, Nat.le_of_lt (small1000 (by rw [List.length_map, List.length_singleton]; lia)), fun l3 hl3 => ?_⟩
  have el3 := upd_same (H := H5) (a := l3) (o := .lst (as1.map V.ref ++ [.ref t2]))
  have s6 := same_new hl3 (.lst (as1.map V.ref ++ [.ref t2]))
  generalize upd H5 l3 (.lst (as1.map V.ref ++ [.ref t2])) = H6 at el3 s6 ⊢
  have s46 := (s4.trans s5).trans s6
  have tk3 : TupsK H6 (as1 ++ [t2]) (linesM h c es ((n * 40692 % 999979 + (0 + (i : Int))) % h.m) ++ [nCaller c]) := Paired.snoc (TupsK.same (fun b xs z => s46 _ _ z) tk1) (s6 _ _ (s5 _ _ et2))
  have el3' : H6 l3 = some (.lst ((as1 ++ [t2]).map V.ref)) := by rw [el3, List.map_append]; rfl
  have ee6 := s46 _ _ (s3 _ _ ee2)
  refine ⟨_, rfl, le, rfl, ⟨_, SqL.of ee6⟩, ?_⟩
  refine comp_list (xs := es.map V.int) (fun j acc σ H'' => Same H6 H'' ∧ (∃ bs, acc = bs.map V.ref ∧ TupsK H'' bs ((es.take j).map nEnd)) ∧ ∃ v, σ = [v])
   ⟨Same.refl H6, ⟨[], rfl, .nil⟩, none, rfl⟩ (Nat.le_of_lt (small1000 (by rw [List.length_map]; lia))) (fun j acc σ H'' g => ?_) (fun j acc σ H'' _ g => SqL.of (g.1 _ _ ee6)) ?_ ?_
  ·obtain ⟨_, ⟨bs, rfl, hb⟩, _⟩ := g
   have := Paired.length hb
   rw [List.length_map, this, List.length_map, List.length_take]
   lia
  ·rintro j y acc σ H'' hy ⟨g1, ⟨bs, rfl, hb⟩, v, rfl⟩
   rw [List.getElem?_map] at hy
   obtain ⟨e, he, rfl⟩ := Option.map_eq_some_iff.mp hy
   refine ⟨_, rfl, (by show 2 ≤ sizeLine; decide), fun u hu => ⟨g1.trans (same_new hu _), ⟨bs ++ [u], by rw [List.map_append]; rfl, ?_⟩, _, rfl⟩⟩
   rw [List.take_succ, he, List.map_append]
   exact Paired.snoc (TupsK.same (fun b xs z => same_new hu _ _ _ z) hb) upd_same
  rintro acc σ H7 ⟨s7, ⟨bs, rfl, hb⟩, v, rfl⟩ l4 hl4
  rw [List.length_map, List.take_length] at hb
  have el4 := upd_same (H := H7) (a := l4) (o := .lst (bs.map V.ref))
  have s8 := same_new hl4 (.lst (bs.map V.ref))
  generalize upd H7 l4 (.lst (bs.map V.ref)) = H8 at el4 s8 ⊢
  have lb := Paired.length hb
  rw [List.length_map] at lb
  refine ⟨l3, l4, (as1 ++ [t2]).map V.ref, bs.map V.ref, rfl, rfl, s8 _ _ (s7 _ _ el3'), el4, Nat.le_of_lt (small1000 (by rw [List.length_map, List.length_map, List.length_append, List.length_singleton]; lia)), fun nl hnl => ?_⟩
  have en := upd_same (H := H8) (a := nl) (o := .lst ((as1 ++ [t2]).map V.ref ++ bs.map V.ref))
  have s9 := same_new hnl (.lst ((as1 ++ [t2]).map V.ref ++ bs.map V.ref))
  generalize upd H8 nl (.lst ((as1 ++ [t2]).map V.ref ++ bs.map V.ref)) = H9 at en s9 ⊢
  rw [← List.map_append] at en
  have s79 := (s7.trans s8).trans s9
  have tn : TupsK H9 ((as1 ++ [t2]) ++ bs) (needsM h ⟨c, es, ((n * 40692 % 999979 + (0 + (i : Int))) % h.m)⟩) := paired_append (TupsK.same (fun b xs z => s9 _ _ (s8 _ _ z)) hb) (TupsK.same (fun b xs z => s79 _ _ z) tk3)
  generalize (as1 ++ [t2]) ++ bs = nas at en tn
  have hIn : Call.In ⟨c, es, ((n * 40692 % 999979 + (0 + (i : Int))) % h.m)⟩ h := ⟨hc, hri, hes, hne, hlen, hkk⟩
  have nl26 : (needsM h ⟨c, es, ((n * 40692 % 999979 + (0 + (i : Int))) % h.m)⟩).length ≤ 26 := needs_len hlen
  have nn := Paired.length tn
  have s29 : Same H H9 := s2.trans ((s3.trans s46).trans s79)
  have ht9 := s29 _ _ ht
  have ee9 : H9 le = some (.lst (es.map V.int)) := s79 _ _ ee6
  generalize hds : needsM h ⟨c, es, ((n * 40692 % 999979 + (0 + (i : Int))) % h.m)⟩ = ds at tn nl26 nn
  refine ⟨_, rfl, nl, rfl, ⟨_, SqL.of en⟩, ?_⟩
  refine comp_list (xs := nas.map V.ref) (fun j acc σ H'' => H'' = H9 ∧ (∃ bs, acc = bs.map V.ref ∧ TupsK H9 bs ((ds.take j).filter fun d => (valV kvs d).isSome)) ∧ ∃ v, σ = [v, some (.ref t)])
   ⟨rfl, ⟨[], rfl, .nil⟩, none, rfl⟩ (Nat.le_of_lt (small1000 (by rw [List.length_map]; lia))) (fun j acc σ H'' g => ?_) (fun j acc σ H'' _ g => by rw [g.1]; exact SqL.of en) ?_ ?_
  ·obtain ⟨_, ⟨bs, rfl, hb⟩, _⟩ := g
   have := Paired.length hb
   rw [List.length_map, this]
   exact Nat.le_trans (List.length_filter_le _ _) (by rw [List.length_take]; lia)
  ·rintro j y acc σ H'' hy ⟨rfl, ⟨bs, rfl, hb⟩, v, rfl⟩
   rw [List.getElem?_map] at hy
   obtain ⟨x, hx, rfl⟩ := Option.map_eq_some_iff.mp hy
   obtain ⟨d, hd1, hd2⟩ := paired_at tn j x hx
   have step : (ds.take (j + 1)).filter (fun d => (valV kvs d).isSome) = (ds.take j).filter (fun d => (valV kvs d).isSome) ++ (if (valV kvs d).isSome = true then [d] else []) := by
    rw [List.take_succ, hd1, List.filter_append]
    by_cases c : (valV kvs d).isSome = true
    ·rw [if_pos c]
     simp [c]
    ·rw [if_neg c]
     simp [c]
   refine ⟨_, rfl, _, rfl, t, _, rfl, DGet.t ht9 hd2, _, rfl, ?_⟩
   refine ite2 (fun c => ?_) (fun c => ?_)
   ·refine ⟨_, rfl, rfl, ⟨bs ++ [_], by rw [List.map_append]; rfl, ?_⟩, _, rfl⟩
    rw [step, if_pos c]
    exact Paired.snoc hb hd2
   ·refine ⟨rfl, ⟨bs, rfl, ?_⟩, _, rfl⟩
    rw [step, if_neg c, List.append_nil]
    exact hb
  rintro acc σ H'' ⟨rfl, ⟨bs, rfl, hb⟩, v, rfl⟩ l5 hl5
  rw [List.length_map, nn, List.take_length] at hb
  have el5 := upd_same (H := H'') (a := l5) (o := .lst (bs.map V.ref))
  have s10 := same_new hl5 (.lst (bs.map V.ref))
  generalize upd H'' l5 (.lst (bs.map V.ref)) = H10 at el5 s10 ⊢
  refine ⟨(by show 0 ≤ sizeLine; decide), fun o ho => ?_⟩
  have eo := upd_same (H := H10) (a := o) (o := .lst [])
  have s11 := same_new ho (.lst [])
  generalize upd H10 o (.lst []) = H11 at eo s11 ⊢
  have sA := s10.trans s11
  refine ⟨_, [], ⟨l5, _, rfl, SqL.of (s11 _ _ el5), keyed_paired (TupsK.same (fun b xs q => sA _ _ q) hb)⟩, ⟨o, [], rfl, SqL.of eo, .nil⟩, _, rfl, ?_⟩
  have htA := sA _ _ ht9
  have enA := sA _ _ en
  have eeA := sA _ _ ee9
  have tnA := TupsK.same (fun b xs q => sA _ _ q) tn
  have sB : Same H H11 := s29.trans sA
  have hnt : nl ≠ t := fun z => by rw [z, htA] at enA; cases enA
  have hlt : le ≠ t := fun z => by rw [z, htA] at eeA; cases eeA
  refine ite2 (fun cc => ?_) (fun cc => ?_)
  ·have c0 : ds.filter (fun d => (valV kvs d).isSome) = [] := of_decide_eq_true cc
   have fr : ∀ d ∈ ds, ¬ (valV kvs d).isSome = true := fun d hd z => List.filter_eq_nil_iff.mp c0 d hd z
   refine ⟨_, rfl, nl, rfl, ⟨_, SqL.of enA⟩, ?_⟩
   refine for_list (xs := nas.map V.ref) (fun j σ H' => SameX t H11 H' ∧ ∃ kvs', H' t = some (.dT kvs') ∧ kvs'.length ≤ kvs.length + j ∧ (∀ d, (valV kvs' d).isSome = true ↔ (valV kvs d).isSome = true ∨ d ∈ ds.take j) ∧ ∃ v8, σ = [some (.ref a), some (.ref t), some (.int n), some (.int c), some (.ref le), some (.int (0 + (i : Int))), some (.int ((n * 40692 % 999979 + (0 + (i : Int))) % h.m)), some (.ref nl), v8])
    ⟨fun _ _ _ z => z, kvs, htA, Nat.le_refl _, (fun d => by simp), _, rfl⟩ (fun j σ H' _ g => SqL.of (g.1 _ _ hnt enA)) ?_ ?_
   ·rintro j y σ H' hy ⟨t1, kvs', t2, t7, t9, v8, rfl⟩
    rw [List.getElem?_map] at hy
    obtain ⟨x, hx, rfl⟩ := Option.map_eq_some_iff.mp hy
    obtain ⟨d, hd1, hd2⟩ := paired_at tnA j x hx
    have hj : j < 26 := by
     have := (List.getElem?_eq_some_iff.mp hd1).1
     lia
    replace hd2 : H11 x = some (.tup (d.map kV)) := hd2
    have hxt : x ≠ t := fun z => by rw [z, htA] at hd2; cases hd2
    refine ⟨_, rfl, _, rfl, t, _, rfl, DPut.t t2 (t1 _ _ hxt hd2) (by show kvs'.length < 16777216; lia), ?_⟩
    refine ⟨fun b u hb z => by rw [upd_ne hb]; exact t1 b u hb z, _, upd_same, ?_, fun d' => ?_, _, rfl⟩
    ·have := length_putK kvs' d (.bl true)
     lia
    ·rw [valV_put, List.take_succ, hd1, List.mem_append]
     by_cases c : d' = d
     ·rw [if_pos c]
      simp [c]
     ·rw [if_neg c, t9]
      simp [c]
   ·rintro σ H' ⟨t1, kvs', t2, t7, t9, v8, rfl⟩
    rw [List.length_map, nn] at t7 t9
    rw [List.take_length] at t9
    refine ⟨_, rfl, _, rfl, le, _, rfl, .inl ⟨SqL.of (t1 _ _ hlt eeA), fun e he => ?_⟩⟩
    refine ⟨_, rfl, (by show 3 ≤ sizeLine; decide), fun p hp => ?_⟩
    refine q p ⟨c, es, (n * 40692 % 999979 + (0 + (i : Int))) % h.m⟩ kvs' _ (fun b u hb z => ?_) ?_ ⟨e, ?_, upd_same⟩ hIn (by rw [hds]; exact fr) (by rw [hds]; exact t9) (by lia)
    ·have h1 := t1 b u hb (sB _ _ z)
     exact same_new hp _ _ _ (same_new he _ _ _ h1)
    ·exact same_new hp _ _ _ (same_new he _ _ _ t2)
    ·exact same_new hp _ _ _ upd_same
  ·exact ⟨sB, eeA, c, _, _, _, _, hc, rfl⟩
 ·rintro σ H' ⟨s2, ee2, c, v5, v6, v7, v8, hc, rfl⟩
  exact qN H' s2
end
noncomputable def Free (h : Hall) (k k' : Call) : Prop := ∀ d ∈ needsM h k, ¬ d ∈ needsM h k'
theorem Free.symm {h : Hall} {k k' : Call} (f : Free h k k') : Free h k' k := fun d h1 h2 => f d h2 h1
theorem Free.caller {h : Hall} {k k' : Call} (f : Free h k k') : k.c ≠ k'.c := fun z => f (nCaller k.c) (mem_needs.mpr (.inr (.inr (.inl rfl)))) (mem_needs.mpr (.inr (.inr (.inl (by rw [z])))))
noncomputable def CallsAt (H : Hp) (as : List Addr) (ks : List Call) : Prop := Paired (CallAt H) as ks
theorem CallsAt.same {H H' : Hp} {as : List Addr} {ks : List Call} (s : ∀ b xs, H b = some (.tup xs) → H' b = some (.tup xs)) (h : CallsAt H as ks) : CallsAt H' as ks := by
 unfold CallsAt at h ⊢
 exact paired_mem h fun a d _ e => CallAt.same s e
theorem paired_pick {α β : Type} {R : α → β → Prop} {as : List α} {ds : List β} (a0 : α) (d0 : β) (h : Paired R as ds) : ∀ (is : List Nat), (∀ i ∈ is, i < ds.length) → Paired R (is.map fun i => as.getD i a0) (is.map fun i => ds.getD i d0)
 | [], _ => .nil
 | i :: t, hin => by
  refine .cons ?_ (paired_pick a0 d0 h t fun j hj => hin j (List.mem_cons_of_mem _ hj))
  have hi := hin i (List.mem_cons_self ..)
  have hl : as.length = ds.length := Paired.length h
  have ea : as[i]? = some (as[i]'(by lia)) := List.getElem?_eq_getElem (by lia)
  obtain ⟨d, e2, hs⟩ := paired_at h i _ ea
  show R (as.getD i a0) (ds.getD i d0)
  rw [show as.getD i a0 = as[i]'(by lia) by rw [List.getD, ea]; rfl, show ds.getD i d0 = d by rw [List.getD, e2]; rfl]
  exact hs
theorem calls_items {K : PySem.W.Frag} {H : Hp} : ∀ {as : List Addr} {ks : List Call}, CallsAt H as ks → ∃ its : List (List V), TupsAt K H as its ∧ Paired (fun k xs => ∃ e, xs = [V.int k.c, V.ref e, V.int k.k]) ks its
 | _, _, .nil => ⟨[], .nil, .nil⟩
 | _, _, .cons (b := k) ⟨e, h1, h2⟩ t => by
  obtain ⟨its, q1, q2⟩ := calls_items t
  exact ⟨[V.int k.c, V.ref e, V.int k.k] :: its, .cons ⟨SqT.of h2, _, _, rfl⟩ q1, .cons ⟨e, rfl⟩ q2⟩
noncomputable def spCalls (K : PySem.W.Frag) : Sp := fun vs H Q _ => ∃ (a b : Addr) (h : Hall) (ns : List Int), vs = [.ref a, .ref b] ∧ SqT K H a (h.row.map V.int) ∧ h.Ok ∧ SqL K H b (ns.map V.int) ∧ ns.length ≤ 63 ∧
 ∀ (l : Addr) (as : List Addr) (ks : List Call) (H' : Hp), Same H H' → H' l = some (.lst (as.map V.ref)) → CallsAt H' as ks → (∀ k ∈ ks, k.In h) → ks.Pairwise (fun k k' => k.c < k'.c) → ks.Pairwise (Free h) → ks.length ≤ 63 → Q (.ref l) H'
section
variable {P : Program} {w : World} {K : PySem.W.Frag} {mg : Str → Option Value} {base : Heap}
theorem sc__law_calls : FnScope ["_law_hall_here", "_law_cells", "_law_taken", "_law_calls_here", "_law_at", "_law_call"] ["_law_hall_here", "_law_cells"] (defScope (top 34)) := ⟨rfl, rfl, rfl, by decide +kernel, rfl, by decide +kernel, by decide +kernel⟩
theorem ok_calls (T : Txt K mg) (C__law_number : Callee P w K mg base 1 "_law_number" ["_law_cell", "_law_at"] spNum) (C__law_try : Callee P w K mg base 2 "_law_try" ["_law_hall_here", "_law_taken", "_law_number_here"] (spTry K)) (D : Def K mg "_law_calls" (top 34) ["_law_hall_here", "_law_cells"]) : Callee P w K mg base 3 "_law_calls" ["_law_hall_here", "_law_cells"] (spCalls K) := by
 refine D.ok sc__law_calls (fun vs H Q E h => ?_) (fun f cdv A outer s H vs Q E hr h => ?_)
 ·obtain ⟨a, b, h, ns, rfl, _⟩ := h
  rfl
 obtain ⟨a, b, h, ns, rfl, hH, ok, hB, h63, q⟩ := h
 refine ⟨_, (pss_cons (ps_set (i := 2) sc__law_calls.nd rfl (Or.inl rfl) pe_dnewT)
  (pss_cons (ps_set (i := 3) sc__law_calls.nd rfl (Or.inl rfl) (pe_lst pa_nil))
  (pss_cons (ps_for PassesOwn.never rfl (pi_range1 rfl T.m_range (pa_cons (pe_callB (call_lenK K) rfl T.m_len boot_len (pa_cons (pv 1) pa_nil st_name)) pa_nil st_call)) (pg_name (i := 4) sc__law_calls.nd rfl (Or.inl rfl))
  (pss_cons (ps_set (i := 5) sc__law_calls.nd rfl (Or.inl rfl) (pe_fn C__law_try hr rfl (pa_cons (pv 0) (pa_cons (pv 2) (pa_cons (pe_fn C__law_number hr rfl (pa_cons (pe_ix (ix_listK K) (pv 1) (pv 4) (fun _ _ => rfl)) (pa_cons (pv 4) pa_nil st_name) st_sub)) pa_nil st_call) st_name) st_name)))
  (pss_one (ps_if (pt_cmpR op_notN (pv 5) pe_non (nomark _)) (pss_one (ps_expr (pe_bmK K PySem.F.plainAttrs_list PySem.F.slot_list_append PySem.F.type_list_append mt_appendR (pv 3) (pa_cons (pv 5) pa_nil st_name)))) pss_nil))))
  (pss_one (ps_ret (pe_callB (call_sortedTK K) rfl T.m_sorted boot_sorted (pa_cons (pv 3) pa_nil st_name))))))), ?_⟩
 refine fun hd hhd => ?_
 have ed := upd_same (H := H) (a := hd) (o := .dT [])
 have s1 := same_new hhd (.dT [])
 generalize upd H hd (.dT []) = H1 at ed s1 ⊢
 refine ⟨(by show 0 ≤ sizeLine; decide), fun l hl => ?_⟩
 have el := upd_same (H := H1) (a := l) (o := .lst [])
 have s2 := s1.trans (same_new hl (.lst []))
 have ed2 := same_new hl (.lst []) _ _ ed
 generalize upd H1 l (.lst []) = H2 at el s2 ed2 ⊢
 have hlH : H l = none := s1.free hl
 have ln : (ns.map V.int).length = ns.length := List.length_map _
 refine ⟨_, rfl, b, _, rfl, .inl (s2.seq hB), _, rfl, by lia, by lia, ?_⟩
 rw [Int.toNat_natCast, ln]
 refine for_range (fun i σ H' => Same H H' ∧ ∃ kvs as ks, H' hd = some (.dT kvs) ∧ H' l = some (.lst (as.map V.ref)) ∧ CallsAt H' as ks ∧ (∀ k ∈ ks, k.In h) ∧ ks.Pairwise (Free h) ∧ ks.length ≤ i ∧ kvs.length ≤ 26 * i ∧ (∀ d, (valV kvs d).isSome = true ↔ ∃ k ∈ ks, d ∈ needsM h k) ∧
   ∃ v4 v5, σ = [some (.ref a), some (.ref b), some (.ref hd), some (.ref l), v4, v5])
  ⟨s2, [], [], [], ed2, el, .nil, (fun k hk => nomatch hk), List.Pairwise.nil, Nat.le_refl _, Nat.le_refl _, (fun d => by constructor <;> intro z <;> first | (obtain ⟨k, hk, _⟩ := z; cases hk) | cases z), none, none, rfl⟩ ?_ ?_
 ·rintro i σ H' hi ⟨s3, kvs, as, ks, d1, d2, d3, d4, d5, d6, d7, d8, v4, v5, rfl⟩
  rw [Int.zero_add]
  refine ⟨_, rfl, _, rfl, _, rfl, _, rfl, b, _, _, _, rfl, rfl, s3.seq hB, at_nat hi, _, rfl, _, i, rfl, by lia, fun n hn => ?_⟩
  have hl2 : l ≠ hd := fun q => by rw [q, d1] at d2; cases d2
  refine ⟨a, hd, h, n, kvs, rfl, Same.seqT s3 hH, ok, d1, by lia, fun H4 s4 => ?_, fun p k kvs' H4 s4 d1' hc hk fr t9 t7 => ?_⟩
  ·refine ⟨_, rfl, rfl, _, rfl, iteF ?_⟩
   exact ⟨s3.trans s4, kvs, as, ks, s4 _ _ d1, s4 _ _ d2, CallsAt.same (fun b xs q => s4 _ _ q) d3, d4, d5, by lia, by lia, d8, _, _, rfl⟩
  ·have tp : ∀ b xs, H' b = some (.tup xs) → H4 b = some (.tup xs) := fun b xs z => s4 _ _ (fun y => by rw [y, d1] at z; cases z) z
   have el4 := s4 _ _ hl2 d2
   refine ⟨_, rfl, rfl, _, rfl, iteT ?_⟩
   refine ⟨_, rfl, .inl ⟨rfl, _, SqL.of el4⟩, _, rfl, l, as.map V.ref, .ref p, rfl, rfl, el4, small1000 (by
    have := Paired.length d3
    rw [List.length_map, this]; lia), ?_⟩
   have t8 : ∀ b xs, H4 b = some (.tup xs) → upd H4 l (.lst (as.map V.ref ++ [.ref p])) b = some (.tup xs) := fun b xs q => by
    have : b ≠ l := fun z => by rw [z, el4] at q; cases q
    rw [upd_ne this]; exact q
   refine ⟨fun b u z => ?_, kvs', as ++ [p], ks ++ [k], by rw [upd_ne (Ne.symm hl2)]; exact d1', by rw [upd_same, List.map_append]; rfl, Paired.snoc (CallsAt.same (fun b xs q => t8 _ _ (tp _ _ q)) d3) (CallAt.same t8 hc), fun k' hk' => ?_, ?_, by rw [List.length_append, List.length_singleton]; lia, by lia, fun d => ?_, _, _, rfl⟩
   ·have h1 : b ≠ l := ne_of_none z hlH
    have h2 : b ≠ hd := ne_of_none z hhd
    rw [upd_ne h1]
    exact s4 _ _ h2 (s3 _ _ z)
   ·rcases List.mem_append.mp hk' with q | q
    ·exact d4 k' q
    ·rw [List.mem_singleton] at q
     rw [q]; exact hk
   ·rw [List.pairwise_append]
    refine ⟨d5, List.pairwise_singleton _ _, fun k1 hk1 k2 hk2 => ?_⟩
    rw [List.mem_singleton] at hk2
    subst hk2
    intro d g1 g2
    exact fr d g2 ((d8 d).mpr ⟨k1, hk1, g1⟩)
   ·rw [t9, d8]
    constructor
    ·rintro (⟨k1, g1, g2⟩ | g)
     ·exact ⟨k1, List.mem_append_left _ g1, g2⟩
     ·exact ⟨k, List.mem_append_right _ (List.mem_singleton.mpr rfl), g⟩
    ·rintro ⟨k1, g1, g2⟩
     rcases List.mem_append.mp g1 with g | g
     ·exact .inl ⟨k1, g, g2⟩
     ·rw [List.mem_singleton] at g
      rw [g] at g2
      exact .inr g2
 ·rintro σ H' ⟨s3, kvs, as, ks, d1, d2, d3, d4, d5, d6, d7, d8, v4, v5, rfl⟩
  obtain ⟨its, t1, t2⟩ := calls_items (K := K) d3
  have la := Paired.length d3
  have lk := Paired.length t2
  have gd : ∀ (i : Nat) k, ks[i]? = some k → ks.getD i ⟨0, [], 0⟩ = k := fun i k e => by rw [List.getD, e]; rfl
  have uniq : ∀ (i j : Nat) k k', ks[i]? = some k → ks[j]? = some k' → k.c = k'.c → i = j := fun i j k k' e1 e2 hc => by
   rcases Nat.lt_trichotomy i j with hij | hij | hij
   ·obtain ⟨q1, z1⟩ := List.getElem?_eq_some_iff.mp e1
    obtain ⟨q2, z2⟩ := List.getElem?_eq_some_iff.mp e2
    have := (List.pairwise_iff_getElem.mp d5) i j q1 q2 hij
    rw [z1, z2] at this
    exact absurd hc this.caller
   ·exact hij
   ·obtain ⟨q1, z1⟩ := List.getElem?_eq_some_iff.mp e1
    obtain ⟨q2, z2⟩ := List.getElem?_eq_some_iff.mp e2
    have := (List.pairwise_iff_getElem.mp d5) j i q2 q1 hij
    rw [z1, z2] at this
    exact absurd hc.symm this.caller
  have back : ∀ (i : Nat) x, its[i]? = some x → ∃ k e, ks[i]? = some k ∧ x = [V.int k.c, V.ref e, V.int k.k] := fun i x hx => by
   have hi := (List.getElem?_eq_some_iff.mp hx).1
   have ek : ks[i]? = some (ks[i]'(by lia)) := List.getElem?_eq_getElem (by lia)
   obtain ⟨x', e1, e, e2⟩ := paired_at t2 i _ ek
   rw [hx] at e1
   cases e1
   exact ⟨_, e, ek, e2⟩
  refine ⟨_, rfl, l, as, its, fun i => (ks.getD i ⟨0, [], 0⟩).c, rfl, SqL.of d2, t1, by lia, fun i j x y hx hy => ?_, fun pq pm up l2 hl2 => ?_⟩
  ·obtain ⟨k, e, e1, rfl⟩ := back i x hx
   obtain ⟨k', e', e2, rfl⟩ := back j y hy
   show (if k.c = k'.c then lexD [V.ref e, V.int k.k] [V.ref e', V.int k'.k] else some (decide (k.c < k'.c))) = some (decide ((ks.getD i ⟨0, [], 0⟩).c < (ks.getD j ⟨0, [], 0⟩).c))
   rw [gd i k e1, gd j k' e2]
   by_cases c : k.c = k'.c
   ·obtain rfl := uniq i j k k' e1 e2 c
    rw [hx] at hy
    rw [e1] at e2
    cases e2
    cases hy
    rw [if_pos rfl]
    show (if e = e then (if k.k = k.k then lexD [] [] else some (decide (k.k < k.k))) else none) = _
    rw [if_pos rfl, if_pos rfl, decide_eq_false (Int.lt_irrefl _)]
    rfl
   ·rw [if_neg c]
  ·rw [la] at pm up
   obtain ⟨g1, g2⟩ := sort_out (xs := ks) pm up ⟨0, [], 0⟩ Call.c fun i _ => rfl
   have hin : ∀ i ∈ pq.toList, i < ks.length := fun i hi => by
    have := (Array.Perm.mem_iff pm (a := i)).mp (by simpa using hi)
    simpa using this
   have cs := paired_pick 0 ⟨0, [], 0⟩ d3 pq.toList hin
   generalize (pq.toList.map fun i => ks.getD i ⟨0, [], 0⟩) = ks' at g1 g2 cs
   have fr' : ks'.Pairwise (Free h) := (List.Perm.pairwise_iff (fun q => Free.symm q) g1).mpr d5
   refine q l2 _ ks' _ (s3.trans (same_new hl2 _)) upd_same (CallsAt.same (fun b xs q => same_new hl2 _ _ _ q) cs) (fun k hk => d4 k (g1.mem_iff.mp hk)) ?_ fr' (by rw [g1.length_eq]; lia)
   exact (g2.and fr').imp fun {k k'} ⟨q1, q2⟩ => by
    have := q2.caller
    lia
end
noncomputable def AlikeB (x y : V) : Prop := (x = .non ∧ y = .non) ∨ ∃ i : Int, x = .int i ∧ y = .int i
noncomputable def AlikeAt (H : Hp) : Nat → V → V → Prop
 | 0, x, y => AlikeB x y
 | n + 1, x, y => AlikeB x y ∨ ∃ (p q : Addr) (xs ys : List V), x = .ref p ∧ y = .ref q ∧ ((H p = some (.lst xs) ∧ H q = some (.lst ys)) ∨ (H p = some (.tup xs) ∧ H q = some (.tup ys))) ∧ Paired (AlikeAt H n) xs ys ∧ xs.length ≤ 1000
noncomputable def spAlike (n : Nat) : Sp := fun vs H Q _ => ∃ x y, vs = [x, y] ∧ AlikeAt H n x y ∧ Q (.bl true) H
theorem AlikeB.at {H : Hp} {n : Nat} {x y : V} (h : AlikeB x y) : AlikeAt H n x y := by
 cases n with
 | zero => exact h
 | succ n => exact .inl h
theorem alike_ints {H : Hp} {n : Nat} : ∀ ns : List Int, Paired (AlikeAt H n) (ns.map V.int) (ns.map V.int)
 | [] => .nil
 | i :: t => .cons (AlikeB.at (.inr ⟨i, rfl, rfl⟩)) (alike_ints t)
section
variable {P : Program} {w : World} {K : PySem.W.Frag} {mg : Str → Option Value} {base : Heap}
theorem callee_never {x : Str} {st : Stmt} {ps : List Str} (D : Def K mg x st ps) (k : Nat) : Callee P w K mg base k x ps (fun _ _ _ _ => False) := by
 obtain ⟨f, fd, F, b, m⟩ := D.ex
 exact ⟨f, fd, ⟨fun _ _ _ _ h => h.elim, fun _ _ _ _ _ _ _ _ _ _ _ _ _ h => h.elim⟩, b, F.kp, m⟩
theorem sc__law_alike : FnScope ["_law_found", "_law_due_here", "_law_k"] ["_law_found", "_law_due_here"] (defScope (top 35)) := ⟨rfl, rfl, rfl, by decide +kernel, rfl, by decide +kernel, by decide +kernel⟩
theorem alike_body (T : Txt K mg) (n : Nat) (sp : Sp) (C__law_alike : Callee P w K mg base n "_law_alike" ["_law_found", "_law_due_here"] sp) (D : Def K mg "_law_alike" (top 35) ["_law_found", "_law_due_here"]) (hsp : ∀ m, n = m + 1 → sp = spAlike m) : Callee P w K mg base (n+1) "_law_alike" ["_law_found", "_law_due_here"] (spAlike n) := by
 refine D.ok sc__law_alike (fun vs H Q E h => ?_) (fun f cdv A outer s H vs Q E hr h => ?_)
 ·obtain ⟨x, y, rfl, _⟩ := h
  rfl
 obtain ⟨x, y, rfl, hA, q⟩ := h
 refine ⟨_, (pss_cons (ps_if (pt_cmpR op_isN (pv 1) pe_non (nomark _)) (pss_one (ps_ret (pe_cmpR op_isN (pv 0) pe_non (nomark _)))) pss_nil)
  (pss_cons (ps_if (pt_truK K (pe_callB (call_isinstK K) rfl T.m_isinstance boot_isinstance (pa_cons (pv 1) (pa_cons (pe_bltn (v := .ty "int") rfl T.m_int boot_int rfl) pa_nil st_name) st_name)) (fun _ => rfl)) (pss_one (ps_ret (pe_and (pe_callB (call_isinstK K) rfl T.m_isinstance boot_isinstance (pa_cons (pv 0) (pa_cons (pe_bltn (v := .ty "int") rfl T.m_int boot_int rfl) pa_nil st_name) st_name)) (pe_and (pe_not (pe_callB (call_isinstK K) rfl T.m_isinstance boot_isinstance (pa_cons (pv 0) (pa_cons (pe_bltn (v := .ty "bool") rfl T.m_bool boot_bool rfl) pa_nil st_name) st_name))) (pe_one (pe_cmpR op_eq (pv 0) (pv 1) (nomark _))))))) pss_nil)
  (pss_cons (ps_if (pt_truK K (pe_callB (call_isinstK K) rfl T.m_isinstance boot_isinstance (pa_cons (pv 1) (pa_cons (pe_bltn (v := .ty "tuple") rfl T.m_tuple boot_tuple rfl) pa_nil st_name) st_name)) (fun _ => rfl)) (pss_one (ps_if (pt_not (pt_truK K (pe_callB (call_isinstK K) rfl T.m_isinstance boot_isinstance (pa_cons (pv 0) (pa_cons (pe_bltn (v := .ty "tuple") rfl T.m_tuple boot_tuple rfl) pa_nil st_name) st_name)) (fun _ => rfl))) (pss_one (ps_ret pe_bl)) pss_nil)) (pss_one (ps_if (pt_not (pt_truK K (pe_callB (call_isinstK K) rfl T.m_isinstance boot_isinstance (pa_cons (pv 0) (pa_cons (pe_bltn (v := .ty "list") rfl T.m_list boot_list rfl) pa_nil st_name) st_name)) (fun _ => rfl))) (pss_one (ps_ret pe_bl)) pss_nil)))
  (pss_cons (ps_if (pt_cmpR op_ne (pe_callB (call_lenK K) rfl T.m_len boot_len (pa_cons (pv 0) pa_nil st_name)) (pe_callB (call_lenK K) rfl T.m_len boot_len (pa_cons (pv 1) pa_nil st_name)) (nomark _)) (pss_one (ps_ret pe_bl)) pss_nil)
  (pss_cons (ps_for PassesOwn.never rfl (pi_range1 rfl T.m_range (pa_cons (pe_callB (call_lenK K) rfl T.m_len boot_len (pa_cons (pv 1) pa_nil st_name)) pa_nil st_call)) (pg_name (i := 2) sc__law_alike.nd rfl (Or.inl rfl))
  (pss_one (ps_if (pt_not (pt_truK K (pe_fn C__law_alike hr rfl (pa_cons (pe_ix ix_seq (pv 0) (pv 2) (fun _ _ => rfl)) (pa_cons (pe_ix ix_seq (pv 1) (pv 2) (fun _ _ => rfl)) pa_nil st_sub) st_sub) (Nat.le_refl _)) (fun _ => rfl))) (pss_one (ps_ret pe_bl)) pss_nil)))
  (pss_one (ps_ret pe_bl))))))), ?_⟩
 have hB : AlikeB x y ∨ ∃ m, n = m + 1 ∧ ∃ (p q : Addr) (xs ys : List V), x = .ref p ∧ y = .ref q ∧ ((H p = some (.lst xs) ∧ H q = some (.lst ys)) ∨ (H p = some (.tup xs) ∧ H q = some (.tup ys))) ∧ Paired (AlikeAt H m) xs ys ∧ xs.length ≤ 1000 := by
  cases n with
  | zero => exact .inl hA
  | succ m => exact hA.imp id fun z => ⟨m, rfl, z⟩
 rcases hB with (⟨rfl, rfl⟩ | ⟨i, rfl, rfl⟩) | ⟨m, rfl, p, r, xs, ys, rfl, rfl, hk, hp, h1000⟩
 ·exact ⟨_, rfl, rfl, _, rfl, iteT ⟨_, rfl, rfl, q⟩⟩
 ·refine ⟨_, rfl, rfl, _, rfl, iteF ?_⟩
  refine ⟨_, rfl, _, _, _, true, rfl, .int i, kit_int_int, true, rfl, iteT ?_⟩
  refine ⟨_, rfl, _, _, _, true, rfl, .int i, kit_int_int, _, rfl, iteT ?_⟩
  refine ⟨_, rfl, _, _, _, false, rfl, .int i, kit_int_bool, _, rfl, _, rfl, iteT ?_⟩
  refine ⟨_, rfl, _, rfl, rfl, ?_⟩
  rw [decide_eq_true rfl]
  exact q
 ·obtain rfl := hsp m rfl
  have ln := Paired.length hp
  refine ⟨_, rfl, rfl, _, rfl, iteF ?_⟩
  rcases hk with ⟨k1, k2⟩ | ⟨k1, k2⟩
  ·refine ⟨_, rfl, _, _, _, false, rfl, .lst k2, kit_lst_int, false, rfl, iteF ?_⟩
   refine ⟨_, rfl, _, _, _, false, rfl, .lst k2, kit_lst_tup, false, rfl, iteF ?_⟩
   refine ⟨_, rfl, _, _, _, true, rfl, .lst k1, kit_lst_lst, true, rfl, iteF ?_⟩
   refine ⟨_, rfl, p, _, rfl, .inl (SqL.of k1), _, rfl, r, _, rfl, .inl (SqL.of k2), rfl, _, rfl, iteN (by simp [ln]) ?_⟩
   refine ⟨_, rfl, r, _, rfl, .inl (SqL.of k2), _, rfl, by lia, by lia, ?_⟩
   rw [Int.toNat_natCast]
   refine for_range (fun i σ H' => H' = H ∧ ∃ v, σ = [some (.ref p), some (.ref r), v]) ⟨rfl, _, rfl⟩ ?_ ?_
   ·rintro i σ H' hi ⟨rfl, v, rfl⟩
    rw [Int.zero_add]
    have ex : xs[i]? = some (xs[i]'(by lia)) := List.getElem?_eq_getElem (by lia)
    obtain ⟨y, ey, al⟩ := paired_at hp i _ ex
    refine ⟨_, rfl, _, rfl, .inl ⟨p, _, _, _, rfl, rfl, SqL.of k1, atI_nat ex, _, rfl, _, rfl, .inl ⟨r, _, _, _, rfl, rfl, SqL.of k2, atI_nat ey, _, _, rfl, al, _, rfl, iteF ⟨rfl, _, rfl⟩⟩⟩⟩
   ·rintro σ H' ⟨rfl, v, rfl⟩
    exact q
  ·refine ⟨_, rfl, _, _, _, false, rfl, .tup k2, kit_tup_int, false, rfl, iteF ?_⟩
   refine ⟨_, rfl, _, _, _, true, rfl, .tup k2, kit_tup_tup, true, rfl, iteT ?_⟩
   refine ⟨_, rfl, _, _, _, true, rfl, .tup k1, kit_tup_tup, true, rfl, iteF ?_⟩
   refine ⟨_, rfl, p, _, rfl, .inr (SqT.of k1), _, rfl, r, _, rfl, .inr (SqT.of k2), rfl, _, rfl, iteN (by simp [ln]) ?_⟩
   refine ⟨_, rfl, r, _, rfl, .inr (SqT.of k2), _, rfl, by lia, by lia, ?_⟩
   rw [Int.toNat_natCast]
   refine for_range (fun i σ H' => H' = H ∧ ∃ v, σ = [some (.ref p), some (.ref r), v]) ⟨rfl, _, rfl⟩ ?_ ?_
   ·rintro i σ H' hi ⟨rfl, v, rfl⟩
    rw [Int.zero_add]
    have ex : xs[i]? = some (xs[i]'(by lia)) := List.getElem?_eq_getElem (by lia)
    obtain ⟨y, ey, al⟩ := paired_at hp i _ ex
    refine ⟨_, rfl, _, rfl, .inr (.inl ⟨p, _, _, _, rfl, rfl, SqT.of k1, atI_nat ex, _, rfl, _, rfl, .inr (.inl ⟨r, _, _, _, rfl, rfl, SqT.of k2, atI_nat ey, _, _, rfl, al, _, rfl, iteF ⟨rfl, _, rfl⟩⟩)⟩)⟩
   ·rintro σ H' ⟨rfl, v, rfl⟩
    exact q
theorem ok_alike (T : Txt K mg) (D : Def K mg "_law_alike" (top 35) ["_law_found", "_law_due_here"]) : ∀ n, Callee P w K mg base (n+1) "_law_alike" ["_law_found", "_law_due_here"] (spAlike n)
 | 0 => alike_body T 0 _ (callee_never D 0) D fun m h => nomatch h
 | n + 1 => alike_body T (n + 1) _ (ok_alike T D n) D fun m h => by cases h; rfl
end
noncomputable def racksM (h : Hall) (es : List Int) : List Int := sortU (es.map fun e => e / h.e)
noncomputable def spPlace (K : PySem.W.Frag) (d : Hall → Int) : Sp := fun vs H Q _ => ∃ (a : Addr) (h : Hall) (x : Int), vs = [.ref a, .int x] ∧ SqT K H a (h.row.map V.int) ∧ h.Ok ∧ ∀ p, H p = none → Q (.ref p) (upd H p (.tup [.int (x / d h), .int (x % d h)]))
noncomputable def spRacks (K : PySem.W.Frag) : Sp := fun vs H Q _ => ∃ (a p : Addr) (h : Hall) (es : List Int), vs = [.ref a, .ref p] ∧ SqT K H a (h.row.map V.int) ∧ h.Ok ∧ (SqT K H p (es.map V.int) ∨ SqL K H p (es.map V.int)) ∧ es.length < 64 ∧ ∀ (l : Addr) (H' : Hp), Same H H' → H l = none → H' l = some (.lst ((racksM h es).map V.int)) → Q (.ref l) H'
section
variable {P : Program} {w : World} {K : PySem.W.Frag} {mg : Str → Option Value} {base : Heap}
theorem sc_place_in : FnScope ["hall", "caller"] ["hall", "caller"] (defScope (top 14)) := ⟨rfl, rfl, rfl, by decide +kernel, rfl, by decide +kernel, by decide +kernel⟩
theorem ok_place_in (T : Txt K mg) (D : Def K mg "place_in" (top 14) ["hall", "caller"]) : Callee P w K mg base 1 "place_in" ["hall", "caller"] (spPlace K Hall.c) := by
 refine D.ok sc_place_in (fun vs H Q E h => ?_) (fun f cdv A outer s H vs Q E hr h => ?_)
 ·obtain ⟨a, h, x, rfl, _⟩ := h
  rfl
 obtain ⟨a, h, x, rfl, hS, ok, q⟩ := h
 have b := ok.c
 refine ⟨_, (pss_one (ps_ret (pe_callB call_divmod rfl T.m_divmod boot_divmod (pa_cons (pv 1) (pa_cons (pe_ix (ix_tupK K) (pv 0) pe_int (fun _ _ => rfl)) pa_nil st_sub) st_name)))), ?_⟩
 exact ⟨_, rfl, _, rfl, a, _, _, _, rfl, rfl, hS, rfl, _, _, rfl, ⟨by lia, by lia⟩, q⟩
theorem sc_place_out : FnScope ["hall", "end"] ["hall", "end"] (defScope (top 15)) := ⟨rfl, rfl, rfl, by decide +kernel, rfl, by decide +kernel, by decide +kernel⟩
theorem ok_place_out (T : Txt K mg) (D : Def K mg "place_out" (top 15) ["hall", "end"]) : Callee P w K mg base 1 "place_out" ["hall", "end"] (spPlace K Hall.e) := by
 refine D.ok sc_place_out (fun vs H Q E h => ?_) (fun f cdv A outer s H vs Q E hr h => ?_)
 ·obtain ⟨a, h, x, rfl, _⟩ := h
  rfl
 obtain ⟨a, h, x, rfl, hS, ok, q⟩ := h
 have b := ok.e
 refine ⟨_, (pss_one (ps_ret (pe_callB call_divmod rfl T.m_divmod boot_divmod (pa_cons (pv 1) (pa_cons (pe_ix (ix_tupK K) (pv 0) pe_int (fun _ _ => rfl)) pa_nil st_sub) st_name)))), ?_⟩
 exact ⟨_, rfl, _, rfl, a, _, _, _, rfl, rfl, hS, rfl, _, _, rfl, ⟨by lia, by lia⟩, q⟩
theorem sc_racks_of : FnScope ["hall", "ends"] ["hall", "ends"] (defScope (top 16)) := ⟨rfl, rfl, rfl, by decide +kernel, rfl, by decide +kernel, by decide +kernel⟩
theorem ok_racks (T : Txt K mg) (C_place_out : Callee P w K mg base 1 "place_out" ["hall", "end"] (spPlace K Hall.e)) (D : Def K mg "racks_of" (top 16) ["hall", "ends"]) : Callee P w K mg base 2 "racks_of" ["hall", "ends"] (spRacks K) := by
 refine D.ok sc_racks_of (fun vs H Q E h => ?_) (fun f cdv A outer s H vs Q E hr h => ?_)
 ·obtain ⟨a, p, h, es, rfl, _⟩ := h
  rfl
 obtain ⟨a, p, h, es, rfl, hH, ok, hS, h64, q⟩ := h
 have hl : (es.map V.int).length = es.length := List.length_map _
 have sz : (es.map V.int).length ≤ sizeLine := by rw [hl]; exact Nat.le_of_lt (small1000 (by lia))
 have fin : ∀ (H' : Hp), Same H H' → ∀ l, H' l = none → rSetI K P w [.ref l] (upd H' l (.lst ((es.take (es.map V.int).length).map fun e => V.int (e / h.e)))) fun x H1 => rSortedS P w [x] H1 Q := fun H' s1 l hl' => by
  rw [hl, List.take_length]
  have e1 : upd H' l (.lst (es.map fun e => V.int (e / h.e))) l = some (.lst ((es.map fun e => e / h.e).map V.int)) := by rw [upd_same, List.map_map]; rfl
  have s2 := s1.trans (same_new hl' (.lst (es.map fun e => V.int (e / h.e))))
  generalize upd H' l (.lst (es.map fun e => V.int (e / h.e))) = H2 at e1 s2 ⊢
  refine ⟨l, _, rfl, SqL.of e1, by rw [List.length_map]; lia, fun l2 hl2 => ?_⟩
  refine ⟨l2, _, rfl, upd_same, by rw [List.length_map]; lia, fun l3 hl3 => ?_⟩
  exact q l3 _ ((s2.trans (same_new hl2 _)).trans (same_new hl3 _)) ((s2.trans (same_new hl2 _)).free hl3) upd_same
 rcases hS with hS | hS
 ·refine ⟨_, (pss_one (ps_ret (pe_callB (call_sortedSK P w rfl) rfl T.m_sorted boot_sorted (pa_cons (pe_callTy (call_setK K P w rfl) rfl T.m_set boot_set (pa_cons (pe_comp (own := ["end"]) (fr := [(0, "hall")]) rfl (show CompScope ["hall", "ends"] (defScope (top 16)) _ _ _ from ⟨rfl, by decide +kernel, by decide +kernel, by decide +kernel, by decide +kernel⟩) (pi_tupK K (pv 1)) (fun cl C s H ex => ⟨(pg_name (i := 0) (show (["end", "hall"] : List Str).Nodup from by decide +kernel) rfl (Or.inl rfl) (Or.inr rfl)), pif_nil, (pe_ix (ix_tupK K) (pe_fn C_place_out hr rfl (pa_cons (pv 1) (pa_cons (pv 0) pa_nil st_name) st_name)) pe_int (fun _ _ => rfl))⟩)) pa_nil st_comp)) pa_nil st_call)))), ?_⟩
  refine ⟨_, rfl, p, rfl, ⟨_, hS⟩, ?_⟩
  refine comp_tup (xs := es.map V.int) (fun i acc σ H' => Same H H' ∧ acc = (es.take i).map (fun e => V.int (e / h.e)) ∧ ∃ v, σ = [v, some (.ref a)])
   ⟨Same.refl H, rfl, none, rfl⟩ sz (fun i acc σ H' g => ?_) (fun i acc σ H' _ g => Same.seqT g.1 hS) ?_ ?_
  ·obtain ⟨_, rfl, _⟩ := g
   rw [List.length_map, List.length_take]
   lia
  ·rintro i y acc σ H' hy ⟨s1, rfl, v, rfl⟩
   rw [List.getElem?_map] at hy
   obtain ⟨e, he, rfl⟩ := Option.map_eq_some_iff.mp hy
   refine ⟨_, rfl, _, rfl, a, h, e, rfl, Same.seqT s1 hH, ok, fun r hr2 => ⟨r, _, _, _, rfl, rfl, SqT.of upd_same, rfl, s1.trans (same_new hr2 _), ?_, _, rfl⟩⟩
   rw [List.take_succ, he, List.map_append]
   rfl
  ·rintro acc σ H' ⟨s1, rfl, v, rfl⟩ l hl'
   exact fin H' s1 l hl'
 ·refine ⟨_, (pss_one (ps_ret (pe_callB (call_sortedSK P w rfl) rfl T.m_sorted boot_sorted (pa_cons (pe_callTy (call_setK K P w rfl) rfl T.m_set boot_set (pa_cons (pe_comp (own := ["end"]) (fr := [(0, "hall")]) rfl (show CompScope ["hall", "ends"] (defScope (top 16)) _ _ _ from ⟨rfl, by decide +kernel, by decide +kernel, by decide +kernel, by decide +kernel⟩) (pi_listK K (pv 1)) (fun cl C s H ex => ⟨(pg_name (i := 0) (show (["end", "hall"] : List Str).Nodup from by decide +kernel) rfl (Or.inl rfl) (Or.inr rfl)), pif_nil, (pe_ix (ix_tupK K) (pe_fn C_place_out hr rfl (pa_cons (pv 1) (pa_cons (pv 0) pa_nil st_name) st_name)) pe_int (fun _ _ => rfl))⟩)) pa_nil st_comp)) pa_nil st_call)))), ?_⟩
  refine ⟨_, rfl, p, rfl, ⟨_, hS⟩, ?_⟩
  refine comp_list (xs := es.map V.int) (fun i acc σ H' => Same H H' ∧ acc = (es.take i).map (fun e => V.int (e / h.e)) ∧ ∃ v, σ = [v, some (.ref a)])
   ⟨Same.refl H, rfl, none, rfl⟩ sz (fun i acc σ H' g => ?_) (fun i acc σ H' _ g => g.1.seq hS) ?_ ?_
  ·obtain ⟨_, rfl, _⟩ := g
   rw [List.length_map, List.length_take]
   lia
  ·rintro i y acc σ H' hy ⟨s1, rfl, v, rfl⟩
   rw [List.getElem?_map] at hy
   obtain ⟨e, he, rfl⟩ := Option.map_eq_some_iff.mp hy
   refine ⟨_, rfl, _, rfl, a, h, e, rfl, Same.seqT s1 hH, ok, fun r hr2 => ⟨r, _, _, _, rfl, rfl, SqT.of upd_same, rfl, s1.trans (same_new hr2 _), ?_, _, rfl⟩⟩
   rw [List.take_succ, he, List.map_append]
   rfl
  ·rintro acc σ H' ⟨s1, rfl, v, rfl⟩ l hl'
   exact fin H' s1 l hl'
end
theorem racks_len (h : Hall) (es : List Int) : (racksM h es).length ≤ es.length := by
 have := sortU_len (es.map fun e => e / h.e)
 rw [List.length_map] at this
 exact this
inductive PartIs (K : PySem.W.Frag) (H : Hp) : V → Prop where
 | int (i : Int) : PartIs K H (.int i)
 | odd {x : V} {t : Value} {b1 b2 : Bool} (ni : ∀ i, x ≠ .int i) (ty : TyOf K H x t) (h1 : PySem.W.kitOne K t (.type "int") = some b1) (h2 : PySem.W.kitOne K t (.type "bool") = some b2) (hb : b1 = false ∨ b2 = true) : PartIs K H x
noncomputable def wholeIn (x : V) (lo hi : Int) : Bool := match x with
 | .int i => decide (lo ≤ i) && decide (i ≤ hi)
 | _ => false
noncomputable def isInt : V → Bool
 | .int _ => true
 | _ => false
noncomputable def spIsWhole (K : PySem.W.Frag) : Sp := fun vs H Q _ => ∃ (x : V) (lo hi : Int), vs = [x, .int lo, .int hi] ∧ PartIs K H x ∧ Q (.bl (wholeIn x lo hi)) H
noncomputable def spWhole (K : PySem.W.Frag) : Sp := fun vs H Q _ => ∃ x : V, vs = [x] ∧ PartIs K H x ∧ Q (.bl (isInt x)) H
section
variable {P : Program} {w : World} {K : PySem.W.Frag} {mg : Str → Option Value} {base : Heap}
theorem sc_is_number : FnScope ["thing"] ["thing"] (defScope (top 11)) := ⟨rfl, rfl, rfl, by decide +kernel, rfl, by decide +kernel, by decide +kernel⟩
theorem ok_is_number (T : Txt K mg) (D : Def K mg "is_number" (top 11) ["thing"]) : Callee P w K mg base 1 "is_number" ["thing"] (spWhole K) := by
 refine D.ok sc_is_number (fun vs H Q E h => ?_) (fun f cdv A outer s H vs Q E hr h => ?_)
 ·obtain ⟨x, rfl, _⟩ := h
  rfl
 obtain ⟨x, rfl, hp, q⟩ := h
 refine ⟨_, (pss_one (ps_ret (pe_and (pe_callB (call_isinstK K) rfl T.m_isinstance boot_isinstance (pa_cons (pv 0) (pa_cons (pe_bltn (v := .ty "int") rfl T.m_int boot_int rfl) pa_nil st_name) st_name)) (pe_one (pe_not (pe_callB (call_isinstK K) rfl T.m_isinstance boot_isinstance (pa_cons (pv 0) (pa_cons (pe_bltn (v := .ty "bool") rfl T.m_bool boot_bool rfl) pa_nil st_name) st_name))))))), ?_⟩
 cases hp with
 | int i =>
  refine ⟨_, rfl, _, _, _, true, rfl, .int i, kit_int_int, _, rfl, iteT ?_⟩
  exact ⟨_, rfl, _, _, _, false, rfl, .int i, kit_int_bool, _, rfl, q⟩
 | @odd _ t b1 b2 ni ty h1 h2 hb =>
  have e : isInt x = false := by
   cases x with
   | int i => exact absurd rfl (ni i)
   | _ => rfl
  rw [e] at q
  refine ⟨_, rfl, _, _, _, b1, rfl, ty, h1, _, rfl, ?_⟩
  cases b1 with
  | false => exact iteF q
  | true =>
   have hb2 : b2 = true := hb.elim (fun z => nomatch z) id
   subst hb2
   exact iteT ⟨_, rfl, _, _, _, true, rfl, ty, h2, _, rfl, q⟩
theorem sc_is_whole : FnScope ["thing", "least", "most"] ["thing", "least", "most"] (defScope (top 12)) := ⟨rfl, rfl, rfl, by decide +kernel, rfl, by decide +kernel, by decide +kernel⟩
theorem ok_is_whole (T : Txt K mg) (C_is_number : Callee P w K mg base 1 "is_number" ["thing"] (spWhole K)) (D : Def K mg "is_whole" (top 12) ["thing", "least", "most"]) : Callee P w K mg base 2 "is_whole" ["thing", "least", "most"] (spIsWhole K) := by
 refine D.ok sc_is_whole (fun vs H Q E h => ?_) (fun f cdv A outer s H vs Q E hr h => ?_)
 ·obtain ⟨x, lo, hi, rfl, _⟩ := h
  rfl
 obtain ⟨x, lo, hi, rfl, hp, q⟩ := h
 refine ⟨_, (pss_one (ps_ret (pe_and (pe_fn C_is_number hr rfl (pa_cons (pv 0) pa_nil st_name)) (pe_one (pe_chain op_le op_le (pv 1) (pv 0) (pv 2)))))), ?_⟩
 refine ⟨_, rfl, x, rfl, hp, _, rfl, ?_⟩
 cases hp with
 | int i =>
  refine iteT ?_
  refine ⟨_, rfl, _, rfl, _, _, rfl, rfl, _, rfl, ?_⟩
  refine ite2 (fun c => ?_) (fun c => ?_)
  ·refine ⟨_, rfl, _, _, rfl, rfl, ?_⟩
   have e : wholeIn (.int i) lo hi = decide (i ≤ hi) := by show (decide (lo ≤ i) && decide (i ≤ hi)) = _; rw [c, Bool.true_and]
   rw [e] at q
   exact q
  ·have e : wholeIn (.int i) lo hi = false := by show (decide (lo ≤ i) && decide (i ≤ hi)) = _; rw [Bool.eq_false_iff.mpr c, Bool.false_and]
   rw [e] at q
   exact q
 | @odd _ t b1 b2 ni ty h1 h2 hb =>
  have e0 : isInt x = false := by
   cases x with
   | int i => exact absurd rfl (ni i)
   | _ => rfl
  have e : wholeIn x lo hi = false := by
   cases x with
   | int i => exact absurd rfl (ni i)
   | _ => rfl
  rw [e] at q
  rw [e0]
  exact iteF q
end
noncomputable def IsMine (as : List Addr) (ks : List Call) (c : Int) (v : V) : Prop := (v = .non ∧ ∀ k ∈ ks, k.c ≠ c) ∨ ∃ (j : Nat) (a : Addr) (k : Call), as[j]? = some a ∧ ks[j]? = some k ∧ k.c = c ∧ v = .ref a
noncomputable def spCallOf (K : PySem.W.Frag) : Sp := fun vs H Q _ => ∃ (l : Addr) (x : V) (as : List Addr) (ks : List Call), vs = [.ref l, x] ∧ SqL K H l (as.map V.ref) ∧ CallsAt H as ks ∧ PartIs K H x ∧
 ((isInt x = false ∧ Q .non H) ∨ ∃ c, x = .int c ∧ ∀ v, IsMine as ks c v → Q v H)
section
variable {P : Program} {w : World} {K : PySem.W.Frag} {mg : Str → Option Value} {base : Heap}
theorem sc_call_of : FnScope ["calls", "caller", "call"] ["calls", "caller"] (defScope (top 22)) := ⟨rfl, rfl, rfl, by decide +kernel, rfl, by decide +kernel, by decide +kernel⟩
theorem ok_call_of (T : Txt K mg) (C_is_number : Callee P w K mg base 1 "is_number" ["thing"] (spWhole K)) (D : Def K mg "call_of" (top 22) ["calls", "caller"]) : Callee P w K mg base 2 "call_of" ["calls", "caller"] (spCallOf K) := by
 refine D.ok sc_call_of (fun vs H Q E h => ?_) (fun f cdv A outer s H vs Q E hr h => ?_)
 ·obtain ⟨l, x, as, ks, rfl, _⟩ := h
  rfl
 obtain ⟨l, x, as, ks, rfl, hL, hC, hp, q⟩ := h
 refine ⟨_, (pss_cons (ps_if (pt_not (pt_truK K (pe_fn C_is_number hr rfl (pa_cons (pv 1) pa_nil st_name)) (fun _ => rfl))) (pss_one (ps_ret pe_non)) pss_nil)
  (pss_cons (ps_for PassesOwn.never rfl (pi_listK K (pv 0)) (pg_name (i := 2) sc_call_of.nd rfl (Or.inl rfl))
  (pss_one (ps_if (pt_cmpR op_eq (pe_ix (ix_tupK K) (pv 2) pe_int (fun _ _ => rfl)) (pv 1) (nomark _)) (pss_one (ps_ret (pv 2))) pss_nil)))
  (pss_one (ps_ret pe_non)))), ?_⟩
 refine ⟨_, rfl, x, rfl, hp, _, rfl, ?_⟩
 rcases q with ⟨hx, q⟩ | ⟨c, rfl, q⟩
 ·rw [hx]
  exact iteT q
 refine iteF ?_
 have la := Paired.length hC
 refine ⟨_, rfl, l, rfl, ⟨_, hL⟩, ?_⟩
 refine for_list (xs := as.map V.ref) (fun i σ H' => H' = H ∧ (∀ (j : Nat) k, j < i → ks[j]? = some k → k.c ≠ c) ∧ ∃ v, σ = [some (.ref l), some (.int c), v])
  ⟨rfl, (fun j k hj => absurd hj (Nat.not_lt_zero _)), none, rfl⟩ (fun i σ H' _ g => g.1 ▸ hL) ?_ ?_
 ·rintro i x σ H' hx ⟨rfl, hno, v, rfl⟩
  rw [List.getElem?_map] at hx
  obtain ⟨a, ha, rfl⟩ := Option.map_eq_some_iff.mp hx
  obtain ⟨k, hk, ce, e1, e2⟩ := paired_at hC i a ha
  refine ⟨_, rfl, a, _, _, _, rfl, rfl, SqT.of e2, rfl, _, rfl, rfl, _, rfl, ?_⟩
  refine ite2 (fun cc => ?_) (fun cc => ?_)
  ·have cc' : k.c = c := by simpa using cc
   exact ⟨_, rfl, q _ (.inr ⟨i, a, k, ha, hk, cc', rfl⟩)⟩
  ·have cc' : k.c ≠ c := by simpa using cc
   refine ⟨rfl, fun j k' hj hk' => ?_, _, rfl⟩
   by_cases z : j = i
   ·subst z
    rw [hk] at hk'
    cases hk'
    exact cc'
   ·exact hno j k' (by lia) hk'
 ·rintro σ H' ⟨rfl, hno, v, rfl⟩
  refine q _ (.inl ⟨rfl, fun k hk => ?_⟩)
  obtain ⟨j, hj⟩ := List.mem_iff_getElem?.mp hk
  have := (List.getElem?_eq_some_iff.mp hj).1
  exact hno j k (by rw [List.length_map]; lia) hj
end
structure KindOk (K : PySem.W.Frag) (C CH : Addr) (cs : List Addr) (bs : List Bool) (j : Nat) : Prop where
 x : ExcX K C
 hall : PySem.W.kitOne K (.ref C) (.ref CH) = some true
 val : PySem.W.kitOne K (.ref C) (.type "ValueError") = some true
 each : Paired (fun D b => PySem.W.kitOne K (.ref C) (.ref D) = some b) cs bs
 one : bs.count true = 1
 at_ : bs[j]? = some true
 no : ∀ m < j, bs[m]? = some (!true)
 few : j ≤ 1000
noncomputable def spKind (K : PySem.W.Frag) (CH : Addr) (cs : List Addr) : Sp := fun vs H Q _ => ∃ (ea C : Addr) (bs : List Bool) (j : Nat), vs = [.ref ea] ∧ H ea = some (ExcO ea C) ∧ KindOk K C CH cs bs j ∧ ∀ H', Same H H' → Q (.int (j : Nat)) H'
section
variable {P : Program} {w : World} {K : PySem.W.Frag} {mg : Str → Option Value} {base : Heap} {C_HallError C_NoHall C_NoCalls C_NoLine C_NoRule C_Idle C_Busy C_Engaged C_NoMove : Addr}
theorem sc__law_kind : FnScope ["_law_e", "_law_some"] ["_law_e"] (defScope (top 36)) := ⟨rfl, rfl, rfl, by decide +kernel, rfl, by decide +kernel, by decide +kernel⟩
theorem ok_kind (T : Txt K mg) (Z : TxtC K mg C_HallError C_NoHall C_NoCalls C_NoLine C_NoRule C_Idle C_Busy C_Engaged C_NoMove) (D : Def K mg "_law_kind" (top 36) ["_law_e"]) : Callee P w K mg base 1 "_law_kind" ["_law_e"] (spKind K C_HallError [C_NoLine, C_Busy, C_Engaged, C_Idle, C_NoRule, C_NoMove, C_NoHall, C_NoCalls]) := by
 refine D.ok sc__law_kind (fun vs H Q E h => ?_) (fun f cdv A outer s H vs Q E hr h => ?_)
 ·obtain ⟨ea, C, bs, j, rfl, _⟩ := h
  rfl
 obtain ⟨ea, C, bs, j, rfl, he, ko, q⟩ := h
 obtain ⟨b0, b1, b2, b3, b4, b5, b6, b7, rfl, k0, k1, k2, k3, k4, k5, k6, k7⟩ : ∃ b0 b1 b2 b3 b4 b5 b6 b7, bs = [b0, b1, b2, b3, b4, b5, b6, b7] ∧ PySem.W.kitOne K (.ref C) (.ref C_NoLine) = some b0 ∧ PySem.W.kitOne K (.ref C) (.ref C_Busy) = some b1 ∧ PySem.W.kitOne K (.ref C) (.ref C_Engaged) = some b2 ∧ PySem.W.kitOne K (.ref C) (.ref C_Idle) = some b3 ∧
   PySem.W.kitOne K (.ref C) (.ref C_NoRule) = some b4 ∧ PySem.W.kitOne K (.ref C) (.ref C_NoMove) = some b5 ∧ PySem.W.kitOne K (.ref C) (.ref C_NoHall) = some b6 ∧ PySem.W.kitOne K (.ref C) (.ref C_NoCalls) = some b7 := by
  have := ko.each
  match bs, this with
  | _, .cons a0 (.cons a1 (.cons a2 (.cons a3 (.cons a4 (.cons a5 (.cons a6 (.cons a7 .nil))))))) => exact ⟨_, _, _, _, _, _, _, _, rfl, a0, a1, a2, a3, a4, a5, a6, a7⟩
 have rr : ∀ {D : Addr} (u : Value), RelV (.ref D) u → u = .ref D := fun {D} u h => h
 refine ⟨_, (pss_cons (ps_set (i := 1) sc__law_kind.nd rfl (Or.inl rfl) (pe_lst (pa_cons (pe_callB (call_isinstE K) rfl T.m_isinstance boot_isinstance (pa_cons (pv 0) (pa_cons (pe_glob (v := .ref C_NoLine) rfl Z.mg_NoLine rfl) pa_nil st_name) st_name)) (pa_cons (pe_callB (call_isinstE K) rfl T.m_isinstance boot_isinstance (pa_cons (pv 0) (pa_cons (pe_glob (v := .ref C_Busy) rfl Z.mg_Busy rfl) pa_nil st_name) st_name)) (pa_cons (pe_callB (call_isinstE K) rfl T.m_isinstance boot_isinstance (pa_cons (pv 0) (pa_cons (pe_glob (v := .ref C_Engaged) rfl Z.mg_Engaged rfl) pa_nil st_name) st_name)) pa_nil st_call) st_call) st_call)))
  (pss_cons (ps_set (i := 1) sc__law_kind.nd rfl (Or.inl rfl) (pe_op op_cat (pv 1) (pe_lst (pa_cons (pe_callB (call_isinstE K) rfl T.m_isinstance boot_isinstance (pa_cons (pv 0) (pa_cons (pe_glob (v := .ref C_Idle) rfl Z.mg_Idle rfl) pa_nil st_name) st_name)) (pa_cons (pe_callB (call_isinstE K) rfl T.m_isinstance boot_isinstance (pa_cons (pv 0) (pa_cons (pe_glob (v := .ref C_NoRule) rfl Z.mg_NoRule rfl) pa_nil st_name) st_name)) (pa_cons (pe_callB (call_isinstE K) rfl T.m_isinstance boot_isinstance (pa_cons (pv 0) (pa_cons (pe_glob (v := .ref C_NoMove) rfl Z.mg_NoMove rfl) pa_nil st_name) st_name)) pa_nil st_call) st_call) st_call))))
  (pss_cons (ps_set (i := 1) sc__law_kind.nd rfl (Or.inl rfl) (pe_op op_cat (pv 1) (pe_lst (pa_cons (pe_callB (call_isinstE K) rfl T.m_isinstance boot_isinstance (pa_cons (pv 0) (pa_cons (pe_glob (v := .ref C_NoHall) rfl Z.mg_NoHall rfl) pa_nil st_name) st_name)) (pa_cons (pe_callB (call_isinstE K) rfl T.m_isinstance boot_isinstance (pa_cons (pv 0) (pa_cons (pe_glob (v := .ref C_NoCalls) rfl Z.mg_NoCalls rfl) pa_nil st_name) st_name)) pa_nil st_call) st_call))))
  (pss_cons (ps_if (PW.pt (pw_or (pt_not (pt_truK K (pe_callB (call_isinstE K) rfl T.m_isinstance boot_isinstance (pa_cons (pv 0) (pa_cons (pe_glob (v := .ref C_HallError) rfl Z.mg_HallError rfl) pa_nil st_name) st_name)) (fun _ => rfl))) (pw_or (pt_not (pt_truK K (pe_callB (call_isinstE K) rfl T.m_isinstance boot_isinstance (pa_cons (pv 0) (pa_cons (pe_bltn (v := .ty "ValueError") rfl T.m_ValueError boot_ValueError rfl) pa_nil st_name) st_name)) (fun _ => rfl))) (pw_or1 (pt_cmpR op_ne (pe_bmK K PySem.F.plainAttrs_list PySem.F.slot_list_count PySem.F.type_list_count mt_countB (pv 1) (pa_cons pe_bl pa_nil st_const)) pe_int (nomark _)))))) (pss_one (ps_ret (pe_un un_neg pe_int))) pss_nil)
  (pss_one (ps_ret (pe_bmK K PySem.F.plainAttrs_list PySem.F.slot_list_index PySem.F.type_list_index mt_indexB (pv 1) (pa_cons pe_bl pa_nil st_const)))))))), ?_⟩
 refine ⟨_, rfl, ea, C, _, _, b0, rfl, rr, he, ko.x, k0, ?_⟩
 refine ⟨_, rfl, ea, C, _, _, b1, rfl, rr, he, ko.x, k1, ?_⟩
 refine ⟨_, rfl, ea, C, _, _, b2, rfl, rr, he, ko.x, k2, ?_⟩
 refine ⟨(by show 3 ≤ sizeLine; decide), fun p1 hp1 => ?_⟩
 have s1 := same_new hp1 (.lst [.bl b0, .bl b1, .bl b2])
 have e1 := upd_same (H := H) (a := p1) (o := .lst [.bl b0, .bl b1, .bl b2])
 generalize upd H p1 (.lst [.bl b0, .bl b1, .bl b2]) = H1 at s1 e1 ⊢
 have he1 := s1 _ _ he
 refine ⟨_, rfl, ?_⟩
 refine ⟨_, rfl, ea, C, _, _, b3, rfl, rr, he1, ko.x, k3, ?_⟩
 refine ⟨_, rfl, ea, C, _, _, b4, rfl, rr, he1, ko.x, k4, ?_⟩
 refine ⟨_, rfl, ea, C, _, _, b5, rfl, rr, he1, ko.x, k5, ?_⟩
 refine ⟨(by show 3 ≤ sizeLine; decide), fun p2 hp2 => ?_⟩
 have s2 := same_new hp2 (.lst [.bl b3, .bl b4, .bl b5])
 have e2 := upd_same (H := H1) (a := p2) (o := .lst [.bl b3, .bl b4, .bl b5])
 generalize upd H1 p2 (.lst [.bl b3, .bl b4, .bl b5]) = H2 at s2 e2 ⊢
 refine ⟨p1, p2, _, _, rfl, rfl, s2 _ _ e1, e2, (by show 6 ≤ sizeLine; decide), fun p3 hp3 => ?_⟩
 have s3 := same_new hp3 (.lst ([.bl b0, .bl b1, .bl b2] ++ [.bl b3, .bl b4, .bl b5]))
 have e3 := upd_same (H := H2) (a := p3) (o := .lst ([.bl b0, .bl b1, .bl b2] ++ [.bl b3, .bl b4, .bl b5]))
 generalize upd H2 p3 (.lst ([.bl b0, .bl b1, .bl b2] ++ [.bl b3, .bl b4, .bl b5])) = H3 at s3 e3 ⊢
 have he3 := s3 _ _ (s2 _ _ he1)
 refine ⟨_, rfl, ?_⟩
 refine ⟨_, rfl, ea, C, _, _, b6, rfl, rr, he3, ko.x, k6, ?_⟩
 refine ⟨_, rfl, ea, C, _, _, b7, rfl, rr, he3, ko.x, k7, ?_⟩
 refine ⟨(by show 2 ≤ sizeLine; decide), fun p4 hp4 => ?_⟩
 have s4 := same_new hp4 (.lst [.bl b6, .bl b7])
 have e4 := upd_same (H := H3) (a := p4) (o := .lst [.bl b6, .bl b7])
 generalize upd H3 p4 (.lst [.bl b6, .bl b7]) = H4 at s4 e4 ⊢
 refine ⟨p3, p4, _, _, rfl, rfl, s4 _ _ e3, e4, (by show 8 ≤ sizeLine; decide), fun p5 hp5 => ?_⟩
 have s5 := same_new hp5 (.lst (([.bl b0, .bl b1, .bl b2] ++ [.bl b3, .bl b4, .bl b5]) ++ [.bl b6, .bl b7]))
 have e5 := upd_same (H := H4) (a := p5) (o := .lst (([.bl b0, .bl b1, .bl b2] ++ [.bl b3, .bl b4, .bl b5]) ++ [.bl b6, .bl b7]))
 generalize upd H4 p5 (.lst (([.bl b0, .bl b1, .bl b2] ++ [.bl b3, .bl b4, .bl b5]) ++ [.bl b6, .bl b7])) = H5 at s5 e5 ⊢
 have he5 := s5 _ _ (s4 _ _ he3)
 have s15 := s1.trans (s2.trans (s3.trans (s4.trans s5)))
 have e5' : H5 p5 = some (.lst ([b0, b1, b2, b3, b4, b5, b6, b7].map V.bl)) := e5
 refine ⟨_, rfl, ea, C, _, _, true, rfl, rr, he5, ko.x, ko.hall, _, rfl, iteF ?_⟩
 refine ⟨_, rfl, ea, C, _, _, true, rfl, (fun u h => h), he5, ko.x, ko.val, _, rfl, iteF ?_⟩
 refine ⟨_, rfl, .inl ⟨rfl, _, SqL.of e5'⟩, p5, true, _, rfl, rfl, e5', rfl, _, rfl, iteN (by rw [ko.one]; decide) ?_⟩
 exact ⟨_, rfl, .inl ⟨rfl, _, SqL.of e5'⟩, p5, true, _, j, rfl, rfl, e5', ko.at_, ko.no, ko.few, q _ s15⟩
end
theorem paired_take {α β : Type} {R : α → β → Prop} : ∀ {as : List α} {ds : List β} (i : Nat), Paired R as ds → Paired R (as.take i) (ds.take i)
 | _, _, 0, _ => .nil
 | _, _, i + 1, .nil => .nil
 | _, _, i + 1, .cons h t => .cons h (paired_take i t)
theorem paired_app {α β : Type} {R : α → β → Prop} : ∀ {as as' : List α} {ds ds' : List β}, Paired R as ds → Paired R as' ds' → Paired R (as ++ as') (ds ++ ds')
 | _, _, _, _, .nil, h => h
 | _, _, _, _, .cons q t, h => .cons q (paired_app t h)
theorem paired_rev {α β : Type} {R : α → β → Prop} : ∀ {as : List α} {ds : List β}, Paired R as ds → Paired R as.reverse ds.reverse
 | _, _, .nil => .nil
 | _, _, .cons h t => by
  rw [List.reverse_cons, List.reverse_cons]
  exact paired_app (paired_rev t) (.cons h .nil)
noncomputable def dB (p : Prop) : Bool := @decide p (Classical.propDecidable p)
theorem dB_iff {p : Prop} : dB p = true ↔ p := by unfold dB; exact @decide_eq_true_iff p (Classical.propDecidable p)
theorem dB_no {p : Prop} (h : ¬ p) : dB p = false := by cases q : dB p with
 | false => rfl
 | true => exact absurd (dB_iff.mp q) h
theorem dB_yes {p : Prop} (h : p) : dB p = true := dB_iff.mpr h
theorem dB_of {p : Prop} {b : Bool} (h : b = true ↔ p) : b = dB p := by
 rw [Bool.eq_iff_iff, dB_iff]; exact h
theorem cut1 (xs : List V) : cutV xs (some 1) none = xs.tail := by
 unfold cutV
 rw [show HT.sIx xs.length 0 (some 1) = min 1 xs.length from HT.sIx_nat _ 0 1, HT.sIx_none]
 cases xs with
 | nil => rfl
 | cons x t =>
  have e : min 1 (x :: t).length = 1 := by rw [List.length_cons]; lia
  rw [e, List.length_cons, Nat.add_sub_cancel, List.drop_succ_cons, List.drop_zero, List.take_length]
  rfl
noncomputable def linesD (h : Hall) (k : Call) : List (List Int) := [0, k.c / h.c, k.k] :: (racksM h k.es).map fun r => [1, k.k, r]
noncomputable def Meet (h : Hall) (k k' : Call) : Prop := k.c / h.c = k'.c / h.c ∨ ∃ e ∈ k.es, e / h.e ∈ k'.es.map fun e => e / h.e
structure Fit (h : Hall) (k k' : Call) : Prop where
 c : k.c < k'.c
 es : ∀ e ∈ k.es, ¬ e ∈ k'.es
 l : ¬ (k.k = k'.k ∧ Meet h k k')
structure RightM (h : Hall) (ks : List Call) : Prop where
 c : (ks.map Call.c).Pairwise (· < ·)
 es : (ks.flatMap Call.es).Nodup
 l : (ks.flatMap (linesD h)).Nodup
theorem nodup_flat {α β : Type} (f : α → List β) : ∀ ks : List α, (ks.flatMap f).Nodup ↔ (∀ k ∈ ks, (f k).Nodup) ∧ ks.Pairwise fun a b => ∀ x ∈ f a, ¬ x ∈ f b
 | [] => by simp
 | k :: t => by
  rw [List.flatMap_cons, List.nodup_append, nodup_flat f t, List.pairwise_cons]
  constructor
  ·rintro ⟨h1, ⟨h2, h3⟩, h4⟩
   refine ⟨fun k' hk' => ?_, fun b hb x hx hx' => h4 x hx x (List.mem_flatMap.mpr ⟨b, hb, hx'⟩) rfl, h3⟩
   rcases List.mem_cons.mp hk' with rfl | q
   ·exact h1
   ·exact h2 k' q
  ·rintro ⟨h1, h2, h3⟩
   refine ⟨h1 k List.mem_cons_self, ⟨fun k' hk' => h1 k' (List.mem_cons_of_mem _ hk'), h3⟩, fun x hx y hy e => ?_⟩
   obtain ⟨b, hb, hy'⟩ := List.mem_flatMap.mp hy
   exact h2 b hb x hx (e ▸ hy')
theorem nodup_map_inj {α β : Type} {f : α → β} (hf : ∀ a b, f a = f b → a = b) {l : List α} (h : l.Nodup) : (l.map f).Nodup := by
 unfold List.Nodup
 rw [List.pairwise_map]
 exact h.imp fun {a b} q e => q (hf a b e)
theorem mem_linesD {h : Hall} {k : Call} {d : List Int} : d ∈ linesD h k ↔ d = [0, k.c / h.c, k.k] ∨ ∃ e ∈ k.es, d = [1, k.k, e / h.e] := by
 unfold linesD racksM
 rw [List.mem_cons, List.mem_map]
 constructor
 ·rintro (z | ⟨r, hr, rfl⟩)
  ·exact .inl z
  ·rw [mem_sortU, List.mem_map] at hr
   obtain ⟨e, he, rfl⟩ := hr
   exact .inr ⟨e, he, rfl⟩
 ·rintro (z | ⟨e, he, rfl⟩)
  ·exact .inl z
  ·exact .inr ⟨_, (mem_sortU _ _).mpr (List.mem_map_of_mem he), rfl⟩
theorem linesD_nodup (h : Hall) (k : Call) : (linesD h k).Nodup := by
 unfold linesD
 rw [List.nodup_cons]
 refine ⟨fun z => ?_, nodup_map_inj (fun a b e => by injection e with _ e; injection e with _ e; injection e) (nodup_of_rise (rise_sortU _))⟩
 obtain ⟨r, _, e⟩ := List.mem_map.mp z
 injection e with e _
 exact absurd e (by decide)
theorem lines_off {h : Hall} {k k' : Call} : (∀ d ∈ linesD h k, ¬ d ∈ linesD h k') ↔ ¬ (k.k = k'.k ∧ Meet h k k') := by
 constructor
 ·rintro g ⟨e, z | ⟨e1, h1, h2⟩⟩
  ·exact g _ (mem_linesD.mpr (.inl rfl)) (mem_linesD.mpr (.inl (by rw [e, z])))
  ·obtain ⟨e2, h3, h4⟩ := List.mem_map.mp h2
   exact g _ (mem_linesD.mpr (.inr ⟨e1, h1, rfl⟩)) (mem_linesD.mpr (.inr ⟨e2, h3, by rw [e, h4]⟩))
 ·intro g d hd hd'
  rcases mem_linesD.mp hd with rfl | ⟨e1, h1, rfl⟩
  ·rcases mem_linesD.mp hd' with z | ⟨e2, h2, z⟩
   ·injection z with _ z
    injection z with z1 z
    injection z with z2 _
    exact g ⟨z2, .inl z1⟩
   ·injection z with z _
    exact absurd z (by decide)
  ·rcases mem_linesD.mp hd' with z | ⟨e2, h2, z⟩
   ·injection z with z _
    exact absurd z (by decide)
   ·injection z with _ z
    injection z with z1 z
    injection z with z2 _
    exact g ⟨z1, .inr ⟨e1, h1, List.mem_map.mpr ⟨e2, h2, z2.symm⟩⟩⟩
theorem right_iff {h : Hall} {ks : List Call} (hin : ∀ k ∈ ks, k.es.Nodup) : RightM h ks ↔ ks.Pairwise (Fit h) := by
 constructor
 ·rintro ⟨h1, h2, h3⟩
  rw [List.pairwise_map] at h1
  rw [nodup_flat] at h2 h3
  exact ((h1.and h2.2).and h3.2).imp fun {a b} q => ⟨q.1.1, q.1.2, lines_off.mp q.2⟩
 ·intro g
  refine ⟨?_, (nodup_flat _ _).mpr ⟨hin, g.imp fun {a b} q => q.es⟩, (nodup_flat _ _).mpr ⟨fun k _ => linesD_nodup h k, g.imp fun {a b} q => lines_off.mpr q.l⟩⟩
  rw [List.pairwise_map]
  exact g.imp fun {a b} q => q.c
theorem sortU_full {ns : List Int} : (sortU ns).length = ns.length ↔ ns.Nodup := by
 constructor
 ·intro z
  exact (perm_of_sub (sortU ns) ns (nodup_of_rise (rise_sortU ns)) (fun x hx => (mem_sortU x ns).mp hx) (by lia)).nodup_iff.mp (nodup_of_rise (rise_sortU ns))
 ·intro z
  have h1 := sortU_len ns
  exact (perm_of_sub ns (sortU ns) z (fun x hx => (mem_sortU x ns).mpr hx) h1).length_eq.symm
noncomputable def spUnlike (K : PySem.W.Frag) : Sp := fun vs H Q _ => ∃ p : Addr, vs = [.ref p] ∧
  ((∃ ns : List Int, SqL K H p (ns.map V.int) ∧ ns.length < 4000 ∧ ∀ H', Same H H' → Q (.bl (dB ns.Nodup)) H') ∨
   (∃ (as : List Addr) (ds : List (List Int)), SqL K H p (as.map V.ref) ∧ DataAt K H as ds ∧ ds.length ≤ 1000 ∧ ∀ H', Same H H' → Q (.bl (dB ds.Nodup)) H'))
noncomputable def BagD (H : Hp) (l : Addr) (ds : List (List Int)) : Prop := ∃ as : List Addr, H l = some (.lst (as.map V.ref)) ∧ Paired (fun a d => H a = some (.tup (d.map V.int))) as ds
noncomputable def spHLines (K : PySem.W.Frag) : Sp := fun vs H Q _ => ∃ (a p : Addr) (h : Hall) (k : Call), vs = [.ref a, .ref p] ∧ SqT K H a (h.row.map V.int) ∧ h.Ok ∧ CallAt H p k ∧ k.In h ∧
 ∀ (l : Addr) (H' : Hp), Same H H' → H l = none → BagD H' l (linesD h k) → Q (.ref l) H'
noncomputable def spRisesL : Sp := fun vs H Q _ => ∃ (a : Addr) (ns : List Int), vs = [.ref a] ∧ H a = some (.lst (ns.map V.int)) ∧ ns.length ≤ 200 ∧ ∀ H', Same H H' → Q (.bl (dB (ns.Pairwise (· < ·)))) H'
noncomputable def spIsRight (K : PySem.W.Frag) : Sp := fun vs H Q _ => ∃ (a b : Addr) (h : Hall) (as : List Addr) (ks : List Call), vs = [.ref a, .ref b] ∧ SqT K H a (h.row.map V.int) ∧ h.Ok ∧ SqL K H b (as.map V.ref) ∧ CallsAt H as ks ∧ (∀ k ∈ ks, k.In h) ∧ ks.length ≤ 63 ∧
 ∀ H', Same H H' → Q (.bl (dB (ks.Pairwise (Fit h)))) H'
theorem zip_rises : ∀ ns : List Int, (ns.zip ns.tail).all (id ∘ fun p => decide (p.1 < p.2)) = true ↔ ns.Pairwise (· < ·)
 | [] => by simp
 | [a] => by simp
 | a :: b :: t => by
  have ih := zip_rises (b :: t)
  rw [List.tail_cons] at ih ⊢
  rw [List.zip_cons_cons, List.all_cons, Bool.and_eq_true, List.pairwise_cons, ih]
  constructor
  ·rintro ⟨h1, h2⟩
   have h1' : a < b := of_decide_eq_true h1
   refine ⟨fun x hx => ?_, h2⟩
   rcases List.mem_cons.mp hx with rfl | q
   ·exact h1'
   ·exact Int.lt_trans h1' ((List.pairwise_cons.mp h2).1 x q)
  ·rintro ⟨h1, h2⟩
   exact ⟨decide_eq_true (h1 b List.mem_cons_self), h2⟩
theorem flat_len {α β : Type} (n : Nat) (f : α → List β) : ∀ (ks : List α), (∀ k ∈ ks, (f k).length ≤ n) → ∀ i, ((ks.take i).flatMap f).length ≤ n * i
 | [], _, i => by simp
 | k :: t, h, 0 => by simp
 | k :: t, h, i + 1 => by
  rw [List.take_succ_cons, List.flatMap_cons, List.length_append]
  have h1 := h k List.mem_cons_self
  have h2 := flat_len n f t (fun k' hk' => h k' (List.mem_cons_of_mem _ hk')) i
  rw [Nat.mul_add]
  lia
theorem BagD.same {H H' : Hp} {l : Addr} {ds : List (List Int)} (s : Same H H') (h : BagD H l ds) : BagD H' l ds := by
 obtain ⟨as, e1, e2⟩ := h
 exact ⟨as, s _ _ e1, paired_mem e2 fun a d _ e => s _ _ e⟩
theorem BagD.push {H : Hp} {l t : Addr} {as : List Addr} {ds : List (List Int)} {d : List Int} (b1 : H l = some (.lst (as.map V.ref))) (b2 : Paired (fun a d => H a = some (.tup (d.map V.int))) as ds) (ht : H t = none) :
  BagD (upd (upd H t (.tup (d.map V.int))) l (.lst (as.map V.ref ++ [.ref t]))) l (ds ++ [d]) := by
 have htl : t ≠ l := fun z => by rw [z, b1] at ht; cases ht
 have s1 := same_new ht (.tup (d.map V.int))
 refine ⟨as ++ [t], by rw [upd_same, List.map_append]; rfl, Paired.snoc (paired_mem b2 fun a d' _ e => ?_) ?_⟩
 ·have : a ≠ l := fun z => by rw [z, b1] at e; cases e
  rw [upd_ne this]
  exact s1 _ _ e
 ·rw [upd_ne htl, upd_same]
section
variable {P : Program} {w : World} {K : PySem.W.Frag} {mg : Str → Option Value} {base : Heap}
theorem sc_are_unlike : FnScope ["some"] ["some"] (defScope (top 19)) := ⟨rfl, rfl, rfl, by decide +kernel, rfl, by decide +kernel, by decide +kernel⟩
theorem ok_unlike (T : Txt K mg) (D : Def K mg "are_unlike" (top 19) ["some"]) : Callee P w K mg base 1 "are_unlike" ["some"] (spUnlike K) := by
 refine D.ok sc_are_unlike (fun vs H Q E h => ?_) (fun f cdv A outer s H vs Q E hr h => ?_)
 ·obtain ⟨p, rfl, _⟩ := h
  rfl
 obtain ⟨p, rfl, ⟨ns, hS, hlt, q⟩ | ⟨as, ds, hS, hD, hle, q⟩⟩ := h
 ·refine ⟨_, (pss_one (ps_ret (pe_cmpR op_eq (pe_callB (call_lenSK P w) rfl T.m_len boot_len (pa_cons (pe_callTy (call_setK K P w rfl) rfl T.m_set boot_set (pa_cons (pv 0) pa_nil st_name)) pa_nil st_call)) (pe_callB (call_lenK K) rfl T.m_len boot_len (pa_cons (pv 0) pa_nil st_name)) (nomark _)))), ?_⟩
  refine ⟨_, rfl, p, ns, rfl, hS, hlt, fun l hl => ⟨l, ns, rfl, upd_same, _, rfl, p, _, rfl, .inl ((same_new hl _).seq hS), rfl, ?_⟩⟩
  rw [show decide (V.int (((sortU ns).length : Nat) : Int) = V.int (((ns.map V.int).length : Nat) : Int)) = dB ns.Nodup from dB_of (by
   rw [decide_eq_true_iff, List.length_map, ← sortU_full]
   constructor
   ·intro z; injection z with z; lia
   ·intro z; rw [z])]
  exact q _ (same_new hl _)
 ·refine ⟨_, (pss_one (ps_ret (pe_cmpR op_eq (pe_callB call_lenNK rfl T.m_len boot_len (pa_cons (pe_callTy (call_setDK K rfl (Room.units9 hr)) rfl T.m_set boot_set (pa_cons (pv 0) pa_nil st_name)) pa_nil st_call)) (pe_callB (call_lenK K) rfl T.m_len boot_len (pa_cons (pv 0) pa_nil st_name)) (nomark _)))), ?_⟩
  have la := Paired.length hD
  refine ⟨_, rfl, p, as, ds, rfl, hS, hD, hle, fun l hl => ⟨l, _, rfl, upd_same, _, rfl, p, _, rfl, .inl ((same_new hl _).seq hS), rfl, ?_⟩⟩
  rw [show decide (V.int (((met ds ds.length).length : Nat) : Int) = V.int (((as.map V.ref).length : Nat) : Int)) = dB ds.Nodup from dB_of (by
   rw [decide_eq_true_iff, List.length_map, la, ← (met_all ds).1]
   constructor
   ·intro z; injection z with z; lia
   ·intro z; rw [z])]
  exact q _ (same_new hl _)
theorem sc_rises : FnScope ["numbers"] ["numbers"] (defScope (top 13)) := ⟨rfl, rfl, rfl, by decide +kernel, rfl, by decide +kernel, by decide +kernel⟩
theorem ok_risesL (T : Txt K mg) (D : Def K mg "rises" (top 13) ["numbers"]) : Callee P w K mg base 1 "rises" ["numbers"] spRisesL := by
 refine D.ok sc_rises (fun vs H Q E h => ?_) (fun f cdv A outer s H vs Q E hr h => ?_)
 ·obtain ⟨a, ns, rfl, _⟩ := h
  rfl
 obtain ⟨a, ns, rfl, e, h64, q⟩ := h
 refine ⟨_, (pss_one (ps_ret (pe_callB (call_allK K rfl) rfl T.m_all boot_all (pa_cons (pe_comp (own := ["one", "other"]) (fr := []) rfl (show CompScope ["numbers"] (defScope (top 13)) _ _ _ from ⟨rfl, by decide +kernel, by decide +kernel, by decide +kernel, by decide +kernel⟩) (pi_zipK false K rfl T.m_zip (pa_cons (pv 0) (pa_cons (pe_slice (sl_listK K) (pv 0) (po_some pe_int) po_none) pa_nil st_sub) st_name)) (fun cl C s H ex => ⟨(pg2K K rfl (show (["one", "other"] : List Str).Nodup from by decide +kernel) (Nm.mk (i := 0) rfl (Or.inl rfl) (Or.inr rfl)) (Nm.mk (i := 1) rfl (Or.inl rfl) (Or.inr rfl))), pif_nil, (pe_cmpR op_lt (pv 0) (pv 1) (nomark _))⟩)) pa_nil st_comp)))), ?_⟩
 refine ⟨_, rfl, _, rfl, _, rfl, a, _, rfl, SqL.of e, fun p hp => ?_⟩
 have e1 := upd_same (H := H) (a := p) (o := .lst (cutV (ns.map V.int) (some 1) none))
 have s1 := same_new hp (.lst (cutV (ns.map V.int) (some 1) none))
 generalize upd H p (.lst (cutV (ns.map V.int) (some 1) none)) = H1 at e1 s1 ⊢
 rw [cut1] at e1
 have hlen : (ns.map V.int).length ≤ 200 := by rw [List.length_map]; exact h64
 have et : (ns.map V.int).tail = ns.tail.map V.int := (List.map_tail ..).symm
 refine ⟨a, p, ns.map V.int, (ns.map V.int).tail, rfl, SqL.of (s1 _ _ e), SqL.of e1, ?_⟩
 refine comp_zip (b := false) (xs := ns.map V.int) (ys := (ns.map V.int).tail) (fun i acc σ H' => Same H1 H' ∧ acc = ((ns.zip ns.tail).take i).map (fun p => V.bl (decide (p.1 < p.2))) ∧ ∃ v0 v1, σ = [v0, v1])
  ⟨Same.refl H1, rfl, none, none, rfl⟩ (Nat.le_of_lt (small1000 (by lia))) (fun i acc σ H' h => ?_) (fun i acc σ H' _ _ h => ?_) ?_ ?_
 ·obtain ⟨_, rfl, _⟩ := h
  rw [List.length_map, List.length_take]
  lia
 ·obtain ⟨s2, _⟩ := h
  exact ⟨SqL.of (s2 _ _ (s1 _ _ e)), SqL.of (s2 _ _ e1)⟩
 ·rintro i x y acc σ H' p hxi hyi ⟨s2, rfl, v0, v1, rfl⟩ hpn
  rw [et] at hyi
  rw [List.getElem?_map] at hxi hyi
  obtain ⟨n, hn, rfl⟩ := Option.map_eq_some_iff.mp hxi
  obtain ⟨m, hm, rfl⟩ := Option.map_eq_some_iff.mp hyi
  refine ⟨p, [.int n, .int m], rfl, SqT.of upd_same, rfl, .int n, [.int m], rfl, .int m, [], rfl, rfl, ?_⟩
  refine ⟨_, rfl, _, rfl, _, _, rfl, rfl, s2.trans (same_new hpn _), ?_, _, _, rfl⟩
  have hz : (ns.zip ns.tail)[i]? = some (n, m) := by rw [List.getElem?_zip_eq_some]; exact ⟨hn, hm⟩
  rw [List.take_succ, hz, List.map_append]
  rfl
 ·rintro acc σ H' ⟨s2, rfl, v0, v1, rfl⟩ l hl
  have hm : min (ns.map V.int).length (ns.map V.int).tail.length = (ns.zip ns.tail).length := by rw [List.length_zip, et, List.length_map, List.length_map]
  rw [hm, List.take_length]
  refine ⟨l, (ns.zip ns.tail).map (fun p => decide (p.1 < p.2)), rfl, SqL.of (by rw [upd_same, List.map_map]; rfl), ?_⟩
  rw [List.all_map, show (ns.zip ns.tail).all (id ∘ fun p => decide (p.1 < p.2)) = dB (ns.Pairwise (· < ·)) from dB_of (zip_rises ns)]
  exact q _ ((s1.trans s2).trans (same_new hl _))
theorem sc_held_lines : FnScope ["hall", "call", "lines", "rack"] ["hall", "call"] (defScope (top 18)) := ⟨rfl, rfl, rfl, by decide +kernel, rfl, by decide +kernel, by decide +kernel⟩
theorem ok_heldl (T : Txt K mg) (C_place_in : Callee P w K mg base 1 "place_in" ["hall", "caller"] (spPlace K Hall.c)) (C_racks_of : Callee P w K mg base 2 "racks_of" ["hall", "ends"] (spRacks K)) (D : Def K mg "held_lines" (top 18) ["hall", "call"]) : Callee P w K mg base 3 "held_lines" ["hall", "call"] (spHLines K) := by
 refine D.ok sc_held_lines (fun vs H Q E h => ?_) (fun f cdv A outer s H vs Q E hr h => ?_)
 ·obtain ⟨a, p, h, k, rfl, _⟩ := h
  rfl
 obtain ⟨a, p, h, k, rfl, hH, ok, ⟨e, ee, ep⟩, hk, q⟩ := h
 refine ⟨_, (pss_cons (ps_set (i := 2) sc_held_lines.nd rfl (Or.inl rfl) (pe_lst (pa_cons (pe_tup (pa_cons pe_int (pa_cons (pe_ix (ix_tupK K) (pe_fn C_place_in hr rfl (pa_cons (pv 0) (pa_cons (pe_ix (ix_tupK K) (pv 1) pe_int (fun _ _ => rfl)) pa_nil st_sub) st_name)) pe_int (fun _ _ => rfl)) (pa_cons (pe_ix (ix_tupK K) (pv 1) pe_int (fun _ _ => rfl)) pa_nil st_sub) st_sub) st_const)) pa_nil st_tup)))
  (pss_cons (ps_for PassesOwn.never rfl (pi_listK K (pe_fn C_racks_of hr rfl (pa_cons (pv 0) (pa_cons (pe_ix (ix_tupK K) (pv 1) pe_int (fun _ _ => rfl)) pa_nil st_sub) st_name))) (pg_name (i := 3) sc_held_lines.nd rfl (Or.inl rfl))
  (pss_one (ps_expr (pe_bmK K PySem.F.plainAttrs_list PySem.F.slot_list_append PySem.F.type_list_append mt_appendR (pv 2) (pa_cons (pe_tup (pa_cons pe_int (pa_cons (pe_ix (ix_tupK K) (pv 1) pe_int (fun _ _ => rfl)) (pa_cons (pv 3) pa_nil st_name) st_sub) st_const)) pa_nil st_tup)))))
  (pss_one (ps_ret (pv 2))))), ?_⟩
 refine ⟨_, rfl, _, rfl, p, _, _, _, rfl, rfl, SqT.of ep, rfl, a, h, k.c, rfl, hH, ok, fun r hr2 => ?_⟩
 have er := upd_same (H := H) (a := r) (o := .tup [.int (k.c / h.c), .int (k.c % h.c)])
 have s1 := same_new hr2 (.tup [.int (k.c / h.c), .int (k.c % h.c)])
 generalize upd H r (.tup [.int (k.c / h.c), .int (k.c % h.c)]) = H1 at er s1 ⊢
 refine ⟨r, _, _, _, rfl, rfl, SqT.of er, rfl, _, rfl, p, _, _, _, rfl, rfl, SqT.of (s1 _ _ ep), rfl, (by show 3 ≤ sizeLine; decide), fun t ht => ?_⟩
 dsimp only [gName]
 have et := upd_same (H := H1) (a := t) (o := .tup [.int 0, .int (k.c / h.c), .int k.k])
 have s2 := s1.trans (same_new ht (.tup [.int 0, .int (k.c / h.c), .int k.k]))
 generalize upd H1 t (.tup [.int 0, .int (k.c / h.c), .int k.k]) = H2 at et s2 ⊢
 refine ⟨(by show 1 ≤ sizeLine; decide), fun l hl => ?_⟩
 have el := upd_same (H := H2) (a := l) (o := .lst [.ref t])
 have s3 := s2.trans (same_new hl (.lst [.ref t]))
 have et3 := same_new hl (.lst [.ref t]) _ _ et
 have hlH : H l = none := s2.free hl
 generalize upd H2 l (.lst [.ref t]) = H3 at el s3 et3 ⊢
 have bag3 : BagD H3 l [[0, k.c / h.c, k.k]] := ⟨[t], el, .cons et3 .nil⟩
 have rl := racks_len h k.es
 have few := hk.few
 refine ⟨_, rfl, _, rfl, p, _, _, _, rfl, rfl, SqT.of (s3 _ _ ep), rfl, a, e, h, k.es, rfl, Same.seqT s3 hH, ok, .inl (SqT.of (s3 _ _ ee)), by lia, fun rl2 H4 s4 hrl er4 => ?_⟩
 refine ⟨rl2, rfl, ⟨_, SqL.of er4⟩, ?_⟩
 have hne : rl2 ≠ l := fun z => by
  rw [z, el] at hrl
  cases hrl
 have bag4 : BagD H4 l [[0, k.c / h.c, k.k]] := bag3.same s4
 have s34 := s3.trans s4
 refine for_list (xs := (racksM h k.es).map V.int) (fun i σ H' => Same H H' ∧ H' rl2 = some (.lst ((racksM h k.es).map V.int)) ∧ BagD H' l ([0, k.c / h.c, k.k] :: ((racksM h k.es).take i).map fun r => [1, k.k, r]) ∧ ∃ v3, σ = [some (.ref a), some (.ref p), some (.ref l), v3])
  ⟨s34, er4, bag4, none, rfl⟩ (fun i σ H' _ gg => SqL.of gg.2.1) ?_ ?_
 ·rintro i x σ H' hx ⟨s5, e5, ⟨as, b1, b2⟩, v3, rfl⟩
  rw [List.getElem?_map] at hx
  obtain ⟨r, hr2, rfl⟩ := Option.map_eq_some_iff.mp hx
  refine ⟨_, rfl, .inl ⟨rfl, _, SqL.of b1⟩, _, rfl, p, _, _, _, rfl, rfl, SqT.of (s5 _ _ ep), rfl, _, rfl, (by show 3 ≤ sizeLine; decide), fun t2 ht2 => ?_⟩
  have htl : t2 ≠ l := fun z => by rw [z, b1] at ht2; cases ht2
  have htr : t2 ≠ rl2 := fun z => by rw [z, e5] at ht2; cases ht2
  have hn := Paired.length b2
  refine ⟨l, as.map V.ref, .ref t2, rfl, rfl, by rw [upd_ne (Ne.symm htl)]; exact b1, small1000 (by rw [List.length_map, hn, List.length_cons, List.length_map, List.length_take]; lia), ?_⟩
  refine ⟨Same.put (s5.trans (same_new ht2 _)) hlH, by rw [upd_ne hne, upd_ne (Ne.symm htr)]; exact e5, ?_, _, rfl⟩
  have := BagD.push (d := [1, k.k, r]) b1 b2 ht2
  rw [List.take_succ, hr2, List.map_append]
  exact this
 ·rintro σ H5 ⟨s5, e5, bag5, v3, rfl⟩
  rw [List.length_map, List.take_length] at bag5
  exact ⟨_, rfl, q l H5 s5 hlH bag5⟩
theorem sc_is_right : FnScope ["hall", "calls", "ends", "lines", "call"] ["hall", "calls"] (defScope (top 20)) := ⟨rfl, rfl, rfl, by decide +kernel, rfl, by decide +kernel, by decide +kernel⟩
set_option maxHeartbeats 4000000 in
theorem ok_is_right (T : Txt K mg) (C_held_lines : Callee P w K mg base 3 "held_lines" ["hall", "call"] (spHLines K)) (C_rises : Callee P w K mg base 1 "rises" ["numbers"] spRisesL) (C_are_unlike : Callee P w K mg base 1 "are_unlike" ["some"] (spUnlike K)) (D : Def K mg "is_right" (top 20) ["hall", "calls"]) : Callee P w K mg base 4 "is_right" ["hall", "calls"] (spIsRight K) := by
 refine D.ok sc_is_right (fun vs H Q E h => ?_) (fun f cdv A outer s H vs Q E hr h => ?_)
 ·obtain ⟨a, b, h, as, ks, rfl, _⟩ := h
  rfl
 obtain ⟨a, b, h, as, ks, rfl, hH, ok, hB, hC, hin, h95, q⟩ := h
 have la := Paired.length hC
 have few : ∀ i, ((ks.take i).flatMap Call.es).length ≤ 12 * i := fun i => flat_len 12 Call.es ks (fun k hk => (hin k hk).few) i
 have few2 : ∀ i, ((ks.take i).flatMap (linesD h)).length ≤ 13 * i := fun i => flat_len 13 (linesD h) ks (fun k hk => by
  have h1 := (hin k hk).few
  have h2 := racks_len h k.es
  unfold linesD
  rw [List.length_cons, List.length_map]
  lia) i
 refine ⟨_, (pss_cons (ps_set (i := 2) sc_is_right.nd rfl (Or.inl rfl) (pe_lst pa_nil))
  (pss_cons (ps_set (i := 3) sc_is_right.nd rfl (Or.inl rfl) (pe_lst pa_nil))
  (pss_cons (ps_for PassesOwn.never rfl (pi_listK K (pv 1)) (pg_name (i := 4) sc_is_right.nd rfl (Or.inl rfl))
  (pss_cons (ps_expr (pe_bmK K PySem.F.plainAttrs_list PySem.F.slot_list_extend PySem.F.type_list_extend (mt_extendT K) (pv 2) (pa_cons (pe_ix (ix_tupK K) (pv 4) pe_int (fun _ _ => rfl)) pa_nil st_sub)))
  (pss_one (ps_expr (pe_bmK K PySem.F.plainAttrs_list PySem.F.slot_list_extend PySem.F.type_list_extend mt_extendR (pv 3) (pa_cons (pe_fn C_held_lines hr rfl (pa_cons (pv 0) (pa_cons (pv 4) pa_nil st_name) st_name)) pa_nil st_call))))))
  (pss_one (ps_ret (pe_and (pe_fn C_rises hr rfl (pa_cons (pe_comp (own := ["call"]) (fr := []) rfl (show CompScope ["hall", "calls", "ends", "lines", "call"] (defScope (top 20)) _ _ _ from ⟨rfl, by decide +kernel, by decide +kernel, by decide +kernel, by decide +kernel⟩) (pi_listK K (pv 1)) (fun cl C s H ex => ⟨(pg_name (i := 0) (show (["call"] : List Str).Nodup from by decide +kernel) rfl (Or.inl rfl) (Or.inr rfl)), pif_nil, (pe_ix (ix_tupK K) (pv 0) pe_int (fun _ _ => rfl))⟩)) pa_nil st_comp)) (pe_and (pe_fn C_are_unlike hr rfl (pa_cons (pv 2) pa_nil st_name)) (pe_one (pe_fn C_are_unlike hr rfl (pa_cons (pv 3) pa_nil st_name)))))))))), ?_⟩
 refine ⟨(by show 0 ≤ sizeLine; decide), fun le hle => ?_⟩
 have e1 := upd_same (H := H) (a := le) (o := .lst [])
 have s1 := same_new hle (.lst [])
 generalize upd H le (.lst []) = H1 at e1 s1 ⊢
 refine ⟨(by show 0 ≤ sizeLine; decide), fun ll hll => ?_⟩
 have e2 := upd_same (H := H1) (a := ll) (o := .lst [])
 have s2 := same_new hll (.lst [])
 have hllH := s1.free hll
 have e1' := s2 _ _ e1
 have hne : le ≠ ll := fun z => by rw [← z, e1] at hll; cases hll
 generalize upd H1 ll (.lst []) = H2 at e2 s2 e1' ⊢
 have s12 := s1.trans s2
 refine ⟨_, rfl, b, rfl, ⟨_, s12.seq hB⟩, ?_⟩
 refine for_list (xs := as.map V.ref) (fun i σ H' => Same H H' ∧ H' le = some (.lst (((ks.take i).flatMap Call.es).map V.int)) ∧ BagD H' ll ((ks.take i).flatMap (linesD h)) ∧ ∃ v4, σ = [some (.ref a), some (.ref b), some (.ref le), some (.ref ll), v4])
  ⟨s12, e1', ⟨[], e2, .nil⟩, none, rfl⟩ (fun i σ H' _ gg => gg.1.seq hB) ?_ ?_
 ·rintro i x σ H' hx ⟨s3, d1, ⟨ts, d2, d3⟩, v4, rfl⟩
  rw [List.getElem?_map] at hx
  obtain ⟨p, hp, rfl⟩ := Option.map_eq_some_iff.mp hx
  obtain ⟨k, hk, ⟨e, ee, ep⟩⟩ := paired_at hC i p hp
  have hkm := List.mem_of_getElem? hk
  have hi : i < 63 := by
   have := (List.getElem?_eq_some_iff.mp hk).1
   lia
  have f1 := few i
  have f2 := few2 i
  have f3 := (hin k hkm).few
  have hts := Paired.length d3
  refine ⟨_, rfl, .inl ⟨rfl, _, SqL.of d1⟩, _, rfl, p, _, _, _, rfl, rfl, SqT.of (s3 _ _ ep), rfl, le, e, _, _, rfl, rfl, d1, SqT.of (s3 _ _ ee), Nat.le_of_lt (small1000 (by rw [List.length_map, List.length_map]; lia)), ?_⟩
  have t1 : upd H' le (.lst (((ks.take i).flatMap Call.es).map V.int ++ k.es.map V.int)) le = some (.lst (((ks.take (i + 1)).flatMap Call.es).map V.int)) := by
   rw [upd_same, List.take_succ, hk, List.flatMap_append, List.map_append]
   simp
  have s4 : Same H (upd H' le (.lst (((ks.take i).flatMap Call.es).map V.int ++ k.es.map V.int))) := Same.put s3 hle
  have d2' : upd H' le (.lst (((ks.take i).flatMap Call.es).map V.int ++ k.es.map V.int)) ll = some (.lst (ts.map V.ref)) := by rw [upd_ne (Ne.symm hne)]; exact d2
  have d3' : Paired (fun a d => upd H' le (.lst (((ks.take i).flatMap Call.es).map V.int ++ k.es.map V.int)) a = some (.tup (d.map V.int))) ts ((ks.take i).flatMap (linesD h)) := paired_mem d3 fun a d _ z => by
   have : a ≠ le := fun y => by rw [y, d1] at z; cases z
   rw [upd_ne this]; exact z
  generalize upd H' le (.lst (((ks.take i).flatMap Call.es).map V.int ++ k.es.map V.int)) = H4 at t1 s4 d2' d3' ⊢
  refine ⟨_, rfl, .inl ⟨rfl, _, SqL.of d2'⟩, _, rfl, _, rfl, a, p, h, k, rfl, Same.seqT s4 hH, ok, ⟨e, s4 _ _ ee, s4 _ _ ep⟩, hin k hkm, fun nl H5 s5 hnl ⟨us, g1, g2⟩ => ?_⟩
  have hus := Paired.length g2
  have f4 : (linesD h k).length ≤ 13 := by
   have h2 := racks_len h k.es
   unfold linesD
   rw [List.length_cons, List.length_map]
   lia
  refine ⟨ll, nl, _, _, rfl, rfl, s5 _ _ d2', g1, Nat.le_of_lt (small1000 (by rw [List.length_map, List.length_map]; lia)), ?_⟩
  refine ⟨Same.put (s4.trans s5) hllH, by rw [upd_ne hne]; exact s5 _ _ t1, ⟨ts ++ us, by rw [upd_same, List.map_append], ?_⟩, _, rfl⟩
  rw [List.take_succ, hk, List.flatMap_append, show (some k).toList.flatMap (linesD h) = linesD h k by simp]
  have up : ∀ (c : Addr) (d : List Int), H5 c = some (.tup (d.map V.int)) → upd H5 ll (.lst (ts.map V.ref ++ us.map V.ref)) c = some (.tup (d.map V.int)) := fun c d z => by
   have : c ≠ ll := fun y => by rw [y, s5 _ _ d2'] at z; cases z
   rw [upd_ne this]; exact z
  exact paired_app (paired_mem d3' fun c d _ z => up c d (s5 _ _ z)) (paired_mem g2 fun c d _ z => up c d z)
 ·rintro σ H' ⟨s3, d1, ⟨ts, d2, d3⟩, v4, rfl⟩
  rw [List.length_map, la, List.take_length] at d1 d3
  have f1 := few ks.length
  have f2 := few2 ks.length
  rw [List.take_length] at f1 f2
  have hin' : ∀ k ∈ ks, k.es.Nodup := fun k hk => nodup_of_rise (hin k hk).rise
  have nope : ¬ ((ks.map Call.c).Pairwise (· < ·) ∧ (ks.flatMap Call.es).Nodup ∧ (ks.flatMap (linesD h)).Nodup) → dB (ks.Pairwise (Fit h)) = false := fun z => dB_no fun y => z (by
   obtain ⟨a1, a2, a3⟩ := (right_iff hin').mpr y
   exact ⟨a1, a2, a3⟩)
  refine ⟨_, rfl, b, rfl, ⟨_, s3.seq hB⟩, ?_⟩
  refine comp_list (xs := as.map V.ref) (fun i acc σ H'' => H'' = H' ∧ acc = (ks.take i).map (fun k => V.int k.c) ∧ ∃ v, σ = [v])
   ⟨rfl, rfl, none, rfl⟩ (Nat.le_of_lt (small1000 (by rw [List.length_map]; lia))) (fun i acc σ H'' g => ?_) (fun i acc σ H'' _ g => by rw [g.1]; exact s3.seq hB) ?_ ?_
  ·obtain ⟨_, rfl, _⟩ := g
   rw [List.length_map, List.length_take]
   lia
  ·rintro i x acc σ H'' hx ⟨rfl, rfl, v, rfl⟩
   rw [List.getElem?_map] at hx
   obtain ⟨p, hp, rfl⟩ := Option.map_eq_some_iff.mp hx
   obtain ⟨k, hk, ⟨e, ee, ep⟩⟩ := paired_at hC i p hp
   refine ⟨_, rfl, p, _, _, _, rfl, rfl, SqT.of (s3 _ _ ep), rfl, rfl, ?_, _, rfl⟩
   rw [List.take_succ, hk, List.map_append]
   rfl
  ·rintro acc σ H'' ⟨rfl, rfl, v, rfl⟩ lc hlc
   rw [List.length_map, la, List.take_length]
   have ec : upd H'' lc (.lst (ks.map fun k => V.int k.c)) lc = some (.lst ((ks.map Call.c).map V.int)) := by rw [upd_same, List.map_map]; rfl
   have s4 := same_new hlc (.lst (ks.map fun k => V.int k.c))
   generalize upd H'' lc (.lst (ks.map fun k => V.int k.c)) = H4 at ec s4 ⊢
   have s34 := s3.trans s4
   refine ⟨lc, _, rfl, ec, by rw [List.length_map]; lia, fun H5 s5 => ⟨_, rfl, ?_⟩⟩
   by_cases c1 : (ks.map Call.c).Pairwise (· < ·)
   ·refine iteP (dB_yes c1) ?_
    refine ⟨_, rfl, le, rfl, .inl ⟨_, SqL.of (s5 _ _ (s4 _ _ d1)), by lia, fun H6 s6 => ⟨_, rfl, ?_⟩⟩⟩
    by_cases c2 : (ks.flatMap Call.es).Nodup
    ·refine iteP (dB_yes c2) ?_
     have s46 := (s4.trans s5).trans s6
     refine ⟨_, rfl, ll, rfl, .inr ⟨ts, _, SqL.of (s46 _ _ d2), paired_mem d3 fun c d _ z => SqT.of (s46 _ _ z), by lia, fun H7 s7 => ?_⟩⟩
     have : dB (ks.flatMap (linesD h)).Nodup = dB (ks.Pairwise (Fit h)) := by
      by_cases c3 : (ks.flatMap (linesD h)).Nodup
      ·rw [dB_yes c3, dB_yes ((right_iff hin').mp ⟨c1, c2, c3⟩)]
      ·rw [dB_no c3, nope fun z => c3 z.2.2]
     rw [this]
     exact q _ ((s3.trans s46).trans s7)
    ·refine iteN (by rw [dB_no c2]; decide) ?_
     have := q _ ((s34.trans s5).trans s6)
     rw [nope fun z => c2 z.2.1] at this
     exact this
   ·refine iteN (by rw [dB_no c1]; decide) ?_
    have := q _ (s34.trans s5)
    rw [nope fun z => c1 z.1] at this
    exact this
end
structure Mv where
 c : Int
 k : Int
 o : Int
noncomputable def MvAt (H : Hp) (p : Addr) (m : Mv) : Prop := H p = some (.tup [.int m.c, .int m.k, .int m.o])
noncomputable def MovesAt (H : Hp) (as : List Addr) (ms : List Mv) : Prop := Paired (MvAt H) as ms
theorem MovesAt.same {H H' : Hp} {as : List Addr} {ms : List Mv} (s : ∀ b xs, H b = some (.tup xs) → H' b = some (.tup xs)) (h : MovesAt H as ms) : MovesAt H' as ms := by
 unfold MovesAt at h ⊢
 exact paired_mem h fun a d _ e => s _ _ e
noncomputable def Ok1 (h : Hall) (ks : List Call) (pre : List Mv) (m : Mv) : Prop := (∀ m' ∈ pre, m'.c ≠ m.c) ∧ (∃ k ∈ ks, k.c = m.c ∧ k.k = m.k) ∧ 0 ≤ m.o ∧ m.o < h.m
noncomputable def Valid (h : Hall) (ks : List Call) (ms : List Mv) : Prop := ∀ (i : Nat) m, ms[i]? = some m → Ok1 h ks (ms.take i) m
noncomputable def goalV (ms : List Mv) (c : Int) : Option Int := (ms.find? fun m => decide (m.c = c)).map Mv.o
noncomputable def goneTo (ms : List Mv) (k : Call) : Call := ⟨k.c, k.es, (goalV ms k.c).getD k.k⟩
noncomputable def behindM (ks : List Call) (ms : List Mv) : List Call := ks.map (goneTo ms)
theorem goal_snoc {pre : List Mv} {m : Mv} (h : ∀ m' ∈ pre, m'.c ≠ m.c) (c : Int) : goalV (pre ++ [m]) c = if c = m.c then some m.o else goalV pre c := by
 unfold goalV
 rw [List.find?_append]
 by_cases e : c = m.c
 ·rw [if_pos e, List.find?_eq_none.mpr fun m' hm' => by simp [e, h m' hm']]
  simp [e]
 ·rw [if_neg e]
  cases hf : pre.find? (fun m => decide (m.c = c)) with
  | some x => rfl
  | none => simp [Ne.symm e]
theorem goal_mem {ms : List Mv} {c o : Int} (h : goalV ms c = some o) : ∃ m ∈ ms, m.c = c ∧ m.o = o := by
 unfold goalV at h
 obtain ⟨m, hm, rfl⟩ := Option.map_eq_some_iff.mp h
 exact ⟨m, List.mem_of_find?_eq_some hm, by simpa using List.find?_some hm, rfl⟩
theorem gone_in {h : Hall} {ks : List Call} {ms : List Mv} (hin : ∀ k ∈ ks, k.In h) (hm : ∀ m ∈ ms, 0 ≤ m.o ∧ m.o < h.m) : ∀ k ∈ behindM ks ms, k.In h := fun k hk => by
 obtain ⟨k0, hk0, rfl⟩ := List.mem_map.mp hk
 have i := hin k0 hk0
 refine ⟨i.c, i.rise, i.es, i.some, i.few, ?_⟩
 show 0 ≤ (goalV ms k0.c).getD k0.k ∧ (goalV ms k0.c).getD k0.k < h.m
 cases e : goalV ms k0.c with
 | none => exact i.k
 | some o =>
  obtain ⟨m, h1, _, h2⟩ := goal_mem e
  rw [← h2]
  exact hm m h1
theorem Valid.pre {h : Hall} {ks : List Call} {ms : List Mv} (v : Valid h ks ms) : ∀ m ∈ ms, 0 ≤ m.o ∧ m.o < h.m := fun m hm => by
 obtain ⟨i, hi⟩ := List.mem_iff_getElem?.mp hm
 exact (v i m hi).2.2
theorem uniq_c {ks : List Call} (up : ks.Pairwise fun k k' => k.c < k'.c) {k k' : Call} (hk : k ∈ ks) (hk' : k' ∈ ks) (e : k.c = k'.c) : k = k' := by
 obtain ⟨i, hi⟩ := List.mem_iff_getElem?.mp hk
 obtain ⟨j, hj⟩ := List.mem_iff_getElem?.mp hk'
 obtain ⟨q1, z1⟩ := List.getElem?_eq_some_iff.mp hi
 obtain ⟨q2, z2⟩ := List.getElem?_eq_some_iff.mp hj
 rcases Nat.lt_trichotomy i j with w | w | w
 ·have := (List.pairwise_iff_getElem.mp up) i j q1 q2 w
  rw [z1, z2] at this
  lia
 ·subst w
  rw [hi] at hj
  injection hj
 ·have := (List.pairwise_iff_getElem.mp up) j i q2 q1 w
  rw [z1, z2] at this
  lia
noncomputable def Upto (h : Hall) (ks : List Call) (ms : List Mv) (i : Nat) : Prop := ∀ (j : Nat) m, j < i → ms[j]? = some m → Ok1 h ks (ms.take j) m
theorem upto_zero (h : Hall) (ks : List Call) (ms : List Mv) : Upto h ks ms 0 := fun _ _ z => absurd z (Nat.not_lt_zero _)
theorem upto_succ {h : Hall} {ks : List Call} {ms : List Mv} {i : Nat} {m : Mv} (u : Upto h ks ms i) (hm : ms[i]? = some m) (o : Ok1 h ks (ms.take i) m) : Upto h ks ms (i + 1) := fun j m' hj hm' => by
 by_cases e : j = i
 ·subst e
  rw [hm] at hm'
  injection hm' with hm'
  rw [← hm']
  exact o
 ·exact u j m' (by lia) hm'
theorem upto_all {h : Hall} {ks : List Call} {ms : List Mv} (u : Upto h ks ms ms.length) : Valid h ks ms := fun i m hm => u i m (List.getElem?_eq_some_iff.mp hm).1 hm
noncomputable def Good33 (h : Hall) (ks : List Call) (ms : List Mv) : Prop := Valid h ks ms ∧ (behindM ks ms).Pairwise (Fit h)
noncomputable def spMovesOf (K : PySem.W.Frag) : Sp := fun vs H Q _ => ∃ (l g : Addr) (as : List Addr) (ks : List Call) (cs : List Int) (a b : Int), vs = [.ref l, .ref g, .int a, .int b] ∧ SqL K H l (as.map V.ref) ∧ CallsAt H as ks ∧ ks.Pairwise (fun k k' => k.c < k'.c) ∧ SqL K H g (cs.map V.int) ∧ cs.length ≤ 63 ∧ (∀ c ∈ cs, ∃ k ∈ ks, k.c = c) ∧
 ∀ (ml : Addr) (mas : List Addr) (ms : List Mv) (H' : Hp), Same H H' → H' ml = some (.lst (mas.map V.ref)) → MovesAt H' mas ms → ms.length = cs.length → (∀ (j : Nat) m k, ms[j]? = some m → k ∈ ks → some k.c = cs[j]? → m = ⟨k.c, k.k, if k.k = a then b else a⟩) → Q (.ref ml) H'
noncomputable def spRefuse (K : PySem.W.Frag) (C : Addr) : Sp := fun vs H Q E => ∃ (a l g p : Addr) (h : Hall) (as : List Addr) (ks : List Call) (kvs : List (Key × V)) (pre : List Mv) (m : Mv), vs = [.ref a, .ref l, .ref g, .ref p] ∧ SqT K H a (h.row.map V.int) ∧ h.Ok ∧ SqL K H l (as.map V.ref) ∧ CallsAt H as ks ∧ ks.Pairwise (fun k k' => k.c < k'.c) ∧ H g = some (.dK kvs) ∧ (∀ c, (valV kvs (.inl c)).isSome = true ↔ ∃ m' ∈ pre, m'.c = c) ∧ MvAt H p m ∧
 (Ok1 h ks pre m → Q .non H) ∧ (¬ Ok1 h ks pre m → E (.ref C) none H)
noncomputable def spMoved (K : PySem.W.Frag) (C : Addr) : Sp := fun vs H Q E => ∃ (a l ml : Addr) (h : Hall) (as mas : List Addr) (ks : List Call) (ms : List Mv), vs = [.ref a, .ref l, .ref ml] ∧ SqT K H a (h.row.map V.int) ∧ h.Ok ∧ SqL K H l (as.map V.ref) ∧ CallsAt H as ks ∧ (∀ k ∈ ks, k.In h) ∧ ks.Pairwise (fun k k' => k.c < k'.c) ∧ ks.length ≤ 63 ∧ SqL K H ml (mas.map V.ref) ∧ MovesAt H mas ms ∧ ms.length ≤ 100 ∧
 (Good33 h ks ms → ∀ (f : Addr) (bs : List Addr) (H' : Hp), Same H H' → H' f = some (.lst (bs.map V.ref)) → CallsAt H' bs (behindM ks ms) → Q (.ref f) H') ∧ (¬ Good33 h ks ms → ∀ H', Same H H' → E (.ref C) none H')
section
variable {P : Program} {w : World} {K : PySem.W.Frag} {mg : Str → Option Value} {base : Heap} {C_HallError C_NoHall C_NoCalls C_NoLine C_NoRule C_Idle C_Busy C_Engaged C_NoMove : Addr}
theorem sc_moves_of : FnScope ["calls", "chain", "a", "b", "moves", "caller", "k"] ["calls", "chain", "a", "b"] (defScope (top 24)) := ⟨rfl, rfl, rfl, by decide +kernel, rfl, by decide +kernel, by decide +kernel⟩
theorem ok_moves_of (T : Txt K mg) (C_call_of : Callee P w K mg base 2 "call_of" ["calls", "caller"] (spCallOf K)) (D : Def K mg "moves_of" (top 24) ["calls", "chain", "a", "b"]) : Callee P w K mg base 3 "moves_of" ["calls", "chain", "a", "b"] (spMovesOf K) := by
 refine D.ok sc_moves_of (fun vs H Q E h => ?_) (fun ff cdv A outer s H vs Q E hr h => ?_)
 ·obtain ⟨l, g, as, ks, cs, a, b, rfl, _⟩ := h
  rfl
 obtain ⟨l, g, as, ks, cs, a, b, rfl, hL, hC, up, hG, h63, hcs, q⟩ := h
 refine ⟨_, (pss_cons (ps_set (i := 4) sc_moves_of.nd rfl (Or.inl rfl) (pe_lst pa_nil))
  (pss_cons (ps_for PassesOwn.never rfl (pi_listK K (pv 1)) (pg_name (i := 5) sc_moves_of.nd rfl (Or.inl rfl))
  (pss_cons (ps_set (i := 6) sc_moves_of.nd rfl (Or.inl rfl) (pe_ix (ix_tupK K) (pe_fn C_call_of hr rfl (pa_cons (pv 0) (pa_cons (pv 5) pa_nil st_name) st_name)) pe_int (fun _ _ => rfl)))
  (pss_one (ps_expr (pe_bmK K PySem.F.plainAttrs_list PySem.F.slot_list_append PySem.F.type_list_append mt_appendR (pv 4) (pa_cons (pe_tup (pa_cons (pv 5) (pa_cons (pv 6) (pa_cons (pe_ifExp (pt_cmpR op_eq (pv 6) (pv 2) (nomark _)) (pv 3) (pv 2)) pa_nil st_if) st_name) st_name)) pa_nil st_tup))))))
  (pss_one (ps_ret (pv 4))))), ?_⟩
 refine ⟨(by show 0 ≤ sizeLine; decide), fun f hf => ?_⟩
 have ef := upd_same (H := H) (a := f) (o := .lst [])
 have s1 := same_new hf (.lst [])
 generalize upd H f (.lst []) = H1 at ef s1 ⊢
 refine ⟨_, rfl, g, rfl, ⟨_, s1.seq hG⟩, ?_⟩
 refine for_list (xs := cs.map V.int) (fun i σ H' => Same H H' ∧ (∃ (mas : List Addr) (ms : List Mv), H' f = some (.lst (mas.map V.ref)) ∧ MovesAt H' mas ms ∧ ms.length = i ∧ ∀ (j : Nat) m k, ms[j]? = some m → k ∈ ks → some k.c = cs[j]? → m = ⟨k.c, k.k, if k.k = a then b else a⟩) ∧ ∃ v5 v6, σ = [some (.ref l), some (.ref g), some (.int a), some (.int b), some (.ref f), v5, v6])
  ⟨s1, ⟨[], [], ef, .nil, rfl, fun j m k z => by simp at z⟩, _, _, rfl⟩ (fun i σ H' _ gg => gg.1.seq hG) ?_ ?_
 ·rintro i y σ H' hy ⟨s2, ⟨mas, ms, e2, hm, hl, hj⟩, v5, v6, rfl⟩
  rw [List.getElem?_map] at hy
  obtain ⟨c, hc, rfl⟩ := Option.map_eq_some_iff.mp hy
  have hi : i < 63 := by
   have := (List.getElem?_eq_some_iff.mp hc).1
   lia
  refine ⟨_, rfl, _, rfl, l, .int c, as, ks, rfl, s2.seq hL, CallsAt.same (fun b xs z => s2 _ _ z) hC, .int c, .inr ⟨c, rfl, fun v hv => ?_⟩⟩
  obtain ⟨k0, hk0, hkc⟩ := hcs c (List.mem_of_getElem? hc)
  rcases hv with ⟨_, z⟩ | ⟨j, pa, k, ha, hk, hkc', rfl⟩
  ·exact absurd hkc (z k0 hk0)
  obtain ⟨k', hk', ce, x1, x2⟩ := paired_at hC j pa ha
  rw [hk] at hk'
  injection hk' with hk'
  subst hk'
  refine ⟨pa, _, _, _, rfl, rfl, SqT.of (s2 _ _ x2), rfl, ?_⟩
  refine ⟨_, rfl, .inl ⟨rfl, _, SqL.of e2⟩, _, rfl, _, rfl, _, rfl, _, rfl, rfl, _, rfl, ?_⟩
  refine ite2 (fun c1 => ?_) (fun c1 => ?_)
  ·have c1' : k.k = a := by simpa using c1
   refine ⟨_, rfl, (by show 3 ≤ sizeLine; decide), fun t ht => ?_⟩
   have htf : t ≠ f := fun z => by rw [z, e2] at ht; cases ht
   have lm := Paired.length hm
   have n1 := same_new ht (.tup [.int c, .int k.k, .int (b)])
   have et := upd_same (H := H') (a := t) (o := .tup [.int c, .int k.k, .int (b)])
   generalize upd H' t (.tup [.int c, .int k.k, .int (b)]) = H3 at n1 et ⊢
   have ef3 := n1 _ _ e2
   refine ⟨f, mas.map V.ref, .ref t, rfl, rfl, ef3, small1000 (by rw [List.length_map, lm]; lia), ?_⟩
   have kt : ∀ b xs, H3 b = some (.tup xs) → upd H3 f (.lst (mas.map V.ref ++ [.ref t])) b = some (.tup xs) := fun b xs z => by
    have : b ≠ f := fun y => by rw [y, ef3] at z; cases z
    rw [upd_ne this]
    exact z
   refine ⟨Same.put (s2.trans n1) hf, ⟨mas ++ [t], ms ++ [⟨c, k.k, b⟩], by rw [upd_same, List.map_append]; rfl, Paired.snoc (MovesAt.same (fun b xs z => kt _ _ (n1 _ _ z)) hm) (kt _ _ et), by rw [List.length_append, List.length_singleton, hl], fun j' m k2 hm2 hk2 hc2 => ?_⟩, _, _, rfl⟩
   rcases Nat.lt_or_ge j' i with w | w
   ·rw [List.getElem?_append_left (by lia)] at hm2
    exact hj j' m k2 hm2 hk2 hc2
   ·have hjl := (List.getElem?_eq_some_iff.mp hm2).1
    rw [List.length_append, List.length_singleton] at hjl
    have e5 : j' = i := by lia
    subst e5
    rw [List.getElem?_append_right (by lia), hl, Nat.sub_self] at hm2
    injection hm2 with hm2
    rw [hc] at hc2
    injection hc2 with hc2
    have : k2 = k := uniq_c up hk2 (List.mem_of_getElem? hk) (by rw [hc2, hkc'])
    subst this
    rw [← hm2, hc2, if_pos c1']
  ·have c1' : ¬ k.k = a := by simpa using c1
   refine ⟨_, rfl, (by show 3 ≤ sizeLine; decide), fun t ht => ?_⟩
   have htf : t ≠ f := fun z => by rw [z, e2] at ht; cases ht
   have lm := Paired.length hm
   have n1 := same_new ht (.tup [.int c, .int k.k, .int (a)])
   have et := upd_same (H := H') (a := t) (o := .tup [.int c, .int k.k, .int (a)])
   generalize upd H' t (.tup [.int c, .int k.k, .int (a)]) = H3 at n1 et ⊢
   have ef3 := n1 _ _ e2
   refine ⟨f, mas.map V.ref, .ref t, rfl, rfl, ef3, small1000 (by rw [List.length_map, lm]; lia), ?_⟩
   have kt : ∀ b xs, H3 b = some (.tup xs) → upd H3 f (.lst (mas.map V.ref ++ [.ref t])) b = some (.tup xs) := fun b xs z => by
    have : b ≠ f := fun y => by rw [y, ef3] at z; cases z
    rw [upd_ne this]
    exact z
   refine ⟨Same.put (s2.trans n1) hf, ⟨mas ++ [t], ms ++ [⟨c, k.k, a⟩], by rw [upd_same, List.map_append]; rfl, Paired.snoc (MovesAt.same (fun b xs z => kt _ _ (n1 _ _ z)) hm) (kt _ _ et), by rw [List.length_append, List.length_singleton, hl], fun j' m k2 hm2 hk2 hc2 => ?_⟩, _, _, rfl⟩
   rcases Nat.lt_or_ge j' i with w | w
   ·rw [List.getElem?_append_left (by lia)] at hm2
    exact hj j' m k2 hm2 hk2 hc2
   ·have hjl := (List.getElem?_eq_some_iff.mp hm2).1
    rw [List.length_append, List.length_singleton] at hjl
    have e5 : j' = i := by lia
    subst e5
    rw [List.getElem?_append_right (by lia), hl, Nat.sub_self] at hm2
    injection hm2 with hm2
    rw [hc] at hc2
    injection hc2 with hc2
    have : k2 = k := uniq_c up hk2 (List.mem_of_getElem? hk) (by rw [hc2, hkc'])
    subst this
    rw [← hm2, hc2, if_neg c1']
 ·rintro σ H' ⟨s2, ⟨mas, ms, e2, hm, hl, hj⟩, v5, v6, rfl⟩
  exact ⟨_, rfl, q f mas ms H' s2 e2 hm (by rw [hl, List.length_map]) hj⟩
end
section
variable {P : Program} {w : World} {K : PySem.W.Frag} {mg : Str → Option Value} {base : Heap} {C_HallError C_NoHall C_NoCalls C_NoLine C_NoRule C_Idle C_Busy C_Engaged C_NoMove : Addr}
theorem sc_refuse_move : FnScope ["hall", "calls", "goals", "move", "call"] ["hall", "calls", "goals", "move"] (defScope (top 25)) := ⟨rfl, rfl, rfl, by decide +kernel, rfl, by decide +kernel, by decide +kernel⟩
theorem ok_refuse (T : Txt K mg) (Z : TxtC K mg C_HallError C_NoHall C_NoCalls C_NoLine C_NoRule C_Idle C_Busy C_Engaged C_NoMove) (C_call_of : Callee P w K mg base 2 "call_of" ["calls", "caller"] (spCallOf K)) (C_is_whole : Callee P w K mg base 2 "is_whole" ["thing", "least", "most"] (spIsWhole K)) (D : Def K mg "refuse_move" (top 25) ["hall", "calls", "goals", "move"]) : CalleeE P w K mg base 3 "refuse_move" ["hall", "calls", "goals", "move"] [] (spRefuse K C_NoMove) := by
 refine D.okE sc_refuse_move (fun vs H Q E h => ?_) (fun ff cdv A outer s H vs Q E hr h => ?_)
 ·obtain ⟨a, l, g, p, h, as, ks, kvs, pre, m, rfl, _⟩ := h
  rfl
 obtain ⟨a, l, g, p, h, as, ks, kvs, pre, m, rfl, hH, ok, hL, hC, up, eg, hg, ep, yes, no⟩ := h
 have o3 := ok.m
 replace ep : H p = some (.tup [.int m.c, .int m.k, .int m.o]) := ep
 have hP : SqT K H p [.int m.c, .int m.k, .int m.o] := SqT.of ep
 refine ⟨_, (pss_cons (ps_set (i := 4) sc_refuse_move.nd rfl (Or.inl rfl) (pe_fn C_call_of hr rfl (pa_cons (pv 1) (pa_cons (pe_ix (ix_tupK K) (pv 3) pe_int (fun _ _ => rfl)) pa_nil st_sub) st_name)))
  (pss_cons (ps_if (pt_cmpR op_isN (pv 4) pe_non (nomark _)) (pss_one (ps_raise lets_cx Z.e_NoMove hr.hd rfl pe_str)) pss_nil)
  (pss_cons (ps_if (pt_cmp (pc_din (hu_of hr) (pe_ix (ix_tupK K) (pv 3) pe_int (fun _ _ => rfl)) (pv 2))) (pss_one (ps_raise lets_cx Z.e_NoMove hr.hd rfl pe_str)) pss_nil)
  (pss_cons (ps_if (pt_cmpR op_ne (pe_ix (ix_tupK K) (pv 4) pe_int (fun _ _ => rfl)) (pe_ix (ix_tupK K) (pv 3) pe_int (fun _ _ => rfl)) (nomark _)) (pss_one (ps_raise lets_cx Z.e_NoMove hr.hd rfl pe_str)) pss_nil)
  (pss_one (ps_if (pt_not (pt_truK K (pe_fn C_is_whole hr rfl (pa_cons (pe_ix (ix_tupK K) (pv 3) pe_int (fun _ _ => rfl)) (pa_cons pe_int (pa_cons (pe_op op_sub (pe_ix (ix_tupK K) (pv 0) pe_int (fun _ _ => rfl)) pe_int) pa_nil st_bin) st_const) st_sub)) (fun _ => rfl))) (pss_one (ps_raise lets_cx Z.e_NoMove hr.hd rfl pe_str)) pss_nil)))))), ?_⟩
 refine ⟨_, rfl, _, rfl, p, _, _, _, rfl, rfl, hP, rfl, l, .int m.c, as, ks, rfl, hL, hC, .int m.c, .inr ⟨m.c, rfl, fun v hv => ?_⟩⟩
 rcases hv with ⟨rfl, z⟩ | ⟨j, pa, k, ha, hk, hkc, rfl⟩
 ·exact ⟨_, rfl, rfl, _, rfl, iteT (no fun ⟨_, ⟨k, h1, h2, _⟩, _⟩ => z k h1 h2)⟩
 obtain ⟨k', hk', ce, x1, x2⟩ := paired_at hC j pa ha
 rw [hk] at hk'
 injection hk' with hk'
 subst hk'
 have hkm := List.mem_of_getElem? hk
 refine ⟨_, rfl, rfl, _, rfl, iteF ?_⟩
 refine ⟨_, rfl, p, _, _, _, rfl, rfl, hP, rfl, _, rfl, g, _, rfl, DGet.k (k := .inl m.c) eg, _, rfl, ?_⟩
 refine ite2 (fun c1 => ?_) (fun c1 => ?_)
 ·obtain ⟨m', h1, h2⟩ := (hg m.c).mp c1
  exact no fun o => o.1 m' h1 h2
 have n1 : ∀ m' ∈ pre, m'.c ≠ m.c := fun m' h1 h2 => c1 ((hg m.c).mpr ⟨m', h1, h2⟩)
 refine ⟨_, rfl, pa, _, _, _, rfl, rfl, SqT.of x2, rfl, _, rfl, p, _, _, _, rfl, rfl, hP, rfl, rfl, _, rfl, ?_⟩
 refine ite2 (fun c2 => ?_) (fun c2 => ?_)
 ·have c2' : ¬ k.k = m.k := by simpa using c2
  refine no fun ⟨_, ⟨k0, h1, h2, h3⟩, _⟩ => c2' ?_
  rw [uniq_c up hkm h1 (by rw [hkc, h2])]
  exact h3
 have c2' : k.k = m.k := by simpa using c2
 refine ⟨_, rfl, p, _, _, _, rfl, rfl, hP, rfl, _, rfl, a, _, _, _, rfl, rfl, hH, rfl, _, _, rfl, rfl, .int m.o, 0, h.m - 1, rfl, .int m.o, _, rfl, ?_⟩
 refine ite2 (fun c3 => ?_) (fun c3 => ?_)
 ·have c3' : ¬ wholeIn (.int m.o) 0 (h.m - 1) = true := by simpa using c3
  refine no fun ⟨_, _, h1, h2⟩ => c3' ?_
  show (decide (0 ≤ m.o) && decide (m.o ≤ h.m - 1)) = true
  rw [decide_eq_true h1, decide_eq_true (show m.o ≤ h.m - 1 by lia)]
  rfl
 ·have c3' : wholeIn (.int m.o) 0 (h.m - 1) = true := by simpa using c3
  have c4 : (decide (0 ≤ m.o) && decide (m.o ≤ h.m - 1)) = true := c3'
  rw [Bool.and_eq_true, decide_eq_true_iff, decide_eq_true_iff] at c4
  exact yes ⟨n1, ⟨k, hkm, hkc, c2'⟩, c4.1, by lia⟩
theorem sc_moved : FnScope ["hall", "calls", "moves", "goals", "move", "behind"] ["hall", "calls", "moves"] (defScope (top 26)) := ⟨rfl, rfl, rfl, by decide +kernel, rfl, by decide +kernel, by decide +kernel⟩
set_option maxHeartbeats 4000000 in
theorem ok_moved (T : Txt K mg) (Z : TxtC K mg C_HallError C_NoHall C_NoCalls C_NoLine C_NoRule C_Idle C_Busy C_Engaged C_NoMove) (C_refuse_move : CalleeE P w K mg base 3 "refuse_move" ["hall", "calls", "goals", "move"] [] (spRefuse K C_NoMove)) (C_is_right : Callee P w K mg base 4 "is_right" ["hall", "calls"] (spIsRight K)) (D : Def K mg "moved" (top 26) ["hall", "calls", "moves"]) : CalleeE P w K mg base 5 "moved" ["hall", "calls", "moves"] [] (spMoved K C_NoMove) := by
 refine D.okE sc_moved (fun vs H Q E h => ?_) (fun ff cdv A outer s H vs Q E hr h => ?_)
 ·obtain ⟨a, l, ml, h, as, mas, ks, ms, rfl, _⟩ := h
  rfl
 obtain ⟨a, l, ml, h, as, mas, ks, ms, rfl, hH, ok, hL, hC, hin, up, h63, hM, hMs, h100, yes, no⟩ := h
 have la := Paired.length hC
 have lm := Paired.length hMs
 refine ⟨_, (pss_cons (ps_set (i := 3) sc_moved.nd rfl (Or.inr rfl) pe_dnewK)
  (pss_cons (ps_for PassesOwn.leaving rfl (pi_listK K (pv 2)) (pg_name (i := 4) sc_moved.nd rfl (Or.inl rfl))
  (pss_cons (ps_expr (pe_fnE 0 C_refuse_move (pass_cx fun _ _ _ z => z) hr rfl (pa_cons (pv 0) (pa_cons (pv 1) (pa_cons (pv 3) (pa_cons (pv 4) pa_nil st_name) st_name) st_name) st_name)))
  (pss_one (ps_dput (hu_of hr) (pv 3) (pe_ix (ix_tupK K) (pv 4) pe_int (fun _ _ => rfl)) (pe_ix (ix_tupK K) (pv 4) pe_int (fun _ _ => rfl)) rfl))))
  (pss_cons (ps_comp (i := 5) (own := ["call"]) (fr := [(3, "goals")]) rfl sc_moved.nd rfl rfl (show CompScope ["hall", "calls", "moves", "goals", "move", "behind"] (defScope (top 26)) _ _ _ from ⟨rfl, by decide +kernel, by decide +kernel, by decide +kernel, by decide +kernel⟩) (pi_listK K (pv 1)) (fun cl C s H ex => ⟨(pg_name (i := 0) (show (["call", "goals"] : List Str).Nodup from by decide +kernel) rfl (Or.inl rfl) (Or.inr rfl)), pif_nil, (pe_tup (pa_cons (pe_ix (ix_tupK K) (pv 0) pe_int (fun _ _ => rfl)) (pa_cons (pe_ix (ix_tupK K) (pv 0) pe_int (fun _ _ => rfl)) (pa_cons (pe_dget2 (hu_of hr) (pv 1) (pe_ix (ix_tupK K) (pv 0) pe_int (fun _ _ => rfl)) (pe_ix (ix_tupK K) (pv 0) pe_int (fun _ _ => rfl)) ⟨rfl, rfl, rfl, rfl⟩) pa_nil st_call) st_sub) st_sub))⟩) rfl)
  (pss_cons (ps_if (pt_not (pt_truK K (pe_fn C_is_right hr rfl (pa_cons (pv 0) (pa_cons (pv 5) pa_nil st_name) st_name)) (fun _ => rfl))) (pss_one (ps_raise lets_cx Z.e_NoMove hr.hd rfl pe_str)) pss_nil)
  (pss_one (ps_ret (pv 5))))))), ?_⟩
 refine fun g hg => ?_
 have eg := upd_same (H := H) (a := g) (o := .dK [])
 have s1 := same_new hg (.dK [])
 generalize upd H g (.dK []) = H1 at eg s1 ⊢
 refine ⟨_, rfl, ml, rfl, ⟨_, s1.seq hM⟩, ?_⟩
 refine for_list (xs := mas.map V.ref) (fun i σ H' => Same H H' ∧ Upto h ks ms i ∧ (∃ kvs, H' g = some (.dK kvs) ∧ kvs.length ≤ i ∧ ∀ c, valV kvs (.inl c) = (goalV (ms.take i) c).map V.int) ∧ ∃ v4 v5, σ = [some (.ref a), some (.ref l), some (.ref ml), some (.ref g), v4, v5])
  ⟨s1, upto_zero _ _ _, ⟨[], eg, Nat.le_refl _, fun c => rfl⟩, _, _, rfl⟩ (fun i σ H' _ gg => gg.1.seq hM) ?_ ?_
 ·rintro i y σ H' hy ⟨s2, u2, ⟨kvs, e2, hl, hv⟩, v4, v5, rfl⟩
  rw [List.getElem?_map] at hy
  obtain ⟨pm, hpm, rfl⟩ := Option.map_eq_some_iff.mp hy
  obtain ⟨m, hm, em⟩ := paired_at hMs i pm hpm
  have hi : i < 100 := by
   have := (List.getElem?_eq_some_iff.mp hm).1
   lia
  have em2 : MvAt H' pm m := s2 _ _ em
  refine ⟨_, rfl, _, rfl, _, rfl, _, rfl, a, l, g, pm, h, as, ks, kvs, ms.take i, m, rfl, Same.seqT s2 hH, ok, s2.seq hL, CallsAt.same (fun b xs z => s2 _ _ z) hC, up, e2, fun c => ?_, em2, fun o1 => ?_, fun n1 => no (fun z => n1 (z.1 i m hm)) _ s2⟩
  ·rw [hv]
   constructor
   ·intro z
    cases q : goalV (ms.take i) c with
    | none => rw [q] at z; cases z
    | some o =>
     obtain ⟨m', h1, h2, _⟩ := goal_mem q
     exact ⟨m', h1, h2⟩
   ·rintro ⟨m', h1, h2⟩
    cases q : goalV (ms.take i) c with
    | some o => rfl
    | none =>
     unfold goalV at q
     have := List.find?_eq_none.mp (Option.map_eq_none_iff.mp q) m' h1
     simp [h2] at this
  ·refine ⟨_, rfl, pm, _, _, _, rfl, rfl, SqT.of em2, rfl, _, rfl, _, rfl, pm, _, _, _, rfl, rfl, SqT.of em2, rfl, g, _, rfl, DPut.k (k := .inl m.c) e2 (Nat.lt_of_le_of_lt hl (small1000 (by lia))), ?_⟩
   refine ⟨Same.put s2 hg, upto_succ u2 hm o1, ⟨_, upd_same, ?_, fun c => ?_⟩, _, _, rfl⟩
   ·have := length_putK kvs (.inl m.c) (.int m.o)
    lia
   ·rw [valV_put, List.take_succ, hm]
    show _ = (goalV (ms.take i ++ [m]) c).map V.int
    rw [goal_snoc o1.1]
    by_cases e : c = m.c
    ·rw [if_pos (by rw [e]), if_pos e]
     rfl
    ·rw [if_neg (fun z => e (by injection z)), if_neg e]
     exact hv c
 ·rintro σ H2 ⟨s2, u2, ⟨kvs, e2, hl, hv⟩, v4, v5, rfl⟩
  rw [List.length_map, lm] at u2 hv
  rw [List.take_length] at hv
  have vd := upto_all u2
  have hin' := gone_in hin vd.pre
  have hC2 := CallsAt.same (fun b xs z => s2 _ _ z) hC
  refine ⟨_, rfl, l, rfl, ⟨_, s2.seq hL⟩, ?_⟩
  refine comp_list (xs := as.map V.ref) (fun j acc σ G => Same H2 G ∧ (∃ bs : List Addr, acc = bs.map V.ref ∧ CallsAt G bs (behindM (ks.take j) ms)) ∧ ∃ v, σ = [v, some (.ref g)])
   ⟨Same.refl _, ⟨[], rfl, .nil⟩, none, rfl⟩ (Nat.le_of_lt (small1000 (by rw [List.length_map]; lia))) (fun j acc σ G gg => ?_) (fun j acc σ G _ gg => (s2.trans gg.1).seq hL) ?_ ?_
  ·obtain ⟨_, ⟨bs, rfl, hb⟩, _⟩ := gg
   have := Paired.length hb
   rw [List.length_map, this]
   unfold behindM
   rw [List.length_map, List.length_take]
   lia
  ·rintro j y acc σ G hy ⟨g1, ⟨bs, rfl, hb⟩, v, rfl⟩
   rw [List.getElem?_map] at hy
   obtain ⟨pc, hpc, rfl⟩ := Option.map_eq_some_iff.mp hy
   obtain ⟨k, hk, ce, x1, x2⟩ := paired_at hC2 j pc hpc
   have x2G := SqT.of (K := K) (g1 _ _ x2)
   have egG := g1 _ _ e2
   refine ⟨_, rfl, pc, _, _, _, rfl, rfl, x2G, rfl, _, rfl, pc, _, _, _, rfl, rfl, x2G, rfl, _, rfl, g, rfl, .inl ⟨kvs, .inl egG⟩, _, rfl, pc, _, _, _, rfl, rfl, x2G, rfl, _, rfl, pc, _, _, _, rfl, rfl, x2G, rfl, _, DGet.k (k := .inl k.c) egG, ?_⟩
   rw [hv, show ((goalV ms k.c).map V.int).getD (V.int k.k) = V.int ((goalV ms k.c).getD k.k) by cases goalV ms k.c <;> rfl]
   refine ⟨(by show 3 ≤ sizeLine; decide), fun t ht => ?_⟩
   have g2 := same_new ht (.tup [.int k.c, .ref ce, .int ((goalV ms k.c).getD k.k)])
   have et := upd_same (H := G) (a := t) (o := .tup [.int k.c, .ref ce, .int ((goalV ms k.c).getD k.k)])
   generalize upd G t (.tup [.int k.c, .ref ce, .int ((goalV ms k.c).getD k.k)]) = G2 at g2 et ⊢
   refine ⟨g1.trans g2, ⟨bs ++ [t], by rw [List.map_append]; rfl, ?_⟩, _, rfl⟩
   unfold behindM
   rw [List.take_succ, hk, List.map_append]
   exact Paired.snoc (CallsAt.same (fun b xs z => g2 _ _ z) hb) ⟨ce, g2 _ _ (g1 _ _ x1), et⟩
  rintro acc σ G ⟨g1, ⟨bs, rfl, hb⟩, v, rfl⟩ lb hlb
  rw [List.length_map, la, List.take_length] at hb
  have g2 := same_new hlb (.lst (bs.map V.ref))
  have elb := upd_same (H := G) (a := lb) (o := .lst (bs.map V.ref))
  generalize upd G lb (.lst (bs.map V.ref)) = G2 at g2 elb ⊢
  have sG := (s2.trans g1).trans g2
  have hb2 := CallsAt.same (fun b xs z => g2 _ _ z) hb
  refine ⟨_, rfl, _, rfl, a, lb, h, bs, behindM ks ms, rfl, Same.seqT sG hH, ok, SqL.of elb, hb2, hin', by unfold behindM; rw [List.length_map]; exact h63, fun G3 g3 => ⟨_, rfl, ?_⟩⟩
  refine ite2 (fun c1 => ?_) (fun c1 => ?_)
  ·refine no (fun z => ?_) _ (sG.trans g3)
   rw [dB_yes z.2] at c1
   cases c1
  ·have gd : Good33 h ks ms := ⟨vd, dB_iff.mp (by simpa using c1)⟩
   exact ⟨_, rfl, yes gd lb bs _ (sG.trans g3) (g3 _ _ elb) (CallsAt.same (fun b xs z => g3 _ _ z) hb2)⟩
end
theorem lines_nodup (h : Hall) (c : Int) (es : List Int) (k : Int) : (linesM h c es k).Nodup := by
 have go : ∀ (es : List Int) (acc : List (List Key)), acc.Nodup → (es.foldl (lineStep h k) acc).Nodup := fun es => by
  induction es with
  | nil => exact fun acc z => z
  | cons e t ih =>
   intro acc z
   rw [List.foldl_cons]
   refine ih _ ?_
   unfold lineStep
   split
   ·exact z
   ·rename_i hn
    rw [List.nodup_append]
    refine ⟨z, by simp, fun x hx y hy e => hn ?_⟩
    rw [List.mem_singleton] at hy
    rw [e, hy] at hx
    exact inD_iff.mpr hx
 exact go es _ (by simp)
noncomputable def LF (h : Hall) (k k' : Call) : Prop := ∀ d ∈ linesM h k.c k.es k.k, ¬ d ∈ linesM h k'.c k'.es k'.k
theorem lf_iff {h : Hall} {k k' : Call} : LF h k k' ↔ ¬ (k.k = k'.k ∧ Meet h k k') := by
 unfold LF
 constructor
 ·rintro z ⟨e, y | ⟨e1, h1, h2⟩⟩
  ·exact z (nIn (k.c / h.c) k.k) (mem_lines.mpr (.inl rfl)) (mem_lines.mpr (.inl (by rw [y, e])))
  ·obtain ⟨e2, h3, h4⟩ := List.mem_map.mp h2
   exact z (nOut (e1 / h.e) k.k) (mem_lines.mpr (.inr ⟨e1, h1, rfl⟩)) (mem_lines.mpr (.inr ⟨e2, h3, by rw [← e, h4]⟩))
 ·intro z d h1 h2
  rcases mem_lines.mp h1 with rfl | ⟨e, he, rfl⟩ <;> rcases mem_lines.mp h2 with q | ⟨e', he', q⟩ <;> simp only [nIn, nOut, List.cons.injEq, Sum.inl.injEq, Sum.inr.injEq, and_true, true_and] at q
  ·exact z ⟨q.2, .inl q.1⟩
  ·exact absurd q.1 (by decide)
  ·exact absurd q.1 (by decide)
  ·exact z ⟨q.2, .inr ⟨e, he, List.mem_map.mpr ⟨e', he', q.1.symm⟩⟩⟩
theorem fit_lf {h : Hall} {ks : List Call} (lt : ks.Pairwise fun k k' => k.c < k'.c) (dj : ks.Pairwise fun k k' => ∀ e ∈ k.es, ¬ e ∈ k'.es) (ms : List Mv) : (behindM ks ms).Pairwise (Fit h) ↔ (behindM ks ms).Pairwise (LF h) := by
 unfold behindM
 rw [List.pairwise_map, List.pairwise_map]
 constructor
 ·exact fun z => z.imp fun q => lf_iff.mpr q.l
 ·intro z
  refine ((lt.and dj).and z).imp fun {a b} q => ⟨q.1.1, fun e h1 h2 => q.1.2 e h1 h2, lf_iff.mp q.2⟩
noncomputable def spRight33 (K : PySem.W.Frag) : Sp := fun vs H Q _ => ∃ (a l : Addr) (h : Hall) (as : List Addr) (ks : List Call), vs = [.ref a, .ref l] ∧ SqT K H a (h.row.map V.int) ∧ h.Ok ∧ H l = some (.lst (as.map V.ref)) ∧ CallsAt H as ks ∧ (∀ k ∈ ks, k.In h) ∧ ks.length ≤ 63 ∧
 ∀ H', Same H H' → Q (.bl (dB (ks.Pairwise (LF h)))) H'
section
variable {P : Program} {w : World} {K : PySem.W.Frag} {mg : Str → Option Value} {base : Heap}
theorem sc__law_right : FnScope ["_law_hall_here", "_law_calls_here", "_law_taken", "_law_call", "_law_line"] ["_law_hall_here", "_law_calls_here"] (defScope (top 37)) := ⟨rfl, rfl, rfl, by decide +kernel, rfl, by decide +kernel, by decide +kernel⟩
set_option maxHeartbeats 4000000 in
theorem ok_right33 (T : Txt K mg) (C__law_lines : Callee P w K mg base 1 "_law_lines" ["_law_hall_here", "_law_caller", "_law_ends_here", "_law_k"] (spLines K)) (D : Def K mg "_law_right" (top 37) ["_law_hall_here", "_law_calls_here"]) : Callee P w K mg base 2 "_law_right" ["_law_hall_here", "_law_calls_here"] (spRight33 K) := by
 refine D.ok sc__law_right (fun vs H Q E h => ?_) (fun ff cdv A outer s H vs Q E hr h => ?_)
 ·obtain ⟨a, l, h, as, ks, rfl, _⟩ := h
  rfl
 obtain ⟨a, l, h, as, ks, rfl, hH, ok, el, hC, hin, h63, q⟩ := h
 have la := Paired.length hC
 refine ⟨_, (pss_cons (ps_set (i := 2) sc__law_right.nd rfl (Or.inl rfl) pe_dnewT)
  (pss_cons (ps_for PassesOwn.never rfl (pi_listK K (pv 1)) (pg_name (i := 3) sc__law_right.nd rfl (Or.inl rfl))
  (pss_cons (ps_if (pt_not (pt_chain op_le op_lt pe_int (pe_ix (ix_tupK K) (pv 3) pe_int (fun _ _ => rfl)) (pe_ix (ix_tupK K) (pv 0) pe_int (fun _ _ => rfl)))) (pss_one (ps_ret pe_bl)) pss_nil)
  (pss_one (ps_for PassesOwn.never rfl (pi_listK K (pe_fn C__law_lines hr rfl (pa_cons (pv 0) (pa_cons (pe_ix (ix_tupK K) (pv 3) pe_int (fun _ _ => rfl)) (pa_cons (pe_ix (ix_tupK K) (pv 3) pe_int (fun _ _ => rfl)) (pa_cons (pe_ix (ix_tupK K) (pv 3) pe_int (fun _ _ => rfl)) pa_nil st_sub) st_sub) st_sub) st_name))) (pg_name (i := 4) sc__law_right.nd rfl (Or.inl rfl))
  (pss_cons (ps_if (pt_cmp (pc_din (hu_of hr) (pv 4) (pv 2))) (pss_one (ps_ret pe_bl)) pss_nil)
  (pss_one (ps_dput (hu_of hr) (pv 2) (pv 4) pe_bl rfl)))))))
  (pss_one (ps_ret pe_bl)))), ?_⟩
 refine fun t ht => ?_
 have et := upd_same (H := H) (a := t) (o := .dT [])
 have s1 := same_new ht (.dT [])
 generalize upd H t (.dT []) = H1 at et s1 ⊢
 refine ⟨_, rfl, l, rfl, ⟨_, SqL.of (s1 _ _ el)⟩, ?_⟩
 refine for_list (xs := as.map V.ref) (fun i σ H' => Same H H' ∧ (ks.take i).Pairwise (LF h) ∧ (∃ kvs, H' t = some (.dT kvs) ∧ kvs.length ≤ 13 * i ∧ ∀ d, (valV kvs d).isSome = true ↔ ∃ k ∈ ks.take i, d ∈ linesM h k.c k.es k.k) ∧ ∃ v3 v4, σ = [some (.ref a), some (.ref l), some (.ref t), v3, v4])
  ⟨s1, .nil, ⟨[], et, Nat.le_refl _, fun d => ⟨fun z => (nomatch z), fun ⟨_, z, _⟩ => (nomatch z)⟩⟩, _, _, rfl⟩ (fun i σ H' _ g => SqL.of (g.1 _ _ el)) ?_ ?_
 ·rintro i x σ H' hx ⟨s5, pw, ⟨kvs, et5, hkl, tk⟩, v3, v4, rfl⟩
  rw [List.getElem?_map] at hx
  obtain ⟨pc, hp, rfl⟩ := Option.map_eq_some_iff.mp hx
  obtain ⟨k, hk1, ce, e1, e2⟩ := paired_at hC i pc hp
  have hi63 : i < 63 := by
   have := (List.getElem?_eq_some_iff.mp hk1).1
   lia
  have hkI := hin k (List.mem_of_getElem? hk1)
  have kf := hkI.few
  have kk := hkI.k
  have tkk : ks.take (i + 1) = ks.take i ++ [k] := by rw [List.take_succ, hk1]; rfl
  have e25 := s5 _ _ e2
  refine ⟨_, rfl, pc, _, _, _, rfl, rfl, SqT.of e25, rfl, _, _, rfl, rfl, _, rfl, iteP (decide_eq_true kk.1) ?_⟩
  refine ⟨_, rfl, a, _, _, _, rfl, rfl, Same.seqT s5 hH, rfl, _, _, rfl, rfl, _, rfl, iteN (by rw [decide_eq_true (show k.k < h.m from kk.2)]; simp) ?_⟩
  refine ⟨_, rfl, _, rfl, pc, _, _, _, rfl, rfl, SqT.of e25, rfl, _, rfl, pc, _, _, _, rfl, rfl, SqT.of e25, rfl, _, rfl, pc, _, _, _, rfl, rfl, SqT.of e25, rfl, a, ce, h, k.c, k.k, k.es, rfl, Same.seqT s5 hH, ok, .inl (SqT.of (s5 _ _ e1)), kf, fun nl nas H6 s6 hnl enl tnl => ?_⟩
  have et6 := s6 _ _ et5
  have hnt : nl ≠ t := fun z => by rw [z, et5] at hnl; cases hnl
  have lnl := Paired.length tnl
  have ll := lines_len h k.c k.es k.k
  have nd := lines_nodup h k.c k.es k.k
  refine ⟨nl, rfl, ⟨_, SqL.of enl⟩, ?_⟩
  refine for_list (xs := nas.map V.ref) (fun j σ H' => SameX t H6 H' ∧ (∀ d ∈ (linesM h k.c k.es k.k).take j, ∀ k' ∈ ks.take i, ¬ d ∈ linesM h k'.c k'.es k'.k) ∧ (∃ kvs', H' t = some (.dT kvs') ∧ kvs'.length ≤ kvs.length + j ∧ (∀ d, (valV kvs' d).isSome = true ↔ (∃ k ∈ ks.take i, d ∈ linesM h k.c k.es k.k) ∨ d ∈ (linesM h k.c k.es k.k).take j)) ∧ ∃ v4, σ = [some (.ref a), some (.ref l), some (.ref t), some (.ref pc), v4])
   ⟨fun _ _ _ z => z, (fun d z => by simp at z), ⟨kvs, et6, Nat.le_refl _, fun d => by rw [tk]; simp⟩, _, rfl⟩ (fun j σ H' _ g => SqL.of (g.1 _ _ hnt enl)) ?_ ?_
  ·rintro j y σ H7 hy ⟨t1', fr', ⟨kvs', t2', t7, t9⟩, v4, rfl⟩
   rw [List.getElem?_map] at hy
   obtain ⟨x, hx, rfl⟩ := Option.map_eq_some_iff.mp hy
   obtain ⟨d, hd1, hd2⟩ := paired_at tnl j x hx
   replace hd2 : H6 x = some (.tup (d.map kV)) := hd2
   have hj : j < 13 := by
    have := (List.getElem?_eq_some_iff.mp hd1).1
    lia
   have hxt : x ≠ t := fun z => by rw [z, et6] at hd2; cases hd2
   have hd7 := t1' _ _ hxt hd2
   have ndj : ¬ d ∈ (linesM h k.c k.es k.k).take j := fun z => by
    obtain ⟨m, hm⟩ := List.mem_iff_getElem?.mp z
    have hmj : m < j := by
     have := (List.getElem?_eq_some_iff.mp hm).1
     rw [List.length_take] at this
     lia
    rw [List.getElem?_take_of_lt hmj] at hm
    obtain ⟨q1, z1⟩ := List.getElem?_eq_some_iff.mp hm
    obtain ⟨q2, z2⟩ := List.getElem?_eq_some_iff.mp hd1
    exact (List.pairwise_iff_getElem.mp nd) m j q1 q2 hmj (by rw [z1, z2])
   refine ⟨_, rfl, _, rfl, t, _, rfl, DGet.t t2' hd7, _, rfl, ?_⟩
   refine ite2 (fun c1 => ?_) (fun c1 => ?_)
   ·have : ∃ k' ∈ ks.take i, d ∈ linesM h k'.c k'.es k'.k := by
     rcases (t9 d).mp c1 with z | z
     ·exact z
     ·exact absurd z ndj
    obtain ⟨k', hk', hd'⟩ := this
    have npw : ¬ ks.Pairwise (LF h) := fun z => by
     have z2 := z.sublist (List.take_sublist (i + 1) ks)
     rw [tkk, List.pairwise_append] at z2
     exact z2.2.2 k' hk' k (List.mem_singleton.mpr rfl) d hd' (List.mem_of_getElem? hd1)
    rw [dB_no npw] at q
    exact q _ fun b u z => t1' b u (ne_of_none z ht) (s6 _ _ (s5 _ _ z))
   ·refine ⟨_, rfl, _, rfl, t, _, rfl, DPut.t t2' hd7 (by show kvs'.length < 16777216; lia), ?_⟩
    refine ⟨fun b u hb z => by rw [upd_ne hb]; exact t1' b u hb z, fun d' hd' k' hk' hm => ?_, ⟨_, upd_same, ?_, fun d' => ?_⟩, _, rfl⟩
    ·rw [List.take_succ, hd1] at hd'
     rcases List.mem_append.mp hd' with z | z
     ·exact fr' d' z k' hk' hm
     ·have z' : d' = d := by simpa using z
      rw [z'] at hm
      exact c1 ((t9 d).mpr (.inl ⟨k', hk', hm⟩))
    ·have := length_putK kvs' d (.bl true)
     lia
    ·rw [valV_put, List.take_succ, hd1, List.mem_append]
     by_cases c : d' = d
     ·rw [if_pos c]
      simp [c]
     ·rw [if_neg c, t9]
      simp [c]
  ·rintro σ H7 ⟨t1', fr', ⟨kvs', t2', t7, t9⟩, v4, rfl⟩
   rw [List.length_map, lnl] at t7 t9 fr'
   rw [List.take_length] at t9 fr'
   refine ⟨fun b u z => t1' b u (ne_of_none z ht) (s6 _ _ (s5 _ _ z)), ?_, ⟨kvs', t2', by lia, fun d => ?_⟩, _, _, rfl⟩
   ·rw [tkk, List.pairwise_append]
    refine ⟨pw, List.pairwise_singleton _ _, fun k' hk' k'' hk'' d h1 h2 => ?_⟩
    rw [List.mem_singleton.mp hk''] at h2
    exact fr' d h2 k' hk' h1
   ·rw [t9, tkk]
    constructor
    ·rintro (⟨k1, g1, g2⟩ | g)
     ·exact ⟨k1, List.mem_append_left _ g1, g2⟩
     ·exact ⟨k, List.mem_append_right _ (List.mem_singleton.mpr rfl), g⟩
    ·rintro ⟨k1, g1, g2⟩
     rcases List.mem_append.mp g1 with g | g
     ·exact .inl ⟨k1, g, g2⟩
     ·rw [List.mem_singleton.mp g] at g2
      exact .inr g2
 ·rintro σ H5 ⟨s5, pw, _, v3, v4, rfl⟩
  rw [List.length_map, la, List.take_length] at pw
  rw [dB_yes pw] at q
  exact q H5 s5
end
theorem behind_nil (ks : List Call) : behindM ks [] = ks := by
 unfold behindM
 refine (List.map_congr_left fun k _ => ?_).trans (List.map_id _)
 rfl
theorem behind_set {ks : List Call} (up : ks.Pairwise fun k k' => k.c < k'.c) {pre : List Mv} {m : Mv} (n : ∀ m' ∈ pre, m'.c ≠ m.c) {j : Nat} {k : Call} (hk : ks[j]? = some k) (hc : k.c = m.c) : behindM ks (pre ++ [m]) = (behindM ks pre).set j ⟨m.c, k.es, m.o⟩ := by
 obtain ⟨hj, ej⟩ := List.getElem?_eq_some_iff.mp hk
 apply List.ext_getElem?
 intro i
 unfold behindM
 rw [List.getElem?_set, List.length_map, List.getElem?_map, List.getElem?_map]
 by_cases e : j = i
 ·subst e
  rw [if_pos rfl, if_pos hj, hk]
  show some (goneTo (pre ++ [m]) k) = _
  unfold goneTo
  rw [goal_snoc n, if_pos hc, hc]
  rfl
 ·rw [if_neg e]
  cases h : ks[i]? with
  | none => rfl
  | some k' =>
   show some (goneTo (pre ++ [m]) k') = some (goneTo pre k')
   have nc : ¬ k'.c = m.c := fun z => by
    obtain ⟨q2, z2⟩ := List.getElem?_eq_some_iff.mp h
    rcases Nat.lt_or_gt_of_ne e with w | w
    ·have := (List.pairwise_iff_getElem.mp up) j i hj q2 w
     rw [ej, z2] at this
     lia
    ·have := (List.pairwise_iff_getElem.mp up) i j q2 hj w
     rw [ej, z2] at this
     lia
   unfold goneTo
   rw [goal_snoc n, if_neg nc]
theorem paired_set {α β : Type} {R : α → β → Prop} : ∀ {as : List α} {ds : List β} (j : Nat) {a : α} {d : β}, Paired R as ds → R a d → Paired R (as.set j a) (ds.set j d)
 | _, _, _, _, _, .nil, _ => .nil
 | _, _, 0, _, _, .cons _ t, h => .cons h t
 | _, _, j + 1, _, _, .cons r t, h => .cons r (paired_set j t h)
noncomputable def tri (k : Call) : Int × List Int × Int := (k.c, k.es, k.k)
theorem cal_of {K : PySem.W.Frag} {H : Hp} {p : Addr} {k : Call} (h : CallAt H p k) : rCal K H (.ref p) (tri k) := by
 obtain ⟨e, h1, h2⟩ := h
 exact ⟨p, e, rfl, SqT.of h2, SqT.of h1⟩
theorem cals_of {K : PySem.W.Frag} {H : Hp} : ∀ {as : List Addr} {ks : List Call}, CallsAt H as ks → Paired (fun a d => rCal K H (.ref a) d) as (ks.map tri)
 | _, _, .nil => .nil
 | _, _, .cons h t => .cons (cal_of h) (cals_of t)
theorem filter_one {p : Call → Bool} {ks : List Call} {j : Nat} {k : Call} (h : ks[j]? = some k) : (ks.take (j + 1)).filter p = (ks.take j).filter p ++ (if p k = true then [k] else []) := by
 rw [List.take_succ, h, List.filter_append]
 congr 1
 show List.filter p [k] = _
 rw [List.filter_cons]
 split <;> rfl
noncomputable def spDue33 (K : PySem.W.Frag) : Sp := fun vs H Q _ => ∃ (a l ml : Addr) (h : Hall) (as mas : List Addr) (ks : List Call) (ms : List Mv), vs = [.ref a, .ref l, .ref ml] ∧ SqT K H a (h.row.map V.int) ∧ h.Ok ∧ H l = some (.lst (as.map V.ref)) ∧ CallsAt H as ks ∧ (∀ k ∈ ks, k.In h) ∧ ks.Pairwise (fun k k' => k.c < k'.c) ∧ ks.Pairwise (fun k k' => ∀ e ∈ k.es, ¬ e ∈ k'.es) ∧ ks.length ≤ 63 ∧ H ml = some (.lst (mas.map V.ref)) ∧ MovesAt H mas ms ∧ ms.length ≤ 100 ∧
 (Good33 h ks ms → ∀ (f : Addr) (bs : List Addr) (H' : Hp), Same H H' → H' f = some (.lst (bs.map V.ref)) → CallsAt H' bs (behindM ks ms) → Q (.ref f) H') ∧ (¬ Good33 h ks ms → ∀ H', Same H H' → Q .non H')
section
variable {P : Program} {w : World} {K : PySem.W.Frag} {mg : Str → Option Value} {base : Heap}
theorem sc__law_due : FnScope ["_law_hall_here", "_law_calls_here", "_law_moves_here", "_law_found", "_law_seen", "_law_caller", "_law_k", "_law_other", "_law_mine"] ["_law_hall_here", "_law_calls_here", "_law_moves_here"] (defScope (top 38)) := ⟨rfl, rfl, rfl, by decide +kernel, rfl, by decide +kernel, by decide +kernel⟩
set_option maxHeartbeats 4000000 in
theorem ok_due33 (T : Txt K mg) (C__law_right : Callee P w K mg base 2 "_law_right" ["_law_hall_here", "_law_calls_here"] (spRight33 K)) (D : Def K mg "_law_due" (top 38) ["_law_hall_here", "_law_calls_here", "_law_moves_here"]) : Callee P w K mg base 3 "_law_due" ["_law_hall_here", "_law_calls_here", "_law_moves_here"] (spDue33 K) := by
 refine D.ok sc__law_due (fun vs H Q E h => ?_) (fun ff cdv A outer s H vs Q E hr h => ?_)
 ·obtain ⟨a, l, ml, h, as, mas, ks, ms, rfl, _⟩ := h
  rfl
 obtain ⟨a, l, ml, h, as, mas, ks, ms, rfl, hH, ok, el, hC, hin, up, dj, h63, em, hMs, h100, yes, no⟩ := h
 have la := Paired.length hC
 have lm := Paired.length hMs
 refine ⟨_, (pss_cons (ps_set (i := 3) sc__law_due.nd rfl (Or.inl rfl) (pe_callTy (call_listK K) rfl T.m_list boot_list (pa_cons (pv 1) pa_nil st_name)))
  (pss_cons (ps_set (i := 4) sc__law_due.nd rfl (Or.inl rfl) (pe_lst pa_nil))
  (pss_cons (ps_for PassesOwn.never rfl (pi_listK K (pv 2)) (pg3K K rfl sc__law_due.nd (Nm.mk (i := 5) rfl (Or.inr rfl) (Or.inl rfl)) (Nm.mk (i := 6) rfl (Or.inl rfl) (Or.inl rfl)) (Nm.mk (i := 7) rfl (Or.inl rfl) (Or.inl rfl)))
  (pss_cons (ps_comp (i := 8) (own := ["_law_call"]) (fr := [(5, "_law_caller")]) rfl sc__law_due.nd rfl rfl (show CompScope ["_law_hall_here", "_law_calls_here", "_law_moves_here", "_law_found", "_law_seen", "_law_caller", "_law_k", "_law_other", "_law_mine"] (defScope (top 38)) _ _ _ from ⟨rfl, by decide +kernel, by decide +kernel, by decide +kernel, by decide +kernel⟩) (pi_listK K (pv 1)) (fun cl C s H ex => ⟨(pg_name (i := 0) (show (["_law_call", "_law_caller"] : List Str).Nodup from by decide +kernel) rfl (Or.inl rfl) (Or.inr rfl)), (pif_one (pt_cmpR op_eq (pe_ix (ix_tupK K) (pv 0) pe_int (fun _ _ => rfl)) (pv 1) (nomark _))), (pv 0)⟩) rfl)
  (pss_cons (ps_if (PW.pt (pw_or (pt_cmpR (op_inK K) (pv 5) (pv 4) (by with_unfolding_all rfl)) (pw_or (pt_cmpR (op_eqNilK K (Room.units0 hr)) (pv 8) (pe_lst pa_nil) (nomark _)) (pw_or1 (pt_not (pt_chain op_le op_lt pe_int (pv 7) (pe_ix (ix_tupK K) (pv 0) pe_int (fun _ _ => rfl)))))))) (pss_one (ps_ret pe_non)) pss_nil)
  (pss_cons (ps_if (pt_cmpR op_ne (pe_ix (ix_tupK K) (pe_ix (ix_listK K) (pv 8) pe_int (fun _ _ => rfl)) pe_int (fun _ _ => rfl)) (pv 6) (nomark _)) (pss_one (ps_ret pe_non)) pss_nil)
  (pss_cons (ps_expr (pe_bmK K PySem.F.plainAttrs_list PySem.F.slot_list_append PySem.F.type_list_append mt_appendR (pv 4) (pa_cons (pv 5) pa_nil st_name)))
  (pss_one (ps_asg (pe_tup (pa_cons (pv 5) (pa_cons (pe_ix (ix_tupK K) (pe_ix (ix_listK K) (pv 8) pe_int (fun _ _ => rfl)) pe_int (fun _ _ => rfl)) (pa_cons (pv 7) pa_nil st_name) st_sub) st_name)) (pg_sub (pv 3) (pe_bmK K PySem.F.plainAttrs_list PySem.F.slot_list_index PySem.F.type_list_index (mt_indexR K (ep_cal K) (Room.units3 hr)) (pv 1) (pa_cons (pe_ix (ix_listK K) (pv 8) pe_int (fun _ _ => rfl)) pa_nil st_sub)) set_list))))))))
  (pss_cons (ps_if (pt_not (pt_truK K (pe_fn C__law_right hr rfl (pa_cons (pv 0) (pa_cons (pv 3) pa_nil st_name) st_name)) (fun _ => rfl))) (pss_one (ps_ret pe_non)) pss_nil)
  (pss_one (ps_ret (pv 3))))))), ?_⟩
 refine ⟨_, rfl, l, _, rfl, .inl (SqL.of el), fun f hf => ?_⟩
 have ef := upd_same (H := H) (a := f) (o := .lst (as.map V.ref))
 have s1 := same_new hf (.lst (as.map V.ref))
 generalize upd H f (.lst (as.map V.ref)) = H1 at ef s1 ⊢
 refine ⟨(by show 0 ≤ sizeLine; decide), fun g hg => ?_⟩
 have eg := upd_same (H := H1) (a := g) (o := .lst [])
 have s2 := same_new hg (.lst [])
 have ef2 := s2 _ _ ef
 have hgH : H g = none := s1.free hg
 have hfg : f ≠ g := fun z => by rw [z, hg] at ef; cases ef
 generalize upd H1 g (.lst []) = H2 at eg s2 ef2 ⊢
 have s12 := s1.trans s2
 refine ⟨_, rfl, ml, rfl, ⟨_, SqL.of (s12 _ _ em)⟩, ?_⟩
 refine for_list (xs := mas.map V.ref) (fun i σ H' => Same H H' ∧ Upto h ks ms i ∧ (∃ fa : List Addr, H' f = some (.lst (fa.map V.ref)) ∧ CallsAt H' fa (behindM ks (ms.take i))) ∧ H' g = some (.lst (((ms.take i).map Mv.c).map V.int)) ∧ ∃ v5 v6 v7 v8, σ = [some (.ref a), some (.ref l), some (.ref ml), some (.ref f), some (.ref g), v5, v6, v7, v8])
  ⟨s12, upto_zero _ _ _, ⟨as, ef2, by rw [List.take_zero, behind_nil]; exact CallsAt.same (fun b xs z => s12 _ _ z) hC⟩, eg, _, _, _, _, rfl⟩ (fun i σ H' _ gg => SqL.of (gg.1 _ _ em)) ?_ ?_
 ·rintro i y σ H3 hy ⟨s3, u3, ⟨fa, e3, hF⟩, g3, v5, v6, v7, v8, rfl⟩
  rw [List.getElem?_map] at hy
  obtain ⟨pm, hpm, rfl⟩ := Option.map_eq_some_iff.mp hy
  obtain ⟨m, hm, hem⟩ := paired_at hMs i pm hpm
  replace hem : H pm = some (.tup [.int m.c, .int m.k, .int m.o]) := hem
  have hi : i < 100 := by
   have := (List.getElem?_eq_some_iff.mp hm).1
   lia
  refine ⟨pm, _, rfl, SqT.of (s3 _ _ hem), rfl, _, _, rfl, _, _, rfl, _, _, rfl, rfl, ?_⟩
  have hC3 := CallsAt.same (fun b xs z => s3 _ _ z) hC
  have el3 := s3 _ _ el
  refine ⟨_, rfl, l, rfl, ⟨_, SqL.of el3⟩, ?_⟩
  refine comp_list (xs := as.map V.ref) (fun j acc σ G => G = H3 ∧ (∃ bs : List Addr, acc = bs.map V.ref ∧ CallsAt H3 bs ((ks.take j).filter fun k => decide (k.c = m.c))) ∧ ∃ v, σ = [v, some (.int m.c)])
   ⟨rfl, ⟨[], rfl, .nil⟩, none, rfl⟩ (Nat.le_of_lt (small1000 (by rw [List.length_map]; lia))) (fun j acc σ G gg => ?_) (fun j acc σ G _ gg => by rw [gg.1]; exact SqL.of el3) ?_ ?_
  ·obtain ⟨_, ⟨bs, rfl, hb⟩, _⟩ := gg
   have := Paired.length hb
   rw [List.length_map, this]
   exact Nat.le_trans (List.length_filter_le _ _) (by rw [List.length_take]; lia)
  ·rintro j y acc σ G hy ⟨rfl, ⟨bs, rfl, hb⟩, v, rfl⟩
   rw [List.getElem?_map] at hy
   obtain ⟨pc, hpc, rfl⟩ := Option.map_eq_some_iff.mp hy
   obtain ⟨kc, hk1, hk2⟩ := paired_at hC3 j pc hpc
   obtain ⟨ce, x1, x2⟩ := id hk2
   have fs := filter_one (p := fun k => decide (k.c = m.c)) hk1
   refine ⟨_, rfl, pc, _, _, _, rfl, rfl, SqT.of x2, rfl, _, rfl, rfl, _, rfl, ?_⟩
   refine ite2 (fun c1 => ?_) (fun c1 => ?_)
   ·have c1' : kc.c = m.c := by simpa using c1
    refine ⟨_, rfl, rfl, ⟨bs ++ [pc], by rw [List.map_append]; rfl, ?_⟩, _, rfl⟩
    rw [fs, if_pos (decide_eq_true c1')]
    exact Paired.snoc hb hk2
   ·have c1' : ¬ kc.c = m.c := by simpa using c1
    refine ⟨rfl, ⟨bs, rfl, ?_⟩, _, rfl⟩
    rw [fs, if_neg (by simp [c1']), List.append_nil]
    exact hb
  rintro acc σ G ⟨rfl, ⟨bs, rfl, hb⟩, v, rfl⟩ bl hbl
  rw [List.length_map, la, List.take_length] at hb
  have ebl := upd_same (H := G) (a := bl) (o := .lst (bs.map V.ref))
  have s4 := same_new hbl (.lst (bs.map V.ref))
  generalize upd G bl (.lst (bs.map V.ref)) = H4 at ebl s4 ⊢
  have sH4 := s3.trans s4
  have g4 := s4 _ _ g3
  refine ⟨_, rfl, _, rfl, g, _, rfl, .inl (SqL.of g4), rfl, int_flat _, _, rfl, ?_⟩
  have keyS : inV (.int m.c) (((ms.take i).map Mv.c).map V.int) = decide (m.c ∈ (ms.take i).map Mv.c) := int_in _ _
  refine ite2 (fun c1 => ?_) (fun c1 => ?_)
  ·have c1' : inV (.int m.c) (((ms.take i).map Mv.c).map V.int) = true := c1
   rw [keyS, decide_eq_true_iff] at c1'
   obtain ⟨m', h1, h2⟩ := List.mem_map.mp c1'
   exact iteT (no (fun z => (z.1 i m hm).1 m' h1 h2) _ sH4)
  have n1 : ∀ m' ∈ ms.take i, m'.c ≠ m.c := fun m' h1 h2 => c1 (show inV (.int m.c) (((ms.take i).map Mv.c).map V.int) = true by rw [keyS]; exact decide_eq_true (List.mem_map.mpr ⟨m', h1, h2⟩))
  refine ⟨_, rfl, (by show 0 ≤ sizeLine; decide), fun o ho => ?_⟩
  have eo := upd_same (H := H4) (a := o) (o := .lst [])
  have s5 := s4.trans (same_new ho (.lst []))
  have ebl5 := same_new ho (.lst []) _ _ ebl
  generalize upd H4 o (.lst []) = H5 at eo s5 ebl5 ⊢
  refine ⟨bl, o, _, rfl, rfl, SqL.of ebl5, SqL.of eo, _, rfl, ?_⟩
  have sH5 := s3.trans s5
  refine ite2 (fun c2 => ?_) (fun c2 => ?_)
  ·have c2' : bs = [] := by simpa using c2
   refine iteT (no (fun z => ?_) _ sH5)
   obtain ⟨k, h1, h2, _⟩ := (z.1 i m hm).2.1
   rw [c2'] at hb
   have hl := Paired.length hb
   have : k ∈ ks.filter fun k => decide (k.c = m.c) := List.mem_filter.mpr ⟨h1, decide_eq_true h2⟩
   rw [List.eq_nil_of_length_eq_zero hl.symm] at this
   cases this
  have hb5 := CallsAt.same (fun b xs z => s5 _ _ z) hb
  obtain ⟨pk, bs', hbs⟩ : ∃ pk bs', bs = pk :: bs' := by
   cases bs with
   | nil => exact absurd (by simp) c2
   | cons x y => exact ⟨x, y, rfl⟩
  subst hbs
  obtain ⟨k, hkf, hkA⟩ := paired_at hb5 0 pk rfl
  obtain ⟨hk0, hkc⟩ := List.mem_filter.mp (List.mem_of_getElem? hkf)
  replace hkc : k.c = m.c := of_decide_eq_true hkc
  obtain ⟨ce, x1, x2⟩ := id hkA
  have hat : atI ((pk :: bs').map V.ref) 0 = some (.ref pk) := atI_nat (j := 0) rfl
  refine ⟨_, rfl, _, _, rfl, rfl, _, rfl, ?_⟩
  refine ite2 (fun c3 => ?_) (fun c3 => ?_)
  rotate_left
  ·have c3' : ¬ 0 ≤ m.o := fun z => c3 (decide_eq_true z)
   exact ⟨_, rfl, iteT (no (fun z => c3' (z.1 i m hm).2.2.1) _ sH5)⟩
  have c3' : 0 ≤ m.o := of_decide_eq_true c3
  refine ⟨_, rfl, a, _, _, _, rfl, rfl, Same.seqT sH5 hH, rfl, _, _, rfl, rfl, _, rfl, ?_⟩
  refine ite2 (fun c4 => ?_) (fun c4 => ?_)
  ·have c4' : ¬ m.o < h.m := by
    intro z
    rw [decide_eq_true (show m.o < h.m from z)] at c4
    cases c4
   exact no (fun z => c4' (z.1 i m hm).2.2.2) _ sH5
  have c4' : m.o < h.m := by
   refine Classical.byContradiction fun z => c4 ?_
   rw [decide_eq_false (show ¬ m.o < h.m from z)]
   rfl
  refine ⟨_, rfl, bl, _, _, _, rfl, rfl, SqL.of ebl5, hat, pk, _, _, _, rfl, rfl, SqT.of x2, rfl, _, rfl, rfl, _, rfl, ?_⟩
  refine ite2 (fun c5 => ?_) (fun c5 => ?_)
  ·have c5' : ¬ k.k = m.k := by simpa using c5
   refine no (fun z => ?_) _ sH5
   obtain ⟨k', h1, h2, h3⟩ := (z.1 i m hm).2.1
   rw [uniq_c up h1 hk0 (by rw [h2, hkc])] at h3
   exact c5' h3
  have c5' : k.k = m.k := by simpa using c5
  have o1 : Ok1 h ks (ms.take i) m := ⟨n1, ⟨k, hk0, hkc, c5'⟩, c3', c4'⟩
  have g5 := s5 _ _ g3
  refine ⟨_, rfl, .inl ⟨rfl, _, SqL.of g5⟩, _, rfl, g, _, .int m.c, rfl, rfl, g5, small1000 (by rw [List.length_map, List.length_map, List.length_take]; lia), ?_⟩
  have hbg : bl ≠ g := fun z => by rw [z, g3] at hbl; cases hbl
  have s6 := Same.put (o := .lst (((ms.take i).map Mv.c).map V.int ++ [.int m.c])) sH5 hgH
  have ebl6 : upd H5 g (.lst (((ms.take i).map Mv.c).map V.int ++ [.int m.c])) bl = _ := (upd_ne hbg).trans ebl5
  have ef6 : upd H5 g (.lst (((ms.take i).map Mv.c).map V.int ++ [.int m.c])) f = _ := (upd_ne hfg).trans (s5 _ _ e3)
  have g6 : upd H5 g (.lst (((ms.take i).map Mv.c).map V.int ++ [.int m.c])) g = some (.lst (((ms.take (i + 1)).map Mv.c).map V.int)) := by
   rw [upd_same, List.take_succ, hm, List.map_append, List.map_append]
   rfl
  have t6 : ∀ b xs, H5 b = some (.tup xs) → upd H5 g (.lst (((ms.take i).map Mv.c).map V.int ++ [.int m.c])) b = some (.tup xs) := fun b xs z => by
   have : b ≠ g := fun y => by rw [y, g5] at z; cases z
   rw [upd_ne this]
   exact z
  generalize upd H5 g (.lst (((ms.take i).map Mv.c).map V.int ++ [.int m.c])) = H6 at s6 ebl6 ef6 g6 t6 ⊢
  have x16 := t6 _ _ x1
  have x26 := t6 _ _ x2
  refine ⟨_, rfl, _, rfl, bl, _, _, _, rfl, rfl, SqL.of ebl6, hat, pk, _, _, _, rfl, rfl, SqT.of x26, rfl, _, rfl, (by show 3 ≤ sizeLine; decide), fun t ht => ?_⟩
  have et := upd_same (H := H6) (a := t) (o := .tup [.int m.c, .ref ce, .int m.o])
  have n7 := same_new ht (.tup [.int m.c, .ref ce, .int m.o])
  generalize upd H6 t (.tup [.int m.c, .ref ce, .int m.o]) = H7 at et n7 ⊢
  have s7 := s6.trans n7
  obtain ⟨j, hj⟩ := List.mem_iff_getElem?.mp hk0
  have hjl := (List.getElem?_eq_some_iff.mp hj).1
  have hF7 : CallsAt H7 fa (behindM ks (ms.take i)) := CallsAt.same (fun b xs z => n7 _ _ (t6 _ _ (s5 _ _ z))) hF
  have lfa : fa.length = ks.length := by
   rw [Paired.length hF7]
   unfold behindM
   rw [List.length_map]
  refine ⟨_, rfl, _, rfl, .inl ⟨rfl, _, SqL.of (s7 _ _ el)⟩, _, rfl, bl, _, _, _, rfl, rfl, SqL.of (n7 _ _ ebl6), hat, l, .ref pk, as, tri k, ks.map tri, j, rfl, rfl, s7 _ _ el, cal_of ⟨ce, n7 _ _ x16, n7 _ _ x26⟩, cals_of (CallsAt.same (fun b xs z => s7 _ _ z) hC), by rw [List.getElem?_map, hj]; rfl, fun q hq z => ?_, by lia, ?_⟩
  ·rw [List.getElem?_map] at z
   obtain ⟨k2, hk2, e2⟩ := Option.map_eq_some_iff.mp z
   obtain ⟨w1, z1⟩ := List.getElem?_eq_some_iff.mp hk2
   obtain ⟨w2, z2⟩ := List.getElem?_eq_some_iff.mp hj
   have := (List.pairwise_iff_getElem.mp up) q j w1 w2 hq
   rw [z1, z2] at this
   have e3 : k2.c = k.c := congrArg Prod.fst e2
   lia
  refine ⟨f, fa.map V.ref, (j : Int), j, rfl, rfl, n7 _ _ ef6, ?_, ?_⟩
  ·rw [List.length_map, lfa]
   unfold ixN
   rw [if_pos (by lia)]
   simp [hjl]
  rw [← List.map_set]
  have f8 := n7 _ _ ef6
  have t8 : ∀ b xs, H7 b = some (.tup xs) → upd H7 f (.lst ((fa.set j t).map V.ref)) b = some (.tup xs) := fun b xs z => by
   have : b ≠ f := fun y => by rw [y, f8] at z; cases z
   rw [upd_ne this]
   exact z
  refine ⟨Same.put s7 hf, upto_succ u3 hm o1, ⟨fa.set j t, upd_same, ?_⟩, (upd_ne (Ne.symm hfg)).trans (n7 _ _ g6), _, _, _, _, rfl⟩
  rw [List.take_succ, hm]
  show CallsAt _ _ (behindM ks (ms.take i ++ [m]))
  rw [behind_set up n1 hj hkc]
  exact paired_set j (CallsAt.same t8 hF7) ⟨ce, t8 _ _ (n7 _ _ x16), t8 _ _ et⟩
 ·rintro σ H3 ⟨s3, u3, ⟨fa, e3, hF⟩, g3, v5, v6, v7, v8, rfl⟩
  rw [List.length_map, lm] at u3 hF
  rw [List.take_length] at hF
  have vd := upto_all u3
  refine ⟨_, rfl, _, rfl, a, f, h, fa, behindM ks ms, rfl, Same.seqT s3 hH, ok, e3, hF, gone_in hin vd.pre, by unfold behindM; rw [List.length_map]; exact h63, fun H4 s4 => ⟨_, rfl, ?_⟩⟩
  refine ite2 (fun c1 => ?_) (fun c1 => ?_)
  ·refine no (fun z => ?_) _ (s3.trans s4)
   rw [dB_yes ((fit_lf up dj ms).mp z.2)] at c1
   cases c1
  ·have gd : Good33 h ks ms := ⟨vd, (fit_lf up dj ms).mpr (dB_iff.mp (by simpa using c1))⟩
   exact ⟨_, rfl, yes gd f fa _ (s3.trans s4) (s4 _ _ e3) (CallsAt.same (fun b xs z => s4 _ _ z) hF)⟩
end
theorem alike_two {H : Hp} {n : Nat} : ∀ {as bs : List Addr} {ks : List Call}, CallsAt H as ks → CallsAt H bs ks → (∀ k ∈ ks, k.es.length ≤ 1000) → Paired (AlikeAt H (n + 2)) (as.map V.ref) (bs.map V.ref)
 | _, _, _, .nil, .nil, _ => .nil
 | _, _, _, .cons (a := a) (b := k) ⟨e, h1, h2⟩ t, .cons (a := b) ⟨e', h1', h2'⟩ t', hf => by
  refine .cons (.inr ⟨a, b, _, _, rfl, rfl, .inr ⟨h2, h2'⟩, ?_, (by show 3 ≤ 1000; decide)⟩) (alike_two t t' fun k hk => hf k (List.mem_cons_of_mem _ hk))
  exact .cons (AlikeB.at (.inr ⟨_, rfl, rfl⟩)) (.cons (.inr ⟨e, e', _, _, rfl, rfl, .inr ⟨h1, h1'⟩, alike_ints k.es, by rw [List.length_map]; exact hf k (List.mem_cons_self ..)⟩) (.cons (AlikeB.at (.inr ⟨_, rfl, rfl⟩)) .nil))
structure Calls33 (H : Hp) (h : Hall) (lc : Addr) (as : List Addr) (ks : List Call) : Prop where
 e : H lc = some (.lst (as.map V.ref))
 c : CallsAt H as ks
 hin : ∀ k ∈ ks, k.In h
 up : ks.Pairwise (fun k k' => k.c < k'.c)
 dj : ks.Pairwise (fun k k' => ∀ e ∈ k.es, ¬ e ∈ k'.es)
 few : ks.length ≤ 63
theorem Calls33.same {H H' : Hp} {h : Hall} {lc : Addr} {as : List Addr} {ks : List Call} (c : Calls33 H h lc as ks) (s : Same H H') : Calls33 H' h lc as ks := ⟨s _ _ c.e, CallsAt.same (fun b xs z => s _ _ z) c.c, c.hin, c.up, c.dj, c.few⟩
noncomputable def spTells33 (K : PySem.W.Frag) : Sp := fun vs H Q _ => ∃ (a lc ml : Addr) (h : Hall) (as mas : List Addr) (ks : List Call) (ms : List Mv), vs = [.ref a, .ref lc, .ref ml] ∧ SqT K H a (h.row.map V.int) ∧ h.Ok ∧ Calls33 H h lc as ks ∧ H ml = some (.lst (mas.map V.ref)) ∧ MovesAt H mas ms ∧ ms.length ≤ 100 ∧ ∀ H', Same H H' → Q (.bl true) H'
theorem refs_all (as : List Addr) : ∀ x ∈ as.map V.ref, ∃ c, x = .ref c := fun x hx => by
 obtain ⟨c, _, rfl⟩ := List.mem_map.mp hx
 exact ⟨c, rfl⟩
section
variable {P : Program} {w : World} {K : PySem.W.Frag} {mg : Str → Option Value} {base : Heap} {C_HallError C_NoHall C_NoCalls C_NoLine C_NoRule C_Idle C_Busy C_Engaged C_NoMove : Addr}
theorem sc__law_tells : FnScope ["_law_hall_here", "_law_calls_here", "_law_moves_here", "_law_due_here", "_law_handed", "_law_refused", "_law_found", "_law_e"] ["_law_hall_here", "_law_calls_here", "_law_moves_here"] (defScope (top 39)) := ⟨rfl, rfl, rfl, by decide +kernel, rfl, by decide +kernel, by decide +kernel⟩
set_option maxHeartbeats 8000000 in
theorem ok_tells33 (T : Txt K mg) (Z : TxtC K mg C_HallError C_NoHall C_NoCalls C_NoLine C_NoRule C_Idle C_Busy C_Engaged C_NoMove) (C__law_due : Callee P w K mg base 3 "_law_due" ["_law_hall_here", "_law_calls_here", "_law_moves_here"] (spDue33 K)) (C_moved : CalleeE P w K mg base 5 "moved" ["hall", "calls", "moves"] [] (spMoved K C_NoMove)) (C__law_kind : Callee P w K mg base 1 "_law_kind" ["_law_e"] (spKind K C_HallError [C_NoLine, C_Busy, C_Engaged, C_Idle, C_NoRule, C_NoMove, C_NoHall, C_NoCalls])) (C__law_alike : Callee P w K mg base 4 "_law_alike" ["_law_found", "_law_due_here"] (spAlike 3)) (D : Def K mg "_law_tells" (top 39) ["_law_hall_here", "_law_calls_here", "_law_moves_here"]) : Callee P w K mg base 6 "_law_tells" ["_law_hall_here", "_law_calls_here", "_law_moves_here"] (spTells33 K) := by
 refine D.ok sc__law_tells (fun vs H Q E h => ?_) (fun ff cdv A outer s H vs Q E hr h => ?_)
 ·obtain ⟨a, lc, ml, h, as, mas, ks, ms, rfl, _⟩ := h
  rfl
 obtain ⟨a, lc, ml, h, as, mas, ks, ms, rfl, hH, ok, cs, eml, hMs, h100, q⟩ := h
 refine ⟨_, (pss_cons (ps_set (i := 3) sc__law_tells.nd rfl (Or.inl rfl) (pe_fn C__law_due hr rfl (pa_cons (pv 0) (pa_cons (pv 1) (pa_cons (pv 2) pa_nil st_name) st_name) st_name)))
  (pss_cons (ps_set (i := 4) sc__law_tells.nd rfl (Or.inl rfl) (pe_lst (pa_cons (pe_callTy (call_listK K) rfl T.m_list boot_list (pa_cons (pv 1) pa_nil st_name)) (pa_cons (pe_callTy (call_listK K) rfl T.m_list boot_list (pa_cons (pv 2) pa_nil st_name)) pa_nil st_call) st_call)))
  (pss_cons (ps_set (i := 5) sc__law_tells.nd rfl (Or.inl rfl) pe_non)
  (pss_cons (ps_set (i := 6) sc__law_tells.nd rfl (Or.inl rfl) pe_non)
  (pss_cons (ps_try (c := .ref C_HallError) (i := 7) rfl Z.mg_HallError sc__law_tells.nd rfl rfl rfl rfl rfl (fun pn E =>
  (pss_one (ps_set (i := 6) sc__law_tells.nd rfl (Or.inl rfl) (pe_fnE 0 C_moved pass_try hr rfl (pa_cons (pv 0) (pa_cons (pe_ix (ix_listK K) (pv 4) pe_int (fun _ _ => rfl)) (pa_cons (pe_ix (ix_listK K) (pv 4) pe_int (fun _ _ => rfl)) pa_nil st_sub) st_sub) st_name))))) (fun ea =>
  (pss_one (ps_set (i := 5) sc__law_tells.nd rfl (Or.inl rfl) (pv 7)))))
  (pss_cons (ps_if (PW.pt (pw_or (pt_cmpR (op_neSameK K (Room.units0 hr)) (pe_ix (ix_listK K) (pv 4) pe_int (fun _ _ => rfl)) (pv 1) (nomark _)) (pw_or1 (pt_cmpR (op_neSameK K (Room.units0 hr)) (pe_ix (ix_listK K) (pv 4) pe_int (fun _ _ => rfl)) (pv 2) (nomark _))))) (pss_one (ps_ret pe_bl)) pss_nil)
  (pss_cons (ps_if (pt_cmpR op_isN (pv 3) pe_non (nomark _)) (pss_one (ps_ret (pe_and (pe_cmpR op_notN (pv 5) pe_non (nomark _)) (pe_one (pe_cmpR op_eq (pe_fn C__law_kind hr rfl (pa_cons (pv 5) pa_nil st_name)) pe_int (nomark _)))))) pss_nil)
  (pss_one (ps_ret (pe_and (pe_cmpR op_isN (pv 5) pe_non (nomark _)) (pe_one (pe_fn C__law_alike hr rfl (pa_cons (pv 6) (pa_cons (pv 3) pa_nil st_name) st_name))))))))))))), ?_⟩
 by_cases gd : Good33 h ks ms
 ·refine ⟨_, rfl, _, rfl, _, rfl, a, lc, ml, h, as, mas, ks, ms, rfl, hH, ok, cs.e, cs.c, cs.hin, cs.up, cs.dj, cs.few, eml, hMs, h100, fun _ f bs H1 s1 e1 c1 => ?_, fun n => absurd gd n⟩
  refine ⟨_, rfl, lc, _, rfl, .inl (SqL.of (s1 _ _ cs.e)), fun p1 hp1 => ?_⟩
  have ep1 := upd_same (H := H1) (a := p1) (o := .lst (as.map V.ref))
  have s2 := same_new hp1 (.lst (as.map V.ref))
  generalize upd H1 p1 (.lst (as.map V.ref)) = H2 at ep1 s2 ⊢
  refine ⟨_, rfl, ml, _, rfl, .inl (SqL.of (s2 _ _ (s1 _ _ eml))), fun p2 hp2 => ?_⟩
  have ep2 := upd_same (H := H2) (a := p2) (o := .lst (mas.map V.ref))
  have s3 := same_new hp2 (.lst (mas.map V.ref))
  generalize upd H2 p2 (.lst (mas.map V.ref)) = H3 at ep2 s3 ⊢
  refine ⟨(by show 2 ≤ sizeLine; decide), fun hd hhd => ?_⟩
  have ehd := upd_same (H := H3) (a := hd) (o := .lst [.ref p1, .ref p2])
  have s4 := same_new hhd (.lst [.ref p1, .ref p2])
  generalize upd H3 hd (.lst [.ref p1, .ref p2]) = H4 at ehd s4 ⊢
  have s24 := (s2.trans s3).trans s4
  have sX := s1.trans s24
  have ep14 := s4 _ _ (s3 _ _ ep1)
  have ep24 := s4 _ _ ep2
  have a0 : atI [V.ref p1, V.ref p2] 0 = some (.ref p1) := atI_nat (j := 0) rfl
  have a1 : atI [V.ref p1, V.ref p2] 1 = some (.ref p2) := atI_nat (j := 1) rfl
  refine ⟨fun _ _ _ _ => False, ?_, fun σ' c0 d H' z => z.elim⟩
  refine ⟨_, rfl, _, rfl, hd, _, _, _, rfl, rfl, SqL.of ehd, a0, _, rfl, hd, _, _, _, rfl, rfl, SqL.of ehd, a1, a, p1, p2, h, as, mas, ks, ms, rfl, Same.seqT sX hH, ok, SqL.of ep14, (cs.same sX).c, cs.hin, cs.up, cs.few, SqL.of ep24, MovesAt.same (fun b xs z => sX _ _ z) hMs, h100, fun _ f2 bs2 H5 s5 e5 c5 => ?_, fun n => absurd gd n⟩
  have sY := sX.trans s5
  have ehd5 := SqL.of (K := K) (s5 _ _ ehd)
  refine ⟨_, rfl, hd, _, _, _, rfl, rfl, ehd5, a0, _, rfl, p1, lc, _, rfl, rfl, SqL.of (s5 _ _ ep14), SqL.of (sY _ _ cs.e), refs_all as, _, rfl, iteF ?_⟩
  refine ⟨_, rfl, hd, _, _, _, rfl, rfl, ehd5, a1, _, rfl, p2, ml, _, rfl, rfl, SqL.of (s5 _ _ ep24), SqL.of (sY _ _ eml), refs_all mas, _, rfl, iteF ?_⟩
  refine ⟨_, rfl, rfl, _, rfl, iteF ?_⟩
  refine ⟨_, rfl, rfl, _, rfl, iteT ?_⟩
  have s25 := s24.trans s5
  have hin' := gone_in cs.hin gd.1.pre
  have lb := Paired.length c5
  have lk : (behindM ks ms).length ≤ 63 := by
   unfold behindM
   rw [List.length_map]
   exact cs.few
  exact ⟨_, rfl, _, rfl, _, _, rfl, .inr ⟨f2, f, _, _, rfl, rfl, .inl ⟨e5, s25 _ _ e1⟩, alike_two c5 (CallsAt.same (fun b xs z => s25 _ _ z) c1) fun k hk => Nat.le_trans (hin' k hk).few (by decide), by rw [List.length_map]; lia⟩, q _ sY⟩
 ·refine ⟨_, rfl, _, rfl, _, rfl, a, lc, ml, h, as, mas, ks, ms, rfl, hH, ok, cs.e, cs.c, cs.hin, cs.up, cs.dj, cs.few, eml, hMs, h100, fun z => absurd z gd, fun _ H1 s1 => ?_⟩
  refine ⟨_, rfl, lc, _, rfl, .inl (SqL.of (s1 _ _ cs.e)), fun p1 hp1 => ?_⟩
  have ep1 := upd_same (H := H1) (a := p1) (o := .lst (as.map V.ref))
  have s2 := same_new hp1 (.lst (as.map V.ref))
  generalize upd H1 p1 (.lst (as.map V.ref)) = H2 at ep1 s2 ⊢
  refine ⟨_, rfl, ml, _, rfl, .inl (SqL.of (s2 _ _ (s1 _ _ eml))), fun p2 hp2 => ?_⟩
  have ep2 := upd_same (H := H2) (a := p2) (o := .lst (mas.map V.ref))
  have s3 := same_new hp2 (.lst (mas.map V.ref))
  generalize upd H2 p2 (.lst (mas.map V.ref)) = H3 at ep2 s3 ⊢
  refine ⟨(by show 2 ≤ sizeLine; decide), fun hd hhd => ?_⟩
  have ehd := upd_same (H := H3) (a := hd) (o := .lst [.ref p1, .ref p2])
  have s4 := same_new hhd (.lst [.ref p1, .ref p2])
  generalize upd H3 hd (.lst [.ref p1, .ref p2]) = H4 at ehd s4 ⊢
  have s24 := (s2.trans s3).trans s4
  have sX := s1.trans s24
  have ep14 := s4 _ _ (s3 _ _ ep1)
  have ep24 := s4 _ _ ep2
  have a0 : atI [V.ref p1, V.ref p2] 0 = some (.ref p1) := atI_nat (j := 0) rfl
  have a1 : atI [V.ref p1, V.ref p2] 1 = some (.ref p2) := atI_nat (j := 1) rfl
  refine ⟨fun σ c0 _ H' => σ = [some (.ref a), some (.ref lc), some (.ref ml), some .non, some (.ref hd), some .non, some .non, none] ∧ c0 = .ref C_NoMove ∧ Same H4 H', ?_, fun σ' c0 d H' z => ?_⟩
  ·exact ⟨_, rfl, _, rfl, hd, _, _, _, rfl, rfl, SqL.of ehd, a0, _, rfl, hd, _, _, _, rfl, rfl, SqL.of ehd, a1, a, p1, p2, h, as, mas, ks, ms, rfl, Same.seqT sX hH, ok, SqL.of ep14, (cs.same sX).c, cs.hin, cs.up, cs.few, SqL.of ep24, MovesAt.same (fun b xs z => sX _ _ z) hMs, h100, fun z => absurd z gd, fun _ H5 s5 => ⟨rfl, rfl, s5⟩⟩
  obtain ⟨rfl, rfl, s5⟩ := z
  refine ⟨rfl, Z.kh_NoMove, fun ea C eC hea => ?_⟩
  cases eC
  have s6 := s5.trans (same_new hea (ExcO ea C_NoMove))
  have e6 := upd_same (H := H') (a := ea) (o := ExcO ea C_NoMove)
  generalize upd H' ea (ExcO ea C_NoMove) = H6 at s6 e6 ⊢
  have sY := sX.trans s6
  have ehd6 := SqL.of (K := K) (s6 _ _ ehd)
  refine ⟨_, rfl, _, rfl, hd, _, _, _, rfl, rfl, ehd6, a0, _, rfl, p1, lc, _, rfl, rfl, SqL.of (s6 _ _ ep14), SqL.of (sY _ _ cs.e), refs_all as, _, rfl, iteF ?_⟩
  refine ⟨_, rfl, hd, _, _, _, rfl, rfl, ehd6, a1, _, rfl, p2, ml, _, rfl, rfl, SqL.of (s6 _ _ ep24), SqL.of (sY _ _ eml), refs_all mas, _, rfl, iteF ?_⟩
  refine ⟨_, rfl, rfl, _, rfl, iteT ?_⟩
  refine ⟨_, rfl, rfl, _, rfl, iteT ?_⟩
  refine ⟨_, rfl, ea, C_NoMove, [false, false, false, false, false, true, false, false], 5, rfl, e6, ⟨Z.x_NoMove, Z.kx_NoMove_HallError, Z.kv_NoMove, ?_, by decide, rfl, ?_, by decide⟩, fun H7 s7 => ?_⟩
  ·exact .cons Z.kx_NoMove_NoLine (.cons Z.kx_NoMove_Busy (.cons Z.kx_NoMove_Engaged (.cons Z.kx_NoMove_Idle (.cons Z.kx_NoMove_NoRule (.cons Z.kx_NoMove_NoMove (.cons Z.kx_NoMove_NoHall (.cons Z.kx_NoMove_NoCalls .nil)))))))
  ·intro m hm
   match m, hm with
   | 0, _ => rfl
   | 1, _ => rfl
   | 2, _ => rfl
   | 3, _ => rfl
   | 4, _ => rfl
  ·exact ⟨rfl, q _ (sY.trans s7)⟩
end
noncomputable def spMoves33 (K : PySem.W.Frag) : Sp := fun vs H Q _ => ∃ (a lc : Addr) (h : Hall) (as : List Addr) (ks : List Call) (n : Int), vs = [.ref a, .ref lc, .int n] ∧ SqT K H a (h.row.map V.int) ∧ h.Ok ∧ H lc = some (.lst (as.map V.ref)) ∧ CallsAt H as ks ∧
 ∀ (ml : Addr) (mas : List Addr) (ms : List Mv) (H' : Hp), Same H H' → H' ml = some (.lst (mas.map V.ref)) → MovesAt H' mas ms → ms.length ≤ 10 → Q (.ref ml) H'
section
variable {P : Program} {w : World} {K : PySem.W.Frag} {mg : Str → Option Value} {base : Heap}
theorem sc__law_moves : FnScope ["_law_hall_here", "_law_calls_here", "_law_number_here", "_law_moves_here", "_law_left", "_law_at", "_law_mixed", "_law_caller", "_law_k", "_law_call", "_law_other"] ["_law_hall_here", "_law_calls_here", "_law_number_here"] (defScope (top 40)) := ⟨rfl, rfl, rfl, by decide +kernel, rfl, by decide +kernel, by decide +kernel⟩
set_option maxHeartbeats 8000000 in
theorem ok_moves33 (T : Txt K mg) (D : Def K mg "_law_moves" (top 40) ["_law_hall_here", "_law_calls_here", "_law_number_here"]) : Callee P w K mg base 1 "_law_moves" ["_law_hall_here", "_law_calls_here", "_law_number_here"] (spMoves33 K) := by
 refine D.ok sc__law_moves (fun vs H Q E h => ?_) (fun ff cdv A outer s H vs Q E hr h => ?_)
 ·obtain ⟨a, lc, h, as, ks, n, rfl, _⟩ := h
  rfl
 obtain ⟨a, lc, h, as, ks, n, rfl, hH, ok, elc, hC, q⟩ := h
 have b1 := ok.ic
 have b2 := ok.m
 have b3 := ok.i
 refine ⟨_, (pss_cons (ps_set (i := 3) sc__law_moves.nd rfl (Or.inl rfl) (pe_lst pa_nil))
  (pss_cons (ps_set (i := 4) sc__law_moves.nd rfl (Or.inl rfl) (pe_op op_fdivL (pv 2) (pe_op op_pow pe_int pe_int)))
  (pss_cons (ps_for PassesOwn.never rfl (pi_range1 rfl T.m_range (pa_cons (pe_op op_mod (pe_op op_mod (pe_op op_mul (pv 2) pe_int) pe_int) pe_int) pa_nil st_bin)) (pg_name (i := 5) sc__law_moves.nd rfl (Or.inl rfl))
  (pss_cons (ps_set (i := 6) sc__law_moves.nd rfl (Or.inl rfl) (pe_op op_mod (pe_op op_mul (pv 2) (pe_op op_add (pe_op op_mul pe_int (pv 5)) pe_int)) pe_int))
  (pss_cons (ps_if (pt_cmpR op_ge (pv 2) (pe_op op_pow pe_int pe_int) (nomark _)) (pss_cons (ps_set (i := 6) sc__law_moves.nd rfl (Or.inl rfl) (pe_op op_mod (pv 4) pe_int))
  (pss_one (ps_set (i := 4) sc__law_moves.nd rfl (Or.inl rfl) (pe_op op_fdivL (pv 4) pe_int)))) pss_nil)
  (pss_cons (ps_set (i := 7) sc__law_moves.nd rfl (Or.inl rfl) (pe_op op_mod (pe_op op_mod (pe_op op_mul (pv 6) pe_int) pe_int) (pe_op op_mul (pe_ix (ix_tupK K) (pv 0) pe_int (fun _ _ => rfl)) (pe_ix (ix_tupK K) (pv 0) pe_int (fun _ _ => rfl)))))
  (pss_cons (ps_set (i := 8) sc__law_moves.nd rfl (Or.inl rfl) (pe_op op_mod (pe_op op_mod (pe_op op_mul (pv 6) pe_int) pe_int) (pe_ix (ix_tupK K) (pv 0) pe_int (fun _ _ => rfl))))
  (pss_cons (ps_if (PW.pt (pw_and (pt_cmpR op_gt (pe_op op_mod (pv 6) pe_int) pe_int (nomark _)) (pw_and1 (pt_cmpR (op_neNilK K (Room.units0 hr)) (pv 1) (pe_lst pa_nil) (nomark _))))) (pss_cons (ps_set (i := 9) sc__law_moves.nd rfl (Or.inl rfl) (pe_ix (ix_listK K) (pv 1) (pe_op op_mod (pe_op op_mod (pe_op op_mul (pv 6) pe_int) pe_int) (pe_callB (call_lenK K) rfl T.m_len boot_len (pa_cons (pv 1) pa_nil st_name))) (fun _ _ => rfl)))
  (pss_cons (ps_set (i := 7) sc__law_moves.nd rfl (Or.inl rfl) (pe_ix (ix_tupK K) (pv 9) pe_int (fun _ _ => rfl)))
  (pss_one (ps_if (pt_cmpR op_gt (pe_op op_mod (pe_op op_mod (pe_op op_mul (pv 6) pe_int) pe_int) pe_int) pe_int (nomark _)) (pss_one (ps_set (i := 8) sc__law_moves.nd rfl (Or.inl rfl) (pe_ix (ix_tupK K) (pv 9) pe_int (fun _ _ => rfl)))) pss_nil)))) pss_nil)
  (pss_cons (ps_set (i := 10) sc__law_moves.nd rfl (Or.inl rfl) (pe_op op_mod (pe_op op_mod (pe_op op_mul (pv 6) pe_int) pe_int) (pe_ix (ix_tupK K) (pv 0) pe_int (fun _ _ => rfl))))
  (pss_cons (ps_if (pt_cmpR op_eq (pe_op op_mod (pe_op op_mod (pe_op op_mul (pv 6) pe_int) pe_int) pe_int) pe_int (nomark _)) (pss_one (ps_set (i := 10) sc__law_moves.nd rfl (Or.inl rfl) (pe_ix (ix_listK K) (pe_lst (pa_cons (pe_un un_neg pe_int) (pa_cons (pe_ix (ix_tupK K) (pv 0) pe_int (fun _ _ => rfl)) pa_nil st_sub) st_un)) (pe_op op_mod (pv 6) pe_int) (fun _ _ => rfl)))) pss_nil)
  (pss_one (ps_expr (pe_bmK K PySem.F.plainAttrs_list PySem.F.slot_list_append PySem.F.type_list_append mt_appendR (pv 3) (pa_cons (pe_tup (pa_cons (pv 7) (pa_cons (pv 8) (pa_cons (pv 10) pa_nil st_name) st_name) st_name)) pa_nil st_tup))))))))))))
  (pss_cons (ps_if (PW.pt (pw_and (pt_cmpR op_eq (pe_op op_mod (pe_op op_mod (pe_op op_mul (pv 2) pe_int) pe_int) pe_int) pe_int (nomark _)) (pw_and1 (pt_cmpR (op_neNilK K (Room.units0 hr)) (pv 3) (pe_lst pa_nil) (nomark _))))) (pss_one (ps_expr (pe_bmK K PySem.F.plainAttrs_list PySem.F.slot_list_append PySem.F.type_list_append mt_appendR (pv 3) (pa_cons (pe_ix (ix_listK K) (pv 3) (pe_un un_neg pe_int) (fun _ _ => rfl)) pa_nil st_sub)))) pss_nil)
  (pss_one (ps_ret (pv 3))))))), ?_⟩
 refine ⟨(by show 0 ≤ sizeLine; decide), fun f hf => ?_⟩
 have ef := upd_same (H := H) (a := f) (o := .lst [])
 have s1 := same_new hf (.lst [])
 generalize upd H f (.lst []) = H1 at ef s1 ⊢
 refine ⟨_, rfl, _, _, rfl, rfl, ⟨by decide, by decide, by decide⟩, _, _, rfl, rfl, ⟨by show (0 : Int) < 10 ^ 18; decide, by show (10 : Int) ^ 18 < 18446744073709551616; decide⟩, ?_⟩
 refine ⟨_, rfl, _, _, rfl, rfl, .inr ⟨by decide, by decide⟩, _, _, rfl, rfl, (by show (0 : Int) < 999953; decide), _, _, rfl, rfl, (by show (0 : Int) < 5; decide), _, rfl, by show -(2 ^ 62) ≤ n * 39373 % 999953 % 5; lia, by show n * 39373 % 999953 % 5 < 2 ^ 62; lia, ?_⟩
 refine for_range (fun i σ H' => Same H H' ∧ (∃ (mas : List Addr) (ms : List Mv), H' f = some (.lst (mas.map V.ref)) ∧ MovesAt H' mas ms ∧ ms.length = i) ∧ ∃ (lf : Int) (v5 v6 v7 v8 v9 v10 : Option V), σ = [some (.ref a), some (.ref lc), some (.int n), some (.ref f), some (.int lf), v5, v6, v7, v8, v9, v10])
  ⟨s1, ⟨[], [], ef, .nil, rfl⟩, _, _, _, _, _, _, _, rfl⟩ ?_ ?_
 ·rintro i σ H' hi ⟨s2, ⟨mas, ms, e2, hM, hl⟩, lf, v5, v6, v7, v8, v9, v10, rfl⟩
  have hi5 : i < 5 := by lia
  have hH2 := Same.seqT s2 hH
  rw [Int.zero_add]
  refine ⟨_, rfl, _, rfl, _, _, rfl, rfl, .inl ⟨by decide, by decide⟩, _, _, rfl, rfl, _, _, rfl, rfl, .inr ⟨by lia, by lia⟩, _, _, rfl, rfl, (by show (0 : Int) < 2147483629; decide), ?_⟩
  dsimp only [gName, tNext]
  refine seq_cut (fun σ' G => G = H' ∧ ∃ lf mx : Int, σ' = [some (.ref a), some (.ref lc), some (.int n), some (.ref f), some (.int lf), some (.int (i : Int)), some (.int mx), v7, v8, v9, v10]) (fun R rest => ?_) ?_
  ·refine ⟨_, rfl, _, _, rfl, rfl, ⟨by decide, by decide, by decide⟩, _, _, rfl, rfl, _, rfl, ?_⟩
   refine ite2 (fun _ => ?_) (fun _ => ?_)
   ·refine ⟨_, rfl, _, _, rfl, rfl, (by show (0 : Int) < 2147483629; decide), _, rfl, _, _, rfl, rfl, ⟨by show (0 : Int) < 2147483629; decide, by show (2147483629 : Int) < 18446744073709551616; decide⟩, rest _ _ ⟨rfl, _, _, rfl⟩⟩
   ·exact rest _ _ ⟨rfl, _, _, rfl⟩
  rintro σ G ⟨rfl, lf, mx, rfl⟩
  refine ⟨_, rfl, _, _, rfl, rfl, .inr ⟨by decide, by decide⟩, _, _, rfl, rfl, (by show (0 : Int) < 999979; decide), _, rfl, a, _, _, _, rfl, rfl, hH2, rfl, _, rfl, a, _, _, _, rfl, rfl, hH2, rfl, _, _, rfl, rfl, .inl ⟨by lia, by lia⟩, _, _, rfl, rfl, (by show 0 < h.i * h.c; lia), ?_⟩
  refine ⟨_, rfl, _, _, rfl, rfl, .inr ⟨by decide, by decide⟩, _, _, rfl, rfl, (by show (0 : Int) < 999983; decide), _, rfl, a, _, _, _, rfl, rfl, hH2, rfl, _, _, rfl, rfl, (by show 0 < h.m; lia), ?_⟩
  dsimp only [gName, tNext]
  refine seq_cut (fun σ' G' => Same G G' ∧ G' f = G f ∧ ∃ (c k : Int) (v9 : Option V), σ' = [some (.ref a), some (.ref lc), some (.int n), some (.ref f), some (.int lf), some (.int (i : Int)), some (.int mx), some (.int c), some (.int k), v9, v10]) (fun R rest => ?_) ?_
  ·refine ⟨_, rfl, _, _, rfl, rfl, (by show (0 : Int) < 4; decide), _, _, rfl, rfl, _, rfl, ?_⟩
   refine ite2 (fun _ => ?_) (fun _ => ?_)
   ·refine ⟨_, rfl, (by show 0 ≤ sizeLine; decide), fun o ho => ?_⟩
    have eo := upd_same (H := G) (a := o) (o := .lst [])
    have sO := same_new ho (.lst [])
    have fO := sO _ _ e2
    generalize upd G o (.lst []) = HO at eo sO fO ⊢
    have ecO := sO _ _ (s2 _ _ elc)
    refine ⟨lc, o, _, rfl, rfl, SqL.of ecO, SqL.of eo, _, rfl, ?_⟩
    refine ite2 (fun c1 => ?_) (fun c1 => ?_)
    ·have hpos : 0 < as.length := by
      cases z : as with
      | nil => rw [z] at c1; simp at c1
      | cons x y => simp
     have hm := mod_in (x := mx * 40692 % 999961) (show (0 : Int) < ((as.length : Nat) : Int) by lia)
     obtain ⟨m, hme⟩ := Int.eq_ofNat_of_zero_le hm.1
     rw [hme] at hm
     have hml : m < as.length := by lia
     have eam : as[m]? = some (as[m]'hml) := List.getElem?_eq_getElem hml
     generalize as[m]'hml = pg at eam
     obtain ⟨kg, hkg, ce, x1, x2⟩ := paired_at hC m pg eam
     have x2O := SqT.of (K := K) (sO _ _ (s2 _ _ x2))
     refine ⟨_, rfl, _, rfl, _, _, rfl, rfl, .inr ⟨by decide, by decide⟩, _, _, rfl, rfl, (by show (0 : Int) < 999961; decide), _, rfl, lc, _, rfl, .inl (SqL.of ecO), _, _, rfl, rfl, (by rw [List.length_map]; show (0 : Int) < ((as.length : Nat) : Int); lia), lc, _, (m : Int), .ref pg, rfl, (by rw [List.length_map]; exact congrArg V.int hme), SqL.of ecO, atI_nat (by rw [List.getElem?_map, eam]; rfl), ?_⟩
     refine ⟨_, rfl, pg, _, _, _, rfl, rfl, x2O, rfl, ?_⟩
     refine ⟨_, rfl, _, _, rfl, rfl, .inr ⟨by decide, by decide⟩, _, _, rfl, rfl, (by show (0 : Int) < 999959; decide), _, _, rfl, rfl, (by show (0 : Int) < 8; decide), _, _, rfl, rfl, _, rfl, ?_⟩
     refine ite2 (fun _ => ?_) (fun _ => ?_)
     ·exact ⟨_, rfl, pg, _, _, _, rfl, rfl, x2O, rfl, rest _ _ ⟨sO, by rw [fO, e2], _, _, _, rfl⟩⟩
     ·exact rest _ _ ⟨sO, by rw [fO, e2], _, _, _, rfl⟩
    ·exact rest _ _ ⟨sO, by rw [fO, e2], _, _, _, rfl⟩
   ·exact iteF (rest _ _ ⟨Same.refl _, rfl, _, _, _, rfl⟩)
  rintro σ G1 ⟨g1, f1, c, k, v9, rfl⟩
  rw [e2] at f1
  have sG1 := s2.trans g1
  have hHG := Same.seqT sG1 hH
  refine ⟨_, rfl, _, _, rfl, rfl, .inr ⟨by decide, by decide⟩, _, _, rfl, rfl, (by show (0 : Int) < 999931; decide), _, rfl, a, _, _, _, rfl, rfl, hHG, rfl, _, _, rfl, rfl, (by show 0 < h.m; lia), ?_⟩
  dsimp only [gName, tNext]
  refine seq_cut (fun σ' G' => Same G1 G' ∧ G' f = G1 f ∧ ∃ (o : Int), σ' = [some (.ref a), some (.ref lc), some (.int n), some (.ref f), some (.int lf), some (.int (i : Int)), some (.int mx), some (.int c), some (.int k), v9, some (.int o)]) (fun R rest => ?_) ?_
  ·refine ⟨_, rfl, _, _, rfl, rfl, .inr ⟨by decide, by decide⟩, _, _, rfl, rfl, (by show (0 : Int) < 999917; decide), _, _, rfl, rfl, (by show (0 : Int) < 8; decide), rfl, _, rfl, ?_⟩
   refine ite2 (fun _ => ?_) (fun _ => ?_)
   ·refine ⟨_, rfl, _, rfl, a, _, _, _, rfl, rfl, hHG, rfl, (by show 2 ≤ sizeLine; decide), fun t ht => ?_⟩
    have et := upd_same (H := G1) (a := t) (o := .lst [.int (-1), .int h.m])
    have n1 := same_new ht (.lst [.int (-1), .int h.m])
    have f1' := n1 _ _ f1
    refine ⟨_, rfl, _, _, rfl, rfl, (by show (0 : Int) < 2; decide), ?_⟩
    obtain ⟨v, hv⟩ : ∃ v : Int, atI [V.int (-1), V.int h.m] (mx % 2) = some (.int v) := by
     rcases (show mx % 2 = 0 ∨ mx % 2 = 1 by lia) with z | z
     ·rw [z]
      exact ⟨-1, atI_nat (j := 0) rfl⟩
     ·rw [z]
      exact ⟨h.m, atI_nat (j := 1) rfl⟩
    exact ⟨t, _, _, .int v, rfl, rfl, SqL.of et, hv, rest _ _ ⟨n1, by rw [f1', f1], _, rfl⟩⟩
   ·exact rest _ _ ⟨Same.refl _, rfl, _, rfl⟩
  rintro σ G2 ⟨g2, f2, o, rfl⟩
  rw [f1] at f2
  have sG2 := sG1.trans g2
  refine ⟨_, rfl, .inl ⟨rfl, _, SqL.of f2⟩, _, rfl, _, rfl, _, rfl, (by show 3 ≤ sizeLine; decide), fun t ht => ?_⟩
  have n1 := same_new ht (.tup [.int c, .int k, .int o])
  have et := upd_same (H := G2) (a := t) (o := .tup [.int c, .int k, .int o])
  generalize upd G2 t (.tup [.int c, .int k, .int o]) = G3 at n1 et ⊢
  have f3 := n1 _ _ f2
  have lm := Paired.length hM
  refine ⟨f, mas.map V.ref, .ref t, rfl, rfl, f3, small1000 (by rw [List.length_map, lm]; lia), ?_⟩
  have kt : ∀ b xs, G3 b = some (.tup xs) → upd G3 f (.lst (mas.map V.ref ++ [.ref t])) b = some (.tup xs) := fun b xs z => by
   have : b ≠ f := fun y => by rw [y, f3] at z; cases z
   rw [upd_ne this]
   exact z
  exact ⟨Same.put (sG2.trans n1) hf, ⟨mas ++ [t], ms ++ [⟨c, k, o⟩], by rw [upd_same, List.map_append]; rfl, Paired.snoc (MovesAt.same (fun b xs z => kt _ _ (n1 _ _ (g2 _ _ (g1 _ _ z)))) hM) (kt _ _ et), by rw [List.length_append, List.length_singleton, hl]⟩, _, _, _, _, _, _, _, rfl⟩
 ·rintro σ H' ⟨s2, ⟨mas, ms, e2, hM, hl⟩, lf, v5, v6, v7, v8, v9, v10, rfl⟩
  have hl5 : ms.length ≤ 5 := by lia
  have lm := Paired.length hM
  refine ⟨_, rfl, _, _, rfl, rfl, .inr ⟨by decide, by decide⟩, _, _, rfl, rfl, (by show (0 : Int) < 999907; decide), _, _, rfl, rfl, (by show (0 : Int) < 4; decide), rfl, _, rfl, ?_⟩
  refine ite2 (fun _ => ?_) (fun _ => ?_)
  ·refine ⟨_, rfl, (by show 0 ≤ sizeLine; decide), fun o ho => ?_⟩
   have eo := upd_same (H := H') (a := o) (o := .lst [])
   have sO := same_new ho (.lst [])
   generalize upd H' o (.lst []) = HO at eo sO ⊢
   have fO := sO _ _ e2
   refine ⟨f, o, _, rfl, rfl, SqL.of fO, SqL.of eo, _, rfl, ?_⟩
   refine ite2 (fun c1 => ?_) (fun c1 => ?_)
   ·have hpos : 0 < mas.length := by
     cases z : mas with
     | nil => rw [z] at c1; simp at c1
     | cons x y => simp
    have ela : mas[mas.length - 1]? = some (mas[mas.length - 1]'(by lia)) := List.getElem?_eq_getElem _
    generalize mas[mas.length - 1]'(by lia) = pl at ela
    obtain ⟨ml, hml, hpl⟩ := paired_at hM _ pl ela
    have hat : atI (mas.map V.ref) (-1) = some (.ref pl) := by
     unfold atI ixN
     rw [List.length_map, if_neg (by decide), if_pos (by lia)]
     show (mas.map V.ref)[(-1 + (mas.length : Int)).toNat]? = _
     rw [show (-1 + (mas.length : Int)).toNat = mas.length - 1 by lia, List.getElem?_map, ela]
     rfl
    refine ⟨_, rfl, .inl ⟨rfl, _, SqL.of fO⟩, _, rfl, _, rfl, f, _, _, _, rfl, rfl, SqL.of fO, hat, f, mas.map V.ref, .ref pl, rfl, rfl, fO, small1000 (by rw [List.length_map, lm]; lia), ?_⟩
    have kt : ∀ b xs, HO b = some (.tup xs) → upd HO f (.lst (mas.map V.ref ++ [.ref pl])) b = some (.tup xs) := fun b xs z => by
     have : b ≠ f := fun y => by rw [y, fO] at z; cases z
     rw [upd_ne this]
     exact z
    exact ⟨_, rfl, q f (mas ++ [pl]) (ms ++ [ml]) _ (Same.put (s2.trans sO) hf) (by rw [upd_same, List.map_append]; rfl) (Paired.snoc (MovesAt.same (fun b xs z => kt _ _ (sO _ _ z)) hM) (kt _ _ (sO _ _ hpl))) (by rw [List.length_append, List.length_singleton]; lia)⟩
   ·exact ⟨_, rfl, q f mas ms _ (s2.trans sO) fO (MovesAt.same (fun b xs z => sO _ _ z) hM) (by lia)⟩
  ·exact iteF ⟨_, rfl, q f mas ms _ s2 e2 hM (by lia)⟩
end
noncomputable def exM (a b : Int) (k : Call) : Mv := ⟨k.c, k.k, a + b - k.k⟩
noncomputable def spExch33 (K : PySem.W.Frag) : Sp := fun vs H Q _ => ∃ (a lc : Addr) (h : Hall) (as : List Addr) (ks : List Call) (n : Int), vs = [.ref a, .ref lc, .int n] ∧ SqT K H a (h.row.map V.int) ∧ h.Ok ∧ 2 ≤ h.m ∧ Calls33 H h lc as ks ∧ ∀ H', Same H H' → Q (.bl true) H'
theorem MovesAt.take {H : Hp} {as : List Addr} {ms : List Mv} (h : MovesAt H as ms) (i : Nat) : MovesAt H (as.take i) (ms.take i) := paired_take i h
theorem cut_to (xs : List V) (m : Nat) : cutV xs none (some (m : Int)) = xs.take m := by
 unfold cutV
 rw [HT.sIx_none, show HT.sIx xs.length xs.length (some (m : Int)) = min m xs.length from HT.sIx_nat _ _ m, Nat.sub_zero, List.drop_zero]
 rcases Nat.le_total m xs.length with h | h
 ·rw [Nat.min_eq_left h]
 ·rw [Nat.min_eq_right h, List.take_length, List.take_of_length_le h]
theorem alike_moves {H : Hp} {n : Nat} : ∀ {as bs : List Addr} {ms : List Mv}, MovesAt H as ms → MovesAt H bs ms → Paired (AlikeAt H (n + 1)) (as.map V.ref) (bs.map V.ref)
 | _, _, _, .nil, .nil => .nil
 | _, _, _, .cons (a := a) h t, .cons (a := b) h' t' => by
  refine .cons (.inr ⟨a, b, _, _, rfl, rfl, .inr ⟨h, h'⟩, ?_, (by show 3 ≤ 1000; decide)⟩) (alike_moves t t')
  exact .cons (AlikeB.at (.inr ⟨_, rfl, rfl⟩)) (.cons (AlikeB.at (.inr ⟨_, rfl, rfl⟩)) (.cons (AlikeB.at (.inr ⟨_, rfl, rfl⟩)) .nil))
section
variable {P : Program} {w : World} {K : PySem.W.Frag} {mg : Str → Option Value} {base : Heap}
theorem sc__law_exchange : FnScope ["_law_hall_here", "_law_calls_here", "_law_number_here", "_law_a", "_law_b", "_law_some", "_law_chain", "_law_due_here", "_law_handed", "_law_found"] ["_law_hall_here", "_law_calls_here", "_law_number_here"] (defScope (top 41)) := ⟨rfl, rfl, rfl, by decide +kernel, rfl, by decide +kernel, by decide +kernel⟩
set_option maxHeartbeats 8000000 in
theorem ok_exch33 (T : Txt K mg) (C_moves_of : Callee P w K mg base 3 "moves_of" ["calls", "chain", "a", "b"] (spMovesOf K)) (C__law_alike : Callee P w K mg base 4 "_law_alike" ["_law_found", "_law_due_here"] (spAlike 3)) (C__law_tells : Callee P w K mg base 6 "_law_tells" ["_law_hall_here", "_law_calls_here", "_law_moves_here"] (spTells33 K)) (D : Def K mg "_law_exchange" (top 41) ["_law_hall_here", "_law_calls_here", "_law_number_here"]) : Callee P w K mg base 7 "_law_exchange" ["_law_hall_here", "_law_calls_here", "_law_number_here"] (spExch33 K) := by
 refine D.ok sc__law_exchange (fun vs H Q E h => ?_) (fun ff cdv A outer s H vs Q E hr h => ?_)
 ·obtain ⟨a, lc, h, as, ks, n, rfl, _⟩ := h
  rfl
 obtain ⟨a, lc, h, as, ks, n, rfl, hH, ok, hm2, cs, q⟩ := h
 have b2 := ok.m
 have la := Paired.length cs.c
 have h63 := cs.few
 refine ⟨_, (pss_cons (ps_set (i := 3) sc__law_exchange.nd rfl (Or.inr rfl) (pe_op op_mod (pe_op op_mod (pe_op op_mul (pv 2) pe_int) pe_int) (pe_ix (ix_tupK K) (pv 0) pe_int (fun _ _ => rfl))))
  (pss_cons (ps_set (i := 4) sc__law_exchange.nd rfl (Or.inr rfl) (pe_op op_mod (pe_op op_add (pe_op op_add (pv 3) pe_int) (pe_op op_mod (pe_op op_mod (pe_op op_mul (pv 2) pe_int) pe_int) (pe_op op_sub (pe_ix (ix_tupK K) (pv 0) pe_int (fun _ _ => rfl)) pe_int))) (pe_ix (ix_tupK K) (pv 0) pe_int (fun _ _ => rfl))))
  (pss_cons (ps_comp (i := 5) (own := ["_law_call"]) (fr := [(3, "_law_a"), (4, "_law_b")]) rfl sc__law_exchange.nd rfl rfl (show CompScope ["_law_hall_here", "_law_calls_here", "_law_number_here", "_law_a", "_law_b", "_law_some", "_law_chain", "_law_due_here", "_law_handed", "_law_found"] (defScope (top 41)) _ _ _ from ⟨rfl, by decide +kernel, by decide +kernel, by decide +kernel, by decide +kernel⟩) (pi_listK K (pv 1)) (fun cl C s H ex => ⟨(pg_name (i := 0) (show (["_law_call", "_law_a", "_law_b"] : List Str).Nodup from by decide +kernel) rfl (Or.inl rfl) (Or.inr rfl)), (pif_one (PW.pt (pw_or (pt_cmpR op_eq (pe_ix (ix_tupK K) (pv 0) pe_int (fun _ _ => rfl)) (pv 1) (nomark _)) (pw_or1 (pt_cmpR op_eq (pe_ix (ix_tupK K) (pv 0) pe_int (fun _ _ => rfl)) (pv 2) (nomark _)))))), (pv 0)⟩) rfl)
  (pss_cons (ps_if (pt_cmpR op_eq (pe_op op_mod (pv 2) pe_int) pe_int (nomark _)) (pss_one (ps_set (i := 5) sc__law_exchange.nd rfl (Or.inl rfl) (pe_rev K (pv 5) (pe_un un_neg pe_int)))) pss_nil)
  (pss_cons (ps_comp (i := 6) (own := ["_law_call"]) (fr := []) rfl sc__law_exchange.nd rfl rfl (show CompScope ["_law_hall_here", "_law_calls_here", "_law_number_here", "_law_a", "_law_b", "_law_some", "_law_chain", "_law_due_here", "_law_handed", "_law_found"] (defScope (top 41)) _ _ _ from ⟨rfl, by decide +kernel, by decide +kernel, by decide +kernel, by decide +kernel⟩) (pi_listK K (pv 5)) (fun cl C s H ex => ⟨(pg_name (i := 0) (show (["_law_call"] : List Str).Nodup from by decide +kernel) rfl (Or.inl rfl) (Or.inr rfl)), pif_nil, (pe_ix (ix_tupK K) (pv 0) pe_int (fun _ _ => rfl))⟩) rfl)
  (pss_cons (ps_comp (i := 7) (own := ["_law_call"]) (fr := [(3, "_law_a"), (4, "_law_b")]) rfl sc__law_exchange.nd rfl rfl (show CompScope ["_law_hall_here", "_law_calls_here", "_law_number_here", "_law_a", "_law_b", "_law_some", "_law_chain", "_law_due_here", "_law_handed", "_law_found"] (defScope (top 41)) _ _ _ from ⟨rfl, by decide +kernel, by decide +kernel, by decide +kernel, by decide +kernel⟩) (pi_listK K (pv 5)) (fun cl C s H ex => ⟨(pg_name (i := 0) (show (["_law_call", "_law_a", "_law_b"] : List Str).Nodup from by decide +kernel) rfl (Or.inl rfl) (Or.inr rfl)), pif_nil, (pe_tup (pa_cons (pe_ix (ix_tupK K) (pv 0) pe_int (fun _ _ => rfl)) (pa_cons (pe_ix (ix_tupK K) (pv 0) pe_int (fun _ _ => rfl)) (pa_cons (pe_op op_sub (pe_op op_add (pv 1) (pv 2)) (pe_ix (ix_tupK K) (pv 0) pe_int (fun _ _ => rfl))) pa_nil st_bin) st_sub) st_sub))⟩) rfl)
  (pss_cons (ps_set (i := 8) sc__law_exchange.nd rfl (Or.inl rfl) (pe_lst (pa_cons (pe_callTy (call_listK K) rfl T.m_list boot_list (pa_cons (pv 1) pa_nil st_name)) (pa_cons (pe_callTy (call_listK K) rfl T.m_list boot_list (pa_cons (pv 6) pa_nil st_name)) pa_nil st_call) st_call)))
  (pss_cons (ps_set (i := 9) sc__law_exchange.nd rfl (Or.inl rfl) (pe_fn C_moves_of hr rfl (pa_cons (pe_ix (ix_listK K) (pv 8) pe_int (fun _ _ => rfl)) (pa_cons (pe_ix (ix_listK K) (pv 8) pe_int (fun _ _ => rfl)) (pa_cons (pv 3) (pa_cons (pv 4) pa_nil st_name) st_name) st_sub) st_sub)))
  (pss_cons (ps_if (PW.pt (pw_or (pt_not (pt_truK K (pe_fn C__law_alike hr rfl (pa_cons (pv 9) (pa_cons (pv 7) pa_nil st_name) st_name)) (fun _ => rfl))) (pw_or1 (pt_cmpR (op_neTwoK K (Room.unitsT hr)) (pv 8) (pe_lst (pa_cons (pv 1) (pa_cons (pv 6) pa_nil st_name) st_name)) (nomark _))))) (pss_one (ps_ret pe_bl)) pss_nil)
  (pss_cons (ps_if (pt_not (pt_truK K (pe_fn C__law_tells hr rfl (pa_cons (pv 0) (pa_cons (pv 1) (pa_cons (pv 7) pa_nil st_name) st_name) st_name)) (fun _ => rfl))) (pss_one (ps_ret pe_bl)) pss_nil)
  (pss_one (ps_ret (pe_fn C__law_tells hr rfl (pa_cons (pv 0) (pa_cons (pv 1) (pa_cons (pe_slice (sl_listK K) (pv 7) po_none (po_some (pe_op op_mod (pv 2) pe_int))) pa_nil st_sub) st_name) st_name)))))))))))))), ?_⟩
 refine ⟨_, rfl, _, _, rfl, rfl, .inr ⟨by decide, by decide⟩, _, _, rfl, rfl, (by show (0 : Int) < 999953; decide), _, rfl, a, _, _, _, rfl, rfl, hH, rfl, _, _, rfl, rfl, (by show 0 < h.m; lia), ?_⟩
 refine ⟨_, rfl, _, _, rfl, rfl, _, rfl, _, _, rfl, rfl, .inr ⟨by decide, by decide⟩, _, _, rfl, rfl, (by show (0 : Int) < 999959; decide), _, rfl, a, _, _, _, rfl, rfl, hH, rfl, _, _, rfl, rfl, _, _, rfl, rfl, (by show 0 < h.m - 1; lia), _, _, rfl, rfl, _, rfl, a, _, _, _, rfl, rfl, hH, rfl, _, _, rfl, rfl, (by show 0 < h.m; lia), ?_⟩
 dsimp only [gName]
 generalize n * 39373 % 999953 % h.m = x
 generalize (x + 1 + n * 742938285 % 999959 % (h.m - 1)) % h.m = y
 refine ⟨_, rfl, lc, rfl, ⟨_, SqL.of cs.e⟩, ?_⟩
 refine comp_list (xs := as.map V.ref) (fun j acc σ G => G = H ∧ (∃ bs : List Addr, acc = bs.map V.ref ∧ CallsAt H bs ((ks.take j).filter fun k => decide (k.k = x) || decide (k.k = y))) ∧ ∃ v, σ = [v, some (.int x), some (.int y)])
  ⟨rfl, ⟨[], rfl, .nil⟩, none, rfl⟩ (Nat.le_of_lt (small1000 (by rw [List.length_map]; lia))) (fun j acc σ G gg => ?_) (fun j acc σ G _ gg => by rw [gg.1]; exact SqL.of cs.e) ?_ ?_
 ·obtain ⟨_, ⟨bs, rfl, hb⟩, _⟩ := gg
  have := Paired.length hb
  rw [List.length_map, this]
  exact Nat.le_trans (List.length_filter_le _ _) (by rw [List.length_take]; lia)
 ·rintro j z acc σ G hz ⟨rfl, ⟨bs, rfl, hb⟩, v, rfl⟩
  rw [List.getElem?_map] at hz
  obtain ⟨pc, hpc, rfl⟩ := Option.map_eq_some_iff.mp hz
  obtain ⟨kc, hk1, hk2⟩ := paired_at cs.c j pc hpc
  obtain ⟨ce, x1, x2⟩ := id hk2
  have fs := filter_one (p := fun k => decide (k.k = x) || decide (k.k = y)) hk1
  refine ⟨_, rfl, pc, _, _, _, rfl, rfl, SqT.of x2, rfl, _, rfl, rfl, _, rfl, ?_⟩
  refine ite2 (fun c1 => ?_) (fun c1 => ?_)
  ·have c1' : kc.k = x := by simpa using c1
   refine ⟨_, rfl, rfl, ⟨bs ++ [pc], by rw [List.map_append]; rfl, ?_⟩, _, rfl⟩
   rw [fs, if_pos (by simp [c1'])]
   exact Paired.snoc hb hk2
  have c1' : ¬ kc.k = x := by simpa using c1
  refine ⟨_, rfl, pc, _, _, _, rfl, rfl, SqT.of x2, rfl, _, rfl, rfl, _, rfl, ?_⟩
  refine ite2 (fun c2 => ?_) (fun c2 => ?_)
  ·have c2' : kc.k = y := by simpa using c2
   refine ⟨_, rfl, rfl, ⟨bs ++ [pc], by rw [List.map_append]; rfl, ?_⟩, _, rfl⟩
   rw [fs, if_pos (by simp [c2'])]
   exact Paired.snoc hb hk2
  ·have c2' : ¬ kc.k = y := by simpa using c2
   refine ⟨rfl, ⟨bs, rfl, ?_⟩, _, rfl⟩
   rw [fs, if_neg (by simp [c1', c2']), List.append_nil]
   exact hb
 rintro acc σ G ⟨rfl, ⟨bs, rfl, hb⟩, v, rfl⟩ sl hsl
 rw [List.length_map, la, List.take_length] at hb
 have esl := upd_same (H := G) (a := sl) (o := .lst (bs.map V.ref))
 have s1 := same_new hsl (.lst (bs.map V.ref))
 generalize upd G sl (.lst (bs.map V.ref)) = H1 at esl s1 ⊢
 have hb1 := CallsAt.same (fun b xs z => s1 _ _ z) hb
 have hF : ∀ k ∈ ks.filter (fun k => decide (k.k = x) || decide (k.k = y)), k ∈ ks ∧ (k.k = x ∨ k.k = y) := fun k hk => by
  obtain ⟨h1, h2⟩ := List.mem_filter.mp hk
  exact ⟨h1, by simpa using h2⟩
 have hFl := List.length_filter_le (fun k : Call => decide (k.k = x) || decide (k.k = y)) ks
 generalize ks.filter (fun k => decide (k.k = x) || decide (k.k = y)) = kf at hb1 hF hFl
 dsimp only [gName, tNext]
 refine seq_cut (fun σ' G' => Same G G' ∧ ∃ (sl : Addr) (bs : List Addr) (kf : List Call), G' sl = some (.lst (bs.map V.ref)) ∧ CallsAt G' bs kf ∧ (∀ k ∈ kf, k ∈ ks ∧ (k.k = x ∨ k.k = y)) ∧ kf.length ≤ 63 ∧ σ' = [some (.ref a), some (.ref lc), some (.int n), some (.int x), some (.int y), some (.ref sl), none, none, none, none]) (fun R rest => ?_) ?_
 ·refine ⟨_, rfl, _, _, rfl, rfl, (by show (0 : Int) < 2; decide), rfl, _, rfl, ?_⟩
  refine ite2 (fun _ => ?_) (fun _ => ?_)
  ·refine ⟨_, rfl, _, rfl, sl, _, rfl, rfl, SqL.of esl, fun p hp => ?_⟩
   rw [← List.map_reverse]
   have n1 := same_new hp (.lst (bs.reverse.map V.ref))
   exact rest _ _ ⟨s1.trans n1, p, bs.reverse, kf.reverse, upd_same, CallsAt.same (fun b xs z => n1 _ _ z) (paired_rev hb1), fun k hk => hF k (List.mem_reverse.mp hk), by rw [List.length_reverse]; lia, rfl⟩
  ·exact rest _ _ ⟨s1, sl, bs, kf, esl, hb1, hF, by lia, rfl⟩
 rintro σ H2 ⟨s2, sl, bs, kf, esl, hb, hF, hFl, rfl⟩
 have lb := Paired.length hb
 refine ⟨_, rfl, sl, rfl, ⟨_, SqL.of esl⟩, ?_⟩
 refine comp_list (xs := bs.map V.ref) (fun j acc σ G => G = H2 ∧ acc = ((kf.take j).map Call.c).map V.int ∧ ∃ v, σ = [v])
  ⟨rfl, rfl, none, rfl⟩ (Nat.le_of_lt (small1000 (by rw [List.length_map]; lia))) (fun j acc σ G g => ?_) (fun j acc σ G _ g => by rw [g.1]; exact SqL.of esl) ?_ ?_
 ·obtain ⟨_, rfl, _⟩ := g
  rw [List.length_map, List.length_map, List.length_take]
  lia
 ·rintro j z acc σ G hz ⟨rfl, rfl, v, rfl⟩
  rw [List.getElem?_map] at hz
  obtain ⟨pc, hpc, rfl⟩ := Option.map_eq_some_iff.mp hz
  obtain ⟨kc, hk1, ce, _, hk2⟩ := paired_at hb j pc hpc
  refine ⟨_, rfl, pc, _, _, _, rfl, rfl, SqT.of hk2, rfl, rfl, ?_, _, rfl⟩
  rw [List.take_succ, hk1, List.map_append, List.map_append]
  rfl
 rintro acc σ G2 ⟨rfl, rfl, v, rfl⟩ cl hcl
 rw [show kf.take (bs.map V.ref).length = kf by rw [List.length_map, lb, List.take_length]]
 have ecl := upd_same (H := G2) (a := cl) (o := .lst ((kf.map Call.c).map V.int))
 have s3 := same_new hcl (.lst ((kf.map Call.c).map V.int))
 generalize upd G2 cl (.lst ((kf.map Call.c).map V.int)) = H3 at ecl s3 ⊢
 have esl3 := s3 _ _ esl
 have hb3 := CallsAt.same (fun b xs z => s3 _ _ z) hb
 refine ⟨_, rfl, sl, rfl, ⟨_, SqL.of esl3⟩, ?_⟩
 refine comp_list (xs := bs.map V.ref) (fun j acc σ G => Same H3 G ∧ (∃ ms' : List Addr, acc = ms'.map V.ref ∧ MovesAt G ms' ((kf.take j).map (exM x y))) ∧ ∃ v, σ = [v, some (.int x), some (.int y)])
  ⟨Same.refl _, ⟨[], rfl, .nil⟩, none, rfl⟩ (Nat.le_of_lt (small1000 (by rw [List.length_map]; lia))) (fun j acc σ G g => ?_) (fun j acc σ G _ g => SqL.of (g.1 _ _ esl3)) ?_ ?_
 ·obtain ⟨_, ⟨ms', rfl, hm'⟩, _⟩ := g
  have := Paired.length hm'
  rw [List.length_map, this, List.length_map, List.length_take]
  lia
 ·rintro j z acc σ G hz ⟨g1, ⟨ms', rfl, hm'⟩, v, rfl⟩
  rw [List.getElem?_map] at hz
  obtain ⟨pc, hpc, rfl⟩ := Option.map_eq_some_iff.mp hz
  obtain ⟨kc, hk1, ce, _, hk2⟩ := paired_at hb3 j pc hpc
  have x2 := SqT.of (K := K) (g1 _ _ hk2)
  refine ⟨_, rfl, pc, _, _, _, rfl, rfl, x2, rfl, _, rfl, pc, _, _, _, rfl, rfl, x2, rfl, _, rfl, _, rfl, _, _, rfl, rfl, _, rfl, pc, _, _, _, rfl, rfl, x2, rfl, _, _, rfl, rfl, (by show 3 ≤ sizeLine; decide), fun t ht => ?_⟩
  have n1 := same_new ht (.tup [.int kc.c, .int kc.k, .int (x + y - kc.k)])
  have et := upd_same (H := G) (a := t) (o := .tup [.int kc.c, .int kc.k, .int (x + y - kc.k)])
  generalize upd G t (.tup [.int kc.c, .int kc.k, .int (x + y - kc.k)]) = G5 at n1 et ⊢
  refine ⟨g1.trans n1, ⟨ms' ++ [t], by rw [List.map_append]; rfl, ?_⟩, _, rfl⟩
  rw [List.take_succ, hk1, List.map_append]
  exact Paired.snoc (MovesAt.same (fun b xs z => n1 _ _ z) hm') et
 rintro acc σ G4 ⟨g4, ⟨ms', rfl, hm'⟩, v, rfl⟩ dl hdl
 rw [List.length_map, lb, List.take_length] at hm'
 have edl := upd_same (H := G4) (a := dl) (o := .lst (ms'.map V.ref))
 have n4 := same_new hdl (.lst (ms'.map V.ref))
 have hm4 := MovesAt.same (fun b xs z => n4 _ _ z) hm'
 generalize upd G4 dl (.lst (ms'.map V.ref)) = H4 at edl n4 hm4 ⊢
 have s4 := g4.trans n4
 have lms := Paired.length hm4
 rw [List.length_map] at lms
 have sX := (s2.trans s3).trans s4
 have ecl4 := s4 _ _ ecl
 refine ⟨_, rfl, lc, _, rfl, .inl (SqL.of (sX _ _ cs.e)), fun p1 hp1 => ?_⟩
 have ep1 := upd_same (H := H4) (a := p1) (o := .lst (as.map V.ref))
 have n5 := same_new hp1 (.lst (as.map V.ref))
 generalize upd H4 p1 (.lst (as.map V.ref)) = H5 at ep1 n5 ⊢
 refine ⟨_, rfl, cl, _, rfl, .inl (SqL.of (n5 _ _ ecl4)), fun p2 hp2 => ?_⟩
 have ep2 := upd_same (H := H5) (a := p2) (o := .lst ((kf.map Call.c).map V.int))
 have n6 := same_new hp2 (.lst ((kf.map Call.c).map V.int))
 generalize upd H5 p2 (.lst ((kf.map Call.c).map V.int)) = H6 at ep2 n6 ⊢
 refine ⟨(by show 2 ≤ sizeLine; decide), fun hd hhd => ?_⟩
 have ehd := upd_same (H := H6) (a := hd) (o := .lst [.ref p1, .ref p2])
 have n7 := same_new hhd (.lst [.ref p1, .ref p2])
 generalize upd H6 hd (.lst [.ref p1, .ref p2]) = H7 at ehd n7 ⊢
 have s47 := (n5.trans n6).trans n7
 have sY := sX.trans s47
 have ep17 := n7 _ _ (n6 _ _ ep1)
 have ep27 := n7 _ _ ep2
 have a0 : atI [V.ref p1, V.ref p2] 0 = some (.ref p1) := atI_nat (j := 0) rfl
 have a1 : atI [V.ref p1, V.ref p2] 1 = some (.ref p2) := atI_nat (j := 1) rfl
 refine ⟨_, rfl, hd, _, _, _, rfl, rfl, SqL.of ehd, a0, _, rfl, hd, _, _, _, rfl, rfl, SqL.of ehd, a1, _, rfl, _, rfl, p1, p2, as, ks, kf.map Call.c, x, y, rfl, SqL.of ep17, (cs.same sY).c, cs.up, SqL.of ep27, by rw [List.length_map]; exact hFl, fun c hc => ?_, fun fl fas fms H8 s8 e8 hm8 hl8 hj8 => ?_⟩
 ·obtain ⟨k, hk, rfl⟩ := List.mem_map.mp hc
  exact ⟨k, (hF k hk).1, rfl⟩
 have efm : fms = kf.map (exM x y) := by
  rw [List.length_map] at hl8
  apply List.ext_getElem?
  intro j
  rw [List.getElem?_map]
  cases hk : kf[j]? with
  | none =>
   have := List.getElem?_eq_none_iff.mp hk
   rw [List.getElem?_eq_none (by lia)]
   rfl
  | some k =>
   have hjl := (List.getElem?_eq_some_iff.mp hk).1
   have em : fms[j]? = some (fms[j]'(by lia)) := List.getElem?_eq_getElem _
   generalize fms[j]'(by lia) = m at em
   obtain ⟨h1, h2⟩ := hF k (List.mem_of_getElem? hk)
   have := hj8 j m k em h1 (by rw [List.getElem?_map, hk]; rfl)
   rw [em, this]
   show _ = some (exM x y k)
   unfold exM
   congr 2
   rcases h2 with z | z
   ·rw [if_pos z]
    lia
   ·by_cases w : k.k = x
    ·rw [if_pos w]
     lia
    ·rw [if_neg w]
     lia
 subst efm
 have sZ := sY.trans s8
 have s48 := s47.trans s8
 refine ⟨_, rfl, _, rfl, _, _, rfl, .inr ⟨fl, dl, _, _, rfl, rfl, .inl ⟨e8, s48 _ _ edl⟩, alike_moves hm8 (MovesAt.same (fun b xs z => s48 _ _ z) hm4), by rw [List.length_map, Paired.length hm8, List.length_map]; lia⟩, _, rfl, iteF ?_⟩
 refine ⟨_, rfl, _, rfl, _, rfl, (by show 2 ≤ sizeLine; decide), fun o ho => ?_⟩
 have eo := upd_same (H := H8) (a := o) (o := .lst [.ref lc, .ref cl])
 have n9 := same_new ho (.lst [.ref lc, .ref cl])
 generalize upd H8 o (.lst [.ref lc, .ref cl]) = H9 at eo n9 ⊢
 have s89 := s8.trans n9
 have sW := sY.trans s89
 have s49 := s47.trans s89
 refine ⟨hd, o, p1, p2, lc, cl, _, _, rfl, rfl, SqL.of (s89 _ _ ehd), SqL.of eo, SqL.of (s89 _ _ ep17), SqL.of (sW _ _ cs.e), SqL.of (s89 _ _ ep27), SqL.of (s49 _ _ ecl4), .inl (refs_all as), .inr ⟨_, rfl⟩, _, rfl, iteF ?_⟩
 have hm9 := MovesAt.same (fun b xs z => s49 _ _ z) hm4
 refine ⟨_, rfl, _, rfl, _, rfl, a, lc, dl, h, as, ms', ks, kf.map (exM x y), rfl, Same.seqT sW hH, ok, cs.same sW, s49 _ _ edl, hm9, by rw [List.length_map]; lia, fun HA sA => ⟨_, rfl, iteF ?_⟩⟩
 have sV := sW.trans sA
 have hn3 := mod_in (x := n) (show (0 : Int) < 3 by decide)
 obtain ⟨m, hme⟩ := Int.eq_ofNat_of_zero_le hn3.1
 refine ⟨_, rfl, _, rfl, _, rfl, _, rfl, _, _, rfl, rfl, (by show (0 : Int) < 3; decide), (m : Int), congrArg V.int hme, dl, _, rfl, SqL.of (sA _ _ (s49 _ _ edl)), fun p hp => ?_⟩
 rw [cut_to, ← List.map_take]
 have nB := same_new hp (.lst ((ms'.take m).map V.ref))
 have eB := upd_same (H := HA) (a := p) (o := .lst ((ms'.take m).map V.ref))
 generalize upd HA p (.lst ((ms'.take m).map V.ref)) = HB at nB eB ⊢
 exact ⟨a, lc, p, h, as, ms'.take m, ks, (kf.map (exM x y)).take m, rfl, Same.seqT (sV.trans nB) hH, ok, cs.same (sV.trans nB), eB, (MovesAt.same (fun b xs z => (sA.trans nB) _ _ z) hm9).take m, by rw [List.length_take, List.length_map]; lia, fun HC sC => q _ ((sV.trans nB).trans sC)⟩
end
section
variable {P : Program} {w : World} {K : PySem.W.Frag} {mg : Str → Option Value} {base : Heap}
theorem sc_law : FnScope ["_law_script", "_law_hall_here", "_law_cells", "_law_calls_here", "_law_at", "_law_number_here", "_law_moves_here"] ["_law_script"] (defScope (top 42)) := ⟨rfl, rfl, rfl, by decide +kernel, rfl, by decide +kernel, by decide +kernel⟩
set_option maxHeartbeats 8000000 in
theorem ok_law (T : Txt K mg) (C__law_hall : Callee P w K mg base 2 "_law_hall" ["_law_script"] (spHall K)) (C__law_calls : Callee P w K mg base 3 "_law_calls" ["_law_hall_here", "_law_cells"] (spCalls K)) (C__law_number : Callee P w K mg base 1 "_law_number" ["_law_cell", "_law_at"] spNum) (C__law_moves : Callee P w K mg base 1 "_law_moves" ["_law_hall_here", "_law_calls_here", "_law_number_here"] (spMoves33 K)) (C__law_tells : Callee P w K mg base 6 "_law_tells" ["_law_hall_here", "_law_calls_here", "_law_moves_here"] (spTells33 K)) (C__law_exchange : Callee P w K mg base 7 "_law_exchange" ["_law_hall_here", "_law_calls_here", "_law_number_here"] (spExch33 K)) {f : Addr} {fd : FuncData} (F : Fun K "law" "law" (top 42) f fd) : FnOk P w K mg base CX0 8 f fd ["_law_script"] (spLaw K) := by
 refine F.ok sc_law (fun vs H Q E h => ?_) (fun cdv A outer s H vs Q E hr h => ?_)
 ·obtain ⟨a, ns, rfl, _⟩ := h
  rfl
 obtain ⟨a, ns, rfl, hS, h63, q⟩ := h
 refine ⟨_, (pss_cons (ps_set (i := 1) sc_law.nd rfl (Or.inl rfl) (pe_fn C__law_hall hr rfl (pa_cons (pv 0) pa_nil st_name)))
  (pss_cons (ps_set (i := 2) sc_law.nd rfl (Or.inl rfl) (pe_slice (sl_listK K) (pv 0) (po_some pe_int) (po_some pe_int)))
  (pss_cons (ps_set (i := 3) sc_law.nd rfl (Or.inl rfl) (pe_fn C__law_calls hr rfl (pa_cons (pv 1) (pa_cons (pv 2) pa_nil st_name) st_name)))
  (pss_cons (ps_for PassesOwn.never rfl (pi_range1 rfl T.m_range (pa_cons (pe_callB (call_min2 rfl) rfl T.m_min boot_min (pa_cons (pe_callB (call_lenK K) rfl T.m_len boot_len (pa_cons (pv 2) pa_nil st_name)) (pa_cons pe_int pa_nil st_const) st_call)) pa_nil st_call)) (pg_name (i := 4) sc_law.nd rfl (Or.inl rfl))
  (pss_cons (ps_set (i := 5) sc_law.nd rfl (Or.inl rfl) (pe_op op_add (pe_op op_add (pe_op op_mul (pe_fn C__law_number hr rfl (pa_cons (pe_ix (ix_listK K) (pv 2) (pv 4) (fun _ _ => rfl)) (pa_cons (pv 4) pa_nil st_name) st_sub)) pe_int) (pe_op op_mul pe_int (pv 4))) pe_int))
  (pss_cons (ps_set (i := 6) sc_law.nd rfl (Or.inl rfl) (pe_fn C__law_moves hr rfl (pa_cons (pv 1) (pa_cons (pv 3) (pa_cons (pv 5) pa_nil st_name) st_name) st_name)))
  (pss_cons (ps_if (pt_not (pt_truK K (pe_fn C__law_tells hr rfl (pa_cons (pv 1) (pa_cons (pv 3) (pa_cons (pv 6) pa_nil st_name) st_name) st_name)) (fun _ => rfl))) (pss_one (ps_ret pe_bl)) pss_nil)
  (pss_one (ps_if (pt_not (pt_truK K (pe_fn C__law_exchange hr rfl (pa_cons (pv 1) (pa_cons (pv 3) (pa_cons (pv 5) pa_nil st_name) st_name) st_name)) (fun _ => rfl))) (pss_one (ps_ret pe_bl)) pss_nil))))))
  (pss_one (ps_ret (pe_fn C__law_tells hr rfl (pa_cons (pv 1) (pa_cons (pv 3) (pa_cons (pe_lst pa_nil) pa_nil st_list) st_name) st_name)))))))), ?_⟩
 refine ⟨_, rfl, a, ns, rfl, hS, fun p h H1 ok hm2 s1 ep => ?_⟩
 refine ⟨_, rfl, _, rfl, _, rfl, a, _, rfl, s1.seq hS, fun l hl => ?_⟩
 obtain ⟨cs, hcs, hc63⟩ : ∃ cs : List Int, cutV (ns.map V.int) (some 6) (some 70) = cs.map V.int ∧ cs.length ≤ 63 := by
  refine ⟨(ns.drop (HT.sIx (ns.map V.int).length 0 (some 6))).take (HT.sIx (ns.map V.int).length (ns.map V.int).length (some 70) - HT.sIx (ns.map V.int).length 0 (some 6)), ?_, ?_⟩
  ·unfold cutV
   rw [List.map_take, List.map_drop]
  ·rw [List.length_take, List.length_drop]
   lia
 rw [hcs]
 have el := upd_same (H := H1) (a := l) (o := .lst (cs.map V.int))
 have s2 := same_new hl (.lst (cs.map V.int))
 generalize upd H1 l (.lst (cs.map V.int)) = H2 at el s2 ⊢
 refine ⟨_, rfl, _, rfl, p, l, h, cs, rfl, SqT.of (s2 _ _ ep), ok, SqL.of el, hc63, fun lc as ks H3 s3 ec hC hin up fr hk63 => ?_⟩
 have ep3 := s3 _ _ (s2 _ _ ep)
 have el3 := s3 _ _ el
 have c33 : Calls33 H3 h lc as ks := ⟨ec, hC, hin, up, fr.imp fun {k k'} z e h1 h2 => z (nEnd e) (mem_needs.mpr (.inr (.inr (.inr ⟨e, h1, rfl⟩)))) (mem_needs.mpr (.inr (.inr (.inr ⟨e, h2, rfl⟩)))), hk63⟩
 refine ⟨_, rfl, l, _, rfl, .inl (SqL.of el3), _, _, rfl, _, rfl, ?_, ?_, ?_⟩
 ·show -(2 ^ 62) ≤ (if (12 : Int) < (((cs.map V.int).length : Nat) : Int) then 12 else (((cs.map V.int).length : Nat) : Int))
  split <;> lia
 ·rw [List.length_map]
  show (if (12 : Int) < ((cs.length : Nat) : Int) then 12 else ((cs.length : Nat) : Int)) < 2 ^ 62
  split <;> lia
 rw [List.length_map]
 have bnd : ∀ i : Nat, i < (if (12 : Int) < ((cs.length : Nat) : Int) then (12 : Int) else ((cs.length : Nat) : Int)).toNat → i < cs.length ∧ i < 12 := fun i hi => by
  split at hi <;> lia
 refine for_range (fun i σ H' => Same H3 H' ∧ ∃ v4 v5 v6, σ = [some (.ref a), some (.ref p), some (.ref l), some (.ref lc), v4, v5, v6])
  ⟨Same.refl _, _, _, _, rfl⟩ ?_ ?_
 ·rintro i σ H' hi ⟨s6, v4, v5, v6, rfl⟩
  obtain ⟨hi1, hi2⟩ := bnd i hi
  rw [Int.zero_add]
  refine ⟨_, rfl, _, rfl, l, _, _, _, rfl, rfl, SqL.of (s6 _ _ el3), at_nat hi1, _, rfl, _, i, rfl, by lia, fun n0 hn0 => ?_⟩
  refine ⟨_, _, rfl, rfl, .inr ⟨by decide, by decide⟩, _, rfl, _, _, rfl, rfl, .inl ⟨by decide, by decide⟩, _, _, rfl, rfl, _, _, rfl, rfl, ?_⟩
  refine ⟨_, rfl, _, rfl, _, rfl, p, lc, h, as, ks, _, rfl, SqT.of (s6 _ _ ep3), ok, s6 _ _ ec, (c33.same s6).c, fun ml mas ms H7 s7 e7 hm7 hl7 => ?_⟩
  have s67 := s6.trans s7
  refine ⟨_, rfl, _, rfl, _, rfl, p, lc, ml, h, as, mas, ks, ms, rfl, SqT.of (s67 _ _ ep3), ok, c33.same s67, e7, hm7, by lia, fun H8 s8 => ⟨_, rfl, iteF ?_⟩⟩
  have s68 := s67.trans s8
  refine ⟨_, rfl, _, rfl, _, rfl, p, lc, h, as, ks, _, rfl, SqT.of (s68 _ _ ep3), ok, hm2, c33.same s68, fun H9 s9 => ⟨_, rfl, iteF ?_⟩⟩
  exact ⟨s68.trans s9, _, _, _, rfl⟩
 ·rintro σ H' ⟨s6, v4, v5, v6, rfl⟩
  refine ⟨_, rfl, _, rfl, (by show 0 ≤ sizeLine; decide), fun l0 hl0 => ?_⟩
  have el0 := upd_same (H := H') (a := l0) (o := .lst [])
  have s7 := s6.trans (same_new hl0 (.lst []))
  generalize upd H' l0 (.lst []) = H7 at el0 s7 ⊢
  exact ⟨p, lc, l0, h, as, [], ks, [], rfl, SqT.of (s7 _ _ ep3), ok, c33.same s7, el0, .nil, by decide, fun H8 s8 => q _⟩
end
section
variable {l : PySem.W.OpenLaw} {w : World} {K : PySem.W.Frag} {h : Heap} {mg : Str → Option Value}
theorem def_mk {x : Str} {st : Stmt} {ps : List Str} {f : Addr} {oc : Value} {od an : Option Addr} {sl : Array (Option Value)} {kV dc pm cd ct : Value} (X : K.In h) (G : h.Ns mainGlobals mg) (a : PySem.W.nsIn K mainGlobals x = some (some (.ref f)))
  (l : K.lookup f = some ⟨oc, od, .func (PySem.W.fnOf x x (defArgs st) (defBody st) (defScope st) .none kV dc pm an cd ct), sl⟩) (c : PySem.W.codeIn K cd x = true) (k : PySem.W.keepIn K (.ref f) = true)
  (b : ∀ us : List Value, us.length = ps.length → bindArgs (PySem.W.fnOf x x (defArgs st) (defBody st) (defScope st) .none kV dc pm an cd ct) ⟨us, []⟩ = pure (ps.zip us)) : Def K mg x st ps :=
 ⟨f, _, fun_mk l c k, .all b, PySem.W.mg_of X G a⟩
theorem all_mk {fa f1 f2 f3 f4 f5 f6 f7 f8 f9 f10 f11 f12 f13 f14 f15 f16 f17 f18 f19 f20 f21 f22 f23 f24 f25 f26 f27 f28  C_HallError C_NoHall C_NoCalls C_NoLine C_NoRule C_Idle C_Busy C_Engaged C_NoMove  : Addr} (X : K.In h) (G : h.Ns mainGlobals mg) (hfa : mg "law" = some (.ref fa))
  {od1 an1 od2 an2 od3 an3 od4 an4 od5 an5 od6 an6 od7 an7 od8 an8 od9 an9 od10 an10 od11 an11 od12 an12 od13 an13 od14 an14 od15 an15 od16 an16 od17 an17 od18 an18 od19 an19 od20 an20 od21 an21 od22 an22 od23 an23 od24 an24 od25 an25 od26 an26 od27 an27 od28 an28 : Option Addr} {sl1 sl2 sl3 sl4 sl5 sl6 sl7 sl8 sl9 sl10 sl11 sl12 sl13 sl14 sl15 sl16 sl17 sl18 sl19 sl20 sl21 sl22 sl23 sl24 sl25 sl26 sl27 sl28 : Array (Option Value)} {oc1 kV1 dc1 pm1 cd1 ct1 oc2 kV2 dc2 pm2 cd2 ct2 oc3 kV3 dc3 pm3 cd3 ct3 oc4 kV4 dc4 pm4 cd4 ct4 oc5 kV5 dc5 pm5 cd5 ct5 oc6 kV6 dc6 pm6 cd6 ct6 oc7 kV7 dc7 pm7 cd7 ct7 oc8 kV8 dc8 pm8 cd8 ct8 oc9 kV9 dc9 pm9 cd9 ct9 oc10 kV10 dc10 pm10 cd10 ct10 oc11 kV11 dc11 pm11 cd11 ct11 oc12 kV12 dc12 pm12 cd12 ct12 oc13 kV13 dc13 pm13 cd13 ct13 oc14 kV14 dc14 pm14 cd14 ct14 oc15 kV15 dc15 pm15 cd15 ct15 oc16 kV16 dc16 pm16 cd16 ct16 oc17 kV17 dc17 pm17 cd17 ct17 oc18 kV18 dc18 pm18 cd18 ct18 oc19 kV19 dc19 pm19 cd19 ct19 oc20 kV20 dc20 pm20 cd20 ct20 oc21 kV21 dc21 pm21 cd21 ct21 oc22 kV22 dc22 pm22 cd22 ct22 oc23 kV23 dc23 pm23 cd23 ct23 oc24 kV24 dc24 pm24 cd24 ct24 oc25 kV25 dc25 pm25 cd25 ct25 oc26 kV26 dc26 pm26 cd26 ct26 oc27 kV27 dc27 pm27 cd27 ct27 oc28 kV28 dc28 pm28 cd28 ct28 : Value}
  (a1 : PySem.W.nsIn K mainGlobals "is_number" = some (some (.ref f1))) (l1 : K.lookup f1 = some ⟨oc1, od1, .func (PySem.W.fnOf "is_number" "is_number" (defArgs (top 11)) (defBody (top 11)) (defScope (top 11)) .none kV1 dc1 pm1 an1 cd1 ct1), sl1⟩) (c1 : PySem.W.codeIn K cd1 "is_number" = true) (k1 : PySem.W.keepIn K (.ref f1) = true)
  (a2 : PySem.W.nsIn K mainGlobals "is_whole" = some (some (.ref f2))) (l2 : K.lookup f2 = some ⟨oc2, od2, .func (PySem.W.fnOf "is_whole" "is_whole" (defArgs (top 12)) (defBody (top 12)) (defScope (top 12)) .none kV2 dc2 pm2 an2 cd2 ct2), sl2⟩) (c2 : PySem.W.codeIn K cd2 "is_whole" = true) (k2 : PySem.W.keepIn K (.ref f2) = true)
  (a3 : PySem.W.nsIn K mainGlobals "rises" = some (some (.ref f3))) (l3 : K.lookup f3 = some ⟨oc3, od3, .func (PySem.W.fnOf "rises" "rises" (defArgs (top 13)) (defBody (top 13)) (defScope (top 13)) .none kV3 dc3 pm3 an3 cd3 ct3), sl3⟩) (c3 : PySem.W.codeIn K cd3 "rises" = true) (k3 : PySem.W.keepIn K (.ref f3) = true)
  (a4 : PySem.W.nsIn K mainGlobals "place_in" = some (some (.ref f4))) (l4 : K.lookup f4 = some ⟨oc4, od4, .func (PySem.W.fnOf "place_in" "place_in" (defArgs (top 14)) (defBody (top 14)) (defScope (top 14)) .none kV4 dc4 pm4 an4 cd4 ct4), sl4⟩) (c4 : PySem.W.codeIn K cd4 "place_in" = true) (k4 : PySem.W.keepIn K (.ref f4) = true)
  (a5 : PySem.W.nsIn K mainGlobals "place_out" = some (some (.ref f5))) (l5 : K.lookup f5 = some ⟨oc5, od5, .func (PySem.W.fnOf "place_out" "place_out" (defArgs (top 15)) (defBody (top 15)) (defScope (top 15)) .none kV5 dc5 pm5 an5 cd5 ct5), sl5⟩) (c5 : PySem.W.codeIn K cd5 "place_out" = true) (k5 : PySem.W.keepIn K (.ref f5) = true)
  (a6 : PySem.W.nsIn K mainGlobals "racks_of" = some (some (.ref f6))) (l6 : K.lookup f6 = some ⟨oc6, od6, .func (PySem.W.fnOf "racks_of" "racks_of" (defArgs (top 16)) (defBody (top 16)) (defScope (top 16)) .none kV6 dc6 pm6 an6 cd6 ct6), sl6⟩) (c6 : PySem.W.codeIn K cd6 "racks_of" = true) (k6 : PySem.W.keepIn K (.ref f6) = true)
  (a7 : PySem.W.nsIn K mainGlobals "held_lines" = some (some (.ref f7))) (l7 : K.lookup f7 = some ⟨oc7, od7, .func (PySem.W.fnOf "held_lines" "held_lines" (defArgs (top 18)) (defBody (top 18)) (defScope (top 18)) .none kV7 dc7 pm7 an7 cd7 ct7), sl7⟩) (c7 : PySem.W.codeIn K cd7 "held_lines" = true) (k7 : PySem.W.keepIn K (.ref f7) = true)
  (a8 : PySem.W.nsIn K mainGlobals "are_unlike" = some (some (.ref f8))) (l8 : K.lookup f8 = some ⟨oc8, od8, .func (PySem.W.fnOf "are_unlike" "are_unlike" (defArgs (top 19)) (defBody (top 19)) (defScope (top 19)) .none kV8 dc8 pm8 an8 cd8 ct8), sl8⟩) (c8 : PySem.W.codeIn K cd8 "are_unlike" = true) (k8 : PySem.W.keepIn K (.ref f8) = true)
  (a9 : PySem.W.nsIn K mainGlobals "is_right" = some (some (.ref f9))) (l9 : K.lookup f9 = some ⟨oc9, od9, .func (PySem.W.fnOf "is_right" "is_right" (defArgs (top 20)) (defBody (top 20)) (defScope (top 20)) .none kV9 dc9 pm9 an9 cd9 ct9), sl9⟩) (c9 : PySem.W.codeIn K cd9 "is_right" = true) (k9 : PySem.W.keepIn K (.ref f9) = true)
  (a10 : PySem.W.nsIn K mainGlobals "call_of" = some (some (.ref f10))) (l10 : K.lookup f10 = some ⟨oc10, od10, .func (PySem.W.fnOf "call_of" "call_of" (defArgs (top 22)) (defBody (top 22)) (defScope (top 22)) .none kV10 dc10 pm10 an10 cd10 ct10), sl10⟩) (c10 : PySem.W.codeIn K cd10 "call_of" = true) (k10 : PySem.W.keepIn K (.ref f10) = true)
  (a11 : PySem.W.nsIn K mainGlobals "moves_of" = some (some (.ref f11))) (l11 : K.lookup f11 = some ⟨oc11, od11, .func (PySem.W.fnOf "moves_of" "moves_of" (defArgs (top 24)) (defBody (top 24)) (defScope (top 24)) .none kV11 dc11 pm11 an11 cd11 ct11), sl11⟩) (c11 : PySem.W.codeIn K cd11 "moves_of" = true) (k11 : PySem.W.keepIn K (.ref f11) = true)
  (a12 : PySem.W.nsIn K mainGlobals "refuse_move" = some (some (.ref f12))) (l12 : K.lookup f12 = some ⟨oc12, od12, .func (PySem.W.fnOf "refuse_move" "refuse_move" (defArgs (top 25)) (defBody (top 25)) (defScope (top 25)) .none kV12 dc12 pm12 an12 cd12 ct12), sl12⟩) (c12 : PySem.W.codeIn K cd12 "refuse_move" = true) (k12 : PySem.W.keepIn K (.ref f12) = true)
  (a13 : PySem.W.nsIn K mainGlobals "moved" = some (some (.ref f13))) (l13 : K.lookup f13 = some ⟨oc13, od13, .func (PySem.W.fnOf "moved" "moved" (defArgs (top 26)) (defBody (top 26)) (defScope (top 26)) .none kV13 dc13 pm13 an13 cd13 ct13), sl13⟩) (c13 : PySem.W.codeIn K cd13 "moved" = true) (k13 : PySem.W.keepIn K (.ref f13) = true)
  (a14 : PySem.W.nsIn K mainGlobals "_law_cell_at" = some (some (.ref f14))) (l14 : K.lookup f14 = some ⟨oc14, od14, .func (PySem.W.fnOf "_law_cell_at" "_law_cell_at" (defArgs (top 28)) (defBody (top 28)) (defScope (top 28)) .none kV14 dc14 pm14 an14 cd14 ct14), sl14⟩) (c14 : PySem.W.codeIn K cd14 "_law_cell_at" = true) (k14 : PySem.W.keepIn K (.ref f14) = true)
  (a15 : PySem.W.nsIn K mainGlobals "_law_hall" = some (some (.ref f15))) (l15 : K.lookup f15 = some ⟨oc15, od15, .func (PySem.W.fnOf "_law_hall" "_law_hall" (defArgs (top 29)) (defBody (top 29)) (defScope (top 29)) .none kV15 dc15 pm15 an15 cd15 ct15), sl15⟩) (c15 : PySem.W.codeIn K cd15 "_law_hall" = true) (k15 : PySem.W.keepIn K (.ref f15) = true)
  (a16 : PySem.W.nsIn K mainGlobals "_law_ends" = some (some (.ref f16))) (l16 : K.lookup f16 = some ⟨oc16, od16, .func (PySem.W.fnOf "_law_ends" "_law_ends" (defArgs (top 30)) (defBody (top 30)) (defScope (top 30)) .none kV16 dc16 pm16 an16 cd16 ct16), sl16⟩) (c16 : PySem.W.codeIn K cd16 "_law_ends" = true) (k16 : PySem.W.keepIn K (.ref f16) = true)
  (a17 : PySem.W.nsIn K mainGlobals "_law_lines" = some (some (.ref f17))) (l17 : K.lookup f17 = some ⟨oc17, od17, .func (PySem.W.fnOf "_law_lines" "_law_lines" (defArgs (top 31)) (defBody (top 31)) (defScope (top 31)) .none kV17 dc17 pm17 an17 cd17 ct17), sl17⟩) (c17 : PySem.W.codeIn K cd17 "_law_lines" = true) (k17 : PySem.W.keepIn K (.ref f17) = true)
  (a18 : PySem.W.nsIn K mainGlobals "_law_number" = some (some (.ref f18))) (l18 : K.lookup f18 = some ⟨oc18, od18, .func (PySem.W.fnOf "_law_number" "_law_number" (defArgs (top 32)) (defBody (top 32)) (defScope (top 32)) .none kV18 dc18 pm18 an18 cd18 ct18), sl18⟩) (c18 : PySem.W.codeIn K cd18 "_law_number" = true) (k18 : PySem.W.keepIn K (.ref f18) = true)
  (a19 : PySem.W.nsIn K mainGlobals "_law_try" = some (some (.ref f19))) (l19 : K.lookup f19 = some ⟨oc19, od19, .func (PySem.W.fnOf "_law_try" "_law_try" (defArgs (top 33)) (defBody (top 33)) (defScope (top 33)) .none kV19 dc19 pm19 an19 cd19 ct19), sl19⟩) (c19 : PySem.W.codeIn K cd19 "_law_try" = true) (k19 : PySem.W.keepIn K (.ref f19) = true)
  (a20 : PySem.W.nsIn K mainGlobals "_law_calls" = some (some (.ref f20))) (l20 : K.lookup f20 = some ⟨oc20, od20, .func (PySem.W.fnOf "_law_calls" "_law_calls" (defArgs (top 34)) (defBody (top 34)) (defScope (top 34)) .none kV20 dc20 pm20 an20 cd20 ct20), sl20⟩) (c20 : PySem.W.codeIn K cd20 "_law_calls" = true) (k20 : PySem.W.keepIn K (.ref f20) = true)
  (a21 : PySem.W.nsIn K mainGlobals "_law_alike" = some (some (.ref f21))) (l21 : K.lookup f21 = some ⟨oc21, od21, .func (PySem.W.fnOf "_law_alike" "_law_alike" (defArgs (top 35)) (defBody (top 35)) (defScope (top 35)) .none kV21 dc21 pm21 an21 cd21 ct21), sl21⟩) (c21 : PySem.W.codeIn K cd21 "_law_alike" = true) (k21 : PySem.W.keepIn K (.ref f21) = true)
  (a22 : PySem.W.nsIn K mainGlobals "_law_kind" = some (some (.ref f22))) (l22 : K.lookup f22 = some ⟨oc22, od22, .func (PySem.W.fnOf "_law_kind" "_law_kind" (defArgs (top 36)) (defBody (top 36)) (defScope (top 36)) .none kV22 dc22 pm22 an22 cd22 ct22), sl22⟩) (c22 : PySem.W.codeIn K cd22 "_law_kind" = true) (k22 : PySem.W.keepIn K (.ref f22) = true)
  (a23 : PySem.W.nsIn K mainGlobals "_law_right" = some (some (.ref f23))) (l23 : K.lookup f23 = some ⟨oc23, od23, .func (PySem.W.fnOf "_law_right" "_law_right" (defArgs (top 37)) (defBody (top 37)) (defScope (top 37)) .none kV23 dc23 pm23 an23 cd23 ct23), sl23⟩) (c23 : PySem.W.codeIn K cd23 "_law_right" = true) (k23 : PySem.W.keepIn K (.ref f23) = true)
  (a24 : PySem.W.nsIn K mainGlobals "_law_due" = some (some (.ref f24))) (l24 : K.lookup f24 = some ⟨oc24, od24, .func (PySem.W.fnOf "_law_due" "_law_due" (defArgs (top 38)) (defBody (top 38)) (defScope (top 38)) .none kV24 dc24 pm24 an24 cd24 ct24), sl24⟩) (c24 : PySem.W.codeIn K cd24 "_law_due" = true) (k24 : PySem.W.keepIn K (.ref f24) = true)
  (a25 : PySem.W.nsIn K mainGlobals "_law_tells" = some (some (.ref f25))) (l25 : K.lookup f25 = some ⟨oc25, od25, .func (PySem.W.fnOf "_law_tells" "_law_tells" (defArgs (top 39)) (defBody (top 39)) (defScope (top 39)) .none kV25 dc25 pm25 an25 cd25 ct25), sl25⟩) (c25 : PySem.W.codeIn K cd25 "_law_tells" = true) (k25 : PySem.W.keepIn K (.ref f25) = true)
  (a26 : PySem.W.nsIn K mainGlobals "_law_moves" = some (some (.ref f26))) (l26 : K.lookup f26 = some ⟨oc26, od26, .func (PySem.W.fnOf "_law_moves" "_law_moves" (defArgs (top 40)) (defBody (top 40)) (defScope (top 40)) .none kV26 dc26 pm26 an26 cd26 ct26), sl26⟩) (c26 : PySem.W.codeIn K cd26 "_law_moves" = true) (k26 : PySem.W.keepIn K (.ref f26) = true)
  (a27 : PySem.W.nsIn K mainGlobals "_law_exchange" = some (some (.ref f27))) (l27 : K.lookup f27 = some ⟨oc27, od27, .func (PySem.W.fnOf "_law_exchange" "_law_exchange" (defArgs (top 41)) (defBody (top 41)) (defScope (top 41)) .none kV27 dc27 pm27 an27 cd27 ct27), sl27⟩) (c27 : PySem.W.codeIn K cd27 "_law_exchange" = true) (k27 : PySem.W.keepIn K (.ref f27) = true)
  (a28 : PySem.W.nsIn K mainGlobals "law" = some (some (.ref f28))) (l28 : K.lookup f28 = some ⟨oc28, od28, .func (PySem.W.fnOf "law" "law" (defArgs (top 42)) (defBody (top 42)) (defScope (top 42)) .none kV28 dc28 pm28 an28 cd28 ct28), sl28⟩) (c28 : PySem.W.codeIn K cd28 "law" = true) (k28 : PySem.W.keepIn K (.ref f28) = true)
  (q_HallError_at : PySem.W.nsIn K mainGlobals "HallError" = some (some (.ref C_HallError)))
  (q_NoHall_at : PySem.W.nsIn K mainGlobals "NoHall" = some (some (.ref C_NoHall)))
  (q_NoCalls_at : PySem.W.nsIn K mainGlobals "NoCalls" = some (some (.ref C_NoCalls)))
  (q_NoLine_at : PySem.W.nsIn K mainGlobals "NoLine" = some (some (.ref C_NoLine)))
  (q_NoRule_at : PySem.W.nsIn K mainGlobals "NoRule" = some (some (.ref C_NoRule)))
  (q_Idle_at : PySem.W.nsIn K mainGlobals "Idle" = some (some (.ref C_Idle)))
  (q_Busy_at : PySem.W.nsIn K mainGlobals "Busy" = some (some (.ref C_Busy)))
  (q_Engaged_at : PySem.W.nsIn K mainGlobals "Engaged" = some (some (.ref C_Engaged)))
  (q_NoMove_at : PySem.W.nsIn K mainGlobals "NoMove" = some (some (.ref C_NoMove)))
  (q_HallError_ic : PySem.W.isClsIn K C_HallError = true) (q_HallError_ty : PySem.W.typeIn K (.ref C_HallError) = some (.type "type"))
  (q_NoHall_ic : PySem.W.isClsIn K C_NoHall = true) (q_NoHall_ty : PySem.W.typeIn K (.ref C_NoHall) = some (.type "type"))
  (q_NoCalls_ic : PySem.W.isClsIn K C_NoCalls = true) (q_NoCalls_ty : PySem.W.typeIn K (.ref C_NoCalls) = some (.type "type"))
  (q_NoLine_ic : PySem.W.isClsIn K C_NoLine = true) (q_NoLine_ty : PySem.W.typeIn K (.ref C_NoLine) = some (.type "type"))
  (q_NoRule_ic : PySem.W.isClsIn K C_NoRule = true) (q_NoRule_ty : PySem.W.typeIn K (.ref C_NoRule) = some (.type "type"))
  (q_Idle_ic : PySem.W.isClsIn K C_Idle = true) (q_Idle_ty : PySem.W.typeIn K (.ref C_Idle) = some (.type "type"))
  (q_Busy_ic : PySem.W.isClsIn K C_Busy = true) (q_Busy_ty : PySem.W.typeIn K (.ref C_Busy) = some (.type "type"))
  (q_Engaged_ic : PySem.W.isClsIn K C_Engaged = true) (q_Engaged_ty : PySem.W.typeIn K (.ref C_Engaged) = some (.type "type"))
  (q_NoMove_ic : PySem.W.isClsIn K C_NoMove = true) (q_NoMove_ty : PySem.W.typeIn K (.ref C_NoMove) = some (.type "type"))
  (q_hb : PySem.W.subIn K (.ref C_HallError) (.type "BaseException") = some true) (q_gt : PySem.W.specialIn K (.builtin "object.__class__") "__get__" = some (some (.builtin "getset_descriptor.__get__"))) (q_tk : PySem.W.takesIn K (.builtin "object.__class__") = some true)
  (q_NoMove_ex : PySem.W.excIn K C_NoMove [.type "ValueError", .type "Exception", .type "BaseException", .type "object"] "ValueError.__new__" = true) (q_NoMove_ga : PySem.W.findIn K (.ref C_NoMove) "__getattribute__" = some (some (.builtin "BaseException.__getattribute__"))) (q_NoMove_gn : PySem.W.findIn K (.ref C_NoMove) "__getattr__" = some none) (q_NoMove_cl : PySem.W.findIn K (.ref C_NoMove) "__class__" = some (some (.builtin "object.__class__"))) (q_NoMove_mo : PySem.W.mroIn K C_NoMove (.type "object") = some true) (q_NoMove_mb : PySem.W.mroIn K C_NoMove (.type "BaseException") = some true) (q_NoMove_sv : PySem.W.subIn K (.ref C_NoMove) (.type "ValueError") = some true)
  (q_NoMove_s_HallError : PySem.W.subIn K (.ref C_NoMove) (.ref C_HallError) = some true)
  (q_NoMove_s_NoHall : PySem.W.subIn K (.ref C_NoMove) (.ref C_NoHall) = some false)
  (q_NoMove_s_NoCalls : PySem.W.subIn K (.ref C_NoMove) (.ref C_NoCalls) = some false)
  (q_NoMove_s_NoLine : PySem.W.subIn K (.ref C_NoMove) (.ref C_NoLine) = some false)
  (q_NoMove_s_NoRule : PySem.W.subIn K (.ref C_NoMove) (.ref C_NoRule) = some false)
  (q_NoMove_s_Idle : PySem.W.subIn K (.ref C_NoMove) (.ref C_Idle) = some false)
  (q_NoMove_s_Busy : PySem.W.subIn K (.ref C_NoMove) (.ref C_Busy) = some false)
  (q_NoMove_s_Engaged : PySem.W.subIn K (.ref C_NoMove) (.ref C_Engaged) = some false)
  (q_NoMove_s_NoMove : PySem.W.subIn K (.ref C_NoMove) (.ref C_NoMove) = some true)
  (z_len : PySem.W.nsIn K mainGlobals "len" = some none) (z_isinstance : PySem.W.nsIn K mainGlobals "isinstance" = some none) (z_int : PySem.W.nsIn K mainGlobals "int" = some none) (z_bool : PySem.W.nsIn K mainGlobals "bool" = some none) (z_tuple : PySem.W.nsIn K mainGlobals "tuple" = some none) (z_list : PySem.W.nsIn K mainGlobals "list" = some none) (z_set : PySem.W.nsIn K mainGlobals "set" = some none) (z_sorted : PySem.W.nsIn K mainGlobals "sorted" = some none) (z_divmod : PySem.W.nsIn K mainGlobals "divmod" = some none) (z_range : PySem.W.nsIn K mainGlobals "range" = some none) (z_abs : PySem.W.nsIn K mainGlobals "abs" = some none) (z_min : PySem.W.nsIn K mainGlobals "min" = some none) (z_zip : PySem.W.nsIn K mainGlobals "zip" = some none) (z_all : PySem.W.nsIn K mainGlobals "all" = some none) (z_dict : PySem.W.nsIn K mainGlobals "dict" = some none) (z_ValueError : PySem.W.nsIn K mainGlobals "ValueError" = some none) :
  ∃ fd : FuncData, (∀ (s : Shared) (v : Value), BindsTo s fd ⟨[v], []⟩ [("_law_script", v)]) ∧ ∀ base : Heap, K.In base → base.Ns mainGlobals mg → FnOk l.prog w K mg base CX0 8 fa fd ["_law_script"] (spLaw K) := by
 have e := hfa.symm.trans (PySem.W.mg_of X G a28)
 cases e
 have T : Txt K mg := ⟨PySem.W.mg_none_of X G z_len, PySem.W.mg_none_of X G z_isinstance, PySem.W.mg_none_of X G z_int, PySem.W.mg_none_of X G z_bool, PySem.W.mg_none_of X G z_tuple, PySem.W.mg_none_of X G z_list, PySem.W.mg_none_of X G z_set, PySem.W.mg_none_of X G z_sorted, PySem.W.mg_none_of X G z_divmod, PySem.W.mg_none_of X G z_range, PySem.W.mg_none_of X G z_abs, PySem.W.mg_none_of X G z_min, PySem.W.mg_none_of X G z_zip, PySem.W.mg_none_of X G z_all, PySem.W.mg_none_of X G z_dict, PySem.W.mg_none_of X G z_ValueError⟩
 have Z : TxtC K mg C_HallError C_NoHall C_NoCalls C_NoLine C_NoRule C_Idle C_Busy C_Engaged C_NoMove := ⟨PySem.W.mg_of X G q_HallError_at, PySem.W.mg_of X G q_NoHall_at, PySem.W.mg_of X G q_NoCalls_at, PySem.W.mg_of X G q_NoLine_at, PySem.W.mg_of X G q_NoRule_at, PySem.W.mg_of X G q_Idle_at, PySem.W.mg_of X G q_Busy_at, PySem.W.mg_of X G q_Engaged_at, PySem.W.mg_of X G q_NoMove_at, ⟨PySem.W.mg_of X G q_NoMove_at, q_NoMove_ex⟩, ⟨q_NoMove_ga, q_NoMove_gn, q_NoMove_cl, q_gt, q_tk, q_NoMove_mo, q_NoMove_mb, q_NoMove_ic⟩, kit_val q_NoMove_sv, exm_own q_HallError_ic q_HallError_ty q_NoMove_s_HallError q_hb, kit_own q_HallError_ic q_HallError_ty q_NoMove_s_HallError, kit_not q_NoHall_ic q_NoHall_ty q_NoMove_s_NoHall q_NoMove_s_NoMove, kit_not q_NoCalls_ic q_NoCalls_ty q_NoMove_s_NoCalls q_NoMove_s_NoMove, kit_not q_NoLine_ic q_NoLine_ty q_NoMove_s_NoLine q_NoMove_s_NoMove, kit_not q_NoRule_ic q_NoRule_ty q_NoMove_s_NoRule q_NoMove_s_NoMove, kit_not q_Idle_ic q_Idle_ty q_NoMove_s_Idle q_NoMove_s_NoMove, kit_not q_Busy_ic q_Busy_ty q_NoMove_s_Busy q_NoMove_s_NoMove, kit_not q_Engaged_ic q_Engaged_ty q_NoMove_s_Engaged q_NoMove_s_NoMove, kit_own q_NoMove_ic q_NoMove_ty q_NoMove_s_NoMove⟩
 have D_is_number : Def K mg "is_number" (top 11) ["thing"] := def_mk X G a1 l1 c1 k1 fun us hl => match us, hl with | [_], _ => rfl
 have D_is_whole : Def K mg "is_whole" (top 12) ["thing", "least", "most"] := def_mk X G a2 l2 c2 k2 fun us hl => match us, hl with | [_, _, _], _ => rfl
 have D_rises : Def K mg "rises" (top 13) ["numbers"] := def_mk X G a3 l3 c3 k3 fun us hl => match us, hl with | [_], _ => rfl
 have D_place_in : Def K mg "place_in" (top 14) ["hall", "caller"] := def_mk X G a4 l4 c4 k4 fun us hl => match us, hl with | [_, _], _ => rfl
 have D_place_out : Def K mg "place_out" (top 15) ["hall", "end"] := def_mk X G a5 l5 c5 k5 fun us hl => match us, hl with | [_, _], _ => rfl
 have D_racks_of : Def K mg "racks_of" (top 16) ["hall", "ends"] := def_mk X G a6 l6 c6 k6 fun us hl => match us, hl with | [_, _], _ => rfl
 have D_held_lines : Def K mg "held_lines" (top 18) ["hall", "call"] := def_mk X G a7 l7 c7 k7 fun us hl => match us, hl with | [_, _], _ => rfl
 have D_are_unlike : Def K mg "are_unlike" (top 19) ["some"] := def_mk X G a8 l8 c8 k8 fun us hl => match us, hl with | [_], _ => rfl
 have D_is_right : Def K mg "is_right" (top 20) ["hall", "calls"] := def_mk X G a9 l9 c9 k9 fun us hl => match us, hl with | [_, _], _ => rfl
 have D_call_of : Def K mg "call_of" (top 22) ["calls", "caller"] := def_mk X G a10 l10 c10 k10 fun us hl => match us, hl with | [_, _], _ => rfl
 have D_moves_of : Def K mg "moves_of" (top 24) ["calls", "chain", "a", "b"] := def_mk X G a11 l11 c11 k11 fun us hl => match us, hl with | [_, _, _, _], _ => rfl
 have D_refuse_move : Def K mg "refuse_move" (top 25) ["hall", "calls", "goals", "move"] := def_mk X G a12 l12 c12 k12 fun us hl => match us, hl with | [_, _, _, _], _ => rfl
 have D_moved : Def K mg "moved" (top 26) ["hall", "calls", "moves"] := def_mk X G a13 l13 c13 k13 fun us hl => match us, hl with | [_, _, _], _ => rfl
 have D__law_cell_at : Def K mg "_law_cell_at" (top 28) ["_law_script", "_law_k"] := def_mk X G a14 l14 c14 k14 fun us hl => match us, hl with | [_, _], _ => rfl
 have D__law_hall : Def K mg "_law_hall" (top 29) ["_law_script"] := def_mk X G a15 l15 c15 k15 fun us hl => match us, hl with | [_], _ => rfl
 have D__law_ends : Def K mg "_law_ends" (top 30) ["_law_hall_here", "_law_number_here"] := def_mk X G a16 l16 c16 k16 fun us hl => match us, hl with | [_, _], _ => rfl
 have D__law_lines : Def K mg "_law_lines" (top 31) ["_law_hall_here", "_law_caller", "_law_ends_here", "_law_k"] := def_mk X G a17 l17 c17 k17 fun us hl => match us, hl with | [_, _, _, _], _ => rfl
 have D__law_number : Def K mg "_law_number" (top 32) ["_law_cell", "_law_at"] := def_mk X G a18 l18 c18 k18 fun us hl => match us, hl with | [_, _], _ => rfl
 have D__law_try : Def K mg "_law_try" (top 33) ["_law_hall_here", "_law_taken", "_law_number_here"] := def_mk X G a19 l19 c19 k19 fun us hl => match us, hl with | [_, _, _], _ => rfl
 have D__law_calls : Def K mg "_law_calls" (top 34) ["_law_hall_here", "_law_cells"] := def_mk X G a20 l20 c20 k20 fun us hl => match us, hl with | [_, _], _ => rfl
 have D__law_alike : Def K mg "_law_alike" (top 35) ["_law_found", "_law_due_here"] := def_mk X G a21 l21 c21 k21 fun us hl => match us, hl with | [_, _], _ => rfl
 have D__law_kind : Def K mg "_law_kind" (top 36) ["_law_e"] := def_mk X G a22 l22 c22 k22 fun us hl => match us, hl with | [_], _ => rfl
 have D__law_right : Def K mg "_law_right" (top 37) ["_law_hall_here", "_law_calls_here"] := def_mk X G a23 l23 c23 k23 fun us hl => match us, hl with | [_, _], _ => rfl
 have D__law_due : Def K mg "_law_due" (top 38) ["_law_hall_here", "_law_calls_here", "_law_moves_here"] := def_mk X G a24 l24 c24 k24 fun us hl => match us, hl with | [_, _, _], _ => rfl
 have D__law_tells : Def K mg "_law_tells" (top 39) ["_law_hall_here", "_law_calls_here", "_law_moves_here"] := def_mk X G a25 l25 c25 k25 fun us hl => match us, hl with | [_, _, _], _ => rfl
 have D__law_moves : Def K mg "_law_moves" (top 40) ["_law_hall_here", "_law_calls_here", "_law_number_here"] := def_mk X G a26 l26 c26 k26 fun us hl => match us, hl with | [_, _, _], _ => rfl
 have D__law_exchange : Def K mg "_law_exchange" (top 41) ["_law_hall_here", "_law_calls_here", "_law_number_here"] := def_mk X G a27 l27 c27 k27 fun us hl => match us, hl with | [_, _, _], _ => rfl
 have F := fun_mk (st := top 42) l28 c28 k28
 refine ⟨PySem.W.fnOf "law" "law" (defArgs (top 42)) (defBody (top 42)) (defScope (top 42)) .none kV28 dc28 pm28 an28 cd28 ct28, fun s v => .of_eq rfl, fun base _ _ => ?_⟩
 have C_cell := ok_cell (P := l.prog) (w := w) (base := base) T D__law_cell_at
 have C_lines := ok_lines (P := l.prog) (w := w) (base := base) T D__law_lines
 have C_ends := ok_ends (P := l.prog) (w := w) (base := base) T D__law_ends
 have C_num := ok_number (P := l.prog) (w := w) (base := base) T D__law_number
 have C_is := ok_is_number (P := l.prog) (w := w) (base := base) T D_is_number
 have C_co := ok_call_of (P := l.prog) (w := w) (base := base) T C_is D_call_of
 have C_pi := ok_place_in (P := l.prog) (w := w) (base := base) T D_place_in
 have C_ra := ok_racks (P := l.prog) (w := w) (base := base) T (ok_place_out T D_place_out) D_racks_of
 have C_right := ok_is_right (P := l.prog) (w := w) (base := base) T (ok_heldl T C_pi C_ra D_held_lines) (ok_risesL T D_rises) (ok_unlike T D_are_unlike) D_is_right
 have C_re := ok_refuse (P := l.prog) (w := w) (base := base) T Z C_co (ok_is_whole T C_is D_is_whole) D_refuse_move
 have C_mv := ok_moved (P := l.prog) (w := w) (base := base) T Z C_re C_right D_moved
 have C_du := ok_due33 (P := l.prog) (w := w) (base := base) T (ok_right33 T C_lines D__law_right) D__law_due
 have C_al := ok_alike (P := l.prog) (w := w) (base := base) T D__law_alike 3
 have C_te := ok_tells33 (P := l.prog) (w := w) (base := base) T Z C_du C_mv (ok_kind T Z D__law_kind) C_al D__law_tells
 exact ok_law T (ok_hall T C_cell D__law_hall) (ok_calls T C_num (ok_try T C_ends C_lines D__law_try) D__law_calls) C_num (ok_moves33 T D__law_moves) C_te (ok_exch33 T (ok_moves_of T C_co D_moves_of) C_al C_te D__law_exchange) F
end
theorem walk {l : PySem.W.OpenLaw} {q : Program} {loose : List Str} {XP : (Str → Option Value) → Heap → Prop} {YP : World → Heap → Prop} {d : DefRec} {K : Params → PySem.W.Frag} (hn : l.most = some 63) (hdf : d.params.defaults = [])
  (hY : ∀ (w : World) (h : Heap), YP w h → (K w.params).In h)
  (F : ∀ (w : World) (mg : Str → Option Value) (fa : Addr) (h : Heap), (K w.params).In h → h.Ns mainGlobals mg → mg d.name = some (.ref fa) →
   ∃ fd : FuncData, (∀ (s : Shared) (u : Value), BindsTo s fd ⟨[u], []⟩ [("_law_script", u)]) ∧ ∀ base : Heap, (K w.params).In base → base.Ns mainGlobals mg → FnOk l.prog w (K w.params) mg base CX0 8 fa fd ["_law_script"] (spLaw (K w.params))) :
  PySem.W.WalkO q loose XP YP l.row.toRowW d [] (fun f vs => PySem.call f vs) :=
 L2.walk_of (n := 63) (k := 8) (x := "_law_script") (CX := fun _ => CX0) (sp := fun w => spLaw (K w.params)) hn (by decide) hdf ⟨rfl, by decide, by decide⟩ hY F (fun _ _ a ns hl _ hS => ⟨a, ns, rfl, hS, hl, fun _ => rfl⟩) fun _ _ _ _ _ z => z
end My
open PySem PySem.W PyProof.Rows
set_option maxRecDepth 100000 in
set_option maxHeartbeats 0 in
theorem PySem.Challenge.cw_crossracks_k33_moves_holds : PySem.Challenge.rw_crossracks_k33_moves.Holds := by
 w_on; o_law; k_head; (case hw => w_witness2)
 k_fill
 refine My.walk (l := PySem.Challenge.rw_crossracks_k33_moves) rfl rfl (fun w h Y => PySem.W.kIn_of Y) ?F
 case F =>
  intro w mg fa h KX G hmg
  refine' My.all_mk KX G hmg ?a1 ?l1 ?c1 ?k1 ?a2 ?l2 ?c2 ?k2 ?a3 ?l3 ?c3 ?k3 ?a4 ?l4 ?c4 ?k4 ?a5 ?l5 ?c5 ?k5 ?a6 ?l6 ?c6 ?k6 ?a7 ?l7 ?c7 ?k7 ?a8 ?l8 ?c8 ?k8 ?a9 ?l9 ?c9 ?k9 ?a10 ?l10 ?c10 ?k10 ?a11 ?l11 ?c11 ?k11 ?a12 ?l12 ?c12 ?k12 ?a13 ?l13 ?c13 ?k13 ?a14 ?l14 ?c14 ?k14 ?a15 ?l15 ?c15 ?k15 ?a16 ?l16 ?c16 ?k16 ?a17 ?l17 ?c17 ?k17 ?a18 ?l18 ?c18 ?k18 ?a19 ?l19 ?c19 ?k19 ?a20 ?l20 ?c20 ?k20 ?a21 ?l21 ?c21 ?k21 ?a22 ?l22 ?c22 ?k22 ?a23 ?l23 ?c23 ?k23 ?a24 ?l24 ?c24 ?k24 ?a25 ?l25 ?c25 ?k25 ?a26 ?l26 ?c26 ?k26 ?a27 ?l27 ?c27 ?k27 ?a28 ?l28 ?c28 ?k28   ?q_HallError_at ?q_NoHall_at ?q_NoCalls_at ?q_NoLine_at ?q_NoRule_at ?q_Idle_at ?q_Busy_at ?q_Engaged_at ?q_NoMove_at ?q_HallError_ic ?q_HallError_ty ?q_NoHall_ic ?q_NoHall_ty ?q_NoCalls_ic ?q_NoCalls_ty ?q_NoLine_ic ?q_NoLine_ty ?q_NoRule_ic ?q_NoRule_ty ?q_Idle_ic ?q_Idle_ty ?q_Busy_ic ?q_Busy_ty ?q_Engaged_ic ?q_Engaged_ty ?q_NoMove_ic ?q_NoMove_ty ?q_hb ?q_gt ?q_tk ?q_NoMove_ex ?q_NoMove_ga ?q_NoMove_gn ?q_NoMove_cl ?q_NoMove_mo ?q_NoMove_mb ?q_NoMove_sv ?q_NoMove_s_HallError ?q_NoMove_s_NoHall ?q_NoMove_s_NoCalls ?q_NoMove_s_NoLine ?q_NoMove_s_NoRule ?q_NoMove_s_Idle ?q_NoMove_s_Busy ?q_NoMove_s_Engaged ?q_NoMove_s_NoMove ?z_len ?z_isinstance ?z_int ?z_bool ?z_tuple ?z_list ?z_set ?z_sorted ?z_divmod ?z_range ?z_abs ?z_min ?z_zip ?z_all ?z_dict ?z_ValueError
  (case a1 => k_is); (case l1 => k_is); (case c1 => k_is); (case k1 => k_is)
  (case a2 => k_is); (case l2 => k_is); (case c2 => k_is); (case k2 => k_is)
  (case a3 => k_is); (case l3 => k_is); (case c3 => k_is); (case k3 => k_is)
  (case a4 => k_is); (case l4 => k_is); (case c4 => k_is); (case k4 => k_is)
  (case a5 => k_is); (case l5 => k_is); (case c5 => k_is); (case k5 => k_is)
  (case a6 => k_is); (case l6 => k_is); (case c6 => k_is); (case k6 => k_is)
  (case a7 => k_is); (case l7 => k_is); (case c7 => k_is); (case k7 => k_is)
  (case a8 => k_is); (case l8 => k_is); (case c8 => k_is); (case k8 => k_is)
  (case a9 => k_is); (case l9 => k_is); (case c9 => k_is); (case k9 => k_is)
  (case a10 => k_is); (case l10 => k_is); (case c10 => k_is); (case k10 => k_is)
  (case a11 => k_is); (case l11 => k_is); (case c11 => k_is); (case k11 => k_is)
  (case a12 => k_is); (case l12 => k_is); (case c12 => k_is); (case k12 => k_is)
  (case a13 => k_is); (case l13 => k_is); (case c13 => k_is); (case k13 => k_is)
  (case a14 => k_is); (case l14 => k_is); (case c14 => k_is); (case k14 => k_is)
  (case a15 => k_is); (case l15 => k_is); (case c15 => k_is); (case k15 => k_is)
  (case a16 => k_is); (case l16 => k_is); (case c16 => k_is); (case k16 => k_is)
  (case a17 => k_is); (case l17 => k_is); (case c17 => k_is); (case k17 => k_is)
  (case a18 => k_is); (case l18 => k_is); (case c18 => k_is); (case k18 => k_is)
  (case a19 => k_is); (case l19 => k_is); (case c19 => k_is); (case k19 => k_is)
  (case a20 => k_is); (case l20 => k_is); (case c20 => k_is); (case k20 => k_is)
  (case a21 => k_is); (case l21 => k_is); (case c21 => k_is); (case k21 => k_is)
  (case a22 => k_is); (case l22 => k_is); (case c22 => k_is); (case k22 => k_is)
  (case a23 => k_is); (case l23 => k_is); (case c23 => k_is); (case k23 => k_is)
  (case a24 => k_is); (case l24 => k_is); (case c24 => k_is); (case k24 => k_is)
  (case a25 => k_is); (case l25 => k_is); (case c25 => k_is); (case k25 => k_is)
  (case a26 => k_is); (case l26 => k_is); (case c26 => k_is); (case k26 => k_is)
  (case a27 => k_is); (case l27 => k_is); (case c27 => k_is); (case k27 => k_is)
  (case a28 => k_is); (case l28 => k_is); (case c28 => k_is); (case k28 => k_is)
  (case q_HallError_at => k_is)
  (case q_NoHall_at => k_is)
  (case q_NoCalls_at => k_is)
  (case q_NoLine_at => k_is)
  (case q_NoRule_at => k_is)
  (case q_Idle_at => k_is)
  (case q_Busy_at => k_is)
  (case q_Engaged_at => k_is)
  (case q_NoMove_at => k_is)
  (case q_HallError_ic => k_is)
  (case q_HallError_ty => k_is)
  (case q_NoHall_ic => k_is)
  (case q_NoHall_ty => k_is)
  (case q_NoCalls_ic => k_is)
  (case q_NoCalls_ty => k_is)
  (case q_NoLine_ic => k_is)
  (case q_NoLine_ty => k_is)
  (case q_NoRule_ic => k_is)
  (case q_NoRule_ty => k_is)
  (case q_Idle_ic => k_is)
  (case q_Idle_ty => k_is)
  (case q_Busy_ic => k_is)
  (case q_Busy_ty => k_is)
  (case q_Engaged_ic => k_is)
  (case q_Engaged_ty => k_is)
  (case q_NoMove_ic => k_is)
  (case q_NoMove_ty => k_is)
  (case q_hb => k_is)
  (case q_gt => k_is)
  (case q_tk => k_is)
  (case q_NoMove_ex => k_exc)
  (case q_NoMove_ga => k_is)
  (case q_NoMove_gn => k_is)
  (case q_NoMove_cl => k_is)
  (case q_NoMove_mo => k_is)
  (case q_NoMove_mb => k_is)
  (case q_NoMove_sv => k_is)
  (case q_NoMove_s_HallError => k_is)
  (case q_NoMove_s_NoHall => k_is)
  (case q_NoMove_s_NoCalls => k_is)
  (case q_NoMove_s_NoLine => k_is)
  (case q_NoMove_s_NoRule => k_is)
  (case q_NoMove_s_Idle => k_is)
  (case q_NoMove_s_Busy => k_is)
  (case q_NoMove_s_Engaged => k_is)
  (case q_NoMove_s_NoMove => k_is)
  (case z_len => k_is)
  (case z_isinstance => k_is)
  (case z_int => k_is)
  (case z_bool => k_is)
  (case z_tuple => k_is)
  (case z_list => k_is)
  (case z_set => k_is)
  (case z_sorted => k_is)
  (case z_divmod => k_is)
  (case z_range => k_is)
  (case z_abs => k_is)
  (case z_min => k_is)
  (case z_zip => k_is)
  (case z_all => k_is)
  (case z_dict => k_is)
  (case z_ValueError => k_is)
