import PyProof.Rows.All
import Wide.All
import OpenK.AllK
import Wide.FinOn
import Lean
import PyProof.EqAt
import PyProof.EqKinds
import PyProof.TupleCall
import PySem.SetOps
import PyProof.SetKind
import PyProof.CollectWalk
import PyProof.FactsAll.set
import PyProof.ForAny
import PyProof.Rows.SortWalk
import PyProof.Rows.SetFrom
import KE.KSortAsk
import KE.KSortTup
import KE.KMinBuiltin
import PySem.Challenge.RW_crossracks_k16_whole_paper_of_ways
set_option Elab.async false
set_option linter.all false
set_option maxRecDepth 100000
namespace L2
open PySem PySem.Spec PyProof.Rows

abbrev Key := Sum Int Str
def keyIs : Key → Value → Bool
  | .inl k, v => Value.isInt k v
  | .inr x, v => Value.isStrOf x v
def keyH (w : World) : Key → Int
  | .inl k => hashInt k
  | .inr x => hashStr w x
theorem keyIs_shape : ∀ {k : Key} {v : Value}, keyIs k v = true → (∃ i t, k = Sum.inl i ∧ v = Value.int i t) ∨ (∃ x t, k = Sum.inr x ∧ v = Value.str x t)
  | .inl i, v, h => by
    obtain ⟨t, e⟩ := Value.isInt_shape (k := i) (v := v) h
    exact .inl ⟨i, t, rfl, e⟩
  | .inr x, v, h => by
    obtain ⟨t, e⟩ := Value.isStrOf_shape (x := x) (v := v) h
    exact .inr ⟨x, t, rfl, e⟩
theorem keyIs_int (i : Int) (t : Tok) : keyIs (.inl i) (.int i t) = true := by simp [keyIs, Value.isInt]
theorem keyIs_str (x : Str) (t : Tok) : keyIs (.inr x) (.str x t) = true := by simp [keyIs, Value.isStrOf]
theorem key_ll (a b : Int) : decide ((Sum.inl a : Key) = Sum.inl b) = (a == b) := by
  by_cases e : a = b
  · subst e; simp
  · have h : ¬ (Sum.inl a : Key) = Sum.inl b := fun q => e (Sum.inl.inj q)
    rw [decide_eq_false h]
    exact (beq_eq_false_iff_ne.mpr e).symm
theorem key_rr (a b : Str) : decide ((Sum.inr a : Key) = Sum.inr b) = decide (a = b) := by
  by_cases e : a = b
  · subst e; simp
  · have h : ¬ (Sum.inr a : Key) = Sum.inr b := fun q => e (Sum.inr.inj q)
    rw [decide_eq_false h, decide_eq_false e]
theorem key_lr (a : Int) (b : Str) : decide ((Sum.inl a : Key) = Sum.inr b) = false := decide_eq_false (fun q => nomatch q)
theorem key_rl (a : Str) (b : Int) : decide ((Sum.inr a : Key) = Sum.inl b) = false := decide_eq_false (fun q => nomatch q)

def mixKind (prog : Program) (w : World) : PySem.KeyKind prog w Key where
  is := keyIs
  hash := keyH w
  inj := fun v a b ha hb => by
    rcases keyIs_shape ha with ⟨i, t, rfl, rfl⟩ | ⟨x, t, rfl, rfl⟩
    · rcases keyIs_shape hb with ⟨j, u, rfl, e⟩ | ⟨y, u, rfl, e⟩
      · injection e with e1 _; rw [e1]
      · exact nomatch e
    · rcases keyIs_shape hb with ⟨j, u, rfl, e⟩ | ⟨y, u, rfl, e⟩
      · exact nomatch e
      · injection e with e1 _; rw [e1]
  byValue := fun k v h => by
    rcases keyIs_shape h with ⟨i, t, rfl, rfl⟩ | ⟨x, t, rfl, rfl⟩ <;> rfl
  pyHash := fun hv h => by
    rcases keyIs_shape hv with ⟨i, t, rfl, rfl⟩ | ⟨x, t, rfl, rfl⟩
    · exact wpAny_pyHash_int h
    · exact wpAny_pyHash_str h
  eqBool := fun hu hv h => by
    rcases keyIs_shape hu with ⟨i, t, rfl, rfl⟩ | ⟨x, t, rfl, rfl⟩
    · rcases keyIs_shape hv with ⟨j, u, rfl, rfl⟩ | ⟨y, u, rfl, rfl⟩
      · rw [key_ll] at h; exact wpAny_eqBool_int h
      · rw [key_lr] at h; exact SeqAt.EqAt.int_str i t y u _ _ _ _ h
    · rcases keyIs_shape hv with ⟨j, u, rfl, rfl⟩ | ⟨y, u, rfl, rfl⟩
      · rw [key_rl] at h; exact SeqAt.EqAt.str_int x t j u _ _ _ _ h
      · rw [key_rr] at h; exact wpAny_eqBool_str h
  «strs» := fun k x t v h => by
    rcases keyIs_shape h with ⟨i, u, rfl, e⟩ | ⟨y, u, rfl, e⟩
    · exact nomatch e
    · injection e with e1 _
      subst e1
      cases v <;> rfl

theorem mixKind_int (prog : Program) (w : World) (i : Int) (t : Tok) : (mixKind prog w).is (.inl i) (.int i t) = true := keyIs_int i t
theorem mixKind_str (prog : Program) (w : World) (x : Str) (t : Tok) : (mixKind prog w).is (.inr x) (.str x t) = true := keyIs_str x t
end L2

namespace L2
open PySem PySem.Spec PyProof.Rows

inductive V where
  | non | bl (b : Bool) | int (i : Int) | str (x : Str) | byt (b : Array UInt8) | flt (b : UInt64) | ref (a : Addr) | ty (n : String)
  deriving DecidableEq

def RelV : V → Value → Prop
  | .non, u => u = Value.none
  | .bl b, u => u = Value.bool b
  | .int i, u => ∃ t, u = Value.int i t
  | .str x, u => ∃ t, u = Value.str x t
  | .byt b, u => ∃ t, u = Value.bytes b t
  | .flt b, u => ∃ t, u = Value.float b t
  | .ref a, u => u = Value.ref a
  | .ty n, u => u = Value.type n

abbrev Vals : List V → List Value → Prop := Paired RelV
theorem Vals.length {xs : List V} {us : List Value} (r : Vals xs us) : xs.length = us.length := Paired.length r
theorem Vals.get : ∀ {xs : List V} {us : List Value} {i : Nat} {x : V}, Vals xs us → xs[i]? = some x → ∃ u, us[i]? = some u ∧ RelV x u
  | _, _, _, _, .nil, e => by simp at e
  | _, _, 0, _, .cons r _, e => by simp at e; subst e; exact ⟨_, rfl, r⟩
  | _, _, i + 1, x, .cons _ t, e => by
    obtain ⟨u, h1, h2⟩ := Vals.get (i := i) (x := x) t (by simpa using e)
    exact ⟨u, by simpa using h1, h2⟩
theorem Vals.set {x : V} {u : Value} (r : RelV x u) : ∀ {xs : List V} {us : List Value} (i : Nat), Vals xs us → Vals (xs.set i x) (us.set i u)
  | _, _, _, .nil => .nil
  | _, _, 0, .cons _ t => .cons r t
  | _, _, i + 1, .cons q t => .cons q (Vals.set r i t)
theorem Vals.append : ∀ {xs ys : List V} {us ws : List Value}, Vals xs us → Vals ys ws → Vals (xs ++ ys) (us ++ ws)
  | _, _, _, _, .nil, s => s
  | _, _, _, _, .cons r t, s => .cons r (Vals.append t s)
theorem Vals.take : ∀ {xs : List V} {us : List Value} (n : Nat), Vals xs us → Vals (xs.take n) (us.take n)
  | _, _, 0, _ => .nil
  | _, _, _ + 1, .nil => .nil
  | _, _, n + 1, .cons r t => .cons r (Vals.take n t)
theorem Vals.drop : ∀ {xs : List V} {us : List Value} (n : Nat), Vals xs us → Vals (xs.drop n) (us.drop n)
  | _, _, 0, r => r
  | _, _, _ + 1, .nil => .nil
  | _, _, n + 1, .cons _ t => Vals.drop n t
def RelO : Option V → Option Value → Prop
  | some v, some u => RelV v u
  | none, none => True
  | _, _ => False
def KV {κ : Type} : List (κ × V) → List (κ × Value) → Prop := Paired fun (p : κ × V) (q : κ × Value) => p.1 = q.1 ∧ RelV p.2 q.2

def kV : Key → V
  | .inl i => .int i
  | .inr x => .str x

inductive HO where
  /-- a list -/
  | lst (xs : List V)
  /-- a tuple (never changes) -/
  | tup (xs : List V)
  /-- a dict whose keys are ints and texts; one whose keys are tuples of ints and texts (the empty one is both) -/
  | dK (kvs : List (Key × V)) | dT (kvs : List (List Key × V))
  /-- a set of ints: its members, its size -/
  | set (S : Int → Bool) (n : Nat)
  /-- an instance of the class at C, its dict at dx, its attributes -/
  | ins (C dx : Addr) (fs : List (Str × V))
  /-- the dict of the instance at x -/
  | own (x : Addr)
  /-- the dict of an exception -/
  | xd (fs : List (Str × V))
  /-- a bound method, f of x -/
  | met (f x : Addr)
  /-- a range object lo, lo + 1, .. below hi -/
  | rng (lo hi : Int)
  /-- a thing that is known to the object (the script; a dict while a loop walks it): read, never written while it is so -/
  | frz (o : Obj) (u : HO)
  /-- a code object's table -/
  | tbl (ps : Array Value)
  /-- any other thing, by what is true of its one object (a def of one's own: SetO a S n := HO.ext fun h => ..) -/
  | ext (φ : Heap → Prop)

abbrev Hp := Addr → Option HO
def upd (H : Hp) (a : Addr) (o : HO) : Hp := fun b => if b = a then some o else H b
theorem upd_same {H : Hp} {a : Addr} {o : HO} : upd H a o a = some o := by unfold upd; rw [if_pos rfl]
theorem upd_ne {H : Hp} {a b : Addr} {o : HO} (h : b ≠ a) : upd H a o b = H b := by unfold upd; rw [if_neg h]
theorem ne_of {H : Hp} {a b : Addr} {o u : HO} (h : H a = some o) (h' : H b = some u) (d : o ≠ u) : a ≠ b := by
  intro e; subst e; rw [h] at h'; exact d (Option.some.inj h')
theorem ne_of_none {H : Hp} {a b : Addr} {o : HO} (h : H a = some o) (h' : H b = none) : a ≠ b := by
  intro e; subst e; rw [h] at h'; cases h'

section
variable (P : Program) (w : World)
def ObjOk (H : Hp) (h : Heap) (a : Addr) : HO → Prop
  | .lst xs => xs.length ≤ sizeLine ∧ ∃ (its : List Value) (n : Nat), Vals xs its ∧ h.get? a = some { cls := .type "list", data := .seq its.toArray n }
  | .tup xs => xs.length ≤ sizeLine ∧ ∃ its : List Value, Vals xs its ∧ IsTup h a its.toArray
  | .dK kvs => kvs.length ≤ sizeLine ∧ (a == sysModules) = false ∧ ∃ vs, KV kvs vs ∧ h.DictOf (mixKind P w) a vs
  | .dT kvs => kvs.length ≤ sizeLine ∧ (a == sysModules) = false ∧ ∃ xs : List (List Key × Addr × Value),
      Paired (fun (p : List Key × V) (q : List Key × Addr × Value) => p.1 = q.1 ∧ H q.2.1 = some (.tup (p.1.map kV)) ∧ RelV p.2 q.2.2) kvs xs ∧
      ∃ o es ep, h.get? a = some o ∧ o.ExactDict ∧ o.data = .dict es ep ∧ es.toList = xs.map (entryOfKey (tupleKind (mixKind P w))) ∧ (xs.map (·.1)).Nodup
  | .set S n => h.SetOf (intKind P w) a S n
  | .ins C dx fs => H dx = some (.own a) ∧ fs.length ≤ 1000 ∧ dx ≠ a ∧ h.get? a = some (PySem.W.instObj C dx) ∧
      ∃ mA, h.Ns1 dx mA ∧ (∀ f, RelO (fs.lookup f) (mA f)) ∧ PySem.Within mA (fs.map (·.1))
  | .own _ => ∃ o, h.get? a = some o
  | .xd fs => ∃ mA, h.Ns1 a mA ∧ ∀ f, RelO (fs.lookup f) (mA f)
  | .rng lo hi => ∃ t u v, h.get? a = some { cls := .type "range", data := .fields #[.int lo t, .int hi u, .int 1 v] }
  | .frz o u => h.get? a = some o ∧ ObjOk H h a u
  | .tbl ps => h.get? a = some { cls := .none, data := .fields ps }
  | .met f x => h.get? a = some (PySem.W.methodObj (.ref f) (.ref x))
  | .ext φ => φ h ∧ (∃ o, h.get? a = some o) ∧ ∀ h1 h2 : Heap, φ h1 → (∀ o, h1.get? a = some o → h2.get? a = some o) → φ h2
def HOk (H : Hp) (h : Heap) : Prop := ∀ a o, H a = some o → ObjOk P w H h a o
end

section
variable {P : Program} {w : World} {H H' : Hp} {h h' : Heap} {a : Addr} {o : HO}
theorem ObjOk.lt (x : ObjOk P w H h a o) : a < h.objs.size := by
  cases o with
  | lst xs => obtain ⟨_, _, _, _, e⟩ := x; exact Heap.lt_size e
  | tup xs => obtain ⟨_, _, _, p⟩ := x; exact p.lt
  | dK kvs => obtain ⟨_, _, _, _, o, _, _, e, _⟩ := x; exact Heap.lt_size e
  | dT kvs => obtain ⟨_, _, _, _, o, _, _, e, _⟩ := x; exact Heap.lt_size e
  | set S n => obtain ⟨o, _, _, _, e, _⟩ := x; exact Heap.lt_size e
  | ins C dx fs => obtain ⟨_, _, _, e, _⟩ := x; exact Heap.lt_size e
  | own y => obtain ⟨_, e⟩ := x; exact Heap.lt_size e
  | xd fs => obtain ⟨_, ⟨_, _, _, e, _⟩, _⟩ := x; exact Heap.lt_size e
  | rng lo hi => obtain ⟨_, _, _, e⟩ := x; exact Heap.lt_size e
  | frz ob u => obtain ⟨e, _⟩ := x; exact Heap.lt_size e
  | tbl ps => exact Heap.lt_size (show h.get? a = some _ from x)
  | met f y => exact Heap.lt_size (show h.get? a = some _ from x)
  | ext φ => obtain ⟨_, ⟨_, e⟩, _⟩ := x; exact Heap.lt_size e
theorem Paired.mapP {α β : Type} {F G : α → β → Prop} : ∀ {l₁ : List α} {l₂ : List β}, Paired F l₁ l₂ → (∀ a b, F a b → G a b) → Paired G l₁ l₂
  | _, _, .nil, _ => .nil
  | _, _, .cons r t, f => .cons (f _ _ r) (Paired.mapP t f)
theorem ObjOk.stay (x : ObjOk P w H h a o) (k : ∀ b u, (b = a ∨ H b = some (.own a)) → h.get? b = some u → h'.get? b = some u)
    (ho : ∀ b, H b = some (.own a) → H' b = some (.own a)) (ht : ∀ b xs, H b = some (.tup xs) → H' b = some (.tup xs)) : ObjOk P w H' h' a o := by
  induction o with
  | lst xs => obtain ⟨z, its, n, r, e⟩ := x; exact ⟨z, its, n, r, k _ _ (.inl rfl) e⟩
  | tup xs => obtain ⟨z, its, r, ob, e, c⟩ := x; exact ⟨z, its, r, ob, k _ _ (.inl rfl) e, c⟩
  | dK kvs => obtain ⟨z, y, vs, r, ob, es, ep, e, c⟩ := x; exact ⟨z, y, vs, r, ob, es, ep, k _ _ (.inl rfl) e, c⟩
  | dT kvs =>
    obtain ⟨z, y, xs, r, ob, es, ep, e, c⟩ := x
    exact ⟨z, y, xs, Paired.mapP r fun p q z => ⟨z.1, ht _ _ z.2.1, z.2.2⟩, ob, es, ep, k _ _ (.inl rfl) e, c⟩
  | set S n => obtain ⟨ob, es, ep, t, e, c⟩ := x; exact ⟨ob, es, ep, t, k _ _ (.inl rfl) e, c⟩
  | ins C dx fs =>
    obtain ⟨d, z, ne, e, mA, ⟨od, es, ep, e2, c⟩, r⟩ := x
    exact ⟨ho _ d, z, ne, k _ _ (.inl rfl) e, mA, ⟨od, es, ep, k _ _ (.inr d) e2, c⟩, r⟩
  | own y => obtain ⟨ob, e⟩ := x; exact ⟨ob, k _ _ (.inl rfl) e⟩
  | xd fs => obtain ⟨mA, ⟨od, es, ep, e, c⟩, r⟩ := x; exact ⟨mA, ⟨od, es, ep, k _ _ (.inl rfl) e, c⟩, r⟩
  | rng lo hi => obtain ⟨t, u, v, e⟩ := x; exact ⟨t, u, v, k _ _ (.inl rfl) e⟩
  | frz ob u ih => obtain ⟨e, q⟩ := x; exact ⟨k _ _ (.inl rfl) e, ih q⟩
  | tbl ps =>
    have e : h.get? a = some { cls := .none, data := .fields ps } := x
    show h'.get? a = some { cls := .none, data := .fields ps }
    exact k a _ (.inl rfl) e
  | met f y =>
    have e : h.get? a = some (PySem.W.methodObj (.ref f) (.ref y)) := x
    show h'.get? a = some (PySem.W.methodObj (.ref f) (.ref y))
    exact k a _ (.inl rfl) e
  | ext φ => obtain ⟨p, ⟨o, e⟩, st⟩ := x; exact ⟨st _ _ p fun o q => k _ _ (.inl rfl) q, ⟨o, k _ _ (.inl rfl) e⟩, st⟩
theorem HOk.lt (x : HOk P w H h) (e : H a = some o) : a < h.objs.size := (x a o e).lt
theorem HOk.fresh (x : HOk P w H h) (e : h.objs.size ≤ a) : H a = none := by
  cases q : H a with
  | none => rfl
  | some u => exact absurd (Nat.lt_of_lt_of_le (x.lt q) e) (Nat.lt_irrefl _)
theorem HOk.kept (x : HOk P w H h) (k : ∀ b u, h.get? b = some u → h'.get? b = some u) : HOk P w H h' := fun a o e =>
  (x a o e).stay (fun b u _ q => k b u q) (fun _ q => q) fun _ _ q => q
theorem HOk.laid (x : HOk P w H h) (k : ∀ b u, h.get? b = some u → h'.get? b = some u) (hp : h.objs.size ≤ a) (new : ObjOk P w (upd H a o) h' a o) : HOk P w (upd H a o) h' := fun b u e => by
  have hn := x.fresh hp
  by_cases hb : b = a
  · subst hb; rw [upd_same] at e; cases e; exact new
  · rw [upd_ne hb] at e
    exact (x b u e).stay (fun c v _ q => k c v q) (fun c q => by rw [upd_ne (ne_of_none q hn)]; exact q) fun c xs q => by rw [upd_ne (ne_of_none q hn)]; exact q
end

def Rd (H : Hp) (a : Addr) (u : HO) : Prop := H a = some u ∨ ∃ o, H a = some (.frz o u)
theorem Rd.of {H : Hp} {a : Addr} {u : HO} (h : H a = some u) : Rd H a u := .inl h
theorem Rd.ok {P : Program} {w : World} {H : Hp} {h : Heap} {a : Addr} {u : HO} (r : Rd H a u) (x : HOk P w H h) : ObjOk P w H h a u := by
  rcases r with r | ⟨o, r⟩
  · exact x a u r
  · obtain ⟨_, q⟩ := x a _ r
    exact q
def Mut : Option HO → Prop
  | some (.lst _) => True
  | some (.dK _) => True
  | some (.dT _) => True
  | some (.set _ _) => True
  | some (.ins _ _ _) => True
  | some (.ext _) => True
  | _ => False
section
variable {P : Program} {w : World} {H : Hp} {h h' : Heap} {x e : Addr} {o' : HO}
theorem HOk.write (ok : HOk P w H h) (mu : Mut (H x)) (he : e = x ∨ H e = some (.own x)) (k : ∀ b u, b ≠ e → h.get? b = some u → h'.get? b = some u) (heo : ∃ u, h'.get? e = some u)
    (new : ObjOk P w (upd H x o') h' x o') : HOk P w (upd H x o') h' := fun b u q => by
  have nown : ∀ c y, H c = some (.own y) → c ≠ x := fun c y r z => by subst z; rw [r] at mu; exact mu
  have ntup : ∀ c xs, H c = some (.tup xs) → c ≠ x := fun c xs r z => by subst z; rw [r] at mu; exact mu
  by_cases hb : b = x
  · subst hb; rw [upd_same] at q; cases q; exact new
  · rw [upd_ne hb] at q
    by_cases hbe : b = e
    · have q' : H b = some (.own x) := by
        rcases he with z | z
        · exact absurd (hbe.trans z) hb
        · rw [hbe]; exact z
      rw [q] at q'; cases q'
      obtain ⟨v, hv⟩ := heo
      exact ⟨v, by rw [hbe]; exact hv⟩
    · refine (ok b u q).stay (fun c v hc r => k c v ?_ r) (fun c r => by rw [upd_ne (nown c b r)]; exact r) fun c xs r => by rw [upd_ne (ntup c xs r)]; exact r
      rcases hc with rfl | hc
      · exact hbe
      · rintro rfl
        rcases he with z | z
        · exact nown c b hc z
        · rw [hc] at z; cases z; exact hb rfl
end

structure Un (fs ex : List Addr) (H H' : Hp) (h h' : Heap) : Prop where
  keep : ∀ b o, h.get? b = some o → H b = none → b ∉ fs → b ∉ ex → h'.get? b = some o
  slot : ∀ b o, h.get? b = some o → H b = none → b ∈ fs → b ∉ ex → ∃ sl, h'.get? b = some { o with slots := sl }
  free : ∀ b o, h.get? b = some o → H b = none → b ∉ ex → H' b = none
  there : ∀ b o, h.get? b = some o → b ∉ ex → ∃ o', h'.get? b = some o'
  tups : ∀ b xs, H b = some (.tup xs) → H' b = some (.tup xs)
  frzs : ∀ b o u, H b = some (.frz o u) → H' b = some (.frz o u)
  tbls : ∀ b ps, H b = some (.tbl ps) → ∃ more, H' b = some (.tbl (ps ++ more))
section
variable {fs fs' ex ex' : List Addr} {H H1 H2 : Hp} {h h1 h2 h' : Heap} {a x e : Addr} {o : HO}
theorem Un.any (u : Un fs ex H H1 h h1) {b : Addr} {ob : Obj} (q : h.get? b = some ob) (n : H b = none) (hx : b ∉ ex) : ∃ sl, h1.get? b = some { ob with slots := sl } := by
  by_cases hb : b ∈ fs
  · exact u.slot b ob q n hb hx
  · exact ⟨ob.slots, u.keep b ob q n hb hx⟩
theorem Un.trans (a : Un fs ex H H1 h h1) (b : Un fs ex H1 H2 h1 h2) : Un fs ex H H2 h h2 where
  keep := fun c ob q n hc hx => b.keep c ob (a.keep c ob q n hc hx) (a.free c ob q n hx) hc hx
  slot := fun c ob q n hc hx => by
    obtain ⟨sl, e1⟩ := a.slot c ob q n hc hx
    obtain ⟨sl', e2⟩ := b.slot c _ e1 (a.free c ob q n hx) hc hx
    exact ⟨sl', e2⟩
  free := fun c ob q n hx => by
    obtain ⟨o', e1⟩ := a.there c ob q hx
    exact b.free c o' e1 (a.free c ob q n hx) hx
  there := fun c ob q hx => by
    obtain ⟨o', e1⟩ := a.there c ob q hx
    exact b.there c o' e1 hx
  tups := fun c xs q => b.tups c xs (a.tups c xs q)
  frzs := fun c ob xs q => b.frzs c ob xs (a.frzs c ob xs q)
  tbls := fun c ps q => by
    obtain ⟨m1, e1⟩ := a.tbls c ps q
    obtain ⟨m2, e2⟩ := b.tbls c _ e1
    exact ⟨m1 ++ m2, by rw [e2, Array.append_assoc]⟩
theorem Un.kept (k : ∀ b u, h.get? b = some u → h'.get? b = some u) : Un fs ex H H h h' :=
  ⟨fun b ob q _ _ _ => k b ob q, fun b ob q _ _ _ => ⟨ob.slots, k b ob q⟩, fun _ _ _ n _ => n, fun b ob q _ => ⟨ob, k b ob q⟩, fun _ _ q => q, fun _ _ _ q => q, fun _ ps q => ⟨#[], by rw [q]; simp⟩⟩
theorem Un.refl : Un fs ex H H h h := Un.kept fun _ _ q => q
theorem Un.laid (k : ∀ b u, h.get? b = some u → h'.get? b = some u) (hp : h.objs.size ≤ a) (hn : H a = none) : Un fs ex H (upd H a o) h h' where
  keep := fun b u q _ _ _ => k b u q
  slot := fun b u q _ _ _ => ⟨u.slots, k b u q⟩
  free := fun b u q n _ => by rw [upd_ne (Nat.ne_of_lt (Nat.lt_of_lt_of_le (Heap.lt_size q) hp))]; exact n
  there := fun b u q _ => ⟨u, k b u q⟩
  tups := fun b xs q => by rw [upd_ne (ne_of_none q hn)]; exact q
  frzs := fun b u xs q => by rw [upd_ne (ne_of_none q hn)]; exact q
  tbls := fun b ps q => ⟨#[], by rw [upd_ne (ne_of_none q hn), q]; simp⟩
theorem Un.write (mu : Mut (H x)) (he : e = x ∨ H e = some (.own x)) (k : ∀ b u, b ≠ e → h.get? b = some u → h'.get? b = some u) (heo : ∃ u, h'.get? e = some u) : Un fs ex H (upd H x o) h h' := by
  have hx : ∀ b, H b = none → b ≠ x := fun b n z => by subst z; rw [n] at mu; exact mu
  have hb : ∀ b, H b = none → b ≠ e := fun b n z => by
    subst z
    rcases he with r | r
    · exact hx b n r
    · rw [n] at r; cases r
  have hm : ∀ b u, H b = some u → ¬ Mut (some u) → b ≠ x := fun b u q nm z => by subst z; rw [q] at mu; exact nm mu
  refine ⟨fun b u q n _ _ => k b u (hb b n) q, fun b u q n _ _ => ⟨u.slots, k b u (hb b n) q⟩, fun b u q n _ => by rw [upd_ne (hx b n)]; exact n, fun b u q _ => ?_,
    fun b xs q => by rw [upd_ne (hm b _ q fun z => z)]; exact q, fun b u xs q => by rw [upd_ne (hm b _ q fun z => z)]; exact q, fun b ps q => ⟨#[], by rw [upd_ne (hm b _ q fun z => z), q]; simp⟩⟩
  by_cases hbe : b = e
  · subst hbe; exact heo
  · exact ⟨u, k b u hbe q⟩
theorem Un.mono (u : Un fs ex H H1 h h1) (hs : ∀ b ∈ fs, b ∈ fs') (hx : ∀ b ∈ ex, b ∈ ex') : Un fs' ex' H H1 h h1 :=
  ⟨fun b ob q n hb he => u.keep b ob q n (fun z => hb (hs b z)) fun z => he (hx b z), fun _ _ q n _ he => u.any q n fun z => he (hx _ z), fun b ob q n he => u.free b ob q n fun z => he (hx b z), fun b ob q he => u.there b ob q fun z => he (hx b z), u.tups, u.frzs, u.tbls⟩
end

def trk (h : Heap) (H : Hp) : List Addr := (List.range h.objs.size).filter fun a => (H a).isSome
def hidT (h : Heap) (H : Hp) : Heap := PySem.W.hideAll h (trk h H)
theorem hidT_size (h : Heap) (H : Hp) : (hidT h H).objs.size = h.objs.size := PySem.W.hideAll_size _ _
theorem hidT_get {h : Heap} {H : Hp} {b : Addr} {o : Obj} (e : h.get? b = some o) (n : H b = none) : (hidT h H).get? b = some o :=
  PySem.W.hideAll_get _ e fun hm => by
    have q : (H b).isSome = true := (List.mem_filter.mp hm).2
    rw [n] at q; simp at q
theorem of_hidT {h : Heap} {H : Hp} {b : Addr} {o : Obj} (e : (hidT h H).get? b = some o) : h.get? b = some o ∧ H b = none := by
  have e' : h.get? b = some o := PySem.W.of_hideAll (trk h H) e
  refine ⟨e', ?_⟩
  cases q : H b with
  | none => rfl
  | some x =>
    have hm : b ∈ trk h H := List.mem_filter.mpr ⟨List.mem_range.mpr (Heap.lt_size e'), by simp [q]⟩
    have z : (hidT h H).get? b = none := PySem.W.hideAll_none (trk h H) hm
    rw [z] at e; cases e

def allNews (g h : Heap) (L : Addr) : List (Addr × Obj) := (List.range h.objs.size).filterMap fun a => if a = L ∨ (g.get? a).isSome = true then none else (h.get? a).map fun o => (a, o)
def rest (g h : Heap) (L d : Addr) : List (Addr × Obj) := (allNews g h L).filter fun p => decide (p.1 ≠ d)
end L2

namespace L2
open PySem PySem.Spec PyProof.Rows

structure Mod (K : PySem.W.Frag) (mg : Str → Option Value) (base : Heap) : Prop where
  kin : K.In base
  glob : base.Ns mainGlobals mg
  blt : ∃ mb, base.Ns builtinsNs mb ∧ ∀ x : Str, x ≠ "__name__" → mb x = bootBuiltins x
  nolimit : base.NoLimit

structure Cx where
  prog : Program
  w : World
  K : PySem.W.Frag
  mg : Str → Option Value
  base : Heap
  A : Around
  N : List Str
  s₀ : Shared
  H₀ : Hp
  env : Env
  outer : List Env
  stack : List Env
  ex : List Addr
  fn : Str → Bool
  calm : Bool
  pn : List (Addr × Obj)
  xe : Value → Shared → Prop
def frs (l : List Env) : List Addr := l.filterMap (·.frame)
abbrev Cx.fs (X : Cx) : List Addr := frs X.outer

def Vis (sc : Scope) (x : Str) : Prop := sc.names.lookup x = some .local ∨ sc.names.lookup x = some .cell ∨ sc.names.lookup x = some .free
def Loc (sc : Scope) (x : Str) : Prop := sc.names.lookup x = some .local ∨ sc.names.lookup x = some .cell
def Look (env : Env) (h : Heap) (m : Str → Option Value) (x : Str) (u : Value) : Prop :=
  (env.kindOf x = some .local ∧ m x = some u) ∨ ((env.kindOf x = some .cell ∨ env.kindOf x = some .free) ∧ ∃ c, env.cells.lookup x = some c ∧ h.IsCell c (some u))

structure Cx.Ok (X : Cx) : Prop where
  mod : Mod X.K X.mg X.base
  kind : X.env.scope.kind = .function
  glob : X.env.globals = mainGlobals
  blt : X.env.builtins = builtinsNs
  above : X.s₀.heap.objs.size ≤ X.env.locals
  inj : ∀ x y c, X.env.cells.lookup x = some c → X.env.cells.lookup y = some c → x = y
  has : ∀ x, (X.env.kindOf x = some .cell ∨ X.env.kindOf x = some .free) → ∃ c, X.env.cells.lookup x = some c
  cab : ∀ x c, X.fn x = true → X.env.cells.lookup x = some c → X.s₀.heap.objs.size ≤ c
  hd : X.calm = true → X.A.handled = none
  frames : X.A.frames = some X.stack
  stk : X.stack = X.outer ∨ (X.stack = X.env :: X.outer ∧ X.env.frame = some X.env.locals)
  exf : ∀ b ∈ X.ex, b ≠ X.env.locals ∧ ∀ x c, X.env.cells.lookup x = some c → c ≠ b
  bs : ∀ b o, X.base.get? b = some o → X.s₀.heap.get? b = some o ∧ X.H₀ b = none
  bsz : X.base.objs.size ≤ X.s₀.heap.objs.size
  noex : ∀ b o, X.base.get? b = some o → b ∉ X.ex
  exfs : ∀ b ∈ X.ex, b ∉ X.fs
  funs : X.s₀.heap.FunFrames X.base X.outer
  frf : ∀ b ∈ X.fs, X.H₀ b = none

structure Inv (X : Cx) (pins : List (Addr × Obj)) (σ : List (Option V)) (H : Hp) (s : Shared) : Prop where
  ok : X.Ok
  os : s.os = X.s₀.os
  bare : AllBare s.gens
  base : Un X.fs X.ex X.H₀ H X.s₀.heap s.heap
  loc : ∃ m, s.heap.Ns X.env.locals m ∧ ∀ (i : Nat) (x : Str) (v : V), X.N[i]? = some x → σ[i]? = some (some v) → Vis X.env.scope x → ∃ u, RelV v u ∧ Look X.env s.heap m x u
  cell : ∀ x c, X.env.cells.lookup x = some c → ∃ v, s.heap.IsCell c v
  free : H X.env.locals = none
  freeC : ∀ x c, X.env.cells.lookup x = some c → H c = none
  pin : ∀ p ∈ X.pn ++ pins, s.heap.get? p.1 = some p.2 ∧ H p.1 = none ∧ p.1 ≠ X.env.locals ∧ p.1 ∉ X.fs ∧ ∀ v, p.2.data ≠ .cell v
  hok : HOk X.prog X.w H s.heap
  len : σ.length = X.N.length

section
variable {X : Cx} {pins : List (Addr × Obj)} {σ : List (Option V)} {H H' : Hp} {s : Shared} {h' : Heap}

theorem Cx.Ok.nofr (ok : X.Ok) {b : Addr} {o : Obj} (e : X.base.get? b = some o) : b ∉ X.fs := fun hb => by
  have := (ok.funs.mem hb).1
  rw [e] at this; cases this
theorem Inv.bs (I : Inv X pins σ H s) : ∀ b o, X.base.get? b = some o → s.heap.get? b = some o ∧ H b = none := fun b o e =>
  ⟨I.base.keep b o (I.ok.bs b o e).1 (I.ok.bs b o e).2 (I.ok.nofr e) (I.ok.noex b o e), I.base.free b o (I.ok.bs b o e).1 (I.ok.bs b o e).2 (I.ok.noex b o e)⟩
theorem Inv.bk (I : Inv X pins σ H s) : ∀ b o, X.base.get? b = some o → s.heap.get? b = some o := fun b o e => (I.bs b o e).1
theorem Inv.mod (I : Inv X pins σ H s) : Mod X.K X.mg X.base := I.ok.mod
theorem Inv.kIn (I : Inv X pins σ H s) : X.K.In s.heap := I.ok.mod.kin.keeps I.bk
theorem Inv.nolimit (I : Inv X pins σ H s) : s.heap.NoLimit := I.ok.mod.nolimit.keeps I.bk
theorem Inv.fr (I : Inv X pins σ H s) : ∃ m, Fr X.base X.env.locals s.heap m :=
  let ⟨m, hn, _⟩ := I.loc
  ⟨m, hn, I.bk, Nat.le_trans I.ok.bsz I.ok.above⟩
theorem Inv.lt (I : Inv X pins σ H s) : X.env.locals < s.heap.objs.size := let ⟨_, hn, _⟩ := I.loc; hn.lt
theorem Inv.sz (I : Inv X pins σ H s) : X.s₀.heap.objs.size ≤ s.heap.objs.size := Nat.le_trans I.ok.above (Nat.le_of_lt I.lt)
theorem Inv.nofs (I : Inv X pins σ H s) {a : Addr} (h : s.heap.objs.size ≤ a) : a ∉ X.fs := fun hb => by
  obtain ⟨_, o, ho, _⟩ := I.ok.funs.mem hb
  exact absurd (Nat.lt_of_lt_of_le (Heap.lt_size ho) (Nat.le_trans I.sz h)) (Nat.lt_irrefl _)
theorem Inv.cne (I : Inv X pins σ H s) : ∀ x c, X.env.cells.lookup x = some c → c ≠ X.env.locals := fun x c e z => by
  obtain ⟨v, o, ho, hd⟩ := I.cell x c e
  obtain ⟨m, ⟨o', es, ep, ho', hd', _⟩, _⟩ := I.loc
  rw [z, ho'] at ho; cases ho; rw [hd'] at hd; cases hd
theorem Inv.funs (I : Inv X pins σ H s) : s.heap.FunFrames X.base X.outer := by
  have all : ∀ (l : List Env), (∀ b ∈ frs l, b ∈ X.fs) → X.s₀.heap.FunFrames X.base l → s.heap.FunFrames X.base l := by
    intro l
    induction l with
    | nil => intro _ _; trivial
    | cons env r ih =>
      intro hs hl
      obtain ⟨hk, ⟨L, o, hf, hn, ho, hd⟩, hr⟩ := hl
      have hL : L ∈ X.fs := hs L (by unfold frs; rw [List.filterMap_cons, hf]; exact List.mem_cons_self)
      obtain ⟨sl, e⟩ := I.base.slot L o ho (I.ok.frf L hL) hL fun z => I.ok.exfs L z hL
      exact ⟨hk, ⟨L, _, hf, hn, e, hd⟩, ih (fun b hb => hs b (by unfold frs; rw [List.filterMap_cons, hf]; exact List.mem_cons_of_mem _ hb)) hr⟩
  exact all X.outer (fun _ hb => hb) I.ok.funs

theorem Inv.stack (I : Inv X pins σ H s) : s.heap.FunFrames X.base X.stack := by
  rcases I.ok.stk with e | ⟨e, hf⟩
  · rw [e]; exact I.funs
  · rw [e]
    obtain ⟨m, hn, _⟩ := I.loc
    refine .cons (by rw [I.ok.kind]; decide) hf hn ?_ I.funs
    exact Heap.get?_none_of_le (Nat.le_trans I.ok.bsz I.ok.above)
theorem Inv.stkSub (I : Inv X pins σ H s) : ∀ b ∈ frs X.stack, b ∈ X.env.locals :: X.fs := fun b hb => by
  rcases I.ok.stk with e | ⟨e, hf⟩
  · rw [e] at hb; exact List.mem_cons_of_mem _ hb
  · rw [e] at hb
    unfold frs at hb
    rw [List.filterMap_cons, hf] at hb
    exact hb
theorem Inv.stkFree (I : Inv X pins σ H s) : ∀ b ∈ frs X.stack, H b = none := fun b hb => by
  rcases List.mem_cons.mp (I.stkSub b hb) with e | hb
  · rw [e]; exact I.free
  · obtain ⟨_, o, ho, _⟩ := I.ok.funs.mem hb
    exact I.base.free b o ho (I.ok.frf b hb) fun z => I.ok.exfs b z hb

theorem Inv.step {g' : Array GenState} {t' : Nat} {d' : Drawn} {ch : List Addr} (I : Inv X pins σ H s)
    (hch : ∀ b ∈ ch, (b ∈ X.ex ∨ X.s₀.heap.objs.size ≤ b) ∧ b ≠ X.env.locals ∧ (∀ x c, X.env.cells.lookup x = some c → c ≠ b) ∧ ∀ p ∈ X.pn ++ pins, p.1 ≠ b)
    (keep : ∀ b o, b ≠ X.env.locals → b ∉ X.fs → b ∉ ch → s.heap.get? b = some o → H b = none → h'.get? b = some o)
    (slot : ∀ b o, b ≠ X.env.locals → b ∈ X.fs → b ∉ ch → s.heap.get? b = some o → H b = none → ∃ sl, h'.get? b = some { o with slots := sl }) (free : ∀ b o, b ∉ ch → s.heap.get? b = some o → H b = none → H' b = none)
    (there : ∀ b o, b ∉ ch → s.heap.get? b = some o → ∃ o', h'.get? b = some o')
    (tups : ∀ b xs, H b = some (.tup xs) → H' b = some (.tup xs)) (frzs : ∀ b o u, H b = some (.frz o u) → H' b = some (.frz o u)) (tbls : ∀ b ps, H b = some (.tbl ps) → ∃ more, H' b = some (.tbl (ps ++ more)))
    (ns : ∀ m, s.heap.Ns X.env.locals m → h'.Ns X.env.locals m) (hok : HOk X.prog X.w H' h') (hg : AllBare g') :
    Inv X pins σ H' { s with heap := h', gens := g', drawn := d', toks := t' } := by
  have neL : ∀ b o, X.s₀.heap.get? b = some o → b ≠ X.env.locals := fun b o e => Nat.ne_of_lt (Nat.lt_of_lt_of_le (Heap.lt_size e) I.ok.above)
  have neC : ∀ b o, X.s₀.heap.get? b = some o → b ∉ X.ex → b ∉ ch := fun b o e hx hb => by
    rcases (hch b hb).1 with z | z
    · exact hx z
    · exact absurd (Nat.lt_of_lt_of_le (Heap.lt_size e) z) (Nat.lt_irrefl _)
  have cellK : ∀ x c, X.env.cells.lookup x = some c → ∀ v, s.heap.IsCell c v → h'.IsCell c v := fun x c e v ⟨o, ho, hd⟩ => by
    have nch : c ∉ ch := fun z => (hch c z).2.2.1 x c e rfl
    by_cases hc : c ∈ X.fs
    · obtain ⟨sl, q⟩ := slot c o (I.cne x c e) hc nch ho (I.freeC x c e)
      exact ⟨_, q, hd⟩
    · exact ⟨o, keep c o (I.cne x c e) hc nch ho (I.freeC x c e), hd⟩
  refine ⟨I.ok, I.os, hg, ⟨fun b o e n hb hx => ?_, fun b o e n hb hx => ?_, fun b o e n hx => ?_, fun b o e hx => ?_, fun b xs e => tups b xs (I.base.tups b xs e), fun b o xs e => frzs b o xs (I.base.frzs b o xs e), fun b ps e => ?_⟩, ?_, fun x c e => ?_, ?_, fun x c e => ?_, fun p hp => ?_, hok, I.len⟩
  · exact keep b o (neL b o e) hb (neC b o e hx) (I.base.keep b o e n hb hx) (I.base.free b o e n hx)
  · obtain ⟨sl, e1⟩ := I.base.slot b o e n hb hx
    obtain ⟨sl', e2⟩ := slot b _ (neL b o e) hb (neC b o e hx) e1 (I.base.free b o e n hx)
    exact ⟨sl', e2⟩
  · obtain ⟨o', e1⟩ := I.base.there b o e hx
    exact free b o' (neC b o e hx) e1 (I.base.free b o e n hx)
  · obtain ⟨o', e1⟩ := I.base.there b o e hx
    exact there b o' (neC b o e hx) e1
  · obtain ⟨m1, e1⟩ := I.base.tbls b ps e
    obtain ⟨m2, e2⟩ := tbls b _ e1
    exact ⟨m1 ++ m2, by rw [e2, Array.append_assoc]⟩
  · obtain ⟨m, hn, hl⟩ := I.loc
    refine ⟨m, ns m hn, fun i x v e1 e2 e3 => ?_⟩
    obtain ⟨u, r, l⟩ := hl i x v e1 e2 e3
    refine ⟨u, r, ?_⟩
    rcases l with l | ⟨k, c, e, z⟩
    · exact .inl l
    · exact .inr ⟨k, c, e, cellK x c e _ z⟩
  · obtain ⟨v, z⟩ := I.cell x c e
    exact ⟨v, cellK x c e v z⟩
  · obtain ⟨m, ⟨o, _, _, ho, _⟩, _⟩ := I.loc
    exact free _ o (fun z => (hch _ z).2.1 rfl) ho I.free
  · obtain ⟨v, o, ho, hd⟩ := I.cell x c e
    exact free c o (fun z => (hch c z).2.2.1 x c e rfl) ho (I.freeC x c e)
  · obtain ⟨e, n, ne, nf, d⟩ := I.pin p hp
    have nch : p.1 ∉ ch := fun z => (hch p.1 z).2.2.2 p hp rfl
    exact ⟨keep p.1 p.2 ne nf nch e n, free p.1 p.2 nch e n, ne, nf, d⟩
theorem Inv.un {t' : Nat} (I : Inv X pins σ H s) (u : Un X.fs [] H H' s.heap h') (hok : HOk X.prog X.w H' h') : Inv X pins σ H' { s with heap := h', toks := t' } := by
  obtain ⟨m, ⟨o, es, ep, ho, r⟩, _⟩ := id I.loc
  obtain ⟨sl, hL⟩ := u.any ho I.free (by simp)
  exact I.step (g' := s.gens) (d' := s.drawn) (ch := []) (fun _ z => nomatch z) (fun b o _ hb _ e n => u.keep b o e n hb (by simp)) (fun b o _ hb _ e n => u.slot b o e n hb (by simp)) (fun b o _ e n => u.free b o e n (by simp)) (fun b o _ e => u.there b o e (by simp)) u.tups u.frzs u.tbls (fun m' hm => by
    obtain ⟨o', es', ep', ho', r'⟩ := hm
    rw [ho] at ho'; cases ho'
    exact ⟨_, es', ep', hL, r'⟩) hok I.bare
theorem Inv.call {g' : Array GenState} {t' : Nat} {d' : Drawn} {ch : List Addr} (I : Inv X pins σ H s) (u : Un (frs X.stack) ch H H' s.heap h') (hok : HOk X.prog X.w H' h') (hg : AllBare g')
    (hch : ∀ b ∈ ch, (b ∈ X.ex ∨ X.s₀.heap.objs.size ≤ b) ∧ b ≠ X.env.locals ∧ (∀ x c, X.env.cells.lookup x = some c → c ≠ b) ∧ ∀ p ∈ X.pn ++ pins, p.1 ≠ b) :
    Inv X pins σ H' { s with heap := h', gens := g', drawn := d', toks := t' } := by
  obtain ⟨m, ⟨o, es, ep, ho, r⟩, _⟩ := id I.loc
  obtain ⟨sl, hL⟩ := u.any ho I.free fun z => (hch _ z).2.1 rfl
  exact I.step (ch := ch) hch (fun b o hL hb hc e n => u.keep b o e n (fun z => (List.mem_cons.mp (I.stkSub b z)).elim hL hb) hc) (fun b o _ _ hc e n => u.any e n hc) (fun b o hc e n => u.free b o e n hc) (fun b o hc e => u.there b o e hc) u.tups u.frzs u.tbls (fun m' hm => by
    obtain ⟨o', es', ep', ho', r'⟩ := hm
    rw [ho] at ho'; cases ho'
    exact ⟨_, es', ep', hL, r'⟩) hok hg
theorem Inv.turned {t' : Nat} {it : Addr} (I : Inv X pins σ H s) (k : ∀ b o, b ≠ it → s.heap.get? b = some o → h'.get? b = some o) (hn : H it = none) (hL : it ≠ X.env.locals)
    (h1 : it ∈ X.ex ∨ X.s₀.heap.objs.size ≤ it) (h2 : ∀ x c, X.env.cells.lookup x = some c → c ≠ it) (h3 : ∀ p ∈ X.pn ++ pins, p.1 ≠ it) : Inv X pins σ H { s with heap := h', toks := t' } := by
  have nit : ∀ b u, H b = some u → b ≠ it := fun b u e z => by rw [z, hn] at e; cases e
  refine I.step (g' := s.gens) (d' := s.drawn) (ch := [it]) (fun b hb => ?_) (fun b o _ _ hc e _ => k b o (fun z => hc (by simp [z])) e) (fun b o _ _ hc e _ => ⟨o.slots, k b o (fun z => hc (by simp [z])) e⟩) (fun _ _ _ _ n => n)
    (fun b o hc e => ⟨o, k b o (fun z => hc (by simp [z])) e⟩) (fun _ _ e => e) (fun _ _ _ e => e) (fun b ps e => ⟨#[], by rw [e]; simp⟩) (fun m hm => ?_) (fun b u e => ?_) I.bare
  · have e : b = it := by simpa using hb
    subst e
    exact ⟨h1, hL, h2, h3⟩
  · obtain ⟨o, es, ep, ho, r⟩ := hm
    exact ⟨o, es, ep, k _ o (Ne.symm hL) ho, r⟩
  · refine (I.hok b u e).stay (fun c v hc q => k c v ?_ q) (fun _ q => q) fun _ _ q => q
    rcases hc with z | z
    · rw [z]; exact nit b u e
    · exact nit c _ z
theorem Inv.tok (I : Inv X pins σ H s) (t : Nat) : Inv X pins σ H { s with toks := t } := I.un (h' := s.heap) (t' := t) Un.refl I.hok
theorem Inv.kept {t' : Nat} (I : Inv X pins σ H s) (k : ∀ b u, s.heap.get? b = some u → h'.get? b = some u) : Inv X pins σ H { s with heap := h', toks := t' } := I.un (Un.kept k) (I.hok.kept k)
theorem Inv.laid {a : Addr} {o : HO} {t' : Nat} (I : Inv X pins σ H s) (k : ∀ b u, s.heap.get? b = some u → h'.get? b = some u) (hp : s.heap.objs.size ≤ a) (new : ObjOk X.prog X.w (upd H a o) h' a o) :
    Inv X pins σ (upd H a o) { s with heap := h', toks := t' } := I.un (Un.laid k hp (I.hok.fresh hp)) (I.hok.laid k hp new)
theorem Inv.write {x e : Addr} {o : HO} {t' : Nat} (I : Inv X pins σ H s) (mu : Mut (H x)) (he : e = x ∨ H e = some (.own x)) (k : ∀ b u, b ≠ e → s.heap.get? b = some u → h'.get? b = some u) (heo : ∃ u, h'.get? e = some u)
    (new : ObjOk X.prog X.w (upd H x o) h' x o) : Inv X pins σ (upd H x o) { s with heap := h', toks := t' } := I.un (Un.write mu he k heo) (I.hok.write mu he k heo new)
theorem Inv.pins_of {pins' : List (Addr × Obj)} (I : Inv X pins σ H s) (h : ∀ p ∈ pins', s.heap.get? p.1 = some p.2 ∧ H p.1 = none ∧ p.1 ≠ X.env.locals ∧ p.1 ∉ X.fs ∧ ∀ v, p.2.data ≠ .cell v) : Inv X pins' σ H s :=
  ⟨I.ok, I.os, I.bare, I.base, I.loc, I.cell, I.free, I.freeC, fun p hp => (List.mem_append.mp hp).elim (fun z => I.pin p (List.mem_append_left _ z)) (h p), I.hok, I.len⟩

theorem nodup_ix {N : List Str} (hN : N.Nodup) {i j : Nat} {x : Str} (a : N[i]? = some x) (b : N[j]? = some x) : i = j := by
  obtain ⟨h1, e1⟩ := List.getElem?_eq_some_iff.mp a
  obtain ⟨h2, e2⟩ := List.getElem?_eq_some_iff.mp b
  exact (List.getElem_inj hN).mp (e1.trans e2.symm)

theorem store_ok2 {M : Model} {A : Around} {E : Value → Shared → Prop} {i : Nat} {x : Str} {v : V} {u : Value} {Q : Unit → Shared → Prop} (I : Inv X pins σ H s) (hN : X.N.Nodup) (hi : X.N[i]? = some x) (hx : Loc X.env.scope x) (r : RelV v u)
    (h : ∀ s', Inv X pins (σ.set i (some v)) H s' → (∃ a, Heap.SameBut a s.heap s'.heap ∧ (a = X.env.locals ∨ X.env.cells.lookup x = some a)) → Q () s') (hf : X.fn x = true ∨ X.env.scope.names.lookup x = some .local := by first | exact .inl rfl | exact .inr rfl | assumption) : wpAny M A (storeName X.env x u) Q E s := by
  obtain ⟨m, hn, hl⟩ := id I.loc
  have hcls : (X.env.scope.kind == .class || (X.env.scope.kind == .module && X.env.locals != X.env.globals)) = false := by rw [I.ok.kind]; rfl
  have hiσ : i < σ.length := by rw [I.len]; exact (List.getElem?_eq_some_iff.mp hi).1
  have cne := I.cne
  have tracked : ∀ {a : Addr} {h' : Heap}, (∃ o, s.heap.get? a = some o ∧ H a = none) → Heap.SameBut a s.heap h' → HOk X.prog X.w H h' := fun {a h'} ha hs b ob e => by
    obtain ⟨_, _, hfree⟩ := ha
    refine (I.hok b ob e).stay (fun c w' hc q => (hs.2 c ?_).trans q) (fun _ q => q) fun _ _ q => q
    rintro rfl
    rcases hc with rfl | hc
    · rw [hfree] at e; cases e
    · rw [hfree] at hc; cases hc
  rcases hx with hk | hk
  · refine wpAny_storeName_local hk hn (fun h' hn' hs => ?_) hcls
    obtain ⟨oL, _, _, hoL, _⟩ := id hn
    refine h _ ⟨I.ok, I.os, I.bare, ⟨fun b o e n hb hx => ?_, fun b o e n hb hx => ?_, I.base.free, fun b o e hx => ?_, I.base.tups, I.base.frzs, I.base.tbls⟩, ⟨_, hn', fun j y v' e1 e2 e3 => ?_⟩, fun y c e => ?_, I.free, I.freeC, fun p hp => ?_, tracked ⟨oL, hoL, I.free⟩ hs, by simpa using I.len⟩ ⟨_, hs, .inl rfl⟩
    · exact (hs.2 b (Nat.ne_of_lt (Nat.lt_of_lt_of_le (Heap.lt_size e) I.ok.above))).trans (I.base.keep b o e n hb hx)
    · obtain ⟨sl, e1⟩ := I.base.slot b o e n hb hx
      exact ⟨sl, (hs.2 b (Nat.ne_of_lt (Nat.lt_of_lt_of_le (Heap.lt_size e) I.ok.above))).trans e1⟩
    · obtain ⟨o', e1⟩ := I.base.there b o e hx
      exact ⟨o', (hs.2 b (Nat.ne_of_lt (Nat.lt_of_lt_of_le (Heap.lt_size e) I.ok.above))).trans e1⟩
    · by_cases hj : j = i
      · subst hj
        rw [hi] at e1; cases e1
        rw [List.getElem?_set_self hiσ] at e2
        cases e2
        exact ⟨u, r, .inl ⟨hk, by simp⟩⟩
      · rw [List.getElem?_set_ne (Ne.symm hj)] at e2
        obtain ⟨u', r', q⟩ := hl j y v' e1 e2 e3
        refine ⟨u', r', ?_⟩
        rcases q with ⟨k, e⟩ | ⟨k, c, e, z⟩
        · refine .inl ⟨k, ?_⟩
          have : y ≠ x := fun e => hj (nodup_ix hN e1 (e ▸ hi))
          simp [this, e]
        · exact .inr ⟨k, c, e, z.sameBut hs (cne y c e)⟩
    · obtain ⟨w', z⟩ := I.cell y c e
      exact ⟨w', z.sameBut hs (cne y c e)⟩
    · obtain ⟨e, n, ne, nf, d⟩ := I.pin p hp
      exact ⟨(hs.2 p.1 ne).trans e, n, ne, nf, d⟩
  · have hfn : X.fn x = true := by
      rcases hf with z | z
      · exact z
      · rw [z] at hk; cases hk
    obtain ⟨c, hc⟩ := I.ok.has x (.inl hk)
    obtain ⟨w', z⟩ := I.cell x c hc
    refine wpAny_storeName_cell I.ok.kind hk hc z (fun h' hc' hs => ?_)
    obtain ⟨oc, hoc, hocd⟩ := id z
    refine h { s with heap := h' } ⟨I.ok, I.os, I.bare, ⟨fun b o e n hb hx => ?_, fun b o e n hb hx => ?_, I.base.free, fun b o e hx => ?_, I.base.tups, I.base.frzs, I.base.tbls⟩, ⟨m, hn.sameBut hs (Ne.symm (cne x c hc)), fun j y v' e1 e2 e3 => ?_⟩, fun y c' e => ?_, I.free, I.freeC, fun p hp => ?_, tracked ⟨oc, hoc, I.freeC x c hc⟩ hs, by simpa using I.len⟩ ⟨c, hs, .inr hc⟩
    · exact (hs.2 b (Nat.ne_of_lt (Nat.lt_of_lt_of_le (Heap.lt_size e) (I.ok.cab x c hfn hc)))).trans (I.base.keep b o e n hb hx)
    · obtain ⟨sl, e1⟩ := I.base.slot b o e n hb hx
      exact ⟨sl, (hs.2 b (Nat.ne_of_lt (Nat.lt_of_lt_of_le (Heap.lt_size e) (I.ok.cab x c hfn hc)))).trans e1⟩
    · obtain ⟨o', e1⟩ := I.base.there b o e hx
      exact ⟨o', (hs.2 b (Nat.ne_of_lt (Nat.lt_of_lt_of_le (Heap.lt_size e) (I.ok.cab x c hfn hc)))).trans e1⟩
    · by_cases hj : j = i
      · subst hj
        rw [hi] at e1; cases e1
        rw [List.getElem?_set_self hiσ] at e2
        cases e2
        exact ⟨u, r, .inr ⟨.inl hk, c, hc, hc'⟩⟩
      · rw [List.getElem?_set_ne (Ne.symm hj)] at e2
        obtain ⟨u', r', q⟩ := hl j y v' e1 e2 e3
        refine ⟨u', r', ?_⟩
        rcases q with q | ⟨k, c', e, z'⟩
        · exact .inl q
        · refine .inr ⟨k, c', e, z'.sameBut hs ?_⟩
          rintro rfl
          exact hj (nodup_ix hN e1 (I.ok.inj _ _ _ e hc ▸ hi))
    · by_cases hcc : c' = c
      · subst hcc; exact ⟨_, hc'⟩
      · obtain ⟨w2, z2⟩ := I.cell y c' e
        exact ⟨w2, z2.sameBut hs hcc⟩
    · obtain ⟨e, n, ne, nf, d⟩ := I.pin p hp
      refine ⟨(hs.2 p.1 ?_).trans e, n, ne, nf, d⟩
      intro q
      rw [q, hoc] at e
      have q' : oc = p.2 := Option.some.inj e
      exact d w' (by rw [← q']; exact hocd)
theorem store_ok {M : Model} {A : Around} {E : Value → Shared → Prop} {i : Nat} {x : Str} {v : V} {u : Value} {Q : Unit → Shared → Prop} (I : Inv X pins σ H s) (hN : X.N.Nodup) (hi : X.N[i]? = some x) (hx : Loc X.env.scope x) (r : RelV v u)
    (h : ∀ s', Inv X pins (σ.set i (some v)) H s' → Q () s') (hf : X.fn x = true ∨ X.env.scope.names.lookup x = some .local := by first | exact .inl rfl | exact .inr rfl | assumption) : wpAny M A (storeName X.env x u) Q E s :=
  store_ok2 I hN hi hx r (fun s' I' _ => h s' I') hf
theorem Inv.call' {s' : Shared} {ch : List Addr} (I : Inv X pins σ H s) (ho : s'.os = s.os) (u : Un (frs X.stack) ch H H' s.heap s'.heap) (hok : HOk X.prog X.w H' s'.heap) (hg : AllBare s'.gens)
    (hch : ∀ b ∈ ch, (b ∈ X.ex ∨ X.s₀.heap.objs.size ≤ b) ∧ b ≠ X.env.locals ∧ (∀ x c, X.env.cells.lookup x = some c → c ≠ b) ∧ ∀ p ∈ X.pn ++ pins, p.1 ≠ b) : Inv X pins σ H' s' := by
  obtain ⟨h', g', d', t', o'⟩ := s'
  have e : o' = s.os := ho
  subst e
  exact I.call (g' := g') (t' := t') (d' := d') u hok hg hch
end

abbrev XK := Value → Option Addr → Hp → Prop
abbrev St := List (Option V)
abbrev VK := V → Hp → Prop
abbrev TE := St → Hp → VK → Prop
abbrev TT := St → Hp → (Bool → Hp → Prop) → Prop
abbrev TA := St → Hp → (List V → Hp → Prop) → Prop
structure Ends where
  nx : St → Hp → Prop
  rt : VK
  bk : St → Hp → Prop := fun _ _ => False
  ct : St → Hp → Prop := fun _ _ => False
abbrev TS := Ends → St → Hp → Prop

def EP (X : Cx) (pins : List (Addr × Obj)) (σ : St) (Q : VK) (u : Value) (s' : Shared) : Prop := ∃ v H', Inv X pins σ H' s' ∧ RelV v u ∧ Q v H'
def TP (X : Cx) (pins : List (Addr × Obj)) (σ : St) (Q : Bool → Hp → Prop) (b : Bool) (s' : Shared) : Prop := ∃ H', Inv X pins σ H' s' ∧ Q b H'
def AP (X : Cx) (pins : List (Addr × Obj)) (σ : St) (Q : List V → Hp → Prop) (us : List Value) (s' : Shared) : Prop := ∃ vs H', Inv X pins σ H' s' ∧ Vals vs us ∧ Q vs H'
def SP (X : Cx) (pins : List (Addr × Obj)) (D : Ends) (f : Flow) (s' : Shared) : Prop :=
  match f with
  | .next => ∃ σ' H', Inv X pins σ' H' s' ∧ D.nx σ' H'
  | .brk => ∃ σ' H', Inv X pins σ' H' s' ∧ D.bk σ' H'
  | .cont => ∃ σ' H', Inv X pins σ' H' s' ∧ D.ct σ' H'
  | .ret u => ∃ v σ' H', Inv X pins σ' H' s' ∧ RelV v u ∧ D.rt v H'

def PE (X : Cx) (e : Expr) (t : TE) : Prop :=
  ∀ (pins : List (Addr × Obj)) (s : Shared) (σ : St) (H : Hp) (Q : VK), Inv X pins σ H s → t σ H Q → wpAny (model X.prog X.w) X.A (eval e X.env) (EP X pins σ Q) X.xe s
def PT (X : Cx) (e : Expr) (t : TT) : Prop :=
  ∀ (pins : List (Addr × Obj)) (s : Shared) (σ : St) (H : Hp) (Q : Bool → Hp → Prop), Inv X pins σ H s → t σ H Q → wpAny (model X.prog X.w) X.A (isTrue e X.env (eval e X.env)) (TP X pins σ Q) X.xe s
def PW (X : Cx) (e : Expr) (t : TT) : Prop :=
  ∀ (whole : Sem Value) (pins : List (Addr × Obj)) (s : Shared) (σ : St) (H : Hp) (Q : Bool → Hp → Prop), Inv X pins σ H s → t σ H Q → wpAny (model X.prog X.w) X.A (isTrue e X.env whole) (TP X pins σ Q) X.xe s
theorem PW.pt {X : Cx} {e : Expr} {t : TT} (h : PW X e t) : PT X e t := h _
def PA (X : Cx) (es : List Expr) (t : TA) : Prop :=
  ∀ (pos : Pos) (pins : List (Addr × Obj)) (s : Shared) (σ : St) (H : Hp) (Q : List V → Hp → Prop), Inv X pins σ H s → t σ H Q → wpAny (model X.prog X.w) X.A (spliced (backTo pos (starEach es X.env))) (AP X pins σ Q) X.xe s
def PS (X : Cx) (st : Stmt) (t : TS) : Prop :=
  ∀ (pins : List (Addr × Obj)) (s : Shared) (σ : St) (H : Hp) (D : Ends), Inv X pins σ H s → t D σ H → wpAny (model X.prog X.w) X.A (exec st X.env) (SP X pins D) X.xe s
def PSs (X : Cx) (st : List Stmt) (t : TS) : Prop :=
  ∀ (pins : List (Addr × Obj)) (s : Shared) (σ : St) (H : Hp) (D : Ends), Inv X pins σ H s → t D σ H → wpAny (model X.prog X.w) X.A (execs st X.env) (SP X pins D) X.xe s
theorem thn {α : Type} {t : Sem α} {Q Q' : α → Shared → Prop} {M : Model} {A : Around} {E : Value → Shared → Prop} {s : Shared} (h : wpAny M A t Q E s) (hQ : ∀ a s, Q a s → Q' a s) : wpAny M A t Q' E s := wpAny_mono h hQ fun _ _ x => x
end L2

namespace L2
open PySem PySem.Spec PyProof.Rows
section
variable {X : Cx}

def tVar (i : Nat) : TE := fun σ H Q => ∃ v, σ[i]? = some (some v) ∧ Q v H
def tC (v : V) : TE := fun _ H Q => Q v H
theorem pe_var {i : Nat} {x : Str} {pos : Pos} (hN : X.N[i]? = some x) (hv : Vis X.env.scope x) (hd : (x == ("__debug__" : Str)) = false := by decide) (hcd : (x == ("__classdict__" : Str)) = false := by decide) : PE X (.Name x pos) (tVar i) := by
  intro pins s σ H Q I h
  obtain ⟨v, e, h⟩ := h
  obtain ⟨m, hn, hl⟩ := I.loc
  obtain ⟨u, r, l⟩ := hl i x v hN e hv
  have fin : EP X pins σ Q u s := ⟨v, H, I, r, h⟩
  rcases l with ⟨hk, hm⟩ | ⟨hk, c, hc, hcell⟩
  · exact wpAny_Name (wpAny_loadName_local I.ok.kind hk hn hm fin) hd
  · rcases hk with hk | hk
    · exact wpAny_Name (wpAny_loadName_cell I.ok.kind hk hc hcell fin) hd
    · exact wpAny_Name (wpAny_loadName_free I.ok.kind hk hc hcell fin hcd) hd
theorem pe_int {i j pos} : PE X (.Constant (.int i) j pos) (tC (.int i)) := fun _ _ _ H _ I h => wpAny_Constant_int ⟨.int i, H, I.tok _, ⟨_, rfl⟩, h⟩
theorem pe_bl {b j pos} : PE X (.Constant (.bool b) j pos) (tC (.bl b)) := fun _ _ _ H _ I h => Constant_bool ⟨.bl b, H, I, rfl, h⟩
theorem pe_non {j pos} : PE X (.Constant .none j pos) (tC .non) := fun _ _ _ H _ I h => Constant_none ⟨.non, H, I, rfl, h⟩
theorem pe_str {x j pos} : PE X (.Constant (.str x) j pos) (tC (.str x)) := fun _ _ _ H _ I h => Calls.Constant_str ⟨.str x, H, I.tok _, ⟨_, rfl⟩, h⟩

def Gl (X : Cx) (x : Str) : Prop := X.env.kindOf x = some .globalImplicit
theorem ld_glob {E : Value → Shared → Prop} {pins : List (Addr × Obj)} {s : Shared} {σ : St} {H : Hp} {x : Str} {u : Value} {pos : Pos} {Q : Value → Shared → Prop} (I : Inv X pins σ H s) (hg : Gl X x) (hm : X.mg x = some u) (h : Q u s)
    (hd : (x == ("__debug__" : Str)) = false := by decide) : wpAny (model X.prog X.w) X.A (eval (.Name x pos) X.env) Q E s :=
  Calls.Name_function_global I.ok.kind hg (Calls.loadGlobal_global (by rw [I.ok.glob]; exact I.mod.glob.keeps I.bk) hm h) hd
theorem ld_blt {E : Value → Shared → Prop} {pins : List (Addr × Obj)} {s : Shared} {σ : St} {H : Hp} {x : Str} {u : Value} {pos : Pos} {Q : Value → Shared → Prop} (I : Inv X pins σ H s) (hg : Gl X x) (hm : X.mg x = none) (hv : bootBuiltins x = some u) (h : Q u s)
    (hn : x ≠ "__name__" := by decide) (hd : (x == ("__debug__" : Str)) = false := by decide) : wpAny (model X.prog X.w) X.A (eval (.Name x pos) X.env) Q E s := by
  obtain ⟨mb, h1, h2⟩ := I.mod.blt
  exact Calls.Name_function_global I.ok.kind hg (Calls.loadGlobal_builtin (by rw [I.ok.glob]; exact I.mod.glob.keeps I.bk) hm (by rw [I.ok.blt]; exact h1.keeps I.bk) ((h2 x hn).trans hv) h) hd
theorem pe_bltn {x : Str} {v : V} {u : Value} {pos : Pos} (hg : Gl X x) (hm : X.mg x = none) (hv : bootBuiltins x = some u) (r : RelV v u) (hn : x ≠ "__name__" := by decide) (hd : (x == ("__debug__" : Str)) = false := by decide) : PE X (.Name x pos) (tC v) :=
  fun _ _ _ H _ I h => ld_blt I hg hm hv ⟨v, H, I, r, h⟩ hn hd

def t2I (ta tb : TE) (k : Int → Int → Hp → Prop) : St → Hp → Prop := fun σ H => ta σ H fun x H1 => tb σ H1 fun y H2 => ∃ i j, x = .int i ∧ y = .int j ∧ k i j H2
def tAdd (ta tb : TE) : TE := fun σ H Q => t2I ta tb (fun i j H2 => Q (.int (i + j)) H2) σ H
def tSub (ta tb : TE) : TE := fun σ H Q => t2I ta tb (fun i j H2 => Q (.int (i - j)) H2) σ H
def tMul (ta tb : TE) : TE := fun σ H Q => t2I ta tb (fun i j H2 => (-(2 ^ 64) < i ∧ i < 2 ^ 64) ∧ Q (.int (i * j)) H2) σ H
variable {a b : Expr} {ta tb : TE} {pos : Pos}
def PC (X : Cx) (op : CmpOp) (a b : Expr) (t : TE) : Prop :=
  ∀ (pins : List (Addr × Obj)) (s : Shared) (σ : St) (H : Hp) (Q : VK), Inv X pins σ H s → t σ H Q →
    wpAny (model X.prog X.w) X.A (eval a X.env) (fun v s₁ => wpAny (model X.prog X.w) X.A (eval b X.env) (fun u s₂ => wpAny (model X.prog X.w) X.A (compareOp op v u) (EP X pins σ Q) X.xe s₂) X.xe s₁) X.xe s
theorem nobehind (b : Expr) {op : CmpOp} (h : op ≠ .In) (h2 : op ≠ .NotIn) : behindInMarks op b = false := by
  have e1 : (op == CmpOp.In) = false := by cases op <;> first | rfl | exact absurd rfl h
  have e2 : (op == CmpOp.NotIn) = false := by cases op <;> first | rfl | exact absurd rfl h2
  cases b <;> simp [behindInMarks, e1, e2]
def tCmp (p : Int → Int → Bool) (ta tb : TE) : TE := fun σ H Q => t2I ta tb (fun i j H2 => Q (.bl (p i j)) H2) σ H
abbrev tLt : TE → TE → TE := tCmp fun i j => decide (i < j)
abbrev tLe : TE → TE → TE := tCmp fun i j => decide (i ≤ j)
abbrev tGt : TE → TE → TE := tCmp fun i j => decide (j < i)
abbrev tGe : TE → TE → TE := tCmp fun i j => decide (j ≤ i)
abbrev tEqI : TE → TE → TE := tCmp fun i j => decide (i = j)
abbrev tNeI : TE → TE → TE := tCmp fun i j => !decide (i = j)
def tIsN (ta : TE) : TE := fun σ H Q => ta σ H fun x H1 => Q (.bl (decide (x = .non))) H1
def tNotN (ta : TE) : TE := fun σ H Q => ta σ H fun x H1 => Q (.bl (!decide (x = .non))) H1
def tB (t : TE) : TT := fun σ H Q => t σ H fun x H1 => ∃ c, x = .bl c ∧ Q c H1
theorem pt_cmp {op : CmpOp} {t : TE} (h : PC X op a b t) (h1 : behindInMarks op b = false := by first | exact nobehind _ (by decide) (by decide) | rfl) : PT X (.Compare a [op] [b] pos) (tB t) := by
  intro pins s σ H Q I hw
  refine wpAny_isTrue_Compare1 (thn (h pins s σ H _ I hw) fun v s1 h1 => thn h1 fun u s2 h2 => thn h2 fun c s3 ⟨x, H1, I1, r1, q1⟩ => ?_) h1
  obtain ⟨d, rfl, q⟩ := q1
  cases r1
  exact wpAny_truthy_bool ⟨H1, I1, q⟩
variable {tA tB' : TT} {rest : List Expr}
def tAnd (t u : TT) : TT := fun σ H Q => t σ H fun c H1 => if c = true then u σ H1 Q else Q false H1
def tOr (t u : TT) : TT := fun σ H Q => t σ H fun c H1 => if c = true then Q true H1 else u σ H1 Q
def tNot (t : TT) : TT := fun σ H Q => t σ H fun c H1 => Q (!c) H1
theorem pw_and1 (ha : PT X a tA) : PW X (.BoolOp .And [a] pos) tA := by
  intro wh pins s σ H Q I h
  refine isTrue_and (thn (ha pins s σ H Q I h) fun c s1 e => ?_)
  cases c with
  | true => exact isTrue_and_nil e
  | false => exact e
theorem pw_or1 (ha : PT X a tA) : PW X (.BoolOp .Or [a] pos) tA := by
  intro wh pins s σ H Q I h
  refine isTrue_or (thn (ha pins s σ H Q I h) fun c s1 e => ?_)
  cases c with
  | false => exact isTrue_or_nil e
  | true => exact e
theorem pw_and (ha : PT X a tA) (hb : PW X (.BoolOp .And (b :: rest) pos) tB') : PW X (.BoolOp .And (a :: b :: rest) pos) (tAnd tA tB') := by
  intro wh pins s σ H Q I h
  refine isTrue_and (thn (ha pins s σ H _ I h) fun c s1 ⟨H1, I1, q1⟩ => ?_)
  cases c with
  | true => exact hb wh pins s1 σ H1 Q I1 q1
  | false => exact ⟨H1, I1, q1⟩
theorem pw_or (ha : PT X a tA) (hb : PW X (.BoolOp .Or (b :: rest) pos) tB') : PW X (.BoolOp .Or (a :: b :: rest) pos) (tOr tA tB') := by
  intro wh pins s σ H Q I h
  refine isTrue_or (thn (ha pins s σ H _ I h) fun c s1 ⟨H1, I1, q1⟩ => ?_)
  cases c with
  | true => exact ⟨H1, I1, q1⟩
  | false => exact hb wh pins s1 σ H1 Q I1 q1
theorem pt_not (ha : PT X a tA) : PT X (.UnaryOp .Not a pos) (tNot tA) := by
  intro pins s σ H Q I h
  exact isTrue_not (ha pins s σ H (fun c H1 => Q (!c) H1) I h)
def tAndV (ta tb : TE) : TE := fun σ H Q => ta σ H fun x H1 => ∃ c, x = .bl c ∧ if c = true then tb σ H1 Q else Q (.bl false) H1
def tOrV (ta tb : TE) : TE := fun σ H Q => ta σ H fun x H1 => ∃ c, x = .bl c ∧ if c = true then Q (.bl true) H1 else tb σ H1 Q
def tNotV (ta : TE) : TE := fun σ H Q => ta σ H fun x H1 => ∃ c, x = .bl c ∧ Q (.bl (!c)) H1
theorem pe_one {op} {t : TE} (h : PE X a t) : PE X (.BoolOp op [a] pos) t := fun pins s σ H Q I hw => BoolOp_one (h pins s σ H Q I hw)
theorem pe_and (ha : PE X a ta) (hb : PE X (.BoolOp .And (b :: rest) pos) tb) : PE X (.BoolOp .And (a :: b :: rest) pos) (tAndV ta tb) := by
  intro pins s σ H Q I h
  refine BoolOp_and (thn (ha pins s σ H _ I h) fun v s1 ⟨x, H1, I1, r1, q1⟩ => ?_)
  obtain ⟨c, rfl, q1⟩ := q1
  cases r1
  refine wpAny_truthy_bool ?_
  cases c with
  | true => exact hb pins s1 σ H1 Q I1 q1
  | false => exact ⟨.bl false, H1, I1, rfl, q1⟩
theorem pe_not (ha : PE X a ta) : PE X (.UnaryOp .Not a pos) (tNotV ta) := by
  intro pins s σ H Q I h
  refine UnaryOp_ (thn (ha pins s σ H _ I h) fun v s1 ⟨x, H1, I1, r1, q1⟩ => ?_)
  obtain ⟨c, rfl, q1⟩ := q1
  cases r1
  exact not_of (wpAny_truthy_bool ⟨.bl (!c), H1, I1, rfl, q1⟩)
def tIf (t : TT) (ta tb : TE) : TE := fun σ H Q => t σ H fun c H1 => if c = true then ta σ H1 Q else tb σ H1 Q
end
end L2

namespace L2
open PySem PySem.Spec PyProof.Rows

def SqL (K : PySem.W.Frag) (H : Hp) (a : Addr) (xs : List V) : Prop :=
  Rd H a (.lst xs) ∨
    ∃ (o : Obj) (its : Array Value) (n : Nat), K.lookup a = some o ∧ o.cls = .type "list" ∧ o.dict = none ∧ o.data = .seq its n ∧ its.size ≤ sizeLine ∧ Vals xs its.toList
def SqT (K : PySem.W.Frag) (H : Hp) (a : Addr) (xs : List V) : Prop :=
  Rd H a (.tup xs) ∨
    ∃ (o : Obj) (its : Array Value) (n : Nat), K.lookup a = some o ∧ o.cls = .type "tuple" ∧ o.data = .seq its n ∧ its.size ≤ sizeLine ∧ Vals xs its.toList
def absV : Value → Option V
  | .none => some .non
  | .bool b => some (.bl b)
  | .int i _ => some (.int i)
  | .str x _ => some (.str x)
  | .bytes b _ => some (.byt b)
  | .float b _ => some (.flt b)
  | .ref a => some (.ref a)
  | .type n => some (.ty n)
  | _ => none
theorem RelV.abs {x : V} {u : Value} (r : RelV x u) : absV u = some x := by
  cases x with
  | non => cases r; rfl
  | bl _ => cases r; rfl
  | int _ => obtain ⟨t, rfl⟩ := r; rfl
  | str _ => obtain ⟨t, rfl⟩ := r; rfl
  | byt _ => obtain ⟨t, rfl⟩ := r; rfl
  | flt _ => obtain ⟨t, rfl⟩ := r; rfl
  | ref _ => cases r; rfl
  | ty _ => cases r; rfl
theorem RelV.inj {x y : V} {u : Value} (r : RelV x u) (q : RelV y u) : x = y := Option.some.inj (r.abs.symm.trans q.abs)
theorem Vals.inj : ∀ {xs ys : List V} {us : List Value}, Vals xs us → Vals ys us → xs = ys
  | _, _, _, .nil, .nil => rfl
  | _, _, _, .cons r t, .cons r' t' => by rw [r.inj r', Vals.inj t t']
section
variable {X : Cx} {pins : List (Addr × Obj)} {σ : St} {H : Hp} {s : Shared} {a : Addr} {xs ys : List V}
theorem SqL.of {K : PySem.W.Frag} (h : H a = some (.lst xs)) : SqL K H a xs := .inl (.inl h)
theorem SqT.of {K : PySem.W.Frag} (h : H a = some (.tup xs)) : SqT K H a xs := .inl (.inl h)
theorem Inv.list (I : Inv X pins σ H s) (h : SqL X.K H a xs) : ∃ its : List Value, Vals xs its ∧ PlainL s.heap a its.toArray ∧ xs.length ≤ sizeLine := by
  rcases h with h | ⟨o, its, n, hk, hc, hd, hs, hz, r⟩
  · obtain ⟨z, its, n, r, e⟩ := h.ok I.hok
    exact ⟨its, r, ⟨_, n, e, rfl, rfl, rfl⟩, z⟩
  · refine ⟨its.toList, r, ⟨o, n, I.kIn a o hk, hc, hd, by simpa using hs⟩, ?_⟩
    have e := r.length
    simp only [Array.length_toList] at e
    omega
theorem Inv.tuple (I : Inv X pins σ H s) (h : SqT X.K H a xs) : ∃ its : List Value, Vals xs its ∧ IsTup s.heap a its.toArray ∧ xs.length ≤ sizeLine := by
  rcases h with h | ⟨o, its, n, hk, hc, hs, hz, r⟩
  · obtain ⟨z, its, r, p⟩ := h.ok I.hok
    exact ⟨its, r, p, z⟩
  · refine ⟨its.toList, r, ⟨o, I.kIn a o hk, hc, n, by simpa using hs⟩, ?_⟩
    have e := r.length
    simp only [Array.length_toList] at e
    omega
theorem Inv.list_inj (I : Inv X pins σ H s) (h : SqL X.K H a xs) (h' : SqL X.K H a ys) : xs = ys := by
  obtain ⟨its, r, ⟨o, n, e, _, _, d⟩, _⟩ := I.list h
  obtain ⟨its', r', ⟨o', n', e', _, _, d'⟩, _⟩ := I.list h'
  rw [e] at e'; cases e'
  rw [d] at d'
  injection d' with d1 _
  have : its = its' := by simpa using congrArg Array.toList d1
  subst this
  exact r.inj r'
theorem Inv.tuple_inj (I : Inv X pins σ H s) (h : SqT X.K H a xs) (h' : SqT X.K H a ys) : xs = ys := by
  obtain ⟨its, r, ⟨o, e, _, n, d⟩, _⟩ := I.tuple h
  obtain ⟨its', r', ⟨o', e', _, n', d'⟩, _⟩ := I.tuple h'
  rw [e] at e'; cases e'
  rw [d] at d'
  injection d' with d1 _
  have : its = its' := by simpa using congrArg Array.toList d1
  subst this
  exact r.inj r'
end

abbrev Cx.wish (X : Cx) (E : Value → Shared → Prop) : Cx := { X with xe := E }
abbrev Cx.nox (X : Cx) : Cx := X.wish fun _ _ => False
theorem Cx.Ok.wish {X : Cx} (ok : X.Ok) (E : Value → Shared → Prop) : (X.wish E).Ok :=
  ⟨ok.mod, ok.kind, ok.glob, ok.blt, ok.above, ok.inj, ok.has, ok.cab, ok.hd, ok.frames, ok.stk, ok.exf, ok.bs, ok.bsz, ok.noex, ok.exfs, ok.funs, ok.frf⟩
theorem Cx.Ok.unwish {X : Cx} {E : Value → Shared → Prop} (ok : (X.wish E).Ok) : X.Ok :=
  ⟨ok.mod, ok.kind, ok.glob, ok.blt, ok.above, ok.inj, ok.has, ok.cab, ok.hd, ok.frames, ok.stk, ok.exf, ok.bs, ok.bsz, ok.noex, ok.exfs, ok.funs, ok.frf⟩
section
variable {X : Cx} {pins : List (Addr × Obj)} {σ : St} {H : Hp} {s : Shared} {E : Value → Shared → Prop}
theorem Inv.wish (I : Inv X pins σ H s) (E : Value → Shared → Prop) : Inv (X.wish E) pins σ H s := ⟨I.ok.wish E, I.os, I.bare, I.base, I.loc, I.cell, I.free, I.freeC, I.pin, I.hok, I.len⟩
theorem Inv.unwish (I : Inv (X.wish E) pins σ H s) : Inv X pins σ H s := ⟨I.ok.unwish, I.os, I.bare, I.base, I.loc, I.cell, I.free, I.freeC, I.pin, I.hok, I.len⟩
theorem SP.unwish {D : Ends} {f : Flow} {s' : Shared} (h : SP (X.wish E) pins D f s') : SP X pins D f s' := by
  cases f with
  | next => obtain ⟨σ', H', I, q⟩ := h; exact ⟨σ', H', I.unwish, q⟩
  | brk => obtain ⟨σ', H', I, q⟩ := h; exact ⟨σ', H', I.unwish, q⟩
  | cont => obtain ⟨σ', H', I, q⟩ := h; exact ⟨σ', H', I.unwish, q⟩
  | ret u => obtain ⟨v, σ', H', I, r, q⟩ := h; exact ⟨v, σ', H', I.unwish, r, q⟩
theorem PE.nox {e : Expr} {t : TE} (h : PE X.nox e t) : PE X e t := fun pins s σ H Q I hw =>
  wpAny_mono (h pins s σ H Q (I.wish _) hw) (fun _ _ ⟨v, H', I', r, q⟩ => ⟨v, H', I'.unwish, r, q⟩) fun _ _ z => False.elim z
theorem PT.nox {e : Expr} {t : TT} (h : PT X.nox e t) : PT X e t := fun pins s σ H Q I hw =>
  wpAny_mono (h pins s σ H Q (I.wish _) hw) (fun _ _ ⟨H', I', q⟩ => ⟨H', I'.unwish, q⟩) fun _ _ z => False.elim z
theorem PSs.nox {st : List Stmt} {t : TS} (h : PSs X.nox st t) : PSs X st t := fun pins s σ H D I hw =>
  wpAny_mono (h pins s σ H D (I.wish _) hw) (fun _ _ q => q.unwish) fun _ _ z => False.elim z
end

section
variable {X : Cx} {st : Stmt} {rest : List Stmt} {t u : TS} {e : Expr} {te : TE} {pos : Pos}
def tNext : TS := fun D σ H => D.nx σ H
def tSeq (t u : TS) : TS := fun D σ H => t { D with nx := u D } σ H
theorem pss_nil : PSs X [] tNext := fun _ _ σ H _ I h => wpAny_execs_nil ⟨σ, H, I, h⟩
theorem pss_cons (h1 : PS X st t) (h2 : PSs X rest u) : PSs X (st :: rest) (tSeq t u) := by
  intro pins s σ H D I h
  refine wpAny_execs_cons (thn (h1 pins s σ H { D with nx := u D } I h) fun f s1 q => ?_)
  cases f with
  | next =>
    obtain ⟨σ', H', I', q⟩ := q
    exact h2 pins s1 σ' H' D I' q
  | ret v => exact q
  | brk => exact q
  | cont => exact q
theorem pss_one (h1 : PS X st t) : PSs X [st] t := by
  intro pins s σ H D I h
  refine wpAny_execs_cons (thn (h1 pins s σ H D I h) fun f s1 q => ?_)
  cases f with
  | next => exact wpAny_execs_nil q
  | ret v => exact q
  | brk => exact q
  | cont => exact q
def tBreak : TS := fun D σ H => D.bk σ H
def tCont : TS := fun D σ H => D.ct σ H
theorem Inv.quiet {pins : List (Addr × Obj)} {σ : St} {H : Hp} {s : Shared} (I : Inv X pins σ H s) : interactive X.env = false := by simp [interactive, I.ok.kind]
def tDrop (te : TE) : TS := fun D σ H => te σ H fun _ H1 => D.nx σ H1
theorem ps_expr (he : PE X e te) (hs : swapsWith e none pos.line X.env = pure false := by rfl) : PS X (.Expr e pos) (tDrop te) := by
  intro pins s σ H D I h
  exact wpAny_Expr_any (thn (he pins s σ H _ I h) fun v s1 ⟨x, H1, I1, r1, q1⟩ => ⟨σ, H1, I1, q1⟩) I.quiet hs
def tRet (te : TE) : TS := fun D σ H => te σ H D.rt
theorem ps_ret (he : PE X e te) : PS X (.Return (some e) pos) (tRet te) := by
  intro pins s σ H D I h
  exact wpAny_Return_some (thn (he pins s σ H _ I h) fun v s1 ⟨x, H1, I1, r1, q1⟩ => ⟨x, σ, H1, I1, r1, q1⟩)
def tRetN : TS := fun D _ H => D.rt .non H
def tIfS (c : TT) (t u : TS) : TS := fun D σ H => c σ H fun b H1 => if b = true then t D σ H1 else u D σ H1
theorem ps_if {c : Expr} {a b : List Stmt} {tc : TT} (hc : PT X c tc) (ha : PSs X a t) (hb : PSs X b u) : PS X (.If c a b pos) (tIfS tc t u) := by
  intro pins s σ H D I h
  refine wpAny_If (thn (hc pins s σ H _ I h) fun d s1 ⟨H1, I1, q1⟩ => ?_)
  cases d with
  | true => exact ha pins s1 σ H1 D I1 q1
  | false => exact hb pins s1 σ H1 D I1 q1
def tNever : TS := fun _ _ _ => False
end

abbrev TG := V → St → Hp → (St → Hp → Prop) → Prop
abbrev TGs := List V → St → Hp → (St → Hp → Prop) → Prop
def PG (X : Cx) (target : Expr) (t : TG) : Prop :=
  ∀ (pins : List (Addr × Obj)) (s : Shared) (σ : St) (H : Hp) (v : V) (u : Value) (Q : St → Hp → Prop), Inv X pins σ H s → RelV v u → t v σ H Q →
    wpAny (model X.prog X.w) X.A (assign target X.env u) (fun _ s' => ∃ σ' H', Inv X pins σ' H' s' ∧ Q σ' H') X.xe s
def PGs (X : Cx) (ts : List Expr) (t : TGs) : Prop :=
  ∀ (pins : List (Addr × Obj)) (s : Shared) (σ : St) (H : Hp) (vs : List V) (us : List Value) (Q : St → Hp → Prop), Inv X pins σ H s → Vals vs us → t vs σ H Q →
    wpAny (model X.prog X.w) X.A (assignInOrder ((assignEach ts X.env).map (·.2)) us) (fun _ s' => ∃ σ' H', Inv X pins σ' H' s' ∧ Q σ' H') X.xe s
abbrev TSet := V → V → V → Hp → (Hp → Prop) → Prop
def PSet (X : Cx) (t : TSet) : Prop :=
  ∀ (pins : List (Addr × Obj)) (s : Shared) (σ : St) (H : Hp) (o i v : V) (ov iv u : Value) (Q : Hp → Prop), Inv X pins σ H s → RelV o ov → RelV i iv → RelV v u → t o i v H Q →
    wpAny (model X.prog X.w) X.A (setItem ov iv u) (fun _ s' => ∃ H', Inv X pins σ H' s' ∧ Q H') X.xe s
abbrev TIp := V → V → Hp → VK → Prop
def PIp (X : Cx) (op : Operator) (t : TIp) : Prop :=
  ∀ (pins : List (Addr × Obj)) (s : Shared) (σ : St) (H : Hp) (x y : V) (v u : Value) (Q : VK), Inv X pins σ H s → RelV x v → RelV y u → t x y H Q →
    wpAny (model X.prog X.w) X.A (inplaceOp op v u) (EP X pins σ Q) X.xe s
section
variable {X : Cx} {pos : Pos}
def gName (i : Nat) : TG := fun v σ H Q => Q (σ.set i (some v)) H
theorem pg_name {i : Nat} {x : Str} (hN : X.N.Nodup) (hi : X.N[i]? = some x) (hx : Loc X.env.scope x) (hf : X.fn x = true ∨ X.env.scope.names.lookup x = some .local := by first | exact .inl rfl | exact .inr rfl | assumption) : PG X (.Name x pos) (gName i) := by
  intro pins s σ H v u Q I r h
  exact wpAny_assign_Name (store_ok I hN hi hx r (fun s' I' => ⟨_, H, I', h⟩) hf)
def gNil : TGs := fun vs σ H Q => vs = [] ∧ Q σ H
def gCons (t : TG) (u : TGs) : TGs := fun vs σ H Q => ∃ v r, vs = v :: r ∧ t v σ H fun σ' H' => u r σ' H' Q
theorem pgs_nil : PGs X [] gNil := by
  intro pins s σ H vs us Q I r h
  obtain ⟨e, h⟩ := h
  subst e
  cases r
  exact assignInOrder_nil ⟨σ, H, I, h⟩
theorem pgs_cons {e : Expr} {es : List Expr} {t : TG} {u : TGs} (h1 : PG X e t) (h2 : PGs X es u)
    (hs : (assignEach (e :: es) X.env).map (·.2) = assign e X.env :: (assignEach es X.env).map (·.2) := by rfl) : PGs X (e :: es) (gCons t u) := by
  intro pins s σ H vs us Q I r h
  obtain ⟨v, vr, e1, h⟩ := h
  subst e1
  cases r with
  | cons r rr =>
    rw [hs]
    refine assignInOrder_cons (thn (h1 pins s σ H _ _ _ I r h) fun _ s1 ⟨σ1, H1, I1, q1⟩ => ?_)
    exact h2 pins s1 σ1 H1 _ _ Q I1 rr q1
def gTup (K : PySem.W.Frag) (n : Nat) (t : TGs) : TG := fun v σ H Q => ∃ a xs, v = .ref a ∧ SqT K H a xs ∧ xs.length = n ∧ t xs σ H Q
theorem pg_tup {es : List Expr} {k : Nat} {t : TGs} {n : Nat} (hc : X.calm = true) (h : PGs X es t)
    (hn : (assignEach es X.env).length = n := by rfl) (hst : (assignEach es X.env).findIdx? (·.1) = none := by rfl) : PG X (.Tuple es k pos) (gTup X.K n t) := by
  intro pins s σ H v u Q I r hw
  obtain ⟨a, xs, e1, hq, hl, hw⟩ := hw
  subst e1
  cases r
  obtain ⟨its, rv, ht, hz⟩ := I.tuple hq
  refine assign_Tuple_tuple (I.ok.hd hc) ht (by simp [hn, ← hl, rv.length]) hst fun h' hx => ?_
  have I1 : Inv X pins σ H { s with heap := h' } := I.kept (t' := s.toks) fun b o e => hx b o (Nat.ne_of_lt (Heap.lt_size e)) e
  exact h pins _ σ H xs _ Q I1 (by simpa using rv) hw
def gSub (to ti : TE) (t : TSet) : TG := fun v σ H Q => to σ H fun o H1 => ti σ H1 fun i H2 => t o i v H2 fun H3 => Q σ H3
def tAsg (te : TE) (g : TG) : TS := fun D σ H => te σ H fun x H1 => g x σ H1 D.nx
theorem ps_asg {tg e : Expr} {te : TE} {g : TG} (he : PE X e te) (hg : PG X tg g) (hs : swapsWithSole [tg] e pos.line X.env = pure false := by rfl) (hw : swappedStores [tg] e X.env = pure none := by rfl)
    (h1 : (assignEach [tg] X.env).map (·.2) = [assign tg X.env] := by rfl) : PS X (.Assign [tg] e pos) (tAsg te g) := by
  intro pins s σ H D I h
  refine wpAny_Assign_stores (thn (he pins s σ H _ I h) fun v s1 ⟨x, H1, I1, r1, q1⟩ => ?_) hs hw
  rw [h1]
  exact thn (hg pins s1 σ H1 x v _ I1 r1 q1) fun _ s2 q => q
theorem ps_set {i : Nat} {x : Str} {e : Expr} {te : TE} {pos' : Pos} (hN : X.N.Nodup) (hi : X.N[i]? = some x) (hx : Loc X.env.scope x) (he : PE X e te) (hs : swapsWith e (some (.Name x pos')) pos.line X.env = pure false := by rfl) (hf : X.fn x = true ∨ X.env.scope.names.lookup x = some .local := by first | exact .inl rfl | exact .inr rfl | assumption) :
    PS X (.Assign [.Name x pos'] e pos) (tAsg te (gName i)) := by
  intro pins s σ H D I h
  refine wpAny_Assign_Name (thn (he pins s σ H _ I h) fun v s1 ⟨y, H1, I1, r1, q1⟩ => ?_) hs
  exact store_ok I1 hN hi hx r1 (fun s2 I2 => ⟨_, H1, I2, q1⟩) hf
def tPar (i j : Nat) (ta : TA) : TS := fun D σ H => ta σ H fun vs H1 => ∃ v w, vs = [v, w] ∧ D.nx ((σ.set i (some v)).set j (some w)) H1
def tAug (i : Nat) (te : TE) (ti : TIp) : TS := fun D σ H => ∃ x, σ[i]? = some (some x) ∧ te σ H fun y H1 => ti x y H1 fun z H2 => D.nx (σ.set i (some z)) H2
theorem ps_aug {i : Nat} {x : Str} {e : Expr} {te : TE} {op : Operator} {ti : TIp} {pos' : Pos} (hN : X.N.Nodup) (hi : X.N[i]? = some x) (hx : Loc X.env.scope x) (he : PE X e te) (ho : PIp X op ti) (hf : X.fn x = true ∨ X.env.scope.names.lookup x = some .local := by first | exact .inl rfl | exact .inr rfl | assumption) :
    PS X (.AugAssign (.Name x pos') op e pos) (tAug i te ti) := by
  intro pins s σ H D I h
  obtain ⟨v, e1, h⟩ := h
  obtain ⟨m, hn, hl⟩ := I.loc
  have vis : Vis X.env.scope x := by rcases hx with k | k; exact .inl k; exact .inr (.inl k)
  obtain ⟨u, r, l⟩ := hl i x v hi e1 vis
  refine wpAny_AugAssign_Name ?_
  have go : wpAny (model X.prog X.w) X.A (eval e X.env) (fun w s₂ => wpAny (model X.prog X.w) X.A (inplaceOp op u w) (fun r s₃ => wpAny (model X.prog X.w) X.A (storeName X.env x r) (fun _ => SP X pins D .next) X.xe s₃) X.xe s₂) X.xe s := by
    refine thn (he pins s σ H _ I h) fun w s1 ⟨y, H1, I1, r1, q1⟩ => ?_
    refine thn (ho pins s1 σ H1 v y u w _ I1 r r1 q1) fun z s2 ⟨zv, H2, I2, r2, q2⟩ => ?_
    exact store_ok I2 hN hi hx r2 (fun s3 I3 => ⟨_, H2, I3, q2⟩) hf
  rcases l with ⟨hk, hm⟩ | ⟨hk, c, hc, hcell⟩
  · exact wpAny_loadName_local I.ok.kind hk hn hm go
  · rcases hk with hk | hk
    · exact wpAny_loadName_cell I.ok.kind hk hc hcell go
    · rcases hx with k | k
      · have : X.env.scope.names.lookup x = some .free := hk
        rw [k] at this; cases this
      · have : X.env.scope.names.lookup x = some .free := hk
        rw [k] at this; cases this
def tAugS (to ti te : TE) (tget : V → V → Hp → VK → Prop) (tip : TIp) (tset : TSet) : TS := fun D σ H => to σ H fun o H1 => ti σ H1 fun i H2 => tget o i H2 fun x H3 => te σ H3 fun y H4 => tip x y H4 fun z H5 => tset o i z H5 fun H6 => D.nx σ H6
def PGet (X : Cx) (t : V → V → Hp → VK → Prop) : Prop :=
  ∀ (pins : List (Addr × Obj)) (s : Shared) (σ : St) (H : Hp) (o i : V) (ov iv : Value) (Q : VK), Inv X pins σ H s → RelV o ov → RelV i iv → t o i H Q →
    wpAny (model X.prog X.w) X.A (getItem ov iv) (EP X pins σ Q) X.xe s
theorem ps_augS {o i e : Expr} {to ti te : TE} {tget : V → V → Hp → VK → Prop} {tip : TIp} {tset : TSet} {op : Operator} {tpos : Pos} (ho : PE X o to) (hi : PE X i ti) (hg : PGet X tget) (he : PE X e te) (hp : PIp X op tip) (hs : PSet X tset)
    (ha : ∀ ov iv new, augStore i ov iv new = (do holding [new, ov, iv] (setItem ov iv new); release [new, ov, iv] []; pure .next) := by intros; rfl) : PS X (.AugAssign (.Subscript o i tpos) op e pos) (tAugS to ti te tget tip tset) := by
  intro pins s σ H D I h
  refine wpAny_AugAssign_SubscriptAny (thn (ho pins s σ H _ I h) fun ov s1 ⟨x1, H1, I1, r1, q1⟩ => ?_) ha
  refine thn (hi pins s1 σ H1 _ I1 q1) fun iv s2 ⟨x2, H2, I2, r2, q2⟩ => ?_
  refine thn (hg pins s2 σ H2 x1 x2 ov iv _ I2 r1 r2 q2) fun old s3 ⟨x3, H3, I3, r3, q3⟩ => ?_
  refine thn (he pins s3 σ H3 _ I3 q3) fun v s4 ⟨x4, H4, I4, r4, q4⟩ => ?_
  refine thn (hp pins s4 σ H4 x3 x4 old v _ I4 r3 r4 q4) fun new s5 ⟨x5, H5, I5, r5, q5⟩ => ?_
  exact thn (hs pins s5 σ H5 x1 x2 x5 ov iv new _ I5 r1 r2 r5 q5) fun _ s6 ⟨H6, I6, q6⟩ => ⟨σ, H6, I6, q6⟩
def ipI (f : Int → Int → Int) : TIp := fun x y H Q => ∃ i j, x = .int i ∧ y = .int j ∧ Q (.int (f i j)) H
end

section
variable {X : Cx} {pos : Pos}
def tWhile (c : TT) (tb : TS) : TS := fun D σ H => ∃ W : Nat → St → Hp → Prop, (∃ m, W m σ H) ∧ ∀ m σ H, W m σ H →
  c σ H fun b H1 => if b = true then ∃ N : St → Hp → Prop, (∀ σ' H', N σ' H' → ∃ m', m' < m ∧ W m' σ' H') ∧ tb { D with nx := N, ct := N, bk := D.nx } σ H1 else D.nx σ H1
end

structure It where
  go : Nat → Hp → Prop
  yld : Nat → Hp → V → Hp → Prop
  stop : Nat → Hp → Prop
def FpOk (X : Cx) (pins : List (Addr × Obj)) (H : Hp) (b : Addr) : Prop :=
  H b = none ∧ b ≠ X.env.locals ∧ b ∉ X.fs ∧ (b ∈ X.ex ∨ X.s₀.heap.objs.size ≤ b) ∧ (∀ x c, X.env.cells.lookup x = some c → c ≠ b) ∧ ∀ p ∈ X.pn ++ pins, p.1 ≠ b
theorem Inv.fpOk {X : Cx} {pins : List (Addr × Obj)} {σ : St} {H H' : Hp} {s : Shared} {b : Addr} (I : Inv X pins σ H s) (hb : s.heap.objs.size ≤ b) (hn : H' b = none) : FpOk X pins H' b := by
  refine ⟨hn, Nat.ne_of_gt (Nat.lt_of_lt_of_le I.lt hb), I.nofs hb, .inr (Nat.le_trans I.sz hb), fun x c e z => ?_, fun p hp z => ?_⟩
  · obtain ⟨v, q⟩ := I.cell x c e
    exact absurd (Nat.lt_of_lt_of_le q.lt (by rw [z]; exact hb)) (Nat.lt_irrefl _)
  · exact absurd (Nat.lt_of_lt_of_le (Heap.lt_size (I.pin p hp).1) (by rw [z]; exact hb)) (Nat.lt_irrefl _)
structure Turn (P : Program) (w : World) (K : PySem.W.Frag) (tg : Expr) (J : It) (fp : List Addr) (it : Addr) (tn : Nat → Heap → Prop) : Prop where
  mem : it ∈ fp
  obj : ∀ i h, tn i h → ∀ b ∈ fp, ∃ o, h.get? b = some o ∧ ∀ v, o.data ≠ .cell v
  keep : ∀ i h h', tn i h → (∀ b ∈ fp, ∀ o, h.get? b = some o → h'.get? b = some o) → tn i h'
  item : ∀ (X : Cx), X.prog = P → X.w = w → X.K = K → X.calm = true → ∀ (i : Nat) (pins : List (Addr × Obj)) (s : Shared) (σ : St) (H : Hp) (E : Value → Shared → Prop), Inv X pins σ H s → (∀ b ∈ fp, FpOk X pins H b) → tn i s.heap → J.go i H →
    wpAny (model P w) X.A (pyNext (.ref it)) (fun r s1 => ∃ u, r = some u ∧
      wpAny (model P w) X.A (letOwnedTupleGo tg (.ref it) u) (fun _ s2 => ∃ x H', Inv X pins σ H' s2 ∧ RelV x u ∧ J.yld i H x H' ∧ tn (i + 1) s2.heap ∧ ∀ b ∈ fp, H' b = none) E s1) E s
  done : ∀ (X : Cx), X.prog = P → X.w = w → X.K = K → X.calm = true → ∀ (i : Nat) (pins : List (Addr × Obj)) (s : Shared) (σ : St) (H : Hp) (E : Value → Shared → Prop), Inv X pins σ H s → (∀ b ∈ fp, FpOk X pins H b) → tn i s.heap → J.stop i H →
    wpAny (model P w) X.A (pyNext (.ref it)) (fun r s1 => r = none ∧ Inv X pins σ H s1) E s
  self : ∀ (A : Around) (i : Nat) (s : Shared) (Q : Value → Shared → Prop) (E : Value → Shared → Prop), tn i s.heap → Q (.ref it) s → wpAny (model P w) A (pyIter (.ref it)) Q E s
abbrev TI := St → Hp → (It → Hp → Prop) → Prop
def PIE (X : Cx) (pins : List (Addr × Obj)) (σ : St) (tg : Expr) (R : It → Hp → Prop) (itv : Value) (s2 : Shared) : Prop :=
  ∃ (it : Addr) (fp : List Addr) (tn : Nat → Heap → Prop) (J : It) (H' : Hp), itv = .ref it ∧ Inv X pins σ H' s2 ∧ Turn X.prog X.w X.K tg J fp it tn ∧ tn 0 s2.heap ∧ (∀ b ∈ fp, FpOk X pins H' b) ∧ R J H'
def PI (X : Cx) (tg iter : Expr) (wi : TI) : Prop :=
  ∀ (pins : List (Addr × Obj)) (s : Shared) (σ : St) (H : Hp) (R : It → Hp → Prop), Inv X pins σ H s → wi σ H R →
    wpAny (model X.prog X.w) X.A (eval iter X.env) (fun v s1 => wpAny (model X.prog X.w) X.A (pyIter v) (PIE X pins σ tg R) X.xe s1) X.xe s

theorem go_of {M : Model} {A : Around} {E : Value → Shared → Prop} {s : Shared} {tg : Expr} {it : Addr} {u : Value} {o : Obj} {n : String} {vs : Array Value} {Q : Unit → Shared → Prop} (ho : s.heap.get? it = some o) (hc : o.cls = .type n) (hd : o.data = .fields vs)
    (hn : ["enumerate", "zip", "dict_itemiterator", "dict_reverseitemiterator", "odict_iterator", "itertools.zip_longest", "itertools.pairwise"].contains n = false) (hQ : Q () s) : wpAny M A (letOwnedTupleGo tg (.ref it) u) Q E s := by
  unfold letOwnedTupleGo
  cases tg <;> first
    | exact wpAny_pure hQ
    | (cases u <;> first
        | exact wpAny_pure hQ
        | (refine wpAny_bind (wpAny_load ho ?_)
           rw [hc, hd]
           show wpAny M A (if (["enumerate", "zip", "dict_itemiterator", "dict_reverseitemiterator", "odict_iterator", "itertools.zip_longest", "itertools.pairwise"].contains n && vs[0]? == some (rawInt _)) = true then _ else _) Q E s
           rw [if_neg (by intro h; rw [hn, Bool.false_and] at h; cases h)]
           exact wpAny_pure hQ))

def Itl (K : PySem.W.Frag) (a : Addr) : It :=
  ⟨fun i H => ∃ xs x, SqL K H a xs ∧ xs[i]? = some x, fun i H x H' => H' = H ∧ ∀ xs, SqL K H a xs → xs[i]? = some x, fun i H => ∃ xs, SqL K H a xs ∧ xs.length ≤ i⟩
def Itt (K : PySem.W.Frag) (a : Addr) : It :=
  ⟨fun i H => ∃ xs x, SqT K H a xs ∧ xs[i]? = some x, fun i H x H' => H' = H ∧ ∀ xs, SqT K H a xs → xs[i]? = some x, fun i H => ∃ xs, SqT K H a xs ∧ xs.length ≤ i⟩
def Itr (lo : Int) (n : Nat) : It := ⟨fun i _ => i < n, fun i H x H' => H' = H ∧ x = .int (lo + i), fun i _ => n ≤ i⟩
theorem turn_list {P : Program} {w : World} {K : PySem.W.Frag} {tg : Expr} (a it : Addr) : Turn P w K tg (Itl K a) [it] it (fun i h => h.IsListIter it a i) where
  mem := by simp
  obj := fun i h st b hb => by
    have e : b = it := by simpa using hb
    subst e
    obtain ⟨o, e, c, d⟩ := st
    exact ⟨o, e, fun v z => by rw [d] at z; cases z⟩
  keep := fun i h h' st k => st.at fun o e => k it (by simp) o e
  item := by
    intro X hP hw hK hc i pins s σ H E I hf st hg
    subst hP hw hK
    obtain ⟨xs, x, hq, hx⟩ := hg
    obtain ⟨its, rv, p, hz⟩ := I.list hq
    obtain ⟨u, hu, ru⟩ := rv.get hx
    obtain ⟨f0, f1, f2, f3, f4, f5⟩ := hf it (by simp)
    refine wpAny_pyNext_list_item st p.isList (x := u) (by simpa using hu) fun h' st' sb => ?_
    have I1 : Inv X pins σ H { s with heap := h' } := I.turned (t' := s.toks) (fun b o hb e => (sb.2 b hb).trans e) f0 f1 f3 f4 f5
    obtain ⟨o, e, c, d⟩ := id st'
    exact ⟨u, rfl, go_of (s := { s with heap := h' }) e c d (by decide) ⟨x, H, I1, ru, ⟨rfl, fun ys hy => by rw [I.list_inj hy hq]; exact hx⟩, st', fun b hb => (hf b hb).1⟩⟩
  done := by
    intro X hP hw hK hc i pins s σ H E I hf st hg
    subst hP hw hK
    obtain ⟨xs, hq, hx⟩ := hg
    obtain ⟨its, rv, p, hz⟩ := I.list hq
    obtain ⟨f0, f1, f2, f3, f4, f5⟩ := hf it (by simp)
    have hl := rv.length
    exact wpAny_pyNext_list_end (I.ok.hd hc) st p.isList (by simp; omega) fun h' eb => ⟨rfl, I.turned (t' := s.toks) (fun b o hb e => eb b o hb e) f0 f1 f3 f4 f5⟩
  self := fun _ _ _ _ _ st h => wpAny_pyIter_listiter st h
theorem turn_tuple {P : Program} {w : World} {K : PySem.W.Frag} {tg : Expr} (a it : Addr) : Turn P w K tg (Itt K a) [it] it (fun i h => h.IsTupleIter it a i) where
  mem := by simp
  obj := fun i h st b hb => by
    have e : b = it := by simpa using hb
    subst e
    obtain ⟨o, e, c, d⟩ := st
    exact ⟨o, e, fun v z => by rw [d] at z; cases z⟩
  keep := fun i h h' st k => st.at fun o e => k it (by simp) o e
  item := by
    intro X hP hw hK hc i pins s σ H E I hf st hg
    subst hP hw hK
    obtain ⟨xs, x, hq, hx⟩ := hg
    obtain ⟨its, rv, p, hz⟩ := I.tuple hq
    obtain ⟨u, hu, ru⟩ := rv.get hx
    obtain ⟨f0, f1, f2, f3, f4, f5⟩ := hf it (by simp)
    refine wpAny_pyNext_tuple_item st (show s.heap.IsTuple a its.toArray from p) (x := u) (by simpa using hu) fun h' st' sb => ?_
    have I1 : Inv X pins σ H { s with heap := h' } := I.turned (t' := s.toks) (fun b o hb e => (sb.2 b hb).trans e) f0 f1 f3 f4 f5
    obtain ⟨o, e, c, d⟩ := id st'
    exact ⟨u, rfl, go_of (s := { s with heap := h' }) e c d (by decide) ⟨x, H, I1, ru, ⟨rfl, fun ys hy => by rw [I.tuple_inj hy hq]; exact hx⟩, st', fun b hb => (hf b hb).1⟩⟩
  done := by
    intro X hP hw hK hc i pins s σ H E I hf st hg
    subst hP hw hK
    obtain ⟨xs, hq, hx⟩ := hg
    obtain ⟨its, rv, p, hz⟩ := I.tuple hq
    obtain ⟨f0, f1, f2, f3, f4, f5⟩ := hf it (by simp)
    have hl := rv.length
    exact wpAny_pyNext_tuple_end (I.ok.hd hc) st (show s.heap.IsTuple a its.toArray from p) (by simp; omega) fun h' eb => ⟨rfl, I.turned (t' := s.toks) (fun b o hb e => eb b o hb e) f0 f1 f3 f4 f5⟩
  self := fun _ _ _ _ _ st h => wpAny_pyIter_tupleiter st h
theorem turn_range {P : Program} {w : World} {K : PySem.W.Frag} {tg : Expr} (it : Addr) (lo : Int) (n : Nat) : Turn P w K tg (Itr lo n) [it] it (fun i h => IsRangeIter h it (lo + (i : Nat) * 1) ((n : Int) - (i : Nat)) 1) where
  mem := by simp
  obj := fun i h st b hb => by
    have e : b = it := by simpa using hb
    subst e
    exact ⟨_, st, fun v z => by
      have z' : Data.fields _ = Data.cell v := z
      cases z'⟩
  keep := fun i h h' st k => k it (by simp) _ st
  item := by
    intro X hP hw hK hc i pins s σ H E I hf st hg
    subst hP hw hK
    obtain ⟨f0, f1, f2, f3, f4, f5⟩ := hf it (by simp)
    have W := Walks.range (prog := X.prog) (w := X.w) (I.ok.hd hc) it lo 1 n
    refine W.item i s _ _ hg st fun v h' tk hv st' kk => ?_
    obtain ⟨t, rfl⟩ := hv
    have I1 : Inv X pins σ H { s with heap := h', toks := tk } := I.turned (fun b o hb e => kk b o (by simpa using hb) e) f0 f1 f3 f4 f5
    refine ⟨_, rfl, go_of (s := { s with heap := h', toks := tk }) (n := "range_iterator") st' rfl rfl (by decide) ⟨.int (lo + i), H, I1, ⟨t, ?_⟩, ⟨rfl, rfl⟩, st', fun b hb => (hf b hb).1⟩⟩
    rw [Int.mul_one]
  done := by
    intro X hP hw hK hc i pins s σ H E I hf st hg
    subst hP hw hK
    obtain ⟨f0, f1, f2, f3, f4, f5⟩ := hf it (by simp)
    exact wpAny_pyNext_range_end (I.ok.hd hc) st (by have : n ≤ i := hg; omega) fun h' eb => ⟨rfl, I.turned (t' := s.toks) (fun b o hb e => eb b o hb e) f0 f1 f3 f4 f5⟩
  self := fun _ _ _ _ _ st h => wpAny_pyIter_rangeiter st h
end L2

namespace L2
open PySem PySem.Spec PyProof.Rows
section
variable {X : Cx} {tg : Expr}
def iList (K : PySem.W.Frag) (tl : TE) : TI := fun σ H R => tl σ H fun x H1 => ∃ a, x = .ref a ∧ (∃ xs, SqL K H1 a xs) ∧ R (Itl K a) H1
def iTup (K : PySem.W.Frag) (tl : TE) : TI := fun σ H R => tl σ H fun x H1 => ∃ a, x = .ref a ∧ (∃ xs, SqT K H1 a xs) ∧ R (Itt K a) H1
theorem pi_list {l : Expr} {tl : TE} (hl : PE X l tl) : PI X tg l (iList X.K tl) := by
  intro pins s σ H R I h
  refine thn (hl pins s σ H _ I h) fun v s1 ⟨x, H1, I1, r1, q1⟩ => ?_
  obtain ⟨a, e, ⟨xs, hq⟩, q⟩ := q1
  subst e
  cases r1
  obtain ⟨its, rv, p, hz⟩ := I1.list hq
  refine wpAny_pyIter_list p.isList ?_
  refine ⟨s1.heap.objs.size, [s1.heap.objs.size], _, _, H1, rfl, I1.kept (t' := s1.toks) fun b o e => Heap.get?_push_of_some _ e, turn_list a _, ⟨_, Heap.get?_push_size _ rfl, rfl, rfl⟩, fun b hb => ?_, q⟩
  have e : b = s1.heap.objs.size := by simpa using hb
  subst e
  exact I1.fpOk (Nat.le_refl _) (I1.hok.fresh (Nat.le_refl _))
theorem pi_tup {l : Expr} {tl : TE} (hl : PE X l tl) : PI X tg l (iTup X.K tl) := by
  intro pins s σ H R I h
  refine thn (hl pins s σ H _ I h) fun v s1 ⟨x, H1, I1, r1, q1⟩ => ?_
  obtain ⟨a, e, ⟨xs, hq⟩, q⟩ := q1
  subst e
  cases r1
  obtain ⟨its, rv, p, hz⟩ := I1.tuple hq
  refine wpAny_pyIter_tuple (show s1.heap.IsTuple a its.toArray from p) ?_
  refine ⟨s1.heap.objs.size, [s1.heap.objs.size], _, _, H1, rfl, I1.kept (t' := s1.toks) fun b o e => Heap.get?_push_of_some _ e, turn_tuple a _, ⟨_, Heap.get?_push_size _ rfl, rfl, rfl⟩, fun b hb => ?_, q⟩
  have e : b = s1.heap.objs.size := by simpa using hb
  subst e
  exact I1.fpOk (Nat.le_refl _) (I1.hok.fresh (Nat.le_refl _))
theorem range_it {pins : List (Addr × Obj)} {σ : St} {H : Hp} {s : Shared} {R : It → Hp → Prop} {E : Value → Shared → Prop} {lo hi : Int} {t u v : Tok} {tk : Nat} (I : Inv X pins σ H s) (h1 : -(2 ^ 62) ≤ lo) (h2 : lo < 2 ^ 62) (h3 : -(2 ^ 62) ≤ hi) (h4 : hi < 2 ^ 62)
    (q : R (Itr lo (hi - lo).toNat) H) : wpAny (model X.prog X.w) X.A (pyIter (.ref s.heap.objs.size)) (PIE X pins σ tg R) E { s with heap := s.heap.push { cls := .type "range", data := .fields #[.int lo t, .int hi u, .int 1 v] }, toks := tk } := by
  refine wpAny_pyIter_range (IsRange.new ..) (small_one h1 h2 h3 h4) ?_
  have I1 : Inv X pins σ H { s with heap := s.heap.push { cls := .type "range", data := .fields #[.int lo t, .int hi u, .int 1 v] }, toks := tk } := I.kept fun b o e => Heap.get?_push_of_some _ e
  refine ⟨(s.heap.push { cls := .type "range", data := .fields #[.int lo t, .int hi u, .int 1 v] }).objs.size, [(s.heap.push { cls := .type "range", data := .fields #[.int lo t, .int hi u, .int 1 v] }).objs.size], _, _, H, rfl,
    I1.kept (t' := tk) fun b o e => Heap.get?_push_of_some _ e, turn_range _ lo (hi - lo).toNat, ?_, fun b hb => ?_, q⟩
  · have e1 : lo + ((0 : Nat) : Int) * 1 = lo := by simp
    have e2 : (((hi - lo).toNat : Nat) : Int) - ((0 : Nat) : Int) = Builtin.Range.rangeSize lo hi 1 := by rw [rangeSize_one]; split <;> omega
    show IsRangeIter _ _ (lo + ((0 : Nat) : Int) * 1) ((((hi - lo).toNat : Nat) : Int) - ((0 : Nat) : Int)) 1
    rw [e1, e2]
    exact Heap.get?_push_size _ rfl
  · have e : b = (s.heap.push { cls := .type "range", data := .fields #[.int lo t, .int hi u, .int 1 v] }).objs.size := by simpa using hb
    subst e
    exact I1.fpOk (Nat.le_refl _) (I1.hok.fresh (Nat.le_refl _))
def iRng1 (ta : TA) : TI := fun σ H R => ta σ H fun vs H1 => ∃ j : Int, vs = [.int j] ∧ -(2 ^ 62) ≤ j ∧ j < 2 ^ 62 ∧ R (Itr 0 j.toNat) H1
def iRng2 (ta : TA) : TI := fun σ H R => ta σ H fun vs H1 => ∃ i j : Int, vs = [.int i, .int j] ∧ (-(2 ^ 62) ≤ i ∧ i < 2 ^ 62 ∧ -(2 ^ 62) ≤ j ∧ j < 2 ^ 62) ∧ R (Itr i (j - i).toNat) H1
theorem pi_range1 {a : Expr} {ta : TA} {p pos : Pos} (hg : Gl X "range") (hm : X.mg "range" = none) (ha : PA X [a] ta) (hs : starEach [a] X.env = [(false, eval a X.env)] := by rfl) : PI X tg (.Call (.Name "range" p) [a] [] pos) (iRng1 ta) := by
  intro pins s σ H R I h
  refine Call_ (ld_blt I hg hm boot_range (PyProof.Rows.callWith_type1 (thn (ha pos pins s σ H _ I h) fun us s1 ⟨vs, H1, I1, r1, q1⟩ => ?_) hs rfl))
  obtain ⟨j, e, q1, q2, q⟩ := q1
  subst e
  cases r1 with
  | cons r rr =>
    cases rr
    obtain ⟨t, rfl⟩ := r
    exact call_range_1 (range_it I1 (by omega) (by omega) q1 q2 (by simpa using q))
theorem pi_range2 {a b : Expr} {ta : TA} {p pos : Pos} (hg : Gl X "range") (hm : X.mg "range" = none) (ha : PA X [a, b] ta) (hs : starEach [a, b] X.env = [(false, eval a X.env), (false, eval b X.env)] := by rfl) (hs2 : starEach [b] X.env = [(false, eval b X.env)] := by rfl) :
    PI X tg (.Call (.Name "range" p) [a, b] [] pos) (iRng2 ta) := by
  intro pins s σ H R I h
  refine Call_ (ld_blt I hg hm boot_range (PyProof.Rows.callWith_type1 (thn (ha pos pins s σ H _ I h) fun us s1 ⟨vs, H1, I1, r1, q1⟩ => ?_) (by rw [hs, hs2]) (by rw [hs2]; rfl)))
  obtain ⟨i, j, e, ⟨q1, q2, q3, q4⟩, q⟩ := q1
  subst e
  cases r1 with
  | cons r rr =>
    cases rr with
    | cons r' rr =>
      cases rr
      obtain ⟨t, rfl⟩ := r
      obtain ⟨t', rfl⟩ := r'
      exact call_range_2 (range_it I1 q1 q2 q3 q4 q)

def tFor (wi : TI) (g : TG) (tb : TS) : TS := fun D σ H => wi σ H fun J H1 => ∃ W : Nat → Nat → St → Hp → Prop, (∃ m, W 0 m σ H1) ∧ ∀ i m σ H, W i m σ H →
  (J.stop i H ∧ D.nx σ H) ∨ (J.go i H ∧ ∃ N : St → Hp → Prop, (∀ σ' H', N σ' H' → ∃ m', m' < m ∧ W (i + 1) m' σ' H') ∧ ∀ x H', J.yld i H x H' → g x σ H' fun σ2 H2 => tb { D with nx := N, ct := N, bk := D.nx } σ2 H2)
def pinsAt (fp : List Addr) (h : Heap) : List (Addr × Obj) := fp.filterMap fun b => (h.get? b).map fun o => (b, o)
theorem mem_pinsAt {fp : List Addr} {h : Heap} {b : Addr} {o : Obj} (hb : b ∈ fp) (e : h.get? b = some o) : (b, o) ∈ pinsAt fp h := List.mem_filterMap.mpr ⟨b, hb, by rw [e]; rfl⟩
theorem of_pinsAt {fp : List Addr} {h : Heap} {p : Addr × Obj} (hp : p ∈ pinsAt fp h) : p.1 ∈ fp ∧ h.get? p.1 = some p.2 := by
  obtain ⟨b, hb, e⟩ := List.mem_filterMap.mp hp
  cases q : h.get? b with
  | none => rw [q] at e; cases e
  | some o =>
    rw [q] at e
    have e' : (b, o) = p := Option.some.inj e
    subst e'
    exact ⟨hb, q⟩
theorem Inv.pinned {pins : List (Addr × Obj)} {σ : St} {H : Hp} {s : Shared} {fp : List Addr} (I : Inv X pins σ H s) (hf : ∀ b ∈ fp, FpOk X pins H b) (ho : ∀ b ∈ fp, ∃ o, s.heap.get? b = some o ∧ ∀ v, o.data ≠ .cell v) : Inv X (pins ++ pinsAt fp s.heap) σ H s :=
  I.pins_of fun p hp => (List.mem_append.mp hp).elim (fun z => I.pin p (List.mem_append_right _ z)) fun z => by
    obtain ⟨hb, e⟩ := of_pinsAt z
    obtain ⟨f0, f1, f2, _⟩ := hf p.1 hb
    obtain ⟨o, e', d⟩ := ho p.1 hb
    rw [e] at e'; cases e'
    exact ⟨e, f0, f1, f2, d⟩
theorem Inv.unpinned {pins pl : List (Addr × Obj)} {σ : St} {H : Hp} {s : Shared} (I : Inv X (pins ++ pl) σ H s) : Inv X pins σ H s := I.pins_of fun p hp => I.pin p (List.mem_append_right _ (List.mem_append_left _ hp))
theorem ps_for {iter : Expr} {body : List Stmt} {wi : TI} {g : TG} {tb : TS} {pos : Pos} (hp : PassesOwn (model X.prog X.w) X.A X.env X.xe) (hc : X.calm = true) (hi : PI X tg iter wi) (hg : PG X tg g) (hb : PSs X body tb)
    (hs : ∀ x, foldedSetIterable iter X.env x = pure x := by intro _; rfl) : PS X (.For tg iter body [] pos) (tFor wi g tb) := by
  intro pins s σ H D I h
  refine wpAny_For (thn (hi pins s σ H _ I h) fun v s1 h1 => thn h1 fun itv s2 h2 => ?_) hs
  obtain ⟨it, fp, tn, J, H2, e, I2, T, st2, f2, W, ⟨m0, w0⟩, turn⟩ := h2
  subst e
  have stat : ∀ {H' : Hp}, (∀ b ∈ fp, H' b = none) → ∀ b ∈ fp, FpOk X pins H' b := fun hn b hb => ⟨hn b hb, (f2 b hb).2⟩
  refine codeAny_forLoop_any (fun n s' => ∃ i σ' H', Inv X pins σ' H' s' ∧ tn i s'.heap ∧ (∀ b ∈ fp, H' b = none) ∧ W i n σ' H') ?_ m0 ⟨0, σ, H2, I2, st2, fun b hb => (f2 b hb).1, w0⟩
  rintro n s3 ⟨i, σ3, H3, I3, st3, fr3, w3⟩
  rcases turn i n σ3 H3 w3 with ⟨stop, qn⟩ | ⟨go, N, hN, step⟩
  · refine wpAny_passesOwn hp (thn (T.done X rfl rfl rfl hc i pins s3 σ3 H3 X.xe I3 (stat fr3) st3 stop) fun r s4 ⟨hr, I4⟩ => ?_)
    subst hr
    exact wpAny_execs_nil ⟨σ3, H3, I4, qn⟩
  · refine wpAny_passesOwn hp (thn (T.item X rfl rfl rfl hc i pins s3 σ3 H3 X.xe I3 (stat fr3) st3 go) fun r s4 ⟨u, hr, h4⟩ => ?_)
    subst hr
    refine wpAny_passesOwn hp (thn h4 fun _ s5 ⟨x, H5, I5, r5, y5, st5, fr5⟩ => ?_)
    have I5' := I5.pinned (stat fr5) (T.obj _ _ st5)
    refine wpAny_passesOwn hp (thn (hg _ s5 σ3 H5 x u _ I5' r5 (step x H5 y5)) fun _ s6 ⟨σ6, H6, I6, q6⟩ => ?_)
    refine wpAny_passesOwn hp (thn (hb _ s6 σ6 H6 _ I6 q6) fun f s7 q7 => ?_)
    have again : ∀ {σ7 : St} {H7 : Hp}, Inv X (pins ++ pinsAt fp s5.heap) σ7 H7 s7 → N σ7 H7 → ∃ m, m < n ∧ ∃ i σ' H', Inv X pins σ' H' s7 ∧ tn i s7.heap ∧ (∀ b ∈ fp, H' b = none) ∧ W i m σ' H' := fun {σ7 H7} I7 n7 => by
      obtain ⟨m', hm, w7⟩ := hN σ7 H7 n7
      refine ⟨m', hm, i + 1, σ7, H7, I7.unpinned, T.keep _ _ _ st5 fun b hb o e => (I7.pin (b, o) (List.mem_append_right _ (List.mem_append_right _ (mem_pinsAt hb e)))).1, fun b hb => ?_, w7⟩
      obtain ⟨o, e, d⟩ := T.obj _ _ st5 b hb
      exact (I7.pin (b, o) (List.mem_append_right _ (List.mem_append_right _ (mem_pinsAt hb e)))).2.1
    cases f with
    | next => obtain ⟨σ7, H7, I7, n7⟩ := q7; exact again I7 n7
    | cont => obtain ⟨σ7, H7, I7, n7⟩ := q7; exact again I7 n7
    | brk => obtain ⟨σ7, H7, I7, q7⟩ := q7; exact ⟨σ7, H7, I7.unpinned, q7⟩
    | ret v => obtain ⟨x7, σ7, H7, I7, r7, q7⟩ := q7; exact ⟨x7, σ7, H7, I7.unpinned, r7, q7⟩
end

theorem for_list {K : PySem.W.Frag} {a : Addr} {xs : List V} {g : TG} {tb : TS} {D : Ends} {σ : St} {H : Hp} (Pv : Nat → St → Hp → Prop) (h0 : Pv 0 σ H) (hl : ∀ i σ H, i ≤ xs.length → Pv i σ H → SqL K H a xs)
    (hs : ∀ i x σ H, xs[i]? = some x → Pv i σ H → g x σ H fun σ2 H2 => tb { D with nx := Pv (i + 1), ct := Pv (i + 1), bk := D.nx } σ2 H2) (hd : ∀ σ H, Pv xs.length σ H → D.nx σ H) :
    ∃ W : Nat → Nat → St → Hp → Prop, (∃ m, W 0 m σ H) ∧ ∀ i m σ H, W i m σ H →
      ((Itl K a).stop i H ∧ D.nx σ H) ∨ ((Itl K a).go i H ∧ ∃ N : St → Hp → Prop, (∀ σ' H', N σ' H' → ∃ m', m' < m ∧ W (i + 1) m' σ' H') ∧ ∀ x H', (Itl K a).yld i H x H' → g x σ H' fun σ2 H2 => tb { D with nx := N, ct := N, bk := D.nx } σ2 H2) := by
  refine ⟨fun i m σ H => m = xs.length - i ∧ i ≤ xs.length ∧ Pv i σ H, ⟨xs.length, by simp, Nat.zero_le _, h0⟩, ?_⟩
  rintro i m σ H ⟨rfl, hi, p⟩
  have q := hl i σ H hi p
  by_cases hlt : i < xs.length
  · refine .inr ⟨⟨xs, xs[i], q, by simp [hlt]⟩, Pv (i + 1), fun σ' H' p' => ⟨xs.length - (i + 1), by omega, rfl, hlt, p'⟩, fun x H' y => ?_⟩
    obtain ⟨e, y⟩ := y
    subst e
    exact hs i x σ _ (y xs q) p
  · have e : i = xs.length := by omega
    subst e
    exact .inl ⟨⟨xs, q, Nat.le_refl _⟩, hd σ H p⟩
theorem for_tup {K : PySem.W.Frag} {a : Addr} {xs : List V} {g : TG} {tb : TS} {D : Ends} {σ : St} {H : Hp} (Pv : Nat → St → Hp → Prop) (h0 : Pv 0 σ H) (hl : ∀ i σ H, i ≤ xs.length → Pv i σ H → SqT K H a xs)
    (hs : ∀ i x σ H, xs[i]? = some x → Pv i σ H → g x σ H fun σ2 H2 => tb { D with nx := Pv (i + 1), ct := Pv (i + 1), bk := D.nx } σ2 H2) (hd : ∀ σ H, Pv xs.length σ H → D.nx σ H) :
    ∃ W : Nat → Nat → St → Hp → Prop, (∃ m, W 0 m σ H) ∧ ∀ i m σ H, W i m σ H →
      ((Itt K a).stop i H ∧ D.nx σ H) ∨ ((Itt K a).go i H ∧ ∃ N : St → Hp → Prop, (∀ σ' H', N σ' H' → ∃ m', m' < m ∧ W (i + 1) m' σ' H') ∧ ∀ x H', (Itt K a).yld i H x H' → g x σ H' fun σ2 H2 => tb { D with nx := N, ct := N, bk := D.nx } σ2 H2) := by
  refine ⟨fun i m σ H => m = xs.length - i ∧ i ≤ xs.length ∧ Pv i σ H, ⟨xs.length, by simp, Nat.zero_le _, h0⟩, ?_⟩
  rintro i m σ H ⟨rfl, hi, p⟩
  have q := hl i σ H hi p
  by_cases hlt : i < xs.length
  · refine .inr ⟨⟨xs, xs[i], q, by simp [hlt]⟩, Pv (i + 1), fun σ' H' p' => ⟨xs.length - (i + 1), by omega, rfl, hlt, p'⟩, fun x H' y => ?_⟩
    obtain ⟨e, y⟩ := y
    subst e
    exact hs i x σ _ (y xs q) p
  · have e : i = xs.length := by omega
    subst e
    exact .inl ⟨⟨xs, q, Nat.le_refl _⟩, hd σ H p⟩
theorem for_range {lo : Int} {n : Nat} {g : TG} {tb : TS} {D : Ends} {σ : St} {H : Hp} (Pv : Nat → St → Hp → Prop) (h0 : Pv 0 σ H)
    (hs : ∀ i σ H, i < n → Pv i σ H → g (.int (lo + i)) σ H fun σ2 H2 => tb { D with nx := Pv (i + 1), ct := Pv (i + 1), bk := D.nx } σ2 H2) (hd : ∀ σ H, Pv n σ H → D.nx σ H) :
    ∃ W : Nat → Nat → St → Hp → Prop, (∃ m, W 0 m σ H) ∧ ∀ i m σ H, W i m σ H →
      ((Itr lo n).stop i H ∧ D.nx σ H) ∨ ((Itr lo n).go i H ∧ ∃ N : St → Hp → Prop, (∀ σ' H', N σ' H' → ∃ m', m' < m ∧ W (i + 1) m' σ' H') ∧ ∀ x H', (Itr lo n).yld i H x H' → g x σ H' fun σ2 H2 => tb { D with nx := N, ct := N, bk := D.nx } σ2 H2) := by
  refine ⟨fun i m σ H => m = n - i ∧ i ≤ n ∧ Pv i σ H, ⟨n, by simp, Nat.zero_le _, h0⟩, ?_⟩
  rintro i m σ H ⟨rfl, hi, p⟩
  by_cases hlt : i < n
  · refine .inr ⟨hlt, Pv (i + 1), fun σ' H' p' => ⟨n - (i + 1), by omega, rfl, hlt, p'⟩, fun x H' y => ?_⟩
    obtain ⟨e, y⟩ := y
    subst e y
    exact hs i σ _ hlt p
  · have e : i = n := by omega
    subst e
    exact .inl ⟨Nat.le_refl _, hd σ H p⟩
end L2

namespace L2
open PySem PySem.Spec PyProof.Rows

abbrev R2 := V → V → Hp → VK → Prop
def OpR (X : Cx) (f : Value → Value → Sem Value) (r : R2) : Prop :=
  ∀ (pins : List (Addr × Obj)) (s : Shared) (σ : St) (H : Hp) (x y : V) (v u : Value) (Q : VK), Inv X pins σ H s → RelV x v → RelV y u → r x y H Q →
    wpAny (model X.prog X.w) X.A (f v u) (EP X pins σ Q) X.xe s
def UnR (X : Cx) (f : Value → Sem Value) (r : V → Hp → VK → Prop) : Prop :=
  ∀ (pins : List (Addr × Obj)) (s : Shared) (σ : St) (H : Hp) (x : V) (v : Value) (Q : VK), Inv X pins σ H s → RelV x v → r x H Q →
    wpAny (model X.prog X.w) X.A (f v) (EP X pins σ Q) X.xe s
def CallR (X : Cx) (f : Value) (r : List V → Hp → VK → Prop) : Prop :=
  ∀ (pins : List (Addr × Obj)) (s : Shared) (σ : St) (H : Hp) (xs : List V) (us : List Value) (Q : VK), Inv X pins σ H s → Vals xs us → r xs H Q →
    wpAny (model X.prog X.w) X.A (call f us) (EP X pins σ Q) X.xe s
def TruR (X : Cx) (r : V → Hp → (Bool → Hp → Prop) → Prop) : Prop :=
  ∀ (pins : List (Addr × Obj)) (s : Shared) (σ : St) (H : Hp) (x : V) (v : Value) (Q : Bool → Hp → Prop), Inv X pins σ H s → RelV x v → r x H Q →
    wpAny (model X.prog X.w) X.A (truthy v) (TP X pins σ Q) X.xe s

def tOp (r : R2) (ta tb : TE) : TE := fun σ H Q => ta σ H fun x H1 => tb σ H1 fun y H2 => r x y H2 Q
def tUn (r : V → Hp → VK → Prop) (ta : TE) : TE := fun σ H Q => ta σ H fun x H1 => r x H1 Q
def rI (C : Int → Int → Prop) (g : Int → Int → V) : R2 := fun x y H Q => ∃ i j, x = .int i ∧ y = .int j ∧ C i j ∧ Q (g i j) H
def rI0 (g : Int → Int → V) : R2 := fun x y H Q => ∃ i j, x = .int i ∧ y = .int j ∧ Q (g i j) H
def rU (g : Int → V) : V → Hp → VK → Prop := fun x H Q => ∃ i, x = .int i ∧ Q (g i) H

section
variable {X : Cx} {a b c : Expr} {ta tb tc : TE} {pos : Pos}

theorem binT (ha : PE X a ta) (hb : PE X b tb) {pins : List (Addr × Obj)} {s : Shared} {σ : St} {H : Hp} {R : V → V → Hp → Prop} (I : Inv X pins σ H s)
    (h : ta σ H fun x H1 => tb σ H1 fun y H2 => R x y H2) {Q : Value → Shared → Prop} {f : Value → Value → Sem Value}
    (hf : ∀ v u s2 x y H2, Inv X pins σ H2 s2 → RelV x v → RelV y u → R x y H2 → wpAny (model X.prog X.w) X.A (f v u) Q X.xe s2) :
    wpAny (model X.prog X.w) X.A (eval a X.env) (fun v s₁ => wpAny (model X.prog X.w) X.A (eval b X.env) (fun u s₂ => wpAny (model X.prog X.w) X.A (f v u) Q X.xe s₂) X.xe s₁) X.xe s := by
  refine thn (ha pins s σ H _ I h) fun v s1 ⟨x, H1, I1, r1, q1⟩ => ?_
  refine thn (hb pins s1 σ H1 _ I1 q1) fun u s2 ⟨y, H2, I2, r2, q2⟩ => ?_
  exact hf v u s2 x y H2 I2 r1 r2 q2

theorem pe_op {op : Operator} {r : R2} (ho : OpR X (binaryOp op) r) (ha : PE X a ta) (hb : PE X b tb) : PE X (.BinOp a op b pos) (tOp r ta tb) := by
  intro pins s σ H Q I h
  exact wpAny_BinOp (binT ha hb I h fun v u s2 x y H2 I2 rx ry q => ho pins s2 σ H2 x y v u Q I2 rx ry q)
theorem opI {f : Value → Value → Sem Value} {C : Int → Int → Prop} {g : Int → Int → Int}
    (rule : ∀ (i j : Int) (t u : Tok) (s : Shared) (Q : Value → Shared → Prop) (E : Value → Shared → Prop), C i j → Q (.int (g i j) s.toks) { s with toks := s.toks + 1 } → wpAny (model X.prog X.w) X.A (f (.int i t) (.int j u)) Q E s) :
    OpR X f (rI C fun i j => .int (g i j)) := by
  intro pins s σ H x y v u Q I rx ry h
  obtain ⟨i, j, rfl, rfl, hc, q⟩ := h
  obtain ⟨t, rfl⟩ := rx
  obtain ⟨t', rfl⟩ := ry
  exact rule i j t t' s _ _ hc ⟨.int (g i j), H, I.tok _, ⟨_, rfl⟩, q⟩
theorem opI0 {f : Value → Value → Sem Value} {g : Int → Int → Int}
    (rule : ∀ (i j : Int) (t u : Tok) (s : Shared) (Q : Value → Shared → Prop) (E : Value → Shared → Prop), Q (.int (g i j) s.toks) { s with toks := s.toks + 1 } → wpAny (model X.prog X.w) X.A (f (.int i t) (.int j u)) Q E s) :
    OpR X f (rI0 fun i j => .int (g i j)) := by
  intro pins s σ H x y v u Q I rx ry h
  obtain ⟨i, j, rfl, rfl, q⟩ := h
  obtain ⟨t, rfl⟩ := rx
  obtain ⟨t', rfl⟩ := ry
  exact rule i j t t' s _ _ ⟨.int (g i j), H, I.tok _, ⟨_, rfl⟩, q⟩
theorem opB0 {f : Value → Value → Sem Value} {g : Int → Int → Bool}
    (rule : ∀ (i j : Int) (t u : Tok) (s : Shared) (Q : Value → Shared → Prop) (E : Value → Shared → Prop), Q (.bool (g i j)) s → wpAny (model X.prog X.w) X.A (f (.int i t) (.int j u)) Q E s) :
    OpR X f (rI0 fun i j => .bl (g i j)) := by
  intro pins s σ H x y v u Q I rx ry h
  obtain ⟨i, j, rfl, rfl, q⟩ := h
  obtain ⟨t, rfl⟩ := rx
  obtain ⟨t', rfl⟩ := ry
  exact rule i j t t' s _ _ ⟨.bl (g i j), H, I, rfl, q⟩

def CDiv (i j : Int) : Prop := 0 < j ∧ j < 1073741824
def CDivN (i j : Int) : Prop := j ≠ 0 ∧ j.natAbs < 1073741824
def CPow (i j : Int) : Prop := 0 ≤ j ∧ j ≤ 1000000 ∧ i.natAbs < 2 ^ 64
def CMul (i j : Int) : Prop := (-(2 ^ 64) < i ∧ i < 2 ^ 64) ∨ (-(2 ^ 64) < j ∧ j < 2 ^ 64)
theorem CMul.ok {i j : Int} (h : CMul i j) : IntMulOk i j := by
  rcases h with ⟨h1, h2⟩ | ⟨h1, h2⟩
  · exact .of_left (intBits_le_64 h1 h2)
  · exact .of_right (intBits_le_64 h1 h2)
theorem two_pow_nn (k : Nat) : (0 : Int) ≤ 2 ^ k := by
  rw [two_pow_cast]
  exact Int.natCast_nonneg _

theorem op_add : OpR X (binaryOp .Add) (rI0 fun i j => .int (i + j)) := opI0 fun _ _ _ _ _ _ _ q => add_int q
theorem op_sub : OpR X (binaryOp .Sub) (rI0 fun i j => .int (i - j)) := opI0 fun _ _ _ _ _ _ _ q => sub_int q
theorem op_mul : OpR X (binaryOp .Mult) (rI CMul fun i j => .int (i * j)) := opI fun _ _ _ _ _ _ _ hc q => mul_int q hc.ok
theorem op_fdiv : OpR X (binaryOp .FloorDiv) (rI CDiv fun i j => .int (i / j)) := opI fun i j _ _ _ _ _ hc q => by
  have h1 : (0 : Int) < j := hc.1
  have h2 : j < 1073741824 := hc.2
  exact floordiv_int (by omega) (by rw [Int.fdiv_eq_ediv_of_nonneg i (by omega)]; exact q) (.inl (PyProof.noPylong_small (by omega)))
theorem op_mod : OpR X (binaryOp .Mod) (rI (fun _ j => 0 < j) fun i j => .int (i % j)) := opI fun i j _ _ _ _ _ hc q => by
  have h1 : (0 : Int) < j := hc
  exact mod_int' (by omega) (by rw [Int.fmod_eq_emod_of_nonneg i (by omega)]; exact q)
theorem op_pow : OpR X (binaryOp .Pow) (rI CPow fun i j => .int (i ^ j.toNat)) := opI fun _ _ _ _ _ _ _ hc q => pow_int_small hc.1 hc.2.1 hc.2.2 q
theorem op_shl : OpR X (binaryOp .LShift) (rI CPow fun i j => .int (i * 2 ^ j.toNat)) := opI fun _ _ _ _ _ _ _ hc q => lshift_int_small hc.1 hc.2.1 hc.2.2 q
theorem op_shr : OpR X (binaryOp .RShift) (rI (fun _ j => 0 ≤ j) fun i j => .int (i / 2 ^ j.toNat)) := opI fun i j _ _ _ _ _ hc q =>
  rshift_int hc (by rw [Int.fdiv_eq_ediv_of_nonneg i (two_pow_nn _)]; exact q)
theorem op_and : OpR X (binaryOp .BitAnd) (rI0 fun i j => .int (Builtin.bitAnd i j)) := opI0 fun _ _ _ _ _ _ _ q => and_int q
theorem iop_or : OpR X (inplaceOp .BitOr) (rI0 fun i j => .int (Builtin.bitOr i j)) := opI0 fun _ _ _ _ _ _ _ q => ior_int q
end

def scal : V → V → Bool
  | .non, .non => true | .non, .int _ => true | .int _, .non => true | .non, .bl _ => true | .bl _, .non => true | .non, .str _ => true | .str _, .non => true
  | .int _, .int _ => true | .bl _, .bl _ => true | .str _, .str _ => true | .byt _, .byt _ => true
  | .int _, .str _ => true | .str _, .int _ => true | .bl _, .str _ => true | .str _, .bl _ => true
  | _, _ => false
def rEq : R2 := fun x y H Q => scal x y = true ∧ Q (.bl (decide (x = y))) H
def rNe : R2 := fun x y H Q => scal x y = true ∧ Q (.bl (!decide (x = y))) H

theorem dec_int {i j : Int} : decide (V.int i = V.int j) = (i == j) := by
  rw [Bool.eq_iff_iff]
  simp
theorem dec_bl {i j : Bool} : decide (V.bl i = V.bl j) = (i == j) := by
  rw [Bool.eq_iff_iff]
  simp
theorem dec_str {i j : Str} : decide (V.str i = V.str j) = (i == j) := by
  rw [Bool.eq_iff_iff]
  simp
theorem dec_byt {i j : Array UInt8} : decide (V.byt i = V.byt j) = (i.toList == j.toList) := by
  rw [Bool.eq_iff_iff]
  cases i
  cases j
  simp

section
variable {X : Cx} {a b c : Expr} {ta tb tc : TE} {pos : Pos}
theorem fin_bl {pins : List (Addr × Obj)} {σ : St} {H : Hp} {s : Shared} {Q : VK} {k k' : Bool} (I : Inv X pins σ H s) (q : Q (.bl k) H) (e : k = k') : EP X pins σ Q (.bool k') s := by
  subst e
  exact ⟨.bl k, H, I, rfl, q⟩
theorem op_eq : OpR X (compareOp .Eq) rEq := by
  intro pins s σ H x y v u Q I rx ry h
  obtain ⟨hs, q⟩ := h
  cases x with
  | non =>
    cases rx
    cases y with
    | non => cases ry; exact PySem.EqNone.eq_none_none (fin_bl I q (by simp))
    | bl j => cases ry; exact PySem.EqNone.eq_none_bool (fin_bl I q (by simp))
    | int j => obtain ⟨t', rfl⟩ := ry; exact PySem.EqNone.eq_none_int (fin_bl I q (by simp))
    | str j => obtain ⟨t', rfl⟩ := ry; exact PySem.EqNone.eq_none_str (fin_bl I q (by simp))
    | _ => exact absurd (show false = true from hs) Bool.false_ne_true
  | bl i =>
    cases rx
    cases y with
    | non => cases ry; exact PySem.EqNone.eq_bool_none (fin_bl I q (by simp))
    | bl j => cases ry; exact eq_bool (fin_bl I q dec_bl)
    | str j => obtain ⟨t', rfl⟩ := ry; exact PySem.EqMixed.eq_bool_str (fin_bl I q (by simp))
    | _ => exact absurd (show false = true from hs) Bool.false_ne_true
  | int i =>
    obtain ⟨t, rfl⟩ := rx
    cases y with
    | non => cases ry; exact PySem.EqNone.eq_int_none (fin_bl I q (by simp))
    | int j => obtain ⟨t', rfl⟩ := ry; exact eq_int (fin_bl I q dec_int)
    | str j => obtain ⟨t', rfl⟩ := ry; exact PySem.EqMixed.eq_int_str (fin_bl I q (by simp))
    | _ => exact absurd (show false = true from hs) Bool.false_ne_true
  | str i =>
    obtain ⟨t, rfl⟩ := rx
    cases y with
    | non => cases ry; exact PySem.EqNone.eq_str_none (fin_bl I q (by simp))
    | bl j => cases ry; exact PySem.EqMixed.eq_str_bool (fin_bl I q (by simp))
    | int j => obtain ⟨t', rfl⟩ := ry; exact PySem.EqMixed.eq_str_int (fin_bl I q (by simp))
    | str j => obtain ⟨t', rfl⟩ := ry; exact eq_str (fin_bl I q dec_str)
    | _ => exact absurd (show false = true from hs) Bool.false_ne_true
  | byt i =>
    obtain ⟨t, rfl⟩ := rx
    cases y with
    | byt j => obtain ⟨t', rfl⟩ := ry; exact PySem.W.eq_bytes (fin_bl I q dec_byt)
    | _ => exact absurd (show false = true from hs) Bool.false_ne_true
  | _ => cases y <;> exact absurd (show false = true from hs) Bool.false_ne_true
theorem op_ne : OpR X (compareOp .NotEq) rNe := by
  intro pins s σ H x y v u Q I rx ry h
  obtain ⟨hs, q⟩ := h
  cases x with
  | non =>
    cases rx
    cases y with
    | non => cases ry; exact PySem.EqNone.ne_none_none (fin_bl I q (by simp))
    | bl j => cases ry; exact PySem.EqNone.ne_none_bool (fin_bl I q (by simp))
    | int j => obtain ⟨t', rfl⟩ := ry; exact PySem.EqNone.ne_none_int (fin_bl I q (by simp))
    | str j => obtain ⟨t', rfl⟩ := ry; exact PySem.EqNone.ne_none_str (fin_bl I q (by simp))
    | _ => exact absurd (show false = true from hs) Bool.false_ne_true
  | bl i =>
    cases rx
    cases y with
    | non => cases ry; exact PySem.EqNone.ne_bool_none (fin_bl I q (by simp))
    | bl j => cases ry; exact ne_bool (fin_bl I q (congrArg not dec_bl))
    | str j => obtain ⟨t', rfl⟩ := ry; exact PySem.EqMixed.ne_bool_str (fin_bl I q (by simp))
    | _ => exact absurd (show false = true from hs) Bool.false_ne_true
  | int i =>
    obtain ⟨t, rfl⟩ := rx
    cases y with
    | non => cases ry; exact PySem.EqNone.ne_int_none (fin_bl I q (by simp))
    | int j => obtain ⟨t', rfl⟩ := ry; exact ne_int (fin_bl I q (congrArg not dec_int))
    | str j => obtain ⟨t', rfl⟩ := ry; exact PySem.EqMixed.ne_int_str (fin_bl I q (by simp))
    | _ => exact absurd (show false = true from hs) Bool.false_ne_true
  | str i =>
    obtain ⟨t, rfl⟩ := rx
    cases y with
    | non => cases ry; exact PySem.EqNone.ne_str_none (fin_bl I q (by simp))
    | bl j => cases ry; exact PySem.EqMixed.ne_str_bool (fin_bl I q (by simp))
    | int j => obtain ⟨t', rfl⟩ := ry; exact PySem.EqMixed.ne_str_int (fin_bl I q (by simp))
    | str j => obtain ⟨t', rfl⟩ := ry; exact ne_str (fin_bl I q (congrArg not dec_str))
    | _ => exact absurd (show false = true from hs) Bool.false_ne_true
  | byt i =>
    obtain ⟨t, rfl⟩ := rx
    cases y with
    | byt j => obtain ⟨t', rfl⟩ := ry; exact PySem.W.ne_bytes (fin_bl I q (congrArg not dec_byt))
    | _ => exact absurd (show false = true from hs) Bool.false_ne_true
  | _ => cases y <;> exact absurd (show false = true from hs) Bool.false_ne_true

theorem op_lt : OpR X (compareOp .Lt) (rI0 fun i j => .bl (decide (i < j))) := opB0 fun _ _ _ _ _ _ _ q => lt_int q
theorem op_le : OpR X (compareOp .LtE) (rI0 fun i j => .bl (decide (i ≤ j))) := opB0 fun _ _ _ _ _ _ _ q => le_int q
theorem op_ge : OpR X (compareOp .GtE) (rI0 fun i j => .bl (decide (j ≤ i))) := opB0 fun _ _ _ _ _ _ _ q => ge_int q
theorem op_isN : OpR X (compareOp .Is) (fun x y H Q => y = .non ∧ Q (.bl (decide (x = .non))) H) := by
  intro pins s σ H x y v u Q I rx ry h
  obtain ⟨rfl, q⟩ := h
  cases ry
  refine is_none_gen (fin_bl I q ?_)
  cases x <;> first
    | (cases rx; rfl)
    | (obtain ⟨t, rfl⟩ := rx; rfl)
theorem op_notN : OpR X (compareOp .IsNot) (fun x y H Q => y = .non ∧ Q (.bl (!decide (x = .non))) H) := by
  intro pins s σ H x y v u Q I rx ry h
  obtain ⟨rfl, q⟩ := h
  cases ry
  refine isnot_none_gen (fin_bl I q ?_)
  cases x <;> first
    | (cases rx; rfl)
    | (obtain ⟨t, rfl⟩ := rx; rfl)

def isObj : HO → Bool
  | .lst _ => true
  | .ins _ _ _ => true
  | _ => false
theorem OpR.or {f : Value → Value → Sem Value} {r r' : R2} (h : OpR X f r) (h' : OpR X f r') : OpR X f (fun x y H Q => r x y H Q ∨ r' x y H Q) := by
  intro pins s σ H x y v u Q I rx ry q
  rcases q with q | q
  · exact h pins s σ H x y v u Q I rx ry q
  · exact h' pins s σ H x y v u Q I rx ry q

theorem nomark (b : Expr) {op : CmpOp} (h : op ≠ .In := by decide) (h2 : op ≠ .NotIn := by decide) : behindInMarks op b = false := by
  have e1 : (op == CmpOp.In) = false := by cases op <;> first | rfl | exact absurd rfl h
  have e2 : (op == CmpOp.NotIn) = false := by cases op <;> first | rfl | exact absurd rfl h2
  cases b <;> simp [behindInMarks, e1, e2]
theorem pe_cmpR {op : CmpOp} {r : R2} (ho : OpR X (compareOp op) r) (ha : PE X a ta) (hb : PE X b tb) (hm : behindInMarks op b = false) : PE X (.Compare a [op] [b] pos) (tOp r ta tb) := by
  intro pins s σ H Q I h
  exact wpAny_Compare1 (binT ha hb I h fun v u s2 x y H2 I2 rx ry q => ho pins s2 σ H2 x y v u Q I2 rx ry q) hm
def tTest (t : TE) : TT := fun σ H Q => t σ H fun x H' => ∃ k, x = .bl k ∧ Q k H'
theorem pt_cmpR {op : CmpOp} {r : R2} (ho : OpR X (compareOp op) r) (ha : PE X a ta) (hb : PE X b tb) (hm : behindInMarks op b = false) : PT X (.Compare a [op] [b] pos) (tTest (tOp r ta tb)) := by
  intro pins s σ H Q I h
  refine wpAny_isTrue_Compare1 (thn (ha pins s σ H _ I h) fun v s1 ⟨x, H1, I1, r1, q1⟩ => thn (hb pins s1 σ H1 _ I1 q1) fun u s2 ⟨y, H2, I2, r2, q2⟩ =>
    thn (ho pins s2 σ H2 x y v u _ I2 r1 r2 q2) fun c s3 ⟨z, H3, I3, r3, k, e, q3⟩ => ?_) hm
  subst e
  cases r3
  exact wpAny_truthy_bool ⟨H3, I3, q3⟩
def tChain (r r' : R2) (ta tb tc : TE) : TE := fun σ H Q => ta σ H fun x H1 => tb σ H1 fun y H2 => r x y H2 fun z H3 => ∃ k, z = .bl k ∧
  (if k = true then tc σ H3 fun w' H4 => r' y w' H4 Q else Q (.bl false) H3)
theorem pt_chain {op op' : CmpOp} {r r' : R2} (ho : OpR X (compareOp op) r) (ho' : OpR X (compareOp op') r') (ha : PE X a ta) (hb : PE X b tb) (hc : PE X c tc)
    (hm : lastMarks [op, op'] [b, c] = false := by with_unfolding_all rfl) : PT X (.Compare a [op, op'] [b, c] pos) (tTest (tChain r r' ta tb tc)) := by
  intro pins s σ H Q I h
  refine isTrue_chain (thn (ha pins s σ H _ I h) fun v s1 ⟨x, H1, I1, r1, q1⟩ => test_link (thn (hb pins s1 σ H1 _ I1 q1) fun u s2 ⟨y, H2, I2, r2, q2⟩ =>
    thn (ho pins s2 σ H2 x y v u _ I2 r1 r2 q2) fun d s3 ⟨z, H3, I3, r3, k, e, q3⟩ => ?_)) hm
  subst e
  cases r3
  refine wpAny_truthy_bool ?_
  cases k with
  | false =>
    obtain ⟨k', e', q'⟩ := q3
    cases e'
    exact ite_ff ⟨H3, I3, q'⟩
  | true =>
    refine ite_tt (test_last (thn (hc pins s3 σ H3 _ I3 q3) fun w' s4 ⟨z', H4, I4, r4, q4⟩ => thn (ho' pins s4 σ H4 y z' u w' _ I4 r2 r4 q4) fun d' s5 ⟨z2, H5, I5, r5, k2, e2, q5⟩ => ?_))
    subst e2
    cases r5
    exact wpAny_truthy_bool ⟨H5, I5, q5⟩

def TruV (K : PySem.W.Frag) (x : V) (H : Hp) (k : Bool) : Prop :=
  match x with
  | .non => k = false
  | .bl b => k = b
  | .int i => k = (i != 0)
  | .str y => y.length ≤ sizeLine ∧ k = ((y.length : Int) != 0)
  | .byt y => y.size ≤ sizeLine ∧ k = ((y.size : Int) != 0)
  | .ref p => (∃ xs, SqL K H p xs ∧ k = !xs.isEmpty) ∨ (∃ xs, SqT K H p xs ∧ k = !xs.isEmpty) ∨ ∃ kvs, H p = some (.dK kvs) ∧ k = !kvs.isEmpty
  | _ => False
theorem isEmpty_kv {κ : Type} {kvs : List (κ × V)} {vs : List (κ × Value)} (r : KV kvs vs) : (!vs.isEmpty) = !kvs.isEmpty := by
  cases r <;> rfl
theorem isEmpty_of {xs : List V} {its : List Value} (r : Vals xs its) : (!its.toArray.isEmpty) = !xs.isEmpty := by
  cases r <;> simp
theorem line63 : (sizeLine : Nat) < 2 ^ 63 := by rw [sizeLine_eq]; decide
theorem tru_ok : TruR X (fun x H Q => ∃ k, TruV X.K x H k ∧ Q k H) := by
  intro pins s σ H x v Q I rx h
  obtain ⟨k, e, q⟩ := h
  have hl := line63
  have hs : sizeLine = 16777216 := sizeLine_eq
  cases x with
  | non =>
    cases rx
    have e' : k = false := e
    subst e'
    exact truthy_none ⟨H, I, q⟩
  | bl b =>
    cases rx
    have e' : k = b := e
    subst e'
    exact wpAny_truthy_bool ⟨H, I, q⟩
  | int i =>
    obtain ⟨t, rfl⟩ := rx
    have e' : k = (i != 0) := e
    subst e'
    exact PySem.P.truthy_int ⟨H, I, q⟩
  | str y =>
    obtain ⟨t, rfl⟩ := rx
    obtain ⟨hy, e'⟩ : y.length ≤ sizeLine ∧ k = ((y.length : Int) != 0) := e
    subst e'
    exact PySem.P.truthy_str (by omega) ⟨H, I.tok _, q⟩
  | byt y =>
    obtain ⟨t, rfl⟩ := rx
    obtain ⟨hy, e'⟩ : y.size ≤ sizeLine ∧ k = ((y.size : Int) != 0) := e
    subst e'
    exact PySem.W.truthy_bytes (by omega) ⟨H, I.tok _, q⟩
  | ref p =>
    cases rx
    have e' : (∃ xs, SqL X.K H p xs ∧ k = !xs.isEmpty) ∨ (∃ xs, SqT X.K H p xs ∧ k = !xs.isEmpty) ∨ ∃ kvs, H p = some (.dK kvs) ∧ k = !kvs.isEmpty := e
    rcases e' with ⟨xs, hx, e'⟩ | ⟨xs, hx, e'⟩ | ⟨kvs, hx, e'⟩
    · subst e'
      obtain ⟨its, r, pl, hz⟩ := I.list hx
      have hlen := r.length
      exact wpAny_truthy_list pl.isList (by simp only [List.size_toArray]; omega) ⟨H, I.tok _, by rw [isEmpty_of r]; exact q⟩
    · subst e'
      obtain ⟨its, r, pl, hz⟩ := I.tuple hx
      have hlen := r.length
      exact truthy_tuple pl (by simp only [List.size_toArray]; omega) ⟨H, I.tok _, by rw [isEmpty_of r]; exact q⟩
    · subst e'
      obtain ⟨hz, hS, vs, r, m⟩ : kvs.length ≤ sizeLine ∧ (p == sysModules) = false ∧ ∃ vs, KV kvs vs ∧ s.heap.DictOf (mixKind X.prog X.w) p vs := I.hok p _ hx
      have hlen : kvs.length = vs.length := Paired.length r
      exact wpAny_truthy_dict hS m (by omega) ⟨H, I.tok _, by rw [isEmpty_kv r]; exact q⟩
  | _ => exact (show False from e).elim
theorem pt_truth (ha : PE X a ta) (he : ∀ whole, isTrue a X.env whole = (do let v ← whole; standAt a.pos; holding [v] (truthy v))) :
    PT X a (fun σ H Q => ta σ H fun x H' => ∃ k, TruV X.K x H' k ∧ Q k H') := by
  intro pins s σ H Q I h
  exact isTrue_plain (thn (ha pins s σ H _ I h) fun v s1 ⟨x, H1, I1, r1, q1⟩ => tru_ok pins s1 σ H1 x v Q I1 r1 q1) (he _)

def PlainIxT (b : Expr) : Prop := ∀ o i, subscripted b false o i = operate [o, i] (getItem o i)
theorem vals1 {x : V} {us : List Value} (r : Vals [x] us) : ∃ u, us = [u] ∧ RelV x u := by
  cases r with
  | cons r1 r2 => cases r2; exact ⟨_, rfl, r1⟩
theorem vals2 {x y : V} {us : List Value} (r : Vals [x, y] us) : ∃ u w', us = [u, w'] ∧ RelV x u ∧ RelV y w' := by
  cases r with
  | cons r1 r2 =>
    cases r2 with
    | cons r3 r4 => cases r4; exact ⟨_, _, rfl, r1, r3⟩
theorem call_abs : CallR X (.builtin "abs") (fun xs H Q => ∃ i, xs = [.int i] ∧ Q (.int (if i < 0 then -i else i)) H) := by
  intro pins s σ H xs us Q I r h
  obtain ⟨i, rfl, q⟩ := h
  obtain ⟨u, rfl, t, rfl⟩ := vals1 r
  exact call_abs_int fun u tk => ⟨.int (if i < 0 then -i else i), H, I.tok _, ⟨_, rfl⟩, q⟩
theorem call_min2 (hc : X.calm = true) : CallR X (.builtin "min") (fun xs H Q => ∃ i j, xs = [.int i, .int j] ∧ Q (.int (if j < i then j else i)) H) := by
  intro pins s σ H xs us Q I r h
  obtain ⟨i, j, rfl, q⟩ := h
  obtain ⟨u, w', rfl, ⟨t, rfl⟩, ⟨t', rfl⟩⟩ := vals2 r
  refine min_two_ints (I.ok.hd hc) fun h' tk k => ⟨_, H, I.kept k, ?_, q⟩
  by_cases hj : j < i
  · rw [if_pos hj, if_pos hj]; exact ⟨_, rfl⟩
  · rw [if_neg hj, if_neg hj]; exact ⟨_, rfl⟩
def LenV (K : PySem.W.Frag) (x : V) (H : Hp) (n : Nat) : Prop :=
  match x with
  | .str y => y.length ≤ sizeLine ∧ n = y.length
  | .byt y => y.size ≤ sizeLine ∧ n = y.size
  | .ref p => (∃ xs, SqL K H p xs ∧ n = xs.length) ∨ ∃ xs, SqT K H p xs ∧ n = xs.length
  | _ => False
theorem call_divmod : CallR X (.builtin "divmod") (fun xs H Q => ∃ i j, xs = [.int i, .int j] ∧ CDiv i j ∧ ∀ p, H p = none → Q (.ref p) (upd H p (.tup [.int (i / j), .int (i % j)]))) := by
  intro pins s σ H xs us Q I r h
  obtain ⟨i, j, rfl, ⟨h1, h2⟩, q⟩ := h
  obtain ⟨u, w', rfl, ⟨t, rfl⟩, ⟨t', rfl⟩⟩ := vals2 r
  refine divmod_int (by omega) ?_ (.inl (PyProof.noPylong_small (by omega)))
  rw [Int.fdiv_eq_ediv_of_nonneg i (by omega), Int.fmod_eq_emod_of_nonneg i (by omega)]
  have hn : H s.heap.objs.size = none := I.hok.fresh (Nat.le_refl _)
  refine ⟨.ref s.heap.objs.size, _, ?_, rfl, q _ hn⟩
  refine I.laid (fun b o e => Heap.get?_push_of_some _ e) (Nat.le_refl _) ⟨by simp only [List.length_cons, List.length_nil]; rw [sizeLine_eq]; decide, [.int (i / j) s.toks, .int (i % j) (s.toks + 1)], .cons ⟨_, rfl⟩ (.cons ⟨_, rfl⟩ .nil), ?_⟩
  exact ⟨_, Heap.get?_push_size s.heap rfl, rfl, 0, rfl⟩
end
end L2

namespace L2
open PySem PySem.Spec PyProof.Rows

structure ObjM (h : Heap) (x dx C : Addr) (mA : Str → Option Value) : Prop where
  obj : h.get? x = some (PySem.W.instObj C dx)
  ns : h.Ns1 dx mA
  ne : dx ≠ x

theorem lookIn_ns {h : Heap} {dx : Addr} {mA : Str → Option Value} (n : h.Ns1 dx mA) : ∃ od, h.get? dx = some od ∧ ∀ name, PySem.W.lookIn name od = some (mA name) := by
  obtain ⟨o, es, ep, ho, hd, hk, _, hm⟩ := n
  refine ⟨o, ho, fun name => ?_⟩
  have e := hm name
  unfold nsFind findBy at e
  rw [← Array.find?_toList] at e
  unfold PySem.W.lookIn
  rw [hd]
  dsimp only
  split
  · rename_i y q
    rw [q] at e
    exact congrArg some e
  · rename_i q
    rw [q] at e
    have a : es.toList.any (·.refKey) = false := by
      rw [List.any_eq_false]
      intro y hy
      obtain ⟨z, t, hkey⟩ := hk y (Array.mem_toList_iff.mp hy)
      simp [DictEntry.refKey, hkey]
    have a' : ¬ es.toList.any (·.refKey) = true := by rw [a]; exact Bool.false_ne_true
    rw [if_neg a']
    exact congrArg some e

theorem ObjM.look {h : Heap} {x dx C : Addr} {mA : Str → Option Value} (I : ObjM h x dx C mA) : ∃ od, PySem.W.InstAt h x (PySem.W.instObj C dx) C (some od) ∧ ∀ name, PySem.W.lookIn name od = some (mA name) :=
  let ⟨od, ho, hl⟩ := lookIn_ns I.ns
  ⟨od, ⟨I.obj, rfl, rfl, ho⟩, hl⟩

section
variable {prog : Program} {w : World} {A : Around} {E : Value → Shared → Prop} {s : Shared} {K : PySem.W.Frag} {x dx C f : Addr} {mA : Str → Option Value} {name : Str} {v : Value}

end

def putF (f : Str) (v : V) : List (Str × V) → List (Str × V)
  | [] => [(f, v)]
  | (g, x) :: r => if g = f then (g, v) :: r else (g, x) :: putF f v r
theorem RelO.some_of {v : V} {o : Option Value} (r : RelO (some v) o) : ∃ u, o = some u ∧ RelV v u := by
  cases o with
  | none => exact (show False from r).elim
  | some u => exact ⟨u, rfl, r⟩
section
variable {P : Program} {w : World} {H H' : Hp} {h h' : Heap} {a C dx : Addr} {fs fs' : List (Str × V)}
theorem ins_get (hok : HOk P w H h) (e : H a = some (.ins C dx fs)) : ∃ mA, ObjM h a dx C mA ∧ (∀ f, RelO (fs.lookup f) (mA f)) ∧ PySem.Within mA (fs.map (·.1)) ∧ fs.length ≤ 1000 ∧ H dx = some (.own a) := by
  obtain ⟨d, z, ne, ob, mA, n, r, q⟩ := (show ObjOk P w H h a (.ins C dx fs) from hok a _ e)
  exact ⟨mA, ⟨ob, n, ne⟩, r, q, z, d⟩
end

structure Cls (K : PySem.W.Frag) (C : Addr) : Prop where
  pg : PySem.W.plainGet K C Str.empty = true
  hd : PySem.W.hasDictIn K C = true
  po : PySem.W.plainOver K C = true
  sa : PySem.W.findIn K (.ref C) "__setattr__" = some (some (.builtin "object.__setattr__"))
theorem Cls.get {K : PySem.W.Frag} {C : Addr} (c : Cls K C) (f : Str) : PySem.W.plainGet K C f = true := c.pg
def NoAttr (K : PySem.W.Frag) (C : Addr) (f : Str) : Prop := PySem.W.findIn K (.ref C) f = some none
structure Con (K : PySem.W.Frag) (C : Addr) (f : Str) (v : V) (u : Value) : Prop where
  at_ : PySem.W.findIn K (.ref C) f = some (some u)
  rel : RelV v u
  get : PySem.W.specialIn K u "__get__" = some none
  cp : PySem.W.copiedNames.contains f = false
structure Meth (K : PySem.W.Frag) (C : Addr) (m : Str) (f : Addr) : Prop where
  at_ : PySem.W.findIn K (.ref C) m = some (some (.ref f))
  fn : PySem.W.isFn K (.ref f) = true
  kp : PySem.W.keepIn K (.ref f) = true

section
variable {X : Cx} {pins : List (Addr × Obj)} {σ : St} {H : Hp} {s : Shared} {a C dx : Addr} {fs : List (Str × V)} {f : Str} {v : V} {A : Around} {E : Value → Shared → Prop}

theorem Inv.made (I : Inv X pins σ H s) : Inv X pins σ (upd (upd H s.heap.objs.size (.own (s.heap.objs.size + 1))) (s.heap.objs.size + 1) (.ins C s.heap.objs.size []))
    { s with heap := (s.heap.push PySem.W.emptyDict).push (PySem.W.instObj C s.heap.objs.size) } := by
  have e1 : (s.heap.push PySem.W.emptyDict).get? s.heap.objs.size = some PySem.W.emptyDict := Heap.get?_push_size s.heap rfl
  have e2 : ((s.heap.push PySem.W.emptyDict).push (PySem.W.instObj C s.heap.objs.size)).get? (s.heap.objs.size + 1) = some (PySem.W.instObj C s.heap.objs.size) := by
    have := Heap.get?_push_size (s.heap.push PySem.W.emptyDict) (o := PySem.W.instObj C s.heap.objs.size) rfl
    rwa [Heap.size_push] at this
  have e3 : (s.heap.push PySem.W.emptyDict).Ns s.heap.objs.size (fun _ => none) := ⟨PySem.W.emptyDict, #[], _, e1, rfl, (fun e he => absurd he (by simp)), fun _ => rfl⟩
  have I1 := I.laid (a := s.heap.objs.size) (o := .own (s.heap.objs.size + 1)) (h' := s.heap.push PySem.W.emptyDict) (t' := s.toks) (fun b u q => Heap.get?_push_of_some _ q) (Nat.le_refl _) ⟨_, e1⟩
  refine I1.laid (a := s.heap.objs.size + 1) (o := .ins C s.heap.objs.size []) (t' := s.toks) (fun b u q => Heap.get?_push_of_some _ q) (Nat.le_of_eq (Heap.size_push _ _)) ?_
  have ne : s.heap.objs.size ≠ s.heap.objs.size + 1 := Nat.ne_of_lt (Nat.lt_succ_self _)
  refine ⟨by rw [upd_ne ne, upd_same], Nat.zero_le _, ne, e2, fun _ => none, (Heap.Ns1.of_empty e3).at fun o q => Heap.get?_push_of_some _ q, fun _ => True.intro, fun y hy => absurd rfl hy⟩

end

def tFld (K : PySem.W.Frag) (ta : TE) (f : Str) : TE := fun σ H Q => ta σ H fun x H1 => ∃ a C dx fs v, x = .ref a ∧ H1 a = some (.ins C dx fs) ∧ Cls K C ∧ NoAttr K C f ∧ fs.lookup f = some v ∧ Q v H1
def tCon (K : PySem.W.Frag) (ta : TE) (f : Str) : TE := fun σ H Q => ta σ H fun x H1 => ∃ a C dx fs v u, x = .ref a ∧ H1 a = some (.ins C dx fs) ∧ Cls K C ∧ Con K C f v u ∧ fs.lookup f = none ∧ Q v H1
def sFld (K : PySem.W.Frag) (ta tv : TE) (f : Str) : TS := fun D σ H => tv σ H fun y H1 => ta σ H1 fun x H2 => ∃ a C dx fs, x = .ref a ∧ H2 a = some (.ins C dx fs) ∧ Cls K C ∧ NoAttr K C f ∧ fs.length < 1000 ∧
  D.nx σ (upd H2 a (.ins C dx (putF f y fs)))
def InOp (X : Cx) (op : Operator) (rd : V → V → Hp → VK → Prop) : Prop :=
  ∀ (pins : List (Addr × Obj)) (s : Shared) (σ : St) (H : Hp) (x y : V) (u v : Value) (Q : VK), Inv X pins σ H s → RelV x u → RelV y v → rd x y H Q → wpAny (model X.prog X.w) X.A (inplaceOp op u v) (EP X pins σ Q) X.xe s
def sFldAug (K : PySem.W.Frag) (ta tv : TE) (rd : V → V → Hp → VK → Prop) (f : Str) : TS := fun D σ H => ta σ H fun x H1 => ∃ a C dx fs v, x = .ref a ∧ H1 a = some (.ins C dx fs) ∧ Cls K C ∧ NoAttr K C f ∧ fs.lookup f = some v ∧
  tv σ H1 fun y H2 => rd v y H2 fun z H3 => ∃ dx' fs', H3 a = some (.ins C dx' fs') ∧ fs'.length < 1000 ∧ D.nx σ (upd H3 a (.ins C dx' (putF f z fs')))

section
variable {X : Cx} {o e value : Expr} {f : Str} {pos pos' tpos : Pos} {ta tv : TE}
def rAdd : V → V → Hp → VK → Prop := fun x y H Q => ∃ i j, x = .int i ∧ y = .int j ∧ Q (.int (i + j)) H
def rSub : V → V → Hp → VK → Prop := fun x y H Q => ∃ i j, x = .int i ∧ y = .int j ∧ Q (.int (i - j)) H
end

section
variable {X : Cx} {pins : List (Addr × Obj)} {σ : St} {H : Hp} {s : Shared} {A : Around} {E : Value → Shared → Prop} {Q : Value → Shared → Prop} {c : Value} {b : Bool}
inductive TyOf (K : PySem.W.Frag) (H : Hp) : V → Value → Prop where
  | non : TyOf K H .non (.type "NoneType")
  | bl (x : Bool) : TyOf K H (.bl x) (.type "bool")
  | int (i : Int) : TyOf K H (.int i) (.type "int")
  | str (x : Str) : TyOf K H (.str x) (.type "str")
  | flt (x : UInt64) : TyOf K H (.flt x) (.type "float")
  | lst {a : Addr} {xs : List V} (e : H a = some (.lst xs)) : TyOf K H (.ref a) (.type "list")
  | frz {a : Addr} {o : Obj} {xs : List V} (e : H a = some (.frz o (.lst xs))) : TyOf K H (.ref a) (.type "list")
  | tup {a : Addr} {xs : List V} (e : H a = some (.tup xs)) : TyOf K H (.ref a) (.type "tuple")
  | dK {a : Addr} {kvs : List (Key × V)} (e : H a = some (.dK kvs)) : TyOf K H (.ref a) (.type "dict")
  | dT {a : Addr} {kvs : List (List Key × V)} (e : H a = some (.dT kvs)) : TyOf K H (.ref a) (.type "dict")
  | ins {a C dx : Addr} {fs : List (Str × V)} (e : H a = some (.ins C dx fs)) (cl : Cls K C) (ha : PySem.W.findIn K (.ref C) "__class__" = some (some (.builtin "object.__class__")))
      (hn : PySem.W.specialIn K (.builtin "object.__class__") "__get__" = some (some (.builtin "getset_descriptor.__get__"))) (htk : PySem.W.takesIn K (.builtin "object.__class__") = some true)
      (hm : PySem.W.mroIn K C (.type "object") = some true) : TyOf K H (.ref a) (.ref C)
theorem isinst_ok {x : V} {u t : Value} (I : Inv X pins σ H s) (rx : RelV x u) (ty : TyOf X.K H x t) (e : PySem.W.kitOne X.K t c = some b) (h : ∀ tk, Q (.bool b) { s with toks := tk }) :
    wpAny (model X.prog X.w) A (call (.builtin "isinstance") [u, c]) Q E s := by
  cases ty with
  | non => cases (show u = Value.none from rx); exact PySem.W.kia_one PySem.W.kitx_none I.kIn True.intro e (fun z => nomatch z) h
  | bl y => cases (show u = Value.bool y from rx); exact PySem.W.kia_one PySem.W.kitx_bool I.kIn True.intro e (fun z => nomatch z) h
  | int i => obtain ⟨t, q⟩ := (show ∃ t, u = Value.int i t from rx); cases q; exact PySem.W.kia_one PySem.W.kitx_int I.kIn True.intro e (fun z => nomatch z) h
  | str y => obtain ⟨t, q⟩ := (show ∃ t, u = Value.str y t from rx); cases q; exact PySem.W.kia_one PySem.W.kitx_str I.kIn True.intro e (fun z => nomatch z) h
  | flt y => obtain ⟨t, q⟩ := (show ∃ t, u = Value.float y t from rx); cases q; exact PySem.W.kia_one PySem.W.kitx_float I.kIn True.intro e (fun z => nomatch z) h
  | @lst a xs ea =>
    cases (show u = Value.ref a from rx)
    obtain ⟨_, _, n, _, h1⟩ := (show ObjOk X.prog X.w H s.heap a (.lst xs) from I.hok a _ ea)
    exact PySem.W.kia_one PySem.W.kitx_list I.kIn ⟨_, h1, rfl⟩ e (fun z => nomatch z) h
  | @frz a ob xs ea =>
    cases (show u = Value.ref a from rx)
    obtain ⟨_, _, _, n, _, h1⟩ := (show ObjOk X.prog X.w H s.heap a (.frz ob (.lst xs)) from I.hok a _ ea)
    exact PySem.W.kia_one PySem.W.kitx_list I.kIn ⟨_, h1, rfl⟩ e (fun z => nomatch z) h
  | @tup a xs ea =>
    cases (show u = Value.ref a from rx)
    obtain ⟨_, _, _, p⟩ := (show ObjOk X.prog X.w H s.heap a (.tup xs) from I.hok a _ ea)
    obtain ⟨o, h1, h2, _⟩ := p
    exact PySem.W.kia_one PySem.W.kitx_tuple I.kIn ⟨o, h1, h2⟩ e (fun z => nomatch z) h
  | @dK a kvs ea =>
    cases (show u = Value.ref a from rx)
    obtain ⟨_, _, vs, _, p⟩ := (show ObjOk X.prog X.w H s.heap a (.dK kvs) from I.hok a _ ea)
    obtain ⟨o, es, ep, h1, h2, _⟩ := p
    exact PySem.W.kia_one PySem.W.kitx_dict I.kIn ⟨o, h1, h2.1⟩ e (fun z => nomatch z) h
  | @dT a kvs ea =>
    cases (show u = Value.ref a from rx)
    obtain ⟨_, _, xs, _, o, es, ep, h1, h2, _⟩ := (show ObjOk X.prog X.w H s.heap a (.dT kvs) from I.hok a _ ea)
    exact PySem.W.kia_one PySem.W.kitx_dict I.kIn ⟨o, h1, h2.1⟩ e (fun z => nomatch z) h
  | @ins a C dx fs ea cl ha hn htk hm =>
    cases (show u = Value.ref a from rx)
    obtain ⟨mA, O, _⟩ := ins_get I.hok ea
    obtain ⟨od, J, _⟩ := O.look
    exact PySem.W.kia_one (PySem.W.kitx_own (cl.get _) cl.hd ha hn htk hm) I.kIn J e (fun z => nomatch z) h
end
end L2

namespace L2
open PySem PySem.Spec PyProof.Rows

structure Room (k : Nat) (A : Around) : Prop where
  hd : A.handled = none
  dp : A.depth + 3 * k + 5 < recursionLimit
  un : A.units + 16 * k + 200 < cLine
theorem Room.mono {j k : Nat} {A : Around} (r : Room k A) (h : j ≤ k) : Room j A := ⟨r.hd, by have := r.dp; omega, by have := r.un; omega⟩
theorem Room.deeper {k : Nat} {A : Around} (r : Room (k + 1) A) (env : Env) : Room k (A.deeper env) :=
  ⟨r.hd, by have := r.dp; show A.depth + 1 + 3 * k + 5 < _; omega, by have := r.un; show A.units + 3 + 16 * k + 200 < _; omega⟩
theorem Room.in1 {k : Nat} {A : Around} (r : Room (k + 1) A) : Room k A.in1 :=
  ⟨r.hd, by have := r.dp; show A.depth + 3 * k + 5 < _; omega, by have := r.un; show A.units + 1 + 16 * k + 200 < _; omega⟩
theorem Room.depth {k : Nat} {A : Around} (r : Room k A) : A.depth < recursionLimit := by have := r.dp; omega
theorem Room.units {k : Nat} {A : Around} (r : Room k A) : A.units + 64 < cLine := by have := r.un; omega
theorem Room.units0 {k : Nat} {A : Around} (r : Room k A) : A.units < cLine := by have := r.un; omega

def tNil : TA := fun _ H Q => Q [] H
def tCons (ta : TE) (tr : TA) : TA := fun σ H Q => ta σ H fun x H1 => tr σ H1 fun xs H2 => Q (x :: xs) H2
section
variable {X : Cx} {e : Expr} {es : List Expr} {te : TE} {t : TA} {pos : Pos}
theorem pa_nil : PA X [] tNil := fun _ _ _ _ H Q I h => Calls.spliced_nil ⟨[], H, I, .nil, h⟩
theorem pa_cons (ha : PE X e te) (hr : PA X es t) (hs : starEach (e :: es) X.env = (false, eval e X.env) :: starEach es X.env := by rfl) : PA X (e :: es) (tCons te t) := by
  intro pos pins s σ H Q I h
  rw [hs]
  show wpAny _ _ (spliced ((false, eval e X.env) :: backTo pos (starEach es X.env))) _ _ s
  refine Calls.spliced_cons (thn (ha pins s σ H _ I h) fun u s1 ⟨x, H1, I1, r1, q1⟩ => ?_)
  exact thn (hr pos pins s1 σ H1 _ I1 q1) fun us s2 ⟨xs, H2, I2, r2, q2⟩ => ⟨x :: xs, H2, I2, .cons r1 r2, q2⟩

def tTup (t : TA) : TE := fun σ H Q => t σ H fun xs H1 => xs.length ≤ sizeLine ∧ ∀ p, H1 p = none → Q (.ref p) (upd H1 p (.tup xs))
def tLst (t : TA) : TE := fun σ H Q => t σ H fun xs H1 => xs.length ≤ sizeLine ∧ ∀ p, H1 p = none → Q (.ref p) (upd H1 p (.lst xs))
theorem pe_tup {x1} (h : PA X es t) : PE X (.Tuple es x1 pos) (tTup t) := by
  intro pins s σ H Q I hq
  refine wpAny_Tuple_spliced (thn (h pos pins s σ H _ I hq) fun us s1 ⟨xs, H1, I1, r, z, q⟩ => ⟨by rw [← r.length]; exact z, ?_⟩)
  have hf : H1 s1.heap.objs.size = none := I1.hok.fresh (Nat.le_refl _)
  refine ⟨.ref s1.heap.objs.size, upd H1 s1.heap.objs.size (.tup xs), I1.laid (t' := s1.toks) (fun b u e => Heap.get?_push_of_some _ e) (Nat.le_refl _) ?_, rfl, q _ hf⟩
  exact ⟨z, us, r, ⟨_, Heap.get?_push_size _ rfl, rfl, _, rfl⟩⟩
theorem pe_lst (h : PA X es t) : PE X (.List es pos) (tLst t) := by
  intro pins s σ H Q I hq
  refine wpAny_List_spliced (thn (h pos pins s σ H _ I hq) fun us s1 ⟨xs, H1, I1, r, z, q⟩ => ⟨by rw [← r.length]; exact z, ?_⟩)
  have hf : H1 s1.heap.objs.size = none := I1.hok.fresh (Nat.le_refl _)
  refine ⟨.ref s1.heap.objs.size, upd H1 s1.heap.objs.size (.lst xs), I1.laid (t' := s1.toks) (fun b u e => Heap.get?_push_of_some _ e) (Nat.le_refl _) ?_, rfl, q _ hf⟩
  exact ⟨z, us, 0, r, Heap.get?_push_size _ rfl⟩
end

abbrev Sp := List V → Hp → VK → XK → Prop
abbrev CXT := List Env → Hp → Shared → XK → Value → Shared → Prop

structure Env0 (P : Program) (w : World) (K : PySem.W.Frag) (mg : Str → Option Value) (base : Heap) (A : Around) (outer : List Env) (s : Shared) (H : Hp) : Prop where
  frames : A.frames = some outer
  mod : Mod K mg base
  bs : ∀ b o, base.get? b = some o → s.heap.get? b = some o ∧ H b = none
  bsz : base.objs.size ≤ s.heap.objs.size
  funs : s.heap.FunFrames base outer
  frf : ∀ b ∈ frs outer, H b = none
  hok : HOk P w H s.heap
  bare : AllBare s.gens
def CE (outer : List Env) (P : Program) (w : World) (H : Hp) (s : Shared) (Q : VK) (u : Value) (s' : Shared) : Prop :=
  ∃ v H', s'.os = s.os ∧ AllBare s'.gens ∧ Un (frs outer) [] H H' s.heap s'.heap ∧ HOk P w H' s'.heap ∧ RelV v u ∧ Q v H'
def CR (CX : CXT) (outer : List Env) (P : Program) (w : World) (H : Hp) (s : Shared) (Q : VK) (E : XK) (r : Result) (s' : Shared) : Prop :=
  match r with
  | .ok (.ret u) => CE outer P w H s Q u s'
  | .ok _ => False
  | .error e => CX outer H s E e s'
structure FnOk (P : Program) (w : World) (K : PySem.W.Frag) (mg : Str → Option Value) (base : Heap) (CX : CXT) (k : Nat) (f : Addr) (fd : FuncData) (ps : List Str) (sp : Sp) : Prop where
  len : ∀ vs H Q E, sp vs H Q E → vs.length = ps.length
  run : ∀ (A : Around) (outer : List Env) (s : Shared) (H : Hp) (args : Args) (us : List Value) (vs : List V) (Q : VK) (E : XK), Room k A → Env0 P w K mg base A outer s H → BindsTo s fd args (ps.zip us) → Vals vs us → sp vs H Q E →
    codeAny (model P w) A (.call (.ref f) args) (CR CX outer P w H s Q E) s
theorem FnOk.mono {P : Program} {w : World} {K : PySem.W.Frag} {mg : Str → Option Value} {base : Heap} {CX : CXT} {j k : Nat} {f : Addr} {fd : FuncData} {ps : List Str} {sp : Sp} (F : FnOk P w K mg base CX j f fd ps sp) (h : j ≤ k) :
    FnOk P w K mg base CX k f fd ps sp := ⟨F.len, fun A outer s H args us vs Q E hr => F.run A outer s H args us vs Q E (hr.mono h)⟩
theorem FnOk.imp {P : Program} {w : World} {K : PySem.W.Frag} {mg : Str → Option Value} {base : Heap} {CX : CXT} {k : Nat} {f : Addr} {fd : FuncData} {ps : List Str} {sp sp' : Sp} (F : FnOk P w K mg base CX k f fd ps sp)
    (h : ∀ vs H Q E, sp' vs H Q E → sp vs H Q E) : FnOk P w K mg base CX k f fd ps sp' :=
  ⟨fun vs H Q E q => F.len vs H Q E (h _ _ _ _ q), fun A outer s H args us vs Q E hr he hb hv hs => F.run A outer s H args us vs Q E hr he hb hv (h _ _ _ _ hs)⟩

theorem Env0.in1 {P : Program} {w : World} {K : PySem.W.Frag} {mg : Str → Option Value} {base : Heap} {A : Around} {outer : List Env} {s : Shared} {H : Hp} (e : Env0 P w K mg base A outer s H) :
    Env0 P w K mg base A.in1 outer s H := ⟨e.frames, e.mod, e.bs, e.bsz, e.funs, e.frf, e.hok, e.bare⟩

section
variable {X : Cx} {pins : List (Addr × Obj)} {σ : St} {H : Hp} {s s' : Shared}
theorem Inv.env0 (I : Inv X pins σ H s) : Env0 X.prog X.w X.K X.mg X.base X.A X.stack s H :=
  ⟨I.ok.frames, I.ok.mod, I.bs, Nat.le_trans I.ok.bsz I.sz, I.stack, I.stkFree, I.hok, I.bare⟩
theorem Inv.after {Q : VK} {u : Value} (I : Inv X pins σ H s) (h : CE X.stack X.prog X.w H s Q u s') : EP X pins σ Q u s' := by
  obtain ⟨v, H', os, bare, un, hok, r, q⟩ := h
  obtain ⟨hh, g, d, t, os'⟩ := s'
  obtain rfl : os' = s.os := os
  exact ⟨v, H', I.call (h' := hh) (g' := g) (d' := d) (t' := t) (ch := []) un hok bare (fun b z => absurd z (by simp)), r, q⟩
end

def tCall (sp : Sp) (dvs : List V) (E : XK) (t : TA) : TE := fun σ H Q => t σ H fun vs H1 => sp (vs ++ dvs) H1 Q E
def tMeth (C : Addr) (m : Str) (sp : Sp) (dvs : List V) (E : XK) (ta : TE) (t : TA) : TE := fun σ H Q => ta σ H fun x H1 => ∃ a dx fs, x = .ref a ∧ H1 a = some (.ins C dx fs) ∧ fs.lookup m = none ∧
  t σ H1 fun vs H2 => sp (x :: (vs ++ dvs)) H2 Q E
def tMake (C : Addr) (sp : Sp) (dvs : List V) (E : XK) (t : TA) : TE := fun σ H Q => t σ H fun vs H1 => ∀ x dx, H1 x = none → H1 dx = none → dx ≠ x →
  sp (.ref x :: (vs ++ dvs)) (upd (upd H1 dx (.own x)) x (.ins C dx [])) (fun v H2 => v = .non ∧ Q (.ref x) H2) E

def Binds (K : PySem.W.Frag) (fd : FuncData) (ps : List Str) (ds : List Value) : Prop :=
  ∀ (s : Shared) (us : List Value), K.In s.heap → (us ++ ds).length = ps.length → BindsTo s fd ⟨us, []⟩ (ps.zip (us ++ ds))
theorem Binds.all {K : PySem.W.Frag} {fd : FuncData} {ps : List Str} (h : ∀ us : List Value, us.length = ps.length → bindArgs fd ⟨us, []⟩ = pure (ps.zip us)) : Binds K fd ps [] := fun s us _ hl => by
  rw [List.append_nil] at hl ⊢
  exact .of_eq (h us hl)

def Passes (CX : CXT) (X : Cx) (E : XK) : Prop := ∀ (pins : List (Addr × Obj)) (σ : St) (H : Hp) (s : Shared) (e : Value) (s' : Shared), Inv X pins σ H s → CX X.stack H s E e s' → X.xe e s'

section
variable {X : Cx} {CX : CXT} {k : Nat} {f C : Addr} {fd : FuncData} {ps : List Str} {sp : Sp} {dvs : List V} {ds : List Value} {E : XK} {x m : Str} {p pos apos : Pos} {e o : Expr} {es : List Expr} {ta : TE} {t : TA}

theorem run_fn {pins : List (Addr × Obj)} {σ : St} {H : Hp} {s : Shared} {Q : VK} {us : List Value} {vs : List V} (F : FnOk X.prog X.w X.K X.mg X.base CX k f fd ps sp) (hr : Room k X.A) (hb : Binds X.K fd ps ds) (hd : Vals dvs ds) (hx : Passes CX X E)
    (I : Inv X pins σ H s) (r : Vals vs us) (h : sp (vs ++ dvs) H Q E) : wpAny (model X.prog X.w) X.A (call (.ref f) us) (EP X pins σ Q) X.xe s := by
  have r2 : Vals (vs ++ dvs) (us ++ ds) := r.append hd
  have hl : (us ++ ds).length = ps.length := by rw [← r2.length]; exact F.len _ _ _ _ h
  refine wpAny_call (codeAny_mono (F.run X.A X.stack s H ⟨us, []⟩ (us ++ ds) (vs ++ dvs) Q E hr I.env0 (hb s us I.kIn hl) r2 h) fun r s' hq => ?_)
  cases r with
  | error e => exact hx pins σ H s e s' I hq
  | ok fl =>
    cases fl with
    | ret u => exact I.after hq
    | next => exact False.elim hq
    | brk => exact False.elim hq
    | cont => exact False.elim hq

theorem pe_call (F : FnOk X.prog X.w X.K X.mg X.base CX k f fd ps sp) (hr : Room k X.A) (hg : Gl X x) (hm : X.mg x = some (.ref f)) (hk : PySem.W.keepIn X.K (.ref f) = true) (hb : Binds X.K fd ps ds) (hd : Vals dvs ds) (hx : Passes CX X E)
    (ha : PA X (e :: es) t) (hdb : (x == ("__debug__" : Str)) = false := by decide) (he : starEach (e :: es) X.env = (false, eval e X.env) :: starEach es X.env := by rfl) (hpl : (backTo pos (starEach es X.env)).any (·.1) = false := by rfl) :
    PE X (.Call (.Name x p) (e :: es) [] pos) (tCall sp dvs E t) := by
  intro pins s σ H Q I h
  refine wpAny_Call_Name_kw (ld_glob I hg hm ?_ hdb)
  refine PySem.W.callWith_K (h₀ := X.base) I.ok.mod.kin hk (thn (ha pos pins s σ H _ I h) fun us s1 ⟨vs, H1, I1, r, q⟩ => ⟨I1.kIn, ?_⟩) he hpl
  exact run_fn F hr hb hd hx I1 r q
structure Mk (K : PySem.W.Frag) (C f : Addr) : Prop where
  makes : PySem.W.makesIn K C = true
  init : PySem.W.findIn K (.ref C) "__init__" = some (some (.ref f))
  fn : PySem.W.isFn K (.ref f) = true
  kp : PySem.W.keepIn K (.ref C) = true

end

def PK (X : Cx) (kws : List Keyword) (t : TA) : Prop :=
  ∀ (pos : Pos) (pins : List (Addr × Obj)) (s : Shared) (σ : St) (H : Hp) (Q : List V → Hp → Prop), Inv X pins σ H s → t σ H Q → wpAny (model X.prog X.w) X.A (evalAll ((backToKw pos (keywordEach kws X.env)).map (·.2))) (AP X pins σ Q) X.xe s
section
variable {X : Cx} {CX : CXT} {k : Nat} {f C : Addr} {fd : FuncData} {ps ks : List Str} {sp : Sp} {E : XK} {x m : Str} {p pos apos kpos : Pos} {e o : Expr} {es : List Expr} {kws : List Keyword} {te ta : TE} {t tk : TA} {nm : Option Str}
structure KBinds (K : PySem.W.Frag) (fd : FuncData) (ps ks : List Str) (g : List Value → List Value → List Value) (gV : List V → List V → List V) : Prop where
  to : ∀ (s : Shared) (us ws : List Value), K.In s.heap → (g us ws).length = ps.length → BindsTo s fd ⟨us, ks.zip ws⟩ (ps.zip (g us ws))
  rel : ∀ {vs : List V} {us : List Value} {zs : List V} {ws : List Value}, Vals vs us → Vals zs ws → Vals (gV vs zs) (g us ws)
def tCallK (sp : Sp) (gV : List V → List V → List V) (E : XK) (t tk : TA) : TE := fun σ H Q => t σ H fun vs H1 => tk σ H1 fun zs H2 => sp (gV vs zs) H2 Q E
variable {g : List Value → List Value → List Value} {gV : List V → List V → List V}
end

structure FnScope (N P : List Str) (sc : Scope) : Prop where
  kind : sc.kind = .function
  co : sc.isCoroutine = false
  gen : sc.isGenerator = false
  nd : N.Nodup
  pre : N.take P.length = P
  par : ∀ x ∈ P, sc.names.lookup x = some .local ∨ sc.names.lookup x = some .cell
  nofree : ∀ y ∈ sc.names, y.2 ≠ .free

theorem bindL_out {kindOf : Str → Option NameKind} {x : Str} : ∀ {binds : List (Str × Value)} {m : Str → Option Value}, (∀ v, (x, v) ∉ binds) → bindL kindOf binds m x = m x
  | [], _, _ => rfl
  | (n, v) :: r, m, h => by
    unfold bindL
    rw [bindL_out fun w hw => h w (List.mem_cons_of_mem _ hw)]
    split
    · have : x ≠ n := by rintro rfl; exact h v List.mem_cons_self
      simp [this]
    · rfl
theorem bindC_out {kindOf : Str → Option NameKind} {x : Str} : ∀ {binds : List (Str × Value)} {m : Str → Option Value}, (∀ v, (x, v) ∉ binds) → bindC kindOf binds m x = m x
  | [], _, _ => rfl
  | (n, v) :: r, m, h => by
    unfold bindC
    rw [bindC_out fun w hw => h w (List.mem_cons_of_mem _ hw)]
    split
    · rfl
    · have : x ≠ n := by rintro rfl; exact h v List.mem_cons_self
      simp [this]
theorem bindL_get {kindOf : Str → Option NameKind} {x : Str} {v : Value} : ∀ {P : List Str} {vs : List Value} {i : Nat} {m : Str → Option Value}, P.Nodup → P[i]? = some x → vs[i]? = some v → kindOf x = some .local →
    bindL kindOf (P.zip vs) m x = some v
  | [], _, _, _, _, h, _, _ => by simp at h
  | _ :: _, [], _, _, _, _, h, _ => by simp at h
  | p :: P, w :: vs, 0, m, nd, h1, h2, hk => by
    simp at h1 h2; subst h1; subst h2
    show bindL kindOf ((p, w) :: P.zip vs) m p = _
    unfold bindL
    rw [bindL_out fun v hv => (List.nodup_cons.mp nd).1 (List.of_mem_zip hv).1, if_pos hk]
    simp
  | p :: P, w :: vs, i + 1, m, nd, h1, h2, hk => by
    show bindL kindOf ((p, w) :: P.zip vs) m x = _
    unfold bindL
    exact bindL_get (i := i) (List.nodup_cons.mp nd).2 (by simpa using h1) (by simpa using h2) hk
theorem bindC_get {kindOf : Str → Option NameKind} {x : Str} {v : Value} : ∀ {P : List Str} {vs : List Value} {i : Nat} {m : Str → Option Value}, P.Nodup → P[i]? = some x → vs[i]? = some v → kindOf x ≠ some .local →
    bindC kindOf (P.zip vs) m x = some v
  | [], _, _, _, _, h, _, _ => by simp at h
  | _ :: _, [], _, _, _, _, h, _ => by simp at h
  | p :: P, w :: vs, 0, m, nd, h1, h2, hk => by
    simp at h1 h2; subst h1; subst h2
    show bindC kindOf ((p, w) :: P.zip vs) m p = _
    unfold bindC
    rw [bindC_out fun v hv => (List.nodup_cons.mp nd).1 (List.of_mem_zip hv).1, if_neg hk]
    simp
  | p :: P, w :: vs, i + 1, m, nd, h1, h2, hk => by
    show bindC kindOf ((p, w) :: P.zip vs) m x = _
    unfold bindC
    exact bindC_get (i := i) (List.nodup_cons.mp nd).2 (by simpa using h1) (by simpa using h2) hk

def start (N : List Str) (vs : List V) : St := vs.map some ++ List.replicate (N.length - vs.length) none

def cxOf (CX : CXT) (P : Program) (w : World) (K : PySem.W.Frag) (mg : Str → Option Value) (base : Heap) (N : List Str) (qual : Str) (scope : Scope) (f : Addr) (cd : Value) (A : Around) (outer : List Env) (s : Shared) (H : Hp) (E : XK) : Cx where
  prog := P
  w := w
  K := K
  mg := mg
  base := base
  A := A.deeper (envOfC qual scope s.heap.objs.size f cd)
  N := N
  s₀ := s
  H₀ := H
  env := envOfC qual scope s.heap.objs.size f cd
  outer := outer
  stack := envOfC qual scope s.heap.objs.size f cd :: outer
  ex := []
  calm := true
  fn := fun _ => true
  pn := []
  xe := fun e s' => wpAny (model P w) (A.deeper (envOfC qual scope s.heap.objs.size f cd)) (leaving (envOfC qual scope s.heap.objs.size f cd) e) (fun _ s'' => CX outer H s E e s'') (fun e' s'' => CX outer H s E e' s'') s'

theorem cell_has {sc : Scope} {n : Nat} {x : Str} (h : sc.names.lookup x = some .cell) : ∃ c, (cellsFrom n sc.names []).lookup x = some c := by
  have q := PySem.W.cellsFrom_some sc.names n [] (.inl h)
  exact Option.isSome_iff_exists.mp q

theorem inv_start {CX : CXT} {P : Program} {w : World} {K : PySem.W.Frag} {mg : Str → Option Value} {base : Heap} {N ps : List Str} {qual : Str} {scope : Scope} {f : Addr} {cd : Value} {A : Around} {outer : List Env} {s s1 : Shared} {H : Hp} {E : XK} {us : List Value} {vs : List V}
    (S : FnScope N ps scope) (hd : A.handled = none) (e0 : Env0 P w K mg base A outer s H) (hl : vs.length = ps.length) (r : Vals vs us)
    (x : InCallC s s.heap.objs.size (bindL (envOfC qual scope s.heap.objs.size f cd).kindOf (ps.zip us) fun _ => none) (cellsFrom (s.heap.objs.size + 1) scope.names []) (bindC (envOfC qual scope s.heap.objs.size f cd).kindOf (ps.zip us) fun _ => none) s1) :
    Inv (cxOf CX P w K mg base N qual scope f cd A outer s H E) [] (start N vs) H s1 := by
  have hpl : ps.length ≤ N.length := by have := congrArg List.length S.pre; rw [List.length_take] at this; omega
  obtain ⟨h1, tk, rfl, hk⟩ := x.done
  have noA : ∀ b : Addr, b ∉ (cxOf CX P w K mg base N qual scope f cd A outer s H E).ex := fun b z => absurd (show b ∈ ([] : List Addr) from z) (by simp)
  refine ⟨⟨e0.mod, S.kind, rfl, rfl, Nat.le_refl _, fun y z c h1 h2 => ?_, fun y hy => ?_, fun y c _ h => ?_, fun _ => hd, Around.frames_deeper e0.frames, .inr ⟨rfl, rfl⟩, fun b z => absurd z (noA b), e0.bs, e0.bsz, fun b _ _ => noA b, fun b z => absurd z (noA b), e0.funs, e0.frf⟩,
    rfl, e0.bare, Un.kept hk, ⟨_, x.toInCall.ns, fun i y v h1 h2 h3 => ?_⟩, fun y c h => ⟨_, x.cell y c h⟩, e0.hok.fresh (Nat.le_refl _), fun y c h => ?_, fun p hp => absurd (show p ∈ ([] : List (Addr × Obj)) from hp) (by simp), e0.hok.kept hk, ?_⟩
  · exact name_of_addr x.apart (PySem.mem_of_lookup h1) (PySem.mem_of_lookup h2)
  · have hy : scope.names.lookup y = some .cell ∨ scope.names.lookup y = some .free := hy
    rcases hy with hy | hy
    · exact cell_has hy
    · exact absurd rfl (S.nofree _ (PySem.mem_of_lookup hy))
  · exact Nat.le_of_lt (x.above y c (PySem.mem_of_lookup h))
  · have hi : i < vs.length := by
      unfold start at h2
      by_cases hi : i < vs.length
      · exact hi
      · rw [List.getElem?_append_right (by simpa using hi)] at h2
        rw [List.getElem?_replicate] at h2
        split at h2 <;> cases h2
    have ha : vs[i]? = some v := by
      unfold start at h2
      rw [List.getElem?_append_left (by simpa using hi), List.getElem?_map] at h2
      cases e : vs[i]? with
      | none => rw [e] at h2; cases h2
      | some a => rw [e] at h2; cases h2; rfl
    obtain ⟨u, hu, rv⟩ := r.get ha
    have hp : ps[i]? = some y := by
      rw [← S.pre, List.getElem?_take_of_lt (by omega)]; exact h1
    have ndP : ps.Nodup := by rw [← S.pre]; exact S.nd.sublist (List.take_sublist _ _)
    refine ⟨u, rv, ?_⟩
    rcases S.par y (List.mem_of_getElem? hp) with k | k
    · exact .inl ⟨k, bindL_get ndP hp hu k⟩
    · obtain ⟨c, e⟩ := cell_has (n := s.heap.objs.size + 1) k
      refine .inr ⟨.inl k, c, e, ?_⟩
      have q := x.cell y c e
      rw [bindC_get ndP hp hu (by show scope.names.lookup y ≠ _; rw [k]; decide)] at q
      exact q
  · exact e0.hok.fresh (Nat.le_of_lt (x.above y c (PySem.mem_of_lookup h)))
  · unfold start
    show _ = N.length
    rw [List.length_append, List.length_map, List.length_replicate]
    omega

theorem fn_of {CX : CXT} {P : Program} {w : World} {K : PySem.W.Frag} {mg : Str → Option Value} {base : Heap} {k : Nat} {f : Addr} {name qual : Str} {params : Arguments} {body : List Stmt} {scope : Scope} {dV kV doc pm cdv ct oc : Value} {an od : Option Addr}
    {osl : Array (Option Value)} {N ps : List Str} {sp : Sp} (lk : K.lookup f = some ⟨oc, od, .func (PySem.W.fnOf name qual params body scope dV kV doc pm an cdv ct), osl⟩) (hcd : PySem.W.codeIn K cdv qual = true) (S : FnScope N ps scope)
    (len : ∀ vs H Q E, sp vs H Q E → vs.length = ps.length)
    (hbody : ∀ (A : Around) (outer : List Env) (s : Shared) (H : Hp) (vs : List V) (Q : VK) (E : XK), Room k (A.deeper (envOfC qual scope s.heap.objs.size f cdv)) → sp vs H Q E →
      ∃ t, PSs (cxOf CX P w K mg base N qual scope f cdv A outer s H E) body t ∧ t { nx := fun _ H' => Q .non H', rt := Q } (start N vs) H) :
    FnOk P w K mg base CX (k + 1) f (PySem.W.fnOf name qual params body scope dV kV doc pm an cdv ct) ps sp := by
  refine ⟨len, fun A outer s H args us vs Q E hr e0 hb r hsp => ?_⟩
  have hl := len _ _ _ _ hsp
  have KX : K.In s.heap := e0.mod.kin.keeps fun b o e => (e0.bs b o e).1
  have lim : s.heap.NoLimit := e0.mod.nolimit.keeps fun b o e => (e0.bs b o e).1
  have hkind : ∀ y ∈ ps.zip us, scope.names.lookup y.1 = some .local ∨ (scope.names.lookup y.1 = some .cell ∧ ((cellsFrom (s.heap.objs.size + 1) scope.names []).lookup y.1).isSome = true) := fun ⟨n, v⟩ hy => by
    rcases S.par n (List.of_mem_zip hy).1 with q | q
    · exact .inl q
    · exact .inr ⟨q, PySem.W.cellsFrom_some _ _ _ (.inl q)⟩
  refine codeAny_call_function hr.depth (KX _ _ lk) rfl S.co S.gen rfl (PySem.W.codeRec_of KX hcd) (hb _ _ _ _ ?_)
  refine wpAny_newFunctionEnv_cells S.kind hkind fun env he s1 x => ?_
  subst he
  refine ⟨lim.keeps x.toInCall.keep, codeAny_func ?_⟩
  obtain ⟨t, ht, hq⟩ := hbody A outer s H vs Q E (hr.deeper _) hsp
  have I : Inv (cxOf CX P w K mg base N qual scope f cdv A outer s H E) [] (start N vs) H s1 := inv_start S hr.hd e0 hl r x
  refine wpAny_mono (ht [] s1 (start N vs) H _ I hq) (fun fl s' hs => ?_) fun e s' hs => hs
  have fin : ∀ {σ' : St} {H' : Hp} {v : V} {u : Value}, Inv (cxOf CX P w K mg base N qual scope f cdv A outer s H E) [] σ' H' s' → RelV v u → Q v H' → CE outer P w H s Q u s' :=
    fun {σ' H' v u} J rv q => ⟨v, H', J.os, J.bare, J.base, J.hok, rv, q⟩
  cases fl with
  | ret u =>
    obtain ⟨v, σ', H', J, rv, q⟩ := hs
    exact fin J rv q
  | next =>
    obtain ⟨σ', H', J, q⟩ := hs
    exact fin (v := V.non) (u := Value.none) J rfl q
  | brk =>
    obtain ⟨_, _, _, q⟩ := hs
    exact False.elim q
  | cont =>
    obtain ⟨_, _, _, q⟩ := hs
    exact False.elim q
end L2

namespace L2
open PySem PySem.Spec PyProof.Rows
section
variable {X : Cx} {x : Str} {p pos : Pos} {e : Expr} {es : List Expr} {t : TA} {id T : String} {r : List V → Hp → VK → Prop}

def tCB (r : List V → Hp → VK → Prop) (t : TA) : TE := fun σ H Q => t σ H fun vs H1 => r vs H1 Q
theorem pe_callB (hc : CallR X (.builtin id) r) (hg : Gl X x) (hm : X.mg x = none) (hv : bootBuiltins x = some (.builtin id)) (ha : PA X (e :: es) t) (hn : x ≠ "__name__" := by decide) (hdb : (x == ("__debug__" : Str)) = false := by decide)
    (he : starEach (e :: es) X.env = (false, eval e X.env) :: starEach es X.env := by rfl) (hpl : (backTo pos (starEach es X.env)).any (·.1) = false := by rfl) : PE X (.Call (.Name x p) (e :: es) [] pos) (tCB r t) := by
  intro pins s σ H Q I h
  refine wpAny_Call_Name_kw (ld_blt I hg hm hv ?_ hn hdb)
  exact PyProof.Rows.callWith_builtin1 (thn (ha pos pins s σ H _ I h) fun us s1 ⟨vs, H1, I1, r1, q1⟩ => hc pins s1 σ H1 vs us Q I1 r1 q1) he hpl
theorem pe_callTy (hc : CallR X (.type T) r) (hg : Gl X x) (hm : X.mg x = none) (hv : bootBuiltins x = some (.type T)) (ha : PA X (e :: es) t) (hn : x ≠ "__name__" := by decide) (hdb : (x == ("__debug__" : Str)) = false := by decide)
    (he : starEach (e :: es) X.env = (false, eval e X.env) :: starEach es X.env := by rfl) (hpl : (backTo pos (starEach es X.env)).any (·.1) = false := by rfl) : PE X (.Call (.Name x p) (e :: es) [] pos) (tCB r t) := by
  intro pins s σ H Q I h
  refine wpAny_Call_Name_kw (ld_blt I hg hm hv ?_ hn hdb)
  exact PyProof.Rows.callWith_type1 (thn (ha pos pins s σ H _ I h) fun us s1 ⟨vs, H1, I1, r1, q1⟩ => hc pins s1 σ H1 vs us Q I1 r1 q1) he hpl
end
end L2

namespace HT
open PySem PyProof.Rows

def lexLt : List Int → List Int → Bool
  | [], [] => false
  | [], _ :: _ => true
  | _ :: _, [] => false
  | x :: xs, y :: ys => if x = y then lexLt xs ys else decide (x < y)
section
open PySem.SeqAt
open PySem.AutoSeq1 (wpAny_loadPart')
open PySem.MeetsSeq PySem.MeetsSeq2 PySem.MeetsSeq3

end

section
variable {prog : Program} {w : World} {A : Around} {E : Value → Shared → Prop} {s : Shared}

def sIx (n d : Nat) : Option Int → Nat
  | none => d
  | some v => if v < 0 then (v + (n : Int)).toNat else min v.toNat n
theorem sIx_none (n d : Nat) : sIx n d none = d := rfl
theorem sIx_nat (n d k : Nat) : sIx n d (some (k : Int)) = min k n := by
  show (if (k : Int) < 0 then ((k : Int) + (n : Int)).toNat else min (k : Int).toNat n) = min k n
  rw [if_neg (by omega), Int.toNat_natCast]
end
end HT

namespace L2
open PySem PySem.Spec PyProof.Rows

abbrev TO := St → Hp → (Option Int → Hp → Prop) → Prop
def PO (X : Cx) (e : Option Expr) (t : TO) : Prop :=
  ∀ (pins : List (Addr × Obj)) (s : Shared) (σ : St) (H : Hp) (Q : Option Int → Hp → Prop), Inv X pins σ H s → t σ H Q →
    wpAny (model X.prog X.w) X.A (evalPart e X.env) (fun u s' => ∃ o H', Inv X pins σ H' s' ∧ IsPart u o ∧ Q o H') X.xe s
def tNoPart : TO := fun _ H Q => Q none H
def tPart (t : TE) : TO := fun σ H Q => t σ H fun x H1 => ∃ i, x = .int i ∧ Q (some i) H1

theorem intsAre_of {ns : List Int} : ∀ {us : List Value}, Vals (ns.map V.int) us → IntsAre us ns := by
  induction ns with
  | nil => intro us r; rw [List.map_nil] at r; cases r; exact .nil
  | cons n ns ih =>
    intro us r
    rw [List.map_cons] at r
    cases r with
    | cons r1 r2 =>
      obtain ⟨t, e⟩ := r1
      subst e
      exact .cons n t (ih r2)

section
variable {X : Cx} {e : Expr} {te : TE} {lo hi : Option Expr} {tl th : TO} {pos p2 : Pos}

theorem po_none : PO X none tNoPart := by
  intro pins s σ H Q I h
  rw [evalPart_none]
  exact wpAny_pure ⟨none, H, I, .none, h⟩
theorem po_some (h : PE X e te) : PO X (some e) (tPart te) := by
  intro pins s σ H Q I hw
  rw [evalPart_some]
  refine thn (h pins s σ H _ I hw) fun u s1 ⟨x, H1, I1, r1, q1⟩ => ?_
  obtain ⟨i, rfl, q⟩ := q1
  obtain ⟨t, rfl⟩ := r1
  exact ⟨some i, H1, I1, .int i t, q⟩

def SlR (X : Cx) (r : V → Option Int → Option Int → Hp → VK → Prop) : Prop :=
  ∀ (pins : List (Addr × Obj)) (s : Shared) (σ : St) (H : Hp) (x : V) (v vl vu : Value) (lo hi : Option Int) (sl : Addr) (Q : VK), Inv X pins σ H s → RelV x v → s.heap.IsSliceOf sl vl vu .none → IsPart vl lo → IsPart vu hi → r x lo hi H Q →
    ∃ T id, typeLookup (.type T) "__getitem__" = pure (some (.builtin id)) ∧ s.TypeIs v T ∧ wpAny (model X.prog X.w) X.A (getItem v (.ref sl)) (EP X pins σ Q) X.xe s
theorem SlR.or {r r' : V → Option Int → Option Int → Hp → VK → Prop} (h : SlR X r) (h' : SlR X r') : SlR X (fun x lo hi H Q => r x lo hi H Q ∨ r' x lo hi H Q) := by
  intro pins s σ H x v vl vu lo hi sl Q I rx hs pl pu q
  rcases q with q | q
  · exact h pins s σ H x v vl vu lo hi sl Q I rx hs pl pu q
  · exact h' pins s σ H x v vl vu lo hi sl Q I rx hs pl pu q
def tSl (r : V → Option Int → Option Int → Hp → VK → Prop) (te : TE) (tl th : TO) : TE := fun σ H Q => te σ H fun x H1 => tl σ H1 fun l H2 => th σ H2 fun u H3 => r x l u H3 Q
theorem pe_slice {r : V → Option Int → Option Int → Hp → VK → Prop} (hr : SlR X r) (he : PE X e te) (hl : PO X lo tl) (hu : PO X hi th) : PE X (.Subscript e (.Slice lo hi none p2) pos) (tSl r te tl th) := by
  intro pins s σ H Q I h
  refine Subscript_ (thn (he pins s σ H _ I h) fun v s1 ⟨x, H1, I1, r1, q1⟩ => ?_)
  refine wpAny_Slice (thn (hl pins s1 σ H1 _ I1 q1) fun vl s2 ⟨l, H2, I2, pl, q2⟩ => thn (hu pins s2 σ H2 _ I2 q2) fun vu s3 ⟨u, H3, I3, pu, q3⟩ => ?_)
  rw [evalPart_none]
  refine wpAny_pure ?_
  have I4 : Inv X pins σ H3 { s3 with heap := s3.heap.push { cls := .type "slice", data := .fields #[vl, vu, .none] } } := I3.kept (t' := s3.toks) fun b ob q => Heap.get?_push_of_some _ q
  obtain ⟨T, id, hT, ht, hg⟩ := hr pins { s3 with heap := s3.heap.push { cls := .type "slice", data := .fields #[vl, vu, .none] } } σ H3 x v vl vu l u s3.heap.objs.size Q I4 r1 (Heap.IsSliceOf.new ..) pl pu q3
  show wpAny (model X.prog X.w) X.A (subscriptTail e (.Slice lo hi none p2) v (.ref s3.heap.objs.size)) (EP X pins σ Q) X.xe { s3 with heap := s3.heap.push { cls := .type "slice", data := .fields #[vl, vu, .none] } }
  exact tail_any (ops := [.ref s3.heap.objs.size, v]) ht hT hg (by with_unfolding_all rfl)

def cutV (xs : List V) (lo hi : Option Int) : List V := (xs.drop (HT.sIx xs.length 0 lo)).take (HT.sIx xs.length xs.length hi - HT.sIx xs.length 0 lo)
theorem cutV_length (xs : List V) (lo hi : Option Int) : (cutV xs lo hi).length ≤ xs.length := by
  unfold cutV
  rw [List.length_take, List.length_drop]
  omega
def rSlT (K : PySem.W.Frag) : V → Option Int → Option Int → Hp → VK → Prop := fun x lo hi H Q => ∃ a xs, x = .ref a ∧ SqT K H a xs ∧
  ¬ (HT.sIx xs.length 0 lo = 0 ∧ HT.sIx xs.length xs.length hi = xs.length) ∧ ∀ p, H p = none → Q (.ref p) (upd H p (.tup (cutV xs lo hi)))
def rLtT (K : PySem.W.Frag) : R2 := fun x y H Q => ∃ a b ns ms, x = .ref a ∧ y = .ref b ∧ SqT K H a (ns.map V.int) ∧ SqT K H b (ms.map V.int) ∧ Q (.bl (HT.lexLt ns ms)) H
def rCatT (K : PySem.W.Frag) : R2 := fun x y H Q => ∃ a b xs ys, x = .ref a ∧ y = .ref b ∧ SqT K H a xs ∧ SqT K H b ys ∧ xs ≠ [] ∧ xs.length + ys.length ≤ sizeLine ∧
  (ys = [] → Q (.ref a) H) ∧ (ys ≠ [] → ∀ p, H p = none → Q (.ref p) (upd H p (.tup (xs ++ ys))))
end
end L2

namespace L2
open PySem PySem.Spec PyProof.Rows

def ixN (n : Nat) (i : Int) : Option Nat := if 0 ≤ i then (if i < n then some i.toNat else none) else if -(n : Int) ≤ i then some (i + n).toNat else none
def atI {α : Type} (xs : List α) (i : Int) : Option α := (ixN xs.length i).bind fun j => xs[j]?
theorem ixN_seq {n : Nat} {i : Int} {j : Nat} (h : ixN n i = some j) : seqIndex? i n = some j ∧ j < n ∧ -(n : Int) ≤ i ∧ i < n := by
  unfold ixN at h
  by_cases h0 : 0 ≤ i
  · rw [if_pos h0] at h
    by_cases h1 : i < n
    · rw [if_pos h1] at h
      have e : i.toNat = j := Option.some.inj h
      exact ⟨by rw [seqIndex_of h0 h1, e], by omega, by omega, h1⟩
    · rw [if_neg h1] at h; cases h
  · rw [if_neg h0] at h
    by_cases h1 : -(n : Int) ≤ i
    · rw [if_pos h1] at h
      have e : (i + n).toNat = j := Option.some.inj h
      exact ⟨by rw [seqIndex_neg (by omega) h1, e], by omega, h1, by omega⟩
    · rw [if_neg h1] at h; cases h
theorem atI_get {α : Type} {xs : List α} {i : Int} {v : α} (h : atI xs i = some v) : ∃ j, seqIndex? i xs.length = some j ∧ xs[j]? = some v ∧ j < xs.length ∧ -(xs.length : Int) ≤ i ∧ i < xs.length := by
  unfold atI at h
  cases e : ixN xs.length i with
  | none => rw [e] at h; cases h
  | some j =>
    rw [e] at h
    obtain ⟨h1, h2, h3, h4⟩ := ixN_seq e
    exact ⟨j, h1, h, h2, h3, h4⟩
theorem atI_nat {α : Type} {xs : List α} {j : Nat} {v : α} (h : xs[j]? = some v) : atI xs (j : Int) = some v := by
  have hj : j < xs.length := (List.getElem?_eq_some_iff.mp h).1
  have e : ixN xs.length (j : Int) = some j := by
    unfold ixN
    rw [if_pos (by omega), if_pos (by omega)]; simp
  unfold atI; rw [e]; exact h
def PlainIx (b : Expr) : Prop := ∀ o i, subscripted b false o i = operate [o, i] (getItem o i)
def IxR (X : Cx) (r : R2) : Prop :=
  ∀ (value slice : Expr) (pins : List (Addr × Obj)) (s : Shared) (σ : St) (H : Hp) (x y : V) (v u : Value) (Q : VK), Inv X pins σ H s → RelV x v → RelV y u → r x y H Q →
    subscripted slice false v u = operate [v, u] (getItem v u) → wpAny (model X.prog X.w) X.A (subscriptTail value slice v u) (EP X pins σ Q) X.xe s
def MtR (X : Cx) (id : String) (r : V → List V → Hp → VK → Prop) : Prop :=
  ∀ (pins : List (Addr × Obj)) (s : Shared) (σ : St) (H : Hp) (x : V) (xs : List V) (v : Value) (us : List Value) (Q : VK), Inv X pins σ H s → RelV x v → Vals xs us → r x xs H Q →
    wpAny (model X.prog X.w) X.A (call (.builtin id) (v :: us)) (EP X pins σ Q) X.xe s
section
variable {X : Cx} {a b : Expr} {ta tb : TE} {pos : Pos}
theorem IxR.or {r r' : R2} (h : IxR X r) (h' : IxR X r') : IxR X (fun x y H Q => r x y H Q ∨ r' x y H Q) := by
  intro value slice pins s σ H x y v u Q I rx ry q hs
  rcases q with q | q
  · exact h value slice pins s σ H x y v u Q I rx ry q hs
  · exact h' value slice pins s σ H x y v u Q I rx ry q hs
theorem MtR.or {id : String} {r r' : V → List V → Hp → VK → Prop} (h : MtR X id r) (h' : MtR X id r') : MtR X id (fun x xs H Q => r x xs H Q ∨ r' x xs H Q) := by
  intro pins s σ H x xs v us Q I rx rs q
  rcases q with q | q
  · exact h pins s σ H x xs v us Q I rx rs q
  · exact h' pins s σ H x xs v us Q I rx rs q
theorem pe_ix {r : R2} (hr : IxR X r) (ha : PE X a ta) (hb : PE X b tb) (hs : PlainIx b) : PE X (.Subscript a b pos) (tOp r ta tb) := by
  intro pins s σ H Q I h
  exact Subscript_ (binT ha hb I h fun v u s2 x y H2 I2 rx ry q => hr a b pins s2 σ H2 x y v u Q I2 rx ry q (hs _ _))

def rIxL (K : PySem.W.Frag) : R2 := fun x y H Q => ∃ p xs i v, x = .ref p ∧ y = .int i ∧ SqL K H p xs ∧ atI xs i = some v ∧ Q v H
def rIxT (K : PySem.W.Frag) : R2 := fun x y H Q => ∃ p xs i v, x = .ref p ∧ y = .int i ∧ SqT K H p xs ∧ atI xs i = some v ∧ Q v H
def rIxS : R2 := fun x y H Q => ∃ z i c, x = .str z ∧ y = .int i ∧ z.length ≤ sizeLine ∧ atI z.cps.toList i = some c ∧ Q (.str ⟨#[c]⟩) H
theorem ix_list : IxR X (rIxL X.K) := by
  intro value slice pins s σ H x y v u Q I rx ry h hs
  obtain ⟨p, xs, i, z, rfl, rfl, hq, he, q⟩ := h
  cases rx
  obtain ⟨t, rfl⟩ := ry
  obtain ⟨its, r, pl, hz⟩ := I.list hq
  obtain ⟨j, h1, h2, h3, h4, h5⟩ := atI_get he
  obtain ⟨w, ew, rw'⟩ := r.get h2
  have hl := r.length
  have hn := line63
  have fin : EP X pins σ Q w s := ⟨z, H, I, rw', q⟩
  by_cases h0 : 0 ≤ i
  · have hj : i.toNat = j := by
      rw [seqIndex_of h0 h5] at h1
      exact Option.some.inj h1
    exact item_listR pl.isList h0 (by omega) (by rw [hj]; simpa using ew) fin hs
  · have hj : (i + (its.toArray.size : Int)).toNat = j := by
      rw [seqIndex_neg (by omega) h4] at h1
      rw [List.size_toArray, ← hl]
      exact Option.some.inj h1
    exact subscriptTail_builtinR (x := w) pl.isList.typeIs slot_list_getitem.lookup
      (wpAny_getItem_list_neg (Q := fun r s' => r = w ∧ EP X pins σ Q r s') pl.isList (by omega) (by rw [List.size_toArray] <;> omega) (by omega) (by rw [hj]; simpa using ew) ⟨rfl, fin⟩) hs
theorem ix_tup : IxR X (rIxT X.K) := by
  intro value slice pins s σ H x y v u Q I rx ry h hs
  obtain ⟨p, xs, i, z, rfl, rfl, hq, he, q⟩ := h
  cases rx
  obtain ⟨t, rfl⟩ := ry
  obtain ⟨its, r, pl, hz⟩ := I.tuple hq
  obtain ⟨j, h1, h2, h3, h4, h5⟩ := atI_get he
  obtain ⟨w, ew, rw'⟩ := r.get h2
  have hl := r.length
  have hn := line63
  have fin : EP X pins σ Q w s := ⟨z, H, I, rw', q⟩
  exact subscriptTail_builtinR (x := w) pl.typeIs slot_tuple_getitem.lookup
    (getItem_tuple (j := j) (Q := fun r s' => r = w ∧ EP X pins σ Q r s') pl (by omega) (by omega) (by rw [List.size_toArray, ← hl]; exact h1) (by simpa using ew) ⟨rfl, fin⟩) hs
theorem ix_str : IxR X rIxS := by
  intro value slice pins s σ H x y v u Q I rx ry h hs
  obtain ⟨z, i, c, rfl, rfl, hz, he, q⟩ := h
  obtain ⟨t, rfl⟩ := rx
  obtain ⟨t', rfl⟩ := ry
  obtain ⟨j, h1, h2, h3, h4, h5⟩ := atI_get he
  have hl : z.cps.toList.length = z.length := by simp [Str.length]
  rw [hl] at h1 h4 h5
  have hn := line63
  exact tail_any (typeIs_str s z t) slot_str_getitem.lookup (getItem_str (c := c) (by
    have e1 : decide (i < -(2 ^ 63 : Int)) = false := decide_eq_false (by omega)
    have e2 : decide (i ≥ 2 ^ 63) = false := decide_eq_false (by omega)
    rw [e1, e2, Bool.or_false]) (by rw [h1]; simpa using h2) ⟨.str ⟨#[c]⟩, H, I.tok _, ⟨_, rfl⟩, q⟩) hs
def rIx (K : PySem.W.Frag) : R2 := fun x y H Q => rIxL K x y H Q ∨ rIxT K x y H Q ∨ rIxS x y H Q
theorem ix_seq : IxR X (rIx X.K) := ix_list.or (ix_tup.or ix_str)

theorem mapSeq_set (its : List Value) (n j : Nat) (u : Value) : Obj.mapSeq (·.setIfInBounds j u) { cls := .type "list", data := .seq its.toArray n } = { cls := .type "list", data := .seq (its.set j u).toArray n } := by
  simp [Obj.mapSeq]
theorem Inv.lst {pins : List (Addr × Obj)} {σ : St} {H : Hp} {s : Shared} {p : Addr} {xs : List V} (I : Inv X pins σ H s) (h : H p = some (.lst xs)) :
    ∃ (its : List Value) (n : Nat), Vals xs its ∧ s.heap.get? p = some { cls := .type "list", data := .seq its.toArray n } ∧ xs.length ≤ sizeLine := by
  obtain ⟨z, its, n, r, e⟩ := I.hok p _ h
  exact ⟨its, n, r, e, z⟩
theorem Inv.lstUpd {pins : List (Addr × Obj)} {σ : St} {H : Hp} {s : Shared} {p : Addr} {xs ys : List V} {its its' : List Value} {n n' : Nat} {f : Obj → Obj} (I : Inv X pins σ H s) (h : H p = some (.lst xs))
    (ho : s.heap.get? p = some { cls := .type "list", data := .seq its.toArray n }) (hf : f { cls := .type "list", data := .seq its.toArray n } = { cls := .type "list", data := .seq its'.toArray n' }) (r : Vals ys its') (hz : ys.length ≤ sizeLine) (t : Nat) :
    Inv X pins σ (upd H p (.lst ys)) { s with heap := s.heap.update p f, toks := t } := by
  have e : (s.heap.update p f).get? p = some { cls := .type "list", data := .seq its'.toArray n' } := by
    rw [Heap.get?_update_self f ho (by rw [hf] <;> rfl), hf]
  refine I.write (x := p) (e := p) (by rw [h]; trivial) (.inl rfl) (fun b u hb q => (Heap.get?_update_other _ _ (Ne.symm hb)).trans q) ⟨_, e⟩ ?_
  exact ⟨hz, its', n', r, e⟩
def rSetL : V → V → V → Hp → (Hp → Prop) → Prop := fun o i v H Q => ∃ p xs k j, o = .ref p ∧ i = .int k ∧ H p = some (.lst xs) ∧ ixN xs.length k = some j ∧ Q (upd H p (.lst (xs.set j v)))
theorem set_list : PSet X rSetL := by
  intro pins s σ H o i v ov iv u Q I ro ri rv h
  obtain ⟨p, xs, k, j, rfl, rfl, hp, hj, q⟩ := h
  cases ro
  obtain ⟨t, rfl⟩ := ri
  obtain ⟨its, n, r, ho, hz⟩ := I.lst hp
  obtain ⟨h1, h2, h3, h4⟩ := ixN_seq hj
  have hl := r.length
  have hn := line63
  have I' : Inv X pins σ (upd H p (.lst (xs.set j v))) { s with heap := s.heap.update p (Obj.mapSeq (·.setIfInBounds j u)) } :=
    I.lstUpd hp ho (mapSeq_set its n j u) (r.set rv j) (by rw [List.length_set]; exact hz) s.toks
  by_cases h0 : 0 ≤ k
  · have hk : k.toNat = j := by
      rw [seqIndex_of h0 h4] at h1
      exact Option.some.inj h1
    exact PySem.W.ki_setAt ho h0 (by omega) (by rw [List.size_toArray, ← hl]; exact h4) (by rw [hk]; exact ⟨_, I', q⟩)
  · have hk : (k + (its.toArray.size : Int)).toNat = j := by
      rw [seqIndex_neg (by omega) h3] at h1
      rw [List.size_toArray, ← hl]
      exact Option.some.inj h1
    exact PySem.W.ki_setBack ho (by omega) (by rw [List.size_toArray, ← hl]; exact h3) (by omega) (by rw [hk]; exact ⟨_, I', q⟩)

theorem slice_bounds (lo hi : Option Int) (n : Nat) : (sliceBounds lo hi none n).1 = ((HT.sIx n 0 lo : Nat) : Int) ∧ (sliceBounds lo hi none n).2.1 = ((HT.sIx n n hi : Nat) : Int) ∧ (sliceBounds lo hi none n).2.2 = 1 := by
  refine ⟨?_, ?_, rfl⟩
  · cases lo with
    | none => simp [sliceBounds, HT.sIx]
    | some i =>
      simp only [sliceBounds, HT.sIx, Option.getD_none, show (1 : Int) > 0 by decide, if_true]
      by_cases h : i < 0
      · simp only [h, if_true] <;> omega
      · simp only [h, if_false] <;> omega
  · cases hi with
    | none => simp [sliceBounds, HT.sIx]
    | some i =>
      simp only [sliceBounds, HT.sIx, Option.getD_none, show (1 : Int) > 0 by decide, if_true]
      by_cases h : i < 0
      · simp only [h, if_true] <;> omega
      · simp only [h, if_false] <;> omega
theorem slicePick_cut (its : List Value) (lo hi : Option Int) : slicePick its.toArray lo hi none = ((its.drop (HT.sIx its.length 0 lo)).take (HT.sIx its.length its.length hi - HT.sIx its.length 0 lo)).toArray := by
  obtain ⟨h1, h2, h3⟩ := slice_bounds lo hi its.toArray.size
  unfold slicePick
  rw [h1, h2, h3]
  simp only [sliceRange_one, pick_run, List.size_toArray] <;> rfl
def rSlL (K : PySem.W.Frag) : V → Option Int → Option Int → Hp → VK → Prop := fun x lo hi H Q => ∃ a xs, x = .ref a ∧ SqL K H a xs ∧ ∀ p, H p = none → Q (.ref p) (upd H p (.lst (cutV xs lo hi)))
theorem sl_list : SlR X (rSlL X.K) := by
  intro pins s σ H x v vl vu lo hi sl Q I rx hs pl pu h
  obtain ⟨a, xs, rfl, hx, q⟩ := h
  cases rx
  obtain ⟨its, r, ht, hz⟩ := I.list hx
  have hlen := r.length
  refine ⟨"list", _, slot_list_getitem.lookup, ht.isList.typeIs, ?_⟩
  refine wpAny_getItem_list_slice ht.isList hs pl pu .none (by simp) ?_ (by rw [List.size_toArray] <;> omega)
  rw [slicePick_cut, ← hlen]
  refine ⟨.ref s.heap.objs.size, _, I.laid (t' := s.toks) (o := .lst (cutV xs lo hi)) (fun b ob q => Heap.get?_push_of_some _ q) (Nat.le_refl _) ?_, rfl, q _ (I.hok.fresh (Nat.le_refl _))⟩
  exact ⟨Nat.le_trans (cutV_length xs lo hi) hz, _, 0, (r.drop (HT.sIx xs.length 0 lo)).take (HT.sIx xs.length xs.length hi - HT.sIx xs.length 0 lo), Heap.get?_push_size _ rfl⟩

def flatV : V → Bool
  | .non => true
  | .bl _ => true
  | .int _ => true
  | .str _ => true
  | _ => false
def eqV : V → V → Bool
  | .non, .non => true
  | .bl a, .bl b => a == b
  | .bl a, .int b => (if a then 1 else 0) == b
  | .int a, .bl b => a == (if b then 1 else 0)
  | .int a, .int b => a == b
  | .str a, .str b => a == b
  | _, _ => false
theorem eqAt_V {A : Around} {s : Shared} {y x : V} {u v : Value} (ry : RelV y u) (rx : RelV x v) (fy : flatV y = true) (fx : flatV x = true) : SeqAt.EqAt A s u v (eqV y x) := by
  cases y with
  | non =>
    cases ry
    cases x with
    | non => cases rx; exact SeqAt.EqAt.same _
    | bl b => cases rx; exact SeqAt.EqAt.none_bool b
    | int b => obtain ⟨t, rfl⟩ := rx; exact SeqAt.EqAt.none_int b t
    | str b => obtain ⟨t, rfl⟩ := rx; exact SeqAt.EqAt.none_str b t
    | _ => exact absurd (show false = true from fx) Bool.false_ne_true
  | bl a =>
    cases ry
    cases x with
    | non => cases rx; exact SeqAt.EqAt.bool_none a
    | bl b => cases rx; exact SeqAt.EqAt.bool_bool a b
    | int b => obtain ⟨t, rfl⟩ := rx; exact SeqAt.EqAt.bool_int a b t
    | str b => obtain ⟨t, rfl⟩ := rx; exact SeqAt.EqAt.bool_str a b t
    | _ => exact absurd (show false = true from fx) Bool.false_ne_true
  | int a =>
    obtain ⟨t', rfl⟩ := ry
    cases x with
    | non => cases rx; exact SeqAt.EqAt.int_none a t'
    | bl b => cases rx; exact SeqAt.EqAt.int_bool a t' b
    | int b => obtain ⟨t, rfl⟩ := rx; exact SeqAt.EqAt.int_int a t' b t
    | str b => obtain ⟨t, rfl⟩ := rx; exact SeqAt.EqAt.int_str a t' b t
    | _ => exact absurd (show false = true from fx) Bool.false_ne_true
  | str a =>
    obtain ⟨t', rfl⟩ := ry
    cases x with
    | non => cases rx; exact SeqAt.EqAt.str_none a t'
    | bl b => cases rx; exact SeqAt.EqAt.str_bool a t' b
    | int b => obtain ⟨t, rfl⟩ := rx; exact SeqAt.EqAt.str_int a t' b t
    | str b => obtain ⟨t, rfl⟩ := rx; exact SeqAt.EqAt.str_str a t' b t
    | _ => exact absurd (show false = true from fx) Bool.false_ne_true
  | _ => exact absurd (show false = true from fy) Bool.false_ne_true
def eqU (x : V) (u : Value) : Bool := match u with
  | .none => eqV .non x
  | .bool b => eqV (.bl b) x
  | .int i _ => eqV (.int i) x
  | .str z _ => eqV (.str z) x
  | _ => false
theorem eqU_of {x y : V} {u : Value} (r : RelV y u) (f : flatV y = true) : eqU x u = eqV y x := by
  cases y with
  | non => cases r; rfl
  | bl b => cases r; rfl
  | int i => obtain ⟨t, rfl⟩ := r; rfl
  | str z => obtain ⟨t, rfl⟩ := r; rfl
  | _ => exact absurd (show false = true from f) Bool.false_ne_true
theorem any_eqU {x : V} : ∀ {xs : List V} {us : List Value}, Vals xs us → xs.all flatV = true → us.any (eqU x) = xs.any fun y => eqV y x
  | _, _, .nil, _ => rfl
  | y :: xs, u :: us, .cons r t, f => by
    rw [List.all_cons, Bool.and_eq_true] at f
    rw [List.any_cons, List.any_cons, eqU_of r f.1, any_eqU t f.2]
theorem mem_eqAt {A : Around} {s : Shared} {x : V} {v : Value} (rx : RelV x v) (fx : flatV x = true) : ∀ {xs : List V} {us : List Value}, Vals xs us → xs.all flatV = true → ∀ u ∈ us, SeqAt.EqAt A s u v (eqU x u)
  | _, _, .nil, _ => fun u hu => by cases hu
  | y :: xs, u :: us, .cons r t, f => fun u' hu => by
    rw [List.all_cons, Bool.and_eq_true] at f
    rcases List.mem_cons.mp hu with rfl | hu
    · rw [eqU_of r f.1]; exact eqAt_V r rx f.1 fx
    · exact mem_eqAt rx fx t f.2 u' hu
def inV (x : V) (xs : List V) : Bool := xs.any fun y => eqV y x
def rIn (K : PySem.W.Frag) (neg : Bool) : R2 := fun x y H Q => ∃ p xs, y = .ref p ∧ (SqL K H p xs ∨ SqT K H p xs) ∧ flatV x = true ∧ xs.all flatV = true ∧ Q (.bl (if neg then !inV x xs else inV x xs)) H
theorem op_in_seq : OpR X (compareOp .In) (rIn X.K false) := by
  intro pins s σ H x y v u Q I rx ry h
  obtain ⟨p, xs, rfl, hq, fx, fs, q⟩ := h
  cases ry
  rcases hq with hq | hq
  · obtain ⟨its, r, pl, hz⟩ := I.list hq
    refine SeqAt.in_listAt (eqU x) pl.isList (fun w hw => mem_eqAt rx fx r fs w (by simpa using hw)) ⟨.bl _, H, I, rfl, ?_⟩
    rw [show its.toArray.any (eqU x) = its.any (eqU x) by simp, any_eqU r fs]
    exact q
  · obtain ⟨its, r, pl, hz⟩ := I.tuple hq
    refine SeqAt.in_tupleAt (eqU x) pl (fun w hw => mem_eqAt rx fx r fs w (by simpa using hw)) ⟨.bl _, H, I, rfl, ?_⟩
    rw [show its.toArray.any (eqU x) = its.any (eqU x) by simp, any_eqU r fs]
    exact q
theorem op_notIn_seq : OpR X (compareOp .NotIn) (rIn X.K true) := by
  intro pins s σ H x y v u Q I rx ry h
  obtain ⟨p, xs, rfl, hq, fx, fs, q⟩ := h
  cases ry
  rcases hq with hq | hq
  · obtain ⟨its, r, pl, hz⟩ := I.list hq
    refine SeqAt.notIn_listAt (eqU x) pl.isList (fun w hw => mem_eqAt rx fx r fs w (by simpa using hw)) ⟨.bl _, H, I, rfl, ?_⟩
    rw [show its.toArray.any (eqU x) = its.any (eqU x) by simp, any_eqU r fs]
    exact q
  · obtain ⟨its, r, pl, hz⟩ := I.tuple hq
    refine SeqAt.notIn_tupleAt (eqU x) pl (fun w hw => mem_eqAt rx fx r fs w (by simpa using hw)) ⟨.bl _, H, I, rfl, ?_⟩
    rw [show its.toArray.any (eqU x) = its.any (eqU x) by simp, any_eqU r fs]
    exact q
theorem call_len_seq : CallR X (.builtin "len") (fun xs H Q => ∃ p ys, xs = [.ref p] ∧ (SqL X.K H p ys ∨ SqT X.K H p ys) ∧ Q (.int ys.length) H) := by
  intro pins s σ H xs us Q I r h
  obtain ⟨p, ys, rfl, hq, q⟩ := h
  obtain ⟨u, rfl, rx⟩ := vals1 r
  cases rx
  have hn := line63
  rcases hq with hq | hq
  · obtain ⟨its, r', pl, hz⟩ := I.list hq
    have hlen := r'.length
    exact Calls.call_len_list pl.isList (by simp only [List.size_toArray] <;> omega) ⟨.int ys.length, H, I.tok _, ⟨s.toks + 1, by rw [List.size_toArray, hlen]⟩, q⟩
  · obtain ⟨its, r', pl, hz⟩ := I.tuple hq
    have hlen := r'.length
    exact len_tuple pl (by simp only [List.size_toArray] <;> omega) ⟨.int ys.length, H, I.tok _, ⟨s.toks + 1, by rw [List.size_toArray, hlen]⟩, q⟩
theorem CallR.or {f : Value} {r r' : List V → Hp → VK → Prop} (h : CallR X f r) (h' : CallR X f r') : CallR X f (fun xs H Q => r xs H Q ∨ r' xs H Q) := by
  intro pins s σ H xs us Q I rs q
  rcases q with q | q
  · exact h pins s σ H xs us Q I rs q
  · exact h' pins s σ H xs us Q I rs q
theorem call_list_of : CallR X (.type "list") (fun xs H Q => ∃ p ys, xs = [.ref p] ∧ (SqL X.K H p ys ∨ SqT X.K H p ys) ∧ ∀ l, H l = none → Q (.ref l) (upd H l (.lst ys))) := by
  intro pins s σ H xs us Q I r h
  obtain ⟨p, ys, rfl, hq, q⟩ := h
  obtain ⟨u, rfl, rx⟩ := vals1 r
  cases rx
  have fin : ∀ (its : List Value), Vals ys its → ys.length ≤ sizeLine → ∀ (h' : Heap) (c' : Nat), (∀ b o', s.heap.get? b = some o' → h'.get? b = some o') →
      h'.get? s.heap.objs.size = some { cls := .type "list", dict := none, data := .seq its.toArray c', slots := #[] } → EP X pins σ Q (.ref s.heap.objs.size) { s with heap := h' } := fun its r' hz h' c' kp e =>
    ⟨.ref s.heap.objs.size, _, I.laid (t' := s.toks) kp (Nat.le_refl _) (show ObjOk X.prog X.w _ h' _ (.lst ys) from ⟨hz, its, c', r', e⟩), rfl, q _ (I.hok.fresh (Nat.le_refl _))⟩
  rcases hq with hq | hq
  · obtain ⟨its, r', pl, hz⟩ := I.list hq
    have hlen := r'.length
    obtain ⟨o, ho, hc, n, hd⟩ := pl.isList
    exact call_list_seq p (.inl rfl) ho hc hd (fun h' c' kp e => fin its r' hz h' c' kp e) (by simp only [List.size_toArray] <;> omega)
  · obtain ⟨its, r', pl, hz⟩ := I.tuple hq
    have hlen := r'.length
    obtain ⟨o, ho, hc, n, hd⟩ := pl
    exact call_list_seq p (.inr rfl) ho hc hd (fun h' c' kp e => fin its r' hz h' c' kp e) (by simp only [List.size_toArray] <;> omega)
theorem call_tuple_of : CallR X (.type "tuple") (fun xs H Q => ∃ p ys, xs = [.ref p] ∧ ((SqL X.K H p ys ∧ ∀ l, H l = none → Q (.ref l) (upd H l (.tup ys))) ∨ (SqT X.K H p ys ∧ Q (.ref p) H))) := by
  intro pins s σ H xs us Q I r h
  obtain ⟨p, ys, rfl, h⟩ := h
  obtain ⟨u, rfl, rx⟩ := vals1 r
  cases rx
  rcases h with ⟨hq, q⟩ | ⟨hq, q⟩
  · obtain ⟨its, r', pl, hz⟩ := I.list hq
    have hlen := r'.length
    refine call_tuple_list pl.isList (fun h' kp => ?_) (by simp only [List.size_toArray] <;> omega)
    have I1 : Inv X pins σ H { s with heap := h' } := I.kept (t' := s.toks) kp
    have I2 : Inv X pins σ (upd H h'.objs.size (.tup ys)) { s with heap := h'.push { cls := .type "tuple", data := .seq its.toArray } } :=
      I1.laid (t' := s.toks) (fun b o e => Heap.get?_push_of_some _ e) (Nat.le_refl _) (show ObjOk X.prog X.w _ _ _ (.tup ys) from ⟨hz, its, r', IsTup.new _ _⟩)
    exact ⟨.ref h'.objs.size, _, I2, rfl, q _ (I1.hok.fresh (Nat.le_refl _))⟩
  · obtain ⟨its, r', pl, hz⟩ := I.tuple hq
    exact call_tuple_same pl ⟨.ref p, H, I, rfl, q⟩

def tyV (K : PySem.W.Frag) (T : String) (x : V) (H : Hp) : Prop := match x with
  | .str _ => T = "str"
  | .int _ => T = "int"
  | .ref p => (T = "list" ∧ ∃ xs, SqL K H p xs) ∨ (T = "tuple" ∧ ∃ o, K.lookup p = some o ∧ o.cls = .type "tuple" ∧ o.dict = none) ∨
      (T = "dict" ∧ ((∃ kvs, H p = some (.dK kvs)) ∨ ∃ kvs, H p = some (.dT kvs))) ∨ (T = "set" ∧ ∃ S n, H p = some (.set S n))
  | _ => False
theorem tyV_is {pins : List (Addr × Obj)} {σ : St} {H : Hp} {s : Shared} {T : String} {x : V} {v : Value} (I : Inv X pins σ H s) (r : RelV x v) (ty : tyV X.K T x H) :
    s.TypeIs v T ∧ ∀ a, v = .ref a → ∃ ob, s.heap.get? a = some ob ∧ ob.dict = none := by
  cases x with
  | str z =>
    obtain ⟨t, rfl⟩ := r
    cases (show T = "str" from ty)
    exact ⟨typeIs_str s z t, fun _ e => nomatch e⟩
  | int i =>
    obtain ⟨t, rfl⟩ := r
    cases (show T = "int" from ty)
    exact ⟨typeIs_int s i t, fun _ e => nomatch e⟩
  | ref p =>
    cases r
    rcases ty with ⟨rfl, xs, hq⟩ | ⟨rfl, o, hk, hc, hd⟩ | ⟨rfl, hk⟩ | ⟨rfl, S, n, hk⟩
    · obtain ⟨its, _, pl, _⟩ := I.list hq
      refine ⟨pl.isList.typeIs, fun a e => ?_⟩
      cases e
      obtain ⟨o, n, e, c, hd, _⟩ := pl
      exact ⟨o, e, hd⟩
    · refine ⟨⟨o, I.kIn p o hk, hc⟩, fun a e => ?_⟩
      cases e
      exact ⟨o, I.kIn _ o hk, hd⟩
    · have z : ∃ o, s.heap.get? p = some o ∧ o.ExactDict := by
        rcases hk with ⟨kvs, hk⟩ | ⟨kvs, hk⟩
        · obtain ⟨_, _, _, _, o, _, _, e, ex, _⟩ := I.hok p _ hk
          exact ⟨o, e, ex⟩
        · obtain ⟨_, _, _, _, o, _, _, e, ex, _⟩ := I.hok p _ hk
          exact ⟨o, e, ex⟩
      obtain ⟨o, e, ex⟩ := z
      refine ⟨⟨o, e, ex.1⟩, fun a e2 => ?_⟩
      cases e2
      exact ⟨o, e, ex.2.1⟩
    · obtain ⟨o, _, _, _, e, ex, _⟩ := I.hok p _ hk
      refine ⟨⟨o, e, ex.1⟩, fun a e2 => ?_⟩
      cases e2
      exact ⟨o, e, ex.2.1⟩
  | _ => exact False.elim ty
def tBM0 (K : PySem.W.Frag) (T : String) (r : V → List V → Hp → VK → Prop) (to : TE) : TE := fun σ H Q => to σ H fun x H1 => tyV K T x H1 ∧ r x [] H1 Q
def tBM (K : PySem.W.Frag) (T : String) (r : V → List V → Hp → VK → Prop) (to : TE) (t : TA) : TE := fun σ H Q => to σ H fun x H1 => tyV K T x H1 ∧ t σ H1 fun xs H2 => r x xs H2 Q
variable {o e : Expr} {es : List Expr} {to : TE} {t : TA} {name : Str} {apos cpos : Pos} {T id : String} {r : V → List V → Hp → VK → Prop}
theorem pe_bm0 (pa : PlainAttrs T) (slot : Slot T name id) (hty : typeOf (.builtin id) = pure (.type "method_descriptor")) (hm : MtR X id r) (ho : PE X o to)
    (hbase : attributeBase o name X.env (eval o X.env) = eval o X.env := by rfl) (hline : (apos.endLine == cpos.line) = true := by rfl) : PE X (.Call (.Attribute o name apos) [] [] cpos) (tBM0 X.K T r to) := by
  intro pins s σ H Q I h
  refine wpAny_Call_method0_late hbase hline (thn (ho pins s σ H _ I h) fun v s1 ⟨x, H1, I1, r1, ty, q1⟩ => ?_)
  obtain ⟨h1, h2⟩ := tyV_is I1 r1 ty
  exact ⟨T, id, pa, slot, hty, h1, h2, Calls.callWith_builtin rfl (PySem.evalArgs_none (hm pins s1 σ H1 x [] v [] Q I1 r1 .nil q1))⟩
theorem pe_bm (pa : PlainAttrs T) (slot : Slot T name id) (hty : typeOf (.builtin id) = pure (.type "method_descriptor")) (hm : MtR X id r) (ho : PE X o to) (ha : PA X (e :: es) t)
    (hbase : attributeBase o name X.env (eval o X.env) = eval o X.env := by rfl)
    (hfew : ((backTo cpos (starEach (e :: es) X.env)).all (fun x => !x.1) && (backToKw cpos (keywordEach [] X.env)).all (fun x => x.1.isSome)
      && decide ((e :: es).length + ([] : List Keyword).length + (if ([] : List Keyword).isEmpty then 0 else 1) < 30)) = true := by rfl)
    (hline : (apos.endLine == cpos.line) = true := by rfl) (hs : starEach (e :: es) X.env = (false, eval e X.env) :: starEach es X.env := by rfl) (hplain : (backTo cpos (starEach es X.env)).any (·.1) = false := by rfl) :
    PE X (.Call (.Attribute o name apos) (e :: es) [] cpos) (tBM X.K T r to t) := by
  intro pins s σ H Q I h
  refine wpAny_Call_method_late hbase hfew hline rfl (thn (ho pins s σ H _ I h) fun v s1 ⟨x, H1, I1, r1, ty, q1⟩ => ?_)
  obtain ⟨h1, h2⟩ := tyV_is I1 r1 ty
  refine ⟨T, id, pa, slot, hty, h1, h2, ?_⟩
  have hA := ha cpos pins s1 σ H1 _ I1 q1
  rw [hs] at hA ⊢
  refine Calls.callWith_builtin (by show (false || (backTo cpos (starEach es X.env)).any (·.1)) = false; rw [hplain] <;> rfl) (Calls.evalArgs_plain ?_)
  exact thn hA fun us s2 ⟨vs, H2, I2, r2, q2⟩ => hm pins s2 σ H2 x vs v us Q I2 r1 r2 q2
/- xs.append(e), list.index on a module's tuple .. are MtR facts of 06m -/
end
end L2

namespace L2
open PySem PySem.Spec PyProof.Rows

def MtM (X : Cx) (id : String) (r : V → List V → Hp → VK → Prop) : Prop :=
  ∀ (pins : List (Addr × Obj)) (s : Shared) (σ : St) (H : Hp) (x : V) (xs : List V) (v : Value) (us : List Value) (Q : VK), Inv X pins σ H s → RelV x v → Vals xs us → r x xs H Q →
    wpAny (model X.prog X.w) X.A (call (.builtin id) (v :: us)) (EP X pins σ Q) X.xe s

theorem Vals.one : ∀ {x : V} {us : List Value}, Vals [x] us → ∃ u, us = [u] ∧ RelV x u
  | _, _, .cons r .nil => ⟨_, rfl, r⟩
theorem Vals.zero : ∀ {us : List Value}, Vals [] us → us = []
  | _, .nil => rfl
theorem Vals.dropLast {xs : List V} {us : List Value} (h : Vals xs us) : Vals xs.dropLast us.dropLast := by
  induction h with
  | nil => exact .nil
  | cons r t ih =>
    cases t with
    | nil => exact .nil
    | cons q t' => exact .cons r ih
theorem Vals.eraseIdx : ∀ {xs : List V} {us : List Value} (i : Nat), Vals xs us → Vals (xs.eraseIdx i) (us.eraseIdx i)
  | _, _, _, .nil => .nil
  | _, _, 0, .cons _ t => t
  | _, _, i + 1, .cons r t => .cons r (Vals.eraseIdx i t)
theorem Vals.reverse {xs : List V} {us : List Value} (h : Vals xs us) : Vals xs.reverse us.reverse := by
  induction h with
  | nil => exact .nil
  | cons r t ih => rw [List.reverse_cons, List.reverse_cons]; exact Vals.append ih (.cons r .nil)
theorem Vals.rep {xs : List V} {us : List Value} (h : Vals xs us) : ∀ k : Nat, Vals (List.replicate k xs).flatten (List.replicate k us).flatten
  | 0 => .nil
  | k + 1 => by
    rw [List.replicate_succ, List.replicate_succ, List.flatten_cons, List.flatten_cons]
    exact Vals.append h (Vals.rep h k)
theorem foldl_rep (its : List Value) : ∀ (k : Nat) (acc : List Value),
    List.foldl (fun x1 x2 => x1 ++ x2) acc.toArray (List.replicate k its.toArray) = (acc ++ (List.replicate k its).flatten).toArray
  | 0, acc => by simp
  | k + 1, acc => by
    have e : acc.toArray ++ its.toArray = (acc ++ its).toArray := by simp
    have e2 : (acc ++ its) ++ (List.replicate k its).flatten = acc ++ (List.replicate (k + 1) its).flatten := by
      rw [List.replicate_succ, List.flatten_cons, List.append_assoc]
    rw [← e2, ← foldl_rep its k (acc ++ its), ← e, List.replicate_succ, List.foldl_cons]

section
variable {X : Cx} {pins : List (Addr × Obj)} {σ : St} {H : Hp} {s : Shared} {l b : Addr} {xs ys zs : List V}

theorem Inv.lset {its its' : List Value} {n : Nat} {f : Array Value → Array Value} {t' : Nat} (I : Inv X pins σ H s) (hH : H l = some (.lst xs))
    (e : s.heap.get? l = some { cls := .type "list", data := .seq its.toArray n }) (hf : f its.toArray = its'.toArray) (hv : Vals ys its') (hz : ys.length ≤ sizeLine) :
    Inv X pins σ (upd H l (.lst ys)) { s with heap := s.heap.update l (Obj.mapSeq f), toks := t' } := by
  have q := PySem.IsL.update e f
  rw [hf] at q
  refine I.write (x := l) (e := l) (by rw [hH]; exact trivial) (.inl rfl) (fun b' u hb hu => (Heap.get?_update_other s.heap (Obj.mapSeq f) (Ne.symm hb)).trans hu) ⟨_, q⟩ ?_
  exact ⟨hz, its', _, hv, q⟩
theorem Inv.lnew {its : List Value} {t' : Nat} (I : Inv X pins σ H s) (hv : Vals ys its) (hz : ys.length ≤ sizeLine) :
    Inv X pins σ (upd H s.heap.objs.size (.lst ys)) { s with heap := s.heap.push { cls := .type "list", data := .seq its.toArray }, toks := t' } :=
  I.laid (fun _ _ q => Heap.get?_push_of_some _ q) (Nat.le_refl _) ⟨hz, its, 0, hv, Heap.get?_push_size _ rfl⟩
theorem Inv.fresh (I : Inv X pins σ H s) : H s.heap.objs.size = none := I.hok.fresh (Nat.le_refl _)
theorem Inv.lstM (I : Inv X pins σ H s) (hH : H l = some (.lst xs)) : xs.length ≤ sizeLine ∧ ∃ (its : List Value) (n : Nat), Vals xs its ∧ xs.length = its.length ∧ s.heap.get? l = some { cls := .type "list", data := .seq its.toArray n } := by
  obtain ⟨z, its, n, r, e⟩ := I.hok l _ hH
  exact ⟨z, its, n, r, r.length, e⟩

theorem notLongL {n : Nat} (h : n ≤ sizeLine) : Builtin.List.listTooLong n = false := by
  unfold Builtin.List.listTooLong
  exact decide_eq_false (by omega)
end

section
variable {X : Cx}

def rAppend : V → List V → Hp → VK → Prop := fun x vs H Q => ∃ l xs y, x = .ref l ∧ vs = [y] ∧ H l = some (.lst xs) ∧ xs.length < sizeLine ∧ Q .non (upd H l (.lst (xs ++ [y])))
theorem mt_append : MtM X "list.append" rAppend := by
  intro pins s σ H x vs v us Q I rx rv h
  obtain ⟨l, xs, y, rfl, rfl, hH, hz, q⟩ := h
  cases rx
  obtain ⟨u, rfl, ru⟩ := rv.one
  obtain ⟨z, its, n, r, hl, e⟩ := I.lstM hH
  refine call_meets F.slot_list_append ⟨_, e, rfl⟩ F.entry_list_append (F.args_list_append_2 _ _) (PySem.list_append l its.toArray n u (by rw [List.size_toArray]; omega)) ⟨e, ?_⟩
  refine ⟨.non, _, I.lset (its' := its ++ [u]) hH e (by simp) (r.append (.cons ru .nil)) ?_, rfl, q⟩
  rw [List.length_append, List.length_singleton]
  omega

def rExtend : V → List V → Hp → VK → Prop := fun x vs H Q => ∃ l b xs zs, x = .ref l ∧ vs = [.ref b] ∧ H l = some (.lst xs) ∧ H b = some (.lst zs) ∧ xs.length + zs.length ≤ sizeLine ∧ Q .non (upd H l (.lst (xs ++ zs)))
def rPop : V → List V → Hp → VK → Prop := fun x vs H Q => ∃ l xs y, x = .ref l ∧ vs = [] ∧ H l = some (.lst xs) ∧ xs[xs.length - 1]? = some y ∧ Q y (upd H l (.lst xs.dropLast))
def rPopAt : V → List V → Hp → VK → Prop := fun x vs H Q => ∃ l xs i k y, x = .ref l ∧ vs = [.int i] ∧ H l = some (.lst xs) ∧ -(2 ^ 63) ≤ i ∧ i < 2 ^ 63 ∧ seqIndex? i xs.length = some k ∧ xs[k]? = some y ∧ Q y (upd H l (.lst (xs.eraseIdx k)))
def rReverse : V → List V → Hp → VK → Prop := fun x vs H Q => ∃ l xs, x = .ref l ∧ vs = [] ∧ H l = some (.lst xs) ∧ Q .non (upd H l (.lst xs.reverse))
def rClear : V → List V → Hp → VK → Prop := fun x vs H Q => ∃ l xs, x = .ref l ∧ vs = [] ∧ H l = some (.lst xs) ∧ Q .non (upd H l (.lst []))
def rCat : R2 := fun x y H Q => ∃ l b xs zs, x = .ref l ∧ y = .ref b ∧ H l = some (.lst xs) ∧ H b = some (.lst zs) ∧ xs.length + zs.length ≤ sizeLine ∧ ∀ p, H p = none → Q (.ref p) (upd H p (.lst (xs ++ zs)))
theorem op_cat : OpR X (binaryOp .Add) rCat := by
  intro pins s σ H x y v u Q I rx ry h
  obtain ⟨l, b, xs, zs, rfl, rfl, hH, hB, hz, q⟩ := h
  cases rx
  cases ry
  obtain ⟨z, its, n, r, hl, e⟩ := I.lstM hH
  obtain ⟨z2, its2, n2, r2, hl2, e2⟩ := I.lstM hB
  refine PySem.P.add_list e e2 ?_ (by rw [List.size_toArray, List.size_toArray]; omega)
  have ea : its.toArray ++ its2.toArray = (its ++ its2).toArray := by simp
  rw [ea]
  exact ⟨.ref _, _, I.lnew (t' := s.toks) (r.append r2) (by rw [List.length_append]; omega), rfl, q _ I.fresh⟩
def rRep : R2 := fun x y H Q => ∃ l k xs, x = .ref l ∧ y = .int k ∧ H l = some (.lst xs) ∧ -(2 ^ 63) ≤ k ∧ k < 2 ^ 63 ∧ xs.length * k.toNat ≤ sizeLine ∧
  ∀ p, H p = none → Q (.ref p) (upd H p (.lst (List.replicate k.toNat xs).flatten))
theorem len_rep {α : Type} (xs : List α) (k : Nat) : (List.replicate k xs).flatten.length = k * xs.length := by
  induction k with
  | zero => simp
  | succ k ih => rw [List.replicate_succ, List.flatten_cons, List.length_append, ih, Nat.succ_mul, Nat.add_comm]
theorem op_rep : OpR X (binaryOp .Mult) rRep := by
  intro pins s σ H x y v u Q I rx ry h
  obtain ⟨l, k, xs, rfl, rfl, hH, h1, h2, hz, q⟩ := h
  cases rx
  obtain ⟨t, rfl⟩ := ry
  obtain ⟨z, its, n, r, hl, e⟩ := I.lstM hH
  have hlen : its.toArray.size * k.toNat ≤ sizeLine := by rw [List.size_toArray, ← hl]; exact hz
  have hcap : ¬ its.toArray.size * k.toNat > (2 ^ 63 - 1) / 8 := by
    have : (sizeLine : Nat) ≤ (2 ^ 63 - 1) / 8 := by decide
    omega
  have hfit : ¬ (!Builtin.List.listFitsIndex k) = true := by
    rw [fitsIndex_both h1 h2]
    exact Bool.false_ne_true
  have hlong : ¬ Builtin.List.listTooLong (its.toArray.size * k.toNat) = true := by
    rw [notLongL hlen]
    exact Bool.false_ne_true
  have hnew : List.foldl (fun x1 x2 => x1 ++ x2) #[] (List.replicate (if its.toArray.isEmpty = true then 0 else k.toNat) its.toArray) = (List.replicate k.toNat its).flatten.toArray := by
    have f0 : ∀ m : Nat, List.foldl (fun x1 x2 => x1 ++ x2) #[] (List.replicate m its.toArray) = (List.replicate m its).flatten.toArray := fun m => by
      have := foldl_rep its m []
      rw [List.nil_append] at this
      exact this
    rw [f0]
    cases its with
    | nil => simp
    | cons a r' => rw [if_neg (by simp)]
  refine wpAny_binaryOp_repeat_ref (T := "list") (U := "int") (by decide) ⟨_, e, rfl⟩ (fun s' => typeIs_int s' k t) noFill_list_mul F.fills_int_mul F.slot_int_rmul repeat_list F.slot_int_index.lookup
    (call_meets F.slot_int_rmul (typeIs_int s k t) F.entry_int_rmul (F.args_int_rmul_2 _ _) (int___rmul___int_list k t l its.toArray n)
      ⟨e, rfl, ⟨_, e, rfl⟩, call_meets F.slot_list_mul ⟨_, e, rfl⟩ F.entry_list_mul (F.args_list_mul_2 _ _) (AutoListH.list___mul___list_int_3 l its.toArray n k t hfit hcap hlong) ⟨e, ?_⟩⟩)
  rw [hnew]
  exact ⟨.ref _, _, I.lnew (t' := s.toks) (r.rep k.toNat) (by rw [len_rep, Nat.mul_comm]; exact hz), rfl, q _ I.fresh⟩

end

section
variable {prog : Program} {w : World} {A : Around} {E : Value → Shared → Prop} {s : Shared}
end

section
variable {X : Cx}
end
end L2

namespace Att
open PySem PySem.W PySem.Calls PyProof.Rows

theorem ints_of_wellAll {P : Params} {h : Heap} : ∀ (ns : List Int) (vs : List Value), WellAll P h vs (ns.map WData.int) → IntsAre vs ns := by
  intro ns
  induction ns with
  | nil =>
    intro vs w
    rw [List.map_nil] at w
    cases w
    exact .nil
  | cons n ns ih =>
    intro vs w
    rw [List.map_cons] at w
    cases w with
    | cons a b =>
      cases a
      exact .cons _ _ (ih _ b)

theorem script_of {l : OpenLaw} {n : Nat} (hn : l.most = some n) {P : Params} {h : Heap} {args : List WData} {vals : List Value}
    (hpre : l.row.toRowW.claim.pre args = true) (hwl : WellAll P h vals args) :
    ∃ a vs ns, vals = [Value.ref a] ∧ args = [WData.list (ns.map WData.int)] ∧ h.get? a = some { cls := .type "list", data := .seq vs.toArray } ∧ IntsAre vs ns ∧ ns.length ≤ n := by
  have hsh : WShape.hasAll [] args [.list .int] = true := (pre_splitW hpre).1
  have hc : l.pre.holds [] { args := args } = true := (pre_splitW hpre).2
  obtain ⟨d, r, rfl, h1, h2⟩ := hasAllW_cons hsh
  obtain rfl := hasAllW_nil h2
  obtain ⟨xs, rfl, h3⟩ := hasW_list h1
  obtain ⟨ns, rfl⟩ := items_int h3
  have hlen : ns.length ≤ n := by
    unfold OpenLaw.pre at hc
    have h4 : (WTm.not (.lt (.lit (.int (n : Int))) (.len (.arg 0)))).holds [] { args := [.list (ns.map .int)] } = true := by
      have h4 := (holds_andW hc).1
      rw [hn] at h4
      exact h4
    have h5 := condW_of h4 (w_not (w_lt w_lit (w_len_list (w_arg rfl))))
    rw [List.length_map] at h5
    refine Nat.le_of_not_lt fun q => ?_
    have q' : (n : Int) < ((ns.length : Nat) : Int) := by omega
    first
      | (rw [decide_eq_true q'] at h5; exact absurd h5 (by decide))
      | (simp at h5; omega)
  cases hwl with
  | cons w1 w2 =>
    cases w2
    cases w1 with
    | list ho hall => exact ⟨_, _, ns, rfl, rfl, ho, ints_of_wellAll ns _ hall, hlen⟩

theorem post_true (l : OpenLaw) (args : List WData) : l.row.toRowW.claim.post args (.bool true) args = true :=
  postW_of (r := l.row.toRowW) (X := (true == true))
    (show WShape.has [] (.bool true) .bool = true by first | rfl | decide | simp [WShape.has, WShape.arms, WShape.armsAll])
    (show (WTm.eq .res (.lit (.bool true))).value [] { args := args, res := some (.bool true), after := args } = some (.bool (true == true)) from w_eq_bool (w_res rfl) w_lit) rfl

theorem attach_call {l : OpenLaw} {n : Nat} {q : Program} {loose : List Str} {XP : (Str → Option Value) → Heap → Prop} {YP : World → Heap → Prop} {d : DefRec}
    (hn : l.most = some n) (hdf : d.params.defaults = [])
    (call : ∀ (w : World) (s₀ s₁ : Shared) (mg mb : Str → Option Value) (fa : Addr) (o : Obj) (pm cd doc : Value) (a : Addr) (vs : List Value) (ns : List Int),
      Ground q loose [] XP w s₀ mg mb s₁.heap → YP w s₁.heap →
      s₁.heap.get? fa = some o → o.data = .func (docDef d.name d.params d.body d.scope pm cd doc) → s₁.heap.CodeRec cd d.name → mg d.name = some (.ref fa) →
      s₁.heap.get? a = some { cls := .type "list", data := .seq vs.toArray } → IntsAre vs ns → ns.length ≤ n → s₁.gens = #[] →
      codeAny (model l.prog w) callerA (.call (.ref fa) ⟨[.ref a], []⟩) (fun r s' => r = .ok (.ret (.bool true)) ∧ OldK s₁.heap s'.heap ∧ s'.os = s₁.os ∧ AllBare s'.gens) s₁) :
    WalkO q loose XP YP l.row.toRowW d [] (fun f vs => PySem.call f vs) := by
  intro w s₀ s₁ mg mb G Y fa o pm cd doc dV kV ho hd hcd hD hmg hg args vals as hpre hlay hrd hwl hlo
  obtain rfl : dV = .none := Dflts.none hD hdf
  obtain rfl : kV = .none := Dflts.noKw hD
  obtain ⟨a, vs, ns, rfl, rfl, hobj, hints, hlen⟩ := script_of hn hpre hwl
  refine enter_call (codeAny_mono (call w s₀ s₁ mg mb fa o pm cd doc a vs ns G Y ho (fd_plain hd) hcd hmg hobj hints hlen hg) fun r s' hq => ?_)
  obtain ⟨rfl, h2, h3, h4⟩ := hq
  exact ⟨.inl ⟨.bool true, .bool true, [], rfl, fun _ => rfl, .bool true, post_true l _, fun _ => ⟨List.Pairwise.nil, fun _ hm => (nomatch hm)⟩⟩, h2, h3, h4⟩

section
variable {prog : Program} {w : World} {A : Around} {E : Value → Shared → Prop} {s : Shared} {K : Frag}

def noObjs (h : Heap) : Heap := { h with objs := #[] }
def ledger (h : Heap) (L d : Addr) : List (Addr × Obj) := (List.range h.objs.size).filterMap fun a => if a = L ∨ a = d then none else (h.get? a).map fun o => (a, o)
end
end Att

namespace L2
open PySem PySem.Spec PyProof.Rows

theorem vals_ints : ∀ {vs : List Value} {ns : List Int}, IntsAre vs ns → Vals (ns.map V.int) vs
  | _, _, .nil => .nil
  | _, _, .cons n t h => .cons ⟨t, rfl⟩ (vals_ints h)

def Only (H : Hp) : Prop := ∀ b, H b = none ∨ ∃ o xs, H b = some (.frz o (.lst xs))

theorem law_call {P : Program} {w : World} {K : PySem.W.Frag} {mg mb : Str → Option Value} {CX : CXT} {k : Nat} {fa a : Addr} {fd : FuncData} {x : Str} {sp : Sp} {s₁ : Shared} {vs : List Value} {ns : List Int}
    (KX : K.In s₁.heap) (hns : s₁.heap.Ns mainGlobals mg) (hb : s₁.heap.Ns builtinsNs mb) (hbb : ∀ x : Str, x ≠ "__name__" → mb x = bootBuiltins x) (hlim : s₁.heap.NoLimit) (hg : s₁.gens = #[])
    (ha : s₁.heap.get? a = some { cls := .type "list", data := .seq vs.toArray }) (hi : IntsAre vs ns) (hl : ns.length ≤ sizeLine) (hr : Room k callerA)
    (F : ∀ base : Heap, K.In base → base.Ns mainGlobals mg → FnOk P w K mg base CX k fa fd [x] sp) (hbind : ∀ (s : Shared) (u : Value), BindsTo s fd ⟨[u], []⟩ [(x, u)])
    (hsp : ∀ H : Hp, Only H → SqL K H a (ns.map V.int) → sp [.ref a] H (fun v _ => v = .bl true) fun _ _ _ => False)
    (hCX : ∀ H e s', CX [] H s₁ (fun _ _ _ => False) e s' → False) :
    codeAny (model P w) callerA (.call (.ref fa) ⟨[.ref a], []⟩) (fun r s' => r = .ok (.ret (.bool true)) ∧ OldK s₁.heap s'.heap ∧ s'.os = s₁.os ∧ AllBare s'.gens) s₁ := by
  have rv := vals_ints hi
  have lenV := hi.length
  have core : ∀ H : Hp, Only H → SqL K H a (ns.map V.int) → HOk P w H s₁.heap → (∀ b, H b ≠ none → b = a) → (H a ≠ none → K.lookup a = none) →
      codeAny (model P w) callerA (.call (.ref fa) ⟨[.ref a], []⟩) (fun r s' => r = .ok (.ret (.bool true)) ∧ OldK s₁.heap s'.heap ∧ s'.os = s₁.os ∧ AllBare s'.gens) s₁ := by
    intro H hO hS hok hA hK
    have base_of : ∀ {b : Addr} {o : Obj}, s₁.heap.get? b = some o → H b = none → (hidT s₁.heap H).get? b = some o := fun e n => hidT_get e n
    have noA : ∀ {b : Addr} {o : Obj} {es : Array DictEntry} {ep : Nat}, s₁.heap.get? b = some o → o.data = .dict es ep → H b = none := fun {b o es ep} e d => by
      cases q : H b with
      | none => rfl
      | some u =>
        have e' : b = a := hA b (by rw [q]; simp)
        subst e'
        rw [ha] at e; cases e
        have d' : Data.seq vs.toArray _ = Data.dict es ep := d
        cases d'
    have nsK : ∀ {b : Addr} {m : Str → Option Value}, s₁.heap.Ns b m → (hidT s₁.heap H).Ns b m := fun {b m} ⟨o, es, ep, e, d, r⟩ => ⟨o, es, ep, base_of e (noA e d), d, r⟩
    have hKb : K.In (hidT s₁.heap H) := fun b o e => base_of (KX b o e) (by
      cases q : H b with
      | none => rfl
      | some u =>
        have e' : b = a := hA b (by rw [q]; simp)
        subst e'
        rw [hK (by rw [q]; simp)] at e; cases e)
    have hM : Mod K mg (hidT s₁.heap H) := ⟨hKb, nsK hns, ⟨mb, nsK hb, hbb⟩, let ⟨mc, h1, h2⟩ := hlim; ⟨mc, nsK h1, h2⟩⟩
    have e0 : Env0 P w K mg (hidT s₁.heap H) callerA [] s₁ H := ⟨rfl, hM, fun b o e => of_hidT e, Nat.le_of_eq (hidT_size _ _), trivial, fun b hb => absurd (show b ∈ ([] : List Addr) from hb) (by simp), hok, .of_eq hg⟩
    refine codeAny_mono ((F _ hKb (nsK hns)).run callerA [] s₁ H ⟨[.ref a], []⟩ [.ref a] [.ref a] _ _ hr e0 (hbind s₁ (.ref a)) (.cons rfl .nil) (hsp H hO hS)) fun r s' h => ?_
    cases r with
    | error e => exact (hCX H e s' h).elim
    | ok fl =>
      cases fl with
      | next => exact False.elim h
      | brk => exact False.elim h
      | cont => exact False.elim h
      | ret u =>
        obtain ⟨v, H', os, bare, un, hok', r', q⟩ := h
        have q' : v = .bl true := q
        subst q'
        obtain rfl : u = Value.bool true := r'
        refine ⟨rfl, OldK.of_keep fun b o e => ?_, os, bare⟩
        cases q : H b with
        | none => exact un.keep b o e q (by intro z; exact absurd (show b ∈ ([] : List Addr) from z) (by simp)) (by simp)
        | some u =>
          rcases hO b with z | ⟨ob, xs, z⟩
          · rw [q] at z; cases z
          · have z2 := un.frzs b ob _ z
            obtain ⟨e1, _⟩ := hok b _ z
            obtain ⟨e2, _⟩ := hok' b _ z2
            rw [e] at e1; cases e1
            exact e2
  cases hk : K.lookup a with
  | some o =>
    have e := KX a o hk
    rw [ha] at e
    cases e
    refine core (fun _ => none) (fun _ => .inl rfl) (.inr ⟨_, vs.toArray, _, hk, rfl, rfl, rfl, by rw [List.size_toArray, lenV]; exact hl, by simpa using rv⟩) (fun b u z => by have z' : (none : Option HO) = some u := z; cases z') (fun b z => absurd rfl z) fun z => absurd rfl z
  | none =>
    refine core (fun b => if b = a then some (.frz { cls := .type "list", data := .seq vs.toArray } (.lst (ns.map V.int))) else none) (fun b => ?_) (.inl (.inr ⟨{ cls := .type "list", data := .seq vs.toArray }, if_pos rfl⟩)) (fun b u z => ?_) (fun b z => ?_) fun _ => hk
    · by_cases hb : b = a
      · exact .inr ⟨_, _, if_pos hb⟩
      · exact .inl (if_neg hb)
    · by_cases hb : b = a
      · have z' := (if_pos hb).symm.trans z
        cases z'
        subst hb
        exact ⟨ha, by rw [List.length_map]; exact hl, vs, _, rv, ha⟩
      · have z' := (if_neg hb).symm.trans z
        cases z'
    · by_cases hb : b = a
      · exact hb
      · exact absurd (if_neg hb) z
end L2

namespace L2
open PySem PySem.Spec PyProof.Rows

abbrev KOf {K : PySem.W.Frag} {h : Heap} (_ : K.In h) : PySem.W.Frag := K

theorem walk_of {l : PySem.W.OpenLaw} {n k : Nat} {q : Program} {loose : List Str} {XP : (Str → Option Value) → Heap → Prop} {YP : World → Heap → Prop} {d : DefRec} {K : Params → PySem.W.Frag} {CX : World → CXT} {sp : World → Sp} {x : Str}
    (hn : l.most = some n) (hn2 : n ≤ sizeLine) (hdf : d.params.defaults = []) (hr : Room k callerA)
    (hY : ∀ (w : World) (h : Heap), YP w h → (K w.params).In h)
    (F : ∀ (w : World) (mg : Str → Option Value) (fa : Addr) (h : Heap), (K w.params).In h → h.Ns mainGlobals mg → mg d.name = some (.ref fa) →
      ∃ fd : FuncData, (∀ (s : Shared) (u : Value), BindsTo s fd ⟨[u], []⟩ [(x, u)]) ∧
        ∀ base : Heap, (K w.params).In base → base.Ns mainGlobals mg → FnOk l.prog w (K w.params) mg base (CX w) k fa fd [x] (sp w))
    (hsp : ∀ (w : World) (H : Hp) (a : Addr) (ns : List Int), ns.length ≤ n → Only H → SqL (K w.params) H a (ns.map V.int) → sp w [.ref a] H (fun v _ => v = .bl true) fun _ _ _ => False)
    (hCX : ∀ (w : World) (H : Hp) (s : Shared) (e : Value) (s' : Shared), CX w [] H s (fun _ _ _ => False) e s' → False) :
    PySem.W.WalkO q loose XP YP l.row.toRowW d [] (fun f vs => PySem.call f vs) := by
  refine Att.attach_call hn hdf fun w s₀ s₁ mg mb fa o pm cd doc a vs ns G Y ho hd hcd hmg hobj hints hlen hg => ?_
  have KX := hY w _ Y
  obtain ⟨fd, hb, hF⟩ := F w mg fa _ KX G.T.g hmg
  exact law_call KX G.T.g G.T.b G.T.builtins G.T.nolimit hg hobj hints (Nat.le_trans hlen hn2) hr hF hb (fun H hO hS => hsp w H a ns hlen hO hS) fun H e s' => hCX w H s₁ e s'
end L2

/- THE LAST THEOREM (shape; LID, My.* are yours):
   My.Adr: a structure of the addresses that your layer names (classes, functions); My.Txt K t: a structure (Prop) of the equations over K;
   My.txt_mk : {K} {implicit addresses ..} (e1 : nsIn K mainGlobals "law" = some (some (.ref f))) (e2 : K.lookup f = some ⟨oc, od, .func (fnOf "law" "law" params body scope dV kV doc pm an cdv ct), sl⟩) (e3 : codeIn K cdv "law" = true) .. : ∃ t, My.Txt K t

set_option maxRecDepth 100000 in
set_option maxHeartbeats 0 in
theorem PySem.Challenge.cw_LID_holds : PySem.Challenge.rw_LID.Holds := by
  w_on; o_law; k_head; (case hw => w_witness2)
  k_fill
  refine L2.walk_of (l := PySem.Challenge.rw_LID) (n := 63) (k := 40) (x := "script") (CX := fun w => ..) (sp := fun _ => My.sp_law) rfl (by decide) rfl ⟨rfl, by decide, by decide⟩ (fun w h Y => PySem.W.kIn_of Y) ?F ?S ?C
  case F =>
    intro w mg fa h KX G hmg
    have T : ∃ t, My.Txt (L2.KOf KX) t := by
      dsimp only [L2.KOf]                          -- K must stand as «<heap const> w.params» for k_is
      refine' My.txt_mk ?e1 ?e2 ?e3 ..
      (case e1 => PySem.W.k_is)                    -- in the order: a name -> its address -> its object -> its parts
      (case e2 => PySem.W.k_is)
      ..
    obtain ⟨t, T⟩ := T
    have e0 := hmg.symm.trans (PySem.W.mg_of KX G T.law)
    cases e0                                       -- fa is the law's own address
    exact ⟨_, fun s u => .of_eq rfl, fun base kb nb => My.law_fn T kb nb⟩     -- if «.of_eq rfl» comes too early: refine' ⟨_, ?b, fun base kb nb => My.law_fn T kb nb⟩; exact fun s u => .of_eq rfl
  case S => exact fun w H a ns hl hO hS => ..
  case C => exact ..
(the tactic k_is has no namespace: write k_is) -/

namespace L2
open PySem PySem.Spec PyProof.Rows

def inClass (s : Stmt) (j : Nat) : Stmt := match s with
  | .ClassDef _ _ _ body _ _ _ _ _ _ _ => body.getD j (.Pass ⟨0, 0, 0, 0⟩)
  | _ => .Pass ⟨0, 0, 0, 0⟩
def defArgs (s : Stmt) : Arguments := match s with
  | .FunctionDef _ a _ _ _ _ _ _ _ _ => a
  | _ => { posonlyargs := [], args := [], vararg := none, kwonlyargs := [], kw_defaults := [], kwarg := none, defaults := [] }
def defBody (s : Stmt) : List Stmt := match s with
  | .FunctionDef _ _ b _ _ _ _ _ _ _ => b
  | _ => []
def defScope (s : Stmt) : Scope := match s with
  | .FunctionDef _ _ _ _ _ _ sc _ _ _ => sc
  | _ => { kind := .function, names := [], isGenerator := false, isCoroutine := false }

abbrev CX0 : CXT := fun _ _ _ _ _ _ => False
abbrev E0 : XK := fun _ _ _ => False
theorem pass0 {X : Cx} : Passes CX0 X E0 := fun _ _ _ _ _ _ _ h => h.elim

structure Fun (K : PySem.W.Frag) (x qual : Str) (st : Stmt) (f : Addr) (fd : FuncData) : Prop where
  ex : ∃ (oc : Value) (od : Option Addr) (kV doc pm : Value) (an : Option Addr) (cdv ct : Value) (osl : Array (Option Value)),
    fd = PySem.W.fnOf x qual (defArgs st) (defBody st) (defScope st) .none kV doc pm an cdv ct ∧ K.lookup f = some ⟨oc, od, .func fd, osl⟩ ∧ PySem.W.codeIn K cdv qual = true
  kp : PySem.W.keepIn K (.ref f) = true
section
variable {P : Program} {w : World} {K : PySem.W.Frag} {mg : Str → Option Value} {base : Heap}
theorem Fun.ok {x qual : Str} {st : Stmt} {f : Addr} {fd : FuncData} {N ps : List Str} {k : Nat} {sp : Sp} (F : Fun K x qual st f fd) (S : FnScope N ps (defScope st)) (len : ∀ vs H Q E, sp vs H Q E → vs.length = ps.length)
    (hbody : ∀ (cdv : Value) (A : Around) (outer : List Env) (s : Shared) (H : Hp) (vs : List V) (Q : VK) (E : XK), Room k (A.deeper (envOfC qual (defScope st) s.heap.objs.size f cdv)) → sp vs H Q E →
      ∃ t, PSs (cxOf CX0 P w K mg base N qual (defScope st) f cdv A outer s H E).nox (defBody st) t ∧ t { nx := fun _ H' => Q .non H', rt := Q } (start N vs) H) : FnOk P w K mg base CX0 (k + 1) f fd ps sp := by
  obtain ⟨oc, od, kV, doc, pm, an, cdv, ct, osl, rfl, lk, hcd⟩ := F.ex
  refine fn_of lk hcd S len fun A outer s H vs Q E hr hsp => ?_
  obtain ⟨t, h, q⟩ := hbody cdv A outer s H vs Q E hr hsp
  exact ⟨t, h.nox, q⟩
theorem Fun.binds {x qual : Str} {st : Stmt} {f : Addr} {fd : FuncData} {ps : List Str} (F : Fun K x qual st f fd)
    (h : ∀ (kV doc pm : Value) (an : Option Addr) (cdv ct : Value) (us : List Value), us.length = ps.length → bindArgs (PySem.W.fnOf x qual (defArgs st) (defBody st) (defScope st) .none kV doc pm an cdv ct) ⟨us, []⟩ = pure (ps.zip us)) : Binds K fd ps [] := by
  obtain ⟨oc, od, kV, doc, pm, an, cdv, ct, osl, rfl, lk, hcd⟩ := F.ex
  exact .all (h kV doc pm an cdv ct)
theorem fun_mk {x qual : Str} {st : Stmt} {f : Addr} {oc : Value} {od an : Option Addr} {osl : Array (Option Value)} {kV doc pm cdv ct : Value} (l : K.lookup f = some ⟨oc, od, .func (PySem.W.fnOf x qual (defArgs st) (defBody st) (defScope st) .none kV doc pm an cdv ct), osl⟩)
    (c : PySem.W.codeIn K cdv qual = true) (k : PySem.W.keepIn K (.ref f) = true) : Fun K x qual st f (PySem.W.fnOf x qual (defArgs st) (defBody st) (defScope st) .none kV doc pm an cdv ct) := ⟨⟨oc, od, kV, doc, pm, an, cdv, ct, osl, rfl, l, c⟩, k⟩
end
theorem hu_of {A : Around} {k : Nat} (hr : Room k A) : A.units + 1 < cLine := Nat.lt_of_le_of_lt (Nat.add_le_add_left (by decide : 1 ≤ 64) _) hr.units
theorem small1000 {n : Nat} (h : n ≤ 1000) : n < sizeLine := Nat.lt_of_le_of_lt h (by decide)

section
variable {X : Cx}
theorem pv (i : Nat) {x : Str} {pos : Pos} (hN : X.N[i]? = some x := by rfl) (hv : Vis X.env.scope x := by first | exact Or.inl rfl | exact Or.inr (Or.inl rfl) | exact Or.inr (Or.inr rfl)) (hd : (x == ("__debug__" : Str)) = false := by decide)
    (hcd : (x == ("__classdict__" : Str)) = false := by decide) : PE X (.Name x pos) (tVar i) := pe_var hN hv hd hcd
end

theorem iteF {A B : Prop} (h : B) : if false = true then A else B := by
  rw [if_neg Bool.false_ne_true]
  exact h
theorem iteT {A B : Prop} (h : A) : if true = true then A else B := by
  rw [if_pos rfl]
  exact h
theorem ite2 {c A B : Prop} [Decidable c] (h1 : c → A) (h2 : ¬ c → B) : if c then A else B := by
  by_cases h : c
  · rw [if_pos h]
    exact h1 h
  · rw [if_neg h]
    exact h2 h
def Same (H H' : Hp) : Prop := ∀ b o, H b = some o → H' b = some o
theorem Same.refl (H : Hp) : Same H H := fun _ _ h => h
theorem Same.trans {H H1 H2 : Hp} (a : Same H H1) (b : Same H1 H2) : Same H H2 := fun c o h => b c o (a c o h)
theorem Same.free {H H' : Hp} (e : Same H H') {l : Addr} (h : H' l = Option.none) : H l = Option.none := by
  cases q : H l with
  | none => rfl
  | some o =>
    rw [e l o q] at h
    cases h
theorem Same.seq {K : PySem.W.Frag} {H H' : Hp} {a : Addr} {xs : List V} (e : Same H H') (h : SqL K H a xs) : SqL K H' a xs := by
  rcases h with (h | ⟨o, h⟩) | h
  · exact .inl (.inl (e _ _ h))
  · exact .inl (.inr ⟨o, e _ _ h⟩)
  · exact .inr h

end L2

namespace L2
open PySem PySem.Spec PyProof.Rows

section
variable {κ : Type} [DecidableEq κ]
def valV (kvs : List (κ × V)) (k : κ) : Option V := (kvs.find? fun kv => decide (kv.1 = k)).map (·.2)
def putK (kvs : List (κ × V)) (k : κ) (v : V) : List (κ × V) :=
  if (kvs.any fun kv => decide (kv.1 = k)) = true then kvs.map (fun kv => if kv.1 = k then (kv.1, v) else kv) else kvs ++ [(k, v)]
def dropK (kvs : List (κ × V)) (k : κ) : List (κ × V) := kvs.filter fun kv => decide (kv.1 ≠ k)

theorem valV_pos {p : κ × V} {r : List (κ × V)} {k : κ} (e : p.1 = k) : valV (p :: r) k = some p.2 := by simp [valV, List.find?_cons, e]
theorem valV_neg {p : κ × V} {r : List (κ × V)} {k : κ} (e : ¬ p.1 = k) : valV (p :: r) k = valV r k := by simp [valV, List.find?_cons, e]
theorem valV_any (k : κ) : ∀ kvs : List (κ × V), (kvs.any fun kv => decide (kv.1 = k)) = (valV kvs k).isSome
  | [] => rfl
  | p :: r => by
    rw [List.any_cons]
    by_cases e : p.1 = k
    · simp only [valV_pos e, decide_eq_true e, Bool.true_or, Option.isSome_some]
    · rw [valV_neg e, decide_eq_false e, Bool.false_or]; exact valV_any k r
theorem valV_map (k j : κ) (y : V) : ∀ kvs : List (κ × V), valV (kvs.map fun kv => if kv.1 = k then (kv.1, y) else kv) j = (valV kvs j).map fun x => if j = k then y else x
  | [] => rfl
  | p :: r => by
    have ih := valV_map k j y r
    rw [List.map_cons]
    by_cases h : p.1 = k
    · rw [if_pos h]
      by_cases e : p.1 = j
      · rw [valV_pos (p := (p.1, y)) e, valV_pos e, Option.map_some, if_pos (e.symm.trans h)]
      · rw [valV_neg (p := (p.1, y)) e, valV_neg e, ih]
    · rw [if_neg h]
      by_cases e : p.1 = j
      · rw [valV_pos (p := p) e, valV_pos e, Option.map_some, if_neg (fun z => h (e.trans z))]
      · rw [valV_neg (p := p) e, valV_neg e, ih]
theorem valV_snoc (k j : κ) (y : V) : ∀ kvs : List (κ × V), valV kvs k = none → valV (kvs ++ [(k, y)]) j = if j = k then some y else valV kvs j
  | [], _ => by
    by_cases e : k = j
    · rw [if_pos e.symm]; exact valV_pos (p := (k, y)) e
    · rw [if_neg (fun z => e z.symm)]; exact valV_neg (p := (k, y)) e
  | p :: r, hn => by
    rw [List.cons_append]
    have hk : ¬ p.1 = k := fun z => by rw [valV_pos z] at hn; cases hn
    rw [valV_neg hk] at hn
    have ih := valV_snoc k j y r hn
    by_cases e : p.1 = j
    · rw [valV_pos e, valV_pos e, if_neg (fun z => hk (e.trans z))]
    · rw [valV_neg e, valV_neg e, ih]
theorem valV_put (kvs : List (κ × V)) (k j : κ) (y : V) : valV (putK kvs k y) j = if j = k then some y else valV kvs j := by
  unfold putK
  by_cases a : (kvs.any fun kv => decide (kv.1 = k)) = true
  · rw [if_pos a, valV_map]
    rw [valV_any] at a
    by_cases e : j = k
    · obtain ⟨x, hx⟩ := Option.isSome_iff_exists.mp a
      rw [if_pos e, e, hx, Option.map_some, if_pos rfl]
    · rw [if_neg e]
      cases valV kvs j with
      | none => rfl
      | some x => rw [Option.map_some, if_neg e]
  · rw [if_neg a]
    refine valV_snoc k j y kvs ?_
    rw [valV_any] at a
    cases q : valV kvs k with
    | none => rfl
    | some x => rw [q] at a; exact (a rfl).elim
theorem length_putK (kvs : List (κ × V)) (k : κ) (v : V) : (putK kvs k v).length ≤ kvs.length + 1 := by
  unfold putK
  split
  · rw [List.length_map]; omega
  · rw [List.length_append, List.length_cons, List.length_nil]; omega
theorem RelO.isSome_eq {o : Option V} {u : Option Value} (r : RelO o u) : o.isSome = u.isSome := by
  cases o with
  | none => cases u with
    | none => rfl
    | some _ => exact (show False from r).elim
  | some _ => cases u with
    | none => exact (show False from r).elim
    | some _ => rfl
theorem RelO.getD {o : Option V} {u : Option Value} {d : V} {d' : Value} (r : RelO o u) (rd : RelV d d') : RelV (o.getD d) (u.getD d') := by
  cases o with
  | none => cases u with
    | none => exact rd
    | some _ => exact (show False from r).elim
  | some _ => cases u with
    | none => exact (show False from r).elim
    | some _ => exact r

theorem KV.val {kvs : List (κ × V)} {vs : List (κ × Value)} (r : KV kvs vs) (k : κ) : RelO (valV kvs k) (valueAt vs k) := by
  unfold KV at r
  induction r with
  | nil => exact True.intro
  | @cons p q ps qs h t ih =>
    obtain ⟨h1, h2⟩ := h
    by_cases e : p.1 = k
    · have e' : q.1 = k := h1.symm.trans e
      have b : valueAt (q :: qs) k = some q.2 := by simp [valueAt, List.find?_cons, e']
      rw [valV_pos e, b]; exact h2
    · have e' : ¬ q.1 = k := fun z => e (h1.trans z)
      have b : valueAt (q :: qs) k = valueAt qs k := by simp [valueAt, List.find?_cons, e']
      rw [valV_neg e, b]; exact ih
theorem KV.any {kvs : List (κ × V)} {vs : List (κ × Value)} (r : KV kvs vs) (k : κ) : (kvs.any fun kv => decide (kv.1 = k)) = vs.any fun kv => decide (kv.1 = k) := by
  unfold KV at r
  induction r with
  | nil => rfl
  | cons h t ih => rw [List.any_cons, List.any_cons, ih, h.1]
theorem KV.repl {kvs : List (κ × V)} {vs : List (κ × Value)} (r : KV kvs vs) (k : κ) {y : V} {u : Value} (ry : RelV y u) :
    KV (kvs.map fun kv => if kv.1 = k then (kv.1, y) else kv) (vs.map fun kv => if kv.1 = k then (kv.1, u) else kv) := by
  unfold KV at r ⊢
  induction r with
  | nil => exact .nil
  | @cons p q ps qs h t ih =>
    rw [List.map_cons, List.map_cons]
    refine .cons ?_ ih
    obtain ⟨h1, h2⟩ := h
    by_cases e : p.1 = k
    · rw [if_pos e, if_pos (h1.symm.trans e)]; exact ⟨h1, ry⟩
    · rw [if_neg e, if_neg (fun z => e (h1.trans z))]; exact ⟨h1, h2⟩
theorem KV.put {kvs : List (κ × V)} {vs : List (κ × Value)} (r : KV kvs vs) (k : κ) {y : V} {u : Value} (ry : RelV y u) : KV (putK kvs k y) (stored vs k u) := by
  unfold putK stored
  rw [r.any k]
  by_cases e : (vs.any fun kv => decide (kv.1 = k)) = true
  · rw [if_pos e, if_pos e]; exact r.repl k ry
  · rw [if_neg e, if_neg e]; exact Paired.snoc r ⟨rfl, ry⟩
theorem KV.drop {kvs : List (κ × V)} {vs : List (κ × Value)} (r : KV kvs vs) (k : κ) : KV (dropK kvs k) (without vs k) := by
  unfold KV at r ⊢
  unfold dropK without
  induction r with
  | nil => exact .nil
  | @cons p q ps qs h t ih =>
    obtain ⟨h1, h2⟩ := h
    rw [List.filter_cons, List.filter_cons]
    by_cases e : p.1 = k
    · have a : ¬ decide (p.1 ≠ k) = true := by simp [e]
      have b : ¬ decide (q.1 ≠ k) = true := by simp [h1.symm.trans e]
      rw [if_neg a, if_neg b]; exact ih
    · have e' : ¬ q.1 = k := fun z => e (h1.trans z)
      have a : decide (p.1 ≠ k) = true := by simp [e]
      have b : decide (q.1 ≠ k) = true := by simp [e']
      rw [if_pos a, if_pos b]; exact .cons ⟨h1, h2⟩ ih
theorem KV.keys {kvs : List (κ × V)} {vs : List (κ × Value)} (r : KV kvs vs) : kvs.map (·.1) = vs.map (·.1) := by
  unfold KV at r
  induction r with
  | nil => rfl
  | cons h t ih => rw [List.map_cons, List.map_cons, ih, h.1]
theorem KV.length {kvs : List (κ × V)} {vs : List (κ × Value)} (r : KV kvs vs) : kvs.length = vs.length := Paired.length r
end


theorem kV_is {P : Program} {w : World} {k : Key} {u : Value} (r : RelV (kV k) u) : (mixKind P w).is k u = true := by
  cases k with
  | inl i => obtain ⟨t, e⟩ := (show ∃ t, u = Value.int i t from r); subst e; exact mixKind_int P w i t
  | inr x => obtain ⟨t, e⟩ := (show ∃ t, u = Value.str x t from r); subst e; exact mixKind_str P w x t
theorem kV_inj {a b : Key} (e : kV a = kV b) : a = b := by
  cases a with
  | inl i => cases b with
    | inl j => have e' : V.int i = V.int j := e; injection e' with e'; rw [e']
    | inr y => exact nomatch (show V.int i = V.str y from e)
  | inr x => cases b with
    | inl j => exact nomatch (show V.str x = V.int j from e)
    | inr y => have e' : V.str x = V.str y := e; injection e' with e'; rw [e']
theorem items_are {P : Program} {w : World} : ∀ {ks : List Key} {us : List Value}, Vals (ks.map kV) us → ItemsAre (mixKind P w) ks us
  | [], _, r => by rw [List.map_nil] at r; cases r; exact .nil
  | k :: ks, _, r => by
    rw [List.map_cons] at r
    cases r with
    | cons h t => exact .cons (kV_is h) (items_are t)

abbrev KT (H : Hp) : List (List Key × V) → List (List Key × Addr × Value) → Prop := Paired fun p q => p.1 = q.1 ∧ H q.2.1 = some (.tup (p.1.map kV)) ∧ RelV p.2 q.2.2
theorem KT.val {H : Hp} {kvs : List (List Key × V)} {xs : List (List Key × Addr × Value)} (r : KT H kvs xs) (k : List Key) : RelO (valV kvs k) ((atKey xs k).map (·.2)) := by
  induction r with
  | nil => exact True.intro
  | @cons p q ps qs h t ih =>
    obtain ⟨h1, _, h2⟩ := h
    by_cases e : p.1 = k
    · have e' : q.1 = k := h1.symm.trans e
      have b : atKey (q :: qs) k = some q.2 := by simp [atKey, List.find?_cons, e']
      rw [valV_pos e, b]; exact h2
    · have e' : ¬ q.1 = k := fun z => e (h1.trans z)
      have b : atKey (q :: qs) k = atKey qs k := by simp [atKey, List.find?_cons, e']
      rw [valV_neg e, b]; exact ih
theorem KT.repl {H : Hp} {kvs : List (List Key × V)} {xs : List (List Key × Addr × Value)} (r : KT H kvs xs) (k : List Key) {y : V} {u : Value} (ry : RelV y u) :
    KT H (kvs.map fun kv => if kv.1 = k then (kv.1, y) else kv) (xs.map (putAt k u)) := by
  induction r with
  | nil => exact .nil
  | @cons p q ps qs h t ih =>
    rw [List.map_cons, List.map_cons]
    refine .cons ?_ ih
    obtain ⟨h1, h2, h3⟩ := h
    unfold putAt
    by_cases e : p.1 = k
    · rw [if_pos e, if_pos (h1.symm.trans e)]; exact ⟨h1, h2, ry⟩
    · rw [if_neg e, if_neg (fun z => e (h1.trans z))]; exact ⟨h1, h2, h3⟩
theorem KT.put {H : Hp} {kvs : List (List Key × V)} {xs : List (List Key × Addr × Value)} (r : KT H kvs xs) (k : List Key) {b : Addr} {y : V} {u : Value} (hb : H b = some (.tup (k.map kV))) (ry : RelV y u) :
    KT H (putK kvs k y) (storedH xs k b u) := by
  have e : (kvs.any fun kv => decide (kv.1 = k)) = (atKey xs k).isSome := by
    rw [valV_any, (r.val k).isSome_eq, Option.isSome_map]
  unfold putK storedH
  rw [e]
  by_cases q : (atKey xs k).isSome = true
  · rw [if_pos q, if_pos q]; exact r.repl k ry
  · rw [if_neg q, if_neg q]; exact Paired.snoc r ⟨rfl, hb, ry⟩
theorem KT.keeps {H H' : Hp} {kvs : List (List Key × V)} {xs : List (List Key × Addr × Value)} (r : KT H kvs xs) (ht : ∀ b ys, H b = some (.tup ys) → H' b = some (.tup ys)) : KT H' kvs xs :=
  Paired.mapP r fun _ _ z => ⟨z.1, ht _ _ z.2.1, z.2.2⟩

section
variable {P : Program} {w : World} {H : Hp} {h : Heap} {a : Addr}
theorem rd_of {u : HO} (ok : HOk P w H h) (e : Rd H a u) : ObjOk P w H h a u := e.ok ok
theorem dk_rd {kvs : List (Key × V)} (ok : HOk P w H h) (e : Rd H a (.dK kvs)) : kvs.length ≤ sizeLine ∧ (a == sysModules) = false ∧ ∃ vs, KV kvs vs ∧ h.DictOf (mixKind P w) a vs :=
  show ObjOk P w H h a (.dK kvs) from rd_of ok e
theorem dk_of {kvs : List (Key × V)} (ok : HOk P w H h) (e : H a = some (.dK kvs)) : kvs.length ≤ sizeLine ∧ (a == sysModules) = false ∧ ∃ vs, KV kvs vs ∧ h.DictOf (mixKind P w) a vs := dk_rd ok (.inl e)
theorem key_of {ks : List Key} (ok : HOk P w H h) (e : H a = some (.tup (ks.map kV))) : (tupleKind (mixKind P w)).is h ks a := by
  obtain ⟨_, its, r, o, h1, h2, n, h3⟩ := (show ObjOk P w H h a (.tup (ks.map kV)) from ok a _ e)
  exact ⟨o, its.toArray, n, h1, h2, h3, by simpa using items_are r⟩
theorem dt_rd {kvs : List (List Key × V)} (ok : HOk P w H h) (e : Rd H a (.dT kvs)) : kvs.length ≤ sizeLine ∧ (a == sysModules) = false ∧
    ∃ xs, KT H kvs xs ∧ h.DictOfH (tupleKind (mixKind P w)) a xs := by
  obtain ⟨z, y, xs, r, o, es, ep, h1, h2, h3, h4, h5⟩ := (show ObjOk P w H h a (.dT kvs) from rd_of ok e)
  refine ⟨z, y, xs, r, o, es, ep, h1, h2, h3, h4, fun x hx => ?_, h5⟩
  have all : ∀ {l : List (List Key × V)} {m : List (List Key × Addr × Value)}, KT H l m → ∀ x ∈ m, (tupleKind (mixKind P w)).is h x.1 x.2.1 := by
    intro l m q
    induction q with
    | nil => intro x hx; exact nomatch hx
    | @cons p q ps qs hq t ih =>
      intro x hx
      rcases List.mem_cons.mp hx with e | hx
      · subst e
        exact key_of ok (by rw [← hq.1]; exact hq.2.1)
      · exact ih x hx
  exact all r x hx
theorem dt_of {kvs : List (List Key × V)} (ok : HOk P w H h) (e : H a = some (.dT kvs)) : kvs.length ≤ sizeLine ∧ (a == sysModules) = false ∧
    ∃ xs, KT H kvs xs ∧ h.DictOfH (tupleKind (mixKind P w)) a xs := dt_rd ok (.inl e)
end

def DGet (H : Hp) (a : Addr) (y : V) (r : Option V) : Prop :=
  (∃ kvs k, Rd H a (.dK kvs) ∧ y = kV k ∧ r = valV kvs k) ∨ ∃ kvs k b, Rd H a (.dT kvs) ∧ y = .ref b ∧ H b = some (.tup (k.map kV)) ∧ r = valV kvs k
def DPut (H : Hp) (a : Addr) (y v : V) (H' : Hp) : Prop :=
  (∃ kvs k, H a = some (.dK kvs) ∧ y = kV k ∧ kvs.length < sizeLine ∧ H' = upd H a (.dK (putK kvs k v))) ∨
  ∃ kvs k b, H a = some (.dT kvs) ∧ y = .ref b ∧ H b = some (.tup (k.map kV)) ∧ kvs.length < sizeLine ∧ H' = upd H a (.dT (putK kvs k v))
theorem DGet.k {H : Hp} {a : Addr} {kvs : List (Key × V)} {k : Key} (e : H a = some (.dK kvs)) : DGet H a (kV k) (valV kvs k) := .inl ⟨kvs, k, .inl e, rfl, rfl⟩
theorem DGet.t {H : Hp} {a b : Addr} {kvs : List (List Key × V)} {k : List Key} (e : H a = some (.dT kvs)) (eb : H b = some (.tup (k.map kV))) : DGet H a (.ref b) (valV kvs k) := .inr ⟨kvs, k, b, .inl e, rfl, eb, rfl⟩
theorem DPut.k {H : Hp} {a : Addr} {kvs : List (Key × V)} {k : Key} {v : V} (e : H a = some (.dK kvs)) (hl : kvs.length < sizeLine) : DPut H a (kV k) v (upd H a (.dK (putK kvs k v))) := .inl ⟨kvs, k, e, rfl, hl, rfl⟩
theorem DPut.t {H : Hp} {a b : Addr} {kvs : List (List Key × V)} {k : List Key} {v : V} (e : H a = some (.dT kvs)) (eb : H b = some (.tup (k.map kV))) (hl : kvs.length < sizeLine) :
    DPut H a (.ref b) v (upd H a (.dT (putK kvs k v))) := .inr ⟨kvs, k, b, e, rfl, eb, hl, rfl⟩


section
variable {X : Cx} {pins : List (Addr × Obj)} {σ : St} {H : Hp} {s : Shared} {a : Addr} {y v : V} {u r : Value} {o : Option V} {A : Around} {E : Value → Shared → Prop}

theorem Inv.big (I : Inv X pins σ H s) : sysModules < s.heap.objs.size := by
  have h : mainGlobals < s.heap.objs.size := (I.mod.glob.keeps I.bk).lt
  exact Nat.lt_trans (by decide) h

theorem d_getItem {Q : Value → Shared → Prop} (hu : A.units + 1 < cLine) (I : Inv X pins σ H s) (g : DGet H a y (some v)) (ry : RelV y u) (h : ∀ w' s', Inv X pins σ H s' → RelV v w' → Q w' s') :
    wpAny (model X.prog X.w) A (getItem (.ref a) u) Q E s := by
  rcases g with ⟨kvs, k, e, ey, l⟩ | ⟨kvs, k, b, e, ey, eb, l⟩
  · subst ey
    obtain ⟨z, hd, vs, rel, dd⟩ := dk_rd I.hok e
    obtain ⟨w', hw, rw'⟩ := RelO.some_of (v := v) (o := valueAt vs k) (by rw [l]; exact rel.val k)
    exact wpAny_getItem_of (kV_is ry) dd.mapOf hw (h w' _ (I.tok _) rw')
  · subst ey
    cases (show u = Value.ref b from ry)
    obtain ⟨z, hd, xs, rel, dd⟩ := dt_rd I.hok e
    obtain ⟨w', hw, rw'⟩ := RelO.some_of (v := v) (o := (atKey xs k).map (·.2)) (by rw [l]; exact rel.val k)
    obtain ⟨p, hp, hp2⟩ := Option.map_eq_some_iff.mp hw
    refine wpAny_getItem_heap (tupleKind_room_in1 hu) (key_of I.hok eb) dd hp ?_
    rw [hp2]
    exact h w' _ (I.tok _) rw'
theorem d_in {Q : Value → Shared → Prop} (hu : A.units + 1 < cLine) (I : Inv X pins σ H s) (g : DGet H a y o) (ry : RelV y u) (h : ∀ s', Inv X pins σ H s' → Q (.bool o.isSome) s') :
    wpAny (model X.prog X.w) A (compareOp .In u (.ref a)) Q E s := by
  rcases g with ⟨kvs, k, e, ey, l⟩ | ⟨kvs, k, b, e, ey, eb, l⟩
  · subst ey
    obtain ⟨z, hd, vs, rel, dd⟩ := dk_rd I.hok e
    refine wpAny_in_of (kV_is ry) hd dd.mapOf ?_
    rw [← (rel.val k).isSome_eq, ← l]
    exact h _ (I.tok _)
  · subst ey
    cases (show u = Value.ref b from ry)
    obtain ⟨z, hd, xs, rel, dd⟩ := dt_rd I.hok e
    refine wpAny_in_heap (tupleKind_room_in1 hu) (key_of I.hok eb) hd dd ?_
    have q := (rel.val k).isSome_eq
    rw [Option.isSome_map] at q
    rw [← q, ← l]
    exact h _ (I.tok _)
theorem d_write {h' : Heap} {t' : Nat} {ob : HO} (I : Inv X pins σ H s) (mu : Mut (H a)) (hs : Heap.SameBut a s.heap h') (he : ∃ q, h'.get? a = some q) (new : ObjOk X.prog X.w (upd H a ob) h' a ob) :
    Inv X pins σ (upd H a ob) { s with heap := h', toks := t' } :=
  I.write (x := a) (e := a) mu (.inl rfl) (fun b q hb z => (hs.2 b hb).trans z) he new
theorem dk_new {P : Program} {w : World} {H' : Hp} {h' : Heap} {kvs : List (Key × V)} {vs : List (Key × Value)} (z : kvs.length ≤ sizeLine) (hd : (a == sysModules) = false) (rel : KV kvs vs) (dd : h'.DictOf (mixKind P w) a vs) :
    ObjOk P w H' h' a (.dK kvs) := ⟨z, hd, vs, rel, dd⟩
theorem d_setItem {H' : Hp} {Q : Unit → Shared → Prop} (hu : A.units + 1 < cLine) (I : Inv X pins σ H s) (g : DPut H a y v H') (ry : RelV y u) (rv : RelV v r) (h : ∀ s', Inv X pins σ H' s' → Q () s') :
    wpAny (model X.prog X.w) A (setItem (.ref a) u r) Q E s := by
  rcases g with ⟨kvs, k, e, ey, l, eH⟩ | ⟨kvs, k, b, e, ey, eb, l, eH⟩
  · subst ey eH
    obtain ⟨z, hd, vs, rel, dd⟩ := dk_of I.hok e
    have hz : vs.length ≤ sizeLine := by rw [← rel.length]; exact z
    have hl : (putK kvs k v).length ≤ sizeLine := by have := length_putK kvs k v; omega
    refine wpAny_setItem_pairs (hsz := hz) (kV_is ry) dd fun h' dd' hs => h _ ?_
    have he : ∃ q, h'.get? a = some q := let ⟨q, _, _, hq, _⟩ := dd'; ⟨q, hq⟩
    exact d_write I (by rw [e]; exact True.intro) hs he (dk_new hl hd (rel.put k rv) dd')
  · subst ey eH
    cases (show u = Value.ref b from ry)
    obtain ⟨z, hd, xs, rel, dd⟩ := dt_of I.hok e
    have hz : xs.length ≤ sizeLine := by rw [← Paired.length rel]; exact z
    have hl : (putK kvs k v).length ≤ sizeLine := by have := length_putK kvs k v; omega
    refine wpAny_setItem_heap (hsz := hz) (tupleKind_room_in1 hu) (key_of I.hok eb) dd fun h' dd' hs => h _ ?_
    obtain ⟨q, es, ep, hq, h2, h3, h4, _, h5⟩ := dd'
    refine d_write I (by rw [e]; exact True.intro) hs ⟨q, hq⟩ ⟨hl, hd, _, (rel.put k eb rv).keeps fun c ys ec => ?_, q, es, ep, hq, h2, h3, h4, h5⟩
    rw [upd_ne (ne_of ec e (fun z => nomatch z))]
    exact ec
end

section
variable {X : Cx} {pins : List (Addr × Obj)} {σ : St} {H : Hp} {s : Shared} {a : Addr} {kvs : List (Key × V)} {k : Key} {u : Value} {A : Around} {E : Value → Shared → Prop}
end


def NoSl (i : Expr) : Prop := ∀ ov iv, subscripted i false ov iv = operate [ov, iv] (getItem ov iv)
theorem subD_of {prog : Program} {w : World} {A : Around} {E : Value → Shared → Prop} {s : Shared} {env : Env} {value slice : Expr} {pos : Pos} {T id : String} {Q : Value → Shared → Prop}
    (hl : typeLookup (.type T) "__getitem__" = pure (some (.builtin id))) (hs : NoSl slice)
    (h : wpAny (model prog w) A (eval value env) (fun o s₁ => wpAny (model prog w) A (eval slice env) (fun i s₂ => s₂.TypeIs o T ∧ wpAny (model prog w) A (getItem o i) Q E s₂) E s₁) E s) :
    wpAny (model prog w) A (eval (.Subscript value slice pos) env) Q E s := by
  refine Subscript_ (wpAny_mono h (fun o s₁ h₁ => wpAny_mono h₁ (fun i s₂ h₂ => ?_) fun _ _ x => x) fun _ _ x => x)
  obtain ⟨hT, h₂⟩ := h₂
  unfold subscriptTail
  refine wpAny_bind ?_
  rw [getitemInPython_of_ne hT.not_modules]
  refine wpAny_bind (wpAny_specialOf hT hl ?_)
  have fin : wpAny (model prog w) A (subscripted slice false o i) (fun r s₃ => wpAny (model prog w) A (letTemporaryGo value o r >>= fun _ => pure r) Q E s₃) E s₂ := by
    rw [hs o i]
    exact wpAny_operating (wpAny_mono h₂ (fun r s₃ h₃ => wpAny_bind (wpAny_letTemporaryGo (wpAny_pure h₃))) fun _ _ x => x)
  first
    | exact wpAny_pure (wpAny_bind fin)
    | exact wpAny_bind (wpAny_pure (wpAny_bind fin))
    | exact wpAny_bind fin

theorem dict_typeIs {X : Cx} {pins : List (Addr × Obj)} {σ : St} {H : Hp} {s : Shared} {a : Addr} {y : V} {o : Option V} (I : Inv X pins σ H s) (g : DGet H a y o) : s.TypeIs (.ref a) "dict" := by
  rcases g with ⟨kvs, k, e, _, _⟩ | ⟨kvs, k, b, e, _, _, _⟩
  · obtain ⟨_, _, vs, _, dd⟩ := dk_rd I.hok e
    exact dd.typeIs
  · obtain ⟨_, _, xs, _, dd⟩ := dt_rd I.hok e
    exact dd.typeIs
def tDGet (td ty : TE) : TE := fun σ H Q => td σ H fun x H1 => ty σ H1 fun y H2 => ∃ a v, x = .ref a ∧ DGet H2 a y (some v) ∧ Q v H2
def tDIn (ty td : TE) : TE := fun σ H Q => ty σ H fun y H1 => td σ H1 fun x H2 => ∃ a o, x = .ref a ∧ DGet H2 a y o ∧ Q (.bl o.isSome) H2
def tDNotIn (ty td : TE) : TE := fun σ H Q => ty σ H fun y H1 => td σ H1 fun x H2 => ∃ a o, x = .ref a ∧ DGet H2 a y o ∧ Q (.bl (!o.isSome)) H2
def sDPut (td ty tv : TE) : TS := fun D σ H => tv σ H fun v H1 => td σ H1 fun x H2 => ty σ H2 fun y H3 => ∃ a H4, x = .ref a ∧ DPut H3 a y v H4 ∧ D.nx σ H4
def sDAug (td ty tv : TE) (rd : V → V → Hp → VK → Prop) : TS := fun D σ H => td σ H fun x H1 => ty σ H1 fun y H2 => ∃ a v, x = .ref a ∧ DGet H2 a y (some v) ∧
  tv σ H2 fun y2 H3 => rd v y2 H3 fun z H4 => ∃ H5, DPut H4 a y z H5 ∧ D.nx σ H5
def sDDel (td ty : TE) : TS := fun D σ H => td σ H fun x H1 => ty σ H1 fun y H2 => ∃ a kvs k, x = .ref a ∧ H2 a = some (.dK kvs) ∧ y = kV k ∧ (valV kvs k).isSome = true ∧ D.nx σ (upd H2 a (.dK (dropK kvs k)))

section
variable {X : Cx} {o i e value : Expr} {pos pos' tpos : Pos} {td ty tv : TE}
theorem pe_dget (hu : X.A.units + 1 < cLine) (ho : PE X o td) (hi : PE X i ty) (hs : NoSl i) : PE X (.Subscript o i pos) (tDGet td ty) := by
  intro pins s σ H Q I h
  refine subD_of PySem.F.slot_dict_getitem.lookup hs (thn (ho pins s σ H _ I h) fun u s1 ⟨x, H1, I1, rx, q1⟩ => thn (hi pins s1 σ H1 _ I1 q1) fun iv s2 ⟨y, H2, I2, ry, a, v, ex, g, q2⟩ => ?_)
  subst ex
  obtain rfl : u = Value.ref a := rx
  exact ⟨dict_typeIs I2 g, d_getItem hu I2 g ry fun w' s3 I3 rw' => ⟨v, H2, I3, rw', q2⟩⟩
theorem pc_din (hu : X.A.units + 1 < cLine) (hi : PE X i ty) (ho : PE X o td) : PC X .In i o (tDIn ty td) := by
  intro pins s σ H Q I h
  refine thn (hi pins s σ H _ I h) fun iv s1 ⟨y, H1, I1, ry, q1⟩ => thn (ho pins s1 σ H1 _ I1 q1) fun u s2 ⟨x, H2, I2, rx, a, ov, ex, g, q2⟩ => ?_
  subst ex
  obtain rfl : u = Value.ref a := rx
  exact d_in hu I2 g ry fun s3 I3 => ⟨.bl ov.isSome, H2, I3, rfl, q2⟩
theorem ps_dput (hu : X.A.units + 1 < cLine) (ho : PE X o td) (hi : PE X i ty) (hv : PE X value tv) (hs : swapsWith value (some (.Subscript o i pos')) pos.line X.env = pure false) :
    PS X (.Assign [.Subscript o i pos'] value pos) (sDPut td ty tv) := by
  intro pins s σ H D I h
  refine wpAny_Assign_Subscript (thn (hv pins s σ H _ I h) fun r s1 ⟨v, H1, I1, rv, q1⟩ => thn (ho pins s1 σ H1 _ I1 q1) fun u s2 ⟨x, H2, I2, rx, q2⟩ => thn (hi pins s2 σ H2 _ I2 q2) fun iv s3 ⟨y, H3, I3, ry, a, H4, ex, g, q3⟩ => ?_) hs
  subst ex
  obtain rfl : u = Value.ref a := rx
  exact d_setItem hu I3 g ry rv fun s4 I4 => ⟨σ, H4, I4, q3⟩
end


theorem dt_empty {P : Program} {w : World} {H : Hp} (h : Heap) (hb : sysModules < h.objs.size) : ObjOk P w H (h.push { cls := .type "dict", data := .dict #[] }) h.objs.size (.dT []) :=
  ⟨Nat.zero_le _, beq_eq_false_iff_ne.mpr (Ne.symm (Nat.ne_of_lt hb)), [], .nil, _, #[], 0, Heap.get?_push_size _ rfl, ⟨rfl, rfl, rfl⟩, rfl, rfl, List.nodup_nil⟩
def tDNewK : TE := fun _ H Q => ∀ p, H p = none → Q (.ref p) (upd H p (.dK []))
def tDNewT : TE := fun _ H Q => ∀ p, H p = none → Q (.ref p) (upd H p (.dT []))
section
variable {X : Cx} {pos : Pos}
theorem pe_dnewT : PE X (.Dict [] [] pos) tDNewT := fun pins s σ H Q I h =>
  wpAny_Dict_empty ⟨.ref s.heap.objs.size, _, I.laid (a := s.heap.objs.size) (o := .dT []) (t' := s.toks) (fun _ _ q => Heap.get?_push_of_some _ q) (Nat.le_refl _) (dt_empty s.heap I.big), rfl, h _ (I.hok.fresh (Nat.le_refl _))⟩
end

def tPairs : List (TE × TE) → St → Hp → (List (V × V) → Hp → Prop) → Prop
  | [], _, H, Q => Q [] H
  | (tk, tv) :: r, σ, H, Q => tk σ H fun x H1 => tv σ H1 fun y H2 => tPairs r σ H2 fun ps H3 => Q ((x, y) :: ps) H3
abbrev VV : List (V × V) → List (Value × Value) → Prop := Paired fun p q => RelV p.1 q.1 ∧ RelV p.2 q.2
def PPs (X : Cx) (pos : Pos) (keys : List (Option Expr)) (values : List Expr) (trs : List (TE × TE)) : Prop :=
  ∀ (pins : List (Addr × Obj)) (s : Shared) (σ : St) (H : Hp) (Q : List (V × V) → Hp → Prop), Inv X pins σ H s → tPairs trs σ H Q →
    wpAny (model X.prog X.w) X.A (evalPairs (pairTrees keys values X.env pos)) (fun vs s' => ∃ ps H', Inv X pins σ H' s' ∧ VV ps vs ∧ Q ps H') X.xe s
def mergeK (kvs more : List (Key × V)) : List (Key × V) := more.foldl (fun acc kv => putK acc kv.1 kv.2) kvs
def tDisp (trs : List (TE × TE)) : TE := fun σ H Q => ∀ p, H p = none → tPairs trs σ (upd H p (.dK [])) fun ps H2 => H2 p = some (.dK []) ∧ ∃ kvs : List (Key × V), ps = kvs.map (fun kv => (kV kv.1, kv.2)) ∧ kvs.length ≤ 15 ∧ Q (.ref p) (upd H2 p (.dK (mergeK [] kvs)))
structure M1 (X : Cx) (o : Expr) (m : Str) (apos : Pos) (e : Expr) (cpos : Pos) : Prop where
  base : attributeBase o m X.env (eval o X.env) = eval o X.env
  few : ((backTo cpos (starEach [e] X.env)).all (fun x => !x.1) && (backToKw cpos (keywordEach [] X.env)).all (fun x => x.1.isSome)
    && decide (([e] : List Expr).length + ([] : List Keyword).length + (if ([] : List Keyword).isEmpty then 0 else 1) < 30)) = true
  line : (apos.endLine == cpos.line) = true
  trees : backTo cpos (starEach [e] X.env) = [(false, eval e X.env)]
structure M2 (X : Cx) (o : Expr) (m : Str) (apos : Pos) (e f : Expr) (cpos : Pos) : Prop where
  base : attributeBase o m X.env (eval o X.env) = eval o X.env
  few : ((backTo cpos (starEach [e, f] X.env)).all (fun x => !x.1) && (backToKw cpos (keywordEach [] X.env)).all (fun x => x.1.isSome)
    && decide (([e, f] : List Expr).length + ([] : List Keyword).length + (if ([] : List Keyword).isEmpty then 0 else 1) < 30)) = true
  line : (apos.endLine == cpos.line) = true
  trees : backTo cpos (starEach [e, f] X.env) = [(false, eval e X.env), (false, eval f X.env)]

def IsD (H : Hp) (a : Addr) : Prop := (∃ kvs, Rd H a (.dK kvs)) ∨ ∃ kvs, Rd H a (.dT kvs)
section
variable {X : Cx} {pins : List (Addr × Obj)} {σ : St} {H : Hp} {s : Shared} {a : Addr} {y d : V} {u r : Value} {o : Option V} {A : Around} {E : Value → Shared → Prop}
end

def tDGet1 (td ty : TE) : TE := fun σ H Q => td σ H fun x H1 => ∃ a, x = .ref a ∧ IsD H1 a ∧ ty σ H1 fun y H2 => ∃ o, DGet H2 a y o ∧ Q (o.getD .non) H2
def tDGet2 (td ty tx : TE) : TE := fun σ H Q => td σ H fun x H1 => ∃ a, x = .ref a ∧ IsD H1 a ∧ ty σ H1 fun y H2 => tx σ H2 fun z H3 => ∃ o, DGet H3 a y o ∧ Q (o.getD z) H3
def tDPop1 (td ty : TE) : TE := fun σ H Q => td σ H fun x H1 => ∃ a, x = .ref a ∧ IsD H1 a ∧ ty σ H1 fun y H2 => ∃ kvs k v, H2 a = some (.dK kvs) ∧ y = kV k ∧ valV kvs k = some v ∧ Q v (upd H2 a (.dK (dropK kvs k)))
def tDPop2 (td ty tx : TE) : TE := fun σ H Q => td σ H fun x H1 => ∃ a, x = .ref a ∧ IsD H1 a ∧ ty σ H1 fun y H2 => tx σ H2 fun z H3 => ∃ kvs k, H3 a = some (.dK kvs) ∧ y = kV k ∧
  (∀ v, valV kvs k = some v → Q v (upd H3 a (.dK (dropK kvs k)))) ∧ (valV kvs k = none → Q z H3)
section
variable {X : Cx} {o e f : Expr} {apos cpos : Pos} {td ty tx : TE}
end

section
variable {X : Cx} {pins : List (Addr × Obj)} {σ : St} {H : Hp} {s : Shared} {a : Addr} {kvs : List (Key × V)} {A : Around} {E : Value → Shared → Prop}
end


section
variable {X : Cx} {pins : List (Addr × Obj)} {σ : St} {H : Hp} {s : Shared} {a : Addr} {y : V} {u : Value} {A : Around} {E : Value → Shared → Prop}
end
end L2

namespace L2
open PySem PySem.Spec PyProof.Rows

section
variable {κ : Type} [DecidableEq κ]
end

section
variable {X : Cx}
end
end L2

set_option Elab.async false
set_option linter.all false
set_option maxRecDepth 100000
set_option maxHeartbeats 1000000
namespace L2
open PySem PySem.Spec PyProof.Rows

theorem closure_ok {scope : Scope} {env : Env} (h : ∀ x, (x, NameKind.free) ∈ scope.names → ∃ c, env.cells.lookup x = some c) :
    ∃ cl, closureFor scope env = pure cl ∧ (∀ x c, cl.lookup x = some c → env.cells.lookup x = some c) ∧ ∀ x, (x, NameKind.free) ∈ scope.names → ∃ c, cl.lookup x = some c := by
  have go : ∀ (names : List (Str × NameKind)) (acc : List (Str × Addr)), (∀ x, (x, NameKind.free) ∈ names → ∃ c, env.cells.lookup x = some c) → (∀ x c, acc.lookup x = some c → env.cells.lookup x = some c) →
      ∃ cl, (forIn names acc fun (p : Str × NameKind) (r : List (Str × Addr)) => if p.2 == .free then (do let a ← cellOf env p.1; pure (ForInStep.yield ((p.1, a) :: r))) else pure (ForInStep.yield r) : Sem (List (Str × Addr))) = pure cl ∧
        (∀ x c, cl.lookup x = some c → env.cells.lookup x = some c) ∧ (∀ x c, acc.lookup x = some c → ∃ c', cl.lookup x = some c') ∧ ∀ x, (x, NameKind.free) ∈ names → ∃ c, cl.lookup x = some c := by
    intro names
    induction names with
    | nil => intro acc _ ha; exact ⟨acc, rfl, ha, fun x c e => ⟨c, e⟩, fun x z => nomatch z⟩
    | cons p r ih =>
      intro acc hn ha
      obtain ⟨n, k⟩ := p
      rw [List.forIn_cons]
      cases hk : (k == NameKind.free) with
      | false =>
        obtain ⟨cl, h1, h2, h3, h4⟩ := ih acc (fun x z => hn x (List.mem_cons_of_mem _ z)) ha
        refine ⟨cl, ?_, h2, h3, fun x z => ?_⟩
        · simp only [hk, Bool.false_eq_true, if_false, pure_bind]
          exact h1
        · rcases List.mem_cons.mp z with e | z
          · injection e with e1 e2
            rw [← e2] at hk
            exact absurd hk (by decide)
          · exact h4 x z
      | true =>
        have ek : k = .free := by simpa using hk
        subst ek
        obtain ⟨c, hc⟩ := hn n List.mem_cons_self
        have hcell : cellOf env n = pure c := by unfold cellOf; rw [hc]
        obtain ⟨cl, h1, h2, h3, h4⟩ := ih ((n, c) :: acc) (fun x z => hn x (List.mem_cons_of_mem _ z)) (fun x c' e => by
          rw [List.lookup_cons] at e
          cases hx : x == n with
          | true =>
            rw [hx] at e
            have e' : c = c' := Option.some.inj e
            have ex : x = n := by simpa using hx
            rw [ex, ← e']; exact hc
          | false => rw [hx] at e; exact ha x c' e)
        refine ⟨cl, ?_, h2, fun x c' e => ?_, fun x z => ?_⟩
        · simp only [beq_self_eq_true, if_true, hcell, pure_bind]
          exact h1
        · cases hx : x == n with
          | true => exact h3 x c (by rw [List.lookup_cons, hx])
          | false => exact h3 x c' (by rw [List.lookup_cons, hx]; exact e)
        · rcases List.mem_cons.mp z with e | z
          · injection e with e1 e2
            exact h3 x c (by rw [e1, List.lookup_cons]; simp)
          · exact h4 x z
  obtain ⟨cl, h1, h2, _, h4⟩ := go scope.names [] h (fun x c e => nomatch e)
  refine ⟨cl, ?_, h2, h4⟩
  rw [← h1]
  unfold closureFor
  simp only [bind_pure]

def cxComp (X : Cx) (scope : Scope) (cl : List (Str × Addr)) (C : Addr) (N : List Str) (s : Shared) (H : Hp) (ex : List Addr) : Cx where
  prog := X.prog
  w := X.w
  K := X.K
  mg := X.mg
  base := X.base
  A := X.A
  N := N
  s₀ := s
  H₀ := H
  env := compEnvC scope cl C X.env
  outer := X.stack
  stack := X.stack
  ex := ex
  calm := X.calm
  fn := fun x => match scope.names.lookup x with | some .cell => true | _ => false
  pn := []
  xe := fun _ _ => False

theorem lookup_relabel {env : Env} : ∀ {names : List (Str × NameKind)} {x : Str} {k : NameKind},
    (names.map fun (n, k) => if (k == NameKind.free && env.scope.kind == .function && env.kindOf n == some .cell) then (n, NameKind.cell) else (n, k)).lookup x = some k →
    ∃ k', names.lookup x = some k' ∧ (k' = k ∨ (k' = .free ∧ k = .cell))
  | [], _, _, h => by simp at h
  | (n, kk) :: r, x, k, h => by
    have ih := @lookup_relabel env r x k
    have h' : List.lookup x ((if (kk == NameKind.free && env.scope.kind == .function && env.kindOf n == some .cell) = true then (n, NameKind.cell) else (n, kk)) :: r.map fun (n, k) => if (k == NameKind.free && env.scope.kind == .function && env.kindOf n == some .cell) then (n, NameKind.cell) else (n, k)) = some k := h
    cases hx : x == n with
    | true =>
      by_cases hc : (kk == NameKind.free && env.scope.kind == .function && env.kindOf n == some .cell) = true
      · rw [if_pos hc, List.lookup_cons, hx] at h'
        have e : NameKind.cell = k := Option.some.inj h'
        have hf : kk = .free := by
          rw [Bool.and_eq_true, Bool.and_eq_true] at hc
          simpa using hc.1.1
        exact ⟨kk, by rw [List.lookup_cons, hx], .inr ⟨hf, e.symm⟩⟩
      · rw [if_neg hc, List.lookup_cons, hx] at h'
        exact ⟨kk, by rw [List.lookup_cons, hx], .inl (Option.some.inj h')⟩
    | false =>
      have h2 : List.lookup x (r.map fun (n, k) => if (k == NameKind.free && env.scope.kind == .function && env.kindOf n == some .cell) then (n, NameKind.cell) else (n, k)) = some k := by
        by_cases hc : (kk == NameKind.free && env.scope.kind == .function && env.kindOf n == some .cell) = true
        · rw [if_pos hc, List.lookup_cons, hx] at h'; exact h'
        · rw [if_neg hc, List.lookup_cons, hx] at h'; exact h'
      obtain ⟨k', e1, e2⟩ := ih h2
      exact ⟨k', by rw [List.lookup_cons, hx]; exact e1, e2⟩

structure CompScope (N : List Str) (osc scope : Scope) (own : List Str) (fr : List (Nat × Str)) : Prop where
  kind : scope.kind = .function
  cells : ∀ y ∈ scope.names, y.2 = .cell → scope.names.lookup y.1 = some .cell
  locs : ∀ y ∈ scope.names, y.2 = .local → scope.names.lookup y.1 = some .local
  free : ∀ y ∈ scope.names, y.2 = .free → osc.names.lookup y.1 = some .cell ∨ osc.names.lookup y.1 = some .free
  slot : ∀ p ∈ fr, N[p.1]? = some p.2 ∧ scope.names.lookup p.2 = some .free

theorem HOk.track {P : Program} {w : World} {H : Hp} {h : Heap} {a : Addr} {o : HO} (x : HOk P w H h) (hn : H a = none) (new : ObjOk P w (upd H a o) h a o) : HOk P w (upd H a o) h := fun b u e => by
  by_cases hb : b = a
  · subst hb; rw [upd_same] at e; cases e; exact new
  · rw [upd_ne hb] at e
    exact (x b u e).stay (fun c v _ q => q) (fun c q => by rw [upd_ne (ne_of_none q hn)]; exact q) fun c xs q => by rw [upd_ne (ne_of_none q hn)]; exact q
theorem HOk.but {P : Program} {w : World} {H : Hp} {h h' : Heap} {a : Addr} (x : HOk P w H h) (hn : H a = none) (k : ∀ b o, b ≠ a → h.get? b = some o → h'.get? b = some o) : HOk P w H h' := fun b u e =>
  (x b u e).stay (fun c v hc q => k c v (by
    rintro rfl
    rcases hc with rfl | hc
    · rw [hn] at e; cases e
    · rw [hn] at hc; cases hc) q) (fun _ q => q) fun _ _ q => q
theorem Un.track {fs ex : List Addr} {H H' : Hp} {h h' : Heap} {a : Addr} {o : HO} (u : Un fs ex H H' h h') (ha : h.objs.size ≤ a) (hn : H a = none) : Un fs ex H (upd H' a o) h h' where
  keep := u.keep
  slot := u.slot
  free := fun b ob q n hx => by rw [upd_ne (Nat.ne_of_lt (Nat.lt_of_lt_of_le (Heap.lt_size q) ha))]; exact u.free b ob q n hx
  there := u.there
  tups := fun b xs q => by rw [upd_ne (ne_of_none q hn)]; exact u.tups b xs q
  frzs := fun b ob v q => by rw [upd_ne (ne_of_none q hn)]; exact u.frzs b ob v q
  tbls := fun b ps q => by rw [upd_ne (ne_of_none q hn)]; exact u.tbls b ps q
theorem Un.but {fs ex : List Addr} {H H' : Hp} {h h' h'' : Heap} {a : Addr} (u : Un fs ex H H' h h') (ha : h.objs.size ≤ a) (k : ∀ b o, b ≠ a → h'.get? b = some o → h''.get? b = some o) : Un fs ex H H' h h'' where
  keep := fun b ob q n hb hx => k b ob (Nat.ne_of_lt (Nat.lt_of_lt_of_le (Heap.lt_size q) ha)) (u.keep b ob q n hb hx)
  slot := fun b ob q n hb hx => let ⟨sl, e⟩ := u.slot b ob q n hb hx; ⟨sl, k b _ (Nat.ne_of_lt (Nat.lt_of_lt_of_le (Heap.lt_size q) ha)) e⟩
  free := u.free
  there := fun b ob q hx => let ⟨o', e⟩ := u.there b ob q hx; ⟨o', k b _ (Nat.ne_of_lt (Nat.lt_of_lt_of_le (Heap.lt_size q) ha)) e⟩
  tups := u.tups
  frzs := u.frzs
  tbls := u.tbls

structure NewCells (scope : Scope) (nw : List (Str × Addr)) (h1 : Heap) (C : Addr) : Prop where
  ok : ∀ n c, (n, c) ∈ nw → h1.IsCell c none ∧ C < c
  apart : nw.Pairwise fun x y => x.2 ≠ y.2
  has : ∀ x, scope.names.lookup x = some .cell → ∃ c, nw.lookup x = some c
  of : ∀ x c, nw.lookup x = some c → (x, NameKind.cell) ∈ scope.names
theorem cellsFrom_acc : ∀ (names : List (Str × NameKind)) (n : Nat) (acc : List (Str × Addr)), cellsFrom n names acc = cellsFrom n names [] ++ acc
  | [], _, _ => rfl
  | (x, k) :: r, n, acc => by
    unfold cellsFrom
    split
    · rw [cellsFrom_acc r (n + 1) ((x, n) :: acc), cellsFrom_acc r (n + 1) [(x, n)], List.append_assoc]
      rfl
    · exact cellsFrom_acc r n acc
theorem cellsFrom_of : ∀ (names : List (Str × NameKind)) (n : Nat) (x : Str) (c : Addr), (x, c) ∈ cellsFrom n names [] → (x, NameKind.cell) ∈ names
  | [], _, _, _, h => nomatch h
  | (y, k) :: r, n, x, c, h => by
    unfold cellsFrom at h
    split at h
    · rename_i hk
      rw [cellsFrom_acc] at h
      rcases List.mem_append.mp h with h | h
      · exact List.mem_cons_of_mem _ (cellsFrom_of r _ x c h)
      · rw [List.mem_singleton] at h
        cases h
        have : k = .cell := by simpa using hk
        rw [this]
        exact List.mem_cons_self ..
    · exact List.mem_cons_of_mem _ (cellsFrom_of r _ x c h)
theorem lookup_app {α : Type} {x : Str} {a b : List (Str × α)} {c : α} (h : (a ++ b).lookup x = some c) : a.lookup x = some c ∨ (a.lookup x = none ∧ b.lookup x = some c) := by
  induction a with
  | nil => exact .inr ⟨rfl, h⟩
  | cons p r ih =>
    rw [List.cons_append, List.lookup_cons] at h
    rw [List.lookup_cons]
    cases hx : x == p.1 with
    | true => rw [hx] at h; exact .inl h
    | false => rw [hx] at h; exact ih h
theorem lookup_app_l {α : Type} {x : Str} {a b : List (Str × α)} {c : α} (h : a.lookup x = some c) : (a ++ b).lookup x = some c := by
  induction a with
  | nil => cases h
  | cons p r ih =>
    rw [List.lookup_cons] at h
    rw [List.cons_append, List.lookup_cons]
    cases hx : x == p.1 with
    | true => rw [hx] at h; exact h
    | false => rw [hx] at h; exact ih h
theorem lookup_app_r {α : Type} {x : Str} {a b : List (Str × α)} {c : α} (h : a.lookup x = none) (h2 : b.lookup x = some c) : (a ++ b).lookup x = some c := by
  induction a with
  | nil => exact h2
  | cons p r ih =>
    rw [List.lookup_cons] at h
    rw [List.cons_append, List.lookup_cons]
    cases hx : x == p.1 with
    | true => rw [hx] at h; cases h
    | false => rw [hx] at h; exact ih h
theorem newEnv_around {M : Model} {A : Around} {E : Value → Shared → Prop} {s : Shared} {scope : Scope} {globals : Addr} {closure : List (Str × Addr)} {qual : Str} {outer : Env} {Q : Env → Shared → Prop}
    (hQ : ∀ nw h1, NewCells scope nw h1 s.heap.objs.size → h1.Ns s.heap.objs.size (fun _ => none) → (∀ b o, s.heap.get? b = some o → h1.get? b = some o) →
      Q { scope, locals := s.heap.objs.size, globals, cells := nw ++ closure, qual, func := none, code := outer.code, frame := outer.frame, builtins := outer.builtins } { s with heap := h1 }) :
    wpAny M A (newFunctionEnv scope globals closure [] qual none .none (some outer)) Q E s := by
  simp only [newFunctionEnv, Option.isSome_some, if_true]
  refine wpAny_bind (wpAny_alloc ?_)
  refine wpAny_bind (wpAny_layCells _ (fun name kind cells => by cases hkc : kind == NameKind.cell <;> simp [hkc]) _ _ _ _ ?_)
  have ok := cellsFrom_ok scope.names (s.heap.push { cls := .type "dict", data := .dict #[] }) (s.heap.objs.size + 1) [] ⟨fun _ _ hm => (nomatch hm), List.Pairwise.nil⟩ (by rw [Heap.size_push]; exact Nat.le_refl _)
  rw [Heap.size_push] at ok
  rw [show ({ s with heap := s.heap.push { cls := .type "dict", data := .dict #[] } } : Shared).heap.objs.size = s.heap.objs.size + 1 from Heap.size_push ..]
  rw [List.forIn_nil]
  refine wpAny_bind (wpAny_pure (wpAny_pure ?_))
  rw [cellsFrom_acc]
  exact hQ _ _ ⟨fun n c h => ⟨(ok.empty n c h).1, (ok.empty n c h).2⟩, ok.apart, fun x h => cell_has h, fun x c h => cellsFrom_of _ _ x c (PySem.mem_of_lookup h)⟩
    ((Heap.Ns.new s.heap (.type "dict")).keeps (pushCells_keeps _ _)) fun b o e => pushCells_keeps _ _ b o (Heap.get?_push_of_some _ e)

def PIfs (X : Cx) (ifs : List Expr) (t : TT) : Prop :=
  ∀ (pins : List (Addr × Obj)) (s : Shared) (σ : St) (H : Hp) (Q : Bool → Hp → Prop), Inv X pins σ H s → t σ H Q →
    wpAny (model X.prog X.w) X.A (forIn ifs true fun c r => if r = true then do let ok ← isTrue c X.env (eval c X.env); pure (ForInStep.yield ok) else pure (ForInStep.yield r)) (TP X pins σ Q) X.xe s
def tYes : TT := fun _ H Q => Q true H
theorem pif_nil {X : Cx} : PIfs X [] tYes := fun _ _ _ H Q I h => wpAny_tests_nil ⟨H, I, h⟩
theorem pif_one {X : Cx} {c : Expr} {t : TT} (h : PT X c t) : PIfs X [c] t := fun pins s σ H Q I q => wpAny_tests_one (h pins s σ H Q I q)

def compStart' (own : List Str) (fr : List (Nat × Str)) (σ : St) : St := own.map (fun _ => none) ++ fr.map fun p => (σ[p.1]?).join

def CompGo (J : It) (g : TG) (tt : TT) (te : TE) (Q : VK) (σ₀ : St) (H1 : Hp) : Prop :=
  ∃ W : Nat → Nat → List V → St → Hp → Prop, (∃ m, W 0 m [] σ₀ H1) ∧ ∀ i m acc σ' H', W i m acc σ' H' →
    (J.stop i H' ∧ acc.length ≤ sizeLine ∧ ∀ p, H' p = none → Q (.ref p) (upd H' p (.lst acc))) ∨
    (J.go i H' ∧ acc.length < sizeLine ∧ ∃ N : List V → St → Hp → Prop, (∀ acc σ' H', N acc σ' H' → ∃ m', m' < m ∧ W (i + 1) m' acc σ' H') ∧ ∀ x H'', J.yld i H' x H'' → g x σ' H'' fun σ2 H2 => tt σ2 H2 fun ok H3 => if ok = true then te σ2 H3 fun y H4 => N (acc ++ [y]) σ2 H4 else N acc σ2 H3)
def tComp (own : List Str) (fr : List (Nat × Str)) (wi : TI) (g : TG) (tt : TT) (te : TE) : TE := fun σ H Q => wi σ H fun J H1 => CompGo J g tt te Q (compStart' own fr σ) H1

section
variable {X : Cx} {tg iter elt : Expr} {ifs : List Expr} {scope : Scope} {own : List Str} {fr : List (Nat × Str)} {pos : Pos}

theorem inv_comp {pins : List (Addr × Obj)} {σ : St} {H : Hp} {s : Shared} {cl : List (Str × Addr)} {ex : List Addr} {h1 : Heap} {m : Str → Option Value} {C : Addr} {t' : Nat} (S : CompScope X.N X.env.scope scope own fr) (I : Inv X pins σ H s)
    (hcl : ∀ x c, cl.lookup x = some c → X.env.cells.lookup x = some c) (hcl2 : ∀ x, (x, NameKind.free) ∈ scope.names → ∃ c, cl.lookup x = some c) (hex : ∀ b ∈ ex, FpOk X pins H b ∧ b < s.heap.objs.size)
    (hC : s.heap.objs.size ≤ C) (k : ∀ b o, s.heap.get? b = some o → h1.get? b = some o) (hn : h1.Ns C m) {nw : List (Str × Addr)} (nc : NewCells scope nw h1 C) :
    Inv (cxComp X scope (nw ++ cl) C (own ++ fr.map (·.2)) s H ex) [] (compStart' own fr σ) H { s with heap := h1, toks := t' } := by
  have okX := I.ok
  have isNew : ∀ x c, nw.lookup x = some c → C < c := fun x c e => (nc.ok x c (PySem.mem_of_lookup e)).2
  have isOld : ∀ x c, cl.lookup x = some c → c < C := fun x c e => by
    obtain ⟨v, o, ho, _⟩ := I.cell x c (hcl x c e)
    exact Nat.lt_of_lt_of_le (Heap.lt_size ho) hC
  have hinj : ∀ x y c, (nw ++ cl).lookup x = some c → (nw ++ cl).lookup y = some c → x = y := fun x y c e1 e2 => by
    rcases lookup_app e1 with a | ⟨_, a⟩ <;> rcases lookup_app e2 with b | ⟨_, b⟩
    · exact name_of_addr nc.apart (PySem.mem_of_lookup a) (PySem.mem_of_lookup b)
    · exact absurd (Nat.lt_trans (isNew x c a) (isOld y c b)) (Nat.lt_irrefl _)
    · exact absurd (Nat.lt_trans (isNew y c b) (isOld x c a)) (Nat.lt_irrefl _)
    · exact okX.inj x y c (hcl x c a) (hcl y c b)
  have hasF : ∀ x, (x, NameKind.free) ∈ scope.names → ∃ c, (nw ++ cl).lookup x = some c := fun x hx => by
    obtain ⟨c, e⟩ := hcl2 x hx
    cases z : nw.lookup x with
    | none => exact ⟨c, lookup_app_r z e⟩
    | some c' => exact ⟨c', lookup_app_l z⟩
  refine ⟨⟨okX.mod, ?_, okX.glob, okX.blt, hC, hinj, fun x hx => ?_, fun x c e1 e2 => ?_, okX.hd, okX.frames, .inl rfl, fun b hb => ?_, I.bs, Nat.le_trans okX.bsz I.sz, fun b o e hb => ?_, fun b hb hf => ?_, I.stack, I.stkFree⟩,
    rfl, I.bare, Un.kept k, ⟨m, hn, fun i x v e1 e2 e3 => ?_⟩, fun x c e => ?_, I.hok.fresh hC, fun x c e => ?_, fun p hp => absurd (show p ∈ ([] : List (Addr × Obj)) from hp) (by simp), I.hok.kept k, ?_⟩
  · exact S.kind
  · -- a cell's or a free name
    have hx' : (relabel scope X.env).names.lookup x = some .cell ∨ (relabel scope X.env).names.lookup x = some .free := hx
    have hfree : scope.names.lookup x = some .cell ∨ scope.names.lookup x = some .free := by
      rcases hx' with q | q
      · obtain ⟨k', e1, e2⟩ := lookup_relabel q
        rcases e2 with e2 | ⟨e2, _⟩
        · exact .inl (by rw [e1, e2])
        · exact .inr (by rw [e1, e2])
      · obtain ⟨k', e1, e2⟩ := lookup_relabel q
        rcases e2 with e2 | ⟨e2, e3⟩
        · exact .inr (by rw [e1, e2])
        · cases e3
    rcases hfree with hfree | hfree
    · obtain ⟨c, e⟩ := nc.has x hfree
      exact ⟨c, lookup_app_l e⟩
    · exact hasF x (PySem.mem_of_lookup hfree)
  · -- an own cell is new
    have e1' : (match scope.names.lookup x with | some .cell => true | _ => false) = true := e1
    have hce : scope.names.lookup x = some .cell := by
      split at e1'
      · assumption
      · cases e1'
    obtain ⟨c', e⟩ := nc.has x hce
    have e2' : (nw ++ cl).lookup x = some c := e2
    rw [lookup_app_l e] at e2'
    cases e2'
    exact Nat.le_trans hC (Nat.le_of_lt (isNew x c e))
  · obtain ⟨⟨f0, f1, f2, f3, f4, f5⟩, f6⟩ := hex b hb
    refine ⟨Nat.ne_of_lt (Nat.lt_of_lt_of_le f6 hC), fun x c e => ?_⟩
    rcases lookup_app (show (nw ++ cl).lookup x = some c from e) with a | ⟨_, a⟩
    · exact Nat.ne_of_gt (Nat.lt_trans (Nat.lt_of_lt_of_le f6 hC) (isNew x c a))
    · exact f4 x c (hcl x c a)
  · obtain ⟨⟨f0, f1, f2, f3, f4, f5⟩, f6⟩ := hex b hb
    rcases f3 with f3 | f3
    · exact okX.noex b o e f3
    · exact absurd (Nat.lt_of_lt_of_le (Heap.lt_size e) (Nat.le_trans okX.bsz f3)) (Nat.lt_irrefl _)
  · obtain ⟨⟨f0, f1, f2, f3, f4, f5⟩, f6⟩ := hex b hb
    rcases List.mem_cons.mp (I.stkSub b hf) with z | z
    · exact f1 z
    · exact f2 z
  · -- the values of the free names
    have e1' : (own ++ fr.map (·.2))[i]? = some x := e1
    have hi : own.length ≤ i := by
      by_cases h : i < own.length
      · unfold compStart' at e2
        rw [List.getElem?_append_left (by simpa using h), List.getElem?_map] at e2
        cases q : own[i]? with
        | none => rw [q] at e2; cases e2
        | some z => rw [q] at e2; cases e2
      · omega
    unfold compStart' at e2
    rw [List.getElem?_append_right (by simpa using hi), List.getElem?_map, List.length_map] at e2
    rw [List.getElem?_append_right hi, List.getElem?_map] at e1'
    cases q : fr[i - own.length]? with
    | none => rw [q] at e2; cases e2
    | some p =>
      rw [q] at e2 e1'
      have e1' : p.2 = x := Option.some.inj e1'
      have e2' : (σ[p.1]?).join = some v := Option.some.inj e2
      obtain ⟨hs1, hs2⟩ := S.slot p (List.mem_of_getElem? q)
      rw [e1'] at hs1 hs2
      have e2'' : σ[p.1]? = some (some v) := by
        cases z : σ[p.1]? with
        | none => rw [z] at e2'; cases e2'
        | some y => rw [z] at e2'; exact congrArg some e2'
      obtain ⟨mX, hnX, hlX⟩ := I.loc
      have hfr := S.free (x, .free) (PySem.mem_of_lookup hs2) rfl
      have hvis : Vis X.env.scope x := by
        rcases hfr with z | z
        · exact .inr (.inl z)
        · exact .inr (.inr z)
      obtain ⟨u, r, l⟩ := hlX p.1 x v hs1 e2'' hvis
      refine ⟨u, r, ?_⟩
      have hkc : X.env.kindOf x = some .cell ∨ X.env.kindOf x = some .free := hfr
      rcases l with ⟨kx, _⟩ | ⟨kx, c, hc, z⟩
      · rcases hkc with w | w
        · rw [w] at kx; cases kx
        · rw [w] at kx; cases kx
      · obtain ⟨c', hc'⟩ := hcl2 x (PySem.mem_of_lookup hs2)
        have hcc := hcl x c' hc'
        rw [hc] at hcc
        cases hcc
        have e3' : (relabel scope X.env).names.lookup x = some .local ∨ (relabel scope X.env).names.lookup x = some .cell ∨ (relabel scope X.env).names.lookup x = some .free := e3
        have hnew : nw.lookup x = none := by
          cases z : nw.lookup x with
          | none => rfl
          | some c'' =>
            have := S.cells _ (nc.of x c'' z) rfl
            rw [hs2] at this
            cases this
        refine .inr ⟨?_, c, lookup_app_r hnew hc', ?_⟩
        · rcases e3' with w | w | w
          · obtain ⟨k', q1, q2⟩ := lookup_relabel w
            rw [hs2] at q1
            cases q1
            rcases q2 with q2 | ⟨_, q2⟩ <;> cases q2
          · exact .inl w
          · exact .inr w
        · obtain ⟨o, ho, hd⟩ := z
          exact ⟨o, k _ _ ho, hd⟩
  · rcases lookup_app (show (nw ++ cl).lookup x = some c from e) with a | ⟨_, a⟩
    · exact ⟨none, (nc.ok x c (PySem.mem_of_lookup a)).1⟩
    · obtain ⟨v, o, ho, hd⟩ := I.cell x c (hcl x c a)
      exact ⟨v, o, k _ _ ho, hd⟩
  · rcases lookup_app (show (nw ++ cl).lookup x = some c from e) with a | ⟨_, a⟩
    · exact I.hok.fresh (Nat.le_trans hC (Nat.le_of_lt (isNew x c a)))
    · exact I.freeC x c (hcl x c a)
  · show (compStart' own fr σ).length = (own ++ fr.map (·.2)).length
    unfold compStart'
    rw [List.length_append, List.length_append, List.length_map, List.length_map, List.length_map]

theorem comp_block {pins : List (Addr × Obj)} {σ : St} {H2 : Hp} {s2 : Shared} {cl : List (Str × Addr)} {it : Addr} {fp : List Addr} {tn : Nat → Heap → Prop} {J : It} {g : TG} {tt : TT} {te : TE} {Q : VK} {E : Value → Shared → Prop}
    {RR : Value → Addr → Result → Shared → Prop} (hc : X.calm = true) (S : CompScope X.N X.env.scope scope own fr) (I : Inv X pins σ H2 s2) (hcl : ∀ x c, cl.lookup x = some c → X.env.cells.lookup x = some c)
    (hcl2 : ∀ x, (x, NameKind.free) ∈ scope.names → ∃ c, cl.lookup x = some c) (T : Turn X.prog X.w X.K tg J fp it tn) (st : tn 0 s2.heap) (hfp : ∀ b ∈ fp, FpOk X pins H2 b)
    (hb : ∀ (cl : List (Str × Addr)) (C : Addr) (s : Shared) (H : Hp) (ex : List Addr), PG (cxComp X scope cl C (own ++ fr.map (·.2)) s H ex) tg g ∧ PIfs (cxComp X scope cl C (own ++ fr.map (·.2)) s H ex) ifs tt ∧ PE (cxComp X scope cl C (own ++ fr.map (·.2)) s H ex) elt te)
    (hq : CompGo J g tt te Q (compStart' own fr σ) H2)
    (fin : ∀ (D C : Addr) (s' : Shared) (H' : Hp), (∃ m, s'.heap.Ns C m) → s2.heap.objs.size ≤ C → C ≠ D → H' C = none → Q (.ref D) H' → (∀ h'', (∀ b o, b ≠ C → s'.heap.get? b = some o → h''.get? b = some o) → Inv X pins σ H' { s' with heap := h'' }) → RR (.ref D) C (.ok .next) s') :
    wpAny (model X.prog X.w) X.A (newList []) (fun acc s₃ => wpAny (model X.prog X.w) X.A (newFunctionEnv scope X.env.globals cl [] X.env.qual none .none (some X.env)) (fun cenv s₄ =>
      codeAny (model X.prog X.w) X.A (.compStart (.ListComp elt [⟨tg, iter, ifs, 0⟩] scope pos) 0 (.ref it) acc { cenv with scope := relabel scope X.env }) (RR acc cenv.locals) s₄) E s₃) E s2 := by
  obtain ⟨W, ⟨m0, w0⟩, turn⟩ := hq
  refine wpAny_newObj_type (newEnv_around (fun nw h₁ nc hns₁ hsb₁ => ?_))
  dsimp only at nc hns₁ hsb₁ ⊢
  generalize hH2 : s2.heap.push { cls := .type "list", dict := none, data := .seq ([] : List Value).toArray } = HH at nc hns₁ hsb₁ ⊢
  have hC : HH.objs.size = s2.heap.objs.size + 1 := by rw [← hH2, Heap.size_push]
  have hDC : s2.heap.objs.size ≠ HH.objs.size := by rw [hC]; exact Nat.ne_of_lt (Nat.lt_succ_self _)
  have hCle : s2.heap.objs.size ≤ HH.objs.size := by rw [hC]; exact Nat.le_succ _
  have old : ∀ b o, s2.heap.get? b = some o → h₁.get? b = some o := fun b o e =>
    hsb₁ b o (hH2 ▸ Heap.get?_push_of_some _ e)
  have hacc : h₁.get? s2.heap.objs.size = some { cls := .type "list", data := .seq ([] : List Value).toArray } := hsb₁ _ _ (hH2 ▸ Heap.get?_push_size _ rfl)
  have flt : ∀ b ∈ fp, b < s2.heap.objs.size := fun b hb => by
    obtain ⟨o, e, _⟩ := T.obj _ _ st b hb
    exact Heap.lt_size e
  have hlt : s2.heap.objs.size < HH.objs.size := by rw [hC]; exact Nat.lt_succ_self _
  obtain ⟨D, hD⟩ : ∃ D : Nat, D = s2.heap.objs.size := ⟨_, rfl⟩
  obtain ⟨C, hCC⟩ : ∃ C : Nat, C = HH.objs.size := ⟨_, rfl⟩
  rw [← hD] at hacc ⊢
  rw [← hCC] at nc hns₁ ⊢
  have hDlt : D < C := by rw [hD, hCC]; exact hlt
  have hDs : s2.heap.objs.size ≤ D := Nat.le_of_eq hD.symm
  have hCs : s2.heap.objs.size ≤ C := Nat.le_trans hDs (Nat.le_of_lt hDlt)
  have nDC : D ≠ C := Nat.ne_of_lt hDlt
  have nfD : ∀ b ∈ fp, b ≠ D := fun b hb => Nat.ne_of_lt (Nat.lt_of_lt_of_le (flt b hb) hDs)
  have nfC : ∀ b ∈ fp, b ≠ C := fun b hb => Nat.ne_of_lt (Nat.lt_of_lt_of_le (flt b hb) hCs)
  have I0 : Inv (cxComp X scope (nw ++ cl) C (own ++ fr.map (·.2)) s2 H2 fp) [] (compStart' own fr σ) H2 { s2 with heap := h₁, toks := s2.toks } :=
    inv_comp S I hcl hcl2 (fun b hb => ⟨hfp b hb, flt b hb⟩) hCs old hns₁ nc
  obtain ⟨pg, pt, pe⟩ := hb (nw ++ cl) C s2 H2 fp
  have Dcell : ∀ x c, (nw ++ cl).lookup x = some c → c ≠ D := fun x c e => by
    rcases lookup_app e with a | ⟨_, a⟩
    · exact Nat.ne_of_gt (Nat.lt_trans hDlt (nc.ok x c (PySem.mem_of_lookup a)).2)
    · obtain ⟨v, q⟩ := I.cell x c (hcl x c a)
      exact Nat.ne_of_lt (Nat.lt_of_lt_of_le q.lt hDs)
  have Dstk : D ∉ frs X.stack := fun hf => by
    rcases List.mem_cons.mp (I.stkSub D hf) with z | z
    · have h1 := I.lt
      rw [← z] at h1
      exact Nat.lt_irrefl _ (Nat.lt_of_lt_of_le h1 hDs)
    · exact I.nofs hDs z
  have stat : ∀ {H' : Hp} {pl : List (Addr × Obj)}, (∀ b ∈ fp, H' b = none) → (∀ p ∈ pl, p.1 = D) → ∀ b ∈ fp, FpOk (cxComp X scope (nw ++ cl) C (own ++ fr.map (·.2)) s2 H2 fp) pl H' b := fun {H' pl} hn hpl b hb => by
    obtain ⟨f0, f1, f2, f3, f4, f5⟩ := hfp b hb
    refine ⟨hn b hb, nfC b hb, fun hf => ?_, .inl hb, fun x c e => (by
      rcases lookup_app (show (nw ++ cl).lookup x = some c from e) with a | ⟨_, a⟩
      · exact Nat.ne_of_gt (Nat.lt_trans (Nat.lt_of_lt_of_le (flt b hb) hCs) (nc.ok x c (PySem.mem_of_lookup a)).2)
      · exact f4 x c (hcl x c a)), fun p hp z => ?_⟩
    · rcases List.mem_cons.mp (I.stkSub b hf) with z | z
      · exact f1 z
      · exact f2 z
    · have h1 : p.1 = D := hpl p (by simpa [cxComp] using hp)
      exact nfD b hb (z.symm.trans h1)
  have loop : ∀ s₃ : Shared, s₃ = { s2 with heap := h₁, toks := s2.toks } →
      codeAny (model X.prog X.w) X.A (.compLoop (.ListComp elt [⟨tg, iter, ifs, 0⟩] scope pos) 0 (.ref it) (.ref D) (compEnvC scope (nw ++ cl) C X.env)) (RR (.ref D) C) s₃ := by
    rintro s₃ rfl
    refine codeAny_loop rfl (fun n s' => ∃ i σ' H' acc its k, Inv (cxComp X scope (nw ++ cl) C (own ++ fr.map (·.2)) s2 H2 fp) [] σ' H' s' ∧ tn i s'.heap ∧ (∀ b ∈ fp, H' b = none) ∧ H' D = none ∧
      s'.heap.get? D = some { cls := .type "list", data := .seq its.toArray k } ∧ Vals acc its ∧ W i n acc σ' H') ?_ m0
      ⟨0, _, H2, [], [], 0, I0, T.keep _ _ _ st fun b hb o e => old b o e, fun b hb => (hfp b hb).1, I.hok.fresh hDs, hacc, .nil, w0⟩
    rintro n s' ⟨i, σ', H', acc, its, k, I1, st1, fr1, nD, gD, rv, w1⟩
    show wpAny _ X.A ((compTurn (.ListComp elt [⟨tg, iter, ifs, 0⟩] scope pos) 0 (.ref it) (.ref D) (compEnvC scope (nw ++ cl) C X.env)).onRaise (fun x => do noteFrame x (compEnvC scope (nw ++ cl) C X.env); theTreesLotGoes x)) _ _ s'
    refine wpAny_noted ?_
    rw [compTurn_list]
    have I1' : Inv (cxComp X scope (nw ++ cl) C (own ++ fr.map (·.2)) s2 H2 fp) [(D, { cls := .type "list", data := .seq its.toArray k })] σ' H' s' := I1.pins_of fun p hp => by
      have e : p = (D, { cls := .type "list", data := .seq its.toArray k }) := by simpa using hp
      subst e
      exact ⟨gD, nD, nDC, Dstk, fun v z => nomatch z⟩
    rcases turn i n acc σ' H' w1 with ⟨stop, hz, qq⟩ | ⟨go, hz, NN, hNN, step⟩
    · refine wpAny_bind (wpAny_standAt (wpAny_bind (wpAny_mono (T.done (cxComp X scope (nw ++ cl) C (own ++ fr.map (·.2)) s2 H2 fp) rfl rfl rfl hc i _ s' σ' H' (fun _ _ => False) I1' (stat fr1 (by simp)) st1 stop) (fun r s4 ⟨hr, I4⟩ => ?_) fun _ _ z => z.elim)))
      subst hr
      refine wpAny_pure ?_
      have gD4 := (I4.pin (D, _) (List.mem_append_right _ (List.mem_singleton.mpr rfl))).1
      have hC4 : H' C = none := I4.free
      have hC5 : (upd H' D (.lst acc)) C = none := by rw [upd_ne (Ne.symm nDC)]; exact hC4
      refine fin D C s4 (upd H' D (.lst acc)) ?_ hCs (Ne.symm nDC) hC5 (qq D nD) fun h'' kk => ?_
      · obtain ⟨m, hn, _⟩ := I4.loc
        exact ⟨m, hn⟩
      · have un : Un (frs X.stack) fp H2 (upd H' D (.lst acc)) s2.heap h'' := Un.but (a := C) (Un.track (o := .lst acc) I4.base hDs (I.hok.fresh hDs)) hCs kk
        have hok : HOk X.prog X.w (upd H' D (.lst acc)) s4.heap := HOk.track I4.hok nD ⟨hz, its, k, rv, gD4⟩
        exact I.call' (s' := { s4 with heap := h'' }) (ch := fp) I4.os un (HOk.but hok hC5 kk) I4.bare fun b hb => by
          obtain ⟨f0, f1, f2, f3, f4, f5⟩ := hfp b hb
          exact ⟨f3, f1, f4, f5⟩
    · refine wpAny_bind (wpAny_standAt (wpAny_bind (wpAny_mono (T.item (cxComp X scope (nw ++ cl) C (own ++ fr.map (·.2)) s2 H2 fp) rfl rfl rfl hc i _ s' σ' H' (fun _ _ => False) I1' (stat fr1 (by simp)) st1 go) (fun r s4 ⟨u, hr, h4⟩ => ?_) fun _ _ z => z.elim)))
      subst hr
      refine wpAny_bind (wpAny_mono h4 (fun _ s5 ⟨x, H5, I5, r5, y5, st5, fr5⟩ => ?_) fun _ _ z => z.elim)
      have I5' := I5.pinned (stat fr5 (by simp)) (T.obj _ _ st5)
      refine wpAny_bind (wpAny_mono (pg _ s5 σ' H5 x u _ I5' r5 (step x H5 y5)) (fun _ s6 ⟨σ6, H6, I6, q6⟩ => ?_) fun _ _ z => z.elim)
      refine wpAny_bind (wpAny_mono (pt _ s6 σ6 H6 _ I6 q6) (fun ok s7 ⟨H7, I7, q7⟩ => ?_) fun _ _ z => z.elim)
      have again : ∀ {s8 : Shared} {H8 : Hp} {acc' : List V} {its' : List Value} {k' m' : Nat}, Inv (cxComp X scope (nw ++ cl) C (own ++ fr.map (·.2)) s2 H2 fp) (pinsAt fp s5.heap) σ6 H8 s8 → H8 D = none →
          s8.heap.get? D = some { cls := .type "list", data := .seq its'.toArray k' } → Vals acc' its' → m' < n → W (i + 1) m' acc' σ6 H8 →
          ∃ m, m < n ∧ ∃ i σ' H' acc its k, Inv (cxComp X scope (nw ++ cl) C (own ++ fr.map (·.2)) s2 H2 fp) [] σ' H' s8 ∧ tn i s8.heap ∧ (∀ b ∈ fp, H' b = none) ∧ H' D = none ∧
            s8.heap.get? D = some { cls := .type "list", data := .seq its.toArray k } ∧ Vals acc its ∧ W i m acc σ' H' := fun {s8 H8 acc' its' k' m'} I8 n8 g8 rv8 hm w8 => by
        refine ⟨m', hm, i + 1, σ6, H8, acc', its', k', I8.pins_of (fun p hp => nomatch hp), T.keep _ _ _ st5 fun b hb o e => (I8.pin (b, o) (List.mem_append_right _ (mem_pinsAt hb e))).1, fun b hb => ?_, n8, g8, rv8, w8⟩
        obtain ⟨o, e, d⟩ := T.obj _ _ st5 b hb
        exact (I8.pin (b, o) (List.mem_append_right _ (mem_pinsAt hb e))).2.1
      have dropD : ∀ {s8 : Shared} {H8 : Hp}, Inv (cxComp X scope (nw ++ cl) C (own ++ fr.map (·.2)) s2 H2 fp) ([(D, { cls := .type "list", data := .seq its.toArray k })] ++ pinsAt fp s5.heap) σ6 H8 s8 →
          Inv (cxComp X scope (nw ++ cl) C (own ++ fr.map (·.2)) s2 H2 fp) (pinsAt fp s5.heap) σ6 H8 s8 := fun I8 => I8.pins_of fun p hp => I8.pin p (List.mem_append_right _ (List.mem_append_right _ hp))
      cases ok with
      | false =>
        rw [if_neg Bool.false_ne_true] at q7
        obtain ⟨m', hm, w7⟩ := hNN _ _ _ q7
        have pD := I7.pin (D, _) (List.mem_append_right _ (List.mem_append_left _ (List.mem_singleton.mpr rfl)))
        simp only [Bool.false_eq_true, if_false]
        exact wpAny_pure ⟨rfl, again (dropD I7) pD.2.1 pD.1 rv hm w7⟩
      | true =>
        rw [if_pos rfl] at q7
        simp only [if_true]
        refine wpAny_bind (wpAny_bind (wpAny_mono (pe _ s7 σ6 H7 _ I7 q7) (fun u8 s8 ⟨y, H8, I8, r8, q8⟩ => ?_) fun _ _ z => z.elim))
        obtain ⟨m', hm, w8⟩ := hNN _ _ _ q8
        have pD := I8.pin (D, _) (List.mem_append_right _ (List.mem_append_left _ (List.mem_singleton.mpr rfl)))
        obtain ⟨gD8, nD8, _⟩ := pD
        have hlen := rv.length
        refine wpAny_bind (call_meets F.slot_list_append ⟨_, gD8, rfl⟩ F.entry_list_append (F.args_list_append_2 _ _) (PySem.list_append D its.toArray k u8 (by rw [List.size_toArray]; omega)) ⟨gD8, ?_⟩)
        refine wpAny_pure (wpAny_pure ⟨rfl, ?_⟩)
        have q := PySem.IsL.update gD8 (·.push u8)
        have e9 : its.toArray.push u8 = (its ++ [u8]).toArray := by simp
        rw [e9] at q
        refine again (its' := its ++ [u8]) ((dropD I8).turned (it := D) (t' := _) (fun b o hb e => (Heap.get?_update_other s8.heap _ (Ne.symm hb)).trans e) nD8 nDC (.inr hDs) (fun x c e => Dcell x c e) fun p hp z => ?_) nD8 q (rv.append (.cons r8 .nil)) hm w8
        have hp' : p ∈ pinsAt fp s5.heap := by simpa [cxComp] using hp
        exact nfD p.1 (of_pinsAt hp').1 z
  exact codeAny_compStart_list (loop _ rfl) (T.self _ 0 _ _ _ (T.keep _ _ _ st fun b hb o e => old b o e) (loop _ rfl))

theorem pe_comp {wi : TI} {g : TG} {tt : TT} {te : TE} (hc : X.calm = true) (S : CompScope X.N X.env.scope scope own fr) (hi : PI X tg iter wi)
    (hb : ∀ (cl : List (Str × Addr)) (C : Addr) (s : Shared) (H : Hp) (ex : List Addr), PG (cxComp X scope cl C (own ++ fr.map (·.2)) s H ex) tg g ∧ PIfs (cxComp X scope cl C (own ++ fr.map (·.2)) s H ex) ifs tt ∧ PE (cxComp X scope cl C (own ++ fr.map (·.2)) s H ex) elt te)
    (hs : ∀ x, foldedSetIterable iter X.env x = pure x := by intro _; rfl) : PE X (.ListComp elt [⟨tg, iter, ifs, 0⟩] scope pos) (tComp own fr wi g tt te) := by
  intro pins s σ H Q I h
  obtain ⟨cl, hclos, hcl, hcl2⟩ := closure_ok (scope := scope) (env := X.env) fun x hx => I.ok.has x (S.free (x, .free) hx rfl)
  rw [eval_ListComp]
  refine wpAny_comprehension_free (use := none) rfl hs hclos S.kind S.locs (thn (hi pins s σ H _ I h) fun xv s₁ h₁ => thn h₁ fun itv s₂ h₂ => ?_)
  obtain ⟨it, fp, tn, J, H2, e, I2, T, st2, f2, hq⟩ := h₂
  subst e
  refine comp_block hc S I2 hcl hcl2 T st2 f2 hb hq (RR := fun acc C => compPost (model X.prog X.w) X.A X.xe none (EP X pins σ Q) acc C) fun D C s' H' hn hC1 hCD hC2 q inv => ?_
  obtain ⟨m, hn⟩ := hn
  exact ⟨m, hn, fun h'' sb => ⟨.ref D, H', inv h'' fun b o hb e => sb.extBut b o hb e, rfl, q⟩⟩

theorem ps_comp {i : Nat} {x : Str} {px spos : Pos} {wi : TI} {g : TG} {tt : TT} {te : TE} (hc : X.calm = true) (hN : X.N.Nodup) (hix : X.N[i]? = some x) (hx : X.env.scope.names.lookup x = some .local) (S : CompScope X.N X.env.scope scope own fr) (hi : PI X tg iter wi)
    (hb : ∀ (cl : List (Str × Addr)) (C : Addr) (s : Shared) (H : Hp) (ex : List Addr), PG (cxComp X scope cl C (own ++ fr.map (·.2)) s H ex) tg g ∧ PIfs (cxComp X scope cl C (own ++ fr.map (·.2)) s H ex) ifs tt ∧ PE (cxComp X scope cl C (own ++ fr.map (·.2)) s H ex) elt te)
    (hsw : swapsWith (.ListComp elt [⟨tg, iter, ifs, 0⟩] scope pos) (some (.Name x px)) spos.line X.env = pure true) (hs : ∀ x, foldedSetIterable iter X.env x = pure x := by intro _; rfl) :
    PS X (.Assign [.Name x px] (.ListComp elt [⟨tg, iter, ifs, 0⟩] scope pos) spos) (tAsg (tComp own fr wi g tt te) (gName i)) := by
  intro pins s σ H D I h
  obtain ⟨cl, hclos, hcl, hcl2⟩ := closure_ok (scope := scope) (env := X.env) fun x hx => I.ok.has x (S.free (x, .free) hx rfl)
  rw [exec_Assign_Name_used _ _ _ _ hsw]
  refine wpAny_bind (wpAny_standAt (wpAny_bind ?_))
  show wpAny _ X.A (do let _ ← comprehension (.ListComp elt [⟨tg, iter, ifs, 0⟩] scope pos) scope X.env _ (newList []) false (eval iter X.env) (some (assign (.Name x px) X.env))) _ _ s
  refine wpAny_bind (wpAny_mono (wpAny_comprehension_free (use := some (assign (.Name x px) X.env)) (Q := fun _ s' => SP X pins D .next s') rfl hs hclos S.kind S.locs (thn (hi pins s σ H _ I h) fun xv s₁ h₁ => thn h₁ fun itv s₂ h₂ => ?_)) (fun _ s' hq => wpAny_pure (wpAny_pure hq)) fun _ _ e => e)
  obtain ⟨it, fp, tn, J, H2, e, I2, T, st2, f2, hq⟩ := h₂
  subst e
  refine comp_block (Q := fun x H1 => gName i x σ H1 D.nx) hc S I2 hcl hcl2 T st2 f2 hb hq (RR := fun acc C => compPost (model X.prog X.w) X.A X.xe (some (assign (.Name x px) X.env)) (fun _ s' => SP X pins D .next s') acc C) fun Da C s' H' hn hC1 hCD hC2 q inv => ?_
  obtain ⟨m, hn⟩ := hn
  have I3 : Inv X pins σ H' { s' with heap := s'.heap } := inv s'.heap fun _ _ _ e => e
  show wpAny _ X.A (assign (.Name x px) X.env (.ref Da)) _ _ s'
  refine wpAny_assign_Name (store_ok2 I3 hN hix (.inl hx) (v := .ref Da) rfl (fun s4 I4 ⟨a, sb, ha⟩ => ?_) (.inr hx))
  have hCL : C ≠ X.env.locals := Nat.ne_of_gt (Nat.lt_of_lt_of_le I2.lt hC1)
  have hCc : ∀ y c, X.env.cells.lookup y = some c → c ≠ C := fun y c e => by
    obtain ⟨v, w⟩ := I2.cell y c e
    exact Nat.ne_of_lt (Nat.lt_of_lt_of_le w.lt hC1)
  have haC : C ≠ a := by
    rcases ha with ha | ha
    · rw [ha]; exact hCL
    · exact (hCc _ _ ha).symm
  refine ⟨m, hn.sameBut sb haC, fun h'' sb2 => ⟨_, H', I4.turned (it := C) (t' := s4.toks) (fun b o hb e => sb2.extBut b o hb e) hC2 hCL (.inr (Nat.le_trans I2.sz hC1)) hCc fun p hp z => ?_, q⟩⟩
  exact Nat.ne_of_lt (Nat.lt_of_lt_of_le (Heap.lt_size (I2.pin p hp).1) hC1) z
end

theorem comp_list {K : PySem.W.Frag} {a : Addr} {xs : List V} {g : TG} {tt : TT} {te : TE} {σ₀ : St} {H : Hp} {Q : VK} (Pv : Nat → List V → St → Hp → Prop) (h0 : Pv 0 [] σ₀ H) (hz : xs.length ≤ sizeLine) (hn : ∀ i acc σ H, Pv i acc σ H → acc.length ≤ i)
    (hl : ∀ i acc σ H, i ≤ xs.length → Pv i acc σ H → SqL K H a xs)
    (hs : ∀ i x acc σ H, xs[i]? = some x → Pv i acc σ H → g x σ H fun σ2 H2 => tt σ2 H2 fun ok H3 => if ok = true then te σ2 H3 fun y H4 => Pv (i + 1) (acc ++ [y]) σ2 H4 else Pv (i + 1) acc σ2 H3)
    (hd : ∀ acc σ H, Pv xs.length acc σ H → ∀ p, H p = none → Q (.ref p) (upd H p (.lst acc))) :
    CompGo (Itl K a) g tt te Q σ₀ H := by
  refine ⟨fun i m acc σ H => m = xs.length - i ∧ i ≤ xs.length ∧ Pv i acc σ H, ⟨xs.length, by simp, Nat.zero_le _, h0⟩, ?_⟩
  rintro i m acc σ H ⟨rfl, hi, p⟩
  have q := hl i acc σ H hi p
  have hlen := hn i acc σ H p
  by_cases hlt : i < xs.length
  · refine .inr ⟨⟨xs, xs[i], q, by simp [hlt]⟩, by omega, Pv (i + 1), fun acc' σ' H' p' => ⟨xs.length - (i + 1), by omega, rfl, hlt, p'⟩, fun x H' y => ?_⟩
    obtain ⟨e, y⟩ := y
    subst e
    exact hs i x acc σ _ (y xs q) p
  · have e : i = xs.length := by omega
    subst e
    exact .inl ⟨⟨xs, q, Nat.le_refl _⟩, by omega, hd acc σ H p⟩
theorem comp_tup {K : PySem.W.Frag} {a : Addr} {xs : List V} {g : TG} {tt : TT} {te : TE} {σ₀ : St} {H : Hp} {Q : VK} (Pv : Nat → List V → St → Hp → Prop) (h0 : Pv 0 [] σ₀ H) (hz : xs.length ≤ sizeLine) (hn : ∀ i acc σ H, Pv i acc σ H → acc.length ≤ i)
    (hl : ∀ i acc σ H, i ≤ xs.length → Pv i acc σ H → SqT K H a xs)
    (hs : ∀ i x acc σ H, xs[i]? = some x → Pv i acc σ H → g x σ H fun σ2 H2 => tt σ2 H2 fun ok H3 => if ok = true then te σ2 H3 fun y H4 => Pv (i + 1) (acc ++ [y]) σ2 H4 else Pv (i + 1) acc σ2 H3)
    (hd : ∀ acc σ H, Pv xs.length acc σ H → ∀ p, H p = none → Q (.ref p) (upd H p (.lst acc))) :
    CompGo (Itt K a) g tt te Q σ₀ H := by
  refine ⟨fun i m acc σ H => m = xs.length - i ∧ i ≤ xs.length ∧ Pv i acc σ H, ⟨xs.length, by simp, Nat.zero_le _, h0⟩, ?_⟩
  rintro i m acc σ H ⟨rfl, hi, p⟩
  have q := hl i acc σ H hi p
  have hlen := hn i acc σ H p
  by_cases hlt : i < xs.length
  · refine .inr ⟨⟨xs, xs[i], q, by simp [hlt]⟩, by omega, Pv (i + 1), fun acc' σ' H' p' => ⟨xs.length - (i + 1), by omega, rfl, hlt, p'⟩, fun x H' y => ?_⟩
    obtain ⟨e, y⟩ := y
    subst e
    exact hs i x acc σ _ (y xs q) p
  · have e : i = xs.length := by omega
    subst e
    exact .inl ⟨⟨xs, q, Nat.le_refl _⟩, by omega, hd acc σ H p⟩
theorem comp_range {lo : Int} {n : Nat} {g : TG} {tt : TT} {te : TE} {σ₀ : St} {H : Hp} {Q : VK} (Pv : Nat → List V → St → Hp → Prop) (h0 : Pv 0 [] σ₀ H) (hz : n ≤ sizeLine) (hn : ∀ i acc σ H, Pv i acc σ H → acc.length ≤ i)
    (hs : ∀ i acc σ H, i < n → Pv i acc σ H → g (.int (lo + i)) σ H fun σ2 H2 => tt σ2 H2 fun ok H3 => if ok = true then te σ2 H3 fun y H4 => Pv (i + 1) (acc ++ [y]) σ2 H4 else Pv (i + 1) acc σ2 H3)
    (hd : ∀ acc σ H, Pv n acc σ H → ∀ p, H p = none → Q (.ref p) (upd H p (.lst acc))) :
    CompGo (Itr lo n) g tt te Q σ₀ H := by
  refine ⟨fun i m acc σ H => m = n - i ∧ i ≤ n ∧ Pv i acc σ H, ⟨n, by simp, Nat.zero_le _, h0⟩, ?_⟩
  rintro i m acc σ H ⟨rfl, hi, p⟩
  have hlen := hn i acc σ H p
  by_cases hlt : i < n
  · refine .inr ⟨hlt, by omega, Pv (i + 1), fun acc' σ' H' p' => ⟨n - (i + 1), by omega, rfl, hlt, p'⟩, fun x H' y => ?_⟩
    obtain ⟨e, y⟩ := y
    subst e y
    exact hs i acc σ _ hlt p
  · have e : i = n := by omega
    subst e
    exact .inl ⟨Nat.le_refl _, by omega, hd acc σ H p⟩
end L2

set_option Elab.async false
set_option linter.all false
set_option maxRecDepth 100000
set_option maxHeartbeats 1000000
namespace L2
open PySem PySem.Spec PyProof.Rows

theorem iteP {c A B : Prop} [Decidable c] (h : c) (a : A) : if c then A else B := by rw [if_pos h]; exact a
theorem iteN {c A B : Prop} [Decidable c] (h : ¬ c) (b : B) : if c then A else B := by rw [if_neg h]; exact b

structure Callee (P : Program) (w : World) (K : PySem.W.Frag) (mg : Str → Option Value) (base : Heap) (k : Nat) (x : Str) (ps : List Str) (sp : Sp) : Prop where
  ex : ∃ (f : Addr) (fd : FuncData), FnOk P w K mg base CX0 k f fd ps sp ∧ Binds K fd ps [] ∧ PySem.W.keepIn K (.ref f) = true ∧ mg x = some (.ref f)
structure Def (K : PySem.W.Frag) (mg : Str → Option Value) (x : Str) (st : Stmt) (ps : List Str) : Prop where
  ex : ∃ (f : Addr) (fd : FuncData), Fun K x x st f fd ∧ Binds K fd ps [] ∧ mg x = some (.ref f)
section
variable {P : Program} {w : World} {K : PySem.W.Frag} {mg : Str → Option Value} {base : Heap}
theorem Def.ok {x : Str} {st : Stmt} {N ps : List Str} {k : Nat} {sp : Sp} (D : Def K mg x st ps) (S : FnScope N ps (defScope st)) (len : ∀ vs H Q E, sp vs H Q E → vs.length = ps.length)
    (hbody : ∀ (f : Addr) (cdv : Value) (A : Around) (outer : List Env) (s : Shared) (H : Hp) (vs : List V) (Q : VK) (E : XK), Room k (A.deeper (envOfC x (defScope st) s.heap.objs.size f cdv)) → sp vs H Q E →
      ∃ t, PSs (cxOf CX0 P w K mg base N x (defScope st) f cdv A outer s H E).nox (defBody st) t ∧ t { nx := fun _ H' => Q .non H', rt := Q } (start N vs) H) : Callee P w K mg base (k + 1) x ps sp := by
  obtain ⟨f, fd, F, b, m⟩ := D.ex
  exact ⟨f, fd, F.ok S len fun cdv A outer s H vs Q E hr h => hbody f cdv A outer s H vs Q E hr h, b, F.kp, m⟩
theorem Callee.imp {x : Str} {ps : List Str} {k : Nat} {sp sp' : Sp} (C : Callee P w K mg base k x ps sp) (h : ∀ vs H Q E, sp' vs H Q E → sp vs H Q E) : Callee P w K mg base k x ps sp' := by
  obtain ⟨f, fd, F, b, kp, m⟩ := C.ex
  exact ⟨f, fd, F.imp h, b, kp, m⟩
end
section
variable {X : Cx} {k n : Nat} {ps : List Str} {sp : Sp} {x : Str} {p pos : Pos} {e : Expr} {es : List Expr} {t : TA}
theorem pe_fn (C : Callee X.prog X.w X.K X.mg X.base k x ps sp) (hr : Room n X.A) (hg : Gl X x) (ha : PA X (e :: es) t) (hk : k ≤ n := by decide) (hdb : (x == ("__debug__" : Str)) = false := by decide)
    (he : starEach (e :: es) X.env = (false, eval e X.env) :: starEach es X.env := by rfl) (hpl : (backTo pos (starEach es X.env)).any (·.1) = false := by rfl) :
    PE X (.Call (.Name x p) (e :: es) [] pos) (tCall sp [] E0 t) := by
  obtain ⟨f, fd, F, b, kp, m⟩ := C.ex
  exact pe_call F (hr.mono hk) hg m kp b .nil pass0 ha hdb he hpl

theorem call_isinst : CallR X (.builtin "isinstance") (fun xs H Q => ∃ v T t b, xs = [v, .ty T] ∧ TyOf X.K H v t ∧ PySem.W.kitOne X.K t (.type T) = some b ∧ Q (.bl b) H) := by
  intro pins s σ H xs us Q I r h
  obtain ⟨v, T, t, b, rfl, ty, e, q⟩ := h
  obtain ⟨u, u', rfl, r1, r2⟩ := vals2 r
  cases r2
  exact isinst_ok I r1 ty e fun tk => ⟨.bl b, H, I.tok _, rfl, q⟩

def kitB (S T : String) : Option Bool := if (Value.type S == Value.type T) = true then some true else if PySem.W.kitMeta T = true then (fastBuiltinMro S).map (·.contains (.type T)) else none
theorem kit_of {K : PySem.W.Frag} {S T : String} {b : Bool} (h : kitB S T = some b) : PySem.W.kitOne K (.type S) (.type T) = some b := h
section
variable {K : PySem.W.Frag}
theorem kit_int_int : PySem.W.kitOne K (.type "int") (.type "int") = some true := kit_of (by decide +kernel)
theorem kit_int_bool : PySem.W.kitOne K (.type "int") (.type "bool") = some false := kit_of (by decide +kernel)
theorem kit_tup_tup : PySem.W.kitOne K (.type "tuple") (.type "tuple") = some true := kit_of (by decide +kernel)
theorem kit_lst_lst : PySem.W.kitOne K (.type "list") (.type "list") = some true := kit_of (by decide +kernel)
theorem kit_lst_tup : PySem.W.kitOne K (.type "list") (.type "tuple") = some false := kit_of (by decide +kernel)
theorem kit_tup_int : PySem.W.kitOne K (.type "tuple") (.type "int") = some false := kit_of (by decide +kernel)
theorem kit_lst_int : PySem.W.kitOne K (.type "list") (.type "int") = some false := kit_of (by decide +kernel)
end

def rBits : V → List V → Hp → VK → Prop := fun x vs H Q => ∃ i, x = .int i ∧ vs = [] ∧ Q (.int (Builtin.Int.intBits i)) H
theorem mt_bits : MtR X "int.bit_length" rBits := by
  intro pins s σ H x vs v us Q I rx rv h
  obtain ⟨i, rfl, rfl, q⟩ := h
  obtain ⟨t, rfl⟩ := rx
  have hus := rv.zero
  subst hus
  exact call_int_bit_length ⟨.int _, H, I.tok _, ⟨_, rfl⟩, q⟩

theorem call_sorted_ints : CallR X (.builtin "sorted") (fun xs H Q => ∃ (p : Addr) (ns : List Int), xs = [.ref p] ∧ SqL X.K H p (ns.map V.int) ∧ ns.length < 64 ∧ ∀ ns' : List Int, ns'.Perm ns → ns'.Pairwise (· ≤ ·) → ∀ l, H l = none → Q (.ref l) (upd H l (.lst (ns'.map V.int)))) := by
  intro pins s σ H xs us Q I r h
  obtain ⟨p, ns, rfl, hq, h64, q⟩ := h
  obtain ⟨u, rfl, rx⟩ := vals1 r
  cases rx
  obtain ⟨its, r', pl, hz⟩ := I.list hq
  have hi : IntsAre its ns := intsAre_of r'
  have hlen : its.length = ns.length := hi.length
  refine sorted_ints pl.isList hi (by omega) fun out ns' a1 a2 a3 => ?_
  obtain ⟨e, he⟩ := sortedAll_at s.heap its out
  have hz' : (ns'.map V.int).length ≤ sizeLine := by
    rw [List.length_map, a2.length_eq]
    rw [List.length_map] at hz
    exact hz
  exact ⟨.ref (s.heap.objs.size + 1), _, I.laid (t' := s.toks) (o := .lst (ns'.map V.int)) (fun b o e => sortedAll_old e) (Nat.le_succ _) ⟨hz', out.toList, e, vals_ints a1, by simpa [seqObj] using he⟩, rfl, q ns' a2 a3 _ (I.hok.fresh (Nat.le_succ _))⟩

theorem preSum_list (ns : List Int) : ∀ n, n ≤ ns.length → preSum (fun i => ns.getD i 0) n = (ns.take n).sum
  | 0, _ => by simp [preSum]
  | n + 1, h => by
    have hn : n < ns.length := h
    rw [preSum, preSum_list ns n (Nat.le_of_lt hn), List.take_succ, List.sum_append, List.getElem?_eq_getElem hn]
    simp [List.getD, List.getElem?_eq_getElem hn]
theorem ints_at {ns : List Int} {us : List Value} (h : IntsAre us ns) : ∀ (i : Nat) (v : Value), us[i]? = some v → ∃ t, v = .int (ns.getD i 0) t := by
  induction h with
  | nil => intro i v e; simp at e
  | cons n t h ih =>
    intro i v e
    cases i with
    | zero => exact ⟨t, by simpa using e.symm⟩
    | succ i =>
      obtain ⟨t', e'⟩ := ih i v (by simpa using e)
      exact ⟨t', by simpa using e'⟩
theorem call_sum_ints (hc : X.calm = true) : CallR X (.builtin "sum") (fun xs H Q => ∃ (p : Addr) (ns : List Int), xs = [.ref p] ∧ SqL X.K H p (ns.map V.int) ∧ Q (.int ns.sum) H) := by
  intro pins s σ H xs us Q I r h
  obtain ⟨p, ns, rfl, hq, q⟩ := h
  obtain ⟨u, rfl, rx⟩ := vals1 r
  cases rx
  obtain ⟨its, r', pl, hz⟩ := I.list hq
  have hi : IntsAre its ns := intsAre_of r'
  have hlen : its.length = ns.length := hi.length
  obtain ⟨o, n, ho, _⟩ := id pl
  have hne : p ≠ s.heap.objs.size := Nat.ne_of_lt (Heap.lt_size ho)
  refine call_sum_walkAnyS (wpAny_pyIter_list pl.isList ?_)
  refine ⟨s.heap.objs.size, [s.heap.objs.size, p], [s.heap.objs.size], _, its.toArray.size, _, _, fun i => ns.getD i 0, rfl, (Walks.list (A := X.A.in1) (I.ok.hd hc) s.heap.objs.size p hne its.toArray).toS,
    ⟨⟨_, Heap.get?_push_size _ rfl, rfl, rfl⟩, pl.isList.at fun o e => Heap.get?_push_of_some _ e⟩, fun b hb => ?_, fun i v e => ints_at hi i v (by simpa using e), fun s' t' hm => ?_⟩
  · simp only [List.mem_cons, List.not_mem_nil, or_false] at hb
    rw [Heap.size_push]
    rcases hb with rfl | rfl
    · exact Nat.lt_succ_self _
    · exact Nat.lt_succ_of_lt (Heap.lt_size ho)
  · have kp : ∀ b o, s.heap.get? b = some o → s'.heap.get? b = some o := fun b o e => hm.heap b o (by simpa using Nat.ne_of_lt (Heap.lt_size e)) (Heap.get?_push_of_some _ e)
    have e : preSum (fun i => ns.getD i 0) its.toArray.size = ns.sum := by
      rw [preSum_list ns _ (by rw [List.size_toArray]; omega), List.size_toArray, hlen, List.take_length]
    rw [e]
    exact ⟨.int ns.sum, H, I.call' (ch := []) hm.os (Un.kept kp) (I.hok.kept kp) (by rw [show s'.gens = s.gens from hm.gens]; exact I.bare) (fun b z => nomatch z), ⟨_, rfl⟩, q⟩
theorem bools_at {bs : List Bool} : ∀ {us : List Value}, Vals (bs.map V.bl) us → ∀ (i : Nat) (v : Value), us[i]? = some v → v = .bool (bs.getD i false) := by
  induction bs with
  | nil => intro us r i v e; rw [List.map_nil] at r; cases r; simp at e
  | cons b bs ih =>
    intro us r i v e
    rw [List.map_cons] at r
    cases r with
    | cons r1 r2 =>
      cases i with
      | zero =>
        have e' := Option.some.inj e
        rw [← e']
        exact r1
      | succ i => exact ih r2 i v (by simpa using e)
theorem any_range (bs : List Bool) : (List.range bs.length).any (fun i => bs.getD i false) = bs.any id := by
  rw [Bool.eq_iff_iff, List.any_eq_true, List.any_eq_true]
  constructor
  · rintro ⟨i, hi, e⟩
    have hi' : i < bs.length := by simpa using hi
    exact ⟨bs[i], List.getElem_mem hi', by simpa [List.getD, hi'] using e⟩
  · rintro ⟨b, hb, e⟩
    obtain ⟨i, hi, z⟩ := List.getElem_of_mem hb
    exact ⟨i, by simpa using hi, by simpa [List.getD, hi, z] using e⟩
theorem call_any_bools (hc : X.calm = true) : CallR X (.builtin "any") (fun xs H Q => ∃ (p : Addr) (bs : List Bool), xs = [.ref p] ∧ SqL X.K H p (bs.map V.bl) ∧ Q (.bl (bs.any id)) H) := by
  intro pins s σ H xs us Q I r h
  obtain ⟨p, bs, rfl, hq, q⟩ := h
  obtain ⟨u, rfl, rx⟩ := vals1 r
  cases rx
  obtain ⟨its, r', pl, hz⟩ := I.list hq
  have hlen : its.length = bs.length := by rw [← r'.length, List.length_map]
  obtain ⟨o, n, ho, _⟩ := id pl
  have hne : p ≠ s.heap.objs.size := Nat.ne_of_lt (Heap.lt_size ho)
  refine call_any_walk (wpAny_pyIter_list pl.isList ?_)
  refine ⟨s.heap.objs.size, _, _, its.toArray.size, _, _, fun i => bs.getD i false, rfl, Walks.list (A := X.A.in1) (I.ok.hd hc) s.heap.objs.size p hne its.toArray, ⟨⟨_, Heap.get?_push_size _ rfl, rfl, rfl⟩, pl.isList.at fun o e => Heap.get?_push_of_some _ e⟩, fun i v s' Q' E' e hQ => ?_, fun h' tk kk => ?_⟩
  · rw [bools_at r' i v (by simpa using e)]
    exact wpAny_truthy_bool hQ
  · have kp : ∀ b o, s.heap.get? b = some o → h'.get? b = some o := fun b o e => kk b o (by simpa using Nat.ne_of_lt (Heap.lt_size e)) (Heap.get?_push_of_some _ e)
    rw [List.size_toArray, hlen, any_range]
    exact ⟨.bl (bs.any id), H, I.kept kp, rfl, q⟩

theorem all_getD (ns ms : List Int) (h : ns.length = ms.length) : ((List.range ns.length).all fun j => ns.getD j 0 == ms.getD j 0) = decide (ns = ms) := by
  rw [Bool.eq_iff_iff, List.all_eq_true, decide_eq_true_iff]
  constructor
  · intro q
    apply List.ext_getElem h
    intro i h1 h2
    have := q i (by simpa using h1)
    simpa [List.getD, h1, h2] using this
  · rintro rfl i hi
    simp
theorem eqAt_ints {A : Around} {s : Shared} {us vs : List Value} {ns ms : List Int} (h : IntsAre us ns) (h' : IntsAre vs ms) : ∀ j (h1 : j < us.toArray.size) (h2 : j < vs.toArray.size), SeqAt.EqAt A s us.toArray[j] vs.toArray[j] (ns.getD j 0 == ms.getD j 0) := fun j h1 h2 => by
  obtain ⟨t, e⟩ := ints_at h j us.toArray[j] (by simp)
  obtain ⟨t', e'⟩ := ints_at h' j vs.toArray[j] (by simp)
  rw [e, e']
  exact SeqAt.EqAt.int_int _ _ _ _
theorem op_neLI (hu : X.A.units < cLine) : OpR X (compareOp .NotEq) (fun x y H Q => ∃ (a b : Addr) (ns ms : List Int), x = .ref a ∧ y = .ref b ∧ SqL X.K H a (ns.map V.int) ∧ SqL X.K H b (ms.map V.int) ∧ Q (.bl (!decide (ns = ms))) H) := by
  intro pins s σ H x y v u Q I rx ry h
  obtain ⟨a, b, ns, ms, rfl, rfl, ha, hb, q⟩ := h
  cases rx
  cases ry
  obtain ⟨its, r1, p1, _⟩ := I.list ha
  obtain ⟨its2, r2, p2, _⟩ := I.list hb
  have i1 : IntsAre its ns := intsAre_of r1
  have i2 : IntsAre its2 ms := intsAre_of r2
  have l1 := i1.length
  have l2 := i2.length
  by_cases hl : ns.length = ms.length
  · refine SeqAt.RcNeAt.lists (e := fun j => ns.getD j 0 == ms.getD j 0) p1.isList p2.isList (by simp only [List.size_toArray]; omega) hu (eqAt_ints i1 i2) X.prog X.w X.xe _ ?_
    rw [List.size_toArray, l1, all_getD ns ms hl]
    exact ⟨.bl _, H, I, rfl, q⟩
  · refine SeqAt.RcNeAt.lists_lengths p1.isList p2.isList (by simp only [List.size_toArray]; simpa using (by omega : its.length ≠ its2.length)) hu X.prog X.w X.xe _ ?_
    have e : decide (ns = ms) = false := decide_eq_false (fun z => hl (by rw [z]))
    rw [e] at q
    exact ⟨.bl true, H, I, rfl, q⟩
theorem op_eqLI (hu : X.A.units < cLine) : OpR X (compareOp .Eq) (fun x y H Q => ∃ (a b : Addr) (ns ms : List Int), x = .ref a ∧ y = .ref b ∧ SqL X.K H a (ns.map V.int) ∧ SqL X.K H b (ms.map V.int) ∧ Q (.bl (decide (ns = ms))) H) := by
  intro pins s σ H x y v u Q I rx ry h
  obtain ⟨a, b, ns, ms, rfl, rfl, ha, hb, q⟩ := h
  cases rx
  cases ry
  obtain ⟨its, r1, p1, _⟩ := I.list ha
  obtain ⟨its2, r2, p2, _⟩ := I.list hb
  have i1 : IntsAre its ns := intsAre_of r1
  have i2 : IntsAre its2 ms := intsAre_of r2
  have l1 := i1.length
  have l2 := i2.length
  by_cases hl : ns.length = ms.length
  · refine SeqAt.RcAt.lists (e := fun j => ns.getD j 0 == ms.getD j 0) p1.isList p2.isList (by simp only [List.size_toArray]; omega) hu (eqAt_ints i1 i2) X.prog X.w X.xe _ ?_
    rw [List.size_toArray, l1, all_getD ns ms hl]
    exact ⟨.bl _, H, I, rfl, q⟩
  · refine SeqAt.RcAt.lists_lengths p1.isList p2.isList (by simp only [List.size_toArray]; simpa using (by omega : its.length ≠ its2.length)) hu X.prog X.w X.xe _ ?_
    have e : decide (ns = ms) = false := decide_eq_false (fun z => hl (by rw [z]))
    rw [e] at q
    exact ⟨.bl false, H, I, rfl, q⟩
end
end L2

set_option Elab.async false
set_option linter.all false
set_option maxRecDepth 100000
set_option maxHeartbeats 1000000
namespace L2
open PySem PySem.Spec PyProof.Rows

def RowAt (b : Bool) (h : Heap) (l : Addr) (xs : Array Value) : Prop := match b with
  | true => h.IsTuple l xs
  | false => h.IsList l xs
def RowIt (b : Bool) (h : Heap) (i l : Addr) (k : Nat) : Prop := match b with
  | true => h.IsTupleIter i l k
  | false => h.IsListIter i l k
theorem RowAt.kept {b : Bool} {h h' : Heap} {l : Addr} {xs : Array Value} (x : RowAt b h l xs) (k : ∀ o, h.get? l = some o → h'.get? l = some o) : RowAt b h' l xs := by
  cases b with
  | true => obtain ⟨o, e, r⟩ := (show h.IsTuple l xs from x); exact ⟨o, k o e, r⟩
  | false => obtain ⟨o, e, r⟩ := (show h.IsList l xs from x); exact ⟨o, k o e, r⟩
theorem RowIt.kept {b : Bool} {h h' : Heap} {i l : Addr} {n : Nat} (x : RowIt b h i l n) (k : ∀ o, h.get? i = some o → h'.get? i = some o) : RowIt b h' i l n := by
  cases b with
  | true => obtain ⟨o, e, r⟩ := (show h.IsTupleIter i l n from x); exact ⟨o, k o e, r⟩
  | false => obtain ⟨o, e, r⟩ := (show h.IsListIter i l n from x); exact ⟨o, k o e, r⟩
theorem RowIt.there {b : Bool} {h : Heap} {i l : Addr} {n : Nat} (x : RowIt b h i l n) : ∃ o, h.get? i = some o ∧ ∀ v, o.data ≠ .cell v := by
  cases b with
  | true => obtain ⟨o, e, c, d⟩ := (show h.IsTupleIter i l n from x); exact ⟨o, e, fun v z => by rw [d] at z; cases z⟩
  | false => obtain ⟨o, e, c, d⟩ := (show h.IsListIter i l n from x); exact ⟨o, e, fun v z => by rw [d] at z; cases z⟩

section
variable {prog : Program} {w : World} {A : Around} {E : Value → Shared → Prop} {s : Shared}
structure ZAp (z t o i j l m : Addr) : Prop where
  tz : t ≠ z
  oz : o ≠ z
  iz : i ≠ z
  jz : j ≠ z
  ot : o ≠ t
  it : i ≠ t
  jt : j ≠ t
  io : i ≠ o
  jo : j ≠ o
  ij : i ≠ j
  lz : l ≠ z
  lo : l ≠ o
  li : l ≠ i
  lj : l ≠ j
  mz : m ≠ z
  mo : m ≠ o
  mi : m ≠ i
  mj : m ≠ j

end

section
variable {prog : Program} {w : World} {A : Around} {E : Value → Shared → Prop} {s : Shared}
abbrev rowIter (b : Bool) (l : Addr) : Obj := { cls := .type (if b then "tuple_iterator" else "list_iterator"), data := .fields #[.ref l, .int 0 0] }
abbrev zH1 (b : Bool) (h : Heap) (l : Addr) : Heap := h.push (rowIter b l)
abbrev zH2 (b : Bool) (h : Heap) (l m : Addr) : Heap := (zH1 b h l).push (rowIter b m)
abbrev zH3 (b : Bool) (h : Heap) (l m : Addr) : Heap := (zH2 b h l m).push { cls := .type "tuple", data := .seq #[.ref h.objs.size, .ref (zH1 b h l).objs.size] }
abbrev zH4 (b : Bool) (h : Heap) (l m : Addr) : Heap := (zH3 b h l m).push { cls := .type "tuple", data := .seq #[.none, .none] }
abbrev zH5 (b : Bool) (h : Heap) (l m : Addr) : Heap := (zH4 b h l m).push { cls := .type "zip", data := .fields #[.none, .bool false, .bool false, .ref (zH2 b h l m).objs.size, .ref (zH3 b h l m).objs.size] }
end

def Sq (b : Bool) (K : PySem.W.Frag) (H : Hp) (a : Addr) (xs : List V) : Prop := match b with
  | true => SqT K H a xs
  | false => SqL K H a xs
section
variable {X : Cx} {pins : List (Addr × Obj)} {σ : St} {H : Hp} {s : Shared} {b : Bool} {a : Addr} {xs ys : List V}
theorem Inv.row (I : Inv X pins σ H s) (h : Sq b X.K H a xs) : ∃ its : List Value, Vals xs its ∧ RowAt b s.heap a its.toArray ∧ xs.length ≤ sizeLine := by
  cases b with
  | true =>
    obtain ⟨its, r, p, z⟩ := I.tuple h
    exact ⟨its, r, p, z⟩
  | false =>
    obtain ⟨its, r, p, z⟩ := I.list h
    exact ⟨its, r, p.isList, z⟩
end
theorem Sq.there {b : Bool} {h : Heap} {l : Addr} {xs : Array Value} (x : RowAt b h l xs) : l < h.objs.size := by
  cases b with
  | true => obtain ⟨o, e, _⟩ := (show h.IsTuple l xs from x); exact Heap.lt_size e
  | false => obtain ⟨o, e, _⟩ := (show h.IsList l xs from x); exact Heap.lt_size e
def Itz (b : Bool) (K : PySem.W.Frag) (l m : Addr) : It :=
  ⟨fun i H => ∃ xs ys x y, Sq b K H l xs ∧ Sq b K H m ys ∧ xs[i]? = some x ∧ ys[i]? = some y,
   fun i H v H' => ∃ p x y, H p = none ∧ v = .ref p ∧ H' = upd H p (.tup [x, y]) ∧ (∀ xs, Sq b K H l xs → xs[i]? = some x) ∧ ∀ ys, Sq b K H m ys → ys[i]? = some y,
   fun i H => ∃ xs ys, Sq b K H l xs ∧ Sq b K H m ys ∧ (xs.length ≤ i ∨ ys.length ≤ i)⟩
section
variable {X : Cx}
def iZip (b : Bool) (K : PySem.W.Frag) (ta : TA) : TI := fun σ H R => ta σ H fun vs H1 => ∃ l m xs ys, vs = [.ref l, .ref m] ∧ Sq b K H1 l xs ∧ Sq b K H1 m ys ∧ R (Itz b K l m) H1
end
end L2

set_option Elab.async false
set_option linter.all false
set_option maxRecDepth 100000
set_option maxHeartbeats 1000000
namespace L2
open PySem PySem.Spec PyProof.Rows
section
variable {K : PySem.W.Frag}
end
end L2

set_option Elab.async false
set_option linter.all false
namespace L2
open PySem

theorem below_go (xs : Array Nat) (j : Nat) (mono : xs.toList.Pairwise (· < ·)) : ∀ fuel lo hi, hi - lo ≤ fuel → lo ≤ hi → hi ≤ xs.size → (∀ i, i < lo → xs.getD i j < j) → (∀ i, hi ≤ i → i < xs.size → j ≤ xs.getD i j) →
    SetTable.below.go xs j fuel lo hi ≤ xs.size ∧ (∀ i, i < SetTable.below.go xs j fuel lo hi → xs.getD i j < j) ∧ ∀ i, SetTable.below.go xs j fuel lo hi ≤ i → i < xs.size → j ≤ xs.getD i j := by
  have le : ∀ a b, a ≤ b → b < xs.size → xs.getD a j ≤ xs.getD b j := fun a b h hb => by
    rcases Nat.lt_or_eq_of_le h with h | h
    · have := List.pairwise_iff_getElem.mp mono a b (by simp; omega) (by simpa using hb) h
      simp only [Array.getElem_toList] at this
      simp only [Array.getD_eq_getD_getElem?, Array.getElem?_eq_getElem hb, Array.getElem?_eq_getElem (show a < xs.size by omega), Option.getD_some]
      omega
    · rw [h]; exact Nat.le_refl _
  intro fuel
  induction fuel with
  | zero =>
    intro lo hi h1 h2 h3 h4 h5
    have e : lo = hi := by omega
    subst e
    exact ⟨h3, h4, h5⟩
  | succ fuel ih =>
    intro lo hi h1 h2 h3 h4 h5
    unfold SetTable.below.go
    by_cases hl : lo < hi
    · rw [if_pos hl]
      dsimp only
      by_cases hm : xs.getD ((lo + hi) / 2) j < j
      · rw [if_pos hm]
        refine ih _ _ (by omega) (by omega) h3 (fun i hi' => ?_) h5
        exact Nat.lt_of_le_of_lt (le i ((lo + hi) / 2) (by omega) (by omega)) hm
      · rw [if_neg hm]
        refine ih _ _ (by omega) (by omega) (by omega) h4 (fun i hi' hs => ?_)
        exact Nat.le_trans (by omega) (le ((lo + hi) / 2) i hi' hs)
    · rw [if_neg hl]
      have e : lo = hi := by omega
      subst e
      exact ⟨h3, h4, h5⟩
theorem below_spec (xs : Array Nat) (j : Nat) (mono : xs.toList.Pairwise (· < ·)) : SetTable.below xs j ≤ xs.size ∧ (∀ i, i < SetTable.below xs j → xs.getD i j < j) ∧ ∀ i, SetTable.below xs j ≤ i → i < xs.size → j ≤ xs.getD i j :=
  below_go xs j mono xs.size 0 xs.size (by omega) (by omega) (Nat.le_refl _) (fun i h => absurd h (by omega)) (fun i h h' => absurd h' (by omega))
theorem insert_rises (xs : Array Nat) (j : Nat) (mono : xs.toList.Pairwise (· < ·)) (hn : xs[SetTable.below xs j]? ≠ some j) : (SetTable.insertAt xs (SetTable.below xs j) j).toList.Pairwise (· < ·) := by
  obtain ⟨h1, h2, h3⟩ := below_spec xs j mono
  have e : (SetTable.insertAt xs (SetTable.below xs j) j).toList = xs.toList.take (SetTable.below xs j) ++ j :: xs.toList.drop (SetTable.below xs j) := by
    simp [SetTable.insertAt, List.extract_eq_take_drop, List.take_of_length_le]
  rw [e]
  generalize hp : SetTable.below xs j = p at *
  have gt : ∀ i, p ≤ i → (h : i < xs.size) → j < xs[i] := fun i hi h => by
    have q := h3 i hi h
    rw [Array.getD_eq_getD_getElem?, Array.getElem?_eq_getElem h, Option.getD_some] at q
    rcases Nat.lt_or_eq_of_le q with q | q
    · exact q
    · exfalso
      have hps : p < xs.size := by omega
      have q2 := h3 p (Nat.le_refl _) hps
      rw [Array.getD_eq_getD_getElem?, Array.getElem?_eq_getElem hps, Option.getD_some] at q2
      rcases Nat.lt_or_eq_of_le hi with z | z
      · have := List.pairwise_iff_getElem.mp mono p i (by simpa using hps) (by simpa using h) z
        simp only [Array.getElem_toList] at this
        omega
      · subst z
        exact hn (by rw [Array.getElem?_eq_getElem h, ← q])
  rw [List.pairwise_append, List.pairwise_cons]
  refine ⟨mono.sublist (List.take_sublist _ _), ⟨fun a ha => ?_, mono.sublist (List.drop_sublist _ _)⟩, fun a ha b hb => ?_⟩
  · obtain ⟨i, hi, rfl⟩ := List.getElem_of_mem ha
    rw [List.getElem_drop]
    rw [List.length_drop, Array.length_toList] at hi
    have := gt (p + i) (by omega) (by omega)
    simpa using this
  · obtain ⟨i, hi, rfl⟩ := List.getElem_of_mem ha
    rw [List.length_take, Array.length_toList] at hi
    have q := h2 i (by omega)
    rw [Array.getD_eq_getD_getElem?, Array.getElem?_eq_getElem (by omega), Option.getD_some] at q
    rw [List.getElem_take]
    rw [Array.getElem_toList]
    rcases List.mem_cons.mp hb with rfl | hb
    · exact q
    · obtain ⟨k, hk, rfl⟩ := List.getElem_of_mem hb
      rw [List.getElem_drop]
      rw [List.length_drop, Array.length_toList] at hk
      have := gt (p + k) (by omega) (by omega)
      rw [Array.getElem_toList]
      omega

structure JT (L : Bool) (t : SetTable) : Prop where
  led : t.led = L
  dum : t.dummies = #[]
  mono : t.place.toList.Pairwise (· < ·)
theorem has_nil (j : Nat) : SetTable.has #[] j = false := by simp [SetTable.has]
theorem slot_cases (t : SetTable) (j : Nat) (h : t.dummies = #[]) : (t.slot j = .empty ∧ t.place[SetTable.below t.place j]? ≠ some j) ∨ ∃ i, t.slot j = .live i := by
  unfold SetTable.slot
  rw [h, has_nil]
  dsimp only
  by_cases e : (t.place[SetTable.below t.place j]? == some j) = true
  · rw [if_pos e]; exact .inr ⟨_, rfl⟩
  · rw [if_neg e]
    refine .inl ⟨by simp, fun q => e ?_⟩
    rw [q]; simp
theorem probe_empty (t : SetTable) (hd : t.dummies = #[]) (f : Nat → Int) (h : Int) : ∀ (fuel : Nat) (p : SetTable.Probe) (j : Nat) (d : Option Nat), p.dummy = none → SetTable.probe.go t f h fuel p = some (.empty j d) →
    d = none ∧ t.place[SetTable.below t.place j]? ≠ some j := by
  intro fuel
  induction fuel with
  | zero => intro p j d _ e; simp [SetTable.probe.go] at e
  | succ fuel ih =>
    intro p j d hp e
    unfold SetTable.probe.go at e
    rcases slot_cases t p.j hd with ⟨q, q2⟩ | ⟨i, q⟩
    · rw [q] at e
      injection e with e
      injection e with e1 e2
      subst e1
      exact ⟨e2 ▸ hp, q2⟩
    · rw [q] at e
      dsimp only at e
      have ha : (t.advance p).dummy = none := by
        unfold SetTable.advance
        split
        · exact hp
        · exact hp
      split at e
      · cases e
      · exact ih _ j d ha e
theorem standIn_JT {L : Bool} {t : SetTable} (n : Nat) (h : JT L t) : JT L (t.standIn n) where
  led := h.led
  dum := rfl
  mono := by
    show (Array.range n).toList.Pairwise (· < ·)
    rw [Array.toList_range]
    exact List.pairwise_lt_range
theorem layNew_JT {L : Bool} {t : SetTable} (es : Array (Int × Value)) (h : Int) (x : Value) (J : JT L t) : JT L (layNew t es h x).2.1 := by
  unfold layNew
  cases q : t.freeSlot h with
  | none => exact standIn_JT _ J
  | some r =>
    obtain ⟨slot, wasDummy⟩ := r
    dsimp only
    have hs : t.place[SetTable.below t.place slot]? ≠ some slot := by
      unfold SetTable.freeSlot at q
      cases e : t.probe (fun _ => h + 1) h (t.probeStart h) with
      | none => rw [e] at q; cases q
      | some m =>
        rw [e] at q
        cases m with
        | candidate _ _ _ => cases q
        | empty j d =>
          obtain ⟨rfl, z⟩ := probe_empty t J.dum _ h _ _ j d rfl e
          have q1 := Option.some.inj q
          injection q1 with q2 _
          subst q2
          exact z
    have Jp : JT L (t.put slot).1 := by
      refine ⟨J.led, ?_, insert_rises t.place slot J.mono hs⟩
      show (if SetTable.has t.dummies slot = true then _ else t.dummies) = #[]
      rw [J.dum, has_nil]
      rfl
    unfold SetTable.orStandIn
    split
    · exact Jp
    · exact standIn_JT _ Jp
theorem laid_JT {L : Bool} {mask finger moves : Nat} {plain : Bool} {hs : Array Int} {t : SetTable} {o : Array Nat} (h : SetTable.laid mask finger moves L plain hs = some (t, o)) : JT L t := by
  unfold SetTable.laid at h
  cases q : SetTable.layClean mask hs with
  | none => rw [q] at h; cases h
  | some owner =>
    rw [q] at h
    have e := Option.some.inj h
    injection e with e1 _
    subst e1
    refine ⟨rfl, rfl, ?_⟩
    show (List.map (fun x => x.1) ((List.range (mask + 1)).filterMap fun j => (owner.getD j none).map (j, ·))).toArray.toList.Pairwise (· < ·)
    have : ∀ l : List Nat, List.Sublist (List.map (fun x : Nat × Nat => x.1) (l.filterMap fun j => (owner.getD j none).map (j, ·))) l := by
      intro l
      induction l with
      | nil => exact List.Sublist.refl _
      | cons a r ih =>
        rw [List.filterMap_cons]
        cases (owner.getD a none) with
        | none => exact ih.cons _
        | some k => exact ih.cons₂ _
    exact (List.pairwise_lt_range (n := mask + 1)).sublist (by simpa using this (List.range (mask + 1)))
theorem relayAll_JT {L : Bool} {t : SetTable} (es : Array (Int × Value)) (wanted : Nat) (J : JT L t) : JT L (relayAll t es wanted).2.1 := by
  unfold relayAll
  cases q : t.relaid (es.map (·.1)) wanted with
  | none => exact standIn_JT _ J
  | some r =>
    obtain ⟨t', order⟩ := r
    dsimp only
    split
    · unfold SetTable.relaid at q
      rw [J.led] at q
      exact laid_JT q
    · exact standIn_JT _ J
theorem plain_off_JT {L : Bool} {t : SetTable} (J : JT L t) : JT L { t with plain := false } := ⟨J.led, J.dum, J.mono⟩
theorem below_next {xs : Array Nat} (mono : xs.toList.Pairwise (· < ·)) (k : Nat) (hk : k < xs.size) : SetTable.below xs (xs[k] + 1) = k + 1 := by
  obtain ⟨h1, h2, h3⟩ := below_spec xs (xs[k] + 1) mono
  have q1 : ¬ SetTable.below xs (xs[k] + 1) ≤ k := fun q => by
    have := h3 k q hk
    rw [Array.getD_eq_getD_getElem?, Array.getElem?_eq_getElem hk, Option.getD_some] at this
    omega
  have q2 : ¬ k + 1 < SetTable.below xs (xs[k] + 1) := fun q => by
    have hk1 : k + 1 < xs.size := by omega
    have := h2 (k + 1) q
    rw [Array.getD_eq_getD_getElem?, Array.getElem?_eq_getElem hk1, Option.getD_some] at this
    have z := List.pairwise_iff_getElem.mp mono k (k + 1) (by simpa using hk) (by simpa using hk1) (by omega)
    simp only [Array.getElem_toList] at z
    omega
  omega
theorem below_first {xs : Array Nat} (mono : xs.toList.Pairwise (· < ·)) : SetTable.below xs 0 = 0 := by
  obtain ⟨h1, h2, h3⟩ := below_spec xs 0 mono
  rcases Nat.eq_zero_or_pos (SetTable.below xs 0) with h | h
  · exact h
  · exact absurd (h2 0 h) (by omega)
theorem erase_perm {α : Type} : ∀ (l : List α) (i : Nat) (h : i < l.length), List.Perm (l[i] :: l.eraseIdx i) l
  | a :: l, 0, _ => List.Perm.refl _
  | a :: l, i + 1, h => (List.Perm.swap _ _ _).trans ((erase_perm l i (by simpa using h)).cons a)
theorem pickOrder_perm {α : Type} (next : Nat → Nat) (xs : Array α) : List.Perm (pickOrder next xs).toList xs.toList := by
  have go : ∀ (fuel k : Nat) (left : List α) (out : Array α), left.length = fuel → List.Perm (pickOrder.go next fuel k left out).toList (out.toList ++ left) := by
    intro fuel
    induction fuel with
    | zero =>
      intro k left out h
      have e : left = [] := List.eq_nil_of_length_eq_zero h
      subst e
      simp [pickOrder.go]
    | succ fuel ih =>
      intro k left out h
      unfold pickOrder.go
      have hlt : next k % left.length < left.length := Nat.mod_lt _ (by omega)
      rw [List.getElem?_eq_getElem hlt]
      dsimp only
      refine (ih (k + 1) _ _ (by rw [List.length_eraseIdx_of_lt hlt]; omega)).trans ?_
      rw [Array.toList_push, List.append_assoc]
      exact List.Perm.append_left _ (erase_perm left _ hlt)
  exact (go xs.size 0 xs.toList #[] (by simp)).trans (by simp)
end L2

set_option Elab.async false
set_option linter.all false
set_option maxRecDepth 100000
namespace L2
open PySem
section
variable {prog : Program} {w : World} {κ : Type} [DecidableEq κ]
def SetX (knd : KeyKind prog w κ) (h : Heap) (a : Addr) (S : κ → Bool) (n : Nat) : Prop :=
  ∃ o es ep t, h.get? a = some o ∧ o.ExactSet ∧ o.data = .set es ep t ∧ (ElemsOf knd es.toList ∧ (∀ k, S k = true ↔ ∃ e ∈ es.toList, knd.is k e.2 = true) ∧ es.size < scanBound ∧ t.fits es.size = true ∧ es.size = n) ∧ JT (!w.params.followText "set-order") t
variable {knd : KeyKind prog w κ} {A : Around} {E : Value → Shared → Prop} {s : Shared}
theorem SetX.of_get {h h' : Heap} {a : Addr} {S : κ → Bool} {n : Nat} (x : SetX knd h a S n) (k : ∀ o, h.get? a = some o → h'.get? a = some o) : SetX knd h' a S n := by
  obtain ⟨o, es, ep, t, e, r⟩ := x
  exact ⟨o, es, ep, t, k o e, r⟩
theorem SetX.congr {h : Heap} {a : Addr} {S S' : κ → Bool} {n n' : Nat} (x : SetX knd h a S n) (e : ∀ k, S k = S' k) (en : n = n') : SetX knd h a S' n' := by
  obtain rfl : S = S' := funext e
  subst en
  exact x
theorem SetX.new (h : Heap) {l : Bool} (hl : l = !w.params.followText "set-order") : SetX knd (h.push { cls := .type "set", dict := none, data := .set #[] 0 (.fresh 0 0 l) }) h.objs.size (fun _ => false) 0 := by
  refine ⟨_, #[], 0, _, Heap.get?_push_size _ rfl, ⟨rfl, rfl, rfl⟩, rfl, ⟨fun e he => absurd he (by simp), fun k => by simp, by decide, by simp [SetTable.fits, SetTable.fresh, SetTable.fill], rfl⟩, hl, rfl, ?_⟩
  exact List.Pairwise.nil
theorem SetX.store {h : Heap} {a : Addr} {o : Obj} {es es' : Array (Int × Value)} {ep : Nat} {t t' : SetTable} {S : κ → Bool} (ho : h.get? a = some o) (hx : o.ExactSet) (hd : o.data = .set es ep t)
    (el : ElemsOf knd es'.toList) (mem : ∀ k, S k = true ↔ ∃ e ∈ es'.toList, knd.is k e.2 = true) (hb : es'.size < scanBound) (hf : t'.fits es'.size = true) (J : JT (!w.params.followText "set-order") t') :
    (h.update a (Obj.putSet es' t')).get? a = some { o with data := .set es' (ep + 1) t' } ∧ SetX knd (h.update a (Obj.putSet es' t')) a S es'.size := by
  have g : (h.update a (Obj.putSet es' t')).get? a = some { o with data := .set es' (ep + 1) t' } := (SetOf_store (knd := knd) (S' := S) ho hx hd el mem hb hf).1
  exact ⟨g, _, es', ep + 1, t', g, hx, rfl, ⟨el, mem, hb, hf, rfl⟩, J⟩
theorem addTailX {g : Bool → Sem Unit} (hg : ∀ (b : Bool) (s₁ : Shared) (Q' : Unit → Shared → Prop), Q' () s₁ → wpAny (model prog w) A (g b) Q' E s₁)
    {a : Addr} {o : Obj} {es es1 : Array (Int × Value)} {ep : Nat} {t t2 : SetTable} {S : κ → Bool} {wd : Bool} {R : Option Bool → Shared → Prop} (ho : s.heap.get? a = some o) (hx : o.ExactSet) (hd : o.data = .set es ep t)
    (el : ElemsOf knd es1.toList) (mem : ∀ k, S k = true ↔ ∃ e ∈ es1.toList, knd.is k e.2 = true) (hb : es1.size < scanBound) (hf : t2.fits es1.size = true) (J : JT (!w.params.followText "set-order") t2)
    (fin : ∀ h', Heap.SameBut a s.heap h' → SetX knd h' a S es1.size → R (some true) { s with heap := h' }) :
    wpAny (model prog w) A (do
        storeSet a es1 t2
        if (!wd && t2.tooFull) = true then do
            g (relayAll t2 es1 (SetTable.grown es1.size)).2.2
            storeSet a (relayAll t2 es1 (SetTable.grown es1.size)).1 (relayAll t2 es1 (SetTable.grown es1.size)).2.1
            pure (some true)
          else pure (some true)) R E s := by
  obtain ⟨g1, x1⟩ := SetX.store (knd := knd) ho hx hd el mem hb hf J
  have sb1 := Heap.SameBut.update s.heap a (Obj.putSet es1 t2)
  refine wpAny_bind (wpAny_storeSet_of ho hd ?_ (fits_of_scanBound hb))
  by_cases c : (!wd && t2.tooFull) = true
  · rw [if_pos c]
    have pm := relayAll_perm t2 es1 (SetTable.grown es1.size)
    have ft := relayAll_fits t2 es1 (SetTable.grown es1.size)
    have J2 := relayAll_JT (t := t2) es1 (SetTable.grown es1.size) J
    generalize relayAll t2 es1 (SetTable.grown es1.size) = r at pm ft J2 ⊢
    obtain ⟨es2, t3, gave⟩ := r
    dsimp only at pm ft J2 ⊢
    have sz : es2.size = es1.size := by simpa using pm.length_eq
    refine wpAny_bind (hg _ _ _ (wpAny_bind (wpAny_storeSet_of g1 rfl ?_ (by rw [sz]; exact fits_of_scanBound hb))))
    obtain ⟨_, x2⟩ := SetX.store (knd := knd) (S := S) g1 hx rfl (el.perm pm) (fun k => (mem k).trans ⟨fun ⟨e, he, q⟩ => ⟨e, pm.mem_iff.mpr he, q⟩, fun ⟨e, he, q⟩ => ⟨e, pm.mem_iff.mp he, q⟩⟩) (by rw [sz]; exact hb) ft J2
    rw [sz] at x2
    exact wpAny_pure (fin _ (sb1.trans (Heap.SameBut.update _ a _)) x2)
  · rw [if_neg c]
    exact wpAny_pure (fin _ sb1 x1)
theorem addX {a : Addr} {S : κ → Bool} {n : Nat} {k : κ} {x : Value} {Q : Bool → Shared → Prop} (hk : knd.is k x = true) (hsc : x.scannable = true) (hS : SetX knd s.heap a S n) (room : n + 1 < scanBound)
    (fin : ∀ h', Heap.SameBut a s.heap h' → SetX knd h' a (fun k' => S k' || decide (k' = k)) (if S k then n else n + 1) → Q (!S k) { s with heap := h' }) :
    wpAny (model prog w) A (setAddHashed a x (knd.hash k)) Q E s := by
  obtain ⟨o, es, ep, t, ho, hx, hd, ⟨el, mem, hb, hf, hn⟩, J⟩ := hS
  have quiet : ∀ (b : Bool) (s₁ : Shared) (Q' : Unit → Shared → Prop), Q' () s₁ → wpAny (model prog w) A (match b with | true => rule "set.scan.the-table-gave-way" | false => pure ()) Q' E s₁ := fun b s₁ Q' z => by
    cases b
    · exact wpAny_pure z
    · exact wpAny_rule z
  unfold setAddHashed setAddHashedIn
  refine wpAny_holding (wpAny_bind (wpAny_setState_of ho hd hf ?_))
  dsimp only
  rw [if_pos (byScan_of hsc hb el)]
  unfold setAddByScan
  refine wpAny_bind (wpAny_bind (wpAny_rule (wpAny_bind (wpAny_setScan_of hk ho hd hf el ?_))))
  cases found : List.findIdx? (fun e => knd.is k e.2) es.toList with
  | some j =>
    obtain ⟨hj, pj, _⟩ := List.findIdx?_eq_some_iff_getElem.mp found
    have there : S k = true := (mem k).mpr ⟨_, List.getElem_mem hj, pj⟩
    dsimp only
    refine wpAny_pure (wpAny_pure ?_)
    have z := fin s.heap (Heap.SameBut.refl a s.heap) ⟨o, es, ep, t, ho, hx, hd, ⟨el, fun k' => ?_, hb, hf, by rw [there]; exact hn⟩, J⟩
    · rw [there] at z
      exact z
    · rw [← mem k', Bool.or_eq_true, decide_eq_true_eq]
      exact ⟨fun q => q.elim id fun e => by rw [e]; exact there, .inl⟩
  | none =>
    have away : S k = false := by
      cases q : S k with
      | false => rfl
      | true =>
        obtain ⟨e, he, pe⟩ := (mem k).mp q
        exact absurd pe (by simpa using List.findIdx?_eq_none_iff.mp found e he)
    dsimp only
    have pm := layNew_perm t es (knd.hash k) x
    have ft := layNew_fits t es (knd.hash k) x
    have J1 := layNew_JT es (knd.hash k) x J
    generalize layNew t es (knd.hash k) x = r at pm ft J1 ⊢
    obtain ⟨es1, t1, wd, gave⟩ := r
    dsimp only at pm ft J1 ⊢
    rw [Array.toList_push] at pm
    have sz : es1.size = n + 1 := by
      have := pm.length_eq
      rw [List.length_append] at this
      simp at this
      omega
    have last : ∀ h', Heap.SameBut a s.heap h' → SetX knd h' a (fun k' => S k' || decide (k' = k)) es1.size → Q true { s with heap := h' } := fun h' sb q => by
      have z := fin h' sb
      rw [away] at z
      rw [sz] at q
      exact z q
    have go : ∀ t2 : SetTable, t2.fits es1.size = true → JT (!w.params.followText "set-order") t2 → ∀ (R : Option Bool → Shared → Prop), (∀ h', Heap.SameBut a s.heap h' → SetX knd h' a (fun k' => S k' || decide (k' = k)) es1.size → R (some true) { s with heap := h' }) → wpAny (model prog w) A (do
        storeSet a es1 t2
        if (!wd && t2.tooFull) = true then do
            (match (relayAll t2 es1 (SetTable.grown es1.size)).2.2 with | true => rule "set.scan.the-table-gave-way" | false => pure ())
            storeSet a (relayAll t2 es1 (SetTable.grown es1.size)).1 (relayAll t2 es1 (SetTable.grown es1.size)).2.1
            pure (some true)
          else pure (some true)) R E s := fun t2 f2 J2 R hR =>
      addTailX quiet ho hx hd ((el.push hk hsc).perm pm) (mem_push_iff hk mem pm) (by rw [sz]; exact room) f2 J2 hR
    refine wpAny_bind (quiet _ _ _ ?_)
    by_cases c : t1.plain = true
    · rw [if_pos c]
      refine wpAny_bind ?_
      rw [hashByValue_scannable 8 hsc]
      refine wpAny_pure ?_
      refine go _ ?_ ?_ _ fun h' sb q => wpAny_pure (last h' sb q)
      · split
        · exact ft
        · exact SetTable.fits_plain_off ft
      · split
        · exact J1
        · exact plain_off_JT J1
    · rw [if_neg c]
      refine wpAny_bind (wpAny_pure ?_)
      rw [if_pos rfl]
      exact go _ ft J1 _ fun h' sb q => wpAny_pure (last h' sb q)
end
end L2

set_option Elab.async false
set_option linter.all false
set_option maxRecDepth 100000
namespace L2
open PySem
theorem slot_setit_next : Slot "set_iterator" "__next__" "set_iterator.__next__" :=
  .of (owner := "set_iterator") (n := "__next__") (by rw [typeLookup_type, builtinLookup_eq_fast]; kernel_rfl)
    (by decide +kernel) (by decide +kernel) (by decide +kernel)
    (by first | exact .inl (by decide +kernel) | exact .inr (by decide +kernel)) (by rw [isSubtype_type]; kernel_rfl)
theorem slot_setit_iter : Slot "set_iterator" "__iter__" "set_iterator.__iter__" :=
  .of (owner := "set_iterator") (n := "__iter__") (by rw [typeLookup_type, builtinLookup_eq_fast]; kernel_rfl)
    (by decide +kernel) (by decide +kernel) (by decide +kernel)
    (by first | exact .inl (by decide +kernel) | exact .inr (by decide +kernel)) (by rw [isSubtype_type]; kernel_rfl)
theorem entry_setit_next : entryFor table "set_iterator.__next__" = some Builtin.«set_iterator.__next__» := entryFor_of_fast (by kernel_rfl)
theorem entry_setit_iter : entryFor table "set_iterator.__iter__" = some Builtin.«dict_keyiterator.__iter__» :=
  entryFor_alias (id' := "dict_keyiterator.__iter__") (by kernel_rfl)
    (by first | rfl | decide +kernel | (unfold String.splitOn; simp +decide [String.splitOnAux])) (by decide +kernel) (by kernel_rfl)
theorem entry_set_iter' : entryFor table "set.__iter__" = some Builtin.«frozenset.__iter__» :=
  entryFor_alias (id' := "frozenset.__iter__") (by kernel_rfl)
    (by first | rfl | decide +kernel | (unfold String.splitOn; simp +decide [String.splitOnAux])) (by decide +kernel) (by kernel_rfl)
theorem args_setit_next (a : Value) : argsOk "set_iterator.__next__" ⟨[a], []⟩ := by unfold argsOk; kernel_rfl
theorem args_setit_iter (a : Value) : argsOk "set_iterator.__iter__" ⟨[a], []⟩ := by unfold argsOk; kernel_rfl

abbrev setIt (first : Value) (i : Nat) (a : Addr) (n ep : Nat) : Obj := { cls := .type "set_iterator", dict := none, data := .fields #[first, .int i 0, .ref a, .int n 0, .int ep 0], slots := #[] }
section
variable {prog : Program} {w : World} {A : Around} {E : Value → Shared → Prop} {s : Shared} {a I : Addr} {o : Obj} {es : Array (Int × Value)} {ep : Nat} {t : SetTable}
theorem byText_ {Q : Bool → Shared → Prop} (h : Q (w.params.followText "set-order") s) : wpAny (model prog w) A setsByText Q E s := wpAny_bind (wpAny_askSetting (wpAny_pure h))
theorem setWalk_text {Q : Array (Int × Value) → Shared → Prop} (ht : w.params.followText "set-order" = true) (ho : s.heap.get? a = some o) (hd : o.data = .set es ep t) (hf : t.fits es.size = true)
    (h : Q (pickOrder (w.params.setOrder a ep) es) s) : wpAny (model prog w) A (setWalk a) Q E s := by
  unfold setWalk
  refine wpAny_bind (wpAny_setState_of ho hd hf ?_)
  dsimp only
  refine wpAny_bind (byText_ ?_)
  rw [ht]
  simp only [if_true]
  exact wpAny_bind (wpAny_askSetting (wpAny_pure h))
theorem setNext_text {sl k : Nat} {Q : Option (Value × Nat) → Shared → Prop} (ht : w.params.followText "set-order" = true) (ho : s.heap.get? a = some o) (hd : o.data = .set es ep t) (hf : t.fits es.size = true)
    (h : Q (((pickOrder (w.params.setOrder a ep) es)[k]?).map fun e => (e.2, sl)) s) : wpAny (model prog w) A (setNext a sl k ep) Q E s := by
  unfold setNext
  refine wpAny_bind (wpAny_setState_of ho hd hf ?_)
  dsimp only
  refine wpAny_bind (byText_ ?_)
  rw [ht]
  simp only [if_true, bne_self_eq_false, Bool.false_eq_true, if_false]
  exact wpAny_bind (setWalk_text ht ho hd hf (wpAny_pure h))
theorem setNext_plain {sl k : Nat} {Q : Option (Value × Nat) → Shared → Prop} (ht : w.params.followText "set-order" = false) (ho : s.heap.get? a = some o) (hd : o.data = .set es ep t) (hf : t.fits es.size = true) (J : JT true t)
    (hp : (!t.plain && decide (es.size > 1)) = false) (hs : SetTable.below t.place sl = k)
    (h : Q (match es[k]?, t.place[k]? with | some (_, x), some j => some (x, j + 1) | _, _ => none) s) : wpAny (model prog w) A (setNext a sl k ep) Q E s := by
  unfold setNext
  refine wpAny_bind (wpAny_setState_of ho hd hf ?_)
  dsimp only
  refine wpAny_bind (byText_ ?_)
  rw [ht]
  simp only [Bool.false_eq_true, if_false]
  show wpAny _ _ (if (!t.plain && decide (es.size > 1)) = true then unsupported _ else _) _ _ s
  rw [hp]
  simp only [Bool.false_eq_true, if_false]
  refine wpAny_bind ?_
  show wpAny _ _ (if (!t.led && !es.isEmpty) = true then unsupported _ else pure ()) _ _ s
  rw [J.led]
  simp only [Bool.not_true, Bool.false_and, Bool.false_eq_true, if_false]
  refine wpAny_pure ?_
  rw [hs]
  exact wpAny_pure h
theorem setEntries_ {Q : Array (Int × Value) → Shared → Prop} (ho : s.heap.get? a = some o) (hd : o.data = .set es ep t) (hf : t.fits es.size = true) (h : Q es s) : wpAny (model prog w) A (setEntries a) Q E s := by
  unfold setEntries
  exact wpAny_bind (wpAny_setState_of ho hd hf (wpAny_pure h))

theorem setit_item {slot : Nat → Nat} {k n : Nat} {x : Value} {Q : Option Value → Shared → Prop} (hI : s.heap.get? I = some (setIt (.int (slot k : Nat) 0) k a n ep)) (ho : s.heap.get? a = some o) (hd : o.data = .set es ep t) (hf : t.fits es.size = true) (hn : es.size = n)
    (hnx : ∀ (B : Around) (Q' : Option (Value × Nat) → Shared → Prop) (E' : Value → Shared → Prop), Q' (some (x, slot (k + 1))) s → wpAny (model prog w) B (setNext a (slot k) k ep) Q' E' s)
    (hQ : ∀ h', h'.get? I = some (setIt (.int (slot (k + 1) : Nat) 0) (k + 1) a n ep) → Heap.SameBut I s.heap h' → Q (some x) { s with heap := h' }) : wpAny (model prog w) A (pyNext (.ref I)) Q E s := by
  have hT : s.TypeIs (.ref I) "set_iterator" := ⟨_, hI, rfl⟩
  unfold pyNext
  refine wpAny_bind (wpAny_attempt (wpAny_callSpecial?_slot (name := Str.ofString "__next__") hT slot_setit_next
    (wpAny_call_entry slot_setit_next hT entry_setit_next ?_ (args_setit_next _))))
  show wpAny _ _ (fieldsOf (.ref I) >>= _) _ _ s
  refine wpAny_bind (wpAny_fieldsOf hI rfl ?_)
  show wpAny _ _ (setEntries a >>= _) _ _ s
  refine wpAny_bind (setEntries_ ho hd hf ?_)
  rw [hn]
  simp only [bne_self_eq_false, Bool.false_eq_true, if_false]
  show wpAny _ _ (setNext a ((slot k : Nat) : Int).toNat ((k : Nat) : Int).toNat ((ep : Nat) : Int).toNat >>= _) _ _ s
  simp only [Int.toNat_natCast]
  refine wpAny_bind (hnx _ _ _ ?_)
  dsimp only
  refine wpAny_bind (wpAny_setField_rec hI (by simp) fun h1 g1 s1 => ?_)
  refine wpAny_bind (wpAny_setField_rec g1 (by simp) fun h2 g2 s2 => wpAny_pure ⟨x, rfl, wpAny_pure (hQ h2 ?_ (s1.trans s2))⟩)
  rw [g2]
  simp [rawInt]
theorem stop_tail {α : Type} {h1 : Heap} {Q : Option Value → Shared → Prop} (hh : A.handled = none) (hQ : ∀ h', (∀ b ob, h1.get? b = some ob → h'.get? b = some ob) → Q none { s with heap := h' }) :
    wpAny (model prog w) A.in1 (newExc (.type "StopIteration") [] >>= fun e => (raiseNew e : Sem α)) (fun _ _ => False)
      (fun e s' => wpAny (model prog w) A (do if ← isInstance e (.type "StopIteration") then pure none else throw e) Q E s') { s with heap := h1 } := by
  refine wpAny_bind ?_
  simp only [newExc, newTuple]
  refine wpAny_bind (wpAny_newObj_type ?_ (by size_fits))
  refine wpAny_bind (m := firstArgMember _ _) (wpAny_of_eq (a := Value.none) (by first | rfl | (simp only [firstArgMember]; rfl)) ?_)
  refine wpAny_newObj_type ?_ (by size_fits)
  simp only [raiseNew]
  refine wpAny_bind (wpAny_handled ?_)
  rw [show A.in1.handled = none from hh]
  refine wpAny_bind (wpAny_pure (wpAny_throw ?_))
  refine wpAny_bind (wpAny_isInstance (T := "StopIteration") (b := true) ⟨_, Heap.get?_push_size _ rfl, rfl⟩ isSubtype_stop ?_)
  exact wpAny_pure (hQ _ fun b ob e => Heap.get?_push_of_some _ (Heap.get?_push_of_some _ e))
theorem setit_done {first : Nat} {k n : Nat} {Q : Option Value → Shared → Prop} (hh : A.handled = none) (hI : s.heap.get? I = some (setIt (.int (first : Nat) 0) k a n ep)) (ho : s.heap.get? a = some o) (hd : o.data = .set es ep t) (hf : t.fits es.size = true) (hn : es.size = n)
    (hnx : ∀ (B : Around) (Q' : Option (Value × Nat) → Shared → Prop) (E' : Value → Shared → Prop), Q' none s → wpAny (model prog w) B (setNext a first k ep) Q' E' s)
    (hQ : ∀ h', (∀ b ob, b ≠ I → s.heap.get? b = some ob → h'.get? b = some ob) → Q none { s with heap := h' }) : wpAny (model prog w) A (pyNext (.ref I)) Q E s := by
  have hT : s.TypeIs (.ref I) "set_iterator" := ⟨_, hI, rfl⟩
  unfold pyNext
  refine wpAny_bind (wpAny_attempt (wpAny_callSpecial?_slot (name := Str.ofString "__next__") hT slot_setit_next
    (wpAny_call_entry slot_setit_next hT entry_setit_next ?_ (args_setit_next _))))
  show wpAny _ _ (fieldsOf (.ref I) >>= _) _ _ s
  refine wpAny_bind (wpAny_fieldsOf hI rfl ?_)
  show wpAny _ _ (setEntries a >>= _) _ _ s
  refine wpAny_bind (setEntries_ ho hd hf ?_)
  rw [hn]
  simp only [bne_self_eq_false, Bool.false_eq_true, if_false]
  show wpAny _ _ (setNext a ((first : Nat) : Int).toNat ((k : Nat) : Int).toNat ((ep : Nat) : Int).toNat >>= _) _ _ s
  simp only [Int.toNat_natCast]
  refine wpAny_bind (hnx _ _ _ ?_)
  dsimp only
  refine wpAny_bind (wpAny_setField_rec hI (by simp) fun h1 g1 s1 => ?_)
  refine wpAny_mono (stop_tail (Q := Q) (E := E) hh fun h' kp => hQ h' fun b ob hb e => kp b ob (s1.extBut b ob hb e)) (fun _ _ z => z.elim) fun e s' z => z

theorem choose_ {src : Source} {n : Nat} {Q : Nat → Shared → Prop} (hn : n ≠ 0) (h : ∀ i d, i < n → Q i { s with drawn := d }) : wpAny (model prog w) A (choose src n) Q E s :=
  fun _ _ _ => ⟨hn, h _ _ (Nat.mod_lt _ (Nat.pos_of_ne_zero hn))⟩
theorem drawOrder_ {α : Type} : ∀ (n : Nat) (xs : List α) (s : Shared) {Q : List α → Shared → Prop}, xs.length = n → (∀ ys d, ys.Perm xs → Q ys { s with drawn := d }) → wpAny (model prog w) A (drawOrder n xs) Q E s := by
  intro n
  induction n with
  | zero =>
    intro xs s Q hn h
    obtain rfl : xs = [] := List.eq_nil_of_length_eq_zero hn
    exact wpAny_pure (h [] s.drawn (List.Perm.refl _))
  | succ n ih =>
    intro xs s Q hn h
    match xs, hn with
    | x :: r, hn =>
      show wpAny _ _ (choose .order (x :: r).length >>= _) _ _ s
      refine wpAny_bind (choose_ (by simp) fun i d hi => ?_)
      rw [List.getElem?_eq_getElem hi]
      dsimp only
      refine wpAny_bind (ih _ _ (by rw [List.length_eraseIdx_of_lt hi]; omega) fun ys d' pm => wpAny_pure (h _ d' ((pm.cons _).trans (erase_perm (x :: r) i hi))))
theorem setDrawn_ {Q : Bool → Shared → Prop} (ho : s.heap.get? a = some o) (hd : o.data = .set es ep t) (hf : t.fits es.size = true) (h : Q (!w.params.followText "set-order" && (!t.plain && decide (es.size > 1))) s) : wpAny (model prog w) A (setDrawn a) Q E s := by
  unfold setDrawn
  refine wpAny_bind (wpAny_setState_of ho hd hf ?_)
  dsimp only
  exact wpAny_bind (byText_ (wpAny_pure h))
theorem setitD_item {T : Addr} {ps : List Nat} {k n p : Nat} {x : Value} {h0 : Int} {Q : Option Value → Shared → Prop} (hI : s.heap.get? I = some (setIt (.ref T) k a n ep)) (hTu : s.heap.get? T = some { cls := .type "tuple", data := .seq (ps.map fun (i : Nat) => rawInt i).toArray })
    (ho : s.heap.get? a = some o) (hd : o.data = .set es ep t) (hf : t.fits es.size = true) (hn : es.size = n) (hp : ps[k]? = some p) (hx : es[p]? = some (h0, x))
    (hQ : ∀ h', h'.get? I = some (setIt (.ref T) (k + 1) a n ep) → Heap.SameBut I s.heap h' → Q (some x) { s with heap := h' }) : wpAny (model prog w) A (pyNext (.ref I)) Q E s := by
  have hT : s.TypeIs (.ref I) "set_iterator" := ⟨_, hI, rfl⟩
  unfold pyNext
  refine wpAny_bind (wpAny_attempt (wpAny_callSpecial?_slot (name := Str.ofString "__next__") hT slot_setit_next
    (wpAny_call_entry slot_setit_next hT entry_setit_next ?_ (args_setit_next _))))
  show wpAny _ _ (fieldsOf (.ref I) >>= _) _ _ s
  refine wpAny_bind (wpAny_fieldsOf hI rfl ?_)
  show wpAny _ _ (setEntries a >>= _) _ _ s
  refine wpAny_bind (setEntries_ ho hd hf ?_)
  rw [hn]
  simp only [bne_self_eq_false, Bool.false_eq_true, if_false]
  show wpAny _ _ (seqItems? (.ref T) >>= _) _ _ s
  refine wpAny_bind (wpAny_seqItems hTu rfl ?_)
  dsimp only
  have e : (ps.map fun (i : Nat) => rawInt i).toArray[((k : Nat) : Int).toNat]? = some (.int (p : Nat) 0) := by
    rw [Int.toNat_natCast, List.getElem?_toArray, List.getElem?_map, hp]
    rfl
  rw [e]
  dsimp only
  show wpAny _ _ (setNextDrawn a ((p : Nat) : Int).toNat ((ep : Nat) : Int).toNat >>= _) _ _ s
  simp only [Int.toNat_natCast]
  unfold setNextDrawn
  refine wpAny_bind (wpAny_bind (wpAny_setState_of ho hd hf ?_))
  dsimp only
  simp only [bne_self_eq_false, Bool.false_eq_true, if_false, hx]
  refine wpAny_pure ?_
  refine wpAny_bind (wpAny_setField_rec hI (by simp) fun h2 g2 s2 => wpAny_pure ⟨x, rfl, wpAny_pure (hQ h2 ?_ s2)⟩)
  rw [g2]
  simp [rawInt]
theorem setitD_done {T : Addr} {ps : List Nat} {k n : Nat} {Q : Option Value → Shared → Prop} (hh : A.handled = none) (hI : s.heap.get? I = some (setIt (.ref T) k a n ep)) (hTu : s.heap.get? T = some { cls := .type "tuple", data := .seq (ps.map fun (i : Nat) => rawInt i).toArray })
    (ho : s.heap.get? a = some o) (hd : o.data = .set es ep t) (hf : t.fits es.size = true) (hn : es.size = n) (hp : ps[k]? = none)
    (hQ : ∀ h', (∀ b ob, b ≠ I → s.heap.get? b = some ob → h'.get? b = some ob) → Q none { s with heap := h' }) : wpAny (model prog w) A (pyNext (.ref I)) Q E s := by
  have hT : s.TypeIs (.ref I) "set_iterator" := ⟨_, hI, rfl⟩
  unfold pyNext
  refine wpAny_bind (wpAny_attempt (wpAny_callSpecial?_slot (name := Str.ofString "__next__") hT slot_setit_next
    (wpAny_call_entry slot_setit_next hT entry_setit_next ?_ (args_setit_next _))))
  show wpAny _ _ (fieldsOf (.ref I) >>= _) _ _ s
  refine wpAny_bind (wpAny_fieldsOf hI rfl ?_)
  show wpAny _ _ (setEntries a >>= _) _ _ s
  refine wpAny_bind (setEntries_ ho hd hf ?_)
  rw [hn]
  simp only [bne_self_eq_false, Bool.false_eq_true, if_false]
  show wpAny _ _ (seqItems? (.ref T) >>= _) _ _ s
  refine wpAny_bind (wpAny_seqItems hTu rfl ?_)
  dsimp only
  have e : (ps.map fun (i : Nat) => rawInt i).toArray[((k : Nat) : Int).toNat]? = none := by
    rw [Int.toNat_natCast, List.getElem?_toArray, List.getElem?_map, hp]
    rfl
  rw [e]
  dsimp only
  refine wpAny_bind (wpAny_setField_rec hI (by simp) fun h1 g1 s1 => ?_)
  refine wpAny_bind (wpAny_setField_rec g1 (by simp) fun h2 g2 s2 => ?_)
  refine wpAny_mono (stop_tail (Q := Q) (E := E) hh fun h' kp => hQ h' fun b ob hb e => kp b ob (s2.extBut b ob hb (s1.extBut b ob hb e))) (fun _ _ z => z.elim) fun e s' z => z
theorem setit_self {first : Value} {k n : Nat} {Q : Value → Shared → Prop} (hI : s.heap.get? I = some (setIt first k a n ep)) (h : Q (.ref I) s) : wpAny (model prog w) A (pyIter (.ref I)) Q E s := by
  have hT : s.TypeIs (.ref I) "set_iterator" := ⟨_, hI, rfl⟩
  refine wpAny_pyIter_slot hT slot_setit_iter (wpAny_call_entry slot_setit_iter hT entry_setit_iter ?_ (args_setit_iter _))
  show wpAny _ _ (ret (.ref I)) _ _ s
  exact wpAny_pure ⟨_, rfl, "set_iterator", _, hT, slot_setit_next.lookup, h⟩


def SetWalks (prog : Program) (w : World) (A : Around) (a I N : Addr) (n : Nat) (xs : List Value) (s : Shared) : Prop :=
  ∃ (fp : List Addr) (St : Nat → Shared → Prop), WalksS prog w A I fp [I] (fun a b => b = a) n (fun i v => xs[i]? = some v) St ∧ St 0 s ∧ (∀ b ∈ fp, (b = a ∨ N ≤ b) ∧ b < s.heap.objs.size) ∧ I ∈ fp
theorem walks_num {slot : Nat → Nat} {n : Nat} {xs : List Value} (hh : A.handled = none) (hne : a ≠ I) (hd : o.data = .set es ep t) (hf : t.fits es.size = true) (hn : es.size = n) (hxs : xs.length = n)
    (step : ∀ (k : Nat) (s : Shared) (B : Around) (Q' : Option (Value × Nat) → Shared → Prop) (E' : Value → Shared → Prop), k ≤ n → s.heap.get? a = some o → Q' ((xs[k]?).map fun x => (x, slot (k + 1))) s → wpAny (model prog w) B (setNext a (slot k) k ep) Q' E' s) :
    WalksS prog w A I [I, a] [I] (fun a b => b = a) n (fun i v => xs[i]? = some v) (fun k s => s.heap.get? I = some (setIt (.int (slot k : Nat) 0) k a n ep) ∧ s.heap.get? a = some o) where
  sub := fun b hb => by simp at hb; simp [hb]
  grefl := fun _ => rfl
  gtrans := fun _ _ _ p q => q.trans p
  frame := fun i s h' tk st _ kp => ⟨kp I (by simp) _ st.1, kp a (by simp) _ st.2⟩
  item := fun i s Q E hi st hQ => by
    have hx : xs[i]? = some (xs[i]'(by omega)) := List.getElem?_eq_getElem (by omega)
    refine setit_item (x := xs[i]'(by omega)) st.1 st.2 hd hf hn (fun B Q' E' q => step i s B Q' E' (by omega) st.2 (by rw [hx]; exact q)) fun h' g sb => ?_
    exact hQ _ _ hx ⟨g, sb.extBut a o hne st.2⟩ ⟨fun b ob hb e => sb.extBut b ob (fun z => hb (by simp [z])) e, rfl, rfl, rfl, Nat.le_refl _⟩
  done := fun s Q E st hQ => by
    have hx : xs[n]? = none := List.getElem?_eq_none (by omega)
    refine setit_done hh st.1 st.2 hd hf hn (fun B Q' E' q => step n s B Q' E' (Nat.le_refl _) st.2 (by rw [hx]; exact q)) fun h' kp => ?_
    exact hQ _ ⟨fun b ob hb e => kp b ob (fun z => hb (by simp [z])) e, rfl, rfl, rfl, Nat.le_refl _⟩
  self := fun i s Q E st q => setit_self st.1 q
theorem walks_drawn {T : Addr} {ps : List Nat} {n : Nat} {xs : List Value} (hh : A.handled = none) (hne : a ≠ I) (hnT : T ≠ I) (hd : o.data = .set es ep t) (hf : t.fits es.size = true) (hn : es.size = n) (hps : ps.length = n)
    (hx : ∀ (k p : Nat), ps[k]? = some p → ∃ h0 x, es[p]? = some (h0, x) ∧ xs[k]? = some x) :
    WalksS prog w A I [I, a, T] [I] (fun a b => b = a) n (fun i v => xs[i]? = some v) (fun k s => s.heap.get? I = some (setIt (.ref T) k a n ep) ∧ s.heap.get? a = some o ∧ s.heap.get? T = some { cls := .type "tuple", data := .seq (ps.map fun (i : Nat) => rawInt i).toArray }) where
  sub := fun b hb => by simp at hb; simp [hb]
  grefl := fun _ => rfl
  gtrans := fun _ _ _ p q => q.trans p
  frame := fun i s h' tk st _ kp => ⟨kp I (by simp) _ st.1, kp a (by simp) _ st.2.1, kp T (by simp) _ st.2.2⟩
  item := fun i s Q E hi st hQ => by
    have hp : ps[i]? = some (ps[i]'(by omega)) := List.getElem?_eq_getElem (by omega)
    obtain ⟨h0, x, e1, e2⟩ := hx i _ hp
    refine setitD_item st.1 st.2.2 st.2.1 hd hf hn hp e1 fun h' g sb => ?_
    exact hQ _ _ e2 ⟨g, sb.extBut a o hne st.2.1, sb.extBut T _ hnT st.2.2⟩ ⟨fun b ob hb e => sb.extBut b ob (fun z => hb (by simp [z])) e, rfl, rfl, rfl, Nat.le_refl _⟩
  done := fun s Q E st hQ => by
    refine setitD_done hh st.1 st.2.2 st.2.1 hd hf hn (List.getElem?_eq_none (by omega)) fun h' kp => ?_
    exact hQ _ ⟨fun b ob hb e => kp b ob (fun z => hb (by simp [z])) e, rfl, rfl, rfl, Nat.le_refl _⟩
  self := fun i s Q E st q => setit_self st.1 q
theorem pyIter_set {Q : Value → Shared → Prop} (ho : s.heap.get? a = some o) (hx : o.ExactSet) (hd : o.data = .set es ep t) (hf : t.fits es.size = true) (J : JT (!w.params.followText "set-order") t) (hz : es.size ≤ sizeLine)
    (hQ : ∀ (I : Addr) (xs : List Value) (h' : Heap) (d), xs.Perm (es.toList.map (·.2)) → s.heap.objs.size ≤ I → (∀ b ob, s.heap.get? b = some ob → h'.get? b = some ob) →
      (∀ B : Around, B.handled = none → SetWalks prog w B a I s.heap.objs.size es.size xs { s with heap := h', drawn := d }) → Q (.ref I) { s with heap := h', drawn := d }) : wpAny (model prog w) A (pyIter (.ref a)) Q E s := by
  have hT : s.TypeIs (.ref a) "set" := ⟨o, ho, hx.1⟩
  have hal : a < s.heap.objs.size := Heap.lt_size ho
  refine wpAny_pyIter_slot hT F.slot_set_iter (wpAny_call_entry F.slot_set_iter hT entry_set_iter' ?_ (F.args_set_iter_1 _))
  show wpAny _ _ (Builtin.Frozenset.sizeOf a >>= _) _ _ s
  refine wpAny_bind (wpAny_bind (setEntries_ ho hd hf (wpAny_pure ?_)))
  refine wpAny_bind (setDrawn_ ho hd hf ?_)
  by_cases c : (!w.params.followText "set-order" && (!t.plain && decide (es.size > 1))) = true
  · rw [c]
    simp only [if_true]
    refine wpAny_bind (drawOrder_ es.size (List.range es.size) s (by simp) fun ps d pm => ?_)
    have hps : ps.length = es.size := by simpa using pm.length_eq
    simp only [newTuple]
    refine wpAny_bind (wpAny_newObj_type ?_ ?_)
    case refine_2 =>
      show (List.map (fun (i : Nat) => rawInt i) ps).toArray.size ≤ sizeLine
      rw [List.size_toArray, List.length_map, hps]
      exact hz
    have ho' : (s.heap.push { cls := .type "tuple", data := .seq (ps.map fun (i : Nat) => rawInt i).toArray }).get? a = some o := Heap.get?_push_of_some _ ho
    refine wpAny_bind (wpAny_setEpoch_of ho' hd hf ?_)
    refine wpAny_bind (wpAny_newObj_type ?_)
    have eI : (s.heap.push { cls := .type "tuple", data := .seq (ps.map fun (i : Nat) => rawInt i).toArray }).objs.size = s.heap.objs.size + 1 := Heap.size_push ..
    refine wpAny_pure ⟨_, rfl, "set_iterator", _, ⟨_, Heap.get?_push_size _ rfl, rfl⟩, slot_setit_next.lookup, ?_⟩
    refine hQ _ ((ps.map fun p => (es[p]?).map (·.2)).filterMap id) _ d ?_ (by rw [eI]; exact Nat.le_succ _) (fun b ob e => Heap.get?_push_of_some _ (Heap.get?_push_of_some _ e)) fun B hB => ?_
    · refine ((pm.map _).filterMap _).trans ?_
      rw [List.filterMap_map]
      have : (List.range es.size).filterMap (id ∘ fun p => (es[p]?).map (·.2)) = ((List.range es.size).filterMap fun p => es[p]?).map (·.2) := by
        rw [List.map_filterMap]
        rfl
      rw [this, filterMap_getElem?_range]
    · have key : ∀ (l : List Nat), (∀ p ∈ l, p < es.size) → ∀ (k p : Nat), l[k]? = some p → ∃ h0 x, es[p]? = some (h0, x) ∧ ((l.map fun p => (es[p]?).map (·.2)).filterMap id)[k]? = some x := by
        intro l
        induction l with
        | nil => intro _ k p e; simp at e
        | cons q r ih =>
          intro hl k p e
          have hq := hl q List.mem_cons_self
          have eq : es[q]? = some es[q] := Array.getElem?_eq_getElem hq
          have e2 : ((q :: r).map fun p => (es[p]?).map (·.2)).filterMap id = es[q].2 :: (r.map fun p => (es[p]?).map (·.2)).filterMap id := by
            rw [List.map_cons, eq]
            rfl
          rw [e2]
          cases k with
          | zero =>
            have : q = p := by simpa using e
            subst this
            exact ⟨es[q].1, es[q].2, eq, rfl⟩
          | succ k => exact ih (fun p hp => hl p (List.mem_cons_of_mem _ hp)) k p (by simpa using e)
      refine ⟨_, _, walks_drawn (o := o) (T := s.heap.objs.size) (ps := ps) hB (by rw [eI]; exact Nat.ne_of_lt (Nat.lt_succ_of_lt hal)) (by rw [eI]; exact Nat.ne_of_lt (Nat.lt_succ_self _)) hd hf rfl hps (key ps fun p hp => by simpa using pm.mem_iff.mp hp), ⟨Heap.get?_push_size _ rfl, Heap.get?_push_of_some _ ho', Heap.get?_push_of_some _ (Heap.get?_push_size _ rfl)⟩, fun b hb => ?_, by simp⟩
      simp only [List.mem_cons, List.not_mem_nil, or_false] at hb
      rw [Heap.size_push]
      rcases hb with rfl | rfl | rfl
      · exact ⟨.inr (by rw [eI]; exact Nat.le_succ _), Nat.lt_succ_self _⟩
      · exact ⟨.inl rfl, by rw [eI]; exact Nat.lt_succ_of_lt (Nat.lt_succ_of_lt hal)⟩
      · exact ⟨.inr (Nat.le_refl _), by rw [eI]; exact Nat.lt_succ_of_lt (Nat.lt_succ_self _)⟩
  · rw [Bool.eq_false_iff.mpr c]
    simp only [Bool.false_eq_true, if_false]
    refine wpAny_bind (wpAny_pure (wpAny_bind (wpAny_setEpoch_of ho hd hf ?_)))
    refine wpAny_bind (wpAny_newObj_type ?_)
    refine wpAny_pure ⟨_, rfl, "set_iterator", _, ⟨_, Heap.get?_push_size _ rfl, rfl⟩, slot_setit_next.lookup, ?_⟩
    have hne : a ≠ s.heap.objs.size := Nat.ne_of_lt hal
    have go : ∀ (slot : Nat → Nat) (xs : List Value), slot 0 = 0 → xs.Perm (es.toList.map (·.2)) → (∀ (k : Nat) (s : Shared) (B : Around) (Q' : Option (Value × Nat) → Shared → Prop) (E' : Value → Shared → Prop), k ≤ es.size → s.heap.get? a = some o → Q' ((xs[k]?).map fun x => (x, slot (k + 1))) s → wpAny (model prog w) B (setNext a (slot k) k ep) Q' E' s) →
        Q (.ref s.heap.objs.size) { s with heap := s.heap.push (setIt (rawInt 0) 0 a es.size ep) } := fun slot xs h0 pm step => by
      refine hQ _ xs _ s.drawn pm (Nat.le_refl _) (fun b ob e => Heap.get?_push_of_some _ e) fun B hB => ⟨_, _, walks_num (slot := slot) hB hne hd hf rfl (by simpa using pm.length_eq) step, ⟨?_, Heap.get?_push_of_some _ ho⟩, fun b hb => ?_, by simp⟩
      · rw [h0]
        exact Heap.get?_push_size _ rfl
      · simp only [List.mem_cons, List.not_mem_nil, or_false] at hb
        rw [Heap.size_push]
        rcases hb with rfl | rfl
        · exact ⟨.inr (Nat.le_refl _), Nat.lt_succ_self _⟩
        · exact ⟨.inl rfl, Nat.lt_succ_of_lt hal⟩
    cases ht : w.params.followText "set-order" with
    | true =>
      refine go (fun _ => 0) ((pickOrder (w.params.setOrder a ep) es).toList.map (·.2)) rfl ((pickOrder_perm _ es).map _) fun k s' B Q' E' hk ho' q => setNext_text ht ho' hd hf ?_
      have e : (((pickOrder (w.params.setOrder a ep) es).toList.map (·.2))[k]?).map (fun x => (x, 0)) = ((pickOrder (w.params.setOrder a ep) es)[k]?).map fun e => (e.2, 0) := by
        rw [List.getElem?_map, Array.getElem?_toList, Option.map_map]
        rfl
      rw [← e]
      exact q
    | false =>
      rw [ht] at c J
      have hpl : t.place.size = es.size := by
        simp only [SetTable.fits, Bool.and_eq_true, beq_iff_eq] at hf
        exact hf.1
      refine go (fun k => match k with | 0 => 0 | k + 1 => t.place.getD k 0 + 1) (es.toList.map (·.2)) rfl (List.Perm.refl _) fun k s' B Q' E' hk ho' q => setNext_plain ht ho' hd hf J (by simpa using c) ?_ ?_
      · cases k with
        | zero => exact below_first J.mono
        | succ k =>
          have hk' : k < t.place.size := by omega
          have e : t.place.getD k 0 = t.place[k] := by simp [Array.getD, hk']
          show SetTable.below t.place (t.place.getD k 0 + 1) = k + 1
          rw [e]
          exact below_next J.mono k hk'
      · rcases Nat.lt_or_eq_of_le hk with hlt | heq
        · have hk' : k < t.place.size := by omega
          have e2 : t.place.getD k 0 = t.place[k] := by simp [Array.getD, hk']
          have e3 : (es.toList.map (·.2))[k]? = some es[k].2 := by simp [hlt]
          rw [e3] at q
          simp only [Array.getElem?_eq_getElem hlt, Array.getElem?_eq_getElem hk']
          rw [← e2]
          exact q
        · have e3 : (es.toList.map (·.2))[k]? = none := by simp [heq]
          rw [e3] at q
          have e4 : es[k]? = none := by simp [heq]
          simp only [e4]
          exact q
end
end L2

set_option Elab.async false
set_option linter.all false
set_option maxRecDepth 100000
namespace L2
open PySem PyProof.Rows
theorem len_of_set : typeLookup (.type "set") "__len__" = pure (some (.builtin "set.__len__")) := F.slot_set_len.lookup
theorem split_set_len : splitId "set.__len__" = some ("set", "__len__") := by kernel_rfl
section
variable {prog : Program} {w : World} {A : Around} {E : Value → Shared → Prop} {s : Shared} {a : Addr} {o : Obj} {es : Array (Int × Value)} {ep : Nat} {t : SetTable}
theorem hint_set {Q : Bool → Shared → Prop} (hT : s.TypeIs (.ref a) "set") (h : Q false s) : wpAny (model prog w) A (Builtin.List.listLengthHint (.ref a)) Q E s := by
  unfold Builtin.List.listLengthHint
  refine wpAny_bind (wpAny_specialOf hT len_of_set ?_)
  simp only [split_set_len]
  refine wpAny_bind (wpAny_isInstance hT sub_set_self ?_)
  simp only [Bool.not_true, Bool.false_eq_true, if_false]
  show wpAny _ _ (typeOf (.ref a) >>= _) _ _ s
  exact wpAny_bind (wpAny_typeOf hT (wpAny_pure h))
theorem collect_set {Q : List Value → Shared → Prop} (hh : A.handled = none) (ho : s.heap.get? a = some o) (hx : o.ExactSet) (hd : o.data = .set es ep t) (hf : t.fits es.size = true) (J : JT (!w.params.followText "set-order") t) (hz : es.size ≤ sizeLine)
    (hQ : ∀ (h' : Heap) (d) (tk : Nat) (xs : List Value), xs.Perm (es.toList.map (·.2)) → s.heap.objs.size < h'.objs.size → (∀ b ob, s.heap.get? b = some ob → h'.get? b = some ob) → Q xs { s with heap := h', drawn := d, toks := tk }) : wpAny (model prog w) A (collect (.ref a)) Q E s := by
  have hal : a < s.heap.objs.size := Heap.lt_size ho
  unfold collect
  refine wpAny_bind (wpAny_runValue (codeAny_builtin F.entry_proto_collect ?_))
  rw [Around.under_plainId F.plain_proto_collect _]
  show wpAny _ A.in1 (newList [] >>= fun l => again (.builtin "list.__iadd__" ⟨[l, .ref a], []⟩)) _ _ s
  refine wpAny_bind (wpAny_newObj_type ?_)
  refine wpAny_pure ⟨plainId_quiet F.plain_list_iadd _, codeAny_builtin F.entry_list_iadd ?_⟩
  rw [Around.under_plainId F.plain_list_iadd _]
  generalize hH1 : s.heap.push { cls := .type "list", data := .seq ([] : List Value).toArray } = H1
  have sz1 : H1.objs.size = s.heap.objs.size + 1 := by rw [← hH1]; exact Heap.size_push ..
  have old1 : ∀ b ob, s.heap.get? b = some ob → H1.get? b = some ob := fun b ob e => by rw [← hH1]; exact Heap.get?_push_of_some _ e
  have gS : H1.get? s.heap.objs.size = some { cls := .type "list", data := .seq ([] : List Value).toArray } := by rw [← hH1]; exact Heap.get?_push_size _ rfl
  show wpAny _ A.in1 (Builtin.List.listExtendWith (.ref s.heap.objs.size) (.ref a) (.ref s.heap.objs.size)) _ _ { s with heap := H1 }
  unfold Builtin.List.listExtendWith
  have ho1 := old1 a o ho
  refine wpAny_bind (wpAny_typeOf (T := "set") ⟨o, ho1, hx.1⟩ ?_)
  have h1 : Builtin.List.listSameRef (.ref s.heap.objs.size) (.ref a) = false := by simpa [Builtin.List.listSameRef] using Nat.ne_of_gt hal
  have h2 : (Value.type "set" == Value.type "list") = false := by decide
  have h3 : (Value.type "set" == Value.type "tuple") = false := by decide
  simp only [h1, h2, h3, Bool.or_false, Bool.false_eq_true, if_false]
  refine wpAny_bind (pyIter_set (s := { s with heap := H1 }) ho1 hx hd hf J hz fun I xs h' d pm hI old2 walks => ?_)
  refine wpAny_bind (wpAny_holding (hint_set ⟨o, old2 a o ho1, hx.1⟩ ?_))
  show wpAny _ A.in1 (rule "list.extend.makes-room" >>= fun _ => Builtin.List.listTouch (.ref s.heap.objs.size) >>= fun _ =>
    again (.builtin "list.extend.loop" ⟨[.ref s.heap.objs.size, .ref I, .ref s.heap.objs.size], []⟩)) _ _ _
  refine wpAny_bind (wpAny_rule (wpAny_bind ?_))
  have g2 := old2 _ _ gS
  show wpAny _ A.in1 (updateSeq s.heap.objs.size (·.push .none) >>= fun _ => updateSeq s.heap.objs.size (·.pop)) _ _ _
  refine wpAny_bind (wpAny_updateSeq g2 rfl ?_)
  have g3 := Heap.get?_update_self (Obj.mapSeq (·.push Value.none)) g2 rfl
  refine wpAny_updateSeq g3 rfl ?_
  have g4 := Heap.get?_update_self (Obj.mapSeq (·.pop)) g3 rfl
  have oth : ∀ b ob, b ≠ s.heap.objs.size → h'.get? b = some ob → ((h'.update s.heap.objs.size (Obj.mapSeq (·.push Value.none))).update s.heap.objs.size (Obj.mapSeq (·.pop))).get? b = some ob :=
    fun b ob hb e => (Heap.get?_update_other _ _ (Ne.symm hb)).trans ((Heap.get?_update_other _ _ (Ne.symm hb)).trans e)
  obtain ⟨fp, St, W, st, hfp, _⟩ := walks A.in1 hh
  have hSf : s.heap.objs.size ∉ fp := fun hm => by
    rcases (hfp _ hm).1 with e | e
    · exact Nat.lt_irrefl _ (e ▸ hal)
    · have e' : H1.objs.size ≤ s.heap.objs.size := e
      rw [sz1] at e'
      exact Nat.lt_irrefl _ e'
  refine wpAny_pure ⟨plainId_quiet F.plain_extend_loop _, codeAny_extend_loopS W hz _ hSf _ es.size 0 _ _ _ rfl (Nat.zero_le _)
    (W.frame 0 ({ s with heap := h', drawn := d } : Shared) _ s.toks st (Nat.le_refl _) fun b hb ob e => oth b ob (fun z => hSf (z ▸ hb)) e) g4 (ItemsOf.nil _) fun s' acc' c' hm hS' hacc => ?_⟩
  show wpAny _ A (load s.heap.objs.size >>= _) _ _ s'
  refine wpAny_bind (wpAny_load hS' (wpAny_pure ?_))
  have e1 : s'.gens = s.gens := hm.gens
  have e2 : s'.drawn = d := hm.drawn
  have e3 : s'.os = s.os := hm.os
  have es' : s' = { s with heap := s'.heap, drawn := d, toks := s'.toks } := by
    obtain ⟨h0, g0, d0, t0, o0⟩ := s'
    simp only at e1 e2 e3
    subst e1 e2 e3
    rfl
  have exs : acc'.toList = xs := by
    have hl : xs.length = es.size := by simpa using pm.length_eq
    apply List.ext_getElem
    · rw [Array.length_toList, hacc.1, hl]
    · intro i q1 q2
      have this : xs[i]? = some acc'[i] := hacc.2 i acc'[i] (by simp)
      rw [List.getElem?_eq_getElem q2] at this
      simpa using (Option.some.inj this).symm
  have big : s.heap.objs.size < s'.heap.objs.size := Heap.lt_size hS'
  rw [exs, es']
  refine hQ _ d _ xs pm big fun b ob e => ?_
  have hb : b ≠ s.heap.objs.size := Nat.ne_of_lt (Heap.lt_size e)
  refine hm.heap b ob ?_ (oth b ob hb (old2 b ob (old1 b ob e)))
  simp only [List.mem_cons, List.not_mem_nil, or_false, not_or]
  refine ⟨hb, fun z => ?_⟩
  have hI' : H1.objs.size ≤ I := hI
  rw [sz1, ← z] at hI'
  exact Nat.lt_irrefl _ (Nat.lt_of_lt_of_le (Nat.lt_succ_of_lt (Heap.lt_size e)) hI')
theorem ints_of_elems (h : ElemsOf (intKind prog w) es.toList) : ∃ ks : List Int, IntsAre (es.toList.map (·.2)) ks ∧ ∀ k, k ∈ ks ↔ ∃ e ∈ es.toList, (intKind prog w).is k e.2 = true := by
  have go : ∀ l : List (Int × Value), ElemsOf (intKind prog w) l → ∃ ks : List Int, IntsAre (l.map (·.2)) ks ∧ ∀ k, k ∈ ks ↔ ∃ e ∈ l, (intKind prog w).is k e.2 = true := by
    intro l
    induction l with
    | nil => intro _; exact ⟨[], .nil, by simp⟩
    | cons e r ih =>
      intro h
      obtain ⟨ks, h1, h2⟩ := ih h.tail
      obtain ⟨⟨k, hk, _⟩, _⟩ := h.head
      obtain ⟨tk, ek⟩ := Value.isInt_shape (k := k) (v := e.2) hk
      refine ⟨k :: ks, ?_, fun k' => ?_⟩
      · rw [List.map_cons, ek]
        exact .cons k tk h1
      · rw [List.mem_cons, h2 k']
        constructor
        · rintro (rfl | ⟨e', he, q⟩)
          · exact ⟨e, List.mem_cons_self, hk⟩
          · exact ⟨e', List.mem_cons_of_mem _ he, q⟩
        · rintro ⟨e', he, q⟩
          rcases List.mem_cons.mp he with rfl | he
          · exact .inl ((intKind prog w).inj e'.2 k' k q hk)
          · exact .inr ⟨e', he, q⟩
  exact go _ h
theorem IntsAre.perm {vs us : List Value} (p : us.Perm vs) : ∀ {ns : List Int}, IntsAre vs ns → ∃ ms, IntsAre us ms ∧ ms.Perm ns := by
  induction p with
  | nil => intro ns h; exact ⟨ns, h, List.Perm.refl _⟩
  | cons x _ ih =>
    intro ns h
    cases h with
    | cons n t h => obtain ⟨ms, h1, h2⟩ := ih h; exact ⟨n :: ms, .cons n t h1, h2.cons n⟩
  | swap x y l =>
    intro ns h
    cases h with
    | cons n t h => cases h with
      | cons m u h => exact ⟨_, .cons m u (.cons n t h), List.Perm.swap _ _ _⟩
  | trans _ _ ih1 ih2 =>
    intro ns h
    obtain ⟨ms, h1, h2⟩ := ih2 h
    obtain ⟨ls, h3, h4⟩ := ih1 h1
    exact ⟨ls, h3, h4.trans h2⟩
theorem sorted_set {S : Int → Bool} {n : Nat} {Q : Value → Shared → Prop} (hh : A.handled = none) (hS : SetX (intKind prog w) s.heap a S n) (h64 : n < 64)
    (h : ∀ (l : Addr) (h' : Heap) (d) (tk e : Nat) (out : Array Value) (ns : List Int), IntsAre out.toList ns → ns.Pairwise (· ≤ ·) → (∀ k, k ∈ ns ↔ S k = true) → ns.length = n → s.heap.objs.size ≤ l → (∀ b ob, s.heap.get? b = some ob → h'.get? b = some ob) →
      h'.get? l = some (seqObj "list" out e) → Q (.ref l) { s with heap := h', drawn := d, toks := tk }) : wpAny (model prog w) A (call (.builtin "sorted") [.ref a]) Q E s := by
  obtain ⟨o, es, ep, t, ho, hx, hd, ⟨el, mem, hb, hf, hn⟩, J⟩ := hS
  obtain ⟨ks, ik, mk⟩ := ints_of_elems el
  refine Calls.call_function_entry kind_sorted plain_sorted entry_sorted (args_sorted1 _) ?_
  unfold Builtin.«sorted»
  refine wpAny_bind (m := checkCount "sorted" 1 1 _) (wpAny_pure ?_)
  refine wpAny_bind (collect_set hh ho hx hd hf J (fits_of_scanBound hb) fun h1 d tk xs pm big old => ?_)
  obtain ⟨ms, im, pms⟩ := IntsAre.perm pm ik
  have hxl : xs.length = n := by rw [← hn]; simpa using pm.length_eq
  refine wpAny_bind (wpAny_newList ?_ (by rw [hxl]; exact Nat.le_trans (Nat.le_of_lt h64) (by decide)))
  have hoL : (h1.push (seqObj "list" xs.toArray 0)).get? h1.objs.size = some (seqObj "list" xs.toArray 0) := Heap.get?_push_size _ rfl
  show wpAny _ _ _ _ _ { s with heap := h1.push (seqObj "list" xs.toArray 0), drawn := d, toks := tk }
  refine wpAny_bind (wpAny_holding (wpAny_call_entry slot_list_sort ⟨_, hoL, rfl⟩ entry_list_sort (list_sort_tree hoL im (by omega) fun out ns a1 a2 a3 => ⟨_, rfl, ?_⟩) (args_list_sort _)))
  obtain ⟨e, he⟩ := sortedHeap_at (out := out) hoL
  refine wpAny_pure ⟨_, rfl, h h1.objs.size _ d tk e out ns a1 a3 (fun k => ?_) ?_ ?_ (fun b ob q => ?_) he⟩
  · rw [a2.mem_iff, pms.mem_iff, mk k, mem k]
  · rw [a2.length_eq, pms.length_eq, ← ik.length, List.length_map, Array.length_toList, hn]
  · exact Nat.le_of_lt big
  · have q1 := old b ob q
    have hlt := Heap.lt_size q1
    rw [sortedHeap_old (Nat.ne_of_lt hlt) (by rw [Heap.size_push]; exact Nat.lt_succ_of_lt hlt)]
    exact Heap.get?_push_of_some _ q1
end
end L2

set_option Elab.async false
set_option linter.all false
set_option maxRecDepth 100000
namespace L2
open PySem PyProof.Rows
section
variable {prog : Program} {w : World} {A : Around} {R : Result → Shared → Prop} {I : Addr} {fp wr : List Addr} {G : Array GenState → Array GenState → Prop} {n : Nat} {P : Nat → Value → Prop} {St : Nat → Shared → Prop}
abbrev metSet (prog : Program) (w : World) (val : Nat → Int) (i : Nat) (h : Heap) (S : Addr) : Prop := SetX (intKind prog w) h S (fun k => (firstMet val i).any (· == k)) (firstMet val i).length
theorem updLoopX (W : WalksS prog w A.in1 I fp wr G n P St) (S : Addr) (hSf : S ∉ fp) (val : Nat → Int) (hval : ∀ i v, P i v → ∃ t, v = .int (val i) t) (hb : n + 1 < scanBound) :
    ∀ (k i : Nat) (s : Shared), n - i = k → i ≤ n → St i s → metSet prog w val i s.heap S → (∀ s', Moved (S :: wr) G s s' → metSet prog w val n s'.heap S → R (.ok (.ret .none)) s') →
      codeAny (model prog w) A (.builtin "set.update.loop" ⟨[.ref S, .ref I], []⟩) R s := by
  have hSw : S ∉ wr := fun z => hSf (W.sub _ z)
  have sub : ∀ b ∈ wr, b ∈ S :: wr := fun b q => List.mem_cons_of_mem _ q
  intro k
  induction k with
  | zero =>
    intro i s hk hi st x fin
    obtain rfl : i = n := by omega
    refine codeAny_builtin PyProof.Rows.F.entry_set_update_loop ?_
    rw [Around.under_plainId PyProof.Rows.F.plain_set_update_loop _]
    show wpAny _ A.in1 (pyNext (.ref I) >>= _) _ _ s
    refine wpAny_bind (W.done s _ _ st fun s' m => ?_)
    show wpAny _ A.in1 (ret Value.none) _ _ s'
    exact wpAny_pure (fin s' (m.mono sub) (x.of_get fun o e => m.heap S _ hSw e))
  | succ k ih =>
    intro i s hk hi st x fin
    have lt : i < n := by omega
    refine codeAny_builtin PyProof.Rows.F.entry_set_update_loop ?_
    rw [Around.under_plainId PyProof.Rows.F.plain_set_update_loop _]
    show wpAny _ A.in1 (pyNext (.ref I) >>= _) _ _ s
    refine wpAny_bind (W.item i s _ _ lt st fun v s' pv st' m => ?_)
    obtain ⟨t, rfl⟩ := hval i v pv
    have x' : metSet prog w val i s'.heap S := x.of_get fun o e => m.heap S _ hSw e
    show wpAny _ A.in1 (holding [Value.int (val i) t] (setAdd S (.int (val i) t)) >>= _) _ _ s'
    refine wpAny_bind (wpAny_holding ?_)
    unfold setAdd
    refine wpAny_holding (wpAny_bind ((intKind prog w).pyHash (k := val i) (intKind_is _ _ _ _) ?_))
    have room : (firstMet val i).length + 1 < scanBound := by have := firstMet_length_le val i; omega
    refine addX (knd := intKind prog w) (s := { s' with toks := s'.toks + 1 }) (intKind_is _ _ _ _) rfl x' room fun h' sb x2 => ?_
    have x3 : metSet prog w val (i + 1) h' S := x2.congr (fun k' => by rw [firstMet_succ, step_any]) (by rw [firstMet_succ, step_length])
    refine wpAny_pure ⟨plainId_quiet PyProof.Rows.F.plain_set_update_loop _, ih (i + 1) _ (by omega) lt (W.frame _ s' _ _ st' (Nat.le_succ _) fun b hb o e => ?_) x3 fun s'' m2 x4 => ?_⟩
    · rw [sb.2 b (fun z : b = S => hSf (z ▸ hb))]; exact e
    · refine fin s'' (Moved.trans W.gtrans ((m.mono sub).then_heap (Nat.le_succ _) fun b o hb e => ?_) m2) x4
      rw [sb.2 b (fun z : b = S => hb (z ▸ List.mem_cons_self))]; exact e
end
section
variable {prog : Program} {w : World} {A : Around} {E : Value → Shared → Prop} {s : Shared}
abbrev noSet (w : World) : Obj := { cls := .type "set", dict := none, data := .set #[] 0 (.fresh 0 0 (!w.params.followText "set-order")) }
theorem set_new_led (a : Value) {Q : Value → Shared → Prop} (h : Q (.ref s.heap.objs.size) { s with heap := s.heap.push (noSet w) }) :
    codeAny (model prog w) A (.call (.builtin "set.__new__") ⟨[.type "set", a], []⟩) (wants Q E) s := by
  refine codeAny_of_tree ?_
  show wpAny _ A.in1 (do checkBuiltinCall "set.__new__" ⟨[.type "set", a], []⟩; again (.builtin "set.__new__" ⟨[.type "set", a], []⟩)) _ _ s
  refine wpAny_bind (wpAny_of_eq (PySem.F.newCall_set_1 a) (wpAny_pure ⟨plainId_quiet PySem.F.plain_set_new _, codeAny_builtin PySem.F.entry_set_new ?_⟩))
  rw [Around.under_plainId PySem.F.plain_set_new _]
  unfold Builtin.«set.__new__» Builtin.Frozenset.newClass
  have hsub := sub_set_self
  obtain ⟨hp, g, d, tk, os⟩ := s
  dsimp only
  wp_walk
  refine wpAny_askSetting (wpAny_pure ?_)
  dsimp only
  simp only [newObj]
  exact wpAny_bind (wpAny_alloc (wpAny_pure (wpAny_pure h)))
set_option maxHeartbeats 3200000 in
theorem set_of_list {l : Addr} {items : Array Value} {ns : List Int} {Q : Value → Shared → Prop} (hh : A.handled = none) (hl : s.heap.IsList l items) (hi : IntsAre items.toList ns) (hb : items.size + 1 < scanBound)
    (h : ∀ (h' : Heap) (tk : Nat), metSet prog w (fun i => ns.getD i 0) items.size h' s.heap.objs.size → (∀ b o, b < s.heap.objs.size → s.heap.get? b = some o → h'.get? b = some o) → Q (.ref s.heap.objs.size) { s with heap := h', toks := tk }) :
    wpAny (model prog w) A (call (.type "set") [.ref l]) Q E s := by
  obtain ⟨c, tl, hmro⟩ := PySem.F.called_set.mro
  have hmade := PySem.F.called_set.made
  have hsub := PySem.F.called_set.sub
  refine wpAny_call (codeAny_of_tree ?_)
  show wpAny _ _ (callAny (.type "set") _) _ _ _
  refine wpAny_pure ⟨Code.quiet_builtin _ (by decide +kernel), codeAny_builtin PySem.F.entry_type_call ?_⟩
  rw [Around.under_plain (weight_type_call_type "set" [.ref l] []) rfl]
  have h1 := PySem.F.called_set.notType
  have h2 := PySem.F.called_set.canCreate
  have hct := PySem.F.typeCall_set_1 (.ref l)
  repeat (any_goals (first | assumption | wp_step))
  refine codeAny_mono (set_new_led (.ref l) (E := E) (Q := fun obj s₁ => obj = .ref s.heap.objs.size ∧ s₁ = { s with heap := s.heap.push (noSet w) }) ⟨rfl, rfl⟩) fun r s₁ hr => ?_
  cases r with
  | error e => exact hr
  | ok fl =>
    cases fl with
    | ret obj =>
      obtain ⟨rfl, rfl⟩ := hr
      have hS : (s.heap.push (noSet w)).get? s.heap.objs.size = some (noSet w) := Heap.get?_push_size _ rfl
      have hT : Shared.TypeIs { s with heap := s.heap.push (noSet w) } (.ref s.heap.objs.size) "set" := ⟨_, hS, rfl⟩
      have hli := PySem.F.called_set.init.lookup
      have hbi := PySem.F.called_set.init.bind (.ref s.heap.objs.size)
      repeat (any_goals (first | assumption | wp_step))
      refine codeAny_mono (codeAny_call_builtin (R := wants (fun r s₂ => r = .none ∧ ∃ h' tk, s₂ = { s with heap := h', toks := tk } ∧ metSet prog w (fun i => ns.getD i 0) items.size h' s.heap.objs.size ∧
          (∀ b o, b < s.heap.objs.size → s.heap.get? b = some o → h'.get? b = some o)) E) PySem.F.called_set.init.plain PySem.F.entry_set_init (check_set_init_1 hT ?_)) fun r₂ s₂ hr₂ => ?_
      · obtain ⟨ol, hol, hcl, nl, hdl⟩ := id hl
        have hol' : (s.heap.push (noSet w)).get? l = some ol := Heap.get?_push_of_some _ hol
        have hTl : Shared.TypeIs { s with heap := s.heap.push (noSet w) } (.ref l) "list" := ⟨ol, hol', hcl⟩
        have hsls := PySem.F.sub_list_set
        have hslf := PySem.F.sub_list_frozenset
        have hne : (Value.type "list" == Value.type "dict") = false := by decide
        have hl1 : (s.heap.push (noSet w)).IsList l items := ⟨_, hol', hcl, nl, hdl⟩
        unfold Builtin.«set.__init__» noKeywords Builtin.Frozenset.updateFrom
        generalize hPI : pyIter = PI
        wp_walk
        subst hPI
        refine wpAny_pyIter_list hl1 (wpAny_bind (wpAny_runValue ?_))
        have hlS : l < s.heap.objs.size := Heap.lt_size hol
        have hneI : l ≠ (s.heap.push (noSet w)).objs.size := by rw [Heap.size_push]; exact Nat.ne_of_lt (Nat.lt_succ_of_lt hlS)
        have hSf : s.heap.objs.size ∉ [(s.heap.push (noSet w)).objs.size, l] := by
          rw [Heap.size_push]
          simp only [List.mem_cons, List.not_mem_nil, or_false, not_or]
          exact ⟨Nat.ne_of_lt (Nat.lt_succ_self _), Nat.ne_of_gt hlS⟩
        refine updLoopX ((Walks.list (by simpa using hh) _ l hneI items).toS) s.heap.objs.size hSf (fun i => ns.getD i 0) (fun i v hv => PyProof.Rows.IntsAre.int_at hi i v (by rw [Array.getElem?_toList]; exact hv)) hb (items.size - 0) 0 _ (by omega) (Nat.zero_le _)
          ⟨⟨_, Heap.get?_push_size _ rfl, rfl, rfl⟩, (hl1.push _)⟩ ?hS0 ?hR
        case hS0 =>
          exact ((SetX.new (knd := intKind prog w) s.heap rfl).congr (fun _ => rfl) rfl).of_get fun o e => Heap.get?_push_of_some _ e
        case hR =>
          intro s' m x
          obtain ⟨h', g', d', tk', os'⟩ := s'
          have eg : g' = s.gens := m.gens
          have ed : d' = s.drawn := m.drawn
          have eo : os' = s.os := m.os
          subst eg ed eo
          show wpAny _ _ _ _ _ _
          refine wpAny_pure ?_
          show wpAny _ _ (ret Value.none) _ _ _
          refine wpAny_pure ⟨rfl, h', tk', rfl, x, fun b o q e => ?_⟩
          refine m.heap b o ?_ (Heap.get?_push_of_some _ (Heap.get?_push_of_some _ e))
          simp only [List.mem_cons, List.not_mem_nil, or_false, not_or]
          refine ⟨Nat.ne_of_lt q, ?_⟩
          rw [Heap.size_push]
          exact Nat.ne_of_lt (Nat.lt_succ_of_lt q)
      · cases r₂ with
        | error e => exact hr₂
        | ok fl₂ =>
          cases fl₂ with
          | ret r =>
            obtain ⟨rfl, h', tk, rfl, x, kp⟩ := hr₂
            repeat (any_goals (first | assumption | wp_step))
            exact h _ _ x kp
          | _ => exact hr₂.elim
    | _ => exact hr.elim
end
end L2

set_option Elab.async false
set_option linter.all false
set_option maxRecDepth 100000
namespace L2
open PySem PySem.W PyProof.Rows
def ev {α : Type} (lt : Nat → Nat → Bool) : KasT α → α
  | .ret a => a
  | .ask i j k => ev lt (k (lt i j))
theorem ev_bind {α β : Type} (lt : Nat → Nat → Bool) (f : α → KasT β) : ∀ t : KasT α, ev lt (t.bind f) = ev lt (f (ev lt t))
  | .ret _ => rfl
  | .ask i j k => ev_bind lt f (k (lt i j))
section
variable {r : Nat → Int}
abbrev ltR (r : Nat → Int) : Nat → Nat → Bool := fun i j => decide (r i < r j)
abbrev ky (r : Nat → Int) (p : Array Nat) (k : Nat) : Int := r (p.getD k 0)
theorem ev_ask {α : Type} (lt : Nat → Nat → Bool) (i j : Nat) (k : Bool → KasT α) : ev lt (.ask i j k) = ev lt (k (lt i j)) := rfl
theorem ltR_t {i j : Nat} (c : r i < r j) : ltR r i j = true := decide_eq_true c
theorem ltR_f {i j : Nat} (c : ¬ r i < r j) : ltR r i j = false := decide_eq_false c
def Up (r : Nat → Int) (p : Array Nat) (b : Nat) : Prop := ∀ i, 0 < i → i < b → ky r p (i - 1) ≤ ky r p i
def Dn (r : Nat → Int) (p : Array Nat) (b : Nat) : Prop := ∀ i, 0 < i → i < b → ky r p i ≤ ky r p (i - 1)
def Eqs (r : Nat → Int) (p : Array Nat) (a b : Nat) : Prop := ∀ i, a < i → i < b → ky r p i = ky r p (i - 1)
theorem Up.mono {p : Array Nat} {b : Nat} (h : Up r p b) : ∀ i j, i ≤ j → j < b → ky r p i ≤ ky r p j := by
  intro i j hij hj
  induction j with
  | zero => have : i = 0 := by omega
            subst this; exact Int.le_refl _
  | succ j ih =>
    rcases Nat.lt_or_eq_of_le hij with q | q
    · exact Int.le_trans (ih (by omega) (by omega)) (h (j + 1) (by omega) hj)
    · rw [q]; exact Int.le_refl _
theorem Dn.mono {p : Array Nat} {b : Nat} (h : Dn r p b) : ∀ i j, i ≤ j → j < b → ky r p j ≤ ky r p i := by
  intro i j hij hj
  induction j with
  | zero => have : i = 0 := by omega
            subst this; exact Int.le_refl _
  | succ j ih =>
    rcases Nat.lt_or_eq_of_le hij with q | q
    · exact Int.le_trans (h (j + 1) (by omega) hj) (ih (by omega) (by omega))
    · rw [q]; exact Int.le_refl _
theorem Eqs.all {p : Array Nat} {a b : Nat} (h : Eqs r p a b) : ∀ i, a ≤ i → i < b → ky r p i = ky r p a := by
  intro i hi hb
  induction i with
  | zero => have : a = 0 := by omega
            subst this; rfl
  | succ i ih =>
    rcases Nat.lt_or_eq_of_le hi with q | q
    · rw [h (i + 1) q hb]; exact ih (by omega) (by omega)
    · rw [q]
theorem getD_rev {p : Array Nat} {i j : Nat} (hj : j ≤ p.size) (k : Nat) : (kas_rev p i j).getD k 0 = if i ≤ k ∧ k < j then p.getD (i + j - 1 - k) 0 else p.getD k 0 := by
  unfold kas_rev
  have e := getElem?_mirror (xs := p) (i := i) hj ((j - i) / 2) (by omega) k
  rw [Array.getD_eq_getD_getElem?, e]
  by_cases c : i ≤ k ∧ k < j
  · rw [if_pos c]
    by_cases d : i ≤ k ∧ k < i + (j - i) / 2 ∨ j - (j - i) / 2 ≤ k ∧ k < j
    · rw [if_pos d, Array.getD_eq_getD_getElem?]
    · rw [if_neg d]
      have : i + j - 1 - k = k := by omega
      rw [this, Array.getD_eq_getD_getElem?]
  · rw [if_neg c, if_neg (by omega), Array.getD_eq_getD_getElem?]
theorem rev_eqs {p : Array Nat} {i j : Nat} (hj : j ≤ p.size) (h : Eqs r p i j) (k : Nat) : ky r (kas_rev p i j) k = ky r p k := by
  show r _ = r _
  rw [getD_rev hj]
  by_cases c : i ≤ k ∧ k < j
  · rw [if_pos c]
    have e1 : ky r p (i + j - 1 - k) = ky r p i := h.all _ (by omega) (by omega)
    have e2 : ky r p k = ky r p i := h.all _ c.1 c.2
    exact e1.trans e2.symm
  · rw [if_neg c]
theorem rev_size (p : Array Nat) (i j : Nat) : (kas_rev p i j).size = p.size := mirror_size _ _ _ _
theorem rev_perm (p : Array Nat) (i j : Nat) : (kas_rev p i j).Perm p := mirror_perm _ _ _ _
theorem ev_asc (p : Array Nat) : ∀ f n, 1 ≤ n → Up r p n → n ≤ ev (ltR r) (kas_asc p f n) ∧ ev (ltR r) (kas_asc p f n) ≤ n + f ∧ Up r p (ev (ltR r) (kas_asc p f n)) ∧
    (ev (ltR r) (kas_asc p f n) < n + f → ky r p (ev (ltR r) (kas_asc p f n)) < ky r p (ev (ltR r) (kas_asc p f n) - 1)) := by
  intro f
  induction f with
  | zero => intro n h1 h; exact ⟨Nat.le_refl _, Nat.le_refl _, h, fun q => absurd q (Nat.lt_irrefl _)⟩
  | succ f ih =>
    intro n h1 h
    unfold kas_asc
    rw [ev_ask]
    by_cases c : r (p.getD n 0) < r (p.getD (n - 1) 0)
    · rw [ltR_t c, if_pos rfl]
      exact ⟨Nat.le_refl _, by show n ≤ n + (f + 1); omega, h, fun _ => c⟩
    · rw [ltR_f c, if_neg (by simp)]
      obtain ⟨q1, q2, q3, q4⟩ := ih (n + 1) (by omega) (fun i hi hb => by
        rcases Nat.lt_or_eq_of_le (Nat.le_of_lt_succ hb) with z | z
        · exact h i hi z
        · subst z; exact Int.not_lt.mp c)
      exact ⟨by omega, by omega, q3, fun z => q4 (by omega)⟩
theorem ev_desc : ∀ (f : Nat) (p : Array Nat) (n q : Nat), q < n → n + f ≤ p.size → Dn r p n → Eqs r p (n - (q + 1)) n →
    ∃ p' n' q', ev (ltR r) (kas_desc f p n q) = (p', n', q') ∧ q' < n' ∧ n ≤ n' ∧ n' ≤ n + f ∧ p'.size = p.size ∧ p'.Perm p ∧ Dn r p' n' ∧ Eqs r p' (n' - (q' + 1)) n' := by
  intro f
  induction f with
  | zero => intro p n q hq hz hd he; exact ⟨p, n, q, rfl, hq, Nat.le_refl _, Nat.le_refl _, rfl, Array.Perm.refl _, hd, he⟩
  | succ f ih =>
    intro p n q hq hz hd he
    unfold kas_desc
    rw [ev_ask]
    by_cases c : r (p.getD n 0) < r (p.getD (n - 1) 0)
    · rw [ltR_t c, if_pos rfl]
      have step : ∀ p1 : Array Nat, p1.size = p.size → p1.Perm p → (∀ k, ky r p1 k = ky r p k) → ∃ p' n' q', ev (ltR r) (kas_desc f p1 (n + 1) 0) = (p', n', q') ∧ q' < n' ∧ n ≤ n' ∧ n' ≤ n + (f + 1) ∧ p'.size = p.size ∧ p'.Perm p ∧ Dn r p' n' ∧ Eqs r p' (n' - (q' + 1)) n' := fun p1 s1 pm hk => by
        obtain ⟨p', n', q', e, a1, a2, a3, a4, a5, a6, a7⟩ := ih p1 (n + 1) 0 (by omega) (by omega) (fun i hi hb => by
          rw [hk, hk]
          rcases Nat.lt_or_eq_of_le (Nat.le_of_lt_succ hb) with z | z
          · exact hd i hi z
          · subst z; exact Int.le_of_lt c) (fun i hi hb => by omega)
        exact ⟨p', n', q', e, a1, by omega, by omega, a4.trans s1, a5.trans pm, a6, a7⟩
      by_cases cq : q > 0
      · rw [if_pos cq]
        exact step _ (rev_size _ _ _) (rev_perm _ _ _) (rev_eqs (by omega) he)
      · rw [if_neg cq]
        exact step p rfl (Array.Perm.refl _) fun _ => rfl
    · rw [ltR_f c, if_neg (by simp)]
      rw [ev_ask]
      by_cases d : r (p.getD (n - 1) 0) < r (p.getD n 0)
      · rw [ltR_t d, if_pos rfl]
        exact ⟨p, n, q, rfl, hq, Nat.le_refl _, by omega, rfl, Array.Perm.refl _, hd, he⟩
      · rw [ltR_f d, if_neg (by simp)]
        have eqn : ky r p n = ky r p (n - 1) := Int.le_antisymm (Int.not_lt.mp d) (Int.not_lt.mp c)
        obtain ⟨p', n', q', e, a1, a2, a3, a4, a5, a6, a7⟩ := ih p (n + 1) (q + 1) (by omega) (by omega) (fun i hi hb => by
          rcases Nat.lt_or_eq_of_le (Nat.le_of_lt_succ hb) with z | z
          · exact hd i hi z
          · subst z; exact Int.le_of_eq eqn) (fun i hi hb => by
          rcases Nat.lt_or_eq_of_le (Nat.le_of_lt_succ hb) with z | z
          · exact he i (by omega) z
          · subst z; exact eqn)
        exact ⟨p', n', q', e, a1, by omega, by omega, a4, a5, a6, a7⟩
def Run (r : Nat → Int) (p : Array Nat) (nrem : Nat) (x : Nat × Array Nat) : Prop := x.1 ≤ nrem ∧ 1 ≤ x.1 ∧ x.2.size = p.size ∧ x.2.Perm p ∧ Up r x.2 x.1
theorem ev_tail3 {p : Array Nat} {n nrem : Nat} (h1 : 1 ≤ n) (hn : n ≤ nrem) (hz : nrem ≤ p.size) (hd : Dn r p n) : Run r p nrem (ev (ltR r) (kas_tail3 n nrem p)) := by
  unfold kas_tail3
  rw [ev_bind]
  have hu : Up r (kas_rev p 0 n) n := fun i hi hb => by
    show r _ ≤ r _
    rw [getD_rev (by omega), getD_rev (by omega), if_pos (by omega), if_pos (by omega)]
    exact hd.mono (0 + n - 1 - i) (0 + n - 1 - (i - 1)) (by omega) (by omega)
  obtain ⟨a1, a2, a3, _⟩ := ev_asc (kas_rev p 0 n) (nrem - n) n h1 hu
  exact ⟨by show ev (ltR r) _ ≤ _; omega, by show 1 ≤ ev (ltR r) _; omega, rev_size _ _ _, rev_perm _ _ _, a3⟩
theorem Run.of {p p1 : Array Nat} {nrem : Nat} {x : Nat × Array Nat} (h : Run r p1 nrem x) (s : p1.size = p.size) (m : p1.Perm p) : Run r p nrem x := ⟨h.1, h.2.1, h.2.2.1.trans s, h.2.2.2.1.trans m, h.2.2.2.2⟩
theorem ev_descPart {p : Array Nat} {n nrem : Nat} (hn : n + 1 ≤ nrem) (hz : nrem ≤ p.size) (hd : Dn r p (n + 1)) : Run r p nrem (ev (ltR r) (kas_descPart n nrem p)) := by
  unfold kas_descPart
  rw [ev_bind]
  obtain ⟨p', n', q', e, a1, a2, a3, a4, a5, a6, a7⟩ := ev_desc (nrem - (n + 1)) p (n + 1) 0 (by omega) (by omega) hd (fun i hi hb => by omega)
  rw [e]
  dsimp only
  by_cases c : q' > 0
  · rw [if_pos c]
    have k := rev_eqs (r := r) (by omega) a7
    exact (ev_tail3 (p := kas_rev p' (n' - (q' + 1)) n') (by omega) (by omega) (by rw [rev_size]; omega) (fun i hi hb => by rw [k, k]; exact a6 i hi hb)).of ((rev_size _ _ _).trans a4) ((rev_perm _ _ _).trans a5)
  · rw [if_neg c]
    exact (ev_tail3 (p := p') (by omega) (by omega) (by omega) a6).of a4 a5
theorem ev_count {p : Array Nat} {nrem : Nat} (h1 : 1 ≤ nrem) (hz : nrem ≤ p.size) : Run r p nrem (ev (ltR r) (kas_count nrem p)) := by
  unfold kas_count
  rw [ev_bind]
  obtain ⟨a1, a2, a3, a4⟩ := ev_asc (r := r) p (nrem - 1) 1 (Nat.le_refl _) (fun i hi hb => by omega)
  generalize ev (ltR r) (kas_asc p (nrem - 1) 1) = n at *
  by_cases c : (n == nrem) = true
  · rw [if_pos c]
    exact ⟨by show n ≤ nrem; omega, a1, rfl, Array.Perm.refl _, a3⟩
  · rw [if_neg c]
    have hne : n ≠ nrem := by simpa using c
    have stop := a4 (by omega)
    by_cases c2 : n > 1
    · rw [if_pos c2]
      rw [ev_ask]
      by_cases d : r (p.getD 0 0) < r (p.getD (n - 1) 0)
      · rw [ltR_t d, if_pos rfl]
        exact ⟨by show n ≤ nrem; omega, a1, rfl, Array.Perm.refl _, a3⟩
      · rw [ltR_f d, if_neg (by simp)]
        have eqs : Eqs r p 0 n := fun i hi hb => by
          have q1 := a3.mono 0 (i - 1) (by omega) (by omega)
          have q2 := a3.mono (i - 1) i (by omega) hb
          have q3 := a3.mono i (n - 1) (by omega) (by omega)
          have q4 : ky r p (n - 1) ≤ ky r p 0 := Int.not_lt.mp d
          omega
        have k := rev_eqs (r := r) (by omega) eqs
        refine (ev_descPart (p := kas_rev p 0 n) (by omega) (by rw [rev_size]; exact hz) (fun i hi hb => ?_)).of (rev_size _ _ _) (rev_perm _ _ _)
        rw [k, k]
        rcases Nat.lt_or_eq_of_le (Nat.le_of_lt_succ hb) with z | z
        · exact Int.le_of_eq (eqs i hi z)
        · subst z; exact Int.le_of_lt stop
    · rw [if_neg c2]
      obtain rfl : n = 1 := by omega
      exact ev_descPart (by omega) hz (fun i hi hb => by
        obtain rfl : i = 1 := by omega
        exact Int.le_of_lt stop)
theorem ev_place {p : Array Nat} {k : Nat} (hu : Up r p k) : ∀ f l m, m - l ≤ f → l ≤ m → m ≤ k → (∀ i, i < l → ky r p i ≤ ky r p k) → (∀ i, m ≤ i → i < k → ky r p k < ky r p i) →
    ev (ltR r) (kas_place p k f l m) ≤ k ∧ (∀ i, i < ev (ltR r) (kas_place p k f l m) → ky r p i ≤ ky r p k) ∧ ∀ i, ev (ltR r) (kas_place p k f l m) ≤ i → i < k → ky r p k < ky r p i := by
  intro f
  induction f with
  | zero =>
    intro l m h1 h2 h3 h4 h5
    obtain rfl : l = m := by omega
    exact ⟨h3, h4, h5⟩
  | succ f ih =>
    intro l m h1 h2 h3 h4 h5
    unfold kas_place
    by_cases c : l ≥ m
    · rw [if_pos c]
      obtain rfl : l = m := by omega
      exact ⟨h3, h4, h5⟩
    · rw [if_neg c]
      rw [ev_ask]
      by_cases d : r (p.getD k 0) < r (p.getD ((l + m) / 2) 0)
      · rw [ltR_t d, if_pos rfl]
        refine ih l ((l + m) / 2) (by omega) (by omega) (by omega) h4 (fun i hi hb => ?_)
        exact Int.lt_of_lt_of_le d (hu.mono _ i hi hb)
      · rw [ltR_f d, if_neg (by simp)]
        refine ih ((l + m) / 2 + 1) m (by omega) (by omega) h3 (fun i hi => ?_) h5
        exact Int.le_trans (hu.mono i ((l + m) / 2) (by omega) (by omega)) (Int.not_lt.mp d)
theorem getD_bubble {p : Array Nat} {k l : Nat} (hk : k < p.size) (hl : l ≤ k) (i : Nat) : (bubble p k (k - l)).getD i 0 = if i = l then p.getD k 0 else if l < i ∧ i ≤ k then p.getD (i - 1) 0 else p.getD i 0 := by
  have e := getElem?_bubble hk (k - l) (by omega) i
  rw [show k - (k - l) = l by omega] at e
  rw [Array.getD_eq_getD_getElem?, e]
  by_cases c1 : i = l
  · rw [if_pos c1, if_pos c1, Array.getD_eq_getD_getElem?]
  · rw [if_neg c1, if_neg c1]
    by_cases c2 : l < i ∧ i ≤ k
    · rw [if_pos c2, if_pos c2, Array.getD_eq_getD_getElem?]
    · rw [if_neg c2, if_neg c2, Array.getD_eq_getD_getElem?]
theorem ev_bin : ∀ (f : Nat) (p : Array Nat) (k : Nat), k + f ≤ p.size → Up r p k → (ev (ltR r) (kas_bin f p k)).Perm p ∧ Up r (ev (ltR r) (kas_bin f p k)) (k + f) := by
  intro f
  induction f with
  | zero => intro p k hz hu; exact ⟨Array.Perm.refl _, hu⟩
  | succ f ih =>
    intro p k hz hu
    unfold kas_bin
    rw [ev_bind]
    obtain ⟨b1, b2, b3⟩ := ev_place hu k 0 k (by omega) (by omega) (Nat.le_refl _) (fun i hi => absurd hi (by omega)) (fun i hi hb => absurd hb (by omega))
    generalize ev (ltR r) (kas_place p k k 0 k) = l at *
    have hk : k < p.size := by omega
    obtain ⟨c1, c2⟩ := ih (bubble p k (k - l)) (k + 1) (by rw [bubble_size]; omega) (fun i hi hb => by
      show r _ ≤ r _
      rw [getD_bubble hk b1, getD_bubble hk b1]
      by_cases e1 : i - 1 = l
      · rw [if_pos e1, if_neg (show ¬ i = l by omega), if_pos (by omega)]
        have := b3 (i - 1) (by omega) (by omega)
        exact Int.le_of_lt this
      · rw [if_neg e1]
        by_cases e2 : i = l
        · rw [if_pos e2, if_neg (by omega)]
          exact b2 (i - 1) (by omega)
        · rw [if_neg e2]
          by_cases e3 : l < i
          · rw [if_pos (by omega), if_pos (by omega)]
            exact hu (i - 1) (by omega) (by omega)
          · rw [if_neg (by omega), if_neg (by omega)]
            exact hu i hi (by omega))
    exact ⟨c1.trans (bubble_perm _ _ _), by rw [show k + (f + 1) = k + 1 + f by omega]; exact c2⟩
theorem ev_sort {n : Nat} (hn : 1 ≤ n) : (ev (ltR r) (kas_sort n)).Perm (List.range n).toArray ∧ Up r (ev (ltR r) (kas_sort n)) n := by
  unfold kas_sort
  rw [ev_bind]
  obtain ⟨h1, h2, h3, h4, h5⟩ := ev_count (r := r) (p := (List.range n).toArray) (nrem := n) hn (by simp)
  generalize ev (ltR r) (kas_count n (List.range n).toArray) = x at *
  have hs : x.2.size = n := by rw [h3]; simp
  by_cases c : x.1 < n
  · rw [if_pos c]
    have hm : max x.1 1 = x.1 := by omega
    rw [hm]
    obtain ⟨c1, c2⟩ := ev_bin (r := r) (n - x.1) x.2 x.1 (by omega) h5
    rw [show x.1 + (n - x.1) = n by omega] at c2
    exact ⟨c1.trans h4, c2⟩
  · rw [if_neg c]
    have : x.1 = n := by omega
    rw [this] at h5
    exact ⟨h4, h5⟩

def Asks {α : Type} (lt : Nat → Nat → Bool) (n : Nat) : KasT α → Prop
  | .ret _ => True
  | .ask i j k => i < n ∧ j < n ∧ Asks lt n (k (lt i j))
theorem Asks.bind {α β : Type} {lt : Nat → Nat → Bool} {n : Nat} {f : α → KasT β} : ∀ {t : KasT α}, Asks lt n t → Asks lt n (f (ev lt t)) → Asks lt n (t.bind f)
  | .ret _, _, h => h
  | .ask i j k, h, h' => ⟨h.1, h.2.1, Asks.bind (t := k (lt i j)) h.2.2 h'⟩
def InN (n : Nat) (p : Array Nat) : Prop := 0 < n ∧ ∀ x ∈ p.toList, x < n
theorem InN.at {n : Nat} {p : Array Nat} (h : InN n p) (k : Nat) : p.getD k 0 < n := by
  rw [Array.getD_eq_getD_getElem?]
  cases e : p[k]? with
  | none => exact h.1
  | some x => exact h.2 x (by rw [Array.mem_toList_iff]; exact Array.mem_of_getElem? e)
theorem InN.perm {n : Nat} {p p' : Array Nat} (h : InN n p) (m : p'.Perm p) : InN n p' := ⟨h.1, fun x hx => h.2 x (by
  rw [Array.mem_toList_iff] at hx ⊢
  exact (Array.Perm.mem_iff m).mp hx)⟩
variable {n₀ : Nat}
theorem asks_asc {p : Array Nat} (h : InN n₀ p) : ∀ f n, Asks (ltR r) n₀ (kas_asc p f n)
  | 0, _ => True.intro
  | f + 1, n => by
    unfold kas_asc
    refine ⟨h.at _, h.at _, ?_⟩
    dsimp only
    split
    · exact True.intro
    · exact asks_asc h f (n + 1)
theorem asks_desc : ∀ (f : Nat) {p : Array Nat} (n q : Nat), InN n₀ p → Asks (ltR r) n₀ (kas_desc f p n q)
  | 0, _, _, _, _ => True.intro
  | f + 1, p, n, q, h => by
    unfold kas_desc
    refine ⟨h.at _, h.at _, ?_⟩
    dsimp only
    split
    · split
      · exact asks_desc f _ _ (h.perm (rev_perm _ _ _))
      · exact asks_desc f _ _ h
    · refine ⟨h.at _, h.at _, ?_⟩
      dsimp only
      split
      · exact True.intro
      · exact asks_desc f _ _ h
theorem desc_perm : ∀ (f : Nat) (p : Array Nat) (n q : Nat), (ev (ltR r) (kas_desc f p n q)).1.Perm p
  | 0, p, _, _ => Array.Perm.refl _
  | f + 1, p, n, q => by
    unfold kas_desc
    rw [ev_ask]
    split
    · split
      · exact (desc_perm f _ _ _).trans (rev_perm _ _ _)
      · exact desc_perm f _ _ _
    · rw [ev_ask]
      split
      · exact Array.Perm.refl _
      · exact desc_perm f _ _ _
theorem asks_tail3 {p : Array Nat} (n nrem : Nat) (h : InN n₀ p) : Asks (ltR r) n₀ (kas_tail3 n nrem p) := (asks_asc (h.perm (rev_perm _ _ _)) _ _).bind True.intro
theorem asks_descPart {p : Array Nat} (n nrem : Nat) (h : InN n₀ p) : Asks (ltR r) n₀ (kas_descPart n nrem p) := by
  refine (asks_desc _ _ _ h).bind ?_
  have pm := desc_perm (r := r) (nrem - (n + 1)) p (n + 1) 0
  split
  · exact asks_tail3 _ _ ((h.perm pm).perm (rev_perm _ _ _))
  · exact asks_tail3 _ _ (h.perm pm)
theorem asks_count {p : Array Nat} (nrem : Nat) (h : InN n₀ p) : Asks (ltR r) n₀ (kas_count nrem p) := by
  refine (asks_asc h _ _).bind ?_
  split
  · exact True.intro
  · split
    · refine ⟨h.at _, h.at _, ?_⟩
      dsimp only
      split
      · exact True.intro
      · exact asks_descPart _ _ (h.perm (rev_perm _ _ _))
    · exact asks_descPart _ _ h
theorem asks_place {p : Array Nat} {k : Nat} (h : InN n₀ p) : ∀ f l m, Asks (ltR r) n₀ (kas_place p k f l m)
  | 0, _, _ => True.intro
  | f + 1, l, m => by
    unfold kas_place
    split
    · exact True.intro
    · refine ⟨h.at _, h.at _, ?_⟩
      dsimp only
      split
      · exact asks_place h f _ _
      · exact asks_place h f _ _
theorem asks_bin : ∀ (f : Nat) {p : Array Nat} (k : Nat), InN n₀ p → Asks (ltR r) n₀ (kas_bin f p k)
  | 0, _, _, _ => True.intro
  | f + 1, p, k, h => (asks_place h _ _ _).bind (asks_bin f _ (h.perm (bubble_perm _ _ _)))
theorem asks_sort {n : Nat} (hn : 1 ≤ n) : Asks (ltR r) n (kas_sort n) := by
  have h : InN n (List.range n).toArray := ⟨hn, fun x hx => by simpa using hx⟩
  refine (asks_count n h).bind ?_
  obtain ⟨h1, h2, h3, h4, h5⟩ := ev_count (r := r) (p := (List.range n).toArray) (nrem := n) hn (by simp)
  split
  · exact asks_bin _ _ (h.perm h4)
  · exact True.intro
theorem wp_ev {cmp : Nat → Nat → (Bool → Shared → Prop) → Shared → Prop} {J : Shared → Prop} {n : Nat} {lt : Nat → Nat → Bool} {α : Type} (hc : ∀ i j C s, i < n → j < n → J s → (∀ s', J s' → C (lt i j) s') → cmp i j C s) :
    ∀ (t : KasT α) (s : Shared) (Q : α → Shared → Prop), Asks lt n t → J s → (∀ s', J s' → Q (ev lt t) s') → t.kasWp cmp Q s
  | .ret a, s, Q, _, hJ, h => h s hJ
  | .ask i j k, s, Q, ha, hJ, h => hc i j _ s ha.1 ha.2.1 hJ fun s' hJ' => wp_ev hc (k (lt i j)) s' Q ha.2.2 hJ' h
theorem sort_out {α : Type} {xs : List α} {r : Nat → Int} {p : Array Nat} (hp : p.Perm (List.range xs.length).toArray) (hu : Up r p xs.length) (d : α) (key : α → Int) (hk : ∀ i, i < xs.length → r i = key (xs.getD i d)) :
    (p.toList.map fun i => xs.getD i d).Perm xs ∧ (p.toList.map fun i => xs.getD i d).Pairwise (fun a b => key a ≤ key b) := by
  have hpl : p.toList.Perm (List.range xs.length) := by simpa using Array.perm_iff_toList_perm.mp hp
  have hlen : p.toList.length = xs.length := by simpa using hpl.length_eq
  constructor
  · refine (hpl.map _).trans ?_
    have : (List.range xs.length).map (fun i => xs.getD i d) = xs := by
      apply List.ext_getElem
      · simp
      · intro i h1 h2
        simp [List.getD, h2]
    rw [this]
  · rw [List.pairwise_iff_getElem]
    intro i j hi hj hij
    rw [List.length_map] at hi hj
    rw [List.getElem_map, List.getElem_map]
    have m : ∀ k (hk : k < p.toList.length), p.toList[k] < xs.length := fun k hk => by
      have := hpl.mem_iff.mp (List.getElem_mem hk)
      simpa using this
    rw [← hk _ (m i hi), ← hk _ (m j hj)]
    have q := hu.mono i j (by omega) (by omega)
    have e : ∀ k (hk : k < p.toList.length), p.getD k 0 = p.toList[k] := fun k hk => by
      have hk' : k < p.size := by simpa using hk
      simp [Array.getD, hk']
    rw [ky, ky, e i hi, e j hj] at q
    exact q
end
end L2

set_option Elab.async false
set_option linter.all false
set_option maxRecDepth 100000
set_option maxHeartbeats 1000000
namespace L2
open PySem PySem.Spec PyProof.Rows

def insU (x : Int) : List Int → List Int
  | [] => [x]
  | y :: r => if x < y then x :: y :: r else if x = y then y :: r else y :: insU x r
def sortU (ns : List Int) : List Int := ns.foldr insU []
theorem mem_insU (x k : Int) : ∀ l : List Int, k ∈ insU x l ↔ k = x ∨ k ∈ l
  | [] => by simp [insU]
  | y :: r => by
    unfold insU
    split
    · simp
    · split
      · rename_i h; subst h; simp
      · rw [List.mem_cons, mem_insU x k r, List.mem_cons]
        constructor
        · rintro (h | h | h)
          · exact .inr (.inl h)
          · exact .inl h
          · exact .inr (.inr h)
        · rintro (h | h | h)
          · exact .inr (.inl h)
          · exact .inl h
          · exact .inr (.inr h)
theorem rise_insU (x : Int) : ∀ l : List Int, l.Pairwise (· < ·) → (insU x l).Pairwise (· < ·)
  | [], _ => by simp [insU]
  | y :: r, h => by
    rw [List.pairwise_cons] at h
    unfold insU
    split
    · rename_i hlt
      rw [List.pairwise_cons, List.pairwise_cons]
      refine ⟨fun a ha => ?_, h⟩
      rcases List.mem_cons.mp ha with rfl | ha
      · exact hlt
      · exact Int.lt_trans hlt (h.1 a ha)
    · split
      · rw [List.pairwise_cons]; exact h
      · rename_i h1 h2
        rw [List.pairwise_cons]
        refine ⟨fun a ha => ?_, rise_insU x r h.2⟩
        rcases (mem_insU x a r).mp ha with rfl | ha
        · omega
        · exact h.1 a ha
theorem mem_sortU (k : Int) : ∀ ns : List Int, k ∈ sortU ns ↔ k ∈ ns
  | [] => Iff.rfl
  | x :: r => by
    show k ∈ insU x (sortU r) ↔ _
    rw [mem_insU, mem_sortU k r, List.mem_cons]
theorem rise_sortU : ∀ ns : List Int, (sortU ns).Pairwise (· < ·)
  | [] => List.Pairwise.nil
  | x :: r => rise_insU x _ (rise_sortU r)
theorem nodup_of_rise {l : List Int} (h : l.Pairwise (· < ·)) : l.Nodup := h.imp fun {a b} q e => by rw [e] at q; exact Int.lt_irrefl _ q
theorem perm_of_sub : ∀ (l1 l2 : List Int), l1.Nodup → (∀ x ∈ l1, x ∈ l2) → l2.length ≤ l1.length → l1.Perm l2
  | [], l2, _, _, h => by
    have : l2 = [] := List.eq_nil_of_length_eq_zero (by simpa using h)
    subst this; exact List.Perm.refl _
  | a :: r, l2, hn, hs, hl => by
    rw [List.nodup_cons] at hn
    have ha := hs a List.mem_cons_self
    have p := List.perm_cons_erase ha
    refine ((perm_of_sub r (l2.erase a) hn.2 (fun x hx => ?_) ?_).cons a).trans p.symm
    · have hne : x ≠ a := fun e => hn.1 (e ▸ hx)
      exact (List.mem_erase_of_ne hne).mpr (hs x (List.mem_cons_of_mem _ hx))
    · have := p.length_eq
      rw [List.length_cons] at this hl
      omega
theorem rise_ext : ∀ {l1 l2 : List Int}, l1.Pairwise (· < ·) → l2.Pairwise (· < ·) → (∀ k, k ∈ l1 ↔ k ∈ l2) → l1 = l2
  | [], [], _, _, _ => rfl
  | [], b :: r, _, _, h => absurd ((h b).mpr List.mem_cons_self) (by simp)
  | a :: r, [], _, _, h => absurd ((h a).mp List.mem_cons_self) (by simp)
  | a :: r, b :: t, h1, h2, h => by
    rw [List.pairwise_cons] at h1 h2
    have e : a = b := by
      rcases List.mem_cons.mp ((h a).mp List.mem_cons_self) with q | q
      · exact q
      · rcases List.mem_cons.mp ((h b).mpr List.mem_cons_self) with q' | q'
        · exact q'.symm
        · have z1 := h2.1 a q
          have z2 := h1.1 b q'
          omega
    subst e
    have : r = t := rise_ext h1.2 h2.2 fun k => by
      have q := h k
      rw [List.mem_cons, List.mem_cons] at q
      constructor
      · intro hk
        rcases q.mp (.inr hk) with e | z
        · have := h1.1 k hk; omega
        · exact z
      · intro hk
        rcases q.mpr (.inr hk) with e | z
        · have := h2.1 k hk; omega
        · exact z
    rw [this]
theorem sorted_is {ns' ns : List Int} (hp : ns'.Pairwise (· ≤ ·)) (hm : ∀ k, k ∈ ns' ↔ k ∈ ns) (hl : ns'.length = (sortU ns).length) : ns' = sortU ns := by
  have pm := perm_of_sub (sortU ns) ns' (nodup_of_rise (rise_sortU ns)) (fun x hx => (hm x).mpr ((mem_sortU x ns).mp hx)) (Nat.le_of_eq hl)
  have nd : ns'.Nodup := pm.nodup_iff.mp (nodup_of_rise (rise_sortU ns))
  refine rise_ext ((hp.and nd).imp fun {a b} q => ?_) (rise_sortU ns) fun k => by rw [hm, mem_sortU]
  have := q.1
  have := q.2
  omega
theorem firstMet_mem (ns : List Int) (k : Int) : (firstMet (fun i => ns.getD i 0) ns.length).any (· == k) = decide (k ∈ ns) := by
  rw [firstMet_any]
  have e : (List.range ns.length).map (fun i => ns.getD i 0) = ns := by
    apply List.ext_getElem
    · simp
    · intro i h1 h2
      simp [List.getD, h2]
  rw [e, Bool.eq_iff_iff, List.any_eq_true, decide_eq_true_iff]
  constructor
  · rintro ⟨x, hx, q⟩
    rw [← eq_of_beq q]; exact hx
  · intro h
    exact ⟨k, h, beq_self_eq_true k⟩
theorem firstMet_nodup (val : Nat → Int) : ∀ i, (firstMet val i).Nodup
  | 0 => List.nodup_nil
  | i + 1 => by
    rw [firstMet_succ]
    unfold step_dedup
    have ih := firstMet_nodup val i
    by_cases h : (firstMet val i).any (· == val i) = true
    · rw [if_pos h]; exact ih
    · rw [if_neg h, List.nodup_append]
      refine ⟨ih, by simp, fun a ha b hb e => h ?_⟩
      rw [List.mem_singleton] at hb
      rw [List.any_eq_true]
      exact ⟨a, ha, by rw [e, hb]; exact beq_self_eq_true _⟩
theorem firstMet_len (ns : List Int) : (firstMet (fun i => ns.getD i 0) ns.length).length = (sortU ns).length := by
  have m : ∀ k, k ∈ firstMet (fun i => ns.getD i 0) ns.length ↔ k ∈ ns := fun k => by
    have := firstMet_mem ns k
    rw [Bool.eq_iff_iff, List.any_eq_true, decide_eq_true_iff] at this
    rw [← this]
    exact ⟨fun h => ⟨k, h, beq_self_eq_true k⟩, fun ⟨x, hx, q⟩ => by rw [← eq_of_beq q]; exact hx⟩
  have n1 := firstMet_nodup (fun i => ns.getD i 0) ns.length
  have n2 := nodup_of_rise (rise_sortU ns)
  rcases Nat.le_total (firstMet (fun i => ns.getD i 0) ns.length).length (sortU ns).length with h | h
  · exact (perm_of_sub (sortU ns) _ n2 (fun x hx => (m x).mpr ((mem_sortU x ns).mp hx)) h).length_eq.symm
  · exact (perm_of_sub _ (sortU ns) n1 (fun x hx => (mem_sortU x ns).mpr ((m x).mp hx)) h).length_eq
theorem sortU_len (ns : List Int) : (sortU ns).length ≤ ns.length := by
  induction ns with
  | nil => exact Nat.le_refl _
  | cons x r ih =>
    have : ∀ l : List Int, (insU x l).length ≤ l.length + 1 := by
      intro l
      induction l with
      | nil => simp [insU]
      | cons y t ih => unfold insU; split <;> try split
                       all_goals simp only [List.length_cons]
                       all_goals omega
    have q := this (sortU r)
    show (insU x (sortU r)).length ≤ _
    rw [List.length_cons]
    omega

section
variable {X : Cx}
def SetO (X : Cx) (l : Addr) (ns : List Int) : HO := .ext fun h => SetX (intKind X.prog X.w) h l (fun k => decide (k ∈ ns)) (sortU ns).length
theorem call_set_ints (hc : X.calm = true) : CallR X (.type "set") (fun xs H Q => ∃ (p : Addr) (ns : List Int), xs = [.ref p] ∧ SqL X.K H p (ns.map V.int) ∧ ns.length < 4000 ∧ ∀ l, H l = none → Q (.ref l) (upd H l (SetO X l ns))) := by
  intro pins s σ H xs us Q I r h
  obtain ⟨p, ns, rfl, hq, hlt, q⟩ := h
  obtain ⟨u, rfl, rx⟩ := vals1 r
  cases rx
  obtain ⟨its, r', pl, hz⟩ := I.list hq
  have hi : IntsAre its ns := intsAre_of r'
  have hlen : its.length = ns.length := hi.length
  refine set_of_list (I.ok.hd hc) pl.isList (ns := ns) (by simpa using hi) (by show its.toArray.size + 1 < 4096; rw [List.size_toArray]; omega) fun h' tk x kp => ?_
  have x' : SetX (intKind X.prog X.w) h' s.heap.objs.size (fun k => decide (k ∈ ns)) (sortU ns).length := x.congr (fun k => by
    rw [List.size_toArray, hlen]; exact firstMet_mem ns k) (by rw [List.size_toArray, hlen]; exact firstMet_len ns)
  have he : ∃ o, h'.get? s.heap.objs.size = some o := let ⟨o, _, _, _, e, _⟩ := x'; ⟨o, e⟩
  exact ⟨.ref s.heap.objs.size, _, I.laid (t' := tk) (o := SetO X s.heap.objs.size ns) (fun b o e => kp b o (Heap.lt_size e) e) (Nat.le_refl _) ⟨x', he, fun h1 h2 y k => y.of_get k⟩, rfl, q _ (I.hok.fresh (Nat.le_refl _))⟩
theorem setO_at {pins : List (Addr × Obj)} {σ : St} {H : Hp} {s : Shared} {p : Addr} {ns : List Int} (I : Inv X pins σ H s) (e : H p = some (SetO X p ns)) : SetX (intKind X.prog X.w) s.heap p (fun k => decide (k ∈ ns)) (sortU ns).length :=
  (show ObjOk X.prog X.w H s.heap p (SetO X p ns) from I.hok p _ e).1
theorem call_sorted_set (hc : X.calm = true) : CallR X (.builtin "sorted") (fun xs H Q => ∃ (p : Addr) (ns : List Int), xs = [.ref p] ∧ H p = some (SetO X p ns) ∧ ns.length < 64 ∧ ∀ l, H l = none → Q (.ref l) (upd H l (.lst ((sortU ns).map V.int)))) := by
  intro pins s σ H xs us Q I r h
  obtain ⟨p, ns, rfl, he, hlt, q⟩ := h
  obtain ⟨u, rfl, rx⟩ := vals1 r
  cases rx
  have hl := sortU_len ns
  refine sorted_set (I.ok.hd hc) (setO_at I he) (by omega) fun l h' d tk e out ns' a1 a2 a3 a4 hlz kp g => ?_
  have e2 : ns' = sortU ns := sorted_is a2 (fun k => by rw [a3, decide_eq_true_iff]) a4
  subst e2
  have fr := I.hok.fresh hlz
  have new : ObjOk X.prog X.w (upd H l (.lst ((sortU ns).map V.int))) h' l (.lst ((sortU ns).map V.int)) := ⟨by rw [List.length_map]; exact Nat.le_of_lt (small1000 (by omega)), out.toList, e, vals_ints a1, by simpa [seqObj] using g⟩
  exact ⟨.ref l, _, I.call' (s' := { s with heap := h', drawn := d, toks := tk }) (ch := []) rfl (Un.track (Un.kept kp) hlz fr) (HOk.track (I.hok.kept kp) fr new) I.bare (fun b z => nomatch z), rfl, q l fr⟩
theorem call_len_set : CallR X (.builtin "len") (fun xs H Q => ∃ (p : Addr) (ns : List Int), xs = [.ref p] ∧ H p = some (SetO X p ns) ∧ Q (.int (sortU ns).length) H) := by
  intro pins s σ H xs us Q I r h
  obtain ⟨p, ns, rfl, he, q⟩ := h
  obtain ⟨u, rfl, rx⟩ := vals1 r
  cases rx
  obtain ⟨o, es, ep, t, ho, hx, hd, ⟨el, mem, hb, hf, hn⟩, J⟩ := setO_at I he
  refine PySem.call_len_set ho hx hd hf (by have h4 : es.size < 4096 := hb; omega) ?_
  rw [hn]
  exact ⟨.int (sortU ns).length, H, I.tok _, ⟨_, rfl⟩, q⟩
end

def EqV (X : Cx) (H : Hp) (n : Nat) (x y : V) (b : Bool) : Prop :=
  ∀ (A : Around) (pins : List (Addr × Obj)) (s : Shared) (σ : St) (u v : Value), Inv X pins σ H s → RelV x u → RelV y v → A.units + n < cLine → SeqAt.EqAt A s u v b
structure EqRep (X : Cx) {δ : Type} [DecidableEq δ] (n : Nat) (R : Hp → V → δ → Prop) : Prop where
  eq : ∀ H x y dx dy, R H x dx → R H y dy → EqV X H n x y (decide (dx = dy))
  fn : ∀ pins s σ H x d d', Inv X pins σ H s → R H x d → R H x d' → d = d'
def rInt : Hp → V → Int → Prop := fun _ x i => x = .int i
theorem dec_beq {i j : Int} : (i == j) = decide (i = j) := by rw [Bool.eq_iff_iff]; simp
section
variable {X : Cx}
theorem ep_int : EqRep X 0 rInt where
  eq := fun H x y dx dy hx hy A pins s σ u v I ru rv hu => by
    subst hx hy
    obtain ⟨t, rfl⟩ := ru
    obtain ⟨t', rfl⟩ := rv
    rw [← dec_beq]
    exact SeqAt.EqAt.int_int _ _ _ _
  fn := fun _ _ _ _ x d d' _ h h' => by subst h; injection h'
variable {δ : Type} [DecidableEq δ] {n : Nat} {R : Hp → V → δ → Prop}
def rTup (K : PySem.W.Frag) (R : Hp → V → δ → Prop) : Hp → V → List δ → Prop := fun H x ds => ∃ a xs, x = .ref a ∧ SqT K H a xs ∧ Paired (R H) xs ds
def rLst (K : PySem.W.Frag) (R : Hp → V → δ → Prop) : Hp → V → List δ → Prop := fun H x ds => ∃ a xs, x = .ref a ∧ SqL K H a xs ∧ Paired (R H) xs ds
theorem paired_at {α β : Type} {Rl : α → β → Prop} : ∀ {xs : List α} {ds : List β}, Paired Rl xs ds → ∀ (i : Nat) (x : α), xs[i]? = some x → ∃ d, ds[i]? = some d ∧ Rl x d
  | _, _, .nil, i, x, h => by simp at h
  | _, _, .cons r t, 0, x, h => by simp at h; subst h; exact ⟨_, rfl, r⟩
  | _, _, .cons r t, i + 1, x, h => by
    obtain ⟨d, e, q⟩ := paired_at t i x (by simpa using h)
    exact ⟨d, by simpa using e, q⟩
theorem all_dec (ds ds' : List δ) (h : ds.length = ds'.length) : ((List.range ds.length).all fun j => decide (ds[j]? = ds'[j]?)) = decide (ds = ds') := by
  rw [Bool.eq_iff_iff, List.all_eq_true, decide_eq_true_iff]
  constructor
  · intro q
    apply List.ext_getElem? 
    intro i
    by_cases hi : i < ds.length
    · exact of_decide_eq_true (q i (by simpa using hi))
    · rw [List.getElem?_eq_none (by omega), List.getElem?_eq_none (by omega)]
  · rintro rfl i hi
    simp
theorem items_eq (ep : EqRep X n R) {H : Hp} {A : Around} {pins : List (Addr × Obj)} {s : Shared} {σ : St} (I : Inv X pins σ H s) {xs ys : List V} {ds ds' : List δ} {us vs : List Value} (hx : Paired (R H) xs ds) (hy : Paired (R H) ys ds') (ru : Vals xs us) (rv : Vals ys vs)
    (hu : A.units + n < cLine) : ∀ j (h1 : j < us.toArray.size) (h2 : j < vs.toArray.size), SeqAt.EqAt A s us.toArray[j] vs.toArray[j] (decide (ds[j]? = ds'[j]?)) := fun j h1 h2 => by
  have l1 := ru.length
  have l2 := rv.length
  rw [List.size_toArray] at h1 h2
  have e1 : xs[j]? = some (xs[j]'(by omega)) := List.getElem?_eq_getElem _
  have e2 : ys[j]? = some (ys[j]'(by omega)) := List.getElem?_eq_getElem _
  obtain ⟨d, q1, r1⟩ := paired_at hx j _ e1
  obtain ⟨d', q2, r2⟩ := paired_at hy j _ e2
  obtain ⟨u, w1, s1⟩ := ru.get e1
  obtain ⟨v, w2, s2⟩ := rv.get e2
  have z1 : us.toArray[j] = u := by rw [List.getElem?_eq_getElem h1] at w1; simpa using w1
  have z2 : vs.toArray[j] = v := by rw [List.getElem?_eq_getElem h2] at w2; simpa using w2
  rw [z1, z2, q1, q2]
  have : decide (some d = some d') = decide (d = d') := by rw [Bool.eq_iff_iff]; simp
  rw [this]
  exact ep.eq H _ _ _ _ r1 r2 A pins s σ u v I s1 s2 hu
theorem paired_fn (ep : EqRep X n R) {H : Hp} {pins : List (Addr × Obj)} {s : Shared} {σ : St} (I : Inv X pins σ H s) : ∀ {xs : List V} {ds ds' : List δ}, Paired (R H) xs ds → Paired (R H) xs ds' → ds = ds'
  | _, _, _, .nil, .nil => rfl
  | _, _, _, .cons r t, .cons r' t' => by rw [ep.fn pins s σ H _ _ _ I r r', paired_fn ep I t t']
theorem ep_tup (ep : EqRep X n R) : EqRep X (n + 1) (rTup X.K R) where
  eq := fun H x y dx dy hx hy A pins s σ u v I ru rv hu => by
    obtain ⟨a, xs, rfl, ha, px⟩ := hx
    obtain ⟨b, ys, rfl, hb, py⟩ := hy
    cases ru
    cases rv
    by_cases hab : a = b
    · subst hab
      have := I.tuple_inj ha hb
      subst this
      rw [paired_fn ep I px py, decide_eq_true rfl]
      exact SeqAt.EqAt.same _
    · obtain ⟨us, r1, p1, _⟩ := I.tuple ha
      obtain ⟨vs, r2, p2, _⟩ := I.tuple hb
      have l1 := r1.length
      have l2 := r2.length
      have l3 := Paired.length px
      have l4 := Paired.length py
      have := SeqAt.RcAt.tuples (A := A) (e := fun j => decide (dx[j]? = dy[j]?)) p1 p2 (by omega) (items_eq ep I px py r1 r2 (by show A.units + 1 + n < cLine; omega))
      refine SeqAt.EqAt.of_refs hab ?_
      have e : ((List.range (min us.toArray.size vs.toArray.size)).all (fun j => decide (dx[j]? = dy[j]?)) && us.toArray.size == vs.toArray.size) = decide (dx = dy) := by
        rw [List.size_toArray, List.size_toArray]
        by_cases hl : dx.length = dy.length
        · rw [show min us.length vs.length = dx.length by omega, all_dec dx dy hl, show (us.length == vs.length) = true by simp; omega, Bool.and_true]
        · rw [show (us.length == vs.length) = false by simp; omega, Bool.and_false, decide_eq_false (fun z => hl (by rw [z]))]
      rw [← e]
      exact this
  fn := fun pins s σ H x d d' I h h' => by
    obtain ⟨a, xs, rfl, ha, px⟩ := h
    obtain ⟨b, ys, e, hb, py⟩ := h'
    cases e
    have := I.tuple_inj ha hb
    subst this
    exact paired_fn ep I px py
theorem op_eqR (ep : EqRep X n R) (hu : X.A.units + 1 + n < cLine) : OpR X (compareOp .Eq) (fun x y H Q => ∃ ds ds', rLst X.K R H x ds ∧ rLst X.K R H y ds' ∧ Q (.bl (decide (ds = ds'))) H) := by
  intro pins s σ H x y v u Q I rx ry h
  obtain ⟨dx, dy, ⟨a, xs, rfl, ha, px⟩, ⟨b, ys, rfl, hb, py⟩, q⟩ := h
  cases rx
  cases ry
  obtain ⟨us, r1, p1, _⟩ := I.list ha
  obtain ⟨vs, r2, p2, _⟩ := I.list hb
  have l1 := r1.length
  have l2 := r2.length
  have l3 := Paired.length px
  have l4 := Paired.length py
  by_cases hl : dx.length = dy.length
  · refine SeqAt.RcAt.lists (e := fun j => decide (dx[j]? = dy[j]?)) p1.isList p2.isList (by simp only [List.size_toArray]; omega) (by omega) (items_eq ep I px py r1 r2 (by show X.A.units + 1 + n < cLine; omega)) X.prog X.w X.xe _ ?_
    rw [List.size_toArray, show us.length = dx.length by omega, all_dec dx dy hl]
    exact ⟨.bl _, H, I, rfl, q⟩
  · refine SeqAt.RcAt.lists_lengths p1.isList p2.isList (by simp only [List.size_toArray]; simpa using (by omega : us.length ≠ vs.length)) (by omega) X.prog X.w X.xe _ ?_
    rw [decide_eq_false (fun z => hl (by rw [z]))] at q
    exact ⟨.bl false, H, I, rfl, q⟩
end
end L2

set_option Elab.async false
set_option linter.all false
set_option maxRecDepth 100000
set_option maxHeartbeats 1000000
namespace L2
open PySem PySem.Spec PyProof.Rows PySem.W

def lexD : List V → List V → Option Bool
  | [], [] => some false
  | [], _ :: _ => some true
  | _ :: _, [] => some false
  | .int a :: r, .int b :: r' => if a = b then lexD r r' else some (decide (a < b))
  | .ref a :: r, .ref b :: r' => if a = b then lexD r r' else none
  | _, _ => none
section
variable {prog : Program} {w : World} {A : Around} {E : Value → Shared → Prop} {s : Shared}
theorem lt_int2 {a b : Int} {t u : Tok} {k : Bool} {Q : Bool → Shared → Prop} (h : Q (decide (a < b)) s) : wpAny (model prog w) A (oneLt' k (.int a t) (.int b u)) Q E s := by
  cases k with
  | true => exact oneLt_int h
  | false => exact kat_one _ _ (lt_int (show PySem.W.BoolBack Q (.bool (decide (a < b))) s from h))
theorem kat_lexD {b fin : Bool} {Q : Bool → Shared → Prop} : ∀ (xs ys : List V) (us vs : List Value) (i : Nat) (c : Bool), Vals xs us → Vals ys vs → lexD xs ys = some c → fin = decide (us.length < vs.length) → Q c s → KatLex prog w A b fin Q (us.zip vs) i s
  | [], [], _, _, i, c, .nil, .nil, h, hf, q => by
    have e : c = false := by simpa [lexD] using h.symm
    subst e
    refine kat_nil ?_
    rw [hf]; exact q
  | [], y :: ys, _, _, i, c, .nil, .cons _ _, h, hf, q => by
    have e : c = true := by simpa [lexD] using h.symm
    subst e
    refine kat_nil ?_
    rw [hf, decide_eq_true (by simp)]; exact q
  | x :: xs, [], _, _, i, c, .cons _ _, .nil, h, hf, q => by
    have e : c = false := by cases x <;> simpa [lexD] using h.symm
    subst e
    refine kat_nil ?_
    rw [hf, decide_eq_false (by simp)]; exact q
  | x :: xs, y :: ys, u :: us, v :: vs, i, c, .cons rx tx, .cons ry ty, h, hf, q => by
    have hf' : fin = decide (us.length < vs.length) := by
      rw [hf, List.length_cons, List.length_cons]
      rw [Bool.eq_iff_iff, decide_eq_true_iff, decide_eq_true_iff]
      omega
    rw [List.zip_cons_cons]
    cases x with
    | int m =>
      cases y with
      | int k =>
        obtain ⟨t, rfl⟩ := rx
        obtain ⟨t', rfl⟩ := ry
        refine kat_cons (wpAny_eqBool_int ?_)
        by_cases e : m = k
        · rw [show (m == k) = true by simpa using e]
          have h' : lexD xs ys = some c := by simpa [lexD, e] using h
          exact kat_yes (kat_lexD xs ys us vs (i + 1) c tx ty h' hf' q)
        · rw [show (m == k) = false by simpa using e]
          have h' : decide (m < k) = c := by simpa [lexD, e] using h
          refine kat_no (lt_int2 ?_)
          rw [h']; exact q
      | _ => simp [lexD] at h
    | ref m =>
      cases y with
      | ref k =>
        cases rx
        cases ry
        by_cases e : m = k
        · subst e
          have h' : lexD xs ys = some c := by simpa [lexD] using h
          exact kat_cons (SeqAt.EqAt.same (.ref m) prog w _ _ (kat_yes (kat_lexD xs ys us vs (i + 1) c tx ty h' hf' q)))
        · simp [lexD, e] at h
      | _ => simp [lexD] at h
    | _ => cases y <;> simp [lexD] at h

theorem list_sort_by {a : Addr} {vs : List Value} {n : Nat} {r : Nat → Int} {P : PySem.Fin → Shared → Prop} (ho : s.heap.get? a = some (seqObj "list" vs.toArray n)) (h64 : vs.length < 64)
    (hk : ∀ (h' : Heap), (∀ b o, b ≠ a → s.heap.get? b = some o → h'.get? b = some o) → 2 ≤ vs.length → ∀ Q' : SortKind → Shared → Prop, Q' (tuples' true) { s with heap := h' } → wpAny (model prog w) A (keyKind' vs.toArray) Q' E { s with heap := h' })
    (hc : ∀ (h' : Heap), (∀ b o, b ≠ a → s.heap.get? b = some o → h'.get? b = some o) → ∀ i j, i < vs.length → j < vs.length → ∀ C : Bool → Shared → Prop, C (decide (r i < r j)) { s with heap := h' } → wpAny (model prog w) A (keyLt' (tuples' true) (vs.getD i Value.none) (vs.getD j Value.none)) C (fun _ _ => False) { s with heap := h' })
    (h : ∀ p : Array Nat, p.Perm (List.range vs.length).toArray → Up r p vs.length → P (.done (.ret .none)) { s with heap := sortedHeap s.heap a vs (p.toList.map fun i => vs.getD i Value.none).toArray }) :
    wpAny (model prog w) A (Builtin.«list.sort» ⟨[.ref a], []⟩) P E s := by
  have ha : a < s.heap.objs.size := Heap.lt_size ho
  rw [list_sort_plain]
  refine wpAny_bind (listItems_at ho rfl ?_)
  refine wpAny_bind (listUpdate_at ho rfl ?_ (by rw [List.size_toArray, sizeLine_eq]; omega) (Nat.zero_le _))
  obtain ⟨e1, ho1⟩ : ∃ e1, (s.heap.update a (Obj.mapSeq fun _ => (#[] : Array Value))).get? a = some (seqObj "list" #[] e1) := ⟨_, get?_update_seq ho fun _ => #[]⟩
  refine wpAny_bind (seqEpoch_at ho1 rfl ?_)
  refine wpAny_bind (wpAny_newTuple ?_ (by show vs.length ≤ _; rw [sizeLine_eq]; omega))
  refine wpAny_bind (wpAny_newList ?_ (Nat.zero_le _))
  refine wpAny_holding ?_
  have keep : ∀ b o, b ≠ a → s.heap.get? b = some o → (((s.heap.update a (Obj.mapSeq fun _ => (#[] : Array Value))).push (seqObj "tuple" vs.toArray 0)).push (seqObj "list" #[] 0)).get? b = some o := fun b o hb q =>
    Heap.get?_push_of_some _ (Heap.get?_push_of_some _ ((Heap.get?_update_other _ _ (Ne.symm hb)).trans q))
  have ho6 : (((s.heap.update a (Obj.mapSeq fun _ => (#[] : Array Value))).push (seqObj "tuple" vs.toArray 0)).push (seqObj "list" #[] 0)).get? a = some (seqObj "list" #[] e1) := Heap.get?_push_of_some _ (Heap.get?_push_of_some _ ho1)
  show wpAny (model prog w) A _ P E { s with heap := ((s.heap.update a (Obj.mapSeq fun _ => (#[] : Array Value))).push (seqObj "tuple" vs.toArray 0)).push (seqObj "list" #[] 0) }
  dsimp only
  by_cases h2 : vs.toArray.size < 2
  · rw [if_pos h2, if_pos h2]
    refine wpAny_bind (wpAny_pure ?_)
    rw [StateT.run_pure]
    refine wpAny_bind (wpAny_pure ?_)
    dsimp only
    refine wpAny_bind (seqEpoch_at ho6 rfl ?_)
    have eo : (arrOf (SortSt.mk' general' (vs.toArray.zip vs.toArray) #[] 7 none)).map (·.2) = (((List.range vs.length).toArray.toList).map fun i => vs.getD i Value.none).toArray := by
      have e3 : ((List.range vs.length).toArray.toList.map fun i => vs.getD i Value.none) = vs := by
        apply List.ext_getElem
        · simp
        · intro i q1 q2
          simp [List.getD, q2]
      rw [e3]
      show (vs.toArray.zip vs.toArray).map (·.2) = vs.toArray
      apply Array.ext
      · simp
      · intro i q1 q2
        simp
    refine wpAny_bind (listUpdate_at ho6 rfl ?_ (Nat.zero_le _) (by rw [eo, List.size_toArray, List.length_map]; simp; rw [sizeLine_eq]; omega))
    simp only [bne_self_eq_false, Bool.false_eq_true, if_false]
    refine wpAny_pure ?_
    rw [eo]
    refine h (List.range vs.length).toArray (Array.Perm.refl _) fun i hi hb => ?_
    rw [List.size_toArray] at h2
    omega
  · rw [if_neg h2, if_neg h2]
    rw [List.size_toArray] at h2
    refine wpAny_bind (hk _ keep (by omega) _ ?_)
    have run := kat_run (E := E) (κ := tuples' true) (ks := vs) (vs := vs) (prog := prog) (w := w) (A := A) (Q := fun st' s' => s' = { s with heap := ((s.heap.update a (Obj.mapSeq fun _ => (#[] : Array Value))).push (seqObj "tuple" vs.toArray 0)).push (seqObj "list" #[] 0) } ∧ failedOf st' = none ∧ ∃ p : Array Nat, p.Perm (List.range vs.length).toArray ∧ Up r p vs.length ∧ arrOf st' = p.map (kas_item (vs.toArray.zip vs.toArray)))
      (G := fun p s' => s' = { s with heap := ((s.heap.update a (Obj.mapSeq fun _ => (#[] : Array Value))).push (seqObj "tuple" vs.toArray 0)).push (seqObj "list" #[] 0) } ∧ p.Perm (List.range vs.length).toArray ∧ Up r p vs.length) rfl (by omega) h64 (fun p st' s' a1 a2 a3 ⟨b1, b2, b3⟩ => ⟨b1, a3, p, b2, b3, a2⟩)
      (wp_ev (J := fun s' => s' = { s with heap := ((s.heap.update a (Obj.mapSeq fun _ => (#[] : Array Value))).push (seqObj "tuple" vs.toArray 0)).push (seqObj "list" #[] 0) }) (lt := ltR r) (n := vs.length) (fun i j C s' hi hj hJ q => by
        subst hJ
        exact hc _ keep i j hi hj C (q _ rfl)) _ _ _ (asks_sort (by omega)) rfl fun s' hJ => ⟨hJ, ev_sort (by omega)⟩)
    refine wpAny_bind (wpAny_mono run ?_ fun _ _ e => e)
    rintro ⟨⟨⟩, st'⟩ s' ⟨rfl, hf, p, pm, up, har⟩
    dsimp only
    have hout := kat_snds (ks := vs) (vs := vs) rfl har
    have hsz : (p.toList.map fun i => vs.getD i Value.none).toArray.size = vs.length := by rw [List.size_toArray, List.length_map, Array.length_toList, pm.size_eq]; simp
    rw [hout]
    refine wpAny_bind (seqEpoch_at ho6 rfl ?_)
    refine wpAny_bind (listUpdate_at ho6 rfl ?_ (Nat.zero_le _) (by rw [hsz, sizeLine_eq]; omega))
    rw [hf]
    simp only [bne_self_eq_false, Bool.false_eq_true, if_false]
    exact wpAny_pure (h p pm up)
theorem sorted_by {l : Addr} {vs : List Value} {r : Nat → Int} {Q : Value → Shared → Prop} (hl : s.heap.IsList l vs.toArray) (h64 : vs.length < 64)
    (hk : ∀ (A : Around) (E : Value → Shared → Prop) (h' : Heap), (∀ b o, s.heap.get? b = some o → h'.get? b = some o) → 2 ≤ vs.length → ∀ Q' : SortKind → Shared → Prop, Q' (tuples' true) { s with heap := h' } → wpAny (model prog w) A (keyKind' vs.toArray) Q' E { s with heap := h' })
    (hc : ∀ (A : Around) (h' : Heap), (∀ b o, s.heap.get? b = some o → h'.get? b = some o) → ∀ i j, i < vs.length → j < vs.length → ∀ C : Bool → Shared → Prop, C (decide (r i < r j)) { s with heap := h' } → wpAny (model prog w) A (keyLt' (tuples' true) (vs.getD i Value.none) (vs.getD j Value.none)) C (fun _ _ => False) { s with heap := h' })
    (h : ∀ (p : Array Nat), p.Perm (List.range vs.length).toArray → Up r p vs.length → Q (.ref (s.heap.objs.size + 1)) { s with heap := sortedAll s.heap vs (p.toList.map fun i => vs.getD i Value.none).toArray }) :
    wpAny (model prog w) A (call (.builtin "sorted") [.ref l]) Q E s := by
  refine Calls.call_function_entry kind_sorted plain_sorted entry_sorted (args_sorted1 _) ?_
  unfold Builtin.«sorted»
  refine wpAny_bind (m := checkCount "sorted" 1 1 _) (wpAny_pure ?_)
  refine wpAny_bind (collect_list hl ?_ (by rw [sizeLine_eq]; omega))
  refine wpAny_bind (wpAny_newList ?_ (by rw [sizeLine_eq]; omega))
  have sz : ((s.heap.push (seqObj "list" #[] 0)).update s.heap.objs.size (Obj.mapSeq (· ++ vs.toArray))).objs.size = s.heap.objs.size + 1 := by rw [Heap.size_update, size_push']
  have hoL : (((s.heap.push (seqObj "list" #[] 0)).update s.heap.objs.size (Obj.mapSeq (· ++ vs.toArray))).push (seqObj "list" vs.toArray 0)).get? (s.heap.objs.size + 1) = some (seqObj "list" vs.toArray 0) := by
    rw [← sz]; exact Heap.get?_push_size _ rfl
  have keep : ∀ b o, s.heap.get? b = some o → (((s.heap.push (seqObj "list" #[] 0)).update s.heap.objs.size (Obj.mapSeq (· ++ vs.toArray))).push (seqObj "list" vs.toArray 0)).get? b = some o := fun b o q =>
    Heap.get?_push_of_some _ ((Heap.get?_update_other _ _ (Nat.ne_of_gt (Heap.lt_size q))).trans (Heap.get?_push_of_some _ q))
  show wpAny _ _ _ _ _ { s with heap := ((s.heap.push (seqObj "list" #[] 0)).update s.heap.objs.size (Obj.mapSeq (· ++ vs.toArray))).push (seqObj "list" vs.toArray 0) }
  rw [sz]
  refine wpAny_bind (wpAny_holding (wpAny_call_entry slot_list_sort ⟨_, hoL, rfl⟩ entry_list_sort (list_sort_by (r := r) (s := { s with heap := ((s.heap.push (seqObj "list" #[] 0)).update s.heap.objs.size (Obj.mapSeq (· ++ vs.toArray))).push (seqObj "list" vs.toArray 0) }) hoL h64
    (fun h' kp h2 Q' q => hk _ _ h' (fun b o e => kp b o (Nat.ne_of_lt (Nat.lt_succ_of_lt (Heap.lt_size e))) (keep b o e)) h2 Q' q)
    (fun h' kp i j hi hj C q => hc _ h' (fun b o e => kp b o (Nat.ne_of_lt (Nat.lt_succ_of_lt (Heap.lt_size e))) (keep b o e)) i j hi hj C q) fun p pm up => ⟨_, rfl, ?_⟩) (args_list_sort _)))
  exact wpAny_pure ⟨_, rfl, h p pm up⟩
end
section
variable {X : Cx}
def TupsAt (K : PySem.W.Frag) (H : Hp) (as : List Addr) (its : List (List V)) : Prop := Paired (fun a xs => SqT K H a xs ∧ ∃ i r, xs = V.int i :: r) as its
theorem tups_get {K : PySem.W.Frag} {H : Hp} {as : List Addr} {its : List (List V)} (h : TupsAt K H as its) : ∀ (i : Nat), i < as.length → ∃ a xs, as[i]? = some a ∧ its[i]? = some xs ∧ SqT K H a xs ∧ ∃ j r, xs = V.int j :: r := fun i hi => by
  have e : as[i]? = some as[i] := List.getElem?_eq_getElem hi
  obtain ⟨d, e2, q⟩ := paired_at h i _ e
  exact ⟨_, d, e, e2, q.1, q.2⟩
theorem call_sorted_tups : CallR X (.builtin "sorted") (fun xs H Q => ∃ (p : Addr) (as : List Addr) (its : List (List V)) (r : Nat → Int), xs = [.ref p] ∧ SqL X.K H p (as.map V.ref) ∧ TupsAt X.K H as its ∧ as.length < 64 ∧
    (∀ i j x y, its[i]? = some x → its[j]? = some y → lexD x y = some (decide (r i < r j))) ∧ ∀ q : Array Nat, q.Perm (List.range as.length).toArray → Up r q as.length → ∀ l, H l = none → Q (.ref l) (upd H l (.lst ((q.toList.map fun i => as.getD i 0).map V.ref)))) := by
  intro pins s σ H xs us Q I r0 h
  obtain ⟨p, as, its, r, rfl, hq, ht, h64, hcmp, q⟩ := h
  obtain ⟨u, rfl, rx⟩ := vals1 r0
  cases rx
  obtain ⟨vs, r', pl, hz⟩ := I.list hq
  have evs : vs = as.map Value.ref := by
    have go : ∀ (as : List Addr) (vs : List Value), Vals (as.map V.ref) vs → vs = as.map Value.ref := by
      intro as
      induction as with
      | nil => intro vs r; cases r; rfl
      | cons a t ih =>
        intro vs r
        rw [List.map_cons] at r
        cases r with
        | cons r1 r2 => rw [show _ = Value.ref a from r1, ih _ r2]; rfl
    exact go as vs r'
  subst evs
  have hl : (as.map Value.ref).length = as.length := List.length_map _
  have hget : ∀ i a, as[i]? = some a → (as.map Value.ref).getD i Value.none = .ref a := fun i a e => by
    rw [List.getD, List.getElem?_map, e]; rfl
  have tl := Paired.length ht
  refine sorted_by (r := r) pl.isList (by rw [hl]; exact h64) (fun A E h' kp h2 Q' q' => ?_) (fun A h' kp i j hi hj C q' => ?_) fun pq pm up => ?_
  · -- the kind
    have I' : Inv X pins σ H { s with heap := h' } := I.kept (t' := s.toks) kp
    have go : ∀ (as : List Addr) (its : List (List V)), TupsAt X.K H as its → ∃ fs : List Value, KatTups h' (as.map Value.ref) fs ∧ (∀ v ∈ fs, ∃ i t, v = .int i t) ∧ fs.length = as.length := by
      intro as its hT
      unfold TupsAt at hT
      induction hT with
      | nil => exact ⟨[], trivial, fun v hv => absurd hv (by simp), rfl⟩
      | @cons a xs as its hx t ih =>
        obtain ⟨fs, k1, k2, k3⟩ := ih
        obtain ⟨hS, i, r, rfl⟩ := hx
        obtain ⟨us, ru, pu, _⟩ := I'.tuple hS
        cases ru with
        | @cons _ u _ us r1 r2 =>
          obtain ⟨tk, rfl⟩ := r1
          obtain ⟨o, e1, e2, n, e3⟩ := pu
          refine ⟨.int i tk :: fs, KatTups.cons e1 e2 e3 (by simp) k1, fun v hv => ?_, by rw [List.length_cons, List.length_cons, k3]⟩
          rcases List.mem_cons.mp hv with rfl | hv
          · exact ⟨i, tk, rfl⟩
          · exact k2 v hv
    obtain ⟨fs, k1, k2, k3⟩ := go as its ht
    refine kat_kind (T := .type "int") k1 (by rw [hl] at h2; omega) (fun v hv => ?_) (by decide) q'
    obtain ⟨i, tk, rfl⟩ := k2 v hv
    exact .now
  · -- a comparison
    have I' : Inv X pins σ H { s with heap := h' } := I.kept (t' := s.toks) kp
    rw [hl] at hi hj
    obtain ⟨a, x, ea, ex, hS, _⟩ := tups_get ht i hi
    obtain ⟨b, y, eb, ey, hS', _⟩ := tups_get ht j hj
    rw [hget i a ea, hget j b eb]
    obtain ⟨us, ru, ⟨o, e1, e2, n, e3⟩, _⟩ := I'.tuple hS
    obtain ⟨us', ru', ⟨o', e1', e2', n', e3'⟩, _⟩ := I'.tuple hS'
    refine kat_lt e1 e3 e1' e3' ?_
    exact kat_lexD x y us us' 0 _ (by simpa using ru) (by simpa using ru') (hcmp i j x y ex ey) (by simp) q'
  · have sz : (pq.toList.map fun i => (as.map Value.ref).getD i Value.none) = (pq.toList.map fun i => as.getD i 0).map Value.ref := by
      rw [List.map_map]
      apply List.map_congr_left
      intro i hi
      have hi' : i < as.length := by
        have := (Array.Perm.mem_iff pm (a := i)).mp (by simpa using hi)
        rw [hl] at this
        simpa using this
      show _ = Value.ref (as.getD i 0)
      rw [hget i as[i] (List.getElem?_eq_getElem hi')]
      simp [List.getD, hi']
    rw [sz]
    rw [hl] at pm up
    obtain ⟨e, he⟩ := sortedAll_at s.heap (as.map Value.ref) ((pq.toList.map fun i => as.getD i 0).map Value.ref).toArray
    have vr : ∀ bs : List Addr, Vals (bs.map V.ref) (bs.map Value.ref) := fun bs => by
      induction bs with
      | nil => exact .nil
      | cons b t ih => exact .cons rfl ih
    have hlen : ((pq.toList.map fun i => as.getD i 0).map V.ref).length ≤ sizeLine := by
      rw [List.length_map, List.length_map, Array.length_toList, pm.size_eq]
      exact Nat.le_of_lt (small1000 (by simp; omega))
    exact ⟨.ref (s.heap.objs.size + 1), _, I.laid (t' := s.toks) (o := .lst ((pq.toList.map fun i => as.getD i 0).map V.ref)) (fun b o e => sortedAll_old e) (Nat.le_succ _) ⟨hlen, _, e, vr _, by simpa [seqObj] using he⟩, rfl, q pq pm up _ (I.hok.fresh (Nat.le_succ _))⟩
end
end L2

set_option Elab.async false
set_option linter.all false
set_option maxRecDepth 100000
set_option maxHeartbeats 1000000
namespace L2
open PySem PySem.Spec PyProof.Rows
section
variable {X : Cx} {x y z w : Str} {i j k l n : Nat} {px py pz pw pt : Pos}
structure Nm (X : Cx) (i : Nat) (x : Str) : Prop where
  at_ : X.N[i]? = some x
  loc : Loc X.env.scope x
  fn : X.fn x = true ∨ X.env.scope.names.lookup x = some .local
theorem Nm.pg (h : Nm X i x) (nd : X.N.Nodup) : PG X (.Name x px) (gName i) := pg_name nd h.at_ h.loc h.fn
theorem pg3 (hc : X.calm = true) (nd : X.N.Nodup) (a : Nm X i x) (b : Nm X j y) (c : Nm X k z) : PG X (.Tuple [.Name x px, .Name y py, .Name z pz] n pt) (gTup X.K 3 (gCons (gName i) (gCons (gName j) (gCons (gName k) gNil)))) :=
  pg_tup (X := X) (n := 3) hc (pgs_cons (X := X) (a.pg nd) (pgs_cons (X := X) (b.pg nd) (pgs_cons (X := X) (c.pg nd) pgs_nil)))
end
end L2

set_option Elab.async false
set_option linter.all false
set_option maxRecDepth 100000
set_option maxHeartbeats 1000000
namespace L2
open PySem PySem.Spec PyProof.Rows
section
variable {es : List Expr} {env : Env} {c : Const} {i : Nat} {p : Pos}
theorem st_const : starEach (.Constant c i p :: es) env = (false, eval (.Constant c i p) env) :: starEach es env := by rw [starEach]; intro a b h; cases h
theorem st_name {x : Str} : starEach (.Name x p :: es) env = (false, eval (.Name x p) env) :: starEach es env := by rw [starEach]; intro a b h; cases h
theorem st_call {f : Expr} {as : List Expr} {ks : List Keyword} : starEach (.Call f as ks p :: es) env = (false, eval (.Call f as ks p) env) :: starEach es env := by rw [starEach]; intro a b h; cases h
theorem st_bin {a b : Expr} {o : Operator} : starEach (.BinOp a o b p :: es) env = (false, eval (.BinOp a o b p) env) :: starEach es env := by rw [starEach]; intro a b h; cases h
theorem st_sub {a b : Expr} : starEach (.Subscript a b p :: es) env = (false, eval (.Subscript a b p) env) :: starEach es env := by rw [starEach]; intro a b h; cases h
theorem st_tup {a : List Expr} : starEach (.Tuple a i p :: es) env = (false, eval (.Tuple a i p) env) :: starEach es env := by rw [starEach]; intro a b h; cases h
theorem st_comp {a : Expr} {g : List Comprehension} {s : Scope} : starEach (.ListComp a g s p :: es) env = (false, eval (.ListComp a g s p) env) :: starEach es env := by rw [starEach]; intro a b h; cases h
end
section
variable {X : Cx}
theorem ix_listK (K : PySem.W.Frag) (h : X.K = K := by rfl) : IxR X (rIxL K) := h ▸ ix_list
theorem ix_tupK (K : PySem.W.Frag) (h : X.K = K := by rfl) : IxR X (rIxT K) := h ▸ ix_tup
theorem sl_listK (K : PySem.W.Frag) (h : X.K = K := by rfl) : SlR X (rSlL K) := h ▸ sl_list
theorem op_inK (K : PySem.W.Frag) (h : X.K = K := by rfl) : OpR X (compareOp .In) (rIn K false) := h ▸ op_in_seq
theorem op_notInK (K : PySem.W.Frag) (h : X.K = K := by rfl) : OpR X (compareOp .NotIn) (rIn K true) := h ▸ op_notIn_seq
def rLenSeq (K : PySem.W.Frag) : List V → Hp → VK → Prop := fun xs H Q => ∃ p ys, xs = [.ref p] ∧ (SqL K H p ys ∨ SqT K H p ys) ∧ Q (.int ys.length) H
theorem call_lenK (K : PySem.W.Frag) (h : X.K = K := by rfl) : CallR X (.builtin "len") (rLenSeq K) := h ▸ call_len_seq
def rListOf (K : PySem.W.Frag) : List V → Hp → VK → Prop := fun xs H Q => ∃ p ys, xs = [.ref p] ∧ (SqL K H p ys ∨ SqT K H p ys) ∧ ∀ l, H l = none → Q (.ref l) (upd H l (.lst ys))
theorem call_listK (K : PySem.W.Frag) (h : X.K = K := by rfl) : CallR X (.type "list") (rListOf K) := h ▸ call_list_of
def rTupleOf (K : PySem.W.Frag) : List V → Hp → VK → Prop := fun xs H Q => ∃ p ys, xs = [.ref p] ∧ ((SqL K H p ys ∧ ∀ l, H l = none → Q (.ref l) (upd H l (.tup ys))) ∨ (SqT K H p ys ∧ Q (.ref p) H))
theorem call_tupleK (K : PySem.W.Frag) (h : X.K = K := by rfl) : CallR X (.type "tuple") (rTupleOf K) := h ▸ call_tuple_of
def rIsinst (K : PySem.W.Frag) : List V → Hp → VK → Prop := fun xs H Q => ∃ v T t b, xs = [v, .ty T] ∧ TyOf K H v t ∧ PySem.W.kitOne K t (.type T) = some b ∧ Q (.bl b) H
theorem call_isinstK (K : PySem.W.Frag) (h : X.K = K := by rfl) : CallR X (.builtin "isinstance") (rIsinst K) := h ▸ call_isinst
def rSumI (K : PySem.W.Frag) : List V → Hp → VK → Prop := fun xs H Q => ∃ (p : Addr) (ns : List Int), xs = [.ref p] ∧ SqL K H p (ns.map V.int) ∧ Q (.int ns.sum) H
theorem call_sumK (K : PySem.W.Frag) (hc : X.calm = true) (h : X.K = K := by rfl) : CallR X (.builtin "sum") (rSumI K) := h ▸ call_sum_ints hc
def rAllB (K : PySem.W.Frag) : List V → Hp → VK → Prop := fun xs H Q => ∃ (p : Addr) (bs : List Bool), xs = [.ref p] ∧ SqL K H p (bs.map V.bl) ∧ Q (.bl (bs.all id)) H
def rAnyB (K : PySem.W.Frag) : List V → Hp → VK → Prop := fun xs H Q => ∃ (p : Addr) (bs : List Bool), xs = [.ref p] ∧ SqL K H p (bs.map V.bl) ∧ Q (.bl (bs.any id)) H
theorem call_anyK (K : PySem.W.Frag) (hc : X.calm = true) (h : X.K = K := by rfl) : CallR X (.builtin "any") (rAnyB K) := h ▸ call_any_bools hc
def rSortedI (K : PySem.W.Frag) : List V → Hp → VK → Prop := fun xs H Q => ∃ (p : Addr) (ns : List Int), xs = [.ref p] ∧ SqL K H p (ns.map V.int) ∧ ns.length < 64 ∧ ∀ ns' : List Int, ns'.Perm ns → ns'.Pairwise (· ≤ ·) → ∀ l, H l = none → Q (.ref l) (upd H l (.lst (ns'.map V.int)))
theorem call_sortedK (K : PySem.W.Frag) (h : X.K = K := by rfl) : CallR X (.builtin "sorted") (rSortedI K) := h ▸ call_sorted_ints
def SetP (P : Program) (w : World) (l : Addr) (ns : List Int) : HO := .ext fun h => SetX (intKind P w) h l (fun k => decide (k ∈ ns)) (sortU ns).length
def rSetI (K : PySem.W.Frag) (P : Program) (w : World) : List V → Hp → VK → Prop := fun xs H Q => ∃ (p : Addr) (ns : List Int), xs = [.ref p] ∧ SqL K H p (ns.map V.int) ∧ ns.length < 4000 ∧ ∀ l, H l = none → Q (.ref l) (upd H l (SetP P w l ns))
theorem call_setK (K : PySem.W.Frag) (P : Program) (w : World) (hc : X.calm = true) (h : X.K = K := by rfl) (hP : X.prog = P := by rfl) (hw : X.w = w := by rfl) : CallR X (.type "set") (rSetI K P w) := by
  subst h hP hw
  exact call_set_ints hc
def rSortedS (P : Program) (w : World) : List V → Hp → VK → Prop := fun xs H Q => ∃ (p : Addr) (ns : List Int), xs = [.ref p] ∧ H p = some (SetP P w p ns) ∧ ns.length < 64 ∧ ∀ l, H l = none → Q (.ref l) (upd H l (.lst ((sortU ns).map V.int)))
theorem call_sortedSK (P : Program) (w : World) (hc : X.calm = true) (hP : X.prog = P := by rfl) (hw : X.w = w := by rfl) : CallR X (.builtin "sorted") (rSortedS P w) := by
  subst hP hw
  exact call_sorted_set hc
def rLenS (P : Program) (w : World) : List V → Hp → VK → Prop := fun xs H Q => ∃ (p : Addr) (ns : List Int), xs = [.ref p] ∧ H p = some (SetP P w p ns) ∧ Q (.int (sortU ns).length) H
theorem call_lenSK (P : Program) (w : World) (hP : X.prog = P := by rfl) (hw : X.w = w := by rfl) : CallR X (.builtin "len") (rLenS P w) := by
  subst hP hw
  exact call_len_set
def rSortedT (K : PySem.W.Frag) : List V → Hp → VK → Prop := fun xs H Q => ∃ (p : Addr) (as : List Addr) (its : List (List V)) (r : Nat → Int), xs = [.ref p] ∧ SqL K H p (as.map V.ref) ∧ TupsAt K H as its ∧ as.length < 64 ∧
    (∀ i j x y, its[i]? = some x → its[j]? = some y → lexD x y = some (decide (r i < r j))) ∧ ∀ q : Array Nat, q.Perm (List.range as.length).toArray → Up r q as.length → ∀ l, H l = none → Q (.ref l) (upd H l (.lst ((q.toList.map fun i => as.getD i 0).map V.ref)))
theorem call_sortedTK (K : PySem.W.Frag) (h : X.K = K := by rfl) : CallR X (.builtin "sorted") (rSortedT K) := h ▸ call_sorted_tups
def rNeI (K : PySem.W.Frag) : R2 := fun x y H Q => ∃ (a b : Addr) (ns ms : List Int), x = .ref a ∧ y = .ref b ∧ SqL K H a (ns.map V.int) ∧ SqL K H b (ms.map V.int) ∧ Q (.bl (!decide (ns = ms))) H
def rEqI (K : PySem.W.Frag) : R2 := fun x y H Q => ∃ (a b : Addr) (ns ms : List Int), x = .ref a ∧ y = .ref b ∧ SqL K H a (ns.map V.int) ∧ SqL K H b (ms.map V.int) ∧ Q (.bl (decide (ns = ms))) H
theorem op_neIK (K : PySem.W.Frag) (hu : X.A.units < cLine) (h : X.K = K := by rfl) : OpR X (compareOp .NotEq) (rNeI K) := h ▸ op_neLI hu
theorem op_eqIK (K : PySem.W.Frag) (hu : X.A.units < cLine) (h : X.K = K := by rfl) : OpR X (compareOp .Eq) (rEqI K) := h ▸ op_eqLI hu
section
variable {δ : Type} [DecidableEq δ] {n : Nat} {R : Hp → V → δ → Prop}
def rNeR (K : PySem.W.Frag) (R : Hp → V → δ → Prop) : R2 := fun x y H Q => ∃ ds ds', rLst K R H x ds ∧ rLst K R H y ds' ∧ Q (.bl (!decide (ds = ds'))) H
def rEqR (K : PySem.W.Frag) (R : Hp → V → δ → Prop) : R2 := fun x y H Q => ∃ ds ds', rLst K R H x ds ∧ rLst K R H y ds' ∧ Q (.bl (decide (ds = ds'))) H
theorem op_eqRK (K : PySem.W.Frag) (ep : EqRep X n R) (hu : X.A.units + 1 + n < cLine) (h : X.K = K := by rfl) : OpR X (compareOp .Eq) (rEqR K R) := h ▸ op_eqR ep hu
end
def tTru (K : PySem.W.Frag) (ta : TE) : TT := fun σ H Q => ta σ H fun x H' => ∃ k, TruV K x H' k ∧ Q k H'
theorem pt_truK (K : PySem.W.Frag) {a : Expr} {ta : TE} (ha : PE X a ta) (he : ∀ whole, isTrue a X.env whole = (do let v ← whole; standAt a.pos; holding [v] (truthy v))) (h : X.K = K := by rfl) : PT X a (tTru K ta) := h ▸ pt_truth ha he
theorem pi_listK (K : PySem.W.Frag) {tg l : Expr} {tl : TE} (hl : PE X l tl) (h : X.K = K := by rfl) : PI X tg l (iList K tl) := h ▸ pi_list hl
theorem pi_tupK (K : PySem.W.Frag) {tg l : Expr} {tl : TE} (hl : PE X l tl) (h : X.K = K := by rfl) : PI X tg l (iTup K tl) := h ▸ pi_tup hl
variable {x y z w : Str} {i j k l n : Nat} {px py pz pw pt : Pos}
theorem pg3K (K : PySem.W.Frag) (hc : X.calm = true) (nd : X.N.Nodup) (a : Nm X i x) (b : Nm X j y) (c : Nm X k z) (h : X.K = K := by rfl) : PG X (.Tuple [.Name x px, .Name y py, .Name z pz] n pt) (gTup K 3 (gCons (gName i) (gCons (gName j) (gCons (gName k) gNil)))) := h ▸ pg3 hc nd a b c
end
section
variable {X : Cx} {o e : Expr} {es : List Expr} {to : TE} {t : TA} {name : Str} {apos cpos : Pos} {T id : String} {r : V → List V → Hp → VK → Prop}
theorem pe_bmK (K : PySem.W.Frag) (pa : PlainAttrs T) (slot : Slot T name id) (hty : typeOf (.builtin id) = pure (.type "method_descriptor")) (hm : MtR X id r) (ho : PE X o to) (ha : PA X (e :: es) t) (h : X.K = K := by rfl)
    (hbase : attributeBase o name X.env (eval o X.env) = eval o X.env := by rfl)
    (hfew : ((backTo cpos (starEach (e :: es) X.env)).all (fun x => !x.1) && (backToKw cpos (keywordEach [] X.env)).all (fun x => x.1.isSome)
      && decide ((e :: es).length + ([] : List Keyword).length + (if ([] : List Keyword).isEmpty then 0 else 1) < 30)) = true := by rfl)
    (hline : (apos.endLine == cpos.line) = true := by rfl) (hs : starEach (e :: es) X.env = (false, eval e X.env) :: starEach es X.env := by rfl) (hplain : (backTo cpos (starEach es X.env)).any (·.1) = false := by rfl) :
    PE X (.Call (.Attribute o name apos) (e :: es) [] cpos) (tBM K T r to t) := h ▸ pe_bm pa slot hty hm ho ha hbase hfew hline hs hplain
end
end L2

set_option Elab.async false
set_option linter.all false
set_option maxRecDepth 100000
set_option maxHeartbeats 1000000
namespace HT
open PySem PySem.Spec PyProof.Rows
section
variable {prog : Program} {w : World} {A : Around} {E : Value → Shared → Prop} {s : Shared}
end
end HT
namespace L2
open PySem PySem.Spec PyProof.Rows
section
variable {X : Cx}
def rCatW : R2 := fun x y H Q => ∃ a b xs ys, x = .ref a ∧ y = .ref b ∧ H a = some (.tup xs) ∧ H b = some (.tup ys) ∧ xs.length + ys.length ≤ sizeLine ∧ ∀ (p : Addr) (H' : Hp), Same H H' → H' p = some (.tup (xs ++ ys)) → Q (.ref p) H'
def rSlW : V → Option Int → Option Int → Hp → VK → Prop := fun x lo hi H Q => ∃ a xs, x = .ref a ∧ H a = some (.tup xs) ∧ ∀ (p : Addr) (H' : Hp), Same H H' → H' p = some (.tup (cutV xs lo hi)) → Q (.ref p) H'
end
end L2

set_option Elab.async false
set_option linter.all false
set_option maxRecDepth 100000
set_option maxHeartbeats 1000000
namespace L2
open PySem PySem.Spec PyProof.Rows
def enc : List Int → Int
  | [] => 0
  | x :: r => x * 1000 ^ r.length + enc r
def Few (d : List Int) : Prop := ∀ x ∈ d, 0 ≤ x ∧ x < 1000
theorem Few.tail {x : Int} {r : List Int} (h : Few (x :: r)) : Few r := fun y hy => h y (List.mem_cons_of_mem _ hy)
def DataAt (K : PySem.W.Frag) (H : Hp) (as : List Addr) (ds : List (List Int)) : Prop := Paired (fun a d => SqT K H a (d.map V.int)) as ds
def rSortedD (K : PySem.W.Frag) : List V → Hp → VK → Prop := fun xs H Q => ∃ (p : Addr) (as : List Addr) (ds : List (List Int)) (n : Nat), xs = [.ref p] ∧ SqL K H p (as.map V.ref) ∧ DataAt K H as ds ∧ as.length < 64 ∧ 0 < n ∧ (∀ d ∈ ds, d.length = n ∧ Few d) ∧
  ∀ (as' : List Addr) (ds' : List (List Int)), (∀ R : Addr → List Int → Prop, Paired R as ds → Paired R as' ds') → ds'.Perm ds → ds'.Pairwise (fun a b => enc a ≤ enc b) → ∀ l, H l = none → Q (.ref l) (upd H l (.lst (as'.map V.ref)))
theorem paired_mem {α β : Type} {R R' : α → β → Prop} : ∀ {as : List α} {ds : List β}, Paired R as ds → (∀ a b, b ∈ ds → R a b → R' a b) → Paired R' as ds
  | _, _, .nil, _ => .nil
  | _, _, .cons h t, hi => .cons (hi _ _ (List.mem_cons_self ..) h) (paired_mem t fun a b hb => hi a b (List.mem_cons_of_mem _ hb))
end L2
namespace L2
open PySem PySem.Spec PyProof.Rows
theorem Room.units2 {k : Nat} {A : Around} (r : Room k A) : A.units + 1 + (0 + 1) < cLine := by have := r.un; omega
end L2
namespace L2
open PySem PySem.Spec PyProof.Rows
theorem mt_appendR {X : Cx} : MtR X "list.append" rAppend := mt_append
end L2
namespace L2
open PySem PySem.Spec PyProof.Rows
theorem ints_paired {H : Hp} : ∀ d : List Int, Paired (rInt H) (d.map V.int) d
  | [] => .nil
  | _ :: t => .cons rfl (ints_paired t)
end L2

set_option Elab.async false
set_option linter.all false
set_option maxRecDepth 100000
set_option maxHeartbeats 1000000
namespace L2
open PySem PySem.Spec PyProof.Rows
def rKey : Hp → V → Key → Prop := fun _ x k => x = kV k
section
variable {X : Cx}
theorem ep_key : EqRep X 0 rKey where
  eq := fun H x y dx dy hx hy A pins s σ u v I ru rv hu => by
    subst hx hy
    rcases dx with i | i <;> rcases dy with j | j
    · obtain ⟨t, rfl⟩ := ru
      obtain ⟨t', rfl⟩ := rv
      have := SeqAt.EqAt.int_int (A := A) (s := s) i t j t'
      rw [show decide ((Sum.inl i : Key) = Sum.inl j) = (i == j) by rw [Bool.eq_iff_iff]; simp]
      exact this
    · obtain ⟨t, rfl⟩ := ru
      obtain ⟨t', rfl⟩ := rv
      have := SeqAt.EqAt.int_str (A := A) (s := s) i t j t'
      rw [decide_eq_false (fun z => nomatch z)]
      exact this
    · obtain ⟨t, rfl⟩ := ru
      obtain ⟨t', rfl⟩ := rv
      have := SeqAt.EqAt.str_int (A := A) (s := s) i t j t'
      rw [decide_eq_false (fun z => nomatch z)]
      exact this
    · obtain ⟨t, rfl⟩ := ru
      obtain ⟨t', rfl⟩ := rv
      have := SeqAt.EqAt.str_str (A := A) (s := s) i t j t'
      rw [show decide ((Sum.inr i : Key) = Sum.inr j) = (i == j) by rw [Bool.eq_iff_iff]; simp]
      exact this
  fn := fun _ _ _ _ x d d' _ h h' => by subst h; exact kV_inj h'
def inD (ds : List (List Key)) (d : List Key) : Bool := ds.any fun x => decide (x = d)
theorem inD_iff {ds : List (List Key)} {d : List Key} : inD ds d = true ↔ d ∈ ds := by
  unfold inD
  rw [List.any_eq_true]
  constructor
  · rintro ⟨x, hx, h⟩
    rw [← of_decide_eq_true h]
    exact hx
  · intro h
    exact ⟨d, h, decide_eq_true rfl⟩
def rInT (K : PySem.W.Frag) (neg : Bool) : R2 := fun x y H Q => ∃ (p b : Addr) (as : List Addr) (d : List Key) (ds : List (List Key)), x = .ref b ∧ y = .ref p ∧ SqL K H p (as.map V.ref) ∧ SqT K H b (d.map kV) ∧ Paired (fun a d => SqT K H a (d.map kV)) as ds ∧ Q (.bl (if neg then !inD ds d else inD ds d)) H
theorem keys_paired {H : Hp} : ∀ d : List Key, Paired (rKey H) (d.map kV) d
  | [] => .nil
  | _ :: t => .cons rfl (keys_paired t)
theorem in_tups {pins : List (Addr × Obj)} {σ : St} {H : Hp} {s : Shared} {b : Addr} {as : List Addr} {d : List Key} {ds : List (List Key)} {A : Around} (I : Inv X pins σ H s) (hb : SqT X.K H b (d.map kV)) (hp : Paired (fun a d => SqT X.K H a (d.map kV)) as ds)
    (hu : A.units + 1 < cLine) {its : List Value} (r : Vals (as.map V.ref) its) :
    ∃ e : Value → Bool, (∀ y, y ∈ its.toArray → SeqAt.EqAt A s y (.ref b) (e y)) ∧ its.toArray.any e = inD ds d := by
  have ep := ep_tup (X := X) ep_key
  have rd : ∀ (j : Nat) a, as[j]? = some a → ∃ d', ds[j]? = some d' ∧ SqT X.K H a (d'.map kV) := fun j a h => paired_at hp j a h
  have evs : its = as.map Value.ref := by
    have go : ∀ (as : List Addr) (vs : List Value), Vals (as.map V.ref) vs → vs = as.map Value.ref := by
      intro as
      induction as with
      | nil => intro vs r; cases r; rfl
      | cons a t ih =>
        intro vs r
        rw [List.map_cons] at r
        cases r with
        | cons r1 r2 => rw [show _ = Value.ref a from r1, ih _ r2]; rfl
    exact go as its r
  subst evs
  let e : Value → Bool := fun y => match y with
    | .ref a => (List.range as.length).any fun j => decide (as[j]? = some a) && decide (ds[j]? = some d)
    | _ => false
  have eR : ∀ a, e (.ref a) = true ↔ ∃ j : Nat, as[j]? = some a ∧ ds[j]? = some d := fun a => by
    show ((List.range as.length).any fun j => decide (as[j]? = some a) && decide (ds[j]? = some d)) = true ↔ _
    rw [List.any_eq_true]
    constructor
    · rintro ⟨j, _, h⟩
      rw [Bool.and_eq_true] at h
      exact ⟨j, of_decide_eq_true h.1, of_decide_eq_true h.2⟩
    · rintro ⟨j, h1, h2⟩
      exact ⟨j, List.mem_range.mpr (List.getElem?_eq_some_iff.mp h1).1, by rw [Bool.and_eq_true]; exact ⟨decide_eq_true h1, decide_eq_true h2⟩⟩
  have key : ∀ (j : Nat) a d', as[j]? = some a → ds[j]? = some d' → e (.ref a) = decide (d' = d) := fun j a d' h1 h2 => by
    rw [Bool.eq_iff_iff, eR, decide_eq_true_iff]
    constructor
    · rintro ⟨k, g1, g2⟩
      obtain ⟨d1, q1, s1⟩ := rd j a h1
      obtain ⟨d2, q2, s2⟩ := rd k a g1
      rw [h2] at q1
      rw [g2] at q2
      cases q1
      cases q2
      exact ep.fn pins s σ H (.ref a) _ _ I ⟨a, _, rfl, s1, keys_paired _⟩ ⟨a, _, rfl, s2, keys_paired _⟩
    · rintro rfl
      exact ⟨j, h1, h2⟩
  refine ⟨e, fun y hy => ?_, ?_⟩
  · have hy' : y ∈ as.map Value.ref := by simpa using hy
    obtain ⟨a, ha, rfl⟩ := List.mem_map.mp hy'
    obtain ⟨j, hj⟩ := List.getElem?_of_mem ha
    obtain ⟨d', q1, s1⟩ := rd j a hj
    rw [key j a d' hj q1]
    exact ep.eq H (.ref a) (.ref b) d' d ⟨a, _, rfl, s1, keys_paired _⟩ ⟨b, _, rfl, hb, keys_paired _⟩ A pins s σ (.ref a) (.ref b) I rfl rfl (by omega)
  · rw [Bool.eq_iff_iff, inD_iff, Array.any_eq_true']
    constructor
    · rintro ⟨y, hy, h⟩
      have hy' : y ∈ as.map Value.ref := by simpa using hy
      obtain ⟨a, ha, rfl⟩ := List.mem_map.mp hy'
      obtain ⟨j, _, h2⟩ := (eR a).mp h
      exact List.mem_of_getElem? h2
    · intro h
      obtain ⟨j, hj⟩ := List.getElem?_of_mem h
      have hl : as.length = ds.length := Paired.length hp
      have hj' := (List.getElem?_eq_some_iff.mp hj).1
      have ea : as[j]? = some (as[j]'(by omega)) := List.getElem?_eq_getElem (by omega)
      exact ⟨.ref (as[j]'(by omega)), by simp, (eR _).mpr ⟨j, ea, hj⟩⟩
theorem op_notInTK (K : PySem.W.Frag) (hu : X.A.units + 2 < cLine) (h : X.K = K := by rfl) : OpR X (compareOp .NotIn) (rInT K true) := by
  subst h
  intro pins s σ H x y v u Q I rx ry h
  obtain ⟨p, b, as, d, ds, rfl, rfl, hq, hb, hp, q⟩ := h
  cases rx
  cases ry
  obtain ⟨its, r, pl, hz⟩ := I.list hq
  obtain ⟨e, h1, h2⟩ := in_tups (A := X.A.in1) I hb hp (by show X.A.units + 1 + 1 < cLine; omega) r
  refine SeqAt.notIn_listAt e pl.isList h1 ⟨.bl _, H, I, rfl, ?_⟩
  rw [h2]
  exact q
theorem Room.unitsT {k : Nat} {A : Around} (r : Room k A) : A.units + 2 < cLine := by have := r.un; omega
end
end L2

set_option Elab.async false
set_option linter.all false
set_option maxRecDepth 100000
set_option maxHeartbeats 1000000
namespace L2
open PySem PySem.Spec PyProof.Rows
section
variable {X : Cx}
def rNeSame (K : PySem.W.Frag) : R2 := fun x y H Q => ∃ (a b : Addr) (xs : List V), x = .ref a ∧ y = .ref b ∧ SqL K H a (xs) ∧ SqL K H b xs ∧ (∀ x ∈ xs, ∃ c, x = .ref c) ∧ Q (.bl false) H
theorem op_neSameK (K : PySem.W.Frag) (hu : X.A.units < cLine) (h : X.K = K := by rfl) : OpR X (compareOp .NotEq) (rNeSame K) := by
  subst h
  intro pins s σ H x y v u Q I rx ry h
  obtain ⟨a, b, xs, rfl, rfl, ha, hb, hr, q⟩ := h
  cases rx
  cases ry
  obtain ⟨us, r1, p1, _⟩ := I.list ha
  obtain ⟨vs, r2, p2, _⟩ := I.list hb
  have e : us = vs := by
    have go : ∀ (xs : List V) (us vs : List Value), (∀ x ∈ xs, ∃ c, x = V.ref c) → Vals xs us → Vals xs vs → us = vs := by
      intro xs
      induction xs with
      | nil => intro us vs _ r r'; cases r; cases r'; rfl
      | cons x t ih =>
        intro us vs hx r r'
        obtain ⟨c, rfl⟩ := hx x (List.mem_cons_self ..)
        cases r with
        | cons q1 q2 =>
          cases r' with
          | cons q3 q4 => rw [show _ = Value.ref c from q1, show _ = Value.ref c from q3, ih _ _ (fun y hy => hx y (List.mem_cons_of_mem _ hy)) q2 q4]
    exact go xs us vs hr r1 r2
  subst e
  refine SeqAt.RcNeAt.lists (e := fun j => true) p1.isList p2.isList rfl (by omega) (fun j h1 h2 => SeqAt.EqAt.same _) X.prog X.w X.xe _ ?_
  have : ((List.range us.toArray.size).all fun _ => true) = true := by simp
  rw [this]
  exact ⟨.bl false, H, I, rfl, q⟩
theorem ipR_or : PIp X .BitOr (rI0 fun i j => .int (Builtin.bitOr i j)) := iop_or
theorem get_listK (K : PySem.W.Frag) (h : X.K = K := by rfl) : PGet X (fun x y H Q => ∃ p xs i z, x = .ref p ∧ y = .int i ∧ SqL K H p xs ∧ 0 ≤ i ∧ xs[i.toNat]? = some z ∧ Q z H) := by
  subst h
  intro pins s σ H x y v u Q I rx ry h
  obtain ⟨p, xs, i, z, rfl, rfl, hq, h0, he, q⟩ := h
  cases rx
  obtain ⟨t, rfl⟩ := ry
  obtain ⟨its, r, pl, hz⟩ := I.list hq
  obtain ⟨w, ew, rw'⟩ := r.get he
  have hl := r.length
  have hi := (List.getElem?_eq_some_iff.mp he).1
  have hn := line63
  exact wpAny_getItem_list pl.isList h0 (by omega) (by simpa using ew) ⟨z, H, I, rw', q⟩
end
end L2

set_option Elab.async false
set_option linter.all false
set_option maxRecDepth 100000
set_option maxHeartbeats 1000000
namespace L2
open PySem PySem.Spec PyProof.Rows
section
variable {X : Cx}
def CDivL (i j : Int) : Prop := 0 < j ∧ j < 18446744073709551616
theorem op_fdivL : OpR X (binaryOp .FloorDiv) (rI CDivL fun i j => .int (i / j)) := opI fun i j _ _ _ _ _ hc q => by
  have h1 : (0 : Int) < j := hc.1
  have h2 : j < 18446744073709551616 := hc.2
  refine floordiv_int (by omega) (by rw [Int.fdiv_eq_ediv_of_nonneg i (by omega)]; exact q) (.inl (PyProof.noPylong_of_log2 ?_))
  have h3 : j.natAbs < 2 ^ 64 := by omega
  have h4 : j.natAbs ≠ 0 := by omega
  have := (Nat.log2_lt h4).mpr h3
  omega
variable {δ : Type} [DecidableEq δ] {n : Nat} {R : Hp → V → δ → Prop}
theorem ep_lst (ep : EqRep X n R) : EqRep X (n + 1) (rLst X.K R) where
  eq := fun H x y dx dy hx hy A pins s σ u v I ru rv hu => by
    obtain ⟨a, xs, rfl, ha, px⟩ := hx
    obtain ⟨b, ys, rfl, hb, py⟩ := hy
    cases ru
    cases rv
    by_cases hab : a = b
    · subst hab
      have := I.list_inj ha hb
      subst this
      rw [paired_fn ep I px py, decide_eq_true rfl]
      exact SeqAt.EqAt.same _
    · obtain ⟨us, r1, p1, _⟩ := I.list ha
      obtain ⟨vs, r2, p2, _⟩ := I.list hb
      have l1 := r1.length
      have l2 := r2.length
      have l3 := Paired.length px
      have l4 := Paired.length py
      refine SeqAt.EqAt.of_refs hab ?_
      by_cases hl : dx.length = dy.length
      · have := SeqAt.RcAt.lists (A := A) (e := fun j => decide (dx[j]? = dy[j]?)) p1.isList p2.isList (by simp only [List.size_toArray]; omega) (by omega) (items_eq ep I px py r1 r2 (by show A.units + 1 + n < cLine; omega))
        rw [List.size_toArray, show us.length = dx.length by omega, all_dec dx dy hl] at this
        exact this
      · rw [decide_eq_false (fun z => hl (by rw [z]))]
        exact SeqAt.RcAt.lists_lengths p1.isList p2.isList (by simp only [List.size_toArray]; simpa using (by omega : us.length ≠ vs.length)) (by omega)
  fn := fun pins s σ H x d d' I h h' => by
    obtain ⟨a, xs, rfl, ha, px⟩ := h
    obtain ⟨b, ys, e, hb, py⟩ := h'
    cases e
    have := I.list_inj ha hb
    subst this
    exact paired_fn ep I px py
theorem ep_lstK (K : PySem.W.Frag) (ep : EqRep X n R) (h : X.K = K := by rfl) : EqRep X (n + 1) (rLst K R) := h ▸ ep_lst ep
end
end L2

set_option Elab.async false
set_option linter.all false
set_option maxRecDepth 100000
set_option maxHeartbeats 1000000
namespace L2
open PySem PySem.Spec PyProof.Rows
structure DefD (K : PySem.W.Frag) (mg : Str → Option Value) (x : Str) (st : Stmt) (ps : List Str) (dvs : List V) : Prop where
  ex : ∃ (f : Addr) (fd : FuncData), (∃ (oc : Value) (od : Option Addr) (dV kV doc pm : Value) (an : Option Addr) (cdv ct : Value) (osl : Array (Option Value)),
      fd = PySem.W.fnOf x x (defArgs st) (defBody st) (defScope st) dV kV doc pm an cdv ct ∧ K.lookup f = some ⟨oc, od, .func fd, osl⟩ ∧ PySem.W.codeIn K cdv x = true) ∧ PySem.W.keepIn K (.ref f) = true ∧
    (∀ m, m ≤ dvs.length → ∃ ds, Vals (dvs.drop m) ds ∧ Binds K fd ps ds) ∧ mg x = some (.ref f)
structure CalleeD (P : Program) (w : World) (K : PySem.W.Frag) (mg : Str → Option Value) (base : Heap) (k : Nat) (x : Str) (ps : List Str) (dvs : List V) (sp : Sp) : Prop where
  ex : ∃ (f : Addr) (fd : FuncData), FnOk P w K mg base CX0 k f fd ps sp ∧ (∀ m, m ≤ dvs.length → ∃ ds, Vals (dvs.drop m) ds ∧ Binds K fd ps ds) ∧ PySem.W.keepIn K (.ref f) = true ∧ mg x = some (.ref f)
section
variable {P : Program} {w : World} {K : PySem.W.Frag} {mg : Str → Option Value} {base : Heap}
theorem DefD.ok {x : Str} {st : Stmt} {N ps : List Str} {k : Nat} {dvs : List V} {sp : Sp} (D : DefD K mg x st ps dvs) (S : FnScope N ps (defScope st)) (len : ∀ vs H Q E, sp vs H Q E → vs.length = ps.length)
    (hbody : ∀ (f : Addr) (cdv : Value) (A : Around) (outer : List Env) (s : Shared) (H : Hp) (vs : List V) (Q : VK) (E : XK), Room k (A.deeper (envOfC x (defScope st) s.heap.objs.size f cdv)) → sp vs H Q E →
      ∃ t, PSs (cxOf CX0 P w K mg base N x (defScope st) f cdv A outer s H E).nox (defBody st) t ∧ t { nx := fun _ H' => Q .non H', rt := Q } (start N vs) H) : CalleeD P w K mg base (k + 1) x ps dvs sp := by
  obtain ⟨f, fd, ⟨oc, od, dV, kV, doc, pm, an, cdv, ct, osl, rfl, lk, hcd⟩, kp, b, m⟩ := D.ex
  refine ⟨f, _, fn_of lk hcd S len fun A outer s H vs Q E hr hsp => ?_, b, kp, m⟩
  obtain ⟨t, h, q⟩ := hbody f cdv A outer s H vs Q E hr hsp
  exact ⟨t, h.nox, q⟩
theorem CalleeD.all {x : Str} {ps : List Str} {k : Nat} {dvs : List V} {sp : Sp} (C : CalleeD P w K mg base k x ps dvs sp) : Callee P w K mg base k x ps sp := by
  obtain ⟨f, fd, F, b, kp, m⟩ := C.ex
  obtain ⟨ds, hv, hb⟩ := b dvs.length (Nat.le_refl _)
  rw [List.drop_length] at hv
  cases hv
  exact ⟨f, fd, F, hb, kp, m⟩
end
section
variable {X : Cx} {k n : Nat} {ps : List Str} {dvs : List V} {sp : Sp} {x : Str} {p pos : Pos} {e : Expr} {es : List Expr} {t : TA}
end
section
variable {X : Cx}
def RngO (l : Addr) (j : Int) : HO := .ext fun h => ∃ t u v, IsRange h l 0 j 1 t u v
def rRng : List V → Hp → VK → Prop := fun xs H Q => ∃ j : Int, xs = [.int j] ∧ ∀ l, H l = none → Q (.ref l) (upd H l (RngO l j))
def rOfRng : List V → Hp → VK → Prop := fun xs H Q => ∃ (l : Addr) (n : Nat), xs = [.ref l] ∧ H l = some (RngO l n) ∧ n ≤ 1000 ∧ ∀ t, H t = none → Q (.ref t) (upd H t (.lst ((List.range n).map fun (i : Nat) => V.int i)))
def rEqSame (K : PySem.W.Frag) : R2 := fun x y H Q => ∃ (a b : Addr) (xs : List V), x = .ref a ∧ y = .ref b ∧ SqL K H a (xs) ∧ SqL K H b xs ∧ (∀ x ∈ xs, ∃ c, x = .ref c) ∧ Q (.bl true) H
end
end L2

set_option Elab.async false
set_option linter.all false
set_option maxRecDepth 100000
set_option maxHeartbeats 1000000
namespace L2
open PySem PyProof.Rows
def BestAt (kf : Nat → Int) (j : Nat) : Option Nat → Prop
  | none => j = 0
  | some i => i < j ∧ ∀ j', j' < j → kf i ≤ kf j' ∧ (j' < i → kf i < kf j')
def KeptAt (vs : List Value) (kf : Nat → Int) (xs : Array Value) : Option Nat → Prop
  | none => xs = #[]
  | some i => ∃ v t, vs[i]? = some v ∧ xs = #[v, .int (kf i) t]
theorem best_take {kf : Nat → Int} {j i : Nat} (b : BestAt kf j (some i)) (h : kf j < kf i) : BestAt kf (j + 1) (some j) := by
  refine ⟨Nat.lt_succ_self _, fun j' hj' => ?_⟩
  by_cases e : j' = j
  · subst e
    exact ⟨Int.le_refl _, fun z => absurd z (Nat.lt_irrefl _)⟩
  · have := (b.2 j' (by omega)).1
    exact ⟨by omega, fun _ => by omega⟩
theorem best_stay {kf : Nat → Int} {j i : Nat} (b : BestAt kf j (some i)) (h : ¬ kf j < kf i) : BestAt kf (j + 1) (some i) := by
  refine ⟨Nat.lt_succ_of_lt b.1, fun j' hj' => ?_⟩
  by_cases e : j' = j
  · subst e
    have := b.1
    exact ⟨by omega, fun z => by omega⟩
  · exact b.2 j' (by omega)
theorem best_first {kf : Nat → Int} : BestAt kf 1 (some 0) := ⟨Nat.one_pos, fun j' hj' => by
  have e : j' = 0 := by omega
  subst e
  exact ⟨Int.le_refl _, fun z => absurd z (Nat.lt_irrefl _)⟩⟩
section
variable {prog : Program} {w : World} {A : Around} {E : Value → Shared → Prop} {s : Shared} {R : Result → Shared → Prop}
abbrev kwD : List (Str × Value) := [(Str.ofString "default", .none)]
set_option maxHeartbeats 4000000 in
theorem min_turns {h0 : Heap} {l I S : Addr} {vs : List Value} (kf : Nat → Int) (hh : A.handled = none) (hlI : l ≠ I) (hSI : S ≠ I) (fI : h0.get? I = none) (fS : h0.get? S = none) (hl : h0.IsList l vs.toArray)
    (hv : ∀ i v, vs[i]? = some v → ∃ (p : Addr) (its : Array Value), v = .ref p ∧ h0.IsList p its ∧ ((its.size : Nat) : Int) = kf i ∧ ((its.size : Nat) : Int) < 2 ^ 63)
    (hR : ∀ (cur : Option Nat) (h' : Heap) (tk : Nat), BestAt kf vs.length cur → (∀ b o, h0.get? b = some o → h'.get? b = some o) → R (.ok (.ret ((cur.bind fun i => vs[i]?).getD .none))) { s with heap := h', toks := tk }) :
    ∀ (r j : Nat) (cur : Option Nat) (h : Heap) (tk c : Nat) (xs : Array Value), vs.length - j = r → j ≤ vs.length → (∀ b o, h0.get? b = some o → h.get? b = some o) → h.get? S = some (seqObj "list" xs c) → KeptAt vs kf xs cur → BestAt kf j cur → h.IsListIter I l j →
      codeAny (model prog w) A (.builtin "min.loop" ⟨[.ref I, .builtin "len", .ref S], kwD⟩) R { s with heap := h, toks := tk } := by
  have nm : (toString "min" ++ toString ".loop" : String) = "min.loop" := by decide
  have W := Walks.list (prog := prog) (w := w) (A := A.in1) hh I l hlI vs.toArray
  have sz : vs.toArray.size = vs.length := List.size_toArray ..
  intro r
  induction r with
  | zero =>
    intro j cur h tk c xs hr hj kp gS ka ba it
    obtain rfl : j = vs.length := by omega
    refine codeAny_builtin PySem.F.entry_min_loop ?_
    rw [Around.under_plainId PySem.F.plain_min_loop _]
    show wpAny _ A.in1 (seqItems? (.ref S) >>= _) _ _ _
    refine wpAny_bind (wpAny_seqItems gS rfl ?_)
    show wpAny _ A.in1 (tryCatch (pyNext (.ref I)) _ >>= _) _ _ _
    have hl1 : h.IsList l vs.toArray := hl.at fun o e => kp _ _ e
    refine wpAny_bind (wpAny_tryCatch (W.done _ _ _ ⟨by rw [sz]; exact it, hl1⟩ fun h1 tk1 k1 => ?_))
    have kp1 : ∀ b o, h0.get? b = some o → h1.get? b = some o := fun b o e => k1 b o (by
      rw [List.mem_singleton]
      rintro rfl
      rw [fI] at e
      cases e) (kp b o e)
    cases cur with
    | none =>
      cases (show xs = #[] from ka)
      show wpAny _ A.in1 (rule _ >>= fun _ => ret Value.none) _ _ _
      exact wpAny_bind (wpAny_rule (wpAny_pure (hR none h1 tk1 ba kp1)))
    | some i =>
      obtain ⟨v, t, ev, rfl⟩ := ka
      have gS1 : h1.get? S = some (seqObj "list" #[v, .int (kf i) t] c) := k1 S _ (by rw [List.mem_singleton]; exact hSI) gS
      show wpAny _ A.in1 (updateSeq S (fun _ => #[]) >>= _) _ _ _
      refine wpAny_bind (wpAny_updateSeq gS1 rfl (wpAny_bind (wpAny_letGo (wpAny_pure ?_))))
      have sb := Heap.SameBut.update h1 S (Obj.mapSeq fun _ => (#[] : Array Value))
      have := hR (some i) (h1.update S (Obj.mapSeq fun _ => (#[] : Array Value))) tk1 ba (fun b o e => by
        have : b ≠ S := by
          rintro rfl
          rw [fS] at e
          cases e
        rw [sb.2 b this]
        exact kp1 b o e)
      rw [show ((some i : Option Nat).bind fun i => vs[i]?).getD .none = v by rw [Option.bind_some, ev]; rfl] at this
      exact this
  | succ r ih =>
    intro j cur h tk c xs hr hj kp gS ka ba it
    have hlt : j < vs.length := by omega
    refine codeAny_builtin PySem.F.entry_min_loop ?_
    rw [Around.under_plainId PySem.F.plain_min_loop _]
    show wpAny _ A.in1 (seqItems? (.ref S) >>= _) _ _ _
    refine wpAny_bind (wpAny_seqItems gS rfl ?_)
    show wpAny _ A.in1 (tryCatch (pyNext (.ref I)) _ >>= _) _ _ _
    have hl1 : h.IsList l vs.toArray := hl.at fun o e => kp _ _ e
    refine wpAny_bind (wpAny_tryCatch (W.item j _ _ _ (by rw [sz]; exact hlt) ⟨it, hl1⟩ fun v h1 tk1 pv st1 k1 => ?_))
    have ev : vs[j]? = some v := by simpa using pv
    have kp1 : ∀ b o, h0.get? b = some o → h1.get? b = some o := fun b o e => k1 b o (by
      rw [List.mem_singleton]
      rintro rfl
      rw [fI] at e
      cases e) (kp b o e)
    have gS1 : h1.get? S = some (seqObj "list" xs c) := k1 S _ (by rw [List.mem_singleton]; exact hSI) gS
    obtain ⟨p, its, rfl, lp, lk, l63⟩ := hv j v ev
    show wpAny _ A.in1 (tryCatch (holding [Value.ref p] (call (.builtin "len") [Value.ref p])) _ >>= _) _ _ _
    refine wpAny_bind (wpAny_tryCatch (wpAny_holding (Calls.call_len_list (lp.at fun o e => kp1 _ _ e) l63 ?_)))
    rw [lk]
    have frame : ∀ (ys : Array Value), (∀ b o, h0.get? b = some o → (h1.update S (Obj.mapSeq fun _ => ys)).get? b = some o) ∧ (h1.update S (Obj.mapSeq fun _ => ys)).IsListIter I l (j + 1) := fun ys => by
      have sb := Heap.SameBut.update h1 S (Obj.mapSeq fun _ => ys)
      refine ⟨fun b o e => ?_, ?_⟩
      · have : b ≠ S := by
          rintro rfl
          rw [fS] at e
          cases e
        rw [sb.2 b this]
        exact kp1 b o e
      · exact st1.1.at fun o e => by rw [sb.2 I (Ne.symm hSI)]; exact e
    cases cur with
    | none =>
      cases (show xs = #[] from ka)
      obtain rfl : j = 0 := ba
      show wpAny _ A.in1 (updateSeq S (fun _ => #[Value.ref p, .int (kf 0) (tk1 + 1)]) >>= _) _ _ _
      refine wpAny_bind (wpAny_updateSeq gS1 rfl ?_)
      rw [nm]
      exact wpAny_pure ⟨plainId_quiet PySem.F.plain_min_loop _, ih 1 (some 0) _ _ _ _ (by omega) (by omega) (frame _).1 (get?_update_seq gS1 _) ⟨_, _, ev, rfl⟩ best_first (frame _).2⟩
    | some i =>
      obtain ⟨vb, tb, evb, rfl⟩ := ka
      show wpAny _ A.in1 (tryCatch (holding [Value.ref p, .int (kf j) (tk1 + 1)] (richCompare .Lt (.int (kf j) (tk1 + 1)) (.int (kf i) tb) >>= _)) _ >>= _) _ _ _
      refine wpAny_bind (wpAny_tryCatch (wpAny_holding (wpAny_bind (CmpOf.ints_lt (prog := prog) (w := w) (A := A.in1) (P := fun i v => ∃ t, v = .int (kf i) t) kf (fun i v z => z) j i _ _ _ _ _ ⟨_, rfl⟩ ⟨_, rfl⟩ ?_))))
      refine wpAny_bind (wpAny_holding (wpAny_truthy_bool ?_))
      refine wpAny_bind (wpAny_letGo (wpAny_pure ?_))
      by_cases less : kf j < kf i
      · simp only [less, decide_true, if_true]
        refine wpAny_bind (wpAny_updateSeq gS1 rfl (wpAny_bind (wpAny_letGo ?_)))
        rw [nm]
        exact wpAny_pure ⟨plainId_quiet PySem.F.plain_min_loop _, ih (j + 1) (some j) _ _ _ _ (by omega) (by omega) (frame _).1 (get?_update_seq gS1 _) ⟨_, _, ev, rfl⟩ (best_take ba less) (frame _).2⟩
      · simp only [less, decide_false, Bool.false_eq_true, if_false]
        refine wpAny_bind (wpAny_letGo ?_)
        rw [nm]
        exact wpAny_pure ⟨plainId_quiet PySem.F.plain_min_loop _, ih (j + 1) (some i) _ _ _ _ (by omega) (by omega) kp1 gS1 ⟨_, _, evb, rfl⟩ (best_stay ba less) st1.1⟩
theorem args_min_kd (a v d : Value) : argsOk "min" ⟨[a], [(Str.ofString "key", v), (Str.ofString "default", d)]⟩ := by unfold argsOk; kernel_rfl
theorem min_len {l : Addr} {vs : List Value} {Q : Value → Shared → Prop} (kf : Nat → Int) (hh : A.handled = none) (hl : s.heap.IsList l vs.toArray)
    (hv : ∀ i v, vs[i]? = some v → ∃ (p : Addr) (its : Array Value), v = .ref p ∧ s.heap.IsList p its ∧ ((its.size : Nat) : Int) = kf i ∧ ((its.size : Nat) : Int) < 2 ^ 63)
    (hQ : ∀ (cur : Option Nat) (h' : Heap) (tk : Nat), BestAt kf vs.length cur → (∀ b o, s.heap.get? b = some o → h'.get? b = some o) → Q ((cur.bind fun i => vs[i]?).getD .none) { s with heap := h', toks := tk }) :
    wpAny (model prog w) A (call (.builtin "min") [.ref l] [(Str.ofString "key", .builtin "len"), (Str.ofString "default", .none)]) Q E s := by
  have nm : (toString "min" ++ toString ".loop" : String) = "min.loop" := by decide
  obtain ⟨ol, gl, _⟩ := id hl
  have ll : l < s.heap.objs.size := Heap.lt_size gl
  refine kmb_tree PySem.F.kind_min PySem.F.plain_min PySem.F.entry_min (args_min_kd _ _ _) ?_
  show wpAny _ A.in1 (Builtin.Builtins.bindParams "min" ["key", "default"] 0 ⟨[], [(Str.ofString "key", .builtin "len"), (Str.ofString "default", .none)]⟩ >>= _) _ _ s
  refine wpAny_bind (wpAny_of_eq (show Builtin.Builtins.bindParams "min" ["key", "default"] 0 ⟨[], [(Str.ofString "key", .builtin "len"), (Str.ofString "default", .none)]⟩ = pure [some (.builtin "len"), some .none] from rfl) ?_)
  refine wpAny_bind (wpAny_pure (wpAny_bind (wpAny_pyIter_list hl (wpAny_bind (wpAny_newList ?_ (Nat.zero_le _))))))
  rw [nm]
  have zS : (s.heap.push { cls := .type "list_iterator", data := .fields #[.ref l, .int 0 0] }).objs.size = s.heap.objs.size + 1 := size_push' ..
  refine wpAny_pure ⟨plainId_quiet PySem.F.plain_min_loop _, ?_⟩
  refine min_turns (s := s) (h0 := s.heap) kf hh (Nat.ne_of_lt ll) (show (s.heap.push { cls := .type "list_iterator", data := .fields #[.ref l, .int 0 0] }).objs.size ≠ s.heap.objs.size from by rw [zS]; exact Nat.succ_ne_self _) (Heap.get?_none_of_le (Nat.le_refl _)) (Heap.get?_none_of_le (by rw [zS]; exact Nat.le_succ _)) hl hv hQ _ 0 none _ _ 0 #[] rfl (Nat.zero_le _) (fun b o e => Heap.get?_push_of_some _ (Heap.get?_push_of_some _ e)) (Heap.get?_push_size _ rfl) rfl rfl ⟨_, Heap.get?_push_of_some _ (Heap.get?_push_size _ rfl), rfl, rfl⟩
end
end L2
namespace L2
open PySem PySem.Spec PyProof.Rows
section
variable {X : Cx} {e : Expr} {t : TA} {p p1 p2 k1 k2 pos : Pos} {j : Nat}
def RowsL (K : PySem.W.Frag) (H : Hp) : List Addr → List (List V) → Prop := Paired fun r row => SqL K H r row
def rowLen (rows : List (List V)) (i : Nat) : Int := ((rows.getD i []).length : Nat)
def tMinL (K : PySem.W.Frag) (t : TA) : TE := fun σ H Q => t σ H fun vs H1 => ∃ (l : Addr) (rs : List Addr) (rows : List (List V)), vs = [.ref l] ∧ SqL K H1 l (rs.map V.ref) ∧ RowsL K H1 rs rows ∧ (rs = [] → Q .non H1) ∧
  ∀ (i : Nat) (r : Addr), rs[i]? = some r → (∀ j, j < rs.length → rowLen rows i ≤ rowLen rows j ∧ (j < i → rowLen rows i < rowLen rows j)) → Q (.ref r) H1
theorem pe_minLen (K : PySem.W.Frag) (hc : X.calm = true) (hg : Gl X "min") (hm : X.mg "min" = none) (hgl : Gl X "len") (hml : X.mg "len" = none) (ha : PA X [e] t) (hK : X.K = K := by rfl)
    (he : starEach [e] X.env = (false, eval e X.env) :: starEach [] X.env := by rfl) (hall : (backToKw pos (keywordEach [⟨some "key", .Name "len" p1, k1⟩, ⟨some "default", .Constant .none j p2, k2⟩] X.env)).all (·.1.isSome) = true := by rfl)
    (hks : (backToKw pos (keywordEach [⟨some "key", .Name "len" p1, k1⟩, ⟨some "default", .Constant .none j p2, k2⟩] X.env)).filterMap (·.1) = [Str.ofString "key", Str.ofString "default"] := by rfl)
    (hkn : (backToKw pos (keywordEach [⟨some "key", .Name "len" p1, k1⟩, ⟨some "default", .Constant .none j p2, k2⟩] X.env)).any (·.1.isNone) = false := by rfl)
    (hpl : (backTo pos (starEach [e] X.env)).any (·.1) = false := by rfl) :
    PE X (.Call (.Name "min" p) [e] [⟨some "key", .Name "len" p1, k1⟩, ⟨some "default", .Constant .none j p2, k2⟩] pos) (tMinL K t) := by
  subst hK
  intro pins s σ H Q I h
  refine wpAny_Call_Name_kw (ld_blt I hg hm boot_min ?_ (by decide) (by decide))
  refine callWith_builtin_kwB hpl hkn ?_
  refine PyProof.Rows.evalArgs_kw2 hall (thn (ha pos pins s σ H _ I h) fun us s1 ⟨vs, H1, I1, r1, q1⟩ => ?_) he
  refine kws_cons (ld_blt I1 hgl hml PySem.boot_len (kws_cons (Constant_none (kws_nil ?_))))
  rw [hks]
  obtain ⟨l, rs, rows, rfl, hl, hr, q0, qi⟩ := q1
  obtain ⟨u, rfl, rx⟩ := vals1 r1
  cases rx
  obtain ⟨its, rv, pl, hz⟩ := I1.list hl
  have ln := rv.length
  rw [List.length_map] at ln
  have at1 : ∀ i v, its[i]? = some v → ∃ r row, rs[i]? = some r ∧ rows[i]? = some row ∧ v = Value.ref r ∧ SqL X.K H1 r row := fun i v hv => by
    have hi := (List.getElem?_eq_some_iff.mp hv).1
    have er : rs[i]? = some (rs[i]'(by omega)) := List.getElem?_eq_getElem _
    obtain ⟨row, e1, e2⟩ := paired_at hr i _ er
    have em : (rs.map V.ref)[i]? = some (V.ref (rs[i]'(by omega))) := by rw [List.getElem?_map, er]; rfl
    obtain ⟨u, w1, w2⟩ := rv.get em
    rw [hv] at w1
    cases w1
    exact ⟨_, row, er, e1, w2, e2⟩
  show wpAny _ _ (call (.builtin "min") [.ref l] [(Str.ofString "key", .builtin "len"), (Str.ofString "default", .none)]) _ _ _
  refine min_len (rowLen rows) (I1.ok.hd hc) pl.isList (fun i v hv => ?_) fun cur h' tk ba kp => ?_
  · obtain ⟨r, row, e1, e2, rfl, hq⟩ := at1 i v hv
    obtain ⟨ys, rv2, pl2, hz2⟩ := I1.list hq
    have l2 := rv2.length
    have hn := line63
    refine ⟨r, ys.toArray, rfl, pl2.isList, ?_, by rw [List.size_toArray]; omega⟩
    unfold rowLen
    rw [List.getD, e2, List.size_toArray, ← l2]
    rfl
  · have I2 : Inv X pins σ H1 { s1 with heap := h', toks := tk } := I1.kept fun b o e => kp b o e
    cases cur with
    | none =>
      have z : its.length = 0 := ba
      have : rs = [] := List.length_eq_zero_iff.mp (by omega)
      exact ⟨.non, H1, I2, rfl, q0 this⟩
    | some i =>
      have hi : i < its.length := ba.1
      obtain ⟨r, row, e1, e2, e3, hq⟩ := at1 i _ (List.getElem?_eq_getElem hi)
      have : ((some i : Option Nat).bind fun i => its[i]?).getD .none = Value.ref r := by
        rw [Option.bind_some, List.getElem?_eq_getElem hi, e3]
        rfl
      rw [this]
      exact ⟨.ref r, H1, I2, rfl, qi i r e1 fun j hj => ba.2 j (by omega)⟩
end
end L2

set_option Elab.async false
set_option linter.all false
set_option maxRecDepth 100000
set_option maxHeartbeats 1000000
namespace L2
open PySem PySem.Spec PyProof.Rows
section
variable {X : Cx}
def rNeNil (K : PySem.W.Frag) : R2 := fun x y H Q => ∃ (a b : Addr) (xs : List V), x = .ref a ∧ y = .ref b ∧ SqL K H a xs ∧ SqL K H b [] ∧ Q (.bl (!decide (xs = []))) H
theorem op_neNilK (K : PySem.W.Frag) (hu : X.A.units < cLine) (h : X.K = K := by rfl) : OpR X (compareOp .NotEq) (rNeNil K) := by
  subst h
  intro pins s σ H x y v u Q I rx ry h
  obtain ⟨a, b, xs, rfl, rfl, ha, hb, q⟩ := h
  cases rx
  cases ry
  obtain ⟨us, r1, p1, _⟩ := I.list ha
  obtain ⟨vs, r2, p2, _⟩ := I.list hb
  cases r2
  have l1 := r1.length
  cases xs with
  | nil =>
    cases r1
    refine SeqAt.RcNeAt.lists (e := fun j => true) p1.isList p2.isList rfl (by omega) (fun j h1 h2 => absurd h1 (by simp)) X.prog X.w X.xe _ ?_
    exact ⟨.bl false, H, I, rfl, q⟩
  | cons x t =>
    refine SeqAt.RcNeAt.lists_lengths p1.isList p2.isList (by simp only [List.size_toArray]; rw [← l1]; simp) (by omega) X.prog X.w X.xe _ ?_
    exact ⟨.bl true, H, I, rfl, q⟩
def rEqNil (K : PySem.W.Frag) : R2 := fun x y H Q => ∃ (a b : Addr) (xs : List V), x = .ref a ∧ y = .ref b ∧ SqL K H a xs ∧ SqL K H b [] ∧ Q (.bl (decide (xs = []))) H
end
end L2

set_option Elab.async false
set_option linter.all false
set_option maxRecDepth 100000
set_option maxHeartbeats 1000000
namespace L2
open PySem PySem.Spec PyProof.Rows
section
variable {X : Cx} {δ : Type} [DecidableEq δ] {n : Nat} {R : Hp → V → δ → Prop}
def inR (ds : List δ) (d : δ) : Bool := ds.any fun x => decide (x = d)
theorem inR_iff {ds : List δ} {d : δ} : inR ds d = true ↔ d ∈ ds := by
  unfold inR
  rw [List.any_eq_true]
  constructor
  · rintro ⟨x, hx, h⟩
    rw [← of_decide_eq_true h]
    exact hx
  · intro h
    exact ⟨d, h, decide_eq_true rfl⟩
def rInR (K : PySem.W.Frag) (R : Hp → V → δ → Prop) (neg : Bool) : R2 := fun x y H Q => ∃ (p : Addr) (as : List Addr) (d : δ) (ds : List δ), y = .ref p ∧ SqL K H p (as.map V.ref) ∧ R H x d ∧ Paired (fun a d => R H (.ref a) d) as ds ∧ Q (.bl (if neg then !inR ds d else inR ds d)) H
theorem in_reps (ep : EqRep X n R) {pins : List (Addr × Obj)} {σ : St} {H : Hp} {s : Shared} {x : V} {u : Value} {as : List Addr} {d : δ} {ds : List δ} {A : Around} (I : Inv X pins σ H s) (hb : R H x d) (ru : RelV x u) (hp : Paired (fun a d => R H (.ref a) d) as ds)
    (hu : A.units + n < cLine) {its : List Value} (r : Vals (as.map V.ref) its) :
    ∃ e : Value → Bool, (∀ y, y ∈ its.toArray → SeqAt.EqAt A s y u (e y)) ∧ its.toArray.any e = inR ds d := by
  have rd : ∀ (j : Nat) a, as[j]? = some a → ∃ d', ds[j]? = some d' ∧ R H (.ref a) d' := fun j a h => paired_at hp j a h
  have evs : its = as.map Value.ref := by
    have go : ∀ (as : List Addr) (vs : List Value), Vals (as.map V.ref) vs → vs = as.map Value.ref := by
      intro as
      induction as with
      | nil => intro vs r; cases r; rfl
      | cons a t ih =>
        intro vs r
        rw [List.map_cons] at r
        cases r with
        | cons r1 r2 => rw [show _ = Value.ref a from r1, ih _ r2]; rfl
    exact go as its r
  subst evs
  let e : Value → Bool := fun y => match y with
    | .ref a => (List.range as.length).any fun j => decide (as[j]? = some a) && decide (ds[j]? = some d)
    | _ => false
  have eR : ∀ a, e (.ref a) = true ↔ ∃ j : Nat, as[j]? = some a ∧ ds[j]? = some d := fun a => by
    show ((List.range as.length).any fun j => decide (as[j]? = some a) && decide (ds[j]? = some d)) = true ↔ _
    rw [List.any_eq_true]
    constructor
    · rintro ⟨j, _, h⟩
      rw [Bool.and_eq_true] at h
      exact ⟨j, of_decide_eq_true h.1, of_decide_eq_true h.2⟩
    · rintro ⟨j, h1, h2⟩
      exact ⟨j, List.mem_range.mpr (List.getElem?_eq_some_iff.mp h1).1, by rw [Bool.and_eq_true]; exact ⟨decide_eq_true h1, decide_eq_true h2⟩⟩
  have key : ∀ (j : Nat) a d', as[j]? = some a → ds[j]? = some d' → e (.ref a) = decide (d' = d) := fun j a d' h1 h2 => by
    rw [Bool.eq_iff_iff, eR, decide_eq_true_iff]
    constructor
    · rintro ⟨k, g1, g2⟩
      obtain ⟨d1, q1, s1⟩ := rd j a h1
      obtain ⟨d2, q2, s2⟩ := rd k a g1
      rw [h2] at q1
      rw [g2] at q2
      cases q1
      cases q2
      exact ep.fn pins s σ H (.ref a) _ _ I s1 s2
    · rintro rfl
      exact ⟨j, h1, h2⟩
  refine ⟨e, fun y hy => ?_, ?_⟩
  · have hy' : y ∈ as.map Value.ref := by simpa using hy
    obtain ⟨a, ha, rfl⟩ := List.mem_map.mp hy'
    obtain ⟨j, hj⟩ := List.getElem?_of_mem ha
    obtain ⟨d', q1, s1⟩ := rd j a hj
    rw [key j a d' hj q1]
    exact ep.eq H (.ref a) x d' d s1 hb A pins s σ (.ref a) u I rfl ru hu
  · rw [Bool.eq_iff_iff, inR_iff, Array.any_eq_true']
    constructor
    · rintro ⟨y, hy, h⟩
      have hy' : y ∈ as.map Value.ref := by simpa using hy
      obtain ⟨a, ha, rfl⟩ := List.mem_map.mp hy'
      obtain ⟨j, _, h2⟩ := (eR a).mp h
      exact List.mem_of_getElem? h2
    · intro h
      obtain ⟨j, hj⟩ := List.getElem?_of_mem h
      have hl : as.length = ds.length := Paired.length hp
      have hj' := (List.getElem?_eq_some_iff.mp hj).1
      have ea : as[j]? = some (as[j]'(by omega)) := List.getElem?_eq_getElem (by omega)
      exact ⟨.ref (as[j]'(by omega)), by simp, (eR _).mpr ⟨j, ea, hj⟩⟩
theorem op_notInRK (K : PySem.W.Frag) (ep : EqRep X n R) (hu : X.A.units + 1 + n < cLine) (h : X.K = K := by rfl) : OpR X (compareOp .NotIn) (rInR K R true) := by
  subst h
  intro pins s σ H x y v u Q I rx ry h
  obtain ⟨p, as, d, ds, rfl, hq, hb, hp, q⟩ := h
  cases ry
  obtain ⟨its, r, pl, hz⟩ := I.list hq
  obtain ⟨e, h1, h2⟩ := in_reps (A := X.A.in1) ep I hb rx hp (by show X.A.units + 1 + n < cLine; omega) r
  refine SeqAt.notIn_listAt e pl.isList h1 ⟨.bl _, H, I, rfl, ?_⟩
  rw [h2]
  exact q
theorem op_notInLK (K : PySem.W.Frag) (hu : X.A.units + 2 < cLine) (h : X.K = K := by rfl) : OpR X (compareOp .NotIn) (rInR K (rLst K rInt) true) := op_notInRK K (ep_lstK K ep_int h) (by omega) h
end
def rCal (K : PySem.W.Frag) : Hp → V → Int × List Int × Int → Prop := fun H x d => ∃ a e, x = .ref a ∧ SqT K H a [.int d.1, .ref e, .int d.2.2] ∧ SqT K H e (d.2.1.map V.int)
section
variable {X : Cx}
def eqC (d d' : Int × List Int × Int) (j : Nat) : Bool := match j with
  | 0 => decide (d.1 = d'.1)
  | 1 => decide (d.2.1 = d'.2.1)
  | _ => decide (d.2.2 = d'.2.2)
theorem all_eqC (d d' : Int × List Int × Int) : ((List.range 3).all (eqC d d')) = decide (d = d') := by
  obtain ⟨a, b, c⟩ := d
  obtain ⟨a', b', c'⟩ := d'
  rw [Bool.eq_iff_iff, decide_eq_true_iff, List.all_eq_true]
  constructor
  · intro q
    have h0 := of_decide_eq_true (q 0 (by decide))
    have h1 := of_decide_eq_true (q 1 (by decide))
    have h2 := of_decide_eq_true (q 2 (by decide))
    simp only at h0 h1 h2
    rw [h0, h1, h2]
  · intro z i hi
    injection z with z1 z2
    injection z2 with z2 z3
    subst z1 z2 z3
    match i with
    | 0 => exact decide_eq_true rfl
    | 1 => exact decide_eq_true rfl
    | _ + 2 => exact decide_eq_true rfl
def rNeC (K : PySem.W.Frag) : R2 := fun x y H Q => ∃ d d', rCal K H x d ∧ rCal K H y d' ∧ Q (.bl (!decide (d = d'))) H
theorem op_neCK (K : PySem.W.Frag) (hu : X.A.units + 2 < cLine) (h : X.K = K := by rfl) : OpR X (compareOp .NotEq) (rNeC K) := by
  subst h
  intro pins s σ H x y v u Q I rx ry h
  obtain ⟨d, d', ⟨a, e, rfl, ha, he⟩, ⟨b, e', rfl, hb, he'⟩, q⟩ := h
  cases rx
  cases ry
  obtain ⟨us, r1, p1, _⟩ := I.tuple ha
  obtain ⟨vs, r2, p2, _⟩ := I.tuple hb
  cases r1 with
  | cons r10 r1 =>
  cases r1 with
  | cons r11 r1 =>
  cases r1 with
  | cons r12 r1 =>
  cases r1
  cases r2 with
  | cons r20 r2 =>
  cases r2 with
  | cons r21 r2 =>
  cases r2 with
  | cons r22 r2 =>
  cases r2
  have := SeqAt.RcNeAt.tuples (A := X.A) (e := eqC d d') p1 p2 (by omega) (fun j h1 h2 => by
    match j, h1, h2 with
    | 0, _, _ => exact ep_int.eq H _ _ d.1 d'.1 rfl rfl X.A.in1 pins s σ _ _ I r10 r20 (by show X.A.units + 1 + 0 < cLine; omega)
    | 1, _, _ => exact (ep_tup ep_int).eq H _ _ d.2.1 d'.2.1 ⟨e, _, rfl, he, ints_paired _⟩ ⟨e', _, rfl, he', ints_paired _⟩ X.A.in1 pins s σ _ _ I r11 r21 (by show X.A.units + 1 + 1 < cLine; omega)
    | 2, _, _ => exact ep_int.eq H _ _ d.2.2 d'.2.2 rfl rfl X.A.in1 pins s σ _ _ I r12 r22 (by show X.A.units + 1 + 0 < cLine; omega))
  refine this X.prog X.w X.xe _ ?_
  have e3 : ((List.range 3).all (eqC d d') && (3 == 3)) = decide (d = d') := by rw [all_eqC]; simp
  exact ⟨.bl _, H, I, rfl, by rw [← e3] at q; exact q⟩
end
end L2

set_option Elab.async false
set_option linter.all false
set_option maxRecDepth 100000
set_option maxHeartbeats 1000000
namespace My
open PySem L2 PyProof.Rows
seal PE PT PW PA PS PSs PG PGs PI PIfs PO OpR UnR CallR TruR IxR SlR MtR MtM PSet PGet PIp PC
def top (i : Nat) : Stmt := PySem.Challenge.pw_crossracks_k16_whole_paper_of_ways.main.body.getD i (.Pass ⟨0, 0, 0, 0⟩)
structure Txt (K : PySem.W.Frag) (mg : Str → Option Value) : Prop where
  m_len : mg "len" = none
  m_isinstance : mg "isinstance" = none
  m_int : mg "int" = none
  m_bool : mg "bool" = none
  m_tuple : mg "tuple" = none
  m_list : mg "list" = none
  m_set : mg "set" = none
  m_sorted : mg "sorted" = none
  m_divmod : mg "divmod" = none
  m_range : mg "range" = none
  m_abs : mg "abs" = none
  m_min : mg "min" = none
  m_any : mg "any" = none
  m_sum : mg "sum" = none
def cell (ns : List Int) (k : Nat) : Int := ns.getD k 0
theorem at_nat {ns : List Int} {k : Nat} (h : k < ns.length) : atI (ns.map V.int) (k : Int) = some (.int (cell ns k)) := atI_nat (by
  rw [List.getElem?_map, List.getElem?_eq_getElem h]
  simp [cell, List.getD, h])
theorem same_new {H : Hp} {p : Addr} (h : H p = none) (o : HO) : Same H (upd H p o) := fun b u q => by rw [upd_ne (ne_of_none q h)]; exact q
theorem Same.put {H H' : Hp} {l : Addr} {o : HO} (s : Same H H') (hl : H l = none) : Same H (upd H' l o) := fun b u q => by
  rw [upd_ne (ne_of_none q hl)]
  exact s b u q
def spCell (K : PySem.W.Frag) : Sp := fun vs H Q _ => ∃ (a : Addr) (ns : List Int) (k : Nat), vs = [.ref a, .int k] ∧ SqL K H a (ns.map V.int) ∧ Q (.int (cell ns k)) H
def spI (f : Int → Int) : Sp := fun vs H Q _ => ∃ c : Int, vs = [.int c] ∧ Q (.int (f c)) H
def spLaw (K : PySem.W.Frag) : Sp := fun vs H Q _ => ∃ (a : Addr) (ns : List Int), vs = [.ref a] ∧ SqL K H a (ns.map V.int) ∧ ns.length ≤ 63 ∧ ∀ H', Q (.bl true) H'
structure Hall where
  i : Int
  c : Int
  m : Int
  o : Int
  e : Int
def Hall.row (h : Hall) : List Int := [h.i, h.c, h.m, h.o, h.e]
structure Hall.Ok (h : Hall) : Prop where
  i : 1 ≤ h.i ∧ h.i ≤ 12
  c : 1 ≤ h.c ∧ h.c ≤ 12
  m : 1 ≤ h.m ∧ h.m ≤ 24
  o : 1 ≤ h.o ∧ h.o ≤ 12
  e : 1 ≤ h.e ∧ h.e ≤ 12
theorem mul_in {a b : Int} (ha : 1 ≤ a ∧ a ≤ 12) (hb : 1 ≤ b ∧ b ≤ 12) : 1 ≤ a * b ∧ a * b ≤ 144 := by
  have h1 : 1 * 1 ≤ a * b := Int.mul_le_mul ha.1 hb.1 (by decide) (by omega)
  have h2 : a * b ≤ 12 * 12 := Int.mul_le_mul ha.2 hb.2 (by omega) (by decide)
  omega
theorem Hall.Ok.ic {h : Hall} (k : h.Ok) : 1 ≤ h.i * h.c ∧ h.i * h.c ≤ 144 := mul_in k.i k.c
theorem Hall.Ok.oe {h : Hall} (k : h.Ok) : 1 ≤ h.o * h.e ∧ h.o * h.e ≤ 144 := mul_in k.o k.e
def spHall (K : PySem.W.Frag) : Sp := fun vs H Q _ => ∃ (a : Addr) (ns : List Int), vs = [.ref a] ∧ SqL K H a (ns.map V.int) ∧ ∀ (p : Addr) (h : Hall) (H' : Hp), h.Ok → Same H H' → H' p = some (.tup (h.row.map V.int)) → Q (.ref p) H'
def mostAt (j : Nat) : Int := if j = 2 then 24 else 12
theorem most_at {i : Nat} (hi : i < 5) : (∃ m : Int, atI ([4, 4, 6, 4, 4].map V.int) (i : Int) = some (.int m) ∧ 1 ≤ m ∧ m ≤ mostAt i) ∧ ∃ m : Int, atI ([12, 12, 24, 12, 12].map V.int) (i : Int) = some (.int m) ∧ 1 ≤ m ∧ m ≤ mostAt i := by
  match i, hi with
  | 0, _ => exact ⟨⟨_, rfl, by decide, by decide⟩, _, rfl, by decide, by decide⟩
  | 1, _ => exact ⟨⟨_, rfl, by decide, by decide⟩, _, rfl, by decide, by decide⟩
  | 2, _ => exact ⟨⟨_, rfl, by decide, by decide⟩, _, rfl, by decide, by decide⟩
  | 3, _ => exact ⟨⟨_, rfl, by decide, by decide⟩, _, rfl, by decide, by decide⟩
  | 4, _ => exact ⟨⟨_, rfl, by decide, by decide⟩, _, rfl, by decide, by decide⟩
section
variable {P : Program} {w : World} {K : PySem.W.Frag} {mg : Str → Option Value} {base : Heap}
theorem Same.seqT {H H' : Hp} {a : Addr} {xs : List V} (e : Same H H') (h : SqT K H a xs) : SqT K H' a xs := by
  rcases h with (h | ⟨o, h⟩) | h
  · exact .inl (.inl (e _ _ h))
  · exact .inl (.inr ⟨o, e _ _ h⟩)
  · exact .inr h
theorem sc__law_cell_at : FnScope ["_law_script", "_law_k"] ["_law_script", "_law_k"] (defScope (top 18)) := ⟨rfl, rfl, rfl, by decide +kernel, rfl, by decide +kernel, by decide +kernel⟩
theorem ok_cell (T : Txt K mg) (D : Def K mg "_law_cell_at" (top 18) ["_law_script", "_law_k"]) : Callee P w K mg base 1 "_law_cell_at" ["_law_script", "_law_k"] (spCell K) := by
  refine D.ok sc__law_cell_at (fun vs H Q E h => ?_) (fun f cdv A outer s H vs Q E hr h => ?_)
  · obtain ⟨a, ns, k, rfl, _⟩ := h
    rfl
  obtain ⟨a, ns, k, rfl, hS, q⟩ := h
  refine ⟨_, (pss_cons (ps_if (pt_cmpR op_lt (pv 1) (pe_callB (call_lenK K) rfl T.m_len boot_len (pa_cons (pv 0) pa_nil st_name)) (nomark _)) (pss_one (ps_ret (pe_ix (ix_listK K) (pv 0) (pv 1) (fun _ _ => rfl)))) pss_nil)
    (pss_one (ps_ret pe_int))), ?_⟩
  refine ⟨_, rfl, _, rfl, a, _, rfl, .inl hS, _, _, rfl, rfl, _, rfl, ?_⟩
  refine ite2 (fun c => ?_) (fun c => ?_)
  · have c' : (k : Int) < (((ns.map V.int).length : Nat) : Int) := of_decide_eq_true c
    rw [List.length_map] at c'
    exact ⟨_, rfl, _, rfl, a, _, _, _, rfl, rfl, hS, at_nat (by omega), q⟩
  · have c' : ¬ (k : Int) < (((ns.map V.int).length : Nat) : Int) := of_decide_eq_false (Bool.eq_false_iff.mpr c)
    rw [List.length_map] at c'
    have e : cell ns k = 0 := by simp [cell, List.getD, List.getElem?_eq_none (show ns.length ≤ k by omega)]
    rw [e] at q
    exact q
theorem sc__law_hall : FnScope ["_law_script", "_law_sizes", "_law_k", "_law_number_here", "_law_most"] ["_law_script"] (defScope (top 19)) := ⟨rfl, rfl, rfl, by decide +kernel, rfl, by decide +kernel, by decide +kernel⟩
theorem ok_hall (T : Txt K mg) (C__law_cell_at : Callee P w K mg base 1 "_law_cell_at" ["_law_script", "_law_k"] (spCell K)) (D : Def K mg "_law_hall" (top 19) ["_law_script"]) : Callee P w K mg base 2 "_law_hall" ["_law_script"] (spHall K) := by
  refine D.ok sc__law_hall (fun vs H Q E h => ?_) (fun f cdv A outer s H vs Q E hr h => ?_)
  · obtain ⟨a, ns, rfl, _⟩ := h
    rfl
  obtain ⟨a, ns, rfl, hS, q⟩ := h
  refine ⟨_, (pss_cons (ps_set (i := 1) sc__law_hall.nd rfl (Or.inl rfl) (pe_lst pa_nil))
    (pss_cons (ps_for PassesOwn.never rfl (pi_range1 rfl T.m_range (pa_cons pe_int pa_nil st_const)) (pg_name (i := 2) sc__law_hall.nd rfl (Or.inl rfl))
    (pss_cons (ps_set (i := 3) sc__law_hall.nd rfl (Or.inl rfl) (pe_op op_add (pe_op op_mul (pe_op op_mod (pe_fn C__law_cell_at hr rfl (pa_cons (pv 0) (pa_cons (pv 2) pa_nil st_name) st_name)) (pe_op op_pow pe_int pe_int)) (pe_op op_add (pe_op op_mul pe_int (pv 2)) pe_int)) (pe_op op_mul pe_int (pv 2))))
    (pss_cons (ps_set (i := 4) sc__law_hall.nd rfl (Or.inl rfl) (pe_ix (ix_listK K) (pe_lst (pa_cons pe_int (pa_cons pe_int (pa_cons pe_int (pa_cons pe_int (pa_cons pe_int pa_nil st_const) st_const) st_const) st_const) st_const)) (pv 2) (fun _ _ => rfl)))
    (pss_cons (ps_if (pt_cmpR op_eq (pe_op op_mod (pe_fn C__law_cell_at hr rfl (pa_cons (pv 0) (pa_cons pe_int pa_nil st_const) st_name)) pe_int) pe_int (nomark _)) (pss_one (ps_set (i := 4) sc__law_hall.nd rfl (Or.inl rfl) (pe_ix (ix_listK K) (pe_lst (pa_cons pe_int (pa_cons pe_int (pa_cons pe_int (pa_cons pe_int (pa_cons pe_int pa_nil st_const) st_const) st_const) st_const) st_const)) (pv 2) (fun _ _ => rfl)))) pss_nil)
    (pss_one (ps_expr (pe_bmK K PySem.F.plainAttrs_list PySem.F.slot_list_append PySem.F.type_list_append mt_appendR (pv 1) (pa_cons (pe_op op_add pe_int (pe_op op_mod (pe_op op_mod (pv 3) pe_int) (pv 4))) pa_nil st_bin))))))))
    (pss_one (ps_ret (pe_callTy (call_tupleK K) rfl T.m_tuple boot_tuple (pa_cons (pv 1) pa_nil st_name)))))), ?_⟩
  refine ⟨(by show 0 ≤ sizeLine; decide), fun l hl => ?_⟩
  have el := upd_same (H := H) (a := l) (o := .lst [])
  have s1 := same_new hl (.lst [])
  generalize upd H l (.lst []) = H1 at el s1 ⊢
  refine ⟨_, rfl, by decide, by decide, ?_⟩
  refine for_range (lo := 0) (n := 5) (fun i σ H' => Same H H' ∧ ∃ xs : List Int, xs.length = i ∧ (∀ j x, xs[j]? = some x → 1 ≤ x ∧ x ≤ mostAt j) ∧ H' l = some (.lst (xs.map V.int)) ∧ ∃ v2 v3 v4, σ = [some (.ref a), some (.ref l), v2, v3, v4])
    ⟨s1, [], rfl, (fun j x hx => by simp at hx), el, none, none, none, rfl⟩ ?_ ?_
  · rintro i σ H' hi ⟨s2, xs, hlen, hx, el2, v2, v3, v4, rfl⟩
    rw [Int.zero_add]
    obtain ⟨⟨m1, a1, b1, c1⟩, m2, a2, b2, c2⟩ := most_at hi
    have fin : ∀ (H3 : Hp), Same H' H3 → ∀ n m : Int, 1 ≤ m → m ≤ mostAt i → H3 l = some (.lst (xs.map V.int)) ∧ (xs.map V.int).length < sizeLine ∧ (∃ xs' : List Int, xs'.length = i + 1 ∧ (∀ j x, xs'[j]? = some x → 1 ≤ x ∧ x ≤ mostAt j) ∧ upd H3 l (.lst (xs.map V.int ++ [.int (1 + n % 999983 % m)])) l = some (.lst (xs'.map V.int))) ∧ Same H (upd H3 l (.lst (xs.map V.int ++ [.int (1 + n % 999983 % m)]))) := fun H3 s3 n m hm1 hm2 => by
      refine ⟨s3 _ _ el2, small1000 (by rw [List.length_map]; omega), ⟨xs ++ [1 + n % 999983 % m], by rw [List.length_append, hlen]; rfl, fun j x hj => ?_, by rw [upd_same, List.map_append]; rfl⟩, Same.put (s2.trans s3) hl⟩
      rcases Nat.lt_trichotomy j xs.length with c | c | c
      · rw [List.getElem?_append_left c] at hj
        exact hx j x hj
      · rw [c, List.getElem?_concat_length] at hj
        cases hj
        rw [c, hlen]
        have h1 := Int.emod_nonneg (n % 999983) (show m ≠ 0 by omega)
        have h2 := Int.emod_lt_of_pos (n % 999983) (show 0 < m by omega)
        omega
      · rw [List.getElem?_eq_none (by rw [List.length_append, List.length_singleton]; omega)] at hj
        cases hj
    refine ⟨_, rfl, _, rfl, a, ns, i, rfl, s2.seq hS, _, _, rfl, rfl, ⟨by decide, by decide, by decide⟩, _, _, rfl, rfl, (by show (0 : Int) < 10 ^ 18; decide), _, rfl, _, _, rfl, rfl, .inl ⟨by decide, by decide⟩, _, _, rfl, rfl, _, _, rfl, rfl, .inr ⟨by omega, by omega⟩, _, rfl, _, _, rfl, rfl, .inl ⟨by decide, by decide⟩, _, _, rfl, rfl, ?_⟩
    refine ⟨(by show 5 ≤ sizeLine; decide), fun l1 hl1 => ?_⟩
    have el1 := upd_same (H := H') (a := l1) (o := .lst [.int 4, .int 4, .int 6, .int 4, .int 4])
    have s3 := same_new hl1 (.lst [.int 4, .int 4, .int 6, .int 4, .int 4])
    refine ⟨_, rfl, l1, _, _, _, rfl, rfl, SqL.of el1, a1, ?_⟩
    generalize upd H' l1 (.lst [.int 4, .int 4, .int 6, .int 4, .int 4]) = H3 at s3 ⊢
    have s23 := s2.trans s3
    refine ⟨_, rfl, a, ns, 5, rfl, s23.seq hS, _, _, rfl, rfl, (by show (0 : Int) < 5; decide), rfl, _, rfl, ?_⟩
    refine ite2 (fun _ => ?_) (fun _ => ?_)
    · refine ⟨(by show 5 ≤ sizeLine; decide), fun l2 hl2 => ?_⟩
      have el3 := upd_same (H := H3) (a := l2) (o := .lst [.int 12, .int 12, .int 24, .int 12, .int 12])
      have s4 := s3.trans (same_new hl2 (.lst [.int 12, .int 12, .int 24, .int 12, .int 12]))
      refine ⟨_, rfl, l2, _, _, _, rfl, rfl, SqL.of el3, a2, ?_⟩
      obtain ⟨f1, f2, ⟨xs', g1, g2, g3⟩, f4⟩ := fin _ s4 (cell ns i % 10 ^ Int.toNat 18 * (2 * (i : Int) + 48271) + 7 * (i : Int)) m2 b2 c2
      exact ⟨_, rfl, .inl ⟨rfl, _, SqL.of f1⟩, _, rfl, _, _, rfl, rfl, (by show (0 : Int) < 999983; decide), _, rfl, _, _, rfl, rfl, (by show (0 : Int) < m2; omega), _, _, rfl, rfl, l, xs.map V.int, _, rfl, rfl, f1, f2, f4, xs', g1, g2, g3, _, _, _, rfl⟩
    · obtain ⟨f1, f2, ⟨xs', g1, g2, g3⟩, f4⟩ := fin _ s3 (cell ns i % 10 ^ Int.toNat 18 * (2 * (i : Int) + 48271) + 7 * (i : Int)) m1 b1 c1
      exact ⟨_, rfl, .inl ⟨rfl, _, SqL.of f1⟩, _, rfl, _, _, rfl, rfl, (by show (0 : Int) < 999983; decide), _, rfl, _, _, rfl, rfl, (by show (0 : Int) < m1; omega), _, _, rfl, rfl, l, xs.map V.int, _, rfl, rfl, f1, f2, f4, xs', g1, g2, g3, _, _, _, rfl⟩
  · rintro σ H' ⟨s2, xs, hlen, hx, el2, v2, v3, v4, rfl⟩
    match xs, hlen with
    | [x0, x1, x2, x3, x4], _ =>
      refine ⟨_, rfl, l, _, rfl, .inl ⟨SqL.of el2, fun p hp => ?_⟩⟩
      refine q p ⟨x0, x1, x2, x3, x4⟩ _ ?_ (s2.trans (same_new hp _)) upd_same
      exact ⟨hx 0 x0 rfl, hx 1 x1 rfl, hx 2 x2 rfl, hx 3 x3 rfl, hx 4 x4 rfl⟩
end

theorem int_flat (es : List Int) : (es.map V.int).all flatV = true := by
  rw [List.all_eq_true]
  intro x hx
  obtain ⟨p, _, rfl⟩ := List.mem_map.mp hx
  rfl
theorem int_in (e : Int) (es : List Int) : inV (.int e) (es.map V.int) = decide (e ∈ es) := by
  unfold inV
  rw [List.any_map]
  rw [Bool.eq_iff_iff, List.any_eq_true, decide_eq_true_iff]
  constructor
  · rintro ⟨q, hq, e'⟩
    have e' : (q == e) = true := e'
    exact eq_of_beq e' ▸ hq
  · intro h
    exact ⟨e, h, beq_self_eq_true e⟩
structure EndsOk (h : Hall) (xs : List Int) : Prop where
  nd : xs.Nodup
  es : ∀ e ∈ xs, 0 ≤ e ∧ e < h.o * h.e
  some : xs ≠ []
  few : xs.length ≤ 12
theorem mod_in {x d : Int} (h : 0 < d) : 0 ≤ x % d ∧ x % d < d := ⟨Int.emod_nonneg _ (by omega), Int.emod_lt_of_pos _ h⟩
def spEnds (K : PySem.W.Frag) : Sp := fun vs H Q _ => ∃ (a : Addr) (h : Hall) (n : Int), vs = [.ref a, .int n] ∧ SqT K H a (h.row.map V.int) ∧ h.Ok ∧ ∀ (l : Addr) (es : List Int) (H' : Hp), Same H H' → H l = none → H' l = some (.lst (es.map V.int)) → EndsOk h es → Q (.ref l) H'
section
variable {P : Program} {w : World} {K : PySem.W.Frag} {mg : Str → Option Value} {base : Heap}
theorem sc__law_ends : FnScope ["_law_hall_here", "_law_number_here", "_law_ends_here", "_law_left_here", "_law_many", "_law_k", "_law_end"] ["_law_hall_here", "_law_number_here"] (defScope (top 20)) := ⟨rfl, rfl, rfl, by decide +kernel, rfl, by decide +kernel, by decide +kernel⟩
theorem ok_ends (T : Txt K mg) (D : Def K mg "_law_ends" (top 20) ["_law_hall_here", "_law_number_here"]) : Callee P w K mg base 1 "_law_ends" ["_law_hall_here", "_law_number_here"] (spEnds K) := by
  refine D.ok sc__law_ends (fun vs H Q E h => ?_) (fun f cdv A outer s H vs Q E hr h => ?_)
  · obtain ⟨a, h, n, rfl, _⟩ := h
    rfl
  obtain ⟨a, h, n, rfl, hH, ok, q⟩ := h
  have b1 := ok.oe
  have b2 := ok.o
  have b3 := ok.e
  refine ⟨_, (pss_cons (ps_set (i := 2) sc__law_ends.nd rfl (Or.inl rfl) (pe_lst pa_nil))
    (pss_cons (ps_set (i := 3) sc__law_ends.nd rfl (Or.inl rfl) (pe_op op_fdivL (pv 1) (pe_op op_pow pe_int pe_int)))
    (pss_cons (ps_set (i := 4) sc__law_ends.nd rfl (Or.inl rfl) (pe_op op_add pe_int (pe_op op_mod (pe_op op_mod (pe_op op_mul (pv 1) pe_int) pe_int) pe_int)))
    (pss_cons (ps_if (pt_cmpR op_eq (pe_op op_mod (pe_op op_mod (pe_op op_mul (pv 1) pe_int) pe_int) pe_int) pe_int (nomark _)) (pss_one (ps_set (i := 4) sc__law_ends.nd rfl (Or.inl rfl) (pe_op op_add pe_int (pe_op op_mod (pe_op op_mod (pe_op op_mul (pv 1) pe_int) pe_int) pe_int)))) pss_nil)
    (pss_cons (ps_for PassesOwn.never rfl (pi_range1 rfl T.m_range (pa_cons (pv 4) pa_nil st_name)) (pg_name (i := 5) sc__law_ends.nd rfl (Or.inl rfl))
    (pss_cons (ps_set (i := 6) sc__law_ends.nd rfl (Or.inl rfl) (pe_op op_mod (pe_op op_mod (pe_op op_mul (pv 1) (pe_op op_add pe_int (pe_op op_mul (pe_op op_mul pe_int (pv 5)) (pv 5)))) pe_int) (pe_op op_mul (pe_ix (ix_tupK K) (pv 0) pe_int (fun _ _ => rfl)) (pe_ix (ix_tupK K) (pv 0) pe_int (fun _ _ => rfl)))))
    (pss_cons (ps_if (pt_cmpR op_ge (pv 1) (pe_op op_pow pe_int pe_int) (nomark _)) (pss_cons (ps_set (i := 6) sc__law_ends.nd rfl (Or.inl rfl) (pe_op op_mod (pv 3) (pe_op op_mul (pe_ix (ix_tupK K) (pv 0) pe_int (fun _ _ => rfl)) (pe_ix (ix_tupK K) (pv 0) pe_int (fun _ _ => rfl)))))
    (pss_one (ps_set (i := 3) sc__law_ends.nd rfl (Or.inl rfl) (pe_op op_fdiv (pv 3) (pe_op op_mul (pe_ix (ix_tupK K) (pv 0) pe_int (fun _ _ => rfl)) (pe_ix (ix_tupK K) (pv 0) pe_int (fun _ _ => rfl))))))) pss_nil)
    (pss_one (ps_if (pt_cmpR (op_notInK K) (pv 6) (pv 2) (by with_unfolding_all rfl)) (pss_one (ps_expr (pe_bmK K PySem.F.plainAttrs_list PySem.F.slot_list_append PySem.F.type_list_append mt_appendR (pv 2) (pa_cons (pv 6) pa_nil st_name)))) pss_nil)))))
    (pss_one (ps_ret (pv 2)))))))), ?_⟩
  refine ⟨(by show 0 ≤ sizeLine; decide), fun l hl => ?_⟩
  have el := upd_same (H := H) (a := l) (o := .lst [])
  have s1 := same_new hl (.lst [])
  generalize upd H l (.lst []) = H1 at el s1 ⊢
  refine ⟨_, rfl, _, _, rfl, rfl, ⟨by decide, by decide, by decide⟩, _, _, rfl, rfl, ⟨by show (0 : Int) < 10 ^ 18; decide, by show (10 : Int) ^ 18 < 18446744073709551616; decide⟩, ?_⟩
  refine ⟨_, rfl, _, _, rfl, rfl, .inr ⟨by decide, by decide⟩, _, _, rfl, rfl, (by show (0 : Int) < 999961; decide), _, _, rfl, rfl, (by show (0 : Int) < 3; decide), _, _, rfl, rfl, ?_⟩
  refine ⟨_, rfl, _, _, rfl, rfl, .inr ⟨by decide, by decide⟩, _, _, rfl, rfl, (by show (0 : Int) < 999863; decide), _, _, rfl, rfl, (by show (0 : Int) < 6; decide), rfl, _, rfl, ?_⟩
  refine ite2 (fun _ => ⟨_, rfl, _, _, rfl, rfl, .inr ⟨by decide, by decide⟩, _, _, rfl, rfl, (by show (0 : Int) < 999961; decide), _, _, rfl, rfl, (by show (0 : Int) < 12; decide), _, _, rfl, rfl, _, rfl, _, rfl, by show -(2 ^ 62) ≤ 1 + n * 16807 % 999961 % 12; omega, by show 1 + n * 16807 % 999961 % 12 < 2 ^ 62; omega, ?_⟩) (fun _ => ⟨_, rfl, _, rfl, by show -(2 ^ 62) ≤ 1 + n * 16807 % 999961 % 3; omega, by show 1 + n * 16807 % 999961 % 3 < 2 ^ 62; omega, ?_⟩)
  all_goals
    refine for_range (fun i σ H' => Same H H' ∧ ∃ es : List Int, es.Nodup ∧ (∀ e ∈ es, 0 ≤ e ∧ e < h.o * h.e) ∧ (i = 0 ∨ es ≠ []) ∧ es.length ≤ i ∧ H' l = some (.lst (es.map V.int)) ∧ ∃ v3 v4 v5 v6, σ = [some (.ref a), some (.int n), some (.ref l), some (.int v3), v4, v5, v6])
      ⟨s1, [], List.nodup_nil, (fun e he => nomatch he), .inl rfl, Nat.le_refl _, el, _, _, none, none, rfl⟩ ?_ ?_
    · rintro i σ H' hi ⟨s2, es, d1, d2, d3, d4, el2, v3, v4, v5, v6, rfl⟩
      have hi : i < 12 := by omega
      rw [Int.zero_add]
      have hk2 : 0 ≤ 2 * (i : Int) * (i : Int) ∧ 2 * (i : Int) * (i : Int) ≤ 24 * 12 := ⟨Int.mul_nonneg (by omega) (by omega), Int.mul_le_mul (by omega) (by omega) (by omega) (by omega)⟩
      have hH2 := Same.seqT s2 hH
      refine ⟨_, rfl, _, rfl, _, _, rfl, rfl, .inl ⟨by decide, by decide⟩, _, rfl, _, _, rfl, rfl, .inr ⟨by omega, by omega⟩, _, _, rfl, rfl, _, _, rfl, rfl, .inr ⟨by omega, by omega⟩, _, _, rfl, rfl, (by show (0 : Int) < 999983; decide), _, rfl, a, _, _, _, rfl, rfl, hH2, rfl, _, rfl, a, _, _, _, rfl, rfl, hH2, rfl, _, _, rfl, rfl, .inl ⟨by omega, by omega⟩, _, _, rfl, rfl, (by show 0 < h.o * h.e; omega), ?_⟩
      refine ⟨_, rfl, _, _, rfl, rfl, ⟨by decide, by decide, by decide⟩, _, _, rfl, rfl, _, rfl, ?_⟩
      have key : ∀ x : Int, (!inV (.int x) (es.map V.int)) = true → ¬ x ∈ es := fun x c => by rw [int_in] at c; simpa using c
      have key2 : ∀ x : Int, ¬ (!inV (.int x) (es.map V.int)) = true → x ∈ es := fun x c => by rw [int_in] at c; simpa using c
      have fin : ∀ x : Int, 0 ≤ x ∧ x < h.o * h.e → ¬ x ∈ es → (Same H (upd H' l (.lst (es.map V.int ++ [.int x])))) ∧ ∃ es' : List Int, es'.Nodup ∧ (∀ e ∈ es', 0 ≤ e ∧ e < h.o * h.e) ∧ (i + 1 = 0 ∨ es' ≠ []) ∧ es'.length ≤ i + 1 ∧ upd H' l (.lst (es.map V.int ++ [.int x])) l = some (.lst (es'.map V.int)) := fun x hx hn => by
        refine ⟨Same.put s2 hl, es ++ [x], List.nodup_append.mpr ⟨d1, by simp, fun y hy z hz => ?_⟩, fun e he => ?_, .inr (by simp), by rw [List.length_append, List.length_singleton]; omega, by rw [upd_same, List.map_append]; rfl⟩
        · rw [List.mem_singleton] at hz
          exact fun e => hn (by rw [← hz, ← e]; exact hy)
        · rcases List.mem_append.mp he with c | c
          · exact d2 e c
          · rw [List.mem_singleton] at c
            rw [c]; exact hx
      refine ite2 (fun _ => ⟨_, rfl, _, rfl, a, _, _, _, rfl, rfl, hH2, rfl, _, rfl, a, _, _, _, rfl, rfl, hH2, rfl, _, _, rfl, rfl, .inl ⟨by omega, by omega⟩, _, _, rfl, rfl, (by show 0 < h.o * h.e; omega), _, rfl, _, rfl, a, _, _, _, rfl, rfl, hH2, rfl, _, rfl, a, _, _, _, rfl, rfl, hH2, rfl, _, _, rfl, rfl, .inl ⟨by omega, by omega⟩, _, _, rfl, rfl, ⟨by show 0 < h.o * h.e; omega, by show h.o * h.e < 1073741824; omega⟩, ?_⟩) (fun _ => ?_)
      all_goals
        refine ⟨_, rfl, _, rfl, l, _, rfl, .inl (SqL.of el2), rfl, int_flat es, _, rfl, ?_⟩
        refine ite2 (fun c => ?_) (fun c => ?_)
        · have c' := key _ c
          obtain ⟨g0, es', g1, g2, g3, g4, g5⟩ := fin _ (mod_in (by omega)) c'
          exact ⟨_, rfl, .inl ⟨rfl, _, SqL.of el2⟩, _, rfl, l, _, _, rfl, rfl, el2, small1000 (by rw [List.length_map]; omega), g0, es', g1, g2, g3, g4, g5, _, _, _, _, rfl⟩
        · have c' := key2 _ c
          exact ⟨s2, es, d1, d2, .inr (List.ne_nil_of_mem c'), by omega, el2, _, _, _, _, rfl⟩
    · rintro σ H' ⟨s2, es, d1, d2, d3, d4, el2, v3, v4, v5, v6, rfl⟩
      exact ⟨_, rfl, q l es H' s2 hl el2 ⟨d1, d2, d3.resolve_left (by omega), by omega⟩⟩
end

def nIn (r k : Int) : List Key := [.inr "in", .inl r, .inl k]
def nOut (r k : Int) : List Key := [.inr "out", .inl r, .inl k]
def lineStep (h : Hall) (k : Int) (acc : List (List Key)) (e : Int) : List (List Key) := if inD acc (nOut (e / h.e) k) then acc else acc ++ [nOut (e / h.e) k]
def linesM (h : Hall) (c : Int) (es : List Int) (k : Int) : List (List Key) := es.foldl (lineStep h k) [nIn (c / h.c) k]
theorem mem_lines_fold (h : Hall) (k : Int) (d : List Key) : ∀ (es : List Int) (acc : List (List Key)), d ∈ es.foldl (lineStep h k) acc ↔ d ∈ acc ∨ ∃ e ∈ es, d = nOut (e / h.e) k
  | [], acc => by simp
  | e :: t, acc => by
    rw [List.foldl_cons, mem_lines_fold h k d t]
    have st : d ∈ lineStep h k acc e ↔ d ∈ acc ∨ d = nOut (e / h.e) k := by
      unfold lineStep
      by_cases c : inD acc (nOut (e / h.e) k) = true
      · rw [if_pos c]
        have c' := inD_iff.mp c
        constructor
        · exact .inl
        · rintro (g | g)
          · exact g
          · rw [g]; exact c'
      · rw [if_neg c, List.mem_append, List.mem_singleton]
    rw [st]
    constructor
    · rintro ((g | g) | ⟨x, hx, g⟩)
      · exact .inl g
      · exact .inr ⟨e, List.mem_cons_self .., g⟩
      · exact .inr ⟨x, List.mem_cons_of_mem _ hx, g⟩
    · rintro (g | ⟨x, hx, g⟩)
      · exact .inl (.inl g)
      · rcases List.mem_cons.mp hx with rfl | hx
        · exact .inl (.inr g)
        · exact .inr ⟨x, hx, g⟩
theorem mem_lines {h : Hall} {c : Int} {es : List Int} {k : Int} {d : List Key} : d ∈ linesM h c es k ↔ d = nIn (c / h.c) k ∨ ∃ e ∈ es, d = nOut (e / h.e) k := by
  unfold linesM
  rw [mem_lines_fold, List.mem_singleton]
theorem lines_fold_len (h : Hall) (k : Int) : ∀ (es : List Int) (acc : List (List Key)), (es.foldl (lineStep h k) acc).length ≤ acc.length + es.length
  | [], acc => by simp
  | e :: t, acc => by
    have ih := lines_fold_len h k t (lineStep h k acc e)
    have : (lineStep h k acc e).length ≤ acc.length + 1 := by
      unfold lineStep
      split <;> simp
    rw [List.foldl_cons, List.length_cons]
    omega
theorem lines_len (h : Hall) (c : Int) (es : List Int) (k : Int) : (linesM h c es k).length ≤ 1 + es.length := lines_fold_len h k es _
def TupsK (H : Hp) (as : List Addr) (ds : List (List Key)) : Prop := Paired (fun a d => H a = some (.tup (d.map kV))) as ds
def BagK (H : Hp) (l : Addr) (ds : List (List Key)) : Prop := ∃ as : List Addr, H l = some (.lst (as.map V.ref)) ∧ TupsK H as ds
theorem TupsK.same {H H' : Hp} {as : List Addr} {ds : List (List Key)} (s : ∀ b xs, H b = some (.tup xs) → H' b = some (.tup xs)) (h : TupsK H as ds) : TupsK H' as ds := by
  unfold TupsK at h ⊢
  exact paired_mem h fun a d _ e => s _ _ e
theorem BagK.push {H : Hp} {l p : Addr} {as : List Addr} {ds : List (List Key)} {d : List Key} (e : H l = some (.lst (as.map V.ref))) (h : TupsK H as ds) (hp : H p = some (.tup (d.map kV))) :
    BagK (upd H l (.lst (as.map V.ref ++ [.ref p]))) l (ds ++ [d]) := by
  have hpl : p ≠ l := fun z => by rw [z, e] at hp; cases hp
  refine ⟨as ++ [p], by rw [upd_same, List.map_append]; rfl, Paired.snoc (TupsK.same (fun b xs hb => ?_) h) ?_⟩
  · have hbl : b ≠ l := fun z => by rw [z, e] at hb; cases hb
    rw [upd_ne hbl]
    exact hb
  · show upd _ l _ p = _
    rw [upd_ne hpl]
    exact hp
def spLines (K : PySem.W.Frag) : Sp := fun vs H Q _ => ∃ (a e : Addr) (h : Hall) (c k : Int) (es : List Int), vs = [.ref a, .int c, .ref e, .int k] ∧ SqT K H a (h.row.map V.int) ∧ h.Ok ∧ (SqT K H e (es.map V.int) ∨ SqL K H e (es.map V.int)) ∧ es.length ≤ 12 ∧
  ∀ (l : Addr) (as : List Addr) (H' : Hp), Same H H' → H l = none → H' l = some (.lst (as.map V.ref)) → TupsK H' as (linesM h c es k) → Q (.ref l) H'
section
variable {P : Program} {w : World} {K : PySem.W.Frag} {mg : Str → Option Value} {base : Heap}
theorem sc__law_lines : FnScope ["_law_hall_here", "_law_caller", "_law_ends_here", "_law_k", "_law_lines_here", "_law_end", "_law_line"] ["_law_hall_here", "_law_caller", "_law_ends_here", "_law_k"] (defScope (top 21)) := ⟨rfl, rfl, rfl, by decide +kernel, rfl, by decide +kernel, by decide +kernel⟩
theorem ok_lines (T : Txt K mg) (D : Def K mg "_law_lines" (top 21) ["_law_hall_here", "_law_caller", "_law_ends_here", "_law_k"]) : Callee P w K mg base 1 "_law_lines" ["_law_hall_here", "_law_caller", "_law_ends_here", "_law_k"] (spLines K) := by
  refine D.ok sc__law_lines (fun vs H Q E h => ?_) (fun f cdv A outer s H vs Q E hr h => ?_)
  · obtain ⟨a, e, h, c, k, es, rfl, _⟩ := h
    rfl
  obtain ⟨a, e, h, c, k, es, rfl, hH, ok, hE, few, q⟩ := h
  have o2 := ok.c
  have o3 := ok.e
  rcases hE with hE | hE
  · refine ⟨_, (pss_cons (ps_set (i := 4) sc__law_lines.nd rfl (Or.inl rfl) (pe_lst (pa_cons (pe_tup (pa_cons pe_str (pa_cons (pe_op op_fdiv (pv 1) (pe_ix (ix_tupK K) (pv 0) pe_int (fun _ _ => rfl))) (pa_cons (pv 3) pa_nil st_name) st_bin) st_const)) pa_nil st_tup)))
    (pss_cons (ps_for PassesOwn.never rfl (pi_tupK K (pv 2)) (pg_name (i := 5) sc__law_lines.nd rfl (Or.inl rfl))
    (pss_cons (ps_set (i := 6) sc__law_lines.nd rfl (Or.inl rfl) (pe_tup (pa_cons pe_str (pa_cons (pe_op op_fdiv (pv 5) (pe_ix (ix_tupK K) (pv 0) pe_int (fun _ _ => rfl))) (pa_cons (pv 3) pa_nil st_name) st_bin) st_const)))
    (pss_one (ps_if (pt_cmpR (op_notInTK K (Room.unitsT hr)) (pv 6) (pv 4) (by with_unfolding_all rfl)) (pss_one (ps_expr (pe_bmK K PySem.F.plainAttrs_list PySem.F.slot_list_append PySem.F.type_list_append mt_appendR (pv 4) (pa_cons (pv 6) pa_nil st_name)))) pss_nil))))
    (pss_one (ps_ret (pv 4))))), ?_⟩
    refine ⟨_, rfl, _, rfl, a, _, _, _, rfl, rfl, hH, rfl, _, _, rfl, rfl, ⟨by omega, by omega⟩, _, rfl, (by show 3 ≤ sizeLine; decide), fun t1 ht1 => ?_⟩
    have e1 := upd_same (H := H) (a := t1) (o := .tup [.str "in", .int (c / h.c), .int k])
    have s1 := same_new ht1 (.tup [.str "in", .int (c / h.c), .int k])
    generalize upd H t1 (.tup [.str "in", .int (c / h.c), .int k]) = H1 at e1 s1 ⊢
    refine ⟨(by show 1 ≤ sizeLine; decide), fun l hl => ?_⟩
    have bag0 : BagK (upd H1 l (.lst [.ref t1])) l [nIn (c / h.c) k] := ⟨[t1], upd_same, .cons (same_new hl _ _ _ e1) .nil⟩
    have sl := same_new hl (.lst [.ref t1])
    generalize upd H1 l (.lst [.ref t1]) = H3 at bag0 sl ⊢
    have s3 := s1.trans sl
    refine ⟨_, rfl, e, rfl, ⟨_, Same.seqT s3 hE⟩, ?_⟩
    refine for_tup (xs := es.map V.int) (fun i σ H' => Same H1 H' ∧ BagK H' l ((es.take i).foldl (lineStep h k) [nIn (c / h.c) k]) ∧ ∃ v5 v6, σ = [some (.ref a), some (.int c), some (.ref e), some (.int k), some (.ref l), v5, v6])
      ⟨sl, bag0, none, none, rfl⟩ (fun i σ H' _ g => Same.seqT (s1.trans g.1) hE) ?_ ?_
    · rintro i x σ H' hx ⟨s5, ⟨as, b1, b2⟩, v5, v6, rfl⟩
      rw [List.getElem?_map] at hx
      obtain ⟨y, hy, rfl⟩ := Option.map_eq_some_iff.mp hx
      have hlen := lines_fold_len h k (es.take i) [nIn (c / h.c) k]
      have hlt : (es.take i).length ≤ 12 := by rw [List.length_take]; omega
      rw [List.length_singleton] at hlen
      have step : (es.take (i + 1)).foldl (lineStep h k) [nIn (c / h.c) k] = lineStep h k ((es.take i).foldl (lineStep h k) [nIn (c / h.c) k]) y := by
        rw [List.take_succ, hy, List.foldl_append]
        rfl
      rw [step]
      generalize (es.take i).foldl (lineStep h k) [nIn (c / h.c) k] = ds at b2 hlen
      have hn := Paired.length b2
      have hH5 := Same.seqT (s1.trans s5) hH
      refine ⟨_, rfl, _, rfl, a, _, _, _, rfl, rfl, hH5, rfl, _, _, rfl, rfl, ⟨by omega, by omega⟩, _, rfl, (by show 3 ≤ sizeLine; decide), fun u hu => ?_⟩
      have eu := upd_same (H := H') (a := u) (o := .tup [.str "out", .int (y / h.e), .int k])
      have s6 := same_new hu (.tup [.str "out", .int (y / h.e), .int k])
      generalize upd H' u (.tup [.str "out", .int (y / h.e), .int k]) = H6 at eu s6 ⊢
      have c1 := s6 _ _ b1
      have c2 := TupsK.same (fun b xs hb => s6 _ _ hb) b2
      refine ⟨_, rfl, _, rfl, l, u, as, nOut (y / h.e) k, ds, rfl, rfl, SqL.of c1, SqT.of eu, paired_mem c2 (fun _ _ _ z => SqT.of z), _, rfl, ?_⟩
      refine ite2 (fun cc => ?_) (fun cc => ?_)
      · have cc' : inD ds (nOut (y / h.e) k) = false := by simpa using cc
        refine ⟨_, rfl, .inl ⟨rfl, _, SqL.of c1⟩, _, rfl, l, as.map V.ref, .ref u, rfl, rfl, c1, small1000 (by rw [List.length_map, hn]; omega), ?_⟩
        refine ⟨Same.put (s5.trans s6) hl, ?_, _, _, rfl⟩
        unfold lineStep
        rw [if_neg (by rw [cc']; exact Bool.false_ne_true)]
        exact BagK.push (d := nOut (y / h.e) k) c1 c2 eu
      · have cc' : inD ds (nOut (y / h.e) k) = true := by simpa using cc
        refine ⟨s5.trans s6, ?_, _, _, rfl⟩
        unfold lineStep
        rw [if_pos cc']
        exact ⟨as, c1, c2⟩
    · rintro σ H' ⟨s5, ⟨as, b1, b2⟩, v5, v6, rfl⟩
      rw [List.length_map, List.take_length] at b2
      exact ⟨_, rfl, q l as H' (s1.trans s5) (s1.free hl) b1 b2⟩
  · refine ⟨_, (pss_cons (ps_set (i := 4) sc__law_lines.nd rfl (Or.inl rfl) (pe_lst (pa_cons (pe_tup (pa_cons pe_str (pa_cons (pe_op op_fdiv (pv 1) (pe_ix (ix_tupK K) (pv 0) pe_int (fun _ _ => rfl))) (pa_cons (pv 3) pa_nil st_name) st_bin) st_const)) pa_nil st_tup)))
    (pss_cons (ps_for PassesOwn.never rfl (pi_listK K (pv 2)) (pg_name (i := 5) sc__law_lines.nd rfl (Or.inl rfl))
    (pss_cons (ps_set (i := 6) sc__law_lines.nd rfl (Or.inl rfl) (pe_tup (pa_cons pe_str (pa_cons (pe_op op_fdiv (pv 5) (pe_ix (ix_tupK K) (pv 0) pe_int (fun _ _ => rfl))) (pa_cons (pv 3) pa_nil st_name) st_bin) st_const)))
    (pss_one (ps_if (pt_cmpR (op_notInTK K (Room.unitsT hr)) (pv 6) (pv 4) (by with_unfolding_all rfl)) (pss_one (ps_expr (pe_bmK K PySem.F.plainAttrs_list PySem.F.slot_list_append PySem.F.type_list_append mt_appendR (pv 4) (pa_cons (pv 6) pa_nil st_name)))) pss_nil))))
    (pss_one (ps_ret (pv 4))))), ?_⟩
    refine ⟨_, rfl, _, rfl, a, _, _, _, rfl, rfl, hH, rfl, _, _, rfl, rfl, ⟨by omega, by omega⟩, _, rfl, (by show 3 ≤ sizeLine; decide), fun t1 ht1 => ?_⟩
    have e1 := upd_same (H := H) (a := t1) (o := .tup [.str "in", .int (c / h.c), .int k])
    have s1 := same_new ht1 (.tup [.str "in", .int (c / h.c), .int k])
    generalize upd H t1 (.tup [.str "in", .int (c / h.c), .int k]) = H1 at e1 s1 ⊢
    refine ⟨(by show 1 ≤ sizeLine; decide), fun l hl => ?_⟩
    have bag0 : BagK (upd H1 l (.lst [.ref t1])) l [nIn (c / h.c) k] := ⟨[t1], upd_same, .cons (same_new hl _ _ _ e1) .nil⟩
    have sl := same_new hl (.lst [.ref t1])
    generalize upd H1 l (.lst [.ref t1]) = H3 at bag0 sl ⊢
    have s3 := s1.trans sl
    refine ⟨_, rfl, e, rfl, ⟨_, Same.seq s3 hE⟩, ?_⟩
    refine for_list (xs := es.map V.int) (fun i σ H' => Same H1 H' ∧ BagK H' l ((es.take i).foldl (lineStep h k) [nIn (c / h.c) k]) ∧ ∃ v5 v6, σ = [some (.ref a), some (.int c), some (.ref e), some (.int k), some (.ref l), v5, v6])
      ⟨sl, bag0, none, none, rfl⟩ (fun i σ H' _ g => Same.seq (s1.trans g.1) hE) ?_ ?_
    · rintro i x σ H' hx ⟨s5, ⟨as, b1, b2⟩, v5, v6, rfl⟩
      rw [List.getElem?_map] at hx
      obtain ⟨y, hy, rfl⟩ := Option.map_eq_some_iff.mp hx
      have hlen := lines_fold_len h k (es.take i) [nIn (c / h.c) k]
      have hlt : (es.take i).length ≤ 12 := by rw [List.length_take]; omega
      rw [List.length_singleton] at hlen
      have step : (es.take (i + 1)).foldl (lineStep h k) [nIn (c / h.c) k] = lineStep h k ((es.take i).foldl (lineStep h k) [nIn (c / h.c) k]) y := by
        rw [List.take_succ, hy, List.foldl_append]
        rfl
      rw [step]
      generalize (es.take i).foldl (lineStep h k) [nIn (c / h.c) k] = ds at b2 hlen
      have hn := Paired.length b2
      have hH5 := Same.seqT (s1.trans s5) hH
      refine ⟨_, rfl, _, rfl, a, _, _, _, rfl, rfl, hH5, rfl, _, _, rfl, rfl, ⟨by omega, by omega⟩, _, rfl, (by show 3 ≤ sizeLine; decide), fun u hu => ?_⟩
      have eu := upd_same (H := H') (a := u) (o := .tup [.str "out", .int (y / h.e), .int k])
      have s6 := same_new hu (.tup [.str "out", .int (y / h.e), .int k])
      generalize upd H' u (.tup [.str "out", .int (y / h.e), .int k]) = H6 at eu s6 ⊢
      have c1 := s6 _ _ b1
      have c2 := TupsK.same (fun b xs hb => s6 _ _ hb) b2
      refine ⟨_, rfl, _, rfl, l, u, as, nOut (y / h.e) k, ds, rfl, rfl, SqL.of c1, SqT.of eu, paired_mem c2 (fun _ _ _ z => SqT.of z), _, rfl, ?_⟩
      refine ite2 (fun cc => ?_) (fun cc => ?_)
      · have cc' : inD ds (nOut (y / h.e) k) = false := by simpa using cc
        refine ⟨_, rfl, .inl ⟨rfl, _, SqL.of c1⟩, _, rfl, l, as.map V.ref, .ref u, rfl, rfl, c1, small1000 (by rw [List.length_map, hn]; omega), ?_⟩
        refine ⟨Same.put (s5.trans s6) hl, ?_, _, _, rfl⟩
        unfold lineStep
        rw [if_neg (by rw [cc']; exact Bool.false_ne_true)]
        exact BagK.push (d := nOut (y / h.e) k) c1 c2 eu
      · have cc' : inD ds (nOut (y / h.e) k) = true := by simpa using cc
        refine ⟨s5.trans s6, ?_, _, _, rfl⟩
        unfold lineStep
        rw [if_pos cc']
        exact ⟨as, c1, c2⟩
    · rintro σ H' ⟨s5, ⟨as, b1, b2⟩, v5, v6, rfl⟩
      rw [List.length_map, List.take_length] at b2
      exact ⟨_, rfl, q l as H' (s1.trans s5) (s1.free hl) b1 b2⟩
end

structure Call where
  c : Int
  es : List Int
  k : Int
structure Call.In (k : Call) (h : Hall) : Prop where
  c : 0 ≤ k.c ∧ k.c < h.i * h.c
  rise : k.es.Pairwise (· < ·)
  es : ∀ e ∈ k.es, 0 ≤ e ∧ e < h.o * h.e
  some : k.es ≠ []
  few : k.es.length ≤ 12
  k : 0 ≤ k.k ∧ k.k < h.m
def nCaller (c : Int) : List Key := [.inr "caller", .inl c]
def nEnd (e : Int) : List Key := [.inr "end", .inl e]
def needsM (h : Hall) (k : Call) : List (List Key) := linesM h k.c k.es k.k ++ [nCaller k.c] ++ k.es.map nEnd
theorem mem_needs {h : Hall} {k : Call} {d : List Key} : d ∈ needsM h k ↔ d = nIn (k.c / h.c) k.k ∨ (∃ e ∈ k.es, d = nOut (e / h.e) k.k) ∨ d = nCaller k.c ∨ ∃ e ∈ k.es, d = nEnd e := by
  unfold needsM
  rw [List.mem_append, List.mem_append, mem_lines, List.mem_singleton, List.mem_map, or_assoc, or_assoc]
  have : (∃ a, a ∈ k.es ∧ nEnd a = d) ↔ ∃ e ∈ k.es, d = nEnd e := ⟨fun ⟨a, h1, h2⟩ => ⟨a, h1, h2.symm⟩, fun ⟨a, h1, h2⟩ => ⟨a, h1, h2.symm⟩⟩
  rw [this]
theorem needs_len {h : Hall} {k : Call} (few : k.es.length ≤ 12) : (needsM h k).length ≤ 26 := by
  unfold needsM
  have := lines_len h k.c k.es k.k
  rw [List.length_append, List.length_append, List.length_singleton, List.length_map]
  omega
def CallAt (H : Hp) (p : Addr) (k : Call) : Prop := ∃ e : Addr, H e = some (.tup (k.es.map V.int)) ∧ H p = some (.tup [.int k.c, .ref e, .int k.k])
theorem CallAt.same {H H' : Hp} {p : Addr} {k : Call} (s : ∀ b xs, H b = some (.tup xs) → H' b = some (.tup xs)) (h : CallAt H p k) : CallAt H' p k := by
  obtain ⟨e, h1, h2⟩ := h
  exact ⟨e, s _ _ h1, s _ _ h2⟩
def SameX (t : Addr) (H H' : Hp) : Prop := ∀ b u, b ≠ t → H b = some u → H' b = some u
theorem keyed_paired {K : PySem.W.Frag} {H : Hp} : ∀ {as : List Addr} {ds : List (List Key)}, TupsK H as ds → Paired (rTup K rKey H) (as.map V.ref) ds
  | _, _, .nil => .nil
  | _, _, .cons h t => .cons ⟨_, _, rfl, SqT.of h, keys_paired _⟩ (keyed_paired t)
theorem paired_append {α β : Type} {R : α → β → Prop} {as' : List α} {ds' : List β} (h' : Paired R as' ds') : ∀ {as : List α} {ds : List β}, Paired R as ds → Paired R (as ++ as') (ds ++ ds')
  | _, _, .nil => h'
  | _, _, .cons h t => .cons h (paired_append h' t)
theorem rise_of {es es' : List Int} (p : es'.Perm es) (s : es'.Pairwise (· ≤ ·)) (nd : es.Nodup) : es'.Pairwise (· < ·) := by
  have nd' : es'.Nodup := p.nodup_iff.mpr nd
  exact (s.and nd').imp fun {a b} ⟨h1, h2⟩ => by omega
def spNum : Sp := fun vs H Q _ => ∃ (c : Int) (i : Nat), vs = [.int c, .int i] ∧ i < 64 ∧ ∀ n : Int, 0 ≤ n → Q (.int n) H
def spTry (K : PySem.W.Frag) : Sp := fun vs H Q _ => ∃ (a t : Addr) (h : Hall) (n : Int) (kvs : List (List Key × V)), vs = [.ref a, .ref t, .int n] ∧ SqT K H a (h.row.map V.int) ∧ h.Ok ∧ H t = some (.dT kvs) ∧ kvs.length ≤ 10000 ∧
  (∀ H', Same H H' → Q .non H') ∧
  ∀ (p : Addr) (k : Call) (kvs' : List (List Key × V)) (H' : Hp), SameX t H H' → H' t = some (.dT kvs') → CallAt H' p k → k.In h → (∀ d ∈ needsM h k, ¬ (valV kvs d).isSome = true) → (∀ d, (valV kvs' d).isSome = true ↔ (valV kvs d).isSome = true ∨ d ∈ needsM h k) → kvs'.length ≤ kvs.length + 26 → Q (.ref p) H'
section
variable {P : Program} {w : World} {K : PySem.W.Frag} {mg : Str → Option Value} {base : Heap}
theorem sc__law_number : FnScope ["_law_cell", "_law_at"] ["_law_cell", "_law_at"] (defScope (top 22)) := ⟨rfl, rfl, rfl, by decide +kernel, rfl, by decide +kernel, by decide +kernel⟩
theorem ok_number (T : Txt K mg) (D : Def K mg "_law_number" (top 22) ["_law_cell", "_law_at"]) : Callee P w K mg base 1 "_law_number" ["_law_cell", "_law_at"] spNum := by
  refine D.ok sc__law_number (fun vs H Q E h => ?_) (fun f cdv A outer s H vs Q E hr h => ?_)
  · obtain ⟨c, i, rfl, _⟩ := h
    rfl
  obtain ⟨c, i, rfl, hi, q⟩ := h
  refine ⟨_, (pss_one (ps_ret (pe_op op_add (pe_op op_mul (pe_callB call_abs rfl T.m_abs boot_abs (pa_cons (pv 0) pa_nil st_name)) (pe_op op_add (pe_op op_mul pe_int (pv 1)) pe_int)) (pe_op op_mul (pv 1) (pv 1))))), ?_⟩
  refine ⟨_, rfl, _, rfl, _, rfl, _, _, rfl, rfl, .inl ⟨by decide, by decide⟩, _, _, rfl, rfl, _, _, rfl, rfl, .inr ⟨by omega, by omega⟩, _, rfl, _, rfl, _, _, rfl, rfl, .inl ⟨by omega, by omega⟩, _, _, rfl, rfl, ?_⟩
  refine q _ (Int.add_nonneg (Int.mul_nonneg ?_ (by omega)) (Int.mul_nonneg (by omega) (by omega)))
  split <;> omega
theorem sc__law_try : FnScope ["_law_hall_here", "_law_taken_here", "_law_number_here", "_law_caller", "_law_ends_here", "_law_step", "_law_k", "_law_need", "_law_one"] ["_law_hall_here", "_law_taken_here", "_law_number_here"] (defScope (top 23)) := ⟨rfl, rfl, rfl, by decide +kernel, rfl, by decide +kernel, by decide +kernel⟩
theorem ok_try (T : Txt K mg) (C__law_ends : Callee P w K mg base 1 "_law_ends" ["_law_hall_here", "_law_number_here"] (spEnds K)) (C__law_lines : Callee P w K mg base 1 "_law_lines" ["_law_hall_here", "_law_caller", "_law_ends_here", "_law_k"] (spLines K)) (D : Def K mg "_law_try" (top 23) ["_law_hall_here", "_law_taken_here", "_law_number_here"]) : Callee P w K mg base 2 "_law_try" ["_law_hall_here", "_law_taken_here", "_law_number_here"] (spTry K) := by
  refine D.ok sc__law_try (fun vs H Q E h => ?_) (fun f cdv A outer s H vs Q E hr h => ?_)
  · obtain ⟨a, t, h, n, kvs, rfl, _⟩ := h
    rfl
  obtain ⟨a, t, h, n, kvs, rfl, hH, ok, ht, hk, qN, q⟩ := h
  have b1 := ok.ic
  have b2 := ok.i
  have b3 := ok.m
  have b4 := ok.c
  refine ⟨_, (pss_cons (ps_set (i := 3) sc__law_try.nd rfl (Or.inl rfl) (pe_op op_mod (pe_op op_mod (pe_op op_mul (pv 2) pe_int) pe_int) (pe_op op_mul (pe_ix (ix_tupK K) (pv 0) pe_int (fun _ _ => rfl)) (pe_ix (ix_tupK K) (pv 0) pe_int (fun _ _ => rfl)))))
    (pss_cons (ps_set (i := 4) sc__law_try.nd rfl (Or.inl rfl) (pe_callB (call_sortedK K) rfl T.m_sorted boot_sorted (pa_cons (pe_fn C__law_ends hr rfl (pa_cons (pv 0) (pa_cons (pv 2) pa_nil st_name) st_name)) pa_nil st_call)))
    (pss_cons (ps_for PassesOwn.never rfl (pi_range1 rfl T.m_range (pa_cons (pe_callB (call_min2 rfl) rfl T.m_min boot_min (pa_cons (pe_ix (ix_tupK K) (pv 0) pe_int (fun _ _ => rfl)) (pa_cons pe_int pa_nil st_const) st_sub)) pa_nil st_call)) (pg_name (i := 5) sc__law_try.nd rfl (Or.inl rfl))
    (pss_cons (ps_set (i := 6) sc__law_try.nd rfl (Or.inl rfl) (pe_op op_mod (pe_op op_add (pe_op op_mod (pe_op op_mul (pv 2) pe_int) pe_int) (pv 5)) (pe_ix (ix_tupK K) (pv 0) pe_int (fun _ _ => rfl))))
    (pss_cons (ps_set (i := 7) sc__law_try.nd rfl (Or.inl rfl) (pe_op op_cat (pe_op op_cat (pe_fn C__law_lines hr rfl (pa_cons (pv 0) (pa_cons (pv 3) (pa_cons (pv 4) (pa_cons (pv 6) pa_nil st_name) st_name) st_name) st_name)) (pe_lst (pa_cons (pe_tup (pa_cons pe_str (pa_cons (pv 3) pa_nil st_name) st_const)) pa_nil st_tup))) (pe_comp (own := ["_law_end"]) (fr := []) rfl (show CompScope ["_law_hall_here", "_law_taken_here", "_law_number_here", "_law_caller", "_law_ends_here", "_law_step", "_law_k", "_law_need", "_law_one"] (defScope (top 23)) _ _ _ from ⟨rfl, by decide +kernel, by decide +kernel, by decide +kernel, by decide +kernel⟩) (pi_listK K (pv 4)) (fun cl C s H ex => ⟨(pg_name (i := 0) (show (["_law_end"] : List Str).Nodup from by decide +kernel) rfl (Or.inl rfl) (Or.inr rfl)), pif_nil, (pe_tup (pa_cons pe_str (pa_cons (pv 0) pa_nil st_name) st_const))⟩))))
    (pss_one (ps_if (pt_cmpR (op_eqRK K (ep_tup ep_key) (Room.units2 hr)) (pe_comp (own := ["_law_one"]) (fr := [(1, "_law_taken_here")]) rfl (show CompScope ["_law_hall_here", "_law_taken_here", "_law_number_here", "_law_caller", "_law_ends_here", "_law_step", "_law_k", "_law_need", "_law_one"] (defScope (top 23)) _ _ _ from ⟨rfl, by decide +kernel, by decide +kernel, by decide +kernel, by decide +kernel⟩) (pi_listK K (pv 7)) (fun cl C s H ex => ⟨(pg_name (i := 0) (show (["_law_one", "_law_taken_here"] : List Str).Nodup from by decide +kernel) rfl (Or.inl rfl) (Or.inr rfl)), (pif_one (pt_cmp (pc_din (hu_of hr) (pv 0) (pv 1)))), (pv 0)⟩)) (pe_lst pa_nil) (nomark _)) (pss_cons (ps_for PassesOwn.never rfl (pi_listK K (pv 7)) (pg_name (i := 8) sc__law_try.nd rfl (Or.inl rfl))
    (pss_one (ps_dput (hu_of hr) (pv 1) (pv 8) pe_bl rfl)))
    (pss_one (ps_ret (pe_tup (pa_cons (pv 3) (pa_cons (pe_callTy (call_tupleK K) rfl T.m_tuple boot_tuple (pa_cons (pv 4) pa_nil st_name)) (pa_cons (pv 6) pa_nil st_name) st_call) st_name))))) pss_nil)))))
    (pss_one (ps_ret pe_non))))), ?_⟩
  refine ⟨_, rfl, _, _, rfl, rfl, .inr ⟨by decide, by decide⟩, _, _, rfl, rfl, (by show (0 : Int) < 1000003; decide), _, rfl, a, _, _, _, rfl, rfl, hH, rfl, _, rfl, a, _, _, _, rfl, rfl, hH, rfl, _, _, rfl, rfl, .inl ⟨by omega, by omega⟩, _, _, rfl, rfl, (by show 0 < h.i * h.c; omega), ?_⟩
  have hc : 0 ≤ n * 48271 % 1000003 % (h.i * h.c) ∧ n * 48271 % 1000003 % (h.i * h.c) < h.i * h.c := mod_in (by omega)
  refine ⟨_, rfl, _, rfl, a, h, n, rfl, hH, ok, fun l0 es0 H0 s0 _ el0 eo => ?_⟩
  have few := eo.few
  refine ⟨l0, es0, rfl, SqL.of el0, by omega, fun es pm up le hle => ?_⟩
  have ee := upd_same (H := H0) (a := le) (o := .lst (es.map V.int))
  have s1 := s0.trans (same_new hle (.lst (es.map V.int)))
  generalize upd H0 le (.lst (es.map V.int)) = H1 at ee s1 ⊢
  have hes : ∀ e ∈ es, 0 ≤ e ∧ e < h.o * h.e := fun e he => eo.es e (pm.mem_iff.mp he)
  have hlen : es.length ≤ 12 := by rw [pm.length_eq]; exact few
  have hne : es ≠ [] := fun z => eo.some (by rw [z] at pm; exact pm.symm.eq_nil)
  have hri := rise_of pm up eo.nd
  refine ⟨_, rfl, a, _, _, _, rfl, rfl, Same.seqT s1 hH, rfl, _, _, rfl, _, rfl, ?_, ?_, ?_⟩
  · show -(2 ^ 62) ≤ (if (6 : Int) < h.m then 6 else h.m)
    split <;> omega
  · show (if (6 : Int) < h.m then 6 else h.m) < 2 ^ 62
    split <;> omega
  refine for_range (fun i σ H' => Same H H' ∧ H' le = some (.lst (es.map V.int)) ∧ ∃ c v5 v6 v7 v8, (0 ≤ c ∧ c < h.i * h.c) ∧ σ = [some (.ref a), some (.ref t), some (.int n), some (.int c), some (.ref le), v5, v6, v7, v8])
    ⟨s1, ee, _, none, none, none, none, hc, rfl⟩ ?_ ?_
  · rintro i σ H' hi ⟨s2, ee2, c, v5, v6, v7, v8, hc, rfl⟩
    have hH2 := Same.seqT s2 hH
    refine ⟨_, rfl, _, _, rfl, rfl, .inr ⟨by decide, by decide⟩, _, _, rfl, rfl, (by show (0 : Int) < 999979; decide), _, rfl, _, _, rfl, rfl, _, rfl, a, _, _, _, rfl, rfl, hH2, rfl, _, _, rfl, rfl, (by show 0 < h.m; omega), ?_⟩
    have hkk : 0 ≤ (n * 40692 % 999979 + (0 + (i : Int))) % h.m ∧ (n * 40692 % 999979 + (0 + (i : Int))) % h.m < h.m := mod_in (by omega)
    refine ⟨_, rfl, _, rfl, _, rfl, _, rfl, a, le, h, c, (n * 40692 % 999979 + (0 + (i : Int))) % h.m, es, rfl, hH2, ok, .inr (SqL.of ee2), hlen, fun l1 as1 H3 s3 _ el1 tk1 => ?_⟩
    refine ⟨_, rfl, (by show 2 ≤ sizeLine; decide), fun t2 ht2 => ?_⟩
    have et2 := upd_same (H := H3) (a := t2) (o := .tup [.str "caller", .int c])
    have s4 := same_new ht2 (.tup [.str "caller", .int c])
    generalize upd H3 t2 (.tup [.str "caller", .int c]) = H4 at et2 s4 ⊢
    refine ⟨(by show 1 ≤ sizeLine; decide), fun l2 hl2 => ?_⟩
    have el2 := upd_same (H := H4) (a := l2) (o := .lst [.ref t2])
    have s5 := same_new hl2 (.lst [.ref t2])
    generalize upd H4 l2 (.lst [.ref t2]) = H5 at el2 s5 ⊢
    have ln1 := Paired.length tk1
    have ln2 := lines_len h c es ((n * 40692 % 999979 + (0 + (i : Int))) % h.m)
    refine ⟨l1, l2, as1.map V.ref, [.ref t2], rfl, rfl, s5 _ _ (s4 _ _ el1), el2, Nat.le_of_lt (small1000 (by rw [List.length_map, List.length_singleton]; omega)), fun l3 hl3 => ?_⟩
    have el3 := upd_same (H := H5) (a := l3) (o := .lst (as1.map V.ref ++ [.ref t2]))
    have s6 := same_new hl3 (.lst (as1.map V.ref ++ [.ref t2]))
    generalize upd H5 l3 (.lst (as1.map V.ref ++ [.ref t2])) = H6 at el3 s6 ⊢
    have s46 := (s4.trans s5).trans s6
    have tk3 : TupsK H6 (as1 ++ [t2]) (linesM h c es ((n * 40692 % 999979 + (0 + (i : Int))) % h.m) ++ [nCaller c]) := Paired.snoc (TupsK.same (fun b xs z => s46 _ _ z) tk1) (s6 _ _ (s5 _ _ et2))
    have el3' : H6 l3 = some (.lst ((as1 ++ [t2]).map V.ref)) := by rw [el3, List.map_append]; rfl
    have ee6 := s46 _ _ (s3 _ _ ee2)
    refine ⟨_, rfl, le, rfl, ⟨_, SqL.of ee6⟩, ?_⟩
    refine comp_list (xs := es.map V.int) (fun j acc σ H'' => Same H6 H'' ∧ (∃ bs, acc = bs.map V.ref ∧ TupsK H'' bs ((es.take j).map nEnd)) ∧ ∃ v, σ = [v])
      ⟨Same.refl H6, ⟨[], rfl, .nil⟩, none, rfl⟩ (Nat.le_of_lt (small1000 (by rw [List.length_map]; omega))) (fun j acc σ H'' g => ?_) (fun j acc σ H'' _ g => SqL.of (g.1 _ _ ee6)) ?_ ?_
    · obtain ⟨_, ⟨bs, rfl, hb⟩, _⟩ := g
      have := Paired.length hb
      rw [List.length_map, this, List.length_map, List.length_take]
      omega
    · rintro j y acc σ H'' hy ⟨g1, ⟨bs, rfl, hb⟩, v, rfl⟩
      rw [List.getElem?_map] at hy
      obtain ⟨e, he, rfl⟩ := Option.map_eq_some_iff.mp hy
      refine ⟨_, rfl, (by show 2 ≤ sizeLine; decide), fun u hu => ⟨g1.trans (same_new hu _), ⟨bs ++ [u], by rw [List.map_append]; rfl, ?_⟩, _, rfl⟩⟩
      rw [List.take_succ, he, List.map_append]
      exact Paired.snoc (TupsK.same (fun b xs z => same_new hu _ _ _ z) hb) upd_same
    rintro acc σ H7 ⟨s7, ⟨bs, rfl, hb⟩, v, rfl⟩ l4 hl4
    rw [List.length_map, List.take_length] at hb
    have el4 := upd_same (H := H7) (a := l4) (o := .lst (bs.map V.ref))
    have s8 := same_new hl4 (.lst (bs.map V.ref))
    generalize upd H7 l4 (.lst (bs.map V.ref)) = H8 at el4 s8 ⊢
    have lb := Paired.length hb
    rw [List.length_map] at lb
    refine ⟨l3, l4, (as1 ++ [t2]).map V.ref, bs.map V.ref, rfl, rfl, s8 _ _ (s7 _ _ el3'), el4, Nat.le_of_lt (small1000 (by rw [List.length_map, List.length_map, List.length_append, List.length_singleton]; omega)), fun nl hnl => ?_⟩
    have en := upd_same (H := H8) (a := nl) (o := .lst ((as1 ++ [t2]).map V.ref ++ bs.map V.ref))
    have s9 := same_new hnl (.lst ((as1 ++ [t2]).map V.ref ++ bs.map V.ref))
    generalize upd H8 nl (.lst ((as1 ++ [t2]).map V.ref ++ bs.map V.ref)) = H9 at en s9 ⊢
    rw [← List.map_append] at en
    have s79 := (s7.trans s8).trans s9
    have tn : TupsK H9 ((as1 ++ [t2]) ++ bs) (needsM h ⟨c, es, ((n * 40692 % 999979 + (0 + (i : Int))) % h.m)⟩) := paired_append (TupsK.same (fun b xs z => s9 _ _ (s8 _ _ z)) hb) (TupsK.same (fun b xs z => s79 _ _ z) tk3)
    generalize (as1 ++ [t2]) ++ bs = nas at en tn
    have hIn : Call.In ⟨c, es, ((n * 40692 % 999979 + (0 + (i : Int))) % h.m)⟩ h := ⟨hc, hri, hes, hne, hlen, hkk⟩
    have nl26 : (needsM h ⟨c, es, ((n * 40692 % 999979 + (0 + (i : Int))) % h.m)⟩).length ≤ 26 := needs_len hlen
    have nn := Paired.length tn
    have s29 : Same H H9 := s2.trans ((s3.trans s46).trans s79)
    have ht9 := s29 _ _ ht
    have ee9 : H9 le = some (.lst (es.map V.int)) := s79 _ _ ee6
    generalize hds : needsM h ⟨c, es, ((n * 40692 % 999979 + (0 + (i : Int))) % h.m)⟩ = ds at tn nl26 nn
    refine ⟨_, rfl, nl, rfl, ⟨_, SqL.of en⟩, ?_⟩
    refine comp_list (xs := nas.map V.ref) (fun j acc σ H'' => H'' = H9 ∧ (∃ bs, acc = bs.map V.ref ∧ TupsK H9 bs ((ds.take j).filter fun d => (valV kvs d).isSome)) ∧ ∃ v, σ = [v, some (.ref t)])
      ⟨rfl, ⟨[], rfl, .nil⟩, none, rfl⟩ (Nat.le_of_lt (small1000 (by rw [List.length_map]; omega))) (fun j acc σ H'' g => ?_) (fun j acc σ H'' _ g => by rw [g.1]; exact SqL.of en) ?_ ?_
    · obtain ⟨_, ⟨bs, rfl, hb⟩, _⟩ := g
      have := Paired.length hb
      rw [List.length_map, this]
      exact Nat.le_trans (List.length_filter_le _ _) (by rw [List.length_take]; omega)
    · rintro j y acc σ H'' hy ⟨rfl, ⟨bs, rfl, hb⟩, v, rfl⟩
      rw [List.getElem?_map] at hy
      obtain ⟨x, hx, rfl⟩ := Option.map_eq_some_iff.mp hy
      obtain ⟨d, hd1, hd2⟩ := paired_at tn j x hx
      have step : (ds.take (j + 1)).filter (fun d => (valV kvs d).isSome) = (ds.take j).filter (fun d => (valV kvs d).isSome) ++ (if (valV kvs d).isSome = true then [d] else []) := by
        rw [List.take_succ, hd1, List.filter_append]
        by_cases c : (valV kvs d).isSome = true
        · rw [if_pos c]
          simp [c]
        · rw [if_neg c]
          simp [c]
      refine ⟨_, rfl, _, rfl, t, _, rfl, DGet.t ht9 hd2, _, rfl, ?_⟩
      refine ite2 (fun c => ?_) (fun c => ?_)
      · refine ⟨_, rfl, rfl, ⟨bs ++ [_], by rw [List.map_append]; rfl, ?_⟩, _, rfl⟩
        rw [step, if_pos c]
        exact Paired.snoc hb hd2
      · refine ⟨rfl, ⟨bs, rfl, ?_⟩, _, rfl⟩
        rw [step, if_neg c, List.append_nil]
        exact hb
    rintro acc σ H'' ⟨rfl, ⟨bs, rfl, hb⟩, v, rfl⟩ l5 hl5
    rw [List.length_map, nn, List.take_length] at hb
    have el5 := upd_same (H := H'') (a := l5) (o := .lst (bs.map V.ref))
    have s10 := same_new hl5 (.lst (bs.map V.ref))
    generalize upd H'' l5 (.lst (bs.map V.ref)) = H10 at el5 s10 ⊢
    refine ⟨(by show 0 ≤ sizeLine; decide), fun o ho => ?_⟩
    have eo := upd_same (H := H10) (a := o) (o := .lst [])
    have s11 := same_new ho (.lst [])
    generalize upd H10 o (.lst []) = H11 at eo s11 ⊢
    have sA := s10.trans s11
    refine ⟨_, [], ⟨l5, _, rfl, SqL.of (s11 _ _ el5), keyed_paired (TupsK.same (fun b xs q => sA _ _ q) hb)⟩, ⟨o, [], rfl, SqL.of eo, .nil⟩, _, rfl, ?_⟩
    have htA := sA _ _ ht9
    have enA := sA _ _ en
    have eeA := sA _ _ ee9
    have tnA := TupsK.same (fun b xs q => sA _ _ q) tn
    have sB : Same H H11 := s29.trans sA
    have hnt : nl ≠ t := fun z => by rw [z, htA] at enA; cases enA
    have hlt : le ≠ t := fun z => by rw [z, htA] at eeA; cases eeA
    refine ite2 (fun cc => ?_) (fun cc => ?_)
    · have c0 : ds.filter (fun d => (valV kvs d).isSome) = [] := of_decide_eq_true cc
      have fr : ∀ d ∈ ds, ¬ (valV kvs d).isSome = true := fun d hd z => List.filter_eq_nil_iff.mp c0 d hd z
      refine ⟨_, rfl, nl, rfl, ⟨_, SqL.of enA⟩, ?_⟩
      refine for_list (xs := nas.map V.ref) (fun j σ H' => SameX t H11 H' ∧ ∃ kvs', H' t = some (.dT kvs') ∧ kvs'.length ≤ kvs.length + j ∧ (∀ d, (valV kvs' d).isSome = true ↔ (valV kvs d).isSome = true ∨ d ∈ ds.take j) ∧ ∃ v8, σ = [some (.ref a), some (.ref t), some (.int n), some (.int c), some (.ref le), some (.int (0 + (i : Int))), some (.int ((n * 40692 % 999979 + (0 + (i : Int))) % h.m)), some (.ref nl), v8])
        ⟨fun _ _ _ z => z, kvs, htA, Nat.le_refl _, (fun d => by simp), _, rfl⟩ (fun j σ H' _ g => SqL.of (g.1 _ _ hnt enA)) ?_ ?_
      · rintro j y σ H' hy ⟨t1, kvs', t2, t7, t9, v8, rfl⟩
        rw [List.getElem?_map] at hy
        obtain ⟨x, hx, rfl⟩ := Option.map_eq_some_iff.mp hy
        obtain ⟨d, hd1, hd2⟩ := paired_at tnA j x hx
        have hj : j < 26 := by
          have := (List.getElem?_eq_some_iff.mp hd1).1
          omega
        replace hd2 : H11 x = some (.tup (d.map kV)) := hd2
        have hxt : x ≠ t := fun z => by rw [z, htA] at hd2; cases hd2
        refine ⟨_, rfl, _, rfl, t, _, rfl, DPut.t t2 (t1 _ _ hxt hd2) (by show kvs'.length < 16777216; omega), ?_⟩
        refine ⟨fun b u hb z => by rw [upd_ne hb]; exact t1 b u hb z, _, upd_same, ?_, fun d' => ?_, _, rfl⟩
        · have := length_putK kvs' d (.bl true)
          omega
        · rw [valV_put, List.take_succ, hd1, List.mem_append]
          by_cases c : d' = d
          · rw [if_pos c]
            simp [c]
          · rw [if_neg c, t9]
            simp [c]
      · rintro σ H' ⟨t1, kvs', t2, t7, t9, v8, rfl⟩
        rw [List.length_map, nn] at t7 t9
        rw [List.take_length] at t9
        refine ⟨_, rfl, _, rfl, le, _, rfl, .inl ⟨SqL.of (t1 _ _ hlt eeA), fun e he => ?_⟩⟩
        refine ⟨_, rfl, (by show 3 ≤ sizeLine; decide), fun p hp => ?_⟩
        refine q p ⟨c, es, (n * 40692 % 999979 + (0 + (i : Int))) % h.m⟩ kvs' _ (fun b u hb z => ?_) ?_ ⟨e, ?_, upd_same⟩ hIn (by rw [hds]; exact fr) (by rw [hds]; exact t9) (by omega)
        · have h1 := t1 b u hb (sB _ _ z)
          exact same_new hp _ _ _ (same_new he _ _ _ h1)
        · exact same_new hp _ _ _ (same_new he _ _ _ t2)
        · exact same_new hp _ _ _ upd_same
    · exact ⟨sB, eeA, c, _, _, _, _, hc, rfl⟩
  · rintro σ H' ⟨s2, ee2, c, v5, v6, v7, v8, hc, rfl⟩
    exact qN H' s2
end

def Free (h : Hall) (k k' : Call) : Prop := ∀ d ∈ needsM h k, ¬ d ∈ needsM h k'
theorem Free.symm {h : Hall} {k k' : Call} (f : Free h k k') : Free h k' k := fun d h1 h2 => f d h2 h1
theorem Free.caller {h : Hall} {k k' : Call} (f : Free h k k') : k.c ≠ k'.c := fun z => f (nCaller k.c) (mem_needs.mpr (.inr (.inr (.inl rfl)))) (mem_needs.mpr (.inr (.inr (.inl (by rw [z])))))
def CallsAt (H : Hp) (as : List Addr) (ks : List Call) : Prop := Paired (CallAt H) as ks
theorem CallsAt.same {H H' : Hp} {as : List Addr} {ks : List Call} (s : ∀ b xs, H b = some (.tup xs) → H' b = some (.tup xs)) (h : CallsAt H as ks) : CallsAt H' as ks := by
  unfold CallsAt at h ⊢
  exact paired_mem h fun a d _ e => CallAt.same s e
theorem paired_pick {α β : Type} {R : α → β → Prop} {as : List α} {ds : List β} (a0 : α) (d0 : β) (h : Paired R as ds) : ∀ (is : List Nat), (∀ i ∈ is, i < ds.length) → Paired R (is.map fun i => as.getD i a0) (is.map fun i => ds.getD i d0)
  | [], _ => .nil
  | i :: t, hin => by
    refine .cons ?_ (paired_pick a0 d0 h t fun j hj => hin j (List.mem_cons_of_mem _ hj))
    have hi := hin i (List.mem_cons_self ..)
    have hl : as.length = ds.length := Paired.length h
    have ea : as[i]? = some (as[i]'(by omega)) := List.getElem?_eq_getElem (by omega)
    obtain ⟨d, e2, hs⟩ := paired_at h i _ ea
    show R (as.getD i a0) (ds.getD i d0)
    rw [show as.getD i a0 = as[i]'(by omega) by rw [List.getD, ea]; rfl, show ds.getD i d0 = d by rw [List.getD, e2]; rfl]
    exact hs
theorem calls_items {K : PySem.W.Frag} {H : Hp} : ∀ {as : List Addr} {ks : List Call}, CallsAt H as ks → ∃ its : List (List V), TupsAt K H as its ∧ Paired (fun k xs => ∃ e, xs = [V.int k.c, V.ref e, V.int k.k]) ks its
  | _, _, .nil => ⟨[], .nil, .nil⟩
  | _, _, .cons (b := k) ⟨e, h1, h2⟩ t => by
    obtain ⟨its, q1, q2⟩ := calls_items t
    exact ⟨[V.int k.c, V.ref e, V.int k.k] :: its, .cons ⟨SqT.of h2, _, _, rfl⟩ q1, .cons ⟨e, rfl⟩ q2⟩

theorem paired_take {α β : Type} {R : α → β → Prop} : ∀ {as : List α} {ds : List β} (i : Nat), Paired R as ds → Paired R (as.take i) (ds.take i)
  | _, _, 0, _ => .nil
  | _, _, i + 1, .nil => .nil
  | _, _, i + 1, .cons h t => .cons h (paired_take i t)
theorem paired_drop {α β : Type} {R : α → β → Prop} : ∀ {as : List α} {ds : List β} (i : Nat), Paired R as ds → Paired R (as.drop i) (ds.drop i)
  | _, _, 0, h => h
  | _, _, i + 1, .nil => .nil
  | _, _, i + 1, .cons h t => paired_drop i t
theorem cut_calls {H : Hp} {as : List Addr} {ks : List Call} (hC : CallsAt H as ks) (lo hi : Option Int) : ∃ as' ks', cutV (as.map V.ref) lo hi = as'.map V.ref ∧ CallsAt H as' ks' ∧ (∀ k ∈ ks', k ∈ ks) ∧ ks'.length ≤ ks.length := by
  refine ⟨(as.drop (HT.sIx (as.map V.ref).length 0 lo)).take (HT.sIx (as.map V.ref).length (as.map V.ref).length hi - HT.sIx (as.map V.ref).length 0 lo), (ks.drop (HT.sIx (as.map V.ref).length 0 lo)).take (HT.sIx (as.map V.ref).length (as.map V.ref).length hi - HT.sIx (as.map V.ref).length 0 lo), ?_, paired_take _ (paired_drop _ hC), fun k hk => List.mem_of_mem_drop (List.mem_of_mem_take hk), ?_⟩
  · unfold cutV
    rw [List.map_take, List.map_drop]
  · rw [List.length_take, List.length_drop]
    omega
theorem sorted_calls {K : PySem.W.Frag} {H : Hp} {l : Addr} {as : List Addr} {ks : List Call} {Q : VK} (el : H l = some (.lst (as.map V.ref))) (hC : CallsAt H as ks) (h64 : ks.length < 64) (ne : ks.Pairwise fun k k' => k.c ≠ k'.c)
    (q : ∀ l2 as' ks', H l2 = none → CallsAt H as' ks' → ks'.Perm ks → ks'.Pairwise (fun k k' => k.c < k'.c) → Q (.ref l2) (upd H l2 (.lst (as'.map V.ref)))) : rSortedT K [.ref l] H Q := by
  obtain ⟨its, t1, t2⟩ := calls_items (K := K) hC
  have la := Paired.length hC
  have lk := Paired.length t2
  have gd : ∀ (i : Nat) k, ks[i]? = some k → ks.getD i ⟨0, [], 0⟩ = k := fun i k e => by rw [List.getD, e]; rfl
  have uniq : ∀ (i j : Nat) k k', ks[i]? = some k → ks[j]? = some k' → k.c = k'.c → i = j := fun i j k k' e1 e2 hc => by
    obtain ⟨q1, z1⟩ := List.getElem?_eq_some_iff.mp e1
    obtain ⟨q2, z2⟩ := List.getElem?_eq_some_iff.mp e2
    rcases Nat.lt_trichotomy i j with hij | hij | hij
    · have := (List.pairwise_iff_getElem.mp ne) i j q1 q2 hij
      rw [z1, z2] at this
      exact absurd hc this
    · exact hij
    · have := (List.pairwise_iff_getElem.mp ne) j i q2 q1 hij
      rw [z1, z2] at this
      exact absurd hc.symm this
  have back : ∀ (i : Nat) x, its[i]? = some x → ∃ k e, ks[i]? = some k ∧ x = [V.int k.c, V.ref e, V.int k.k] := fun i x hx => by
    have hi := (List.getElem?_eq_some_iff.mp hx).1
    have ek : ks[i]? = some (ks[i]'(by omega)) := List.getElem?_eq_getElem (by omega)
    obtain ⟨x', e1, e, e2⟩ := paired_at t2 i _ ek
    rw [hx] at e1
    cases e1
    exact ⟨_, e, ek, e2⟩
  refine ⟨l, as, its, fun i => (ks.getD i ⟨0, [], 0⟩).c, rfl, SqL.of el, t1, by omega, fun i j x y hx hy => ?_, fun pq pm up l2 hl2 => ?_⟩
  · obtain ⟨k, e, e1, rfl⟩ := back i x hx
    obtain ⟨k', e', e2, rfl⟩ := back j y hy
    show (if k.c = k'.c then lexD [V.ref e, V.int k.k] [V.ref e', V.int k'.k] else some (decide (k.c < k'.c))) = some (decide ((ks.getD i ⟨0, [], 0⟩).c < (ks.getD j ⟨0, [], 0⟩).c))
    rw [gd i k e1, gd j k' e2]
    by_cases c : k.c = k'.c
    · obtain rfl := uniq i j k k' e1 e2 c
      rw [hx] at hy
      rw [e1] at e2
      cases e2
      cases hy
      rw [if_pos rfl]
      show (if e = e then (if k.k = k.k then lexD [] [] else some (decide (k.k < k.k))) else none) = _
      rw [if_pos rfl, if_pos rfl, decide_eq_false (Int.lt_irrefl _)]
      rfl
    · rw [if_neg c]
  · rw [la] at pm up
    obtain ⟨g1, g2⟩ := sort_out (xs := ks) pm up ⟨0, [], 0⟩ Call.c fun i _ => rfl
    have hin : ∀ i ∈ pq.toList, i < ks.length := fun i hi => by
      have := (Array.Perm.mem_iff pm (a := i)).mp (by simpa using hi)
      simpa using this
    have cs := paired_pick 0 ⟨0, [], 0⟩ hC pq.toList hin
    generalize (pq.toList.map fun i => ks.getD i ⟨0, [], 0⟩) = ks' at g1 g2 cs
    have ne' : ks'.Pairwise fun k k' => k.c ≠ k'.c := (List.Perm.pairwise_iff (fun q => Ne.symm q) g1).mpr ne
    exact q l2 _ ks' hl2 cs g1 ((g2.and ne').imp fun {k k'} ⟨q1, q2⟩ => by omega)

def AlikeB (x y : V) : Prop := (x = .non ∧ y = .non) ∨ ∃ i : Int, x = .int i ∧ y = .int i
def AlikeAt (H : Hp) : Nat → V → V → Prop
  | 0, x, y => AlikeB x y
  | n + 1, x, y => AlikeB x y ∨ ∃ (p q : Addr) (xs ys : List V), x = .ref p ∧ y = .ref q ∧ ((H p = some (.lst xs) ∧ H q = some (.lst ys)) ∨ (H p = some (.tup xs) ∧ H q = some (.tup ys))) ∧ Paired (AlikeAt H n) xs ys ∧ xs.length ≤ 1000
def spAlike (n : Nat) : Sp := fun vs H Q _ => ∃ x y, vs = [x, y] ∧ AlikeAt H n x y ∧ Q (.bl true) H
theorem AlikeB.at {H : Hp} {n : Nat} {x y : V} (h : AlikeB x y) : AlikeAt H n x y := by
  cases n with
  | zero => exact h
  | succ n => exact .inl h
theorem alike_ints {H : Hp} {n : Nat} : ∀ ns : List Int, Paired (AlikeAt H n) (ns.map V.int) (ns.map V.int)
  | [] => .nil
  | i :: t => .cons (AlikeB.at (.inr ⟨i, rfl, rfl⟩)) (alike_ints t)
section
variable {P : Program} {w : World} {K : PySem.W.Frag} {mg : Str → Option Value} {base : Heap}
theorem callee_never {x : Str} {st : Stmt} {ps : List Str} (D : Def K mg x st ps) (k : Nat) : Callee P w K mg base k x ps (fun _ _ _ _ => False) := by
  obtain ⟨f, fd, F, b, m⟩ := D.ex
  exact ⟨f, fd, ⟨fun _ _ _ _ h => h.elim, fun _ _ _ _ _ _ _ _ _ _ _ _ _ h => h.elim⟩, b, F.kp, m⟩
theorem sc__law_alike : FnScope ["_law_found", "_law_due", "_law_k"] ["_law_found", "_law_due"] (defScope (top 24)) := ⟨rfl, rfl, rfl, by decide +kernel, rfl, by decide +kernel, by decide +kernel⟩
theorem alike_body (T : Txt K mg) (n : Nat) (sp : Sp) (C__law_alike : Callee P w K mg base n "_law_alike" ["_law_found", "_law_due"] sp) (D : Def K mg "_law_alike" (top 24) ["_law_found", "_law_due"]) (hsp : ∀ m, n = m + 1 → sp = spAlike m) : Callee P w K mg base (n+1) "_law_alike" ["_law_found", "_law_due"] (spAlike n) := by
  refine D.ok sc__law_alike (fun vs H Q E h => ?_) (fun f cdv A outer s H vs Q E hr h => ?_)
  · obtain ⟨x, y, rfl, _⟩ := h
    rfl
  obtain ⟨x, y, rfl, hA, q⟩ := h
  refine ⟨_, (pss_cons (ps_if (pt_cmpR op_isN (pv 1) pe_non (nomark _)) (pss_one (ps_ret (pe_cmpR op_isN (pv 0) pe_non (nomark _)))) pss_nil)
    (pss_cons (ps_if (pt_truK K (pe_callB (call_isinstK K) rfl T.m_isinstance boot_isinstance (pa_cons (pv 1) (pa_cons (pe_bltn (v := .ty "int") rfl T.m_int boot_int rfl) pa_nil st_name) st_name)) (fun _ => rfl)) (pss_one (ps_ret (pe_and (pe_callB (call_isinstK K) rfl T.m_isinstance boot_isinstance (pa_cons (pv 0) (pa_cons (pe_bltn (v := .ty "int") rfl T.m_int boot_int rfl) pa_nil st_name) st_name)) (pe_and (pe_not (pe_callB (call_isinstK K) rfl T.m_isinstance boot_isinstance (pa_cons (pv 0) (pa_cons (pe_bltn (v := .ty "bool") rfl T.m_bool boot_bool rfl) pa_nil st_name) st_name))) (pe_one (pe_cmpR op_eq (pv 0) (pv 1) (nomark _))))))) pss_nil)
    (pss_cons (ps_if (pt_truK K (pe_callB (call_isinstK K) rfl T.m_isinstance boot_isinstance (pa_cons (pv 1) (pa_cons (pe_bltn (v := .ty "tuple") rfl T.m_tuple boot_tuple rfl) pa_nil st_name) st_name)) (fun _ => rfl)) (pss_one (ps_if (pt_not (pt_truK K (pe_callB (call_isinstK K) rfl T.m_isinstance boot_isinstance (pa_cons (pv 0) (pa_cons (pe_bltn (v := .ty "tuple") rfl T.m_tuple boot_tuple rfl) pa_nil st_name) st_name)) (fun _ => rfl))) (pss_one (ps_ret pe_bl)) pss_nil)) (pss_one (ps_if (pt_not (pt_truK K (pe_callB (call_isinstK K) rfl T.m_isinstance boot_isinstance (pa_cons (pv 0) (pa_cons (pe_bltn (v := .ty "list") rfl T.m_list boot_list rfl) pa_nil st_name) st_name)) (fun _ => rfl))) (pss_one (ps_ret pe_bl)) pss_nil)))
    (pss_cons (ps_if (pt_cmpR op_ne (pe_callB (call_lenK K) rfl T.m_len boot_len (pa_cons (pv 0) pa_nil st_name)) (pe_callB (call_lenK K) rfl T.m_len boot_len (pa_cons (pv 1) pa_nil st_name)) (nomark _)) (pss_one (ps_ret pe_bl)) pss_nil)
    (pss_cons (ps_for PassesOwn.never rfl (pi_range1 rfl T.m_range (pa_cons (pe_callB (call_lenK K) rfl T.m_len boot_len (pa_cons (pv 1) pa_nil st_name)) pa_nil st_call)) (pg_name (i := 2) sc__law_alike.nd rfl (Or.inl rfl))
    (pss_one (ps_if (pt_not (pt_truK K (pe_fn C__law_alike hr rfl (pa_cons (pe_ix ix_seq (pv 0) (pv 2) (fun _ _ => rfl)) (pa_cons (pe_ix ix_seq (pv 1) (pv 2) (fun _ _ => rfl)) pa_nil st_sub) st_sub) (Nat.le_refl _)) (fun _ => rfl))) (pss_one (ps_ret pe_bl)) pss_nil)))
    (pss_one (ps_ret pe_bl))))))), ?_⟩
  have hB : AlikeB x y ∨ ∃ m, n = m + 1 ∧ ∃ (p q : Addr) (xs ys : List V), x = .ref p ∧ y = .ref q ∧ ((H p = some (.lst xs) ∧ H q = some (.lst ys)) ∨ (H p = some (.tup xs) ∧ H q = some (.tup ys))) ∧ Paired (AlikeAt H m) xs ys ∧ xs.length ≤ 1000 := by
    cases n with
    | zero => exact .inl hA
    | succ m => exact hA.imp id fun z => ⟨m, rfl, z⟩
  rcases hB with (⟨rfl, rfl⟩ | ⟨i, rfl, rfl⟩) | ⟨m, rfl, p, r, xs, ys, rfl, rfl, hk, hp, h1000⟩
  · exact ⟨_, rfl, rfl, _, rfl, iteT ⟨_, rfl, rfl, q⟩⟩
  · refine ⟨_, rfl, rfl, _, rfl, iteF ?_⟩
    refine ⟨_, rfl, _, _, _, true, rfl, .int i, kit_int_int, true, rfl, iteT ?_⟩
    refine ⟨_, rfl, _, _, _, true, rfl, .int i, kit_int_int, _, rfl, iteT ?_⟩
    refine ⟨_, rfl, _, _, _, false, rfl, .int i, kit_int_bool, _, rfl, _, rfl, iteT ?_⟩
    refine ⟨_, rfl, _, rfl, rfl, ?_⟩
    rw [decide_eq_true rfl]
    exact q
  · obtain rfl := hsp m rfl
    have ln := Paired.length hp
    refine ⟨_, rfl, rfl, _, rfl, iteF ?_⟩
    rcases hk with ⟨k1, k2⟩ | ⟨k1, k2⟩
    · refine ⟨_, rfl, _, _, _, false, rfl, .lst k2, kit_lst_int, false, rfl, iteF ?_⟩
      refine ⟨_, rfl, _, _, _, false, rfl, .lst k2, kit_lst_tup, false, rfl, iteF ?_⟩
      refine ⟨_, rfl, _, _, _, true, rfl, .lst k1, kit_lst_lst, true, rfl, iteF ?_⟩
      refine ⟨_, rfl, p, _, rfl, .inl (SqL.of k1), _, rfl, r, _, rfl, .inl (SqL.of k2), rfl, _, rfl, iteN (by simp [ln]) ?_⟩
      refine ⟨_, rfl, r, _, rfl, .inl (SqL.of k2), _, rfl, by omega, by omega, ?_⟩
      rw [Int.toNat_natCast]
      refine for_range (fun i σ H' => H' = H ∧ ∃ v, σ = [some (.ref p), some (.ref r), v]) ⟨rfl, _, rfl⟩ ?_ ?_
      · rintro i σ H' hi ⟨rfl, v, rfl⟩
        rw [Int.zero_add]
        have ex : xs[i]? = some (xs[i]'(by omega)) := List.getElem?_eq_getElem (by omega)
        obtain ⟨y, ey, al⟩ := paired_at hp i _ ex
        refine ⟨_, rfl, _, rfl, .inl ⟨p, _, _, _, rfl, rfl, SqL.of k1, atI_nat ex, _, rfl, _, rfl, .inl ⟨r, _, _, _, rfl, rfl, SqL.of k2, atI_nat ey, _, _, rfl, al, _, rfl, iteF ⟨rfl, _, rfl⟩⟩⟩⟩
      · rintro σ H' ⟨rfl, v, rfl⟩
        exact q
    · refine ⟨_, rfl, _, _, _, false, rfl, .tup k2, kit_tup_int, false, rfl, iteF ?_⟩
      refine ⟨_, rfl, _, _, _, true, rfl, .tup k2, kit_tup_tup, true, rfl, iteT ?_⟩
      refine ⟨_, rfl, _, _, _, true, rfl, .tup k1, kit_tup_tup, true, rfl, iteF ?_⟩
      refine ⟨_, rfl, p, _, rfl, .inr (SqT.of k1), _, rfl, r, _, rfl, .inr (SqT.of k2), rfl, _, rfl, iteN (by simp [ln]) ?_⟩
      refine ⟨_, rfl, r, _, rfl, .inr (SqT.of k2), _, rfl, by omega, by omega, ?_⟩
      rw [Int.toNat_natCast]
      refine for_range (fun i σ H' => H' = H ∧ ∃ v, σ = [some (.ref p), some (.ref r), v]) ⟨rfl, _, rfl⟩ ?_ ?_
      · rintro i σ H' hi ⟨rfl, v, rfl⟩
        rw [Int.zero_add]
        have ex : xs[i]? = some (xs[i]'(by omega)) := List.getElem?_eq_getElem (by omega)
        obtain ⟨y, ey, al⟩ := paired_at hp i _ ex
        refine ⟨_, rfl, _, rfl, .inr (.inl ⟨p, _, _, _, rfl, rfl, SqT.of k1, atI_nat ex, _, rfl, _, rfl, .inr (.inl ⟨r, _, _, _, rfl, rfl, SqT.of k2, atI_nat ey, _, _, rfl, al, _, rfl, iteF ⟨rfl, _, rfl⟩⟩)⟩)⟩
      · rintro σ H' ⟨rfl, v, rfl⟩
        exact q
theorem ok_alike (T : Txt K mg) (D : Def K mg "_law_alike" (top 24) ["_law_found", "_law_due"]) : ∀ n, Callee P w K mg base (n+1) "_law_alike" ["_law_found", "_law_due"] (spAlike n)
  | 0 => alike_body T 0 _ (callee_never D 0) D fun m h => nomatch h
  | n + 1 => alike_body T (n + 1) _ (ok_alike T D n) D fun m h => by cases h; rfl
end

def racksM (h : Hall) (es : List Int) : List Int := sortU (es.map fun e => e / h.e)
def spPlace (K : PySem.W.Frag) (d : Hall → Int) : Sp := fun vs H Q _ => ∃ (a : Addr) (h : Hall) (x : Int), vs = [.ref a, .int x] ∧ SqT K H a (h.row.map V.int) ∧ h.Ok ∧ ∀ p, H p = none → Q (.ref p) (upd H p (.tup [.int (x / d h), .int (x % d h)]))
def spRacks (K : PySem.W.Frag) : Sp := fun vs H Q _ => ∃ (a p : Addr) (h : Hall) (es : List Int), vs = [.ref a, .ref p] ∧ SqT K H a (h.row.map V.int) ∧ h.Ok ∧ (SqT K H p (es.map V.int) ∨ SqL K H p (es.map V.int)) ∧ es.length < 64 ∧ ∀ (l : Addr) (H' : Hp), Same H H' → H l = none → H' l = some (.lst ((racksM h es).map V.int)) → Q (.ref l) H'
section
variable {P : Program} {w : World} {K : PySem.W.Frag} {mg : Str → Option Value} {base : Heap}
theorem sc_place_in : FnScope ["hall", "caller"] ["hall", "caller"] (defScope (top 1)) := ⟨rfl, rfl, rfl, by decide +kernel, rfl, by decide +kernel, by decide +kernel⟩
theorem ok_place_in (T : Txt K mg) (D : Def K mg "place_in" (top 1) ["hall", "caller"]) : Callee P w K mg base 1 "place_in" ["hall", "caller"] (spPlace K Hall.c) := by
  refine D.ok sc_place_in (fun vs H Q E h => ?_) (fun f cdv A outer s H vs Q E hr h => ?_)
  · obtain ⟨a, h, x, rfl, _⟩ := h
    rfl
  obtain ⟨a, h, x, rfl, hS, ok, q⟩ := h
  have b := ok.c
  refine ⟨_, (pss_one (ps_ret (pe_callB call_divmod rfl T.m_divmod boot_divmod (pa_cons (pv 1) (pa_cons (pe_ix (ix_tupK K) (pv 0) pe_int (fun _ _ => rfl)) pa_nil st_sub) st_name)))), ?_⟩
  exact ⟨_, rfl, _, rfl, a, _, _, _, rfl, rfl, hS, rfl, _, _, rfl, ⟨by omega, by omega⟩, q⟩
theorem sc_place_out : FnScope ["hall", "end"] ["hall", "end"] (defScope (top 2)) := ⟨rfl, rfl, rfl, by decide +kernel, rfl, by decide +kernel, by decide +kernel⟩
theorem ok_place_out (T : Txt K mg) (D : Def K mg "place_out" (top 2) ["hall", "end"]) : Callee P w K mg base 1 "place_out" ["hall", "end"] (spPlace K Hall.e) := by
  refine D.ok sc_place_out (fun vs H Q E h => ?_) (fun f cdv A outer s H vs Q E hr h => ?_)
  · obtain ⟨a, h, x, rfl, _⟩ := h
    rfl
  obtain ⟨a, h, x, rfl, hS, ok, q⟩ := h
  have b := ok.e
  refine ⟨_, (pss_one (ps_ret (pe_callB call_divmod rfl T.m_divmod boot_divmod (pa_cons (pv 1) (pa_cons (pe_ix (ix_tupK K) (pv 0) pe_int (fun _ _ => rfl)) pa_nil st_sub) st_name)))), ?_⟩
  exact ⟨_, rfl, _, rfl, a, _, _, _, rfl, rfl, hS, rfl, _, _, rfl, ⟨by omega, by omega⟩, q⟩
theorem sc_racks_of : FnScope ["hall", "ends"] ["hall", "ends"] (defScope (top 3)) := ⟨rfl, rfl, rfl, by decide +kernel, rfl, by decide +kernel, by decide +kernel⟩
theorem ok_racks (T : Txt K mg) (C_place_out : Callee P w K mg base 1 "place_out" ["hall", "end"] (spPlace K Hall.e)) (D : Def K mg "racks_of" (top 3) ["hall", "ends"]) : Callee P w K mg base 2 "racks_of" ["hall", "ends"] (spRacks K) := by
  refine D.ok sc_racks_of (fun vs H Q E h => ?_) (fun f cdv A outer s H vs Q E hr h => ?_)
  · obtain ⟨a, p, h, es, rfl, _⟩ := h
    rfl
  obtain ⟨a, p, h, es, rfl, hH, ok, hS, h64, q⟩ := h
  have hl : (es.map V.int).length = es.length := List.length_map _
  have sz : (es.map V.int).length ≤ sizeLine := by rw [hl]; exact Nat.le_of_lt (small1000 (by omega))
  have fin : ∀ (H' : Hp), Same H H' → ∀ l, H' l = none → rSetI K P w [.ref l] (upd H' l (.lst ((es.take (es.map V.int).length).map fun e => V.int (e / h.e)))) fun x H1 => rSortedS P w [x] H1 Q := fun H' s1 l hl' => by
    rw [hl, List.take_length]
    have e1 : upd H' l (.lst (es.map fun e => V.int (e / h.e))) l = some (.lst ((es.map fun e => e / h.e).map V.int)) := by rw [upd_same, List.map_map]; rfl
    have s2 := s1.trans (same_new hl' (.lst (es.map fun e => V.int (e / h.e))))
    generalize upd H' l (.lst (es.map fun e => V.int (e / h.e))) = H2 at e1 s2 ⊢
    refine ⟨l, _, rfl, SqL.of e1, by rw [List.length_map]; omega, fun l2 hl2 => ?_⟩
    refine ⟨l2, _, rfl, upd_same, by rw [List.length_map]; omega, fun l3 hl3 => ?_⟩
    exact q l3 _ ((s2.trans (same_new hl2 _)).trans (same_new hl3 _)) ((s2.trans (same_new hl2 _)).free hl3) upd_same
  rcases hS with hS | hS
  · refine ⟨_, (pss_one (ps_ret (pe_callB (call_sortedSK P w rfl) rfl T.m_sorted boot_sorted (pa_cons (pe_callTy (call_setK K P w rfl) rfl T.m_set boot_set (pa_cons (pe_comp (own := ["end"]) (fr := [(0, "hall")]) rfl (show CompScope ["hall", "ends"] (defScope (top 3)) _ _ _ from ⟨rfl, by decide +kernel, by decide +kernel, by decide +kernel, by decide +kernel⟩) (pi_tupK K (pv 1)) (fun cl C s H ex => ⟨(pg_name (i := 0) (show (["end", "hall"] : List Str).Nodup from by decide +kernel) rfl (Or.inl rfl) (Or.inr rfl)), pif_nil, (pe_ix (ix_tupK K) (pe_fn C_place_out hr rfl (pa_cons (pv 1) (pa_cons (pv 0) pa_nil st_name) st_name)) pe_int (fun _ _ => rfl))⟩)) pa_nil st_comp)) pa_nil st_call)))), ?_⟩
    refine ⟨_, rfl, p, rfl, ⟨_, hS⟩, ?_⟩
    refine comp_tup (xs := es.map V.int) (fun i acc σ H' => Same H H' ∧ acc = (es.take i).map (fun e => V.int (e / h.e)) ∧ ∃ v, σ = [v, some (.ref a)])
      ⟨Same.refl H, rfl, none, rfl⟩ sz (fun i acc σ H' g => ?_) (fun i acc σ H' _ g => Same.seqT g.1 hS) ?_ ?_
    · obtain ⟨_, rfl, _⟩ := g
      rw [List.length_map, List.length_take]
      omega
    · rintro i y acc σ H' hy ⟨s1, rfl, v, rfl⟩
      rw [List.getElem?_map] at hy
      obtain ⟨e, he, rfl⟩ := Option.map_eq_some_iff.mp hy
      refine ⟨_, rfl, _, rfl, a, h, e, rfl, Same.seqT s1 hH, ok, fun r hr2 => ⟨r, _, _, _, rfl, rfl, SqT.of upd_same, rfl, s1.trans (same_new hr2 _), ?_, _, rfl⟩⟩
      rw [List.take_succ, he, List.map_append]
      rfl
    · rintro acc σ H' ⟨s1, rfl, v, rfl⟩ l hl'
      exact fin H' s1 l hl'
  · refine ⟨_, (pss_one (ps_ret (pe_callB (call_sortedSK P w rfl) rfl T.m_sorted boot_sorted (pa_cons (pe_callTy (call_setK K P w rfl) rfl T.m_set boot_set (pa_cons (pe_comp (own := ["end"]) (fr := [(0, "hall")]) rfl (show CompScope ["hall", "ends"] (defScope (top 3)) _ _ _ from ⟨rfl, by decide +kernel, by decide +kernel, by decide +kernel, by decide +kernel⟩) (pi_listK K (pv 1)) (fun cl C s H ex => ⟨(pg_name (i := 0) (show (["end", "hall"] : List Str).Nodup from by decide +kernel) rfl (Or.inl rfl) (Or.inr rfl)), pif_nil, (pe_ix (ix_tupK K) (pe_fn C_place_out hr rfl (pa_cons (pv 1) (pa_cons (pv 0) pa_nil st_name) st_name)) pe_int (fun _ _ => rfl))⟩)) pa_nil st_comp)) pa_nil st_call)))), ?_⟩
    refine ⟨_, rfl, p, rfl, ⟨_, hS⟩, ?_⟩
    refine comp_list (xs := es.map V.int) (fun i acc σ H' => Same H H' ∧ acc = (es.take i).map (fun e => V.int (e / h.e)) ∧ ∃ v, σ = [v, some (.ref a)])
      ⟨Same.refl H, rfl, none, rfl⟩ sz (fun i acc σ H' g => ?_) (fun i acc σ H' _ g => g.1.seq hS) ?_ ?_
    · obtain ⟨_, rfl, _⟩ := g
      rw [List.length_map, List.length_take]
      omega
    · rintro i y acc σ H' hy ⟨s1, rfl, v, rfl⟩
      rw [List.getElem?_map] at hy
      obtain ⟨e, he, rfl⟩ := Option.map_eq_some_iff.mp hy
      refine ⟨_, rfl, _, rfl, a, h, e, rfl, Same.seqT s1 hH, ok, fun r hr2 => ⟨r, _, _, _, rfl, rfl, SqT.of upd_same, rfl, s1.trans (same_new hr2 _), ?_, _, rfl⟩⟩
      rw [List.take_succ, he, List.map_append]
      rfl
    · rintro acc σ H' ⟨s1, rfl, v, rfl⟩ l hl'
      exact fin H' s1 l hl'
end

theorem mem_racks' {h : Hall} {es : List Int} {r : Int} : r ∈ racksM h es ↔ ∃ e ∈ es, e / h.e = r := by
  unfold racksM
  rw [mem_sortU, List.mem_map]
theorem racks_len (h : Hall) (es : List Int) : (racksM h es).length ≤ es.length := by
  have := sortU_len (es.map fun e => e / h.e)
  rw [List.length_map] at this
  exact this

def needB (h : Hall) (s : Int) (gs : List Int) (k : Call) : Bool := decide (k.c / h.c = s) || (racksM h k.es).any fun r => decide (r ∈ gs)
def hrow (h : Hall) (ks : List Call) (s : Int) (gs : List Int) (r : Nat) : List Int := (ks.filter fun k => decide (k.k = (r : Int)) && needB h s gs k).map Call.c
def holdG (h : Hall) (ks : List Call) (s : Int) (gs : List Int) : List (List Int) := (List.range h.m.toNat).map (hrow h ks s gs)
def holdM (h : Hall) (ks : List Call) (c : Int) (es : List Int) : List (List Int) := holdG h ks (c / h.c) (racksM h es)
theorem hrow_snoc (h : Hall) (ks : List Call) (s : Int) (gs : List Int) (r : Nat) (k : Call) : hrow h (ks ++ [k]) s gs r = hrow h ks s gs r ++ (if (decide (k.k = (r : Int)) && needB h s gs k) = true then [k.c] else []) := by
  unfold hrow
  rw [List.filter_append, List.map_append]
  have e : List.filter (fun k => decide (k.k = (r : Int)) && needB h s gs k) [k] = if (decide (k.k = (r : Int)) && needB h s gs k) = true then [k] else [] := by
    rw [List.filter_cons]
    rfl
  rw [e]
  by_cases c : (decide (k.k = (r : Int)) && needB h s gs k) = true
  · rw [if_pos c, if_pos c]
    rfl
  · rw [if_neg c, if_neg c]
    rfl
theorem hrow_len (h : Hall) (ks : List Call) (s : Int) (gs : List Int) (r : Nat) : (hrow h ks s gs r).length ≤ ks.length := by
  unfold hrow
  rw [List.length_map]
  exact List.length_filter_le _ _
theorem hold_len (h : Hall) (ks : List Call) (s : Int) (gs : List Int) : (holdG h ks s gs).length = h.m.toNat := by
  unfold holdG
  rw [List.length_map, List.length_range]
def RowsI (H : Hp) (rs : List Addr) (rows : List (List Int)) : Prop := Paired (fun a row => H a = some (.lst (row.map V.int))) rs rows
theorem RowsI.other {H : Hp} {a : Addr} {o : HO} : ∀ {rs : List Addr} {rows : List (List Int)}, RowsI H rs rows → ¬ a ∈ rs → RowsI (upd H a o) rs rows
  | _, _, .nil, _ => .nil
  | _, _, .cons (a := b) h t, hn => .cons (by
      have : b ≠ a := fun z => hn (by rw [z]; exact List.mem_cons_self ..)
      show upd H a o b = _
      rw [upd_ne this]; exact h) (RowsI.other t fun z => hn (List.mem_cons_of_mem _ z))
theorem RowsI.set {H : Hp} {a : Addr} {row : List Int} : ∀ {rs : List Addr} {rows : List (List Int)} {j : Nat}, RowsI H rs rows → rs.Nodup → rs[j]? = some a → RowsI (upd H a (.lst (row.map V.int))) rs (rows.set j row)
  | _, _, _, .nil, _, h => by cases h
  | _, _, 0, .cons (a := b) h t, nd, hj => by
    cases hj
    exact .cons upd_same (RowsI.other t (List.nodup_cons.mp nd).1)
  | _, _, j + 1, .cons (a := b) h t, nd, hj => by
    have hj' : _ := hj
    rw [List.getElem?_cons_succ] at hj'
    have hm := List.mem_of_getElem? hj'
    have hb : b ≠ a := fun z => (List.nodup_cons.mp nd).1 (by rw [z]; exact hm)
    exact .cons (by
      show upd H a _ b = _
      rw [upd_ne hb]; exact h) (RowsI.set t (List.nodup_cons.mp nd).2 hj')
theorem RowsI.same {H H' : Hp} {rs : List Addr} {rows : List (List Int)} (s : Same H H') (h : RowsI H rs rows) : RowsI H' rs rows := by
  unfold RowsI at h ⊢
  exact paired_mem h fun a d _ e => s _ _ e
theorem set_rangeI {n j : Nat} (f : Nat → List Int) (x : List Int) : ((List.range n).map f).set j x = (List.range n).map fun r => if r = j then x else f r := by
  refine List.ext_getElem? fun i => ?_
  rw [List.getElem?_set, List.getElem?_map, List.getElem?_map]
  by_cases hi : i < n
  · rw [List.getElem?_range hi]
    simp only [List.length_map, List.length_range, Option.map_some]
    by_cases c : j = i
    · subst c; simp [hi]
    · simp [c, Ne.symm c]
  · rw [List.getElem?_eq_none (by simpa using hi)]
    simp only [List.length_map, List.length_range, Option.map_none]
    by_cases c : j = i
    · subst c; simp [hi]
    · simp [c]
def spNeeded (K : PySem.W.Frag) : Sp := fun vs H Q _ => ∃ (a p g : Addr) (h : Hall) (k : Call) (st : Int) (gs : List Int), vs = [.ref a, .ref p, .int st, .ref g] ∧ SqT K H a (h.row.map V.int) ∧ h.Ok ∧ CallAt H p k ∧ k.In h ∧ SqL K H g (gs.map V.int) ∧ ∀ H', Same H H' → Q (.bl (needB h st gs k)) H'
def spHolders (K : PySem.W.Frag) : Sp := fun vs H Q _ => ∃ (a l e : Addr) (h : Hall) (as : List Addr) (ks : List Call) (c : Int) (es : List Int), vs = [.ref a, .ref l, .int c, .ref e] ∧ SqT K H a (h.row.map V.int) ∧ h.Ok ∧ SqL K H l (as.map V.ref) ∧ CallsAt H as ks ∧ (∀ k ∈ ks, k.In h) ∧ ks.length ≤ 63 ∧ (SqT K H e (es.map V.int) ∨ SqL K H e (es.map V.int)) ∧ es.length < 64 ∧
  ∀ (f : Addr) (rs : List Addr) (H' : Hp), Same H H' → H f = none → (∀ r ∈ rs, H r = none) → rs.Nodup → ¬ f ∈ rs → H' f = some (.lst (rs.map V.ref)) → RowsI H' rs (holdM h ks c es) → Q (.ref f) H'
section
variable {P : Program} {w : World} {K : PySem.W.Frag} {mg : Str → Option Value} {base : Heap}
theorem sc_holds_needed : FnScope ["hall", "call", "start", "goals"] ["hall", "call", "start", "goals"] (defScope (top 11)) := ⟨rfl, rfl, rfl, by decide +kernel, rfl, by decide +kernel, by decide +kernel⟩
theorem ok_needed (T : Txt K mg) (C_place_in : Callee P w K mg base 1 "place_in" ["hall", "caller"] (spPlace K Hall.c)) (C_racks_of : Callee P w K mg base 2 "racks_of" ["hall", "ends"] (spRacks K)) (D : Def K mg "holds_needed" (top 11) ["hall", "call", "start", "goals"]) : Callee P w K mg base 3 "holds_needed" ["hall", "call", "start", "goals"] (spNeeded K) := by
  refine D.ok sc_holds_needed (fun vs H Q E h => ?_) (fun f cdv A outer s H vs Q E hr h => ?_)
  · obtain ⟨a, p, g, h, k, st, gs, rfl, _⟩ := h
    rfl
  obtain ⟨a, p, g, h, k, st, gs, rfl, hH, ok, ⟨e, ee, ep⟩, hk, hG, q⟩ := h
  have few := hk.few
  refine ⟨_, (pss_cons (ps_if (pt_cmpR op_eq (pe_ix (ix_tupK K) (pe_fn C_place_in hr rfl (pa_cons (pv 0) (pa_cons (pe_ix (ix_tupK K) (pv 1) pe_int (fun _ _ => rfl)) pa_nil st_sub) st_name)) pe_int (fun _ _ => rfl)) (pv 2) (nomark _)) (pss_one (ps_ret pe_bl)) pss_nil)
    (pss_one (ps_ret (pe_callB (call_anyK K rfl) rfl T.m_any boot_any (pa_cons (pe_comp (own := ["rack"]) (fr := [(3, "goals")]) rfl (show CompScope ["hall", "call", "start", "goals"] (defScope (top 11)) _ _ _ from ⟨rfl, by decide +kernel, by decide +kernel, by decide +kernel, by decide +kernel⟩) (pi_listK K (pe_fn C_racks_of hr rfl (pa_cons (pv 0) (pa_cons (pe_ix (ix_tupK K) (pv 1) pe_int (fun _ _ => rfl)) pa_nil st_sub) st_name))) (fun cl C s H ex => ⟨(pg_name (i := 0) (show (["rack", "goals"] : List Str).Nodup from by decide +kernel) rfl (Or.inl rfl) (Or.inr rfl)), pif_nil, (pe_cmpR (op_inK K) (pv 0) (pv 1) (by with_unfolding_all rfl))⟩)) pa_nil st_comp))))), ?_⟩
  refine ⟨_, rfl, _, rfl, p, _, _, _, rfl, rfl, SqT.of ep, rfl, a, h, k.c, rfl, hH, ok, fun r hr1 => ?_⟩
  have er := upd_same (H := H) (a := r) (o := .tup [.int (k.c / h.c), .int (k.c % h.c)])
  have s1 := same_new hr1 (.tup [.int (k.c / h.c), .int (k.c % h.c)])
  generalize upd H r (.tup [.int (k.c / h.c), .int (k.c % h.c)]) = H1 at er s1 ⊢
  refine ⟨r, _, _, _, rfl, rfl, SqT.of er, rfl, _, rfl, rfl, _, rfl, ?_⟩
  refine ite2 (fun c => ?_) (fun c => ?_)
  · have c' : k.c / h.c = st := by simpa using c
    have := q H1 s1
    rw [show needB h st gs k = true by unfold needB; rw [decide_eq_true c']; rfl] at this
    exact this
  · have c' : ¬ k.c / h.c = st := by simpa using c
    refine ⟨_, rfl, _, rfl, p, _, _, _, rfl, rfl, SqT.of (s1 _ _ ep), rfl, a, e, h, k.es, rfl, Same.seqT s1 hH, ok, .inl (SqT.of (s1 _ _ ee)), by omega, fun l H2 s2 _ el => ?_⟩
    have s12 := s1.trans s2
    have rl := racks_len h k.es
    refine ⟨l, rfl, ⟨_, SqL.of el⟩, ?_⟩
    refine comp_list (xs := (racksM h k.es).map V.int) (fun i acc σ H' => H' = H2 ∧ acc = (((racksM h k.es).take i).map fun r => decide (r ∈ gs)).map V.bl ∧ ∃ v, σ = [v, some (.ref g)])
      ⟨rfl, rfl, none, rfl⟩ (Nat.le_of_lt (small1000 (by rw [List.length_map]; omega))) (fun i acc σ H' gg => ?_) (fun i acc σ H' _ gg => by rw [gg.1]; exact SqL.of el) ?_ ?_
    · obtain ⟨_, rfl, _⟩ := gg
      rw [List.length_map, List.length_map, List.length_take]
      omega
    · rintro i y acc σ H' hy ⟨rfl, rfl, v, rfl⟩
      rw [List.getElem?_map] at hy
      obtain ⟨x, hx, rfl⟩ := Option.map_eq_some_iff.mp hy
      refine ⟨_, rfl, _, rfl, g, _, rfl, .inl (s12.seq hG), rfl, int_flat gs, rfl, ?_, _, rfl⟩
      rw [List.take_succ, hx, List.map_append, List.map_append]
      show _ = _ ++ [V.bl _]
      rw [int_in]
      rfl
    · rintro acc σ H' ⟨rfl, rfl, v, rfl⟩ l2 hl2
      rw [List.length_map, List.take_length]
      refine ⟨l2, _, rfl, SqL.of upd_same, ?_⟩
      have := q _ (s12.trans (same_new hl2 (.lst (((racksM h k.es).map fun r => decide (r ∈ gs)).map V.bl))))
      rw [show needB h st gs k = ((racksM h k.es).map fun r => decide (r ∈ gs)).any id by
        unfold needB
        rw [decide_eq_false c', Bool.false_or, List.any_map]
        rfl] at this
      exact this
theorem sc_holders : FnScope ["hall", "calls", "caller", "ends", "start", "goals", "found", "call"] ["hall", "calls", "caller", "ends"] (defScope (top 12)) := ⟨rfl, rfl, rfl, by decide +kernel, rfl, by decide +kernel, by decide +kernel⟩
theorem ok_holders (T : Txt K mg) (C_place_in : Callee P w K mg base 1 "place_in" ["hall", "caller"] (spPlace K Hall.c)) (C_racks_of : Callee P w K mg base 2 "racks_of" ["hall", "ends"] (spRacks K)) (C_holds_needed : Callee P w K mg base 3 "holds_needed" ["hall", "call", "start", "goals"] (spNeeded K)) (D : Def K mg "holders" (top 12) ["hall", "calls", "caller", "ends"]) : Callee P w K mg base 4 "holders" ["hall", "calls", "caller", "ends"] (spHolders K) := by
  refine D.ok sc_holders (fun vs H Q E h => ?_) (fun f cdv A outer s H vs Q E hr h => ?_)
  · obtain ⟨a, l, e, h, as, ks, c, es, rfl, _⟩ := h
    rfl
  obtain ⟨a, l, e, h, as, ks, c, es, rfl, hH, ok, hL, hC, hin, h63, hE, h64, q⟩ := h
  have b3 := ok.m
  have la := Paired.length hC
  refine ⟨_, (pss_cons (ps_set (i := 4) sc_holders.nd rfl (Or.inl rfl) (pe_ix (ix_tupK K) (pe_fn C_place_in hr rfl (pa_cons (pv 0) (pa_cons (pv 2) pa_nil st_name) st_name)) pe_int (fun _ _ => rfl)))
    (pss_cons (ps_set (i := 5) sc_holders.nd rfl (Or.inl rfl) (pe_fn C_racks_of hr rfl (pa_cons (pv 0) (pa_cons (pv 3) pa_nil st_name) st_name)))
    (pss_cons (ps_comp (i := 6) (own := ["k"]) (fr := []) rfl sc_holders.nd rfl rfl (show CompScope ["hall", "calls", "caller", "ends", "start", "goals", "found", "call"] (defScope (top 12)) _ _ _ from ⟨rfl, by decide +kernel, by decide +kernel, by decide +kernel, by decide +kernel⟩) (pi_range1 rfl T.m_range (pa_cons (pe_ix (ix_tupK K) (pv 0) pe_int (fun _ _ => rfl)) pa_nil st_sub)) (fun cl C s H ex => ⟨(pg_name (i := 0) (show (["k"] : List Str).Nodup from by decide +kernel) rfl (Or.inl rfl) (Or.inr rfl)), pif_nil, (pe_lst pa_nil)⟩) rfl)
    (pss_cons (ps_for PassesOwn.never rfl (pi_listK K (pv 1)) (pg_name (i := 7) sc_holders.nd rfl (Or.inl rfl))
    (pss_one (ps_if (pt_truK K (pe_fn C_holds_needed hr rfl (pa_cons (pv 0) (pa_cons (pv 7) (pa_cons (pv 4) (pa_cons (pv 5) pa_nil st_name) st_name) st_name) st_name)) (fun _ => rfl)) (pss_one (ps_expr (pe_bmK K PySem.F.plainAttrs_list PySem.F.slot_list_append PySem.F.type_list_append mt_appendR (pe_ix (ix_listK K) (pv 6) (pe_ix (ix_tupK K) (pv 7) pe_int (fun _ _ => rfl)) (fun _ _ => rfl)) (pa_cons (pe_ix (ix_tupK K) (pv 7) pe_int (fun _ _ => rfl)) pa_nil st_sub)))) pss_nil)))
    (pss_one (ps_ret (pv 6))))))), ?_⟩
  refine ⟨_, rfl, _, rfl, a, h, c, rfl, hH, ok, fun r hr1 => ?_⟩
  have er := upd_same (H := H) (a := r) (o := .tup [.int (c / h.c), .int (c % h.c)])
  have s1 := same_new hr1 (.tup [.int (c / h.c), .int (c % h.c)])
  generalize upd H r (.tup [.int (c / h.c), .int (c % h.c)]) = H1 at er s1 ⊢
  refine ⟨r, _, _, _, rfl, rfl, SqT.of er, rfl, ?_⟩
  refine ⟨_, rfl, _, rfl, a, e, h, es, rfl, Same.seqT s1 hH, ok, hE.imp (fun z => Same.seqT s1 z) (fun z => s1.seq z), h64, fun g H2 s2 _ eg => ?_⟩
  have s12 := s1.trans s2
  refine ⟨_, rfl, a, _, _, _, rfl, rfl, Same.seqT s12 hH, rfl, _, rfl, by show -(2 ^ 62) ≤ h.m; omega, by show h.m < 2 ^ 62; omega, ?_⟩
  refine comp_range (fun i acc σ H' => Same H2 H' ∧ (∃ rs : List Addr, acc = rs.map V.ref ∧ rs.length = i ∧ rs.Nodup ∧ (∀ r ∈ rs, H2 r = none) ∧ RowsI H' rs (List.replicate i [])) ∧ ∃ v, σ = [v])
    ⟨Same.refl _, ⟨[], rfl, rfl, List.nodup_nil, (fun r hr => nomatch hr), .nil⟩, none, rfl⟩ (by show h.m.toNat ≤ 16777216; omega) (fun i acc σ H' gg => ?_) ?_ ?_
  · obtain ⟨_, ⟨rs, rfl, hl, _⟩, _⟩ := gg
    rw [List.length_map, hl]
    exact Nat.le_refl _
  · rintro i acc σ H' hi ⟨g1, ⟨rs, rfl, hl, nd, hn, hr⟩, v, rfl⟩
    refine ⟨(by show 0 ≤ sizeLine; decide), fun u hu => ⟨g1.trans (same_new hu _), ⟨rs ++ [u], by rw [List.map_append]; rfl, by rw [List.length_append, hl]; rfl, ?_, ?_, ?_⟩, _, rfl⟩⟩
    · refine List.nodup_append.mpr ⟨nd, by simp, fun x hx y hy => ?_⟩
      rw [List.mem_singleton] at hy
      rintro rfl
      have : H' x ≠ none := by
        obtain ⟨j, hj⟩ := List.mem_iff_getElem?.mp hx
        obtain ⟨row, _, e2⟩ := paired_at hr j x hj
        exact fun z => by rw [e2] at z; cases z
      exact this (by rw [hy]; exact hu)
    · intro x hx
      rcases List.mem_append.mp hx with z | z
      · exact hn x z
      · rw [List.mem_singleton] at z
        rw [z]; exact g1.free hu
    · rw [List.replicate_succ']
      exact Paired.snoc (RowsI.same (same_new hu _) hr) upd_same
  · rintro acc σ H3 ⟨s3, ⟨rs, rfl, hl, nd, hn, hr⟩, v, rfl⟩ F hF
    have eF := upd_same (H := H3) (a := F) (o := .lst (rs.map V.ref))
    have s4 := s3.trans (same_new hF (.lst (rs.map V.ref)))
    have hr4 := RowsI.same (same_new hF (.lst (rs.map V.ref))) hr
    have hFn : ¬ F ∈ rs := fun z => by
      obtain ⟨j, hj⟩ := List.mem_iff_getElem?.mp z
      obtain ⟨row, _, e2⟩ := paired_at hr j F hj
      rw [hF] at e2
      cases e2
    generalize upd H3 F (.lst (rs.map V.ref)) = H4 at eF s4 hr4 ⊢
    have hF2 : H2 F = none := s3.free hF
    have e0 : List.replicate h.m.toNat [] = holdG h (ks.take 0) (c / h.c) (racksM h es) := by
      unfold holdG hrow
      rw [List.take_zero]
      refine List.ext_getElem? fun i => ?_
      rw [List.getElem?_map, List.getElem?_replicate]
      by_cases hi : i < h.m.toNat
      · rw [if_pos hi, List.getElem?_range hi]
        rfl
      · rw [if_neg hi, List.getElem?_eq_none (by simpa using hi)]
        rfl
    rw [e0] at hr4
    refine ⟨_, rfl, l, rfl, ⟨_, (s12.trans s4).seq hL⟩, ?_⟩
    refine for_list (xs := as.map V.ref) (fun i σ H' => Same H2 H' ∧ H' F = some (.lst (rs.map V.ref)) ∧ RowsI H' rs (holdG h (ks.take i) (c / h.c) (racksM h es)) ∧ ∃ v7, σ = [some (.ref a), some (.ref l), some (.int c), some (.ref e), some (.int (c / h.c)), some (.ref g), some (.ref F), v7])
      ⟨s4, eF, hr4, none, rfl⟩ (fun i σ H' _ gg => (s12.trans gg.1).seq hL) ?_ ?_
    · rintro i x σ H' hx ⟨s5, eF5, hr5, v7, rfl⟩
      rw [List.getElem?_map] at hx
      obtain ⟨p, hp, rfl⟩ := Option.map_eq_some_iff.mp hx
      obtain ⟨k, hk1, hk2⟩ := paired_at hC i p hp
      have hkI := hin k (List.mem_of_getElem? hk1)
      have hkk := hkI.k
      have tk : ks.take (i + 1) = ks.take i ++ [k] := by rw [List.take_succ, hk1]; rfl
      have s25 := s12.trans s5
      have hk5 : CallAt H' p k := CallAt.same (fun b xs z => s25 _ _ z) hk2
      refine ⟨_, rfl, _, rfl, _, rfl, _, rfl, a, p, g, h, k, c / h.c, racksM h es, rfl, Same.seqT s25 hH, ok, hk5, hkI, SqL.of (s5 _ _ eg), fun H6 s6 => ?_⟩
      refine ⟨_, rfl, ?_⟩
      have hr6 := RowsI.same s6 hr5
      have eF6 := s6 _ _ eF5
      refine ite2 (fun cc => ?_) (fun cc => ?_)
      · obtain ⟨ce, e1, e2⟩ := CallAt.same (fun b xs z => s6 _ _ z) hk5
        obtain ⟨n, hnk⟩ : ∃ n : Nat, k.k = (n : Int) := ⟨k.k.toNat, by omega⟩
        have hn1 : n < h.m.toNat := by omega
        have lr := Paired.length hr6
        rw [hold_len] at lr
        have ea : rs[n]? = some (rs[n]'(by omega)) := List.getElem?_eq_getElem _
        generalize rs[n]'(by omega) = ra at ea
        obtain ⟨row, w1, w2⟩ := paired_at hr6 n ra ea
        have w1' : row = hrow h (ks.take i) (c / h.c) (racksM h es) n := by
          unfold holdG at w1
          rw [List.getElem?_map, List.getElem?_range hn1] at w1
          exact (Option.some.inj w1).symm
        have hat : atI (rs.map V.ref) k.k = some (.ref ra) := by rw [hnk]; exact atI_nat (by rw [List.getElem?_map, ea]; rfl)
        have rlen : row.length ≤ 63 := by
          rw [w1']
          have h1 := hrow_len h (ks.take i) (c / h.c) (racksM h es) n
          have h2 : (ks.take i).length ≤ ks.length := by rw [List.length_take]; omega
          omega
        refine ⟨_, rfl, _, rfl, p, _, _, _, rfl, rfl, SqT.of e2, rfl, F, _, _, _, rfl, rfl, SqL.of eF6, hat, .inl ⟨rfl, _, SqL.of w2⟩, _, rfl, p, _, _, _, rfl, rfl, SqT.of e2, rfl, ra, row.map V.int, _, rfl, rfl, w2, small1000 (by rw [List.length_map]; omega), ?_⟩
        have hra := List.mem_of_getElem? ea
        have hFra : F ≠ ra := fun z => hFn (by rw [z]; exact hra)
        refine ⟨Same.put (s5.trans s6) (hn ra hra), by rw [upd_ne hFra]; exact eF6, ?_, _, rfl⟩
        have em : (holdG h (ks.take i) (c / h.c) (racksM h es)).set n (row ++ [k.c]) = holdG h (ks.take (i + 1)) (c / h.c) (racksM h es) := by
          unfold holdG
          rw [set_rangeI]
          refine List.map_congr_left fun r hr => ?_
          rw [tk, hrow_snoc]
          by_cases z : r = n
          · subst z
            rw [if_pos rfl, if_pos (by rw [decide_eq_true hnk, cc]; rfl), w1']
          · rw [if_neg z, if_neg (by rw [decide_eq_false (fun y => z (by omega))]; exact Bool.false_ne_true), List.append_nil]
        rw [← em, show row.map V.int ++ [V.int k.c] = (row ++ [k.c]).map V.int by rw [List.map_append]; rfl]
        exact RowsI.set hr6 nd ea
      · refine ⟨s5.trans s6, eF6, ?_, _, rfl⟩
        have em : holdG h (ks.take (i + 1)) (c / h.c) (racksM h es) = holdG h (ks.take i) (c / h.c) (racksM h es) := by
          unfold holdG
          refine List.map_congr_left fun r hr => ?_
          rw [tk, hrow_snoc, if_neg (fun z => cc (Bool.and_eq_true_iff.mp z).2), List.append_nil]
        rw [em]
        exact hr6
    · rintro σ H' ⟨s5, eF5, hr5, v7, rfl⟩
      rw [List.length_map, la, List.take_length] at hr5
      exact ⟨_, rfl, q F rs H' (s12.trans s5) (s12.free hF2) (fun r hr => s12.free (hn r hr)) nd hFn eF5 hr5⟩
end

def openB (sh : Int) (k : Nat) : Bool := decide (Builtin.bitAnd (sh / 2 ^ k) 1 = 0)
def openM (h : Hall) (sh : Int) : List Nat := (List.range h.m.toNat).filter (openB sh)
def natV (ks : List Nat) : List V := ks.map fun (k : Nat) => V.int k
theorem natV_int (ks : List Nat) : natV ks = (ks.map fun (k : Nat) => (k : Int)).map V.int := by
  unfold natV
  rw [List.map_map]
  rfl
theorem open_len (h : Hall) (sh : Int) : (openM h sh).length ≤ h.m.toNat := by
  have := List.length_filter_le (openB sh) (List.range h.m.toNat)
  rw [List.length_range] at this
  exact this
theorem open_lt {h : Hall} {sh : Int} {k : Nat} (hk : k ∈ openM h sh) : k < h.m.toNat := List.mem_range.mp (List.mem_filter.mp hk).1
def spOpen (K : PySem.W.Frag) : Sp := fun vs H Q _ => ∃ (a : Addr) (h : Hall) (sh : Int), vs = [.ref a, .int sh] ∧ SqT K H a (h.row.map V.int) ∧ h.Ok ∧ ∀ l, H l = none → Q (.ref l) (upd H l (.lst (natV (openM h sh))))
section
variable {P : Program} {w : World} {K : PySem.W.Frag} {mg : Str → Option Value} {base : Heap}
theorem sc_left_open : FnScope ["hall", "shut"] ["hall", "shut"] (defScope (top 7)) := ⟨rfl, rfl, rfl, by decide +kernel, rfl, by decide +kernel, by decide +kernel⟩
theorem ok_open (T : Txt K mg) (D : Def K mg "left_open" (top 7) ["hall", "shut"]) : Callee P w K mg base 1 "left_open" ["hall", "shut"] (spOpen K) := by
  refine D.ok sc_left_open (fun vs H Q E h => ?_) (fun f cdv A outer s H vs Q E hr h => ?_)
  · obtain ⟨a, h, sh, rfl, _⟩ := h
    rfl
  obtain ⟨a, h, sh, rfl, hH, ok, q⟩ := h
  have b3 := ok.m
  refine ⟨_, (pss_one (ps_ret (pe_comp (own := ["k"]) (fr := [(1, "shut")]) rfl (show CompScope ["hall", "shut"] (defScope (top 7)) _ _ _ from ⟨rfl, by decide +kernel, by decide +kernel, by decide +kernel, by decide +kernel⟩) (pi_range1 rfl T.m_range (pa_cons (pe_ix (ix_tupK K) (pv 0) pe_int (fun _ _ => rfl)) pa_nil st_sub)) (fun cl C s H ex => ⟨(pg_name (i := 0) (show (["k", "shut"] : List Str).Nodup from by decide +kernel) rfl (Or.inl rfl) (Or.inr rfl)), (pif_one (pt_cmpR op_eq (pe_op op_and (pe_op op_shr (pv 1) (pv 0)) pe_int) pe_int (nomark _))), (pv 0)⟩)))), ?_⟩
  refine ⟨_, rfl, a, _, _, _, rfl, rfl, hH, rfl, _, rfl, by show -(2 ^ 62) ≤ h.m; omega, by show h.m < 2 ^ 62; omega, ?_⟩
  refine comp_range (fun i acc σ H' => H' = H ∧ acc = natV ((List.range i).filter (openB sh)) ∧ ∃ v, σ = [v, some (.int sh)])
    ⟨rfl, rfl, none, rfl⟩ (by show h.m.toNat ≤ 16777216; omega) (fun i acc σ H' g => ?_) ?_ ?_
  · obtain ⟨_, rfl, _⟩ := g
    unfold natV
    rw [List.length_map]
    have := List.length_filter_le (openB sh) (List.range i)
    rw [List.length_range] at this
    exact this
  · rintro i acc σ H' hi ⟨rfl, rfl, v, rfl⟩
    rw [Int.zero_add]
    have step : natV ((List.range (i + 1)).filter (openB sh)) = natV ((List.range i).filter (openB sh)) ++ (if openB sh i = true then [V.int (i : Int)] else []) := by
      unfold natV
      rw [List.range_succ, List.filter_append, List.map_append]
      by_cases c : openB sh i = true
      · rw [if_pos c]
        simp [c]
      · rw [if_neg c]
        simp [c]
    refine ⟨_, rfl, _, rfl, _, _, rfl, rfl, by omega, _, _, rfl, rfl, rfl, _, rfl, ?_⟩
    refine ite2 (fun c => ?_) (fun c => ?_)
    · have c' : openB sh i = true := by
        unfold openB
        simpa using c
      refine ⟨_, rfl, rfl, ?_, _, rfl⟩
      rw [step, if_pos c']
    · have c' : ¬ openB sh i = true := by
        unfold openB
        simpa using c
      refine ⟨rfl, ?_, _, rfl⟩
      rw [step, if_neg c', List.append_nil]
  · rintro acc σ H' ⟨rfl, rfl, v, rfl⟩ l hl
    exact q l hl
end

structure Asked (K : PySem.W.Frag) (H : Hp) (a l e : Addr) (h : Hall) (as : List Addr) (ks : List Call) (es : List Int) : Prop where
  a : SqT K H a (h.row.map V.int)
  ok : h.Ok
  l : SqL K H l (as.map V.ref)
  c : CallsAt H as ks
  hin : ∀ k ∈ ks, k.In h
  few : ks.length ≤ 63
  e : SqT K H e (es.map V.int) ∨ SqL K H e (es.map V.int)
  len : es.length < 64
theorem Asked.same {K : PySem.W.Frag} {H H' : Hp} {a l e : Addr} {h : Hall} {as : List Addr} {ks : List Call} {es : List Int} (s : Same H H') (k : Asked K H a l e h as ks es) : Asked K H' a l e h as ks es :=
  ⟨Same.seqT s k.a, k.ok, s.seq k.l, CallsAt.same (fun b xs z => s _ _ z) k.c, k.hin, k.few, k.e.imp (fun z => Same.seqT s z) (fun z => s.seq z), k.len⟩

def freeB (h : Hall) (ks : List Call) (c : Int) (es : List Int) (k : Nat) : Bool := decide (hrow h ks (c / h.c) (racksM h es) k = [])
def waysM (h : Hall) (ks : List Call) (c : Int) (es : List Int) (sh : Int) : List Nat := (openM h sh).filter (freeB h ks c es)
theorem ways_len (h : Hall) (ks : List Call) (c : Int) (es : List Int) (sh : Int) : (waysM h ks c es sh).length ≤ h.m.toNat := Nat.le_trans (List.length_filter_le _ _) (open_len h sh)
def spWays (K : PySem.W.Frag) : Sp := fun vs H Q _ => ∃ (a l e : Addr) (h : Hall) (as : List Addr) (ks : List Call) (c : Int) (es : List Int) (sh : Int), vs = [.ref a, .ref l, .int c, .ref e, .int sh] ∧ Asked K H a l e h as ks es ∧
  ∀ (f : Addr) (H' : Hp), Same H H' → H f = none → H' f = some (.lst (natV (waysM h ks c es sh))) → Q (.ref f) H'
section
variable {P : Program} {w : World} {K : PySem.W.Frag} {mg : Str → Option Value} {base : Heap}
theorem sc_ways : FnScope ["hall", "calls", "caller", "ends", "shut", "held"] ["hall", "calls", "caller", "ends", "shut"] (defScope (top 13)) := ⟨rfl, rfl, rfl, by decide +kernel, rfl, by decide +kernel, by decide +kernel⟩
theorem ok_ways (T : Txt K mg) (C_holders : Callee P w K mg base 4 "holders" ["hall", "calls", "caller", "ends"] (spHolders K)) (C_left_open : Callee P w K mg base 1 "left_open" ["hall", "shut"] (spOpen K)) (D : DefD K mg "ways" (top 13) ["hall", "calls", "caller", "ends", "shut"] [.int 0]) : CalleeD P w K mg base 5 "ways" ["hall", "calls", "caller", "ends", "shut"] [.int 0] (spWays K) := by
  refine D.ok sc_ways (fun vs H Q E h => ?_) (fun f cdv A outer s H vs Q E hr h => ?_)
  · obtain ⟨a, l, e, h, as, ks, c, es, sh, rfl, _⟩ := h
    rfl
  obtain ⟨a, l, e, h, as, ks, c, es, sh, rfl, ask, q⟩ := h
  have b3 := ask.ok.m
  refine ⟨_, (pss_cons (ps_set (i := 5) sc_ways.nd rfl (Or.inr rfl) (pe_fn C_holders hr rfl (pa_cons (pv 0) (pa_cons (pv 1) (pa_cons (pv 2) (pa_cons (pv 3) pa_nil st_name) st_name) st_name) st_name)))
    (pss_one (ps_ret (pe_comp (own := ["k"]) (fr := [(5, "held")]) rfl (show CompScope ["hall", "calls", "caller", "ends", "shut", "held"] (defScope (top 13)) _ _ _ from ⟨rfl, by decide +kernel, by decide +kernel, by decide +kernel, by decide +kernel⟩) (pi_listK K (pe_fn C_left_open hr rfl (pa_cons (pv 0) (pa_cons (pv 4) pa_nil st_name) st_name))) (fun cl C s H ex => ⟨(pg_name (i := 0) (show (["k", "held"] : List Str).Nodup from by decide +kernel) rfl (Or.inl rfl) (Or.inr rfl)), (pif_one (pt_cmpR (op_eqIK K (Room.units0 hr)) (pe_ix (ix_listK K) (pv 1) (pv 0) (fun _ _ => rfl)) (pe_lst pa_nil) (nomark _))), (pv 0)⟩))))), ?_⟩
  refine ⟨_, rfl, _, rfl, _, rfl, _, rfl, a, l, e, h, as, ks, c, es, rfl, ask.a, ask.ok, ask.l, ask.c, ask.hin, ask.few, ask.e, ask.len, fun F rs H1 s1 hF hrs nd hFn eF hrows => ?_⟩
  refine ⟨_, rfl, _, rfl, a, h, sh, rfl, Same.seqT s1 ask.a, ask.ok, fun lo hlo => ?_⟩
  have elo := upd_same (H := H1) (a := lo) (o := .lst (natV (openM h sh)))
  have s2 := same_new hlo (.lst (natV (openM h sh)))
  generalize upd H1 lo (.lst (natV (openM h sh))) = H2 at elo s2 ⊢
  have ol := open_len h sh
  refine ⟨lo, rfl, ⟨_, SqL.of elo⟩, ?_⟩
  refine comp_list (xs := natV (openM h sh)) (fun i acc σ H' => Same H2 H' ∧ acc = natV (((openM h sh).take i).filter (freeB h ks c es)) ∧ ∃ v, σ = [v, some (.ref F)])
    ⟨Same.refl _, rfl, none, rfl⟩ (Nat.le_of_lt (small1000 (by unfold natV; rw [List.length_map]; omega))) (fun i acc σ H' g => ?_) (fun i acc σ H' _ g => SqL.of (g.1 _ _ elo)) ?_ ?_
  · obtain ⟨_, rfl, _⟩ := g
    unfold natV
    rw [List.length_map]
    exact Nat.le_trans (List.length_filter_le _ _) (by rw [List.length_take]; omega)
  · rintro i y acc σ H' hy ⟨s3, rfl, v, rfl⟩
    unfold natV at hy
    rw [List.getElem?_map] at hy
    obtain ⟨k, hk, rfl⟩ := Option.map_eq_some_iff.mp hy
    have hkm := open_lt (List.mem_of_getElem? hk)
    have step : natV (((openM h sh).take (i + 1)).filter (freeB h ks c es)) = natV (((openM h sh).take i).filter (freeB h ks c es)) ++ (if freeB h ks c es k = true then [V.int (k : Int)] else []) := by
      unfold natV
      rw [List.take_succ, hk, List.filter_append, List.map_append]
      by_cases cc : freeB h ks c es k = true
      · rw [if_pos cc]
        simp [cc]
      · rw [if_neg cc]
        simp [cc]
    have s13 := s2.trans s3
    have hr3 := RowsI.same s13 hrows
    have lr := Paired.length hr3
    unfold holdM at lr
    rw [hold_len] at lr
    have ea : rs[k]? = some (rs[k]'(by omega)) := List.getElem?_eq_getElem _
    generalize rs[k]'(by omega) = ra at ea
    obtain ⟨row, w1, w2⟩ := paired_at hr3 k ra ea
    have w1' : row = hrow h ks (c / h.c) (racksM h es) k := by
      unfold holdM holdG at w1
      rw [List.getElem?_map, List.getElem?_range hkm] at w1
      exact (Option.some.inj w1).symm
    have hat : atI (rs.map V.ref) (k : Int) = some (.ref ra) := atI_nat (by rw [List.getElem?_map, ea]; rfl)
    refine ⟨_, rfl, _, rfl, F, _, _, _, rfl, rfl, SqL.of (s13 _ _ eF), hat, (by show 0 ≤ sizeLine; decide), fun o ho => ?_⟩
    have s4 := same_new ho (.lst [])
    refine ⟨ra, o, row, [], rfl, rfl, SqL.of (s4 _ _ w2), SqL.of upd_same, _, rfl, ?_⟩
    refine ite2 (fun cc => ?_) (fun cc => ?_)
    · refine ⟨_, rfl, s3.trans s4, ?_, _, rfl⟩
      have c' : freeB h ks c es k = true := by
        unfold freeB
        rw [← w1']
        exact cc
      rw [step, if_pos c']
    · refine ⟨s3.trans s4, ?_, _, rfl⟩
      have c' : ¬ freeB h ks c es k = true := by
        unfold freeB
        rw [← w1']
        exact cc
      rw [step, if_neg c', List.append_nil]
  · rintro acc σ H' ⟨s3, rfl, v, rfl⟩ l2 hl2
    have ln : (natV (openM h sh)).length = (openM h sh).length := by unfold natV; rw [List.length_map]
    rw [ln, List.take_length]
    have s13 := s1.trans (s2.trans s3)
    exact q l2 _ (s13.trans (same_new hl2 _)) (s13.free hl2) upd_same
end

theorem meet_iff {h : Hall} {k : Call} {c : Int} {es : List Int} : (linesM h k.c k.es k.k).filter (fun d => inD (linesM h c es k.k) d) ≠ [] ↔ needB h (c / h.c) (racksM h es) k = true := by
  unfold needB
  rw [Bool.or_eq_true, decide_eq_true_iff, List.any_eq_true]
  constructor
  · intro z
    obtain ⟨d, hd⟩ := List.exists_mem_of_ne_nil _ z
    obtain ⟨h1, h2⟩ := List.mem_filter.mp hd
    rw [inD_iff] at h2
    rcases mem_lines.mp h1 with rfl | ⟨e, he, rfl⟩
    · rcases mem_lines.mp h2 with q | ⟨e', he', q⟩
      · left
        unfold nIn at q
        simp only [List.cons.injEq, Sum.inl.injEq] at q
        exact q.2.1
      · unfold nIn nOut at q
        simp at q
        exact absurd q.1 (by decide)
    · rcases mem_lines.mp h2 with q | ⟨e', he', q⟩
      · unfold nIn nOut at q
        simp at q
        exact absurd q.1 (by decide)
      · right
        unfold nOut at q
        simp only [List.cons.injEq, Sum.inl.injEq] at q
        exact ⟨e / h.e, mem_racks'.mpr ⟨e, he, rfl⟩, decide_eq_true (mem_racks'.mpr ⟨e', he', q.2.1.symm⟩)⟩
  · intro z
    have : ∃ d, d ∈ linesM h k.c k.es k.k ∧ d ∈ linesM h c es k.k := by
      rcases z with z | ⟨r, h1, h2⟩
      · exact ⟨nIn (k.c / h.c) k.k, mem_lines.mpr (.inl rfl), mem_lines.mpr (.inl (by rw [z]))⟩
      · obtain ⟨e, he, q1⟩ := mem_racks'.mp h1
        obtain ⟨e', he', q2⟩ := mem_racks'.mp (of_decide_eq_true h2)
        exact ⟨nOut r k.k, mem_lines.mpr (.inr ⟨e, he, by rw [q1]⟩), mem_lines.mpr (.inr ⟨e', he', by rw [q2]⟩)⟩
    obtain ⟨d, h1, h2⟩ := this
    exact List.ne_nil_of_mem (List.mem_filter.mpr ⟨h1, inD_iff.mpr h2⟩)

theorem line_last {h : Hall} {c : Int} {es : List Int} {k : Int} {d : List Key} (hd : d ∈ linesM h c es k) : ∃ x y, d = [x, y, .inl k] := by
  rcases mem_lines.mp hd with rfl | ⟨e, _, rfl⟩
  · exact ⟨_, _, rfl⟩
  · exact ⟨_, _, rfl⟩
def Taken (h : Hall) (ks : List Call) (kvs : List (List Key × V)) : Prop := ∀ d, (valV kvs d).isSome = true ↔ ∃ k ∈ ks, d ∈ linesM h k.c k.es k.k
def lenH (h : Hall) (ks : List Call) (c : Int) (es : List Int) (k : Nat) : Nat := (hrow h ks (c / h.c) (racksM h es) k).length
def LeastK (h : Hall) (ks : List Call) (c : Int) (es : List Int) (sh : Int) (k : Nat) : Prop := k ∈ openM h sh ∧ ∀ k' ∈ openM h sh, lenH h ks c es k ≤ lenH h ks c es k' ∧ (k' < k → lenH h ks c es k < lenH h ks c es k')
theorem LeastK.uniq {h : Hall} {ks : List Call} {c : Int} {es : List Int} {sh : Int} {k k' : Nat} (a : LeastK h ks c es sh k) (b : LeastK h ks c es sh k') : k = k' := by
  rcases Nat.lt_trichotomy k k' with z | z | z
  · have h1 := (b.2 k a.1).2 z
    have h2 := (a.2 k' b.1).1
    omega
  · exact z
  · have h1 := (a.2 k' b.1).2 z
    have h2 := (b.2 k a.1).1
    omega
theorem open_rise (h : Hall) (sh : Int) : (openM h sh).Pairwise (· < ·) := List.Pairwise.filter _ List.pairwise_lt_range
def spLeast (K : PySem.W.Frag) : Sp := fun vs H Q _ => ∃ (a l e : Addr) (h : Hall) (as : List Addr) (ks : List Call) (c : Int) (es : List Int) (sh : Int), vs = [.ref a, .ref l, .int c, .ref e, .int sh] ∧ Asked K H a l e h as ks es ∧
  (∀ H', Same H H' → openM h sh = [] → Q .non H') ∧ ∀ (r : Addr) (k : Nat) (H' : Hp), Same H H' → LeastK h ks c es sh k → H' r = some (.lst ((hrow h ks (c / h.c) (racksM h es) k).map V.int)) → Q (.ref r) H'
section
variable {P : Program} {w : World} {K : PySem.W.Frag} {mg : Str → Option Value} {base : Heap}
theorem sc_least_ended : FnScope ["hall", "calls", "caller", "ends", "shut", "held"] ["hall", "calls", "caller", "ends", "shut"] (defScope (top 14)) := ⟨rfl, rfl, rfl, by decide +kernel, rfl, by decide +kernel, by decide +kernel⟩
theorem ok_least (T : Txt K mg) (C_holders : Callee P w K mg base 4 "holders" ["hall", "calls", "caller", "ends"] (spHolders K)) (C_left_open : Callee P w K mg base 1 "left_open" ["hall", "shut"] (spOpen K)) (D : DefD K mg "least_ended" (top 14) ["hall", "calls", "caller", "ends", "shut"] [.int 0]) : CalleeD P w K mg base 5 "least_ended" ["hall", "calls", "caller", "ends", "shut"] [.int 0] (spLeast K) := by
  refine D.ok sc_least_ended (fun vs H Q E h => ?_) (fun f cdv A outer s H vs Q E hr h => ?_)
  · obtain ⟨a, l, e, h, as, ks, c, es, sh, rfl, _⟩ := h
    rfl
  obtain ⟨a, l, e, h, as, ks, c, es, sh, rfl, ask, qN, q⟩ := h
  have b3 := ask.ok.m
  refine ⟨_, (pss_cons (ps_set (i := 5) sc_least_ended.nd rfl (Or.inr rfl) (pe_fn C_holders hr rfl (pa_cons (pv 0) (pa_cons (pv 1) (pa_cons (pv 2) (pa_cons (pv 3) pa_nil st_name) st_name) st_name) st_name)))
    (pss_one (ps_ret (pe_minLen K rfl rfl T.m_min rfl T.m_len (pa_cons (pe_comp (own := ["k"]) (fr := [(5, "held")]) rfl (show CompScope ["hall", "calls", "caller", "ends", "shut", "held"] (defScope (top 14)) _ _ _ from ⟨rfl, by decide +kernel, by decide +kernel, by decide +kernel, by decide +kernel⟩) (pi_listK K (pe_fn C_left_open hr rfl (pa_cons (pv 0) (pa_cons (pv 4) pa_nil st_name) st_name))) (fun cl C s H ex => ⟨(pg_name (i := 0) (show (["k", "held"] : List Str).Nodup from by decide +kernel) rfl (Or.inl rfl) (Or.inr rfl)), pif_nil, (pe_ix (ix_listK K) (pv 1) (pv 0) (fun _ _ => rfl))⟩)) pa_nil st_comp))))), ?_⟩
  refine ⟨_, rfl, _, rfl, _, rfl, _, rfl, a, l, e, h, as, ks, c, es, rfl, ask.a, ask.ok, ask.l, ask.c, ask.hin, ask.few, ask.e, ask.len, fun F rs H1 s1 hF hrs nd hFn eF hrows => ?_⟩
  refine ⟨_, rfl, _, rfl, a, h, sh, rfl, Same.seqT s1 ask.a, ask.ok, fun lo hlo => ?_⟩
  have elo := upd_same (H := H1) (a := lo) (o := .lst (natV (openM h sh)))
  have s2 := same_new hlo (.lst (natV (openM h sh)))
  generalize upd H1 lo (.lst (natV (openM h sh))) = H2 at elo s2 ⊢
  have ol := open_len h sh
  have lno : (natV (openM h sh)).length = (openM h sh).length := by unfold natV; rw [List.length_map]
  have rowAt : ∀ k, k ∈ openM h sh → ∃ ra, rs[k]? = some ra ∧ H2 ra = some (.lst ((hrow h ks (c / h.c) (racksM h es) k).map V.int)) := fun k hk => by
    have hkm := open_lt hk
    have hr3 := RowsI.same s2 hrows
    have lr := Paired.length hr3
    unfold holdM at lr
    rw [hold_len] at lr
    have ea : rs[k]? = some (rs[k]'(by omega)) := List.getElem?_eq_getElem _
    obtain ⟨row, w1, w2⟩ := paired_at hr3 k _ ea
    have w1' : row = hrow h ks (c / h.c) (racksM h es) k := by
      unfold holdM holdG at w1
      rw [List.getElem?_map, List.getElem?_range hkm] at w1
      exact (Option.some.inj w1).symm
    rw [w1'] at w2
    exact ⟨_, ea, w2⟩
  refine ⟨lo, rfl, ⟨_, SqL.of elo⟩, ?_⟩
  refine comp_list (xs := natV (openM h sh)) (fun i acc σ H' => H' = H2 ∧ (∃ bs : List Addr, acc = bs.map V.ref ∧ Paired (fun b k => H2 b = some (.lst ((hrow h ks (c / h.c) (racksM h es) k).map V.int))) bs ((openM h sh).take i)) ∧ ∃ v, σ = [v, some (.ref F)])
    ⟨rfl, ⟨[], rfl, .nil⟩, none, rfl⟩ (Nat.le_of_lt (small1000 (by omega))) (fun i acc σ H' g => ?_) (fun i acc σ H' _ g => by rw [g.1]; exact SqL.of elo) ?_ ?_
  · obtain ⟨_, ⟨bs, rfl, hb⟩, _⟩ := g
    have := Paired.length hb
    rw [List.length_map, this, List.length_take]
    omega
  · rintro i y acc σ H' hy ⟨rfl, ⟨bs, rfl, hb⟩, v, rfl⟩
    unfold natV at hy
    rw [List.getElem?_map] at hy
    obtain ⟨k, hk, rfl⟩ := Option.map_eq_some_iff.mp hy
    obtain ⟨ra, e1, e2⟩ := rowAt k (List.mem_of_getElem? hk)
    have hat : atI (rs.map V.ref) (k : Int) = some (.ref ra) := atI_nat (by rw [List.getElem?_map, e1]; rfl)
    refine ⟨_, rfl, _, rfl, F, _, _, _, rfl, rfl, SqL.of (s2 _ _ eF), hat, rfl, ⟨bs ++ [ra], by rw [List.map_append]; rfl, ?_⟩, _, rfl⟩
    rw [List.take_succ, hk]
    exact Paired.snoc hb e2
  · rintro acc σ H' ⟨rfl, ⟨bs, rfl, hb⟩, v, rfl⟩ lm hlm
    rw [lno, List.take_length] at hb
    have elm := upd_same (H := H') (a := lm) (o := .lst (bs.map V.ref))
    have s3 := same_new hlm (.lst (bs.map V.ref))
    generalize upd H' lm (.lst (bs.map V.ref)) = H3 at elm s3 ⊢
    have s13 := s1.trans (s2.trans s3)
    have lb := Paired.length hb
    have rowsL : ∀ {bs : List Addr} {os : List Nat}, Paired (fun b k => H' b = some (.lst ((hrow h ks (c / h.c) (racksM h es) k).map V.int))) bs os → RowsL K H3 bs (os.map fun k => (hrow h ks (c / h.c) (racksM h es) k).map V.int) := by
      intro bs os hp
      induction hp with
      | nil => exact .nil
      | cons h1 _ ih => exact .cons (SqL.of (s3 _ _ h1)) ih
    have lenAt : ∀ j k, (openM h sh)[j]? = some k → rowLen ((openM h sh).map fun k => (hrow h ks (c / h.c) (racksM h es) k).map V.int) j = ((lenH h ks c es k : Nat) : Int) := fun j k hj => by
      unfold rowLen lenH
      rw [List.getD, List.getElem?_map, hj]
      simp
    refine ⟨lm, bs, _, rfl, SqL.of elm, rowsL hb, fun z => qN H3 s13 ?_, fun i r hi hbest => ?_⟩
    · rw [z] at lb
      exact List.length_eq_zero_iff.mp lb.symm
    · obtain ⟨k, k1, k2⟩ := paired_at hb i r hi
      refine q r k H3 s13 ⟨List.mem_of_getElem? k1, fun k' hk' => ?_⟩ (s3 _ _ k2)
      obtain ⟨j, hj⟩ := List.mem_iff_getElem?.mp hk'
      have hjl := (List.getElem?_eq_some_iff.mp hj).1
      have := hbest j (by omega)
      rw [lenAt i k k1, lenAt j k' hj] at this
      refine ⟨by omega, fun z => ?_⟩
      have hji : j < i := by
        rcases Nat.lt_trichotomy j i with y | y | y
        · exact y
        · subst y
          rw [k1] at hj
          cases hj
          omega
        · obtain ⟨q1, z1⟩ := List.getElem?_eq_some_iff.mp k1
          obtain ⟨q2, z2⟩ := List.getElem?_eq_some_iff.mp hj
          have := (List.pairwise_iff_getElem.mp (open_rise h sh)) i j q1 q2 y
          omega
      have := this.2 hji
      omega
end

theorem filter_step {p : Call → Bool} {ks : List Call} {j : Nat} {k : Call} (h : ks[j]? = some k) : (ks.take (j + 1)).filter p = (ks.take j).filter p ++ (if p k = true then [k] else []) := by
  rw [List.take_succ, h, List.filter_append]
  congr 1
  show List.filter p [k] = _
  rw [List.filter_cons]
  split <;> rfl
theorem mem_hrow {h : Hall} {ks : List Call} {s : Int} {gs : List Int} {r : Nat} {x : Int} : x ∈ hrow h ks s gs r ↔ ∃ k ∈ ks, k.k = (r : Int) ∧ needB h s gs k = true ∧ k.c = x := by
  unfold hrow
  rw [List.mem_map]
  constructor
  · rintro ⟨k, hk, e⟩
    obtain ⟨h1, h2⟩ := List.mem_filter.mp hk
    rw [Bool.and_eq_true, decide_eq_true_iff] at h2
    exact ⟨k, h1, h2.1, h2.2, e⟩
  · rintro ⟨k, h1, h2, h3, e⟩
    exact ⟨k, List.mem_filter.mpr ⟨h1, by rw [decide_eq_true h2, h3]; rfl⟩, e⟩
theorem open_bit (b k : Nat) : openB (b : Int) k = !b.testBit k := by
  unfold openB
  have e1 : ((b : Int) / 2 ^ k) = ((b / 2 ^ k : Nat) : Int) := by
    rw [Int.natCast_ediv, Int.natCast_pow]
    rfl
  rw [e1, bitAnd_pp (Int.natCast_nonneg _) (by decide), Int.toNat_natCast, show ((1 : Int)).toNat = 1 from rfl, Nat.and_one_is_mod, Nat.testBit_eq_decide_div_mod_eq, Bool.eq_iff_iff, decide_eq_true_iff, Bool.not_eq_true', decide_eq_false_iff_not]
  omega

theorem bit_add {x p q : Nat} (h : x.testBit p = false) : (x + 2 ^ p).testBit q = if q = p then true else x.testBit q := by
  by_cases hq : q = p
  · subst hq
    rw [if_pos rfl, Nat.add_comm, Nat.testBit_two_pow_add_eq, h]
    rfl
  · rw [if_neg hq]
    rcases Nat.lt_or_gt_of_ne hq with hlt | hgt
    · rw [Nat.add_comm, Nat.testBit_two_pow_add_gt hlt]
    · have e : (x + 2 ^ p) / 2 ^ (p + 1) = x / 2 ^ (p + 1) := by
        rw [Nat.pow_succ, ← Nat.div_div_eq_div_mul, ← Nat.div_div_eq_div_mul, Nat.add_div_right x (Nat.two_pow_pos p)]
        rw [Nat.testBit_eq_decide_div_mod_eq] at h
        have h' : ¬ x / 2 ^ p % 2 = 1 := of_decide_eq_false h
        omega
      have hk : q = (p + 1) + (q - (p + 1)) := by omega
      rw [Nat.testBit_eq_decide_div_mod_eq, Nat.testBit_eq_decide_div_mod_eq, hk, Nat.pow_add, ← Nat.div_div_eq_div_mul, ← Nat.div_div_eq_div_mul, e]
def pows (ps : List Nat) : Nat := (ps.map fun p => 2 ^ p).sum
theorem pows_nil : pows [] = 0 := rfl
theorem pows_snoc (ps : List Nat) (p : Nat) : pows (ps ++ [p]) = pows ps + 2 ^ p := by
  unfold pows
  rw [List.map_append, List.sum_append]
  simp
theorem pows_cons (ps : List Nat) (p : Nat) : pows (p :: ps) = 2 ^ p + pows ps := by
  unfold pows
  rw [List.map_cons, List.sum_cons]
theorem pows_bit : ∀ (ps : List Nat), ps.Nodup → ∀ q, (pows ps).testBit q = decide (q ∈ ps)
  | [], _, q => by rw [pows_nil, Nat.zero_testBit]; simp
  | p :: ps, h, q => by
    have hn := List.nodup_cons.mp h
    have ih := pows_bit ps hn.2
    rw [pows_cons, Nat.add_comm, bit_add (by rw [ih p]; exact decide_eq_false hn.1), ih q]
    by_cases e : q = p
    · subst e; simp
    · simp [e]
theorem or_add {b p : Nat} (h : b.testBit p = false) : Builtin.bitOr (b : Int) (1 * 2 ^ ((p : Int)).toNat) = ((b + 2 ^ p : Nat) : Int) := by
  have e1 : (1 * 2 ^ ((p : Int)).toNat : Int) = ((2 ^ p : Nat) : Int) := by
    rw [Int.one_mul, Int.toNat_natCast]
    exact (Int.natCast_pow 2 p).symm
  have e2 : b &&& 2 ^ p = 0 := by
    refine Nat.eq_of_testBit_eq fun i => ?_
    rw [Nat.testBit_and, Nat.testBit_two_pow, Nat.zero_testBit]
    by_cases hi : p = i
    · subst hi; rw [h]; rfl
    · simp [hi]
  rw [e1, bitOr_and, bitAnd_pp (Int.natCast_nonneg _) (Int.natCast_nonneg _), Int.toNat_natCast, Int.toNat_natCast, e2]
  simp

def bitsL (b : Nat) (n : Nat) : List Nat := (List.range n).filter fun p => b.testBit p
theorem bitsL_succ (b n : Nat) : bitsL b (n + 1) = bitsL b n ++ (if b.testBit n then [n] else []) := by
  unfold bitsL
  rw [List.range_succ, List.filter_append]
  congr 1
  by_cases h : b.testBit n <;> simp [h]
theorem bitsL_rise (b n : Nat) : (bitsL b n).Pairwise (· < ·) := List.Pairwise.filter _ List.pairwise_lt_range
theorem log_lt {b n : Nat} (h : b < 2 ^ n) (hb : b ≠ 0) : b.log2 + 1 ≤ n := by
  have := (Nat.log2_lt hb).mpr h
  omega
theorem take_more {ps : List Nat} {i p : Nat} (h : ps[i]? = some p) : ps.take (i + 1) = ps.take i ++ [p] := by
  rw [List.take_succ, h]
  rfl
theorem shr_and (b p : Nat) : decide (V.int (Builtin.bitAnd ((b : Int) / 2 ^ ((0 : Int) + (p : Int)).toNat) 1) = V.int 1) = b.testBit p := by
  have e1 : ((b : Int) / 2 ^ ((0 : Int) + (p : Int)).toNat) = ((b / 2 ^ p : Nat) : Int) := by
    rw [Int.zero_add, Int.toNat_natCast]
    rw [Int.natCast_ediv, Int.natCast_pow]
    rfl
  rw [e1, bitAnd_pp (Int.natCast_nonneg _) (by decide), Int.toNat_natCast, show ((1 : Int)).toNat = 1 from rfl, Nat.and_one_is_mod, Nat.testBit_eq_decide_div_mod_eq, Bool.eq_iff_iff, decide_eq_true_iff, decide_eq_true_iff]
  constructor
  · intro h
    have h' := V.int.inj h
    omega
  · intro h
    exact congrArg V.int (by omega)
theorem bitlen (n : Nat) (h : n < 2 ^ 64) : Builtin.Int.intBits (n : Int) ≤ 64 ∧ n < 2 ^ Builtin.Int.intBits (n : Int) := by
  unfold Builtin.Int.intBits
  by_cases h0 : n = 0
  · subst h0
    decide
  · have e : ((n : Int) == 0) = false := by simpa using h0
    rw [e]
    simp only [Bool.false_eq_true, if_false, Int.natAbs_natCast]
    exact ⟨log_lt h h0, Nat.lt_log2_self⟩

def spBitsOf (K : PySem.W.Frag) : Sp := fun vs H Q _ => ∃ (a : Addr) (ps : List Nat), vs = [.ref a] ∧ SqL K H a (natV ps) ∧ ps.Nodup ∧ (∀ p ∈ ps, p < 64) ∧ Q (.int (pows ps : Nat)) H
def spBitList : Sp := fun vs H Q _ => ∃ n : Nat, vs = [.int n] ∧ n < 2 ^ 64 ∧ ∀ (l : Addr), H l = none → Q (.ref l) (upd H l (.lst (natV (bitsL n (Builtin.Int.intBits n)))))
section
variable {P : Program} {w : World} {K : PySem.W.Frag} {mg : Str → Option Value} {base : Heap}
theorem pv_len (ps : List Nat) : (natV ps).length = ps.length := List.length_map _
theorem pv_get {ps : List Nat} {i : Nat} {x : V} (h : (natV ps)[i]? = some x) : ∃ p, ps[i]? = some p ∧ x = .int p := by
  unfold natV at h
  rw [List.getElem?_map] at h
  cases e : ps[i]? with
  | none => rw [e] at h; cases h
  | some p => rw [e] at h; exact ⟨p, rfl, (Option.some.inj h).symm⟩
theorem sc_bits_of : FnScope ["places", "bits", "place"] ["places"] (defScope (top 5)) := ⟨rfl, rfl, rfl, by decide +kernel, rfl, by decide +kernel, by decide +kernel⟩
theorem ok_bits_of (T : Txt K mg) (D : Def K mg "bits_of" (top 5) ["places"]) : Callee P w K mg base 1 "bits_of" ["places"] (spBitsOf K) := by
  refine D.ok sc_bits_of (fun vs H Q E h => ?_) (fun f cdv A outer s H vs Q E hr h => ?_)
  · obtain ⟨a, ps, rfl, _⟩ := h
    rfl
  obtain ⟨a, ps, rfl, hS, nd, lt, q⟩ := h
  refine ⟨_, (pss_cons (ps_set (i := 1) sc_bits_of.nd rfl (Or.inl rfl) pe_int)
    (pss_cons (ps_for PassesOwn.never rfl (pi_listK K (pv 0)) (pg_name (i := 2) sc_bits_of.nd rfl (Or.inl rfl))
    (pss_one (ps_aug (i := 1) sc_bits_of.nd rfl (Or.inl rfl) (pe_op op_shl pe_int (pv 2)) ipR_or)))
    (pss_one (ps_ret (pv 1))))), ?_⟩
  refine ⟨_, rfl, a, rfl, ⟨_, hS⟩, for_list (K := K) (a := a) (xs := natV ps) (fun i σ H' => H' = H ∧ ∃ v, σ = [some (.ref a), some (.int (pows (ps.take i) : Nat)), v]) ⟨rfl, none, rfl⟩ (fun i σ H' _ ⟨e, _⟩ => e ▸ hS) ?_ ?_⟩
  · rintro i x σ H' hi ⟨rfl, v, rfl⟩
    obtain ⟨p, hp, rfl⟩ := pv_get hi
    have hm := List.mem_of_getElem? hp
    have hlt := lt p hm
    have nd' : (ps.take i).Nodup := nd.sublist (List.take_sublist _ _)
    have hb : (pows (ps.take i)).testBit p = false := by
      rw [pows_bit _ nd']
      refine decide_eq_false fun z => ?_
      have nd2 : (ps.take i ++ [p]).Nodup := take_more hp ▸ nd.sublist (List.take_sublist _ _)
      exact (List.nodup_append.mp nd2).2.2 p z p (List.mem_singleton.mpr rfl) rfl
    refine ⟨_, rfl, _, rfl, _, _, rfl, rfl, ⟨by omega, by omega, by decide⟩, _, _, rfl, rfl, rfl, some (.int p), ?_⟩
    rw [take_more hp, pows_snoc, ← or_add hb]
    rfl
  · rintro σ H' ⟨rfl, v, rfl⟩
    have e : ps.take (natV ps).length = ps := by rw [pv_len, List.take_length]
    rw [e]
    exact ⟨_, rfl, q⟩

theorem sc_bit_list : FnScope ["bits"] ["bits"] (defScope (top 6)) := ⟨rfl, rfl, rfl, by decide +kernel, rfl, by decide +kernel, by decide +kernel⟩
theorem ok_bit_list (T : Txt K mg) (D : Def K mg "bit_list" (top 6) ["bits"]) : Callee P w K mg base 1 "bit_list" ["bits"] spBitList := by
  refine D.ok sc_bit_list (fun vs H Q E h => ?_) (fun f cdv A outer s H vs Q E hr h => ?_)
  · obtain ⟨n, rfl, _⟩ := h
    rfl
  obtain ⟨n, rfl, hn, q⟩ := h
  refine ⟨_, (pss_one (ps_ret (pe_comp (own := ["place"]) (fr := [(0, "bits")]) rfl (show CompScope ["bits"] (defScope (top 6)) _ _ _ from ⟨rfl, by decide +kernel, by decide +kernel, by decide +kernel, by decide +kernel⟩) (pi_range1 rfl T.m_range (pa_cons (pe_bm0 PySem.F.plainAttrs_int PySem.F.slot_int_bit_length PySem.F.type_int_bit_length mt_bits (pv 0)) pa_nil st_call)) (fun cl C s H ex => ⟨(pg_name (i := 0) (show (["place", "bits"] : List Str).Nodup from by decide +kernel) rfl (Or.inl rfl) (Or.inr rfl)), (pif_one (pt_cmpR op_eq (pe_op op_and (pe_op op_shr (pv 1) (pv 0)) pe_int) pe_int (nomark _))), (pv 0)⟩)))), ?_⟩
  obtain ⟨hb, _⟩ := bitlen n hn
  refine ⟨_, rfl, rfl, _, rfl, rfl, _, rfl, by omega, by omega, ?_⟩
  refine comp_range (n := Builtin.Int.intBits (n : Int)) (fun i acc σ H' => H' = H ∧ acc = natV (bitsL n i) ∧ ∃ v, σ = [v, some (.int n)]) ⟨rfl, rfl, none, rfl⟩ (Nat.le_trans hb (by decide)) (fun i acc σ H' h => ?_) ?_ ?_
  · obtain ⟨_, rfl, _⟩ := h
    rw [pv_len]
    unfold bitsL
    exact Nat.le_trans (List.length_filter_le _ _) (by simp)
  · rintro i acc σ H' hi ⟨rfl, rfl, v, rfl⟩
    refine ⟨_, rfl, _, rfl, _, _, rfl, rfl, (by show (0 : Int) ≤ 0 + (i : Int); omega), _, _, rfl, rfl, rfl, _, rfl, ?_⟩
    rw [shr_and n i]
    have e := bitsL_succ n i
    by_cases hb : n.testBit i = true
    · refine iteP hb ?_
      refine ⟨_, rfl, rfl, ?_, some (.int (0 + (i : Int))), rfl⟩
      rw [e, if_pos hb]
      unfold natV
      rw [List.map_append, Int.zero_add]
      rfl
    · refine iteN hb ?_
      refine ⟨rfl, ?_, some (.int (0 + (i : Int))), rfl⟩
      rw [e, if_neg hb, List.append_nil]
  · rintro acc σ H' ⟨rfl, rfl, v, rfl⟩ l hl
    exact q l hl

theorem pows_lt {ps : List Nat} (nd : ps.Nodup) (lt : ∀ p ∈ ps, p < 64) : pows ps < 2 ^ 64 := by
  refine Nat.lt_pow_two_of_testBit _ fun i hi => ?_
  rw [pows_bit ps nd]
  exact decide_eq_false fun z => by have := lt i z; omega
end

def rowP (p : Call → Nat → Bool) (ks : List Call) (r : Nat) : List Nat := (ks.filter fun k => p k r).map fun k => k.k.toNat
def pIn (h : Hall) (k : Call) (r : Nat) : Bool := decide (k.c / h.c = (r : Int))
def pOut (h : Hall) (k : Call) (r : Nat) : Bool := decide ((r : Int) ∈ racksM h k.es)
theorem rowP_snoc (p : Call → Nat → Bool) (ks : List Call) (k : Call) (r : Nat) : rowP p (ks ++ [k]) r = rowP p ks r ++ (if p k r = true then [k.k.toNat] else []) := by
  unfold rowP
  rw [List.filter_append, List.map_append]
  by_cases c : p k r = true
  · rw [if_pos c]
    simp [c]
  · rw [if_neg c]
    simp [c]
def Apart (p : Call → Nat → Bool) (k k' : Call) : Prop := ∀ r, p k r = true → p k' r = true → k.k ≠ k'.k
theorem rowP_nodup {p : Call → Nat → Bool} {h : Hall} (r : Nat) : ∀ {ks : List Call}, ks.Pairwise (Apart p) → (∀ k ∈ ks, k.In h) → (rowP p ks r).Nodup := fun {ks} hp hi => by
  unfold rowP List.Nodup
  rw [List.pairwise_map, List.pairwise_filter]
  refine List.Pairwise.imp_of_mem ?_ hp
  intro a b ha hb hab pa pb e
  have h1 := (hi a ha).k
  have h2 := (hi b hb).k
  exact hab r pa pb (by omega)
theorem apart_in {h : Hall} {k k' : Call} (f : Free h k k') : Apart (pIn h) k k' := fun r h1 h2 e => by
  have h1' : k.c / h.c = (r : Int) := of_decide_eq_true h1
  have h2' : k'.c / h.c = (r : Int) := of_decide_eq_true h2
  exact f (nIn (k.c / h.c) k.k) (mem_needs.mpr (.inl rfl)) (mem_needs.mpr (.inl (by rw [h1', h2', e])))
theorem apart_out {h : Hall} {k k' : Call} (f : Free h k k') : Apart (pOut h) k k' := fun r h1 h2 e => by
  obtain ⟨x, hx, q1⟩ := mem_racks'.mp (of_decide_eq_true h1)
  obtain ⟨y, hy, q2⟩ := mem_racks'.mp (of_decide_eq_true h2)
  exact f (nOut (x / h.e) k.k) (mem_needs.mpr (.inr (.inl ⟨x, hx, rfl⟩))) (mem_needs.mpr (.inr (.inl ⟨y, hy, by rw [q1, q2, e]⟩)))
theorem or_step {row : List Nat} {k : Int} (h : (row ++ [k.toNat]).Nodup) (hk : 0 ≤ k) : Builtin.bitOr ((pows row : Nat) : Int) (1 * 2 ^ k.toNat) = ((pows (row ++ [k.toNat]) : Nat) : Int) := by
  have nd := List.nodup_append.mp h
  have b : (pows row).testBit k.toNat = false := by
    rw [pows_bit row nd.1]
    exact decide_eq_false fun z => nd.2.2 _ z _ (List.mem_singleton.mpr rfl) rfl
  have := or_add b
  rw [Int.toNat_natCast] at this
  rw [this, pows_snoc]
theorem set_range {α : Type} {n j : Nat} {v : α} {f : Nat → α} : ((List.range n).map f).set j v = (List.range n).map fun r => if r = j then v else f r := by
  apply List.ext_getElem?
  intro i
  rw [List.getElem?_set, List.getElem?_map, List.getElem?_map]
  by_cases hi : i < n
  · rw [List.getElem?_range hi]
    by_cases c : j = i
    · subst c
      simp [hi]
    · rw [if_neg c]
      simp [show ¬ i = j from fun z => c z.symm]
  · rw [List.getElem?_eq_none (by simpa using hi)]
    by_cases c : j = i
    · subst c
      simp [hi]
    · rw [if_neg c]
      rfl
def bitsOf (p : Call → Nat → Bool) (ks : List Call) (n : Nat) : List V := (List.range n).map fun r => V.int ((pows (rowP p ks r) : Nat) : Int)
theorem bitsOf_at {p : Call → Nat → Bool} {ks : List Call} {n r : Nat} (h : r < n) : (bitsOf p ks n)[r]? = some (V.int ((pows (rowP p ks r) : Nat) : Int)) := by
  unfold bitsOf
  rw [List.getElem?_map, List.getElem?_range h]
  rfl
theorem bitsOf_len {p : Call → Nat → Bool} {ks : List Call} {n : Nat} : (bitsOf p ks n).length = n := by simp [bitsOf]
theorem ixN_in {n : Nat} {i : Int} (h0 : 0 ≤ i) (h1 : i < n) : ixN n i = some i.toNat := by
  unfold ixN
  rw [if_pos h0, if_pos h1]
def spBits (K : PySem.W.Frag) (p : Hall → Call → Nat → Bool) (n : Hall → Int) : Sp := fun vs H Q _ => ∃ (a b : Addr) (h : Hall) (as : List Addr) (ks : List Call), vs = [.ref a, .ref b] ∧ SqT K H a (h.row.map V.int) ∧ h.Ok ∧ SqL K H b (as.map V.ref) ∧ CallsAt H as ks ∧ (∀ k ∈ ks, k.In h) ∧ ks.Pairwise (Free h) ∧ ks.length ≤ 63 ∧
  ∀ (l : Addr) (H' : Hp), Same H H' → H l = none → H' l = some (.lst (bitsOf (p h) ks (n h).toNat)) → Q (.ref l) H'
section
variable {P : Program} {w : World} {K : PySem.W.Frag} {mg : Str → Option Value} {base : Heap}
theorem sc_in_bits : FnScope ["hall", "calls", "found", "call"] ["hall", "calls"] (defScope (top 8)) := ⟨rfl, rfl, rfl, by decide +kernel, rfl, by decide +kernel, by decide +kernel⟩
theorem ok_in_bits (T : Txt K mg) (C_place_in : Callee P w K mg base 1 "place_in" ["hall", "caller"] (spPlace K Hall.c)) (D : Def K mg "in_bits" (top 8) ["hall", "calls"]) : Callee P w K mg base 2 "in_bits" ["hall", "calls"] (spBits K pIn Hall.i) := by
  refine D.ok sc_in_bits (fun vs H Q E h => ?_) (fun f cdv A outer s H vs Q E hr h => ?_)
  · obtain ⟨a, b, h, as, ks, rfl, _⟩ := h
    rfl
  obtain ⟨a, b, h, as, ks, rfl, hH, ok, hB, hC, hin, hfr, h63, q⟩ := h
  have o1 := ok.i
  have o2 := ok.c
  have o3 := ok.m
  refine ⟨_, (pss_cons (ps_set (i := 2) sc_in_bits.nd rfl (Or.inl rfl) (pe_op op_rep (pe_lst (pa_cons pe_int pa_nil st_const)) (pe_ix (ix_tupK K) (pv 0) pe_int (fun _ _ => rfl))))
    (pss_cons (ps_for PassesOwn.never rfl (pi_listK K (pv 1)) (pg_name (i := 3) sc_in_bits.nd rfl (Or.inl rfl))
    (pss_one (ps_augS (pv 2) (pe_ix (ix_tupK K) (pe_fn C_place_in hr rfl (pa_cons (pv 0) (pa_cons (pe_ix (ix_tupK K) (pv 3) pe_int (fun _ _ => rfl)) pa_nil st_sub) st_name)) pe_int (fun _ _ => rfl)) (get_listK K) (pe_op op_shl pe_int (pe_ix (ix_tupK K) (pv 3) pe_int (fun _ _ => rfl))) ipR_or set_list)))
    (pss_one (ps_ret (pv 2))))), ?_⟩
  refine ⟨(by show 1 ≤ sizeLine; decide), fun l0 hl0 => ?_⟩
  have s0 := same_new hl0 (.lst [.int 0])
  have e0 := upd_same (H := H) (a := l0) (o := .lst [.int 0])
  generalize upd H l0 (.lst [.int 0]) = H0 at s0 e0 ⊢
  refine ⟨_, rfl, a, _, _, _, rfl, rfl, Same.seqT s0 hH, rfl, l0, h.i, _, rfl, rfl, e0, by omega, by omega, Nat.le_of_lt (small1000 (by show 1 * h.i.toNat ≤ 1000; omega)), fun l hl => ?_⟩
  have start : (List.replicate h.i.toNat [V.int 0]).flatten = bitsOf (pIn h) (ks.take 0) h.i.toNat := by
    rw [List.take_zero]
    unfold bitsOf
    generalize h.i.toNat = n
    induction n with
    | zero => rfl
    | succ n ih =>
      rw [List.range_succ, List.map_append, List.replicate_succ', List.flatten_append, ih]
      rfl
  rw [start]
  have hlH : H l = none := s0.free hl
  refine ⟨_, rfl, b, rfl, ⟨_, (s0.trans (same_new hl _)).seq hB⟩, ?_⟩
  refine for_list (xs := as.map V.ref) (fun i σ H' => Same H H' ∧ H' l = some (.lst (bitsOf (pIn h) (ks.take i) h.i.toNat)) ∧ ∃ v3, σ = [some (.ref a), some (.ref b), some (.ref l), v3]) ⟨s0.trans (same_new hl _), upd_same, none, rfl⟩ (fun i σ H' _ g => g.1.seq hB) ?_ ?_
  · rintro i x σ H' hx ⟨s1, e1, v3, rfl⟩
    rw [List.getElem?_map] at hx
    obtain ⟨p, hp, rfl⟩ := Option.map_eq_some_iff.mp hx
    obtain ⟨k, hk, e, ee, ep⟩ := paired_at hC i p hp
    have hkI := hin k (List.mem_of_getElem? hk)
    have ep1 := s1 _ _ ep
    have k1 := hkI.c
    have k2 := hkI.k
    have r0 : 0 ≤ k.c / h.c := Int.ediv_nonneg k1.1 (by omega)
    have r1 : k.c / h.c < h.i := Int.ediv_lt_of_lt_mul (by omega) k1.2
    refine ⟨_, rfl, _, rfl, _, rfl, p, _, _, _, rfl, rfl, SqT.of ep1, rfl, a, h, k.c, rfl, Same.seqT s1 hH, ok, fun g hg => ?_⟩
    have eg := upd_same (H := H') (a := g) (o := .tup [.int (k.c / h.c), .int (k.c % h.c)])
    have s2 := same_new hg (.tup [.int (k.c / h.c), .int (k.c % h.c)])
    generalize upd H' g (.tup [.int (k.c / h.c), .int (k.c % h.c)]) = H2 at eg s2 ⊢
    have e2 := s2 _ _ e1
    refine ⟨g, _, _, _, rfl, rfl, SqT.of eg, rfl, l, _, k.c / h.c, _, rfl, rfl, SqL.of e2, r0, bitsOf_at (by omega), ?_⟩
    refine ⟨_, rfl, p, _, _, _, rfl, rfl, SqT.of (s2 _ _ ep1), rfl, _, _, rfl, rfl, ⟨by omega, by omega, by decide⟩, _, _, rfl, rfl, l, _, k.c / h.c, _, rfl, rfl, e2, ixN_in r0 (by rw [bitsOf_len]; omega), ?_⟩
    refine ⟨Same.put (s1.trans s2) hlH, ?_, _, rfl⟩
    rw [upd_same]
    congr 2
    have tk : ks.take (i + 1) = ks.take i ++ [k] := by rw [List.take_succ, hk]; rfl
    have nd := rowP_nodup (p := pIn h) (h := h) (k.c / h.c).toNat (ks := ks.take (i + 1)) ((hfr.imp fun q => apart_in q).sublist (List.take_sublist _ _)) fun k' hk' => hin k' (List.mem_of_mem_take hk')
    rw [tk, rowP_snoc, if_pos (show pIn h k (k.c / h.c).toNat = true from decide_eq_true (by omega))] at nd
    dsimp only
    rw [or_step nd k2.1]
    unfold bitsOf
    rw [set_range]
    refine List.map_congr_left fun r hr => ?_
    rw [tk, rowP_snoc]
    by_cases c : r = (k.c / h.c).toNat
    · subst c
      rw [if_pos rfl, if_pos (show pIn h k (k.c / h.c).toNat = true from decide_eq_true (by omega))]
    · rw [if_neg c, if_neg (show ¬ pIn h k r = true from fun z => c (by have : k.c / h.c = (r : Int) := of_decide_eq_true z; omega)), List.append_nil]
  · rintro σ H' ⟨s1, e1, v3, rfl⟩
    have hl2 : ks.take (as.map V.ref).length = ks := by rw [List.length_map, Paired.length hC, List.take_length]
    rw [hl2] at e1
    exact ⟨_, rfl, q l H' s1 hlH e1⟩
def midOf (h : Hall) (ks : List Call) (k : Call) (rs : List Int) (n : Nat) : List V := (List.range n).map fun r => V.int ((pows (rowP (pOut h) ks r ++ (if (r : Int) ∈ rs then [k.k.toNat] else [])) : Nat) : Int)
theorem sc_out_bits : FnScope ["hall", "calls", "found", "call", "rack"] ["hall", "calls"] (defScope (top 9)) := ⟨rfl, rfl, rfl, by decide +kernel, rfl, by decide +kernel, by decide +kernel⟩
theorem ok_out_bits (T : Txt K mg) (C_racks_of : Callee P w K mg base 2 "racks_of" ["hall", "ends"] (spRacks K)) (D : Def K mg "out_bits" (top 9) ["hall", "calls"]) : Callee P w K mg base 3 "out_bits" ["hall", "calls"] (spBits K pOut Hall.o) := by
  refine D.ok sc_out_bits (fun vs H Q E h => ?_) (fun f cdv A outer s H vs Q E hr h => ?_)
  · obtain ⟨a, b, h, as, ks, rfl, _⟩ := h
    rfl
  obtain ⟨a, b, h, as, ks, rfl, hH, ok, hB, hC, hin, hfr, h63, q⟩ := h
  have o1 := ok.o
  have o2 := ok.e
  have o3 := ok.m
  refine ⟨_, (pss_cons (ps_set (i := 2) sc_out_bits.nd rfl (Or.inl rfl) (pe_op op_rep (pe_lst (pa_cons pe_int pa_nil st_const)) (pe_ix (ix_tupK K) (pv 0) pe_int (fun _ _ => rfl))))
    (pss_cons (ps_for PassesOwn.never rfl (pi_listK K (pv 1)) (pg_name (i := 3) sc_out_bits.nd rfl (Or.inl rfl))
    (pss_one (ps_for PassesOwn.never rfl (pi_listK K (pe_fn C_racks_of hr rfl (pa_cons (pv 0) (pa_cons (pe_ix (ix_tupK K) (pv 3) pe_int (fun _ _ => rfl)) pa_nil st_sub) st_name))) (pg_name (i := 4) sc_out_bits.nd rfl (Or.inl rfl))
    (pss_one (ps_augS (pv 2) (pv 4) (get_listK K) (pe_op op_shl pe_int (pe_ix (ix_tupK K) (pv 3) pe_int (fun _ _ => rfl))) ipR_or set_list)))))
    (pss_one (ps_ret (pv 2))))), ?_⟩
  refine ⟨(by show 1 ≤ sizeLine; decide), fun l0 hl0 => ?_⟩
  have s0 := same_new hl0 (.lst [.int 0])
  have e0 := upd_same (H := H) (a := l0) (o := .lst [.int 0])
  generalize upd H l0 (.lst [.int 0]) = H0 at s0 e0 ⊢
  refine ⟨_, rfl, a, _, _, _, rfl, rfl, Same.seqT s0 hH, rfl, l0, h.o, _, rfl, rfl, e0, by omega, by omega, Nat.le_of_lt (small1000 (by show 1 * h.o.toNat ≤ 1000; omega)), fun l hl => ?_⟩
  have start : (List.replicate h.o.toNat [V.int 0]).flatten = bitsOf (pOut h) (ks.take 0) h.o.toNat := by
    rw [List.take_zero]
    unfold bitsOf
    generalize h.o.toNat = n
    induction n with
    | zero => rfl
    | succ n ih =>
      rw [List.range_succ, List.map_append, List.replicate_succ', List.flatten_append, ih]
      rfl
  rw [start]
  have hlH : H l = none := s0.free hl
  refine ⟨_, rfl, b, rfl, ⟨_, (s0.trans (same_new hl _)).seq hB⟩, ?_⟩
  refine for_list (xs := as.map V.ref) (fun i σ H' => Same H H' ∧ H' l = some (.lst (bitsOf (pOut h) (ks.take i) h.o.toNat)) ∧ ∃ v3 v4, σ = [some (.ref a), some (.ref b), some (.ref l), v3, v4]) ⟨s0.trans (same_new hl _), upd_same, none, none, rfl⟩ (fun i σ H' _ g => g.1.seq hB) ?_ ?_
  · rintro i x σ H' hx ⟨s1, e1, v3, v4, rfl⟩
    rw [List.getElem?_map] at hx
    obtain ⟨p, hp, rfl⟩ := Option.map_eq_some_iff.mp hx
    obtain ⟨k, hk, e, ee, ep⟩ := paired_at hC i p hp
    have hkI := hin k (List.mem_of_getElem? hk)
    have k2 := hkI.k
    have few := hkI.few
    have tk : ks.take (i + 1) = ks.take i ++ [k] := by rw [List.take_succ, hk]; rfl
    refine ⟨_, rfl, _, rfl, p, _, _, _, rfl, rfl, SqT.of (s1 _ _ ep), rfl, a, e, h, k.es, rfl, Same.seqT s1 hH, ok, .inl (SqT.of (s1 _ _ ee)), by omega, fun rl H2 s2 hrl er => ?_⟩
    refine ⟨rl, rfl, ⟨_, SqL.of er⟩, ?_⟩
    have hne : rl ≠ l := fun z => by rw [z, e1] at hrl; cases hrl
    have mid0 : bitsOf (pOut h) (ks.take i) h.o.toNat = midOf h (ks.take i) k ((racksM h k.es).take 0) h.o.toNat := by
      unfold bitsOf midOf
      refine List.map_congr_left fun r hr => ?_
      rw [List.take_zero, if_neg (by simp), List.append_nil]
    have e2 := s2 _ _ e1
    rw [mid0] at e2
    refine for_list (xs := (racksM h k.es).map V.int) (fun j σ H'' => Same H H'' ∧ H'' rl = some (.lst ((racksM h k.es).map V.int)) ∧ H'' l = some (.lst (midOf h (ks.take i) k ((racksM h k.es).take j) h.o.toNat)) ∧ ∃ v4, σ = [some (.ref a), some (.ref b), some (.ref l), some (.ref p), v4]) ⟨s1.trans s2, er, e2, _, rfl⟩ (fun j σ H'' _ g => SqL.of g.2.1) ?_ ?_
    · rintro j x σ H'' hx ⟨s3, er3, e3, v4, rfl⟩
      rw [List.getElem?_map] at hx
      obtain ⟨r, hr2, rfl⟩ := Option.map_eq_some_iff.mp hx
      have hrm : r ∈ racksM h k.es := List.mem_of_getElem? hr2
      obtain ⟨y, hy, hyr⟩ := mem_racks'.mp hrm
      have hye := hkI.es y hy
      have r0 : 0 ≤ r := by rw [← hyr]; exact Int.ediv_nonneg hye.1 (by omega)
      have r1 : r < h.o := by rw [← hyr]; exact Int.ediv_lt_of_lt_mul (by omega) hye.2
      have hrt : ((r.toNat : Nat) : Int) = r := by omega
      have hnot : ¬ r ∈ (racksM h k.es).take j := fun z => by
        have nd := nodup_of_rise (rise_sortU (k.es.map fun e => e / h.e))
        have e4 : (racksM h k.es).take (j + 1) = (racksM h k.es).take j ++ [r] := by rw [List.take_succ, hr2]; rfl
        have nd2 : ((racksM h k.es).take (j + 1)).Nodup := nd.sublist (List.take_sublist _ _)
        rw [e4] at nd2
        exact (List.nodup_append.mp nd2).2.2 r z r (List.mem_singleton.mpr rfl) rfl
      have at1 : (midOf h (ks.take i) k ((racksM h k.es).take j) h.o.toNat)[r.toNat]? = some (V.int ((pows (rowP (pOut h) (ks.take i) r.toNat) : Nat) : Int)) := by
        unfold midOf
        rw [List.getElem?_map, List.getElem?_range (by omega), Option.map_some, hrt, if_neg hnot, List.append_nil]
      refine ⟨_, rfl, _, rfl, l, _, r, _, rfl, rfl, SqL.of e3, r0, at1, ?_⟩
      refine ⟨_, rfl, p, _, _, _, rfl, rfl, SqT.of (s3 _ _ ep), rfl, _, _, rfl, rfl, ⟨by omega, by omega, by decide⟩, _, _, rfl, rfl, l, _, r, _, rfl, rfl, e3, ixN_in r0 (by unfold midOf; rw [List.length_map, List.length_range]; omega), ?_⟩
      refine ⟨Same.put s3 hlH, by rw [upd_ne hne]; exact er3, ?_, _, rfl⟩
      rw [upd_same]
      congr 2
      have pk : pOut h k r.toNat = true := decide_eq_true (by rw [hrt]; exact hrm)
      have nd := rowP_nodup (p := pOut h) (h := h) r.toNat (ks := ks.take (i + 1)) ((hfr.imp fun q => apart_out q).sublist (List.take_sublist _ _)) fun k' hk' => hin k' (List.mem_of_mem_take hk')
      rw [tk, rowP_snoc, if_pos pk] at nd
      dsimp only
      rw [or_step nd k2.1]
      unfold midOf
      rw [set_range]
      refine List.map_congr_left fun m hm => ?_
      have e4 : (racksM h k.es).take (j + 1) = (racksM h k.es).take j ++ [r] := by rw [List.take_succ, hr2]; rfl
      rw [e4]
      by_cases c : m = r.toNat
      · subst c
        rw [if_pos rfl, hrt, if_pos (List.mem_append_right _ (List.mem_singleton.mpr rfl))]
      · rw [if_neg c]
        have : ((m : Int) ∈ (racksM h k.es).take j ++ [r]) ↔ (m : Int) ∈ (racksM h k.es).take j := by
          rw [List.mem_append, List.mem_singleton]
          constructor
          · rintro (z | z)
            · exact z
            · exact absurd (show m = r.toNat by omega) c
          · exact .inl
        by_cases d : (m : Int) ∈ (racksM h k.es).take j
        · rw [if_pos d, if_pos (this.mpr d)]
        · rw [if_neg d, if_neg (fun z => d (this.mp z))]
    · rintro σ H'' ⟨s3, er3, e3, v4, rfl⟩
      refine ⟨s3, ?_, _, _, rfl⟩
      rw [e3, List.length_map, List.take_length, tk]
      congr 2
      unfold midOf bitsOf
      refine List.map_congr_left fun m hm => ?_
      rw [rowP_snoc]
      by_cases d : (m : Int) ∈ racksM h k.es
      · rw [if_pos d, if_pos (show pOut h k m = true from decide_eq_true d)]
      · rw [if_neg d, if_neg (show ¬ pOut h k m = true from fun z => d (of_decide_eq_true z))]
  · rintro σ H' ⟨s1, e1, v3, v4, rfl⟩
    have hl2 : ks.take (as.map V.ref).length = ks := by rw [List.length_map, Paired.length hC, List.take_length]
    rw [hl2] at e1
    exact ⟨_, rfl, q l H' s1 hlH e1⟩
end

theorem and_cast (x y : Nat) : Builtin.bitAnd (x : Int) (y : Int) = ((x &&& y : Nat) : Int) := by
  rw [bitAnd_pp (Int.natCast_nonneg _) (Int.natCast_nonneg _), Int.toNat_natCast, Int.toNat_natCast]
theorem and_lt {x y : Nat} (h : x < 2 ^ 64) : x &&& y < 2 ^ 64 := Nat.lt_of_le_of_lt Nat.and_le_left h
theorem and_bits {row op : List Nat} (n1 : row.Nodup) (n2 : op.Nodup) (lt : ∀ p ∈ row, p < 64) : (bitsL (pows row &&& pows op) (Builtin.Int.intBits ((pows row &&& pows op : Nat) : Int))).length = (row.filter fun p => decide (p ∈ op)).length := by
  have hb := (bitlen _ (and_lt (y := pows op) (pows_lt n1 lt))).2
  refine List.Perm.length_eq ((List.perm_ext_iff_of_nodup ((bitsL_rise _ _).imp fun h => Nat.ne_of_lt h) (n1.sublist List.filter_sublist)).mpr fun q => ?_)
  unfold bitsL
  rw [List.mem_filter, List.mem_range, Nat.testBit_and, pows_bit row n1, pows_bit op n2, List.mem_filter]
  constructor
  · rintro ⟨_, h⟩
    rw [Bool.and_eq_true, decide_eq_true_iff] at h
    exact h
  · rintro ⟨h1, h2⟩
    refine ⟨?_, by rw [h2, decide_eq_true h1]; rfl⟩
    refine Nat.lt_of_not_le fun hle => ?_
    have z : (pows row &&& pows op).testBit q = true := by rw [Nat.testBit_and, pows_bit row n1, pows_bit op n2, h2, decide_eq_true h1]; rfl
    rw [Nat.testBit_lt_two_pow (Nat.lt_of_lt_of_le hb (Nat.pow_le_pow_right (by decide) hle))] at z
    cases z
def cntRow (p : Call → Nat → Bool) (ks : List Call) (op : List Nat) (r : Nat) : Nat := ((rowP p ks r).filter fun k => decide (k ∈ op)).length
def farM (h : Hall) (ks : List Call) (es : List Int) (sh : Int) : List Int := (racksM h es).map fun r => ((cntRow (pOut h) ks (openM h sh) r.toNat : Nat) : Int)
theorem open_nodup (h : Hall) (sh : Int) : (openM h sh).Nodup := List.nodup_range.sublist List.filter_sublist
theorem rowP_lt {p : Call → Nat → Bool} {h : Hall} (ok : h.Ok) {ks : List Call} (hin : ∀ k ∈ ks, k.In h) {r : Nat} : ∀ q ∈ rowP p ks r, q < 64 := fun q hq => by
  unfold rowP at hq
  obtain ⟨k, hk, rfl⟩ := List.mem_map.mp hq
  have h1 := (hin k (List.mem_filter.mp hk).1).k
  have h2 := ok.m
  omega
def spCount (K : PySem.W.Frag) : Sp := fun vs H Q _ => ∃ (a l e : Addr) (h : Hall) (as : List Addr) (ks : List Call) (c : Int) (es : List Int) (sh : Int), vs = [.ref a, .ref l, .int c, .ref e, .int sh] ∧ Asked K H a l e h as ks es ∧ ks.Pairwise (Free h) ∧ (0 ≤ c ∧ c < h.i * h.c) ∧ (∀ x ∈ es, 0 ≤ x ∧ x < h.o * h.e) ∧
  ∀ (p fl : Addr) (H' : Hp), Same H H' → H' fl = some (.lst ((farM h ks es sh).map V.int)) → H' p = some (.tup [.int ((cntRow (pIn h) ks (openM h sh) (c / h.c).toNat : Nat) : Int), .ref fl, .int (((openM h sh).length : Nat) : Int)]) → Q (.ref p) H'
section
variable {P : Program} {w : World} {K : PySem.W.Frag} {mg : Str → Option Value} {base : Heap}
theorem sc_count_of : FnScope ["hall", "calls", "caller", "ends", "shut", "ready", "kept", "near", "outs", "far"] ["hall", "calls", "caller", "ends", "shut"] (defScope (top 16)) := ⟨rfl, rfl, rfl, by decide +kernel, rfl, by decide +kernel, by decide +kernel⟩
theorem ok_count (T : Txt K mg) (C_left_open : Callee P w K mg base 1 "left_open" ["hall", "shut"] (spOpen K)) (C_bits_of : Callee P w K mg base 1 "bits_of" ["places"] (spBitsOf K)) (C_bit_list : Callee P w K mg base 1 "bit_list" ["bits"] spBitList) (C_place_in : Callee P w K mg base 1 "place_in" ["hall", "caller"] (spPlace K Hall.c)) (C_racks_of : Callee P w K mg base 2 "racks_of" ["hall", "ends"] (spRacks K)) (C_in_bits : Callee P w K mg base 2 "in_bits" ["hall", "calls"] (spBits K pIn Hall.i)) (C_out_bits : Callee P w K mg base 3 "out_bits" ["hall", "calls"] (spBits K pOut Hall.o)) (D : DefD K mg "count_of" (top 16) ["hall", "calls", "caller", "ends", "shut"] [.int 0]) : CalleeD P w K mg base 4 "count_of" ["hall", "calls", "caller", "ends", "shut"] [.int 0] (spCount K) := by
  refine D.ok sc_count_of (fun vs H Q E h => ?_) (fun f cdv A outer s H vs Q E hr h => ?_)
  · obtain ⟨a, l, e, h, as, ks, c, es, sh, rfl, _⟩ := h
    rfl
  obtain ⟨a, l, e, h, as, ks, c, es, sh, rfl, ask, hfr, hc, hes, q⟩ := h
  have ok := ask.ok
  have o1 := ok.i
  have o2 := ok.c
  have o3 := ok.m
  have o4 := ok.o
  have o5 := ok.e
  refine ⟨_, (pss_cons (ps_set (i := 5) sc_count_of.nd rfl (Or.inl rfl) (pe_fn C_left_open hr rfl (pa_cons (pv 0) (pa_cons (pv 4) pa_nil st_name) st_name)))
    (pss_cons (ps_set (i := 6) sc_count_of.nd rfl (Or.inr rfl) (pe_fn C_bits_of hr rfl (pa_cons (pv 5) pa_nil st_name)))
    (pss_cons (ps_set (i := 7) sc_count_of.nd rfl (Or.inl rfl) (pe_ix (ix_listK K) (pe_fn C_in_bits hr rfl (pa_cons (pv 0) (pa_cons (pv 1) pa_nil st_name) st_name)) (pe_ix (ix_tupK K) (pe_fn C_place_in hr rfl (pa_cons (pv 0) (pa_cons (pv 2) pa_nil st_name) st_name)) pe_int (fun _ _ => rfl)) (fun _ _ => rfl)))
    (pss_cons (ps_set (i := 8) sc_count_of.nd rfl (Or.inr rfl) (pe_fn C_out_bits hr rfl (pa_cons (pv 0) (pa_cons (pv 1) pa_nil st_name) st_name)))
    (pss_cons (ps_comp (i := 9) (own := ["rack"]) (fr := [(8, "outs"), (6, "kept")]) rfl sc_count_of.nd rfl rfl (show CompScope ["hall", "calls", "caller", "ends", "shut", "ready", "kept", "near", "outs", "far"] (defScope (top 16)) _ _ _ from ⟨rfl, by decide +kernel, by decide +kernel, by decide +kernel, by decide +kernel⟩) (pi_listK K (pe_fn C_racks_of hr rfl (pa_cons (pv 0) (pa_cons (pv 3) pa_nil st_name) st_name))) (fun cl C s H ex => ⟨(pg_name (i := 0) (show (["rack", "outs", "kept"] : List Str).Nodup from by decide +kernel) rfl (Or.inl rfl) (Or.inr rfl)), pif_nil, (pe_callB (call_lenK K) rfl T.m_len boot_len (pa_cons (pe_fn C_bit_list hr rfl (pa_cons (pe_op op_and (pe_ix (ix_listK K) (pv 1) (pv 0) (fun _ _ => rfl)) (pv 2)) pa_nil st_bin)) pa_nil st_call))⟩) rfl)
    (pss_one (ps_ret (pe_tup (pa_cons (pe_callB (call_lenK K) rfl T.m_len boot_len (pa_cons (pe_fn C_bit_list hr rfl (pa_cons (pe_op op_and (pv 7) (pv 6)) pa_nil st_bin)) pa_nil st_call)) (pa_cons (pv 9) (pa_cons (pe_callB (call_lenK K) rfl T.m_len boot_len (pa_cons (pv 5) pa_nil st_name)) pa_nil st_call) st_name) st_call))))))))), ?_⟩
  refine ⟨_, rfl, _, rfl, a, h, sh, rfl, ask.a, ok, fun lo hlo => ?_⟩
  have elo := upd_same (H := H) (a := lo) (o := .lst (natV (openM h sh)))
  have s1 := same_new hlo (.lst (natV (openM h sh)))
  generalize upd H lo (.lst (natV (openM h sh))) = H1 at elo s1 ⊢
  have ond := open_nodup h sh
  have olt : ∀ p ∈ openM h sh, p < 64 := fun p hp => by have := open_lt hp; omega
  refine ⟨_, rfl, lo, openM h sh, rfl, SqL.of elo, ond, olt, ?_⟩
  refine ⟨_, rfl, _, rfl, a, l, h, as, ks, rfl, Same.seqT s1 ask.a, ok, s1.seq ask.l, CallsAt.same (fun b xs z => s1 _ _ z) ask.c, ask.hin, hfr, ask.few, fun l1 H2 s2 _ e2 => ?_⟩
  have s12 := s1.trans s2
  refine ⟨_, rfl, _, rfl, a, h, c, rfl, Same.seqT s12 ask.a, ok, fun r hr1 => ?_⟩
  have er := upd_same (H := H2) (a := r) (o := .tup [.int (c / h.c), .int (c % h.c)])
  have s3 := same_new hr1 (.tup [.int (c / h.c), .int (c % h.c)])
  generalize upd H2 r (.tup [.int (c / h.c), .int (c % h.c)]) = H3 at er s3 ⊢
  have r0 : 0 ≤ c / h.c := Int.ediv_nonneg hc.1 (by omega)
  have r1 : c / h.c < h.i := Int.ediv_lt_of_lt_mul (by omega) hc.2
  have hat : atI (bitsOf (pIn h) ks h.i.toNat) (c / h.c) = some (V.int ((pows (rowP (pIn h) ks (c / h.c).toNat) : Nat) : Int)) := by
    have := atI_nat (xs := bitsOf (pIn h) ks h.i.toNat) (bitsOf_at (p := pIn h) (ks := ks) (n := h.i.toNat) (r := (c / h.c).toNat) (by omega))
    rw [Int.toNat_of_nonneg r0] at this
    exact this
  refine ⟨r, _, _, _, rfl, rfl, SqT.of er, rfl, l1, _, _, _, rfl, rfl, SqL.of (s3 _ _ e2), hat, ?_⟩
  have s13 := s12.trans s3
  refine ⟨_, rfl, _, rfl, a, l, h, as, ks, rfl, Same.seqT s13 ask.a, ok, s13.seq ask.l, CallsAt.same (fun b xs z => s13 _ _ z) ask.c, ask.hin, hfr, ask.few, fun l2 H4 s4 _ e4 => ?_⟩
  have s14 := s13.trans s4
  refine ⟨_, rfl, _, rfl, a, e, h, es, rfl, Same.seqT s14 ask.a, ok, ask.e.imp (fun z => Same.seqT s14 z) (fun z => s14.seq z), ask.len, fun lr H5 s5 _ e5 => ?_⟩
  have e45 := s5 _ _ e4
  have rl := racks_len h es
  have hlen := ask.len
  have lt1 := fun r => rowP_lt (p := pIn h) ok ask.hin (r := r)
  have lt2 := fun r => rowP_lt (p := pOut h) ok ask.hin (r := r)
  have n1 := fun r => rowP_nodup (p := pIn h) (h := h) r (ks := ks) (hfr.imp fun q => apart_in q) ask.hin
  have n2 := fun r => rowP_nodup (p := pOut h) (h := h) r (ks := ks) (hfr.imp fun q => apart_out q) ask.hin
  refine ⟨lr, rfl, ⟨_, SqL.of e5⟩, ?_⟩
  refine comp_list (xs := (racksM h es).map V.int) (fun i acc σ H' => Same H5 H' ∧ acc = (((racksM h es).take i).map fun r => ((cntRow (pOut h) ks (openM h sh) r.toNat : Nat) : Int)).map V.int ∧ ∃ v, σ = [v, some (.ref l2), some (.int ((pows (openM h sh) : Nat) : Int))])
    ⟨Same.refl _, rfl, none, rfl⟩ (Nat.le_of_lt (small1000 (by rw [List.length_map]; omega))) (fun i acc σ H' g => ?_) (fun i acc σ H' _ g => SqL.of (g.1 _ _ e5)) ?_ ?_
  · obtain ⟨_, rfl, _⟩ := g
    rw [List.length_map, List.length_map, List.length_take]
    omega
  · rintro i y acc σ H' hy ⟨g1, rfl, v, rfl⟩
    rw [List.getElem?_map] at hy
    obtain ⟨x, hx, rfl⟩ := Option.map_eq_some_iff.mp hy
    obtain ⟨z, hz, hzr⟩ := mem_racks'.mp (List.mem_of_getElem? hx)
    have hze := hes z hz
    have x0 : 0 ≤ x := by rw [← hzr]; exact Int.ediv_nonneg hze.1 (by omega)
    have x1 : x < h.o := by rw [← hzr]; exact Int.ediv_lt_of_lt_mul (by omega) hze.2
    have hat2 : atI (bitsOf (pOut h) ks h.o.toNat) x = some (V.int ((pows (rowP (pOut h) ks x.toNat) : Nat) : Int)) := by
      have := atI_nat (xs := bitsOf (pOut h) ks h.o.toNat) (bitsOf_at (p := pOut h) (ks := ks) (n := h.o.toNat) (r := x.toNat) (by omega))
      rw [Int.toNat_of_nonneg x0] at this
      exact this
    refine ⟨_, rfl, _, rfl, l2, _, _, _, rfl, rfl, SqL.of (g1 _ _ e45), hat2, _, rfl, _, _, rfl, rfl, _, congrArg (fun z => [V.int z]) (and_cast _ _), and_lt (pows_lt (n2 _) (lt2 _)), fun bl hbl => ?_⟩
    refine ⟨bl, _, rfl, .inl (SqL.of upd_same), g1.trans (same_new hbl _), ?_, _, rfl⟩
    rw [List.take_succ, hx, List.map_append, List.map_append, pv_len, and_bits (n2 _) ond (lt2 _)]
    rfl
  · rintro acc σ H6 ⟨s6, rfl, v, rfl⟩ fl hfl
    rw [List.length_map, List.take_length]
    have efl := upd_same (H := H6) (a := fl) (o := .lst ((farM h ks es sh).map V.int))
    have s7 := same_new hfl (.lst ((farM h ks es sh).map V.int))
    change ∃ _, _
    unfold farM at efl s7
    generalize hgen : upd H6 fl _ = H7 at efl s7 ⊢
    have s17 := s14.trans (s5.trans (s6.trans s7))
    have s27 := s2.trans (s3.trans (s4.trans (s5.trans (s6.trans s7))))
    refine ⟨_, rfl, _, rfl, _, _, rfl, rfl, _, congrArg (fun z => [V.int z]) (and_cast _ _), and_lt (pows_lt (n1 _) (lt1 _)), fun bl hbl => ?_⟩
    have s8 := same_new hbl (.lst (natV (bitsL (pows (rowP (pIn h) ks (c / h.c).toNat) &&& pows (openM h sh)) (Builtin.Int.intBits ((pows (rowP (pIn h) ks (c / h.c).toNat) &&& pows (openM h sh) : Nat) : Int)))))
    refine ⟨bl, _, rfl, .inl (SqL.of upd_same), _, rfl, _, rfl, lo, _, rfl, .inl (SqL.of (s8 _ _ (s27 _ _ elo))), (by show 3 ≤ sizeLine; decide), fun p hp => ?_⟩
    refine q p fl _ ((s17.trans s8).trans (same_new hp _)) (same_new hp _ _ _ (s8 _ _ efl)) ?_
    rw [upd_same, pv_len, pv_len, and_bits (n1 _) ond (lt1 _)]
    rfl
end

theorem nat_in {x : Int} (hx : 0 ≤ x) (ps : List Nat) : inV (.int x) (natV ps) = decide (x.toNat ∈ ps) := by
  rw [natV_int, int_in, Bool.eq_iff_iff, decide_eq_true_iff, decide_eq_true_iff, List.mem_map]
  constructor
  · rintro ⟨p, hp, rfl⟩
    rw [Int.toNat_natCast]
    exact hp
  · intro h
    exact ⟨_, h, by omega⟩
theorem racks_range {h : Hall} (ok : h.Ok) {es : List Int} (hes : ∀ x ∈ es, 0 ≤ x ∧ x < h.o * h.e) : racksM h es = ((List.range h.o.toNat).filter fun r => decide (((r : Nat) : Int) ∈ es.map fun e => e / h.e)).map fun (r : Nat) => (r : Int) := by
  have o5 := ok.e
  have o4 := ok.o
  have rs : (racksM h es).Pairwise (· < ·) := rise_sortU _
  have rs2 : (((List.range h.o.toNat).filter fun r => decide (((r : Nat) : Int) ∈ es.map fun e => e / h.e)).map fun (r : Nat) => (r : Int)).Pairwise (· < ·) := by
    rw [List.pairwise_map]
    exact (List.Pairwise.filter _ List.pairwise_lt_range).imp fun h => by omega
  refine PySem.W.ksm_same ?_ (rs.imp fun h => by omega) (rs2.imp fun h => by omega)
  refine (List.perm_ext_iff_of_nodup (rs.imp fun h => by omega) (rs2.imp fun h => by omega)).mpr fun x => ?_
  rw [mem_racks', List.mem_map]
  constructor
  · rintro ⟨e, he, rfl⟩
    have hz := hes e he
    have x0 : 0 ≤ e / h.e := Int.ediv_nonneg hz.1 (by omega)
    have x1 : e / h.e < h.o := Int.ediv_lt_of_lt_mul (by omega) hz.2
    refine ⟨(e / h.e).toNat, List.mem_filter.mpr ⟨List.mem_range.mpr (by omega), decide_eq_true ?_⟩, by omega⟩
    rw [Int.toNat_of_nonneg x0]
    exact List.mem_map.mpr ⟨e, he, rfl⟩
  · rintro ⟨r, hr, rfl⟩
    obtain ⟨e, he, q⟩ := List.mem_map.mp (of_decide_eq_true (List.mem_filter.mp hr).2)
    exact ⟨e, he, q⟩

def goneF (ks : List Call) (xs : List Int) : List Call := ks.filter fun k => !decide (k.c ∈ xs)
theorem hrow_gone (h : Hall) (ks : List Call) (s : Int) (gs : List Int) (r : Nat) (xs : List Int) : hrow h (goneF ks xs) s gs r = (hrow h ks s gs r).filter fun c => !decide (c ∈ xs) := by
  unfold hrow goneF
  rw [List.filter_map, List.filter_filter, List.filter_filter]
  congr 1
  exact List.filter_congr fun k _ => by rw [Bool.and_comm]; rfl
theorem hrow_rise {h : Hall} {ks : List Call} {s : Int} {gs : List Int} {r : Nat} (hlt : ks.Pairwise fun k k' => k.c < k'.c) : (hrow h ks s gs r).Pairwise (· < ·) := by
  unfold hrow
  rw [List.pairwise_map]
  exact hlt.filter _
theorem nd_len : ∀ {l xs : List Int}, l.Nodup → (∀ c ∈ l, c ∈ xs) → l.length ≤ xs.length
  | [], _, _, _ => Nat.zero_le _
  | a :: t, xs, nd, sub => by
    rw [List.nodup_cons] at nd
    have h1 : ∀ c ∈ t, c ∈ xs.erase a := fun c hc => (List.mem_erase_of_ne fun z => nd.1 (by rw [← z]; exact hc)).mpr (sub c (List.mem_cons_of_mem _ hc))
    have h2 := nd_len nd.2 h1
    have ha := sub a List.mem_cons_self
    rw [List.length_erase_of_mem ha] at h2
    have h3 := List.length_pos_of_mem ha
    rw [List.length_cons]
    omega
theorem few_left {l xs : List Int} (nd : l.Nodup) (hl : xs.length < l.length) : l.filter (fun c => !decide (c ∈ xs)) ≠ [] := fun z => by
  have sub : ∀ c ∈ l, c ∈ xs := fun c hc => by
    by_cases q : c ∈ xs
    · exact q
    · exact absurd z (List.ne_nil_of_mem (List.mem_filter.mpr ⟨hc, by simp [q]⟩))
  have := nd_len nd sub
  omega
theorem mem_open {h : Hall} {sh : Int} {k : Nat} : k ∈ openM h sh ↔ k < h.m.toNat ∧ openB sh k = true := by
  unfold openM
  rw [List.mem_filter, List.mem_range]
theorem mem_ways {h : Hall} {ks : List Call} {c : Int} {es : List Int} {sh : Int} {k : Nat} : k ∈ waysM h ks c es sh ↔ k ∈ openM h sh ∧ hrow h ks (c / h.c) (racksM h es) k = [] := by
  unfold waysM freeB
  rw [List.mem_filter, decide_eq_true_iff]
theorem ways_few {h : Hall} {ks : List Call} {c : Int} {es : List Int} {sh : Int} {xs : List Int} (hlt : ks.Pairwise fun k k' => k.c < k'.c) (hm : ∀ k ∈ openM h sh, xs.length < lenH h ks c es k) : waysM h (goneF ks xs) c es sh = [] := by
  refine List.eq_nil_iff_forall_not_mem.mpr fun k hk => ?_
  obtain ⟨h1, h2⟩ := mem_ways.mp hk
  rw [hrow_gone] at h2
  exact few_left (nodup_of_rise (hrow_rise hlt)) (hm k h1) h2
theorem ways_gone {h : Hall} {ks : List Call} {c : Int} {es : List Int} {sh : Int} {k : Nat} (hk : k ∈ openM h sh) : waysM h (goneF ks (hrow h ks (c / h.c) (racksM h es) k)) c es sh ≠ [] := by
  refine List.ne_nil_of_mem (mem_ways.mpr ⟨hk, ?_⟩)
  rw [hrow_gone]
  exact List.filter_eq_nil_iff.mpr fun x hx => by simp [hx]
theorem least_nil {h : Hall} {ks : List Call} {c : Int} {es : List Int} {sh : Int} {k : Nat} (hk : LeastK h ks c es sh k) : hrow h ks (c / h.c) (racksM h es) k = [] ↔ waysM h ks c es sh ≠ [] := by
  constructor
  · intro z
    exact List.ne_nil_of_mem (mem_ways.mpr ⟨hk.1, z⟩)
  · intro z
    obtain ⟨k', hk'⟩ := List.exists_mem_of_ne_nil _ z
    obtain ⟨h1, h2⟩ := mem_ways.mp hk'
    have := (hk.2 k' h1).1
    unfold lenH at this
    rw [h2] at this
    exact List.eq_nil_of_length_eq_zero (by simpa using this)
theorem open_shut {h : Hall} {sh : Int} (h0 : 0 ≤ sh) (h1 : sh < 2 ^ h.m.toNat) : openM h sh = [] ↔ sh = 1 * 2 ^ h.m.toNat - 1 := by
  constructor
  · intro z
    obtain ⟨b, rfl⟩ := Int.eq_ofNat_of_zero_le h0
    have hb : b < 2 ^ h.m.toNat := by
      have : ((b : Nat) : Int) < ((2 ^ h.m.toNat : Nat) : Int) := by rw [Int.natCast_pow]; exact h1
      omega
    have e : b = 2 ^ h.m.toNat - 1 := by
      refine Nat.eq_of_testBit_eq fun i => ?_
      rw [Nat.testBit_two_pow_sub_one]
      by_cases hi : i < h.m.toNat
      · rw [decide_eq_true hi]
        cases q : b.testBit i with
        | true => rfl
        | false =>
          have : i ∈ openM h (b : Int) := mem_open.mpr ⟨hi, by rw [open_bit, q]; rfl⟩
          rw [z] at this
          cases this
      · rw [decide_eq_false hi]
        exact Nat.testBit_lt_two_pow (Nat.lt_of_lt_of_le hb (Nat.pow_le_pow_right (by decide) (by omega)))
    have hp : 0 < 2 ^ h.m.toNat := Nat.pow_pos (by decide)
    have hc : ((2 ^ h.m.toNat : Nat) : Int) = (2 : Int) ^ h.m.toNat := by rw [Int.natCast_pow]; rfl
    rw [Int.one_mul, ← hc]
    omega
  · intro z
    refine List.eq_nil_iff_forall_not_mem.mpr fun k hk => ?_
    obtain ⟨h2, h3⟩ := mem_open.mp hk
    have hp : 0 < 2 ^ h.m.toNat := Nat.pow_pos (by decide)
    have hc : ((2 ^ h.m.toNat : Nat) : Int) = (2 : Int) ^ h.m.toNat := by rw [Int.natCast_pow]; rfl
    have e : sh = ((2 ^ h.m.toNat - 1 : Nat) : Int) := by
      rw [z, Int.one_mul, ← hc]
      omega
    rw [e, open_bit, Nat.testBit_two_pow_sub_one, decide_eq_true h2] at h3
    cases h3
structure HeldD (h : Hall) (ks : List Call) (kvs : List (List Key × V)) : Prop where
  has : ∀ k ∈ ks, ∀ d ∈ linesM h k.c k.es k.k, valV kvs d = some (.int k.c)
  only : ∀ d v, valV kvs d = some v → ∃ k ∈ ks, d ∈ linesM h k.c k.es k.k ∧ v = .int k.c
theorem HeldD.taken {h : Hall} {ks : List Call} {kvs : List (List Key × V)} (e : HeldD h ks kvs) : Taken h ks kvs := fun d => by
  constructor
  · intro z
    obtain ⟨v, hv⟩ := Option.isSome_iff_exists.mp z
    obtain ⟨k, h1, h2, _⟩ := e.only d v hv
    exact ⟨k, h1, h2⟩
  · rintro ⟨k, h1, h2⟩
    rw [e.has k h1 d h2]
    rfl
def thereM (h : Hall) (kvs : List (List Key × V)) (c : Int) (es : List Int) (r : Nat) : List Int := (linesM h c es (r : Int)).filterMap fun d => match valV kvs d with
  | some (.int x) => some x
  | _ => none
theorem mem_there {h : Hall} {ks : List Call} {kvs : List (List Key × V)} (e : HeldD h ks kvs) {c : Int} {es : List Int} {r : Nat} {x : Int} : x ∈ thereM h kvs c es r ↔ x ∈ hrow h ks (c / h.c) (racksM h es) r := by
  unfold thereM
  rw [List.mem_filterMap, mem_hrow]
  constructor
  · rintro ⟨d, hd, z⟩
    cases q : valV kvs d with
    | none => rw [q] at z; cases z
    | some v =>
      obtain ⟨k, h1, h2, rfl⟩ := e.only d v q
      rw [q] at z
      injection z with z
      obtain ⟨x', y', e1⟩ := line_last hd
      obtain ⟨x'', y'', e2⟩ := line_last h2
      have e3 : k.k = (r : Int) := by
        rw [e1] at e2
        simp only [List.cons.injEq, Sum.inl.injEq] at e2
        exact e2.2.2.1.symm
      refine ⟨k, h1, e3, meet_iff.mp ?_, z⟩
      rw [e3] at h2 ⊢
      exact List.ne_nil_of_mem (List.mem_filter.mpr ⟨h2, inD_iff.mpr hd⟩)
  · rintro ⟨k, h1, h2, h3, h4⟩
    have ne := meet_iff.mpr h3
    obtain ⟨d, hd⟩ := List.exists_mem_of_ne_nil _ ne
    obtain ⟨g1, g2⟩ := List.mem_filter.mp hd
    rw [inD_iff, h2] at g2
    exact ⟨d, g2, by rw [e.has k h1 d g1, ← h4]⟩
theorem there_sorted {h : Hall} {ks : List Call} {kvs : List (List Key × V)} (e : HeldD h ks kvs) (hlt : ks.Pairwise fun k k' => k.c < k'.c) {c : Int} {es : List Int} {r : Nat} : sortU (thereM h kvs c es r) = hrow h ks (c / h.c) (racksM h es) r :=
  rise_ext (rise_sortU _) (hrow_rise hlt) fun x => by rw [mem_sortU, mem_there e]
theorem there_nil {h : Hall} {ks : List Call} {kvs : List (List Key × V)} (e : HeldD h ks kvs) {c : Int} {es : List Int} {r : Nat} : thereM h kvs c es r = [] ↔ hrow h ks (c / h.c) (racksM h es) r = [] := by
  rw [List.eq_nil_iff_forall_not_mem, List.eq_nil_iff_forall_not_mem]
  exact forall_congr' fun x => not_congr (mem_there e)
def heldN (kvs : List (List Key × V)) (op : List Nat) (f : Nat → List Key) : List Nat := op.filter fun k => (valV kvs (f k)).isSome
theorem cnt_same {p : Call → Nat → Bool} {h : Hall} {ks : List Call} {kvs : List (List Key × V)} {r : Nat} {f : Nat → List Key} (e : Taken h ks kvs) (ap : ks.Pairwise (Apart p)) (hin : ∀ k ∈ ks, k.In h) {op : List Nat} (nd : op.Nodup)
    (hf : ∀ k ∈ ks, ∀ n : Nat, f n ∈ linesM h k.c k.es k.k ↔ k.k = (n : Int) ∧ p k r = true) : cntRow p ks op r = (heldN kvs op f).length := by
  unfold cntRow heldN
  refine List.Perm.length_eq ((List.perm_ext_iff_of_nodup ((rowP_nodup r ap hin).sublist List.filter_sublist) (nd.sublist List.filter_sublist)).mpr fun n => ?_)
  rw [List.mem_filter, List.mem_filter, decide_eq_true_iff, e]
  unfold rowP
  rw [List.mem_map]
  constructor
  · rintro ⟨⟨k, hk, rfl⟩, h2⟩
    obtain ⟨g1, g2⟩ := List.mem_filter.mp hk
    have := (hin k g1).k
    exact ⟨h2, k, g1, (hf k g1 _).mpr ⟨by omega, g2⟩⟩
  · rintro ⟨h1, k, g1, g2⟩
    obtain ⟨q1, q2⟩ := (hf k g1 n).mp g2
    exact ⟨⟨k, List.mem_filter.mpr ⟨g1, q2⟩, by omega⟩, h1⟩
theorem filter_two (p : Nat → Bool) : ∀ L : List Nat, L.length = (L.filter p).length + (L.filter fun k => !p k).length
  | [] => rfl
  | x :: t => by
    have := filter_two p t
    rw [List.filter_cons, List.filter_cons, List.length_cons]
    cases p x
    · rw [if_neg (by decide), if_pos (by decide), List.length_cons]
      omega
    · rw [if_pos rfl, if_neg (by decide), List.length_cons]
      omega
theorem union_len {P : Int → Nat → Bool} {P0 : Nat → Bool} : ∀ {rs : List Int} {L : List Nat}, (∀ k ∈ L, P0 k = true ∨ ∃ r ∈ rs, P r k = true) → L.length ≤ (L.filter P0).length + (rs.map fun r => (L.filter (P r)).length).sum
  | [], L, h => by
    rw [List.filter_eq_self.mpr fun k hk => (h k hk).resolve_right fun ⟨_, z, _⟩ => nomatch z]
    omega
  | r :: t, L, h => by
    have h1 := union_len (P := P) (P0 := P0) (rs := t) (L := L.filter fun k => !P r k) fun k hk => by
      obtain ⟨g1, g2⟩ := List.mem_filter.mp hk
      rcases h k g1 with z | ⟨r', z1, z2⟩
      · exact .inl z
      · rcases List.mem_cons.mp z1 with rfl | z1
        · rw [z2] at g2
          cases g2
        · exact .inr ⟨r', z1, z2⟩
    have h2 : L.length = (L.filter (P r)).length + (L.filter fun k => !P r k).length := filter_two _ _
    have sub : ∀ Q : Nat → Bool, ((L.filter fun k => !P r k).filter Q).length ≤ (L.filter Q).length := fun Q => List.Sublist.length_le (List.Sublist.filter _ List.filter_sublist)
    have h3 : ∀ t : List Int, (t.map fun r' => ((L.filter fun k => !P r k).filter (P r')).length).sum ≤ (t.map fun r' => (L.filter (P r')).length).sum := fun t => by
      induction t with
      | nil => exact Nat.le_refl _
      | cons a u ih =>
        rw [List.map_cons, List.sum_cons, List.map_cons, List.sum_cons]
        have := sub (P a)
        omega
    have h4 := h3 t
    have h5 := sub P0
    rw [List.map_cons, List.sum_cons]
    omega

def spLeft (K : PySem.W.Frag) : Sp := fun vs H Q _ => ∃ (l g : Addr) (as : List Addr) (ks : List Call) (xs : List Int), vs = [.ref l, .ref g] ∧ H l = some (.lst (as.map V.ref)) ∧ CallsAt H as ks ∧ ks.length ≤ 63 ∧ H g = some (.lst (xs.map V.int)) ∧
  ∀ (l' : Addr) (as' : List Addr) (H' : Hp), Same H H' → H' l' = some (.lst (as'.map V.ref)) → CallsAt H' as' (goneF ks xs) → Q (.ref l') H'
def TakenN (h : Hall) (ks : List Call) (kvs : List (List Key × V)) : Prop := ∀ d, (valV kvs d).isSome = true ↔ ∃ k ∈ ks, d ∈ needsM h k
def spTaken16 (K : PySem.W.Frag) : Sp := fun vs H Q _ => ∃ (a l : Addr) (h : Hall) (as : List Addr) (ks : List Call), vs = [.ref a, .ref l] ∧ SqT K H a (h.row.map V.int) ∧ h.Ok ∧ H l = some (.lst (as.map V.ref)) ∧ CallsAt H as ks ∧ (∀ k ∈ ks, k.In h) ∧ ks.length ≤ 63 ∧
  ∀ (t : Addr) (kvs : List (List Key × V)) (H' : Hp), Same H H' → H t = none → H' t = some (.dT kvs) → TakenN h ks kvs → kvs.length ≤ 5000 → Q (.ref t) H'
theorem put_taken {kvs : List (List Key × V)} {d : List Key} {v : V} {A : List Key → Prop} (h : ∀ x, (valV kvs x).isSome = true ↔ A x) : ∀ x, (valV (putK kvs d v) x).isSome = true ↔ A x ∨ x = d := fun x => by
  rw [valV_put]
  by_cases c : x = d
  · rw [if_pos c]
    simp [c]
  · rw [if_neg c, h]
    simp [c]
section
variable {P : Program} {w : World} {K : PySem.W.Frag} {mg : Str → Option Value} {base : Heap}
theorem sc__law_left : FnScope ["_law_calls", "_law_gone"] ["_law_calls", "_law_gone"] (defScope (top 26)) := ⟨rfl, rfl, rfl, by decide +kernel, rfl, by decide +kernel, by decide +kernel⟩
theorem ok_left (T : Txt K mg) (D : Def K mg "_law_left" (top 26) ["_law_calls", "_law_gone"]) : Callee P w K mg base 1 "_law_left" ["_law_calls", "_law_gone"] (spLeft K) := by
  refine D.ok sc__law_left (fun vs H Q E h => ?_) (fun f cdv A outer s H vs Q E hr h => ?_)
  · obtain ⟨l, g, as, ks, xs, rfl, _⟩ := h
    rfl
  obtain ⟨l, g, as, ks, xs, rfl, el, hC, h63, eg, q⟩ := h
  have la := Paired.length hC
  refine ⟨_, (pss_one (ps_ret (pe_comp (own := ["_law_call"]) (fr := [(1, "_law_gone")]) rfl (show CompScope ["_law_calls", "_law_gone"] (defScope (top 26)) _ _ _ from ⟨rfl, by decide +kernel, by decide +kernel, by decide +kernel, by decide +kernel⟩) (pi_listK K (pv 0)) (fun cl C s H ex => ⟨(pg_name (i := 0) (show (["_law_call", "_law_gone"] : List Str).Nodup from by decide +kernel) rfl (Or.inl rfl) (Or.inr rfl)), (pif_one (pt_cmpR (op_notInK K) (pe_ix (ix_tupK K) (pv 0) pe_int (fun _ _ => rfl)) (pv 1) (by with_unfolding_all rfl))), (pv 0)⟩)))), ?_⟩
  refine ⟨_, rfl, l, rfl, ⟨_, SqL.of el⟩, ?_⟩
  refine comp_list (xs := as.map V.ref) (fun m acc σ H' => H' = H ∧ (∃ bs : List Addr, acc = bs.map V.ref ∧ CallsAt H bs (goneF (ks.take m) xs)) ∧ ∃ v, σ = [v, some (.ref g)])
    ⟨rfl, ⟨[], rfl, .nil⟩, none, rfl⟩ (Nat.le_of_lt (small1000 (by rw [List.length_map]; omega))) (fun m acc σ H'' g => ?_) (fun m acc σ H'' _ g => by rw [g.1]; exact SqL.of el) ?_ ?_
  · obtain ⟨_, ⟨bs, rfl, hb⟩, _⟩ := g
    have := Paired.length hb
    rw [List.length_map, this]
    exact Nat.le_trans (List.length_filter_le _ _) (by rw [List.length_take]; omega)
  · rintro m y acc σ H'' hy ⟨rfl, ⟨bs, rfl, hb⟩, v, rfl⟩
    rw [List.getElem?_map] at hy
    obtain ⟨pc, hpc, rfl⟩ := Option.map_eq_some_iff.mp hy
    obtain ⟨kc, hk1, hk2⟩ := paired_at hC m pc hpc
    obtain ⟨ce, e1, e2⟩ := id hk2
    refine ⟨_, rfl, pc, _, _, _, rfl, rfl, SqT.of e2, rfl, _, rfl, g, _, rfl, .inl (SqL.of eg), rfl, int_flat xs, _, rfl, ?_⟩
    have keyR : inV (.int kc.c) (xs.map V.int) = decide (kc.c ∈ xs) := int_in _ _
    have fs := filter_step (p := fun k => !decide (k.c ∈ xs)) hk1
    refine ite2 (fun c2 => ?_) (fun c2 => ?_)
    · have c2' : (!inV (.int kc.c) (xs.map V.int)) = true := c2
      rw [keyR] at c2'
      refine ⟨_, rfl, rfl, ⟨bs ++ [pc], by rw [List.map_append]; rfl, ?_⟩, _, rfl⟩
      unfold goneF
      rw [fs, if_pos c2']
      exact Paired.snoc hb hk2
    · have c2' : ¬ (!inV (.int kc.c) (xs.map V.int)) = true := c2
      rw [keyR] at c2'
      refine ⟨rfl, ⟨bs, rfl, ?_⟩, _, rfl⟩
      unfold goneF
      rw [fs, if_neg c2', List.append_nil]
      exact hb
  · rintro acc σ H'' ⟨rfl, ⟨bs, rfl, hb⟩, v, rfl⟩ lq hlq
    rw [List.length_map, la, List.take_length] at hb
    exact q lq bs _ (same_new hlq _) upd_same (CallsAt.same (fun b xs z => same_new hlq _ _ _ z) hb)
theorem sc__law_taken : FnScope ["_law_hall_here", "_law_calls", "_law_taken_here", "_law_call", "_law_end", "_law_line"] ["_law_hall_here", "_law_calls"] (defScope (top 30)) := ⟨rfl, rfl, rfl, by decide +kernel, rfl, by decide +kernel, by decide +kernel⟩
set_option maxHeartbeats 4000000 in
theorem ok_taken (T : Txt K mg) (C__law_lines : Callee P w K mg base 1 "_law_lines" ["_law_hall_here", "_law_caller", "_law_ends_here", "_law_k"] (spLines K)) (D : Def K mg "_law_taken" (top 30) ["_law_hall_here", "_law_calls"]) : Callee P w K mg base 2 "_law_taken" ["_law_hall_here", "_law_calls"] (spTaken16 K) := by
  refine D.ok sc__law_taken (fun vs H Q E h => ?_) (fun f cdv A outer s H vs Q E hr h => ?_)
  · obtain ⟨a, l, h, as, ks, rfl, _⟩ := h
    rfl
  obtain ⟨a, l, h, as, ks, rfl, hH, ok, el, hC, hin, h63, q⟩ := h
  have la := Paired.length hC
  refine ⟨_, (pss_cons (ps_set (i := 2) sc__law_taken.nd rfl (Or.inl rfl) pe_dnewT)
    (pss_cons (ps_for PassesOwn.never rfl (pi_listK K (pv 1)) (pg_name (i := 3) sc__law_taken.nd rfl (Or.inl rfl))
    (pss_cons (ps_dput (hu_of hr) (pv 2) (pe_tup (pa_cons pe_str (pa_cons (pe_ix (ix_tupK K) (pv 3) pe_int (fun _ _ => rfl)) pa_nil st_sub) st_const)) pe_bl rfl)
    (pss_cons (ps_for PassesOwn.never rfl (pi_tupK K (pe_ix (ix_tupK K) (pv 3) pe_int (fun _ _ => rfl))) (pg_name (i := 4) sc__law_taken.nd rfl (Or.inl rfl))
    (pss_one (ps_dput (hu_of hr) (pv 2) (pe_tup (pa_cons pe_str (pa_cons (pv 4) pa_nil st_name) st_const)) pe_bl rfl)))
    (pss_one (ps_for PassesOwn.never rfl (pi_listK K (pe_fn C__law_lines hr rfl (pa_cons (pv 0) (pa_cons (pe_ix (ix_tupK K) (pv 3) pe_int (fun _ _ => rfl)) (pa_cons (pe_ix (ix_tupK K) (pv 3) pe_int (fun _ _ => rfl)) (pa_cons (pe_ix (ix_tupK K) (pv 3) pe_int (fun _ _ => rfl)) pa_nil st_sub) st_sub) st_sub) st_name))) (pg_name (i := 5) sc__law_taken.nd rfl (Or.inl rfl))
    (pss_one (ps_dput (hu_of hr) (pv 2) (pv 5) pe_bl rfl)))))))
    (pss_one (ps_ret (pv 2))))), ?_⟩
  refine fun t ht => ?_
  have et := upd_same (H := H) (a := t) (o := .dT [])
  have s1 := same_new ht (.dT [])
  generalize upd H t (.dT []) = H1 at et s1 ⊢
  refine ⟨_, rfl, l, rfl, ⟨_, SqL.of (s1 _ _ el)⟩, ?_⟩
  refine for_list (xs := as.map V.ref) (fun i σ H' => Same H H' ∧ (∃ kvs, H' t = some (.dT kvs) ∧ kvs.length ≤ 26 * i ∧ TakenN h (ks.take i) kvs) ∧ ∃ v3 v4 v5, σ = [some (.ref a), some (.ref l), some (.ref t), v3, v4, v5])
    ⟨s1, ⟨[], et, Nat.le_refl _, fun d => by constructor <;> intro z <;> first | (obtain ⟨k, hk, _⟩ := z; cases hk) | cases z⟩, none, none, none, rfl⟩ (fun i σ H' _ g => SqL.of (g.1 _ _ el)) ?_ ?_
  · rintro i x σ H' hx ⟨s5, ⟨kvs, et5, hkl, tk⟩, v3, v4, v5, rfl⟩
    rw [List.getElem?_map] at hx
    obtain ⟨pc, hp, rfl⟩ := Option.map_eq_some_iff.mp hx
    obtain ⟨k, hk1, ce, e1, e2⟩ := paired_at hC i pc hp
    have hi63 : i < 63 := by
      have := (List.getElem?_eq_some_iff.mp hk1).1
      omega
    have hkI := hin k (List.mem_of_getElem? hk1)
    have kf := hkI.few
    have tkk : ks.take (i + 1) = ks.take i ++ [k] := by rw [List.take_succ, hk1]; rfl
    refine ⟨_, rfl, _, rfl, pc, _, _, _, rfl, rfl, SqT.of (s5 _ _ e2), rfl, (by show 2 ≤ sizeLine; decide), fun t1 ht1 => ?_⟩
    have et1 := upd_same (H := H') (a := t1) (o := .tup [.str "caller", .int k.c])
    have n1 := same_new ht1 (.tup [.str "caller", .int k.c])
    generalize upd H' t1 (.tup [.str "caller", .int k.c]) = H2 at et1 n1 ⊢
    refine ⟨t, _, rfl, DPut.t (k := nCaller k.c) (n1 _ _ et5) et1 (by show kvs.length < 16777216; omega), ?_⟩
    have tk2 := put_taken (d := nCaller k.c) (v := .bl true) tk
    have l2 := length_putK kvs (nCaller k.c) (.bl true)
    have s6 := Same.put (o := .dT (putK kvs (nCaller k.c) (.bl true))) (s5.trans n1) ht
    have et6 := upd_same (H := H2) (a := t) (o := .dT (putK kvs (nCaller k.c) (.bl true)))
    generalize putK kvs (nCaller k.c) (.bl true) = kv2 at tk2 l2 s6 et6 ⊢
    generalize upd H2 t (.dT kv2) = H3 at s6 et6 ⊢
    refine ⟨_, rfl, pc, _, _, _, rfl, rfl, SqT.of (s6 _ _ e2), rfl, ce, rfl, ⟨_, SqT.of (s6 _ _ e1)⟩, ?_⟩
    refine for_tup (xs := k.es.map V.int) (fun j σ H' => Same H H' ∧ (∃ kv3, H' t = some (.dT kv3) ∧ kv3.length ≤ kvs.length + 1 + j ∧ ∀ d, (valV kv3 d).isSome = true ↔ ((∃ k ∈ ks.take i, d ∈ needsM h k) ∨ d = nCaller k.c) ∨ ∃ e ∈ k.es.take j, d = nEnd e) ∧ ∃ v4 v5, σ = [some (.ref a), some (.ref l), some (.ref t), some (.ref pc), v4, v5])
      ⟨s6, ⟨kv2, et6, l2, fun d => by rw [tk2]; simp⟩, _, _, rfl⟩ (fun j σ H' _ g => SqT.of (g.1 _ _ e1)) ?_ ?_
    · rintro j y σ H4 hy ⟨m1, ⟨kv3, m2, m3, m4⟩, v4, v5, rfl⟩
      rw [List.getElem?_map] at hy
      obtain ⟨e, he, rfl⟩ := Option.map_eq_some_iff.mp hy
      have hj : j < 12 := by
        have := (List.getElem?_eq_some_iff.mp he).1
        omega
      refine ⟨_, rfl, _, rfl, (by show 2 ≤ sizeLine; decide), fun t2 ht2 => ?_⟩
      have et2 := upd_same (H := H4) (a := t2) (o := .tup [.str "end", .int e])
      have n2 := same_new ht2 (.tup [.str "end", .int e])
      generalize upd H4 t2 (.tup [.str "end", .int e]) = H5 at et2 n2 ⊢
      refine ⟨t, _, rfl, DPut.t (k := nEnd e) (n2 _ _ m2) et2 (by show kv3.length < 16777216; omega), ?_⟩
      refine ⟨Same.put (m1.trans n2) ht, ⟨_, upd_same, ?_, fun d => ?_⟩, _, _, rfl⟩
      · have := length_putK kv3 (nEnd e) (.bl true)
        omega
      · rw [put_taken m4, or_assoc, List.take_succ, he]
        refine or_congr Iff.rfl ?_
        constructor
        · rintro (⟨e', h1, h2⟩ | h2)
          · exact ⟨e', List.mem_append_left _ h1, h2⟩
          · exact ⟨e, List.mem_append_right _ (List.mem_singleton.mpr rfl), h2⟩
        · rintro ⟨e', h1, h2⟩
          rcases List.mem_append.mp h1 with z | z
          · exact .inl ⟨e', z, h2⟩
          · have z' : e' = e := by simpa using z
            rw [z'] at h2
            exact .inr h2
    · rintro σ H4 ⟨m1, ⟨kv3, m2, m3, m4⟩, v4, v5, rfl⟩
      rw [List.length_map] at m3 m4
      rw [List.take_length] at m4
      have e24 := m1 _ _ e2
      refine ⟨_, rfl, _, rfl, pc, _, _, _, rfl, rfl, SqT.of e24, rfl, _, rfl, pc, _, _, _, rfl, rfl, SqT.of e24, rfl, _, rfl, pc, _, _, _, rfl, rfl, SqT.of e24, rfl, a, ce, h, k.c, k.k, k.es, rfl, Same.seqT m1 hH, ok, .inl (SqT.of (m1 _ _ e1)), kf, fun nl nas H6 s7 hnl enl tnl => ?_⟩
      have et7 := s7 _ _ m2
      have hnt : nl ≠ t := fun z => by rw [z, m2] at hnl; cases hnl
      have lnl := Paired.length tnl
      have ll := lines_len h k.c k.es k.k
      refine ⟨nl, rfl, ⟨_, SqL.of enl⟩, ?_⟩
      refine for_list (xs := nas.map V.ref) (fun j σ H' => SameX t H6 H' ∧ (∃ kvs', H' t = some (.dT kvs') ∧ kvs'.length ≤ kv3.length + j ∧ (∀ d, (valV kvs' d).isSome = true ↔ (valV kv3 d).isSome = true ∨ d ∈ (linesM h k.c k.es k.k).take j)) ∧ ∃ v3 v4 v5, σ = [some (.ref a), some (.ref l), some (.ref t), v3, v4, v5])
        ⟨fun _ _ _ z => z, ⟨kv3, et7, Nat.le_refl _, fun d => by simp⟩, _, _, _, rfl⟩ (fun j σ H' _ g => SqL.of (g.1 _ _ hnt enl)) ?_ ?_
      · rintro j y σ H7 hy ⟨t1', ⟨kvs', t2', t7, t9⟩, v3, v4, v5, rfl⟩
        rw [List.getElem?_map] at hy
        obtain ⟨x, hx, rfl⟩ := Option.map_eq_some_iff.mp hy
        obtain ⟨d, hd1, hd2⟩ := paired_at tnl j x hx
        replace hd2 : H6 x = some (.tup (d.map kV)) := hd2
        have hj : j < 13 := by
          have := (List.getElem?_eq_some_iff.mp hd1).1
          omega
        have hxt : x ≠ t := fun z => by rw [z, et7] at hd2; cases hd2
        refine ⟨_, rfl, _, rfl, t, _, rfl, DPut.t t2' (t1' _ _ hxt hd2) (by show kvs'.length < 16777216; omega), ?_⟩
        refine ⟨fun b u hb z => by rw [upd_ne hb]; exact t1' b u hb z, ⟨_, upd_same, ?_, fun d' => ?_⟩, _, _, _, rfl⟩
        · have := length_putK kvs' d (.bl true)
          omega
        · rw [put_taken t9, List.take_succ, hd1, List.mem_append]
          simp [or_assoc]
      · rintro σ H7 ⟨t1', ⟨kvs', t2', t7, t9⟩, v3, v4, v5, rfl⟩
        rw [List.length_map, lnl] at t7 t9
        rw [List.take_length] at t9
        refine ⟨fun b u z => t1' b u (ne_of_none z ht) (s7 _ _ (m1 _ _ z)), ⟨kvs', t2', by omega, fun d => ?_⟩, _, _, _, rfl⟩
        rw [t9, m4, tkk]
        constructor
        · rintro (((⟨k1, g1, g2⟩ | g) | ⟨e, g1, g2⟩) | g)
          · exact ⟨k1, List.mem_append_left _ g1, g2⟩
          · exact ⟨k, List.mem_append_right _ (List.mem_singleton.mpr rfl), mem_needs.mpr (.inr (.inr (.inl g)))⟩
          · exact ⟨k, List.mem_append_right _ (List.mem_singleton.mpr rfl), mem_needs.mpr (.inr (.inr (.inr ⟨e, g1, g2⟩)))⟩
          · exact ⟨k, List.mem_append_right _ (List.mem_singleton.mpr rfl), List.mem_append_left _ (List.mem_append_left _ g)⟩
        · rintro ⟨k1, g1, g2⟩
          rcases List.mem_append.mp g1 with g | g
          · exact .inl (.inl (.inl ⟨k1, g, g2⟩))
          · rw [List.mem_singleton] at g
            rw [g] at g2
            rcases List.mem_append.mp g2 with g3 | g3
            · rcases List.mem_append.mp g3 with g4 | g4
              · exact .inr g4
              · exact .inl (.inl (.inr (List.mem_singleton.mp g4)))
            · obtain ⟨e, g5, g6⟩ := List.mem_map.mp g3
              exact .inl (.inr ⟨e, g5, g6.symm⟩)
  · rintro σ H5 ⟨s5, ⟨kvs, et5, hkl, tk⟩, v3, v4, v5, rfl⟩
    rw [List.length_map, la] at hkl tk
    rw [List.take_length] at tk
    exact ⟨_, rfl, q t kvs H5 s5 ht et5 tk (by omega)⟩
end

theorem heldN_snoc {kvs : List (List Key × V)} {op : List Nat} {f : Nat → List Key} {j n : Nat} (h : op[j]? = some n) : heldN kvs (op.take (j + 1)) f = heldN kvs (op.take j) f ++ (if (valV kvs (f n)).isSome = true then [n] else []) := by
  unfold heldN
  rw [List.take_succ, h, List.filter_append]
  congr 1
  show List.filter _ [n] = _
  rw [List.filter_cons]
  split <;> rfl
def fIn (h : Hall) (c : Int) (k : Nat) : List Key := [.inr "in", .inl (c / h.c), .inl (k : Int)]
def fOut (r : Nat) (k : Nat) : List Key := [.inr "out", .inl (r : Int), .inl (k : Int)]
def farH (kvs : List (List Key × V)) (h : Hall) (es : List Int) (op : List Nat) (n : Nat) : List Int := ((List.range n).filter fun r => decide (((r : Nat) : Int) ∈ es.map fun e => e / h.e)).map fun r => (((heldN kvs op (fOut r)).length : Nat) : Int)
theorem in_eq {h : Hall} (ok : h.Ok) {ks : List Call} {kvs : List (List Key × V)} (e : Taken h ks kvs) (fr : ks.Pairwise (Free h)) (hin : ∀ k ∈ ks, k.In h) {c : Int} (hc : 0 ≤ c) {op : List Nat} (nd : op.Nodup) : cntRow (pIn h) ks op (c / h.c).toNat = (heldN kvs op (fIn h c)).length := by
  have o2 := ok.c
  have c0 : 0 ≤ c / h.c := Int.ediv_nonneg hc (by omega)
  refine cnt_same e (fr.imp fun f => apart_in f) hin nd fun k hk n => ?_
  have k0 : 0 ≤ k.c / h.c := Int.ediv_nonneg (hin k hk).c.1 (by omega)
  rw [mem_lines]
  unfold fIn pIn nIn nOut
  simp only [List.cons.injEq, Sum.inl.injEq, Sum.inr.injEq, and_true, true_and, decide_eq_true_iff]
  constructor
  · rintro (⟨h1, h2⟩ | ⟨e, _, h1, _⟩)
    · exact ⟨h2.symm, by omega⟩
    · exact absurd h1 (by decide)
  · rintro ⟨h1, h2⟩
    exact .inl ⟨by omega, h1.symm⟩
theorem out_eq {h : Hall} (ok : h.Ok) {ks : List Call} {kvs : List (List Key × V)} (e : Taken h ks kvs) (fr : ks.Pairwise (Free h)) (hin : ∀ k ∈ ks, k.In h) {r : Nat} {op : List Nat} (nd : op.Nodup) : cntRow (pOut h) ks op r = (heldN kvs op (fOut r)).length := by
  refine cnt_same e (fr.imp fun f => apart_out f) hin nd fun k hk n => ?_
  rw [mem_lines]
  unfold fOut pOut nIn nOut
  simp only [List.cons.injEq, Sum.inl.injEq, Sum.inr.injEq, and_true, true_and, decide_eq_true_iff]
  rw [mem_racks']
  constructor
  · rintro (⟨h1, _⟩ | ⟨e, he, h1, h2⟩)
    · exact absurd h1 (by decide)
    · exact ⟨h2.symm, e, he, h1.symm⟩
  · rintro ⟨h1, e, he, h2⟩
    exact .inr ⟨e, he, h2.symm, h1.symm⟩
theorem far_held {h : Hall} (ok : h.Ok) {ks : List Call} {kvs : List (List Key × V)} (e : Taken h ks kvs) (fr : ks.Pairwise (Free h)) (hin : ∀ k ∈ ks, k.In h) {es : List Int} (hes : ∀ x ∈ es, 0 ≤ x ∧ x < h.o * h.e) {sh : Int} : farM h ks es sh = farH kvs h es (openM h sh) h.o.toNat := by
  unfold farM farH
  rw [racks_range ok hes, List.map_map]
  refine List.map_congr_left fun r _ => ?_
  show ((cntRow (pOut h) ks (openM h sh) ((r : Nat) : Int).toNat : Nat) : Int) = _
  rw [Int.toNat_natCast, out_eq ok e fr hin (open_nodup h sh)]
def spCounted (K : PySem.W.Frag) : Sp := fun vs H Q _ => ∃ (a t b e : Addr) (h : Hall) (ks : List Call) (kvs : List (List Key × V)) (c : Int) (es : List Int) (sh : Int), vs = [.ref a, .ref t, .ref b] ∧ SqT K H a (h.row.map V.int) ∧ h.Ok ∧ H t = some (.dT kvs) ∧ Taken h ks kvs ∧ ks.Pairwise (Free h) ∧ (∀ k ∈ ks, k.In h) ∧
  H b = some (.tup [.int c, .ref e, .int sh]) ∧ H e = some (.lst (es.map V.int)) ∧ es.length ≤ 12 ∧ 0 ≤ c ∧ (∀ x ∈ es, 0 ≤ x ∧ x < h.o * h.e) ∧
  ∀ (p fl : Addr) (H' : Hp), Same H H' → H' fl = some (.lst ((farM h ks es sh).map V.int)) → H' p = some (.tup [.int ((cntRow (pIn h) ks (openM h sh) (c / h.c).toNat : Nat) : Int), .ref fl, .int (((openM h sh).length : Nat) : Int)]) → Q (.ref p) H'
section
variable {P : Program} {w : World} {K : PySem.W.Frag} {mg : Str → Option Value} {base : Heap}
theorem sc__law_counted : FnScope ["_law_hall_here", "_law_held", "_law_asked_here", "_law_caller", "_law_ends_here", "_law_shut", "_law_ready", "_law_one", "_law_far", "_law_rack"] ["_law_hall_here", "_law_held", "_law_asked_here"] (defScope (top 28)) := ⟨rfl, rfl, rfl, by decide +kernel, rfl, by decide +kernel, by decide +kernel⟩
set_option maxHeartbeats 4000000 in
theorem ok_counted (T : Txt K mg) (D : Def K mg "_law_counted" (top 28) ["_law_hall_here", "_law_held", "_law_asked_here"]) : Callee P w K mg base 1 "_law_counted" ["_law_hall_here", "_law_held", "_law_asked_here"] (spCounted K) := by
  refine D.ok sc__law_counted (fun vs H Q E h => ?_) (fun f cdv A outer s H vs Q E hr h => ?_)
  · obtain ⟨a, t, b, e, h, ks, kvs, c, es, sh, rfl, _⟩ := h
    rfl
  obtain ⟨a, t, b, e, h, ks, kvs, c, es, sh, rfl, hH, ok, et, tk, fr, hin, eb, ee, few, hc, hes, q⟩ := h
  have o2 := ok.c
  have o3 := ok.m
  have o4 := ok.o
  have o5 := ok.e
  rw [in_eq ok tk fr hin hc (open_nodup h sh), far_held ok tk fr hin hes] at q
  refine ⟨_, (pss_cons (ps_asg (pv 2) (pg3K K rfl sc__law_counted.nd (Nm.mk (i := 3) rfl (Or.inr rfl) (Or.inl rfl)) (Nm.mk (i := 4) rfl (Or.inl rfl) (Or.inl rfl)) (Nm.mk (i := 5) rfl (Or.inr rfl) (Or.inl rfl))))
    (pss_cons (ps_comp (i := 6) (own := ["_law_k"]) (fr := [(5, "_law_shut")]) rfl sc__law_counted.nd rfl rfl (show CompScope ["_law_hall_here", "_law_held", "_law_asked_here", "_law_caller", "_law_ends_here", "_law_shut", "_law_ready", "_law_one", "_law_far", "_law_rack"] (defScope (top 28)) _ _ _ from ⟨rfl, by decide +kernel, by decide +kernel, by decide +kernel, by decide +kernel⟩) (pi_range1 rfl T.m_range (pa_cons (pe_ix (ix_tupK K) (pv 0) pe_int (fun _ _ => rfl)) pa_nil st_sub)) (fun cl C s H ex => ⟨(pg_name (i := 0) (show (["_law_k", "_law_shut"] : List Str).Nodup from by decide +kernel) rfl (Or.inl rfl) (Or.inr rfl)), (pif_one (pt_cmpR op_eq (pe_op op_and (pe_op op_shr (pv 1) (pv 0)) pe_int) pe_int (nomark _))), (pv 0)⟩) rfl)
    (pss_cons (ps_set (i := 7) sc__law_counted.nd rfl (Or.inl rfl) (pe_callB (call_lenK K) rfl T.m_len boot_len (pa_cons (pe_comp (own := ["_law_k"]) (fr := [(3, "_law_caller"), (0, "_law_hall_here"), (1, "_law_held")]) rfl (show CompScope ["_law_hall_here", "_law_held", "_law_asked_here", "_law_caller", "_law_ends_here", "_law_shut", "_law_ready", "_law_one", "_law_far", "_law_rack"] (defScope (top 28)) _ _ _ from ⟨rfl, by decide +kernel, by decide +kernel, by decide +kernel, by decide +kernel⟩) (pi_listK K (pv 6)) (fun cl C s H ex => ⟨(pg_name (i := 0) (show (["_law_k", "_law_caller", "_law_hall_here", "_law_held"] : List Str).Nodup from by decide +kernel) rfl (Or.inl rfl) (Or.inr rfl)), (pif_one (pt_cmp (pc_din (hu_of hr) (pe_tup (pa_cons pe_str (pa_cons (pe_op op_fdiv (pv 1) (pe_ix (ix_tupK K) (pv 2) pe_int (fun _ _ => rfl))) (pa_cons (pv 0) pa_nil st_name) st_bin) st_const)) (pv 3)))), (pv 0)⟩)) pa_nil st_comp)))
    (pss_cons (ps_set (i := 8) sc__law_counted.nd rfl (Or.inl rfl) (pe_lst pa_nil))
    (pss_cons (ps_for PassesOwn.never rfl (pi_range1 rfl T.m_range (pa_cons (pe_ix (ix_tupK K) (pv 0) pe_int (fun _ _ => rfl)) pa_nil st_sub)) (pg_name (i := 9) sc__law_counted.nd rfl (Or.inr rfl))
    (pss_one (ps_if (pt_cmpR (op_inK K) (pv 9) (pe_comp (own := ["_law_end"]) (fr := [(0, "_law_hall_here")]) rfl (show CompScope ["_law_hall_here", "_law_held", "_law_asked_here", "_law_caller", "_law_ends_here", "_law_shut", "_law_ready", "_law_one", "_law_far", "_law_rack"] (defScope (top 28)) _ _ _ from ⟨rfl, by decide +kernel, by decide +kernel, by decide +kernel, by decide +kernel⟩) (pi_listK K (pv 4)) (fun cl C s H ex => ⟨(pg_name (i := 0) (show (["_law_end", "_law_hall_here"] : List Str).Nodup from by decide +kernel) rfl (Or.inl rfl) (Or.inr rfl)), pif_nil, (pe_op op_fdiv (pv 0) (pe_ix (ix_tupK K) (pv 1) pe_int (fun _ _ => rfl)))⟩)) (by with_unfolding_all rfl)) (pss_one (ps_expr (pe_bmK K PySem.F.plainAttrs_list PySem.F.slot_list_append PySem.F.type_list_append mt_appendR (pv 8) (pa_cons (pe_callB (call_lenK K) rfl T.m_len boot_len (pa_cons (pe_comp (own := ["_law_k"]) (fr := [(9, "_law_rack"), (1, "_law_held")]) rfl (show CompScope ["_law_hall_here", "_law_held", "_law_asked_here", "_law_caller", "_law_ends_here", "_law_shut", "_law_ready", "_law_one", "_law_far", "_law_rack"] (defScope (top 28)) _ _ _ from ⟨rfl, by decide +kernel, by decide +kernel, by decide +kernel, by decide +kernel⟩) (pi_listK K (pv 6)) (fun cl C s H ex => ⟨(pg_name (i := 0) (show (["_law_k", "_law_rack", "_law_held"] : List Str).Nodup from by decide +kernel) rfl (Or.inl rfl) (Or.inr rfl)), (pif_one (pt_cmp (pc_din (hu_of hr) (pe_tup (pa_cons pe_str (pa_cons (pv 1) (pa_cons (pv 0) pa_nil st_name) st_name) st_const)) (pv 2)))), (pv 0)⟩)) pa_nil st_comp)) pa_nil st_call)))) pss_nil)))
    (pss_one (ps_ret (pe_tup (pa_cons (pv 7) (pa_cons (pv 8) (pa_cons (pe_callB (call_lenK K) rfl T.m_len boot_len (pa_cons (pv 6) pa_nil st_name)) pa_nil st_call) st_name) st_name))))))))), ?_⟩
  refine ⟨_, rfl, b, _, rfl, SqT.of eb, rfl, _, _, rfl, _, _, rfl, _, _, rfl, rfl, ?_⟩
  refine ⟨_, rfl, a, _, _, _, rfl, rfl, hH, rfl, _, rfl, by show -(2 ^ 62) ≤ h.m; omega, by show h.m < 2 ^ 62; omega, ?_⟩
  refine comp_range (fun i acc σ H' => H' = H ∧ acc = natV ((List.range i).filter (openB sh)) ∧ ∃ v, σ = [v, some (.int sh)])
    ⟨rfl, rfl, none, rfl⟩ (by show h.m.toNat ≤ 16777216; omega) (fun i acc σ H' g => ?_) ?_ ?_
  · obtain ⟨_, rfl, _⟩ := g
    rw [pv_len]
    have := List.length_filter_le (openB sh) (List.range i)
    rw [List.length_range] at this
    exact this
  · rintro i acc σ H' hi ⟨rfl, rfl, v, rfl⟩
    rw [Int.zero_add]
    have step : natV ((List.range (i + 1)).filter (openB sh)) = natV ((List.range i).filter (openB sh)) ++ (if openB sh i = true then [V.int (i : Int)] else []) := by
      unfold natV
      rw [List.range_succ, List.filter_append, List.map_append]
      by_cases c : openB sh i = true
      · rw [if_pos c]
        simp [c]
      · rw [if_neg c]
        simp [c]
    refine ⟨_, rfl, _, rfl, _, _, rfl, rfl, by omega, _, _, rfl, rfl, rfl, _, rfl, ?_⟩
    refine ite2 (fun c => ?_) (fun c => ?_)
    · have c' : openB sh i = true := by
        unfold openB
        simpa using c
      refine ⟨_, rfl, rfl, ?_, _, rfl⟩
      rw [step, if_pos c']
    · have c' : ¬ openB sh i = true := by
        unfold openB
        simpa using c
      refine ⟨rfl, ?_, _, rfl⟩
      rw [step, if_neg c', List.append_nil]
  rintro acc σ H' ⟨rfl, rfl, v, rfl⟩ lo hlo
  have elo := upd_same (H := H') (a := lo) (o := .lst (natV (openM h sh)))
  have s1 := same_new hlo (.lst (natV (openM h sh)))
  unfold openM at elo s1
  generalize upd H' lo _ = H1 at elo s1 ⊢
  change H1 lo = some (.lst (natV (openM h sh))) at elo
  have hH1 := Same.seqT s1 hH
  have ol := open_len h sh
  refine ⟨_, rfl, lo, rfl, ⟨_, SqL.of elo⟩, ?_⟩
  refine comp_list (xs := natV (openM h sh)) (fun i acc σ G => Same H1 G ∧ acc.length = (heldN kvs ((openM h sh).take i) (fIn h c)).length ∧ ∃ v, σ = [v, some (.int c), some (.ref a), some (.ref t)])
    ⟨Same.refl _, rfl, none, rfl⟩ (Nat.le_of_lt (small1000 (by rw [pv_len]; omega))) (fun i acc σ G g => ?_) (fun i acc σ G _ g => SqL.of (g.1 _ _ elo)) ?_ ?_
  · obtain ⟨_, e1, _⟩ := g
    rw [e1]
    exact Nat.le_trans (List.length_filter_le _ _) (by rw [List.length_take]; omega)
  · rintro i y acc σ G hy ⟨g1, el, v, rfl⟩
    obtain ⟨n, hn, rfl⟩ := pv_get hy
    have st := congrArg List.length (heldN_snoc (kvs := kvs) (f := fIn h c) hn)
    rw [List.length_append] at st
    refine ⟨_, rfl, _, rfl, a, _, _, _, rfl, rfl, Same.seqT g1 hH1, rfl, _, _, rfl, rfl, ⟨by omega, by omega⟩, _, rfl, (by show 3 ≤ sizeLine; decide), fun t1 ht1 => ?_⟩
    have et1 := upd_same (H := G) (a := t1) (o := .tup [.str "in", .int (c / h.c), .int (n : Int)])
    have g2 := g1.trans (same_new ht1 (.tup [.str "in", .int (c / h.c), .int (n : Int)]))
    generalize upd G t1 (.tup [.str "in", .int (c / h.c), .int (n : Int)]) = G2 at et1 g2 ⊢
    refine ⟨_, rfl, t, _, rfl, DGet.t (k := fIn h c n) (g2 _ _ (s1 _ _ et)) et1, _, rfl, ?_⟩
    refine ite2 (fun c1 => ?_) (fun c1 => ?_)
    · refine ⟨_, rfl, g2, ?_, _, rfl⟩
      rw [List.length_append, List.length_singleton, el, st, if_pos c1]
      rfl
    · refine ⟨g2, ?_, _, rfl⟩
      rw [el, st, if_neg c1]
      rfl
  rintro acc σ G ⟨g1, el, v, rfl⟩ lh hlh
  rw [pv_len, List.take_length] at el
  have elh := upd_same (H := G) (a := lh) (o := .lst acc)
  have s2 := g1.trans (same_new hlh (.lst acc))
  generalize upd G lh (.lst acc) = H2 at elh s2 ⊢
  refine ⟨lh, _, rfl, .inl (SqL.of elh), ?_⟩
  refine ⟨(by show 0 ≤ sizeLine; decide), fun F hF => ?_⟩
  have eF := upd_same (H := H2) (a := F) (o := .lst [])
  have s3 := same_new hF (.lst [])
  generalize upd H2 F (.lst []) = H3 at eF s3 ⊢
  have s12 := s1.trans s2
  have s13 := s12.trans s3
  have elo2 := s2 _ _ elo
  refine ⟨_, rfl, a, _, _, _, rfl, rfl, Same.seqT s13 hH, rfl, _, rfl, by show -(2 ^ 62) ≤ h.o; omega, by show h.o < 2 ^ 62; omega, ?_⟩
  refine for_range (fun i σ G => Same H2 G ∧ G F = some (.lst ((farH kvs h es (openM h sh) i).map V.int)) ∧ ∃ v9, σ = [some (.ref a), some (.ref t), some (.ref b), some (.int c), some (.ref e), some (.int sh), some (.ref lo), some (.int ((acc.length : Nat) : Int)), some (.ref F), v9])
    ⟨s3, eF, none, rfl⟩ ?_ ?_
  · rintro i σ G hi ⟨g1, eFG, v9, rfl⟩
    rw [Int.zero_add]
    have sG := s12.trans g1
    have step : farH kvs h es (openM h sh) (i + 1) = farH kvs h es (openM h sh) i ++ (if decide ((i : Int) ∈ es.map fun e => e / h.e) = true then [(((heldN kvs (openM h sh) (fOut i)).length : Nat) : Int)] else []) := by
      unfold farH
      rw [List.range_succ, List.filter_append, List.map_append]
      congr 1
      rw [List.filter_cons]
      split <;> rfl
    have fl : (farH kvs h es (openM h sh) i).length ≤ i := by
      unfold farH
      rw [List.length_map]
      exact Nat.le_trans (List.length_filter_le _ _) (by rw [List.length_range]; omega)
    have eeG := sG _ _ ee
    refine ⟨_, rfl, _, rfl, e, rfl, ⟨_, SqL.of eeG⟩, ?_⟩
    refine comp_list (xs := es.map V.int) (fun j acc σ G' => G' = G ∧ acc = ((es.take j).map fun e => e / h.e).map V.int ∧ ∃ v, σ = [v, some (.ref a)])
      ⟨rfl, rfl, none, rfl⟩ (Nat.le_of_lt (small1000 (by rw [List.length_map]; omega))) (fun j acc σ G' g => ?_) (fun j acc σ G' _ g => by rw [g.1]; exact SqL.of eeG) ?_ ?_
    · obtain ⟨_, rfl, _⟩ := g
      rw [List.length_map, List.length_map, List.length_take]
      omega
    · rintro j y acc σ G' hy ⟨rfl, rfl, v, rfl⟩
      rw [List.getElem?_map] at hy
      obtain ⟨x, hx, rfl⟩ := Option.map_eq_some_iff.mp hy
      refine ⟨_, rfl, _, rfl, a, _, _, _, rfl, rfl, Same.seqT sG hH, rfl, _, _, rfl, rfl, ⟨by omega, by omega⟩, rfl, ?_, _, rfl⟩
      rw [List.take_succ, hx, List.map_append, List.map_append]
      rfl
    rintro acc2 σ G' ⟨rfl, rfl, v, rfl⟩ lq hlq
    rw [List.length_map, List.take_length]
    have elq := upd_same (H := G') (a := lq) (o := .lst ((es.map fun e => e / h.e).map V.int))
    have g2 := same_new hlq (.lst ((es.map fun e => e / h.e).map V.int))
    generalize upd G' lq (.lst ((es.map fun e => e / h.e).map V.int)) = G2 at elq g2 ⊢
    refine ⟨lq, _, rfl, .inl (SqL.of elq), rfl, int_flat _, _, rfl, ?_⟩
    have key : inV (.int (i : Int)) ((es.map fun e => e / h.e).map V.int) = decide ((i : Int) ∈ es.map fun e => e / h.e) := int_in _ _
    refine ite2 (fun c1 => ?_) (fun c1 => ?_)
    · have c1' : decide ((i : Int) ∈ es.map fun e => e / h.e) = true := key ▸ (show inV (.int (i : Int)) ((es.map fun e => e / h.e).map V.int) = true from c1)
      have sG2 := sG.trans g2
      have eloG := (g1.trans g2) _ _ elo2
      refine ⟨_, rfl, .inl ⟨rfl, _, SqL.of (g2 _ _ eFG)⟩, _, rfl, lo, rfl, ⟨_, SqL.of eloG⟩, ?_⟩
      refine comp_list (xs := natV (openM h sh)) (fun j acc σ G3 => Same G2 G3 ∧ acc.length = (heldN kvs ((openM h sh).take j) (fOut i)).length ∧ ∃ v, σ = [v, some (.int (i : Int)), some (.ref t)])
        ⟨Same.refl _, rfl, none, rfl⟩ (Nat.le_of_lt (small1000 (by rw [pv_len]; omega))) (fun j acc σ G3 g => ?_) (fun j acc σ G3 _ g => SqL.of (g.1 _ _ eloG)) ?_ ?_
      · obtain ⟨_, e1, _⟩ := g
        rw [e1]
        exact Nat.le_trans (List.length_filter_le _ _) (by rw [List.length_take]; omega)
      · rintro j y acc σ G3 hy ⟨g3, el3, v, rfl⟩
        obtain ⟨n, hn, rfl⟩ := pv_get hy
        have st := congrArg List.length (heldN_snoc (kvs := kvs) (f := fOut i) hn)
        rw [List.length_append] at st
        refine ⟨_, rfl, _, rfl, (by show 3 ≤ sizeLine; decide), fun t1 ht1 => ?_⟩
        have et1 := upd_same (H := G3) (a := t1) (o := .tup [.str "out", .int (i : Int), .int (n : Int)])
        have g4 := g3.trans (same_new ht1 (.tup [.str "out", .int (i : Int), .int (n : Int)]))
        generalize upd G3 t1 (.tup [.str "out", .int (i : Int), .int (n : Int)]) = G4 at et1 g4 ⊢
        refine ⟨_, rfl, t, _, rfl, DGet.t (k := fOut i n) ((sG2.trans g4) _ _ et) et1, _, rfl, ?_⟩
        refine ite2 (fun c1 => ?_) (fun c1 => ?_)
        · refine ⟨_, rfl, g4, ?_, _, rfl⟩
          rw [List.length_append, List.length_singleton, el3, st, if_pos c1]
          rfl
        · refine ⟨g4, ?_, _, rfl⟩
          rw [el3, st, if_neg c1]
          rfl
      rintro acc3 σ G3 ⟨g3, el3, v, rfl⟩ lt hlt
      rw [pv_len, List.take_length] at el3
      have elt := upd_same (H := G3) (a := lt) (o := .lst acc3)
      have g4 := same_new hlt (.lst acc3)
      generalize upd G3 lt (.lst acc3) = G4 at elt g4 ⊢
      have g24 := g2.trans (g3.trans g4)
      have eFG4 := g24 _ _ eFG
      refine ⟨lt, _, rfl, .inl (SqL.of elt), F, _, _, rfl, rfl, eFG4, small1000 (by rw [List.length_map]; omega), ?_⟩
      refine ⟨Same.put (g1.trans g24) hF, ?_, _, rfl⟩
      rw [upd_same, step, if_pos c1', el3, List.map_append]
      rfl
    · have c1' : ¬ decide ((i : Int) ∈ es.map fun e => e / h.e) = true := key ▸ (show ¬ inV (.int (i : Int)) ((es.map fun e => e / h.e).map V.int) = true from c1)
      refine ⟨g1.trans g2, ?_, _, rfl⟩
      rw [step, if_neg c1', List.append_nil]
      exact g2 _ _ eFG
  · rintro σ G ⟨g1, eFG, v9, rfl⟩
    refine ⟨_, rfl, _, rfl, _, rfl, lo, _, rfl, .inl (SqL.of (g1 _ _ elo2)), (by show 3 ≤ sizeLine; decide), fun p hp => ?_⟩
    refine q p F _ ((s12.trans g1).trans (same_new hp _)) (same_new hp _ _ _ eFG) ?_
    rw [upd_same, el, pv_len]
end

theorem natI_rise {ns : List Nat} (h : ns.Pairwise (· < ·)) : (ns.map fun (k : Nat) => (k : Int)).Pairwise (· < ·) := by
  rw [List.pairwise_map]
  exact h.imp fun z => by omega
theorem ways_rise (h : Hall) (ks : List Call) (c : Int) (es : List Int) (sh : Int) : (waysM h ks c es sh).Pairwise (· < ·) := (List.Pairwise.filter _ (open_rise h sh))
def thG (kvs : List (List Key × V)) (d : List Key) : Option Int := match valV kvs d with
  | some (.int x) => some x
  | _ => none
theorem thereM_eq (h : Hall) (kvs : List (List Key × V)) (c : Int) (es : List Int) (r : Nat) : thereM h kvs c es r = (linesM h c es (r : Int)).filterMap (thG kvs) := rfl
def spWH (K : PySem.W.Frag) : Sp := fun vs H Q _ => ∃ (a t b e f g : Addr) (h : Hall) (ks : List Call) (kvs : List (List Key × V)) (c : Int) (es : List Int) (sh : Int) (rs : List Addr), vs = [.ref a, .ref t, .ref b, .ref f, .ref g] ∧ SqT K H a (h.row.map V.int) ∧ h.Ok ∧ H t = some (.dT kvs) ∧ HeldD h ks kvs ∧ ks.Pairwise (fun k k' => k.c < k'.c) ∧ (∀ k ∈ ks, k.In h) ∧ ks.length ≤ 63 ∧
  H b = some (.tup [.int c, .ref e, .int sh]) ∧ H e = some (.lst (es.map V.int)) ∧ es.length ≤ 12 ∧ H f = some (.lst (natV (waysM h ks c es sh))) ∧ H g = some (.lst (rs.map V.ref)) ∧ RowsI H rs (holdM h ks c es) ∧
  ∀ H', Same H H' → Q (.bl true) H'
section
variable {P : Program} {w : World} {K : PySem.W.Frag} {mg : Str → Option Value} {base : Heap}
theorem sc__law_ways_held : FnScope ["_law_hall_here", "_law_held", "_law_asked_here", "_law_free", "_law_kept", "_law_caller", "_law_ends_here", "_law_shut", "_law_k", "_law_there"] ["_law_hall_here", "_law_held", "_law_asked_here", "_law_free", "_law_kept"] (defScope (top 25)) := ⟨rfl, rfl, rfl, by decide +kernel, rfl, by decide +kernel, by decide +kernel⟩
set_option maxHeartbeats 4000000 in
theorem ok_ways_held (T : Txt K mg) (C__law_lines : Callee P w K mg base 1 "_law_lines" ["_law_hall_here", "_law_caller", "_law_ends_here", "_law_k"] (spLines K)) (C__law_alike : Callee P w K mg base 2 "_law_alike" ["_law_found", "_law_due"] (spAlike 1)) (D : Def K mg "_law_ways_held" (top 25) ["_law_hall_here", "_law_held", "_law_asked_here", "_law_free", "_law_kept"]) : Callee P w K mg base 3 "_law_ways_held" ["_law_hall_here", "_law_held", "_law_asked_here", "_law_free", "_law_kept"] (spWH K) := by
  refine D.ok sc__law_ways_held (fun vs H Q E h => ?_) (fun ff cdv A outer s H vs Q E hr h => ?_)
  · obtain ⟨a, t, b, e, f, g, h, ks, kvs, c, es, sh, rs, rfl, _⟩ := h
    rfl
  obtain ⟨a, t, b, e, f, g, h, ks, kvs, c, es, sh, rs, rfl, hH, ok, et, hd, hlt, hin, h63, eb, ee, few, ef, eg, rows, q⟩ := h
  have o2 := ok.c
  have o3 := ok.m
  have lr := Paired.length rows
  unfold holdM at lr
  rw [hold_len] at lr
  have wl := ways_len h ks c es sh
  have wr := natI_rise (ways_rise h ks c es sh)
  have wI := natV_int (waysM h ks c es sh)
  refine ⟨_, (pss_cons (ps_asg (pv 2) (pg3K K rfl sc__law_ways_held.nd (Nm.mk (i := 5) rfl (Or.inl rfl) (Or.inl rfl)) (Nm.mk (i := 6) rfl (Or.inl rfl) (Or.inl rfl)) (Nm.mk (i := 7) rfl (Or.inl rfl) (Or.inl rfl))))
    (pss_cons (ps_if (PW.pt (pw_or (pt_not (pt_truK K (pe_callB (call_isinstK K) rfl T.m_isinstance boot_isinstance (pa_cons (pv 3) (pa_cons (pe_bltn (v := .ty "list") rfl T.m_list boot_list rfl) pa_nil st_name) st_name)) (fun _ => rfl))) (pw_or (pt_cmpR (op_neIK K (Room.units0 hr)) (pv 3) (pe_callB (call_sortedK K) rfl T.m_sorted boot_sorted (pa_cons (pv 3) pa_nil st_name)) (nomark _)) (pw_or1 (pt_cmpR op_ne (pe_callB (call_lenSK P w) rfl T.m_len boot_len (pa_cons (pe_callTy (call_setK K P w rfl) rfl T.m_set boot_set (pa_cons (pv 3) pa_nil st_name)) pa_nil st_call)) (pe_callB (call_lenK K) rfl T.m_len boot_len (pa_cons (pv 3) pa_nil st_name)) (nomark _)))))) (pss_one (ps_ret pe_bl)) pss_nil)
    (pss_cons (ps_if (PW.pt (pw_or (pt_not (pt_truK K (pe_callB (call_isinstK K) rfl T.m_isinstance boot_isinstance (pa_cons (pv 4) (pa_cons (pe_bltn (v := .ty "list") rfl T.m_list boot_list rfl) pa_nil st_name) st_name)) (fun _ => rfl))) (pw_or1 (pt_cmpR op_ne (pe_callB (call_lenK K) rfl T.m_len boot_len (pa_cons (pv 4) pa_nil st_name)) (pe_ix (ix_tupK K) (pv 0) pe_int (fun _ _ => rfl)) (nomark _))))) (pss_one (ps_ret pe_bl)) pss_nil)
    (pss_cons (ps_for PassesOwn.never rfl (pi_range1 rfl T.m_range (pa_cons (pe_ix (ix_tupK K) (pv 0) pe_int (fun _ _ => rfl)) pa_nil st_sub)) (pg_name (i := 8) sc__law_ways_held.nd rfl (Or.inl rfl))
    (pss_cons (ps_comp (i := 9) (own := ["_law_line"]) (fr := [(1, "_law_held")]) rfl sc__law_ways_held.nd rfl rfl (show CompScope ["_law_hall_here", "_law_held", "_law_asked_here", "_law_free", "_law_kept", "_law_caller", "_law_ends_here", "_law_shut", "_law_k", "_law_there"] (defScope (top 25)) _ _ _ from ⟨rfl, by decide +kernel, by decide +kernel, by decide +kernel, by decide +kernel⟩) (pi_listK K (pe_fn C__law_lines hr rfl (pa_cons (pv 0) (pa_cons (pv 5) (pa_cons (pv 6) (pa_cons (pv 8) pa_nil st_name) st_name) st_name) st_name))) (fun cl C s H ex => ⟨(pg_name (i := 0) (show (["_law_line", "_law_held"] : List Str).Nodup from by decide +kernel) rfl (Or.inl rfl) (Or.inr rfl)), (pif_one (pt_cmp (pc_din (hu_of hr) (pv 0) (pv 1)))), (pe_dget (hu_of hr) (pv 1) (pv 0) (fun _ _ => rfl))⟩) rfl)
    (pss_cons (ps_if (pt_not (pt_truK K (pe_fn C__law_alike hr rfl (pa_cons (pe_ix (ix_listK K) (pv 4) (pv 8) (fun _ _ => rfl)) (pa_cons (pe_callB (call_sortedSK P w rfl) rfl T.m_sorted boot_sorted (pa_cons (pe_callTy (call_setK K P w rfl) rfl T.m_set boot_set (pa_cons (pv 9) pa_nil st_name)) pa_nil st_call)) pa_nil st_call) st_sub)) (fun _ => rfl))) (pss_one (ps_ret pe_bl)) pss_nil)
    (pss_one (ps_if (pt_cmpR op_ne (pe_cmpR (op_inK K) (pv 8) (pv 3) (by with_unfolding_all rfl)) (pe_and (pe_cmpR (op_eqIK K (Room.units0 hr)) (pv 9) (pe_lst pa_nil) (nomark _)) (pe_one (pe_cmpR op_eq (pe_op op_and (pe_op op_shr (pv 7) (pv 8)) pe_int) pe_int (nomark _)))) (nomark _)) (pss_one (ps_ret pe_bl)) pss_nil)))))
    (pss_one (ps_ret (pe_cmpR (op_eqIK K (Room.units0 hr)) (pe_comp (own := ["_law_k"]) (fr := [(0, "_law_hall_here")]) rfl (show CompScope ["_law_hall_here", "_law_held", "_law_asked_here", "_law_free", "_law_kept", "_law_caller", "_law_ends_here", "_law_shut", "_law_k", "_law_there"] (defScope (top 25)) _ _ _ from ⟨rfl, by decide +kernel, by decide +kernel, by decide +kernel, by decide +kernel⟩) (pi_listK K (pv 3)) (fun cl C s H ex => ⟨(pg_name (i := 0) (show (["_law_k", "_law_hall_here"] : List Str).Nodup from by decide +kernel) rfl (Or.inl rfl) (Or.inr rfl)), (pif_one (PW.pt (pw_or (pt_truK K (pe_callB (call_isinstK K) rfl T.m_isinstance boot_isinstance (pa_cons (pv 0) (pa_cons (pe_bltn (v := .ty "bool") rfl T.m_bool boot_bool rfl) pa_nil st_name) st_name)) (fun _ => rfl)) (pw_or1 (pt_not (pt_chain op_le op_lt pe_int (pv 0) (pe_ix (ix_tupK K) (pv 1) pe_int (fun _ _ => rfl)))))))), (pv 0)⟩)) (pe_lst pa_nil) (nomark _)))))))), ?_⟩
  refine ⟨_, rfl, b, _, rfl, SqT.of eb, rfl, _, _, rfl, _, _, rfl, _, _, rfl, rfl, ?_⟩
  refine ⟨_, rfl, _, _, _, true, rfl, .lst ef, kit_lst_lst, true, rfl, iteF ?_⟩
  have efI := ef
  rw [wI] at efI
  refine ⟨_, rfl, _, rfl, f, _, rfl, SqL.of efI, by rw [List.length_map]; omega, fun ns' pm pw l1 hl1 => ?_⟩
  have e1 := PySem.W.ksm_same pm pw (wr.imp fun z => by omega)
  subst e1
  have s1 := same_new hl1 (.lst (((waysM h ks c es sh).map fun (k : Nat) => (k : Int)).map V.int))
  have el1 := upd_same (H := H) (a := l1) (o := .lst (((waysM h ks c es sh).map fun (k : Nat) => (k : Int)).map V.int))
  generalize upd H l1 (.lst (((waysM h ks c es sh).map fun (k : Nat) => (k : Int)).map V.int)) = H1 at s1 el1 ⊢
  refine ⟨f, l1, _, _, rfl, rfl, SqL.of (s1 _ _ efI), SqL.of el1, _, rfl, ?_⟩
  rw [decide_eq_true rfl]
  refine iteF ?_
  refine ⟨_, rfl, f, _, rfl, SqL.of (s1 _ _ efI), by rw [List.length_map]; omega, fun l2 hl2 => ?_⟩
  have su : sortU ((waysM h ks c es sh).map fun (k : Nat) => (k : Int)) = (waysM h ks c es sh).map fun (k : Nat) => (k : Int) := rise_ext (rise_sortU _) wr fun x => mem_sortU _ _
  refine ⟨l2, _, rfl, upd_same, _, rfl, f, _, rfl, .inl (SqL.of (same_new hl2 _ _ _ (s1 _ _ efI))), rfl, _, rfl, iteN ?_ ?_⟩
  · rw [su]
    simp
  have s2 := s1.trans (same_new hl2 (SetP P w l2 ((waysM h ks c es sh).map fun (k : Nat) => (k : Int))))
  generalize upd H1 l2 (SetP P w l2 ((waysM h ks c es sh).map fun (k : Nat) => (k : Int))) = H2 at s2 ⊢
  refine ⟨_, rfl, _, _, _, true, rfl, .lst (s2 _ _ eg), kit_lst_lst, true, rfl, iteF ?_⟩
  refine ⟨_, rfl, g, _, rfl, .inl (SqL.of (s2 _ _ eg)), _, rfl, a, _, _, _, rfl, rfl, Same.seqT s2 hH, rfl, rfl, _, rfl, iteN ?_ ?_⟩
  · rw [List.length_map, lr]
    have : ((h.m.toNat : Nat) : Int) = h.m := by omega
    simp [this, Hall.row]
  refine ⟨_, rfl, a, _, _, _, rfl, rfl, Same.seqT s2 hH, rfl, _, rfl, by show -(2 ^ 62) ≤ h.m; omega, by show h.m < 2 ^ 62; omega, ?_⟩
  refine for_range (fun i σ G => Same H G ∧ ∃ v8 v9, σ = [some (.ref a), some (.ref t), some (.ref b), some (.ref f), some (.ref g), some (.int c), some (.ref e), some (.int sh), v8, v9])
    ⟨s2, none, none, rfl⟩ ?_ ?_
  · rintro i σ G hi ⟨sG, v8, v9, rfl⟩
    rw [Int.zero_add]
    have eeG := sG _ _ ee
    refine ⟨_, rfl, _, rfl, _, rfl, _, rfl, a, e, h, c, (i : Int), es, rfl, Same.seqT sG hH, ok, .inr (SqL.of eeG), few, fun nl nas G1 g1 hnl enl tnl => ?_⟩
    have sG1 := sG.trans g1
    have lnl := Paired.length tnl
    have ll := lines_len h c es (i : Int)
    have etG := sG1 _ _ et
    refine ⟨nl, rfl, ⟨_, SqL.of enl⟩, ?_⟩
    refine comp_list (xs := nas.map V.ref) (fun j acc σ G' => G' = G1 ∧ acc = (((linesM h c es (i : Int)).take j).filterMap (thG kvs)).map V.int ∧ ∃ v, σ = [v, some (.ref t)])
      ⟨rfl, rfl, none, rfl⟩ (Nat.le_of_lt (small1000 (by rw [List.length_map, lnl]; omega))) (fun j acc σ G' g => ?_) (fun j acc σ G' _ g => by rw [g.1]; exact SqL.of enl) ?_ ?_
    · obtain ⟨_, rfl, _⟩ := g
      rw [List.length_map]
      exact Nat.le_trans (List.length_filterMap_le _ _) (by rw [List.length_take]; omega)
    · rintro j y acc σ G' hy ⟨rfl, rfl, v, rfl⟩
      rw [List.getElem?_map] at hy
      obtain ⟨x, hx, rfl⟩ := Option.map_eq_some_iff.mp hy
      obtain ⟨d, hd1, hd2⟩ := paired_at tnl j x hx
      have st : ((linesM h c es (i : Int)).take (j + 1)).filterMap (thG kvs) = ((linesM h c es (i : Int)).take j).filterMap (thG kvs) ++ (thG kvs d).toList := by
        rw [List.take_succ, hd1, List.filterMap_append]
        congr 1
      refine ⟨_, rfl, _, rfl, t, _, rfl, DGet.t etG hd2, _, rfl, ?_⟩
      refine ite2 (fun c1 => ?_) (fun c1 => ?_)
      · obtain ⟨v, hv⟩ := Option.isSome_iff_exists.mp c1
        obtain ⟨k, _, _, rfl⟩ := hd.only d v hv
        refine ⟨_, rfl, _, rfl, t, _, rfl, hv ▸ DGet.t etG hd2, rfl, ?_, _, rfl⟩
        rw [st, show thG kvs d = some k.c by unfold thG; rw [hv], List.map_append]
        rfl
      · refine ⟨rfl, ?_, _, rfl⟩
        have : valV kvs d = none := by
          cases z : valV kvs d with
          | none => rfl
          | some v => rw [z] at c1; exact absurd rfl c1
        rw [st, show thG kvs d = none by unfold thG; rw [this]]
        simp
    rintro acc σ G' ⟨rfl, rfl, v, rfl⟩ lt hlt2
    rw [List.length_map, lnl, List.take_length]
    have thl : ((linesM h c es (i : Int)).filterMap (thG kvs)).length ≤ 13 := Nat.le_trans (List.length_filterMap_le _ _) (by omega)
    have tS := there_sorted hd hlt (c := c) (es := es) (r := i)
    have tN := there_nil hd (c := c) (es := es) (r := i)
    rw [thereM_eq] at tS tN
    generalize (linesM h c es (i : Int)).filterMap (thG kvs) = th at thl tS tN ⊢
    have elt := upd_same (H := G') (a := lt) (o := .lst (th.map V.int))
    have g2 := same_new hlt2 (.lst (th.map V.int))
    generalize upd G' lt (.lst (th.map V.int)) = G2 at elt g2 ⊢
    have sG2 := sG1.trans g2
    have hrw : rs[i]? = some (rs[i]'(by omega)) := List.getElem?_eq_getElem _
    generalize rs[i]'(by omega) = ra at hrw
    obtain ⟨row, hr1, hr2⟩ := paired_at rows i ra hrw
    have hrE : row = hrow h ks (c / h.c) (racksM h es) i := by
      unfold holdM holdG at hr1
      rw [List.getElem?_map, List.getElem?_range (by omega)] at hr1
      injection hr1 with hr1
      exact hr1.symm
    have hrl : row.length ≤ 63 := by rw [hrE]; exact Nat.le_trans (hrow_len _ _ _ _ _) h63
    refine ⟨_, rfl, _, rfl, g, _, _, _, rfl, rfl, SqL.of (sG2 _ _ eg), atI_nat (v := .ref ra) (by rw [List.getElem?_map, hrw]; rfl), ?_⟩
    refine ⟨_, rfl, lt, _, rfl, SqL.of elt, by omega, fun l4 hl4 => ?_⟩
    refine ⟨l4, _, rfl, upd_same, by omega, fun l5 hl5 => ?_⟩
    have g3 := (same_new hl4 (SetP P w l4 th)).trans (same_new hl5 (.lst ((sortU th).map V.int)))
    have el5 := upd_same (H := upd G2 l4 (SetP P w l4 th)) (a := l5) (o := .lst ((sortU th).map V.int))
    generalize upd (upd G2 l4 (SetP P w l4 th)) l5 (.lst ((sortU th).map V.int)) = G5 at g3 el5 ⊢
    have sG5 := sG2.trans g3
    refine ⟨_, _, rfl, .inr ⟨ra, l5, _, _, rfl, rfl, .inl ⟨sG5 _ _ hr2, el5⟩, by rw [tS, ← hrE]; exact alike_ints _, by rw [List.length_map]; omega⟩, _, rfl, iteF ?_⟩
    have efG := sG5 _ _ ef
    refine ⟨_, rfl, _, rfl, f, _, rfl, .inl (SqL.of efG), rfl, by rw [wI]; exact int_flat _, ?_⟩
    refine ⟨_, rfl, (by show 0 ≤ sizeLine; decide), fun o ho => ?_⟩
    have g6 := same_new ho (.lst [])
    have eo := upd_same (H := G5) (a := o) (o := .lst [])
    generalize upd G5 o (.lst []) = G6 at g6 eo ⊢
    refine ⟨lt, o, th, [], rfl, rfl, SqL.of (g6 _ _ (g3 _ _ elt)), SqL.of eo, _, rfl, ?_⟩
    have keyF : inV (.int (i : Int)) (natV (waysM h ks c es sh)) = decide (i ∈ waysM h ks c es sh) := by rw [nat_in (by omega)]; rfl
    have mw : i ∈ waysM h ks c es sh ↔ th = [] ∧ openB sh i = true := by
      rw [mem_ways, mem_open, ← tN]
      constructor
      · rintro ⟨⟨_, z1⟩, z2⟩
        exact ⟨z2, z1⟩
      · rintro ⟨z1, z2⟩
        exact ⟨⟨hi, z2⟩, z1⟩
    have ob : decide (V.int (Builtin.bitAnd (sh / 2 ^ ((i : Nat) : Int).toNat) 1) = V.int 0) = openB sh i := by
      unfold openB
      simp
    refine ite2 (fun c1 => ?_) (fun c1 => ?_)
    · have c1' : th = [] := of_decide_eq_true c1
      refine ⟨_, rfl, _, rfl, _, _, rfl, rfl, by omega, _, _, rfl, rfl, rfl, rfl, _, rfl, iteN ?_ ⟨sG5.trans g6, _, _, rfl⟩⟩
      show ¬ (!decide (V.bl (inV (.int (i : Int)) (natV (waysM h ks c es sh))) = V.bl (decide (V.int (Builtin.bitAnd (sh / 2 ^ ((i : Nat) : Int).toNat) 1) = V.int 0)))) = true
      rw [keyF, ob, show decide (i ∈ waysM h ks c es sh) = openB sh i by rw [Bool.eq_iff_iff, decide_eq_true_iff, mw]; simp [c1']]
      simp
    · have c1' : ¬ th = [] := fun z => c1 (decide_eq_true z)
      refine ⟨rfl, _, rfl, iteN ?_ ⟨sG5.trans g6, _, _, rfl⟩⟩
      show ¬ (!decide (V.bl (inV (.int (i : Int)) (natV (waysM h ks c es sh))) = V.bl false)) = true
      rw [keyF, decide_eq_false fun z => c1' (mw.mp z).1]
      simp
  · rintro σ G ⟨sG, v8, v9, rfl⟩
    have efG := sG _ _ ef
    refine ⟨_, rfl, f, rfl, ⟨_, SqL.of efG⟩, ?_⟩
    refine comp_list (xs := natV (waysM h ks c es sh)) (fun j acc σ G' => G' = G ∧ acc = [] ∧ ∃ v, σ = [v, some (.ref a)])
      ⟨rfl, rfl, none, rfl⟩ (Nat.le_of_lt (small1000 (by rw [pv_len]; omega))) (fun j acc σ G' g => ?_) (fun j acc σ G' _ g => by rw [g.1]; exact SqL.of efG) ?_ ?_
    · obtain ⟨_, rfl, _⟩ := g
      exact Nat.zero_le _
    · rintro j y acc σ G' hy ⟨rfl, rfl, v, rfl⟩
      obtain ⟨n, hn, rfl⟩ := pv_get hy
      have hnm := open_lt (mem_ways.mp (List.mem_of_getElem? hn)).1
      refine ⟨_, rfl, _, _, _, false, rfl, .int _, kit_int_bool, false, rfl, iteF ?_⟩
      refine ⟨_, rfl, _, _, rfl, rfl, _, rfl, iteP (decide_eq_true (by omega)) ?_⟩
      refine ⟨_, rfl, a, _, _, _, rfl, rfl, Same.seqT sG hH, rfl, _, _, rfl, rfl, _, rfl, iteN ?_ ⟨rfl, rfl, _, rfl⟩⟩
      rw [decide_eq_true (show ((n : Nat) : Int) < h.m by omega)]
      simp
    · rintro acc σ G' ⟨rfl, rfl, v, rfl⟩ lq hlq
      have elq := upd_same (H := G') (a := lq) (o := .lst [])
      have g3 := same_new hlq (.lst [])
      generalize upd G' lq (.lst []) = G3 at elq g3 ⊢
      refine ⟨(by show 0 ≤ sizeLine; decide), fun o ho => ?_⟩
      refine ⟨lq, o, [], [], rfl, rfl, SqL.of (same_new ho _ _ _ elq), SqL.of upd_same, ?_⟩
      rw [decide_eq_true rfl]
      exact q _ ((sG.trans g3).trans (same_new ho _))
end

theorem goneF_len (ks : List Call) (xs : List Int) : (goneF ks xs).length ≤ ks.length := List.length_filter_le _ _
theorem goneF_in {h : Hall} {ks : List Call} {xs : List Int} (hin : ∀ k ∈ ks, k.In h) : ∀ k ∈ goneF ks xs, k.In h := fun k hk => hin k (List.mem_filter.mp hk).1
theorem less_one {xs : List Int} (nd : xs.Nodup) {x : Int} (hx : x ∈ xs) : (xs.filter fun y => !decide (y = x)).length < xs.length := by
  have h1 := List.length_filter_le (fun y => !decide (y = x)) xs
  rcases Nat.lt_or_eq_of_le h1 with z | z
  · exact z
  · have := List.filter_eq_self.mp (List.Sublist.eq_of_length List.filter_sublist z) x hx
    simp at this
theorem cut_to (xs : List V) (m : Nat) : cutV xs none (some (m : Int)) = xs.take m := by
  unfold cutV
  rw [HT.sIx_none, show HT.sIx xs.length xs.length (some (m : Int)) = min m xs.length from HT.sIx_nat _ _ m, Nat.sub_zero, List.drop_zero]
  rcases Nat.le_total m xs.length with h | h
  · rw [Nat.min_eq_left h]
  · rw [Nat.min_eq_right h, List.take_length, List.take_of_length_le h]
def spLst16 (K : PySem.W.Frag) : Sp := fun vs H Q _ => ∃ (a l b e f g : Addr) (h : Hall) (as : List Addr) (ks : List Call) (c : Int) (es : List Int) (sh : Int) (rs : List Addr) (n : Int), vs = [.ref a, .ref l, .ref b, .ref f, .ref g, .int n] ∧ SqT K H a (h.row.map V.int) ∧ h.Ok ∧ H l = some (.lst (as.map V.ref)) ∧ CallsAt H as ks ∧ ks.Pairwise (fun k k' => k.c < k'.c) ∧ (∀ k ∈ ks, k.In h) ∧ ks.length ≤ 63 ∧
  H b = some (.tup [.int c, .ref e, .int sh]) ∧ 0 ≤ sh ∧ sh < 2 ^ h.m.toNat ∧ H e = some (.lst (es.map V.int)) ∧ es.length ≤ 12 ∧ H f = some (.lst (natV (waysM h ks c es sh))) ∧ H g = some (.lst (rs.map V.ref)) ∧ RowsI H rs (holdM h ks c es) ∧
  ∀ H', Same H H' → Q (.bl true) H'
section
variable {P : Program} {w : World} {K : PySem.W.Frag} {mg : Str → Option Value} {base : Heap}
theorem sc__law_least : FnScope ["_law_hall_here", "_law_calls", "_law_asked_here", "_law_free", "_law_kept", "_law_number_here", "_law_caller", "_law_ends_here", "_law_shut", "_law_fewest", "_law_ready", "_law_left_here", "_law_at", "_law_few"] ["_law_hall_here", "_law_calls", "_law_asked_here", "_law_free", "_law_kept", "_law_number_here"] (defScope (top 27)) := ⟨rfl, rfl, rfl, by decide +kernel, rfl, by decide +kernel, by decide +kernel⟩
set_option maxHeartbeats 4000000 in
theorem ok_least16 (T : Txt K mg) (C_least_ended : CalleeD P w K mg base 5 "least_ended" ["hall", "calls", "caller", "ends", "shut"] [.int 0] (spLeast K)) (C__law_left : Callee P w K mg base 1 "_law_left" ["_law_calls", "_law_gone"] (spLeft K)) (C_ways : CalleeD P w K mg base 5 "ways" ["hall", "calls", "caller", "ends", "shut"] [.int 0] (spWays K)) (D : Def K mg "_law_least" (top 27) ["_law_hall_here", "_law_calls", "_law_asked_here", "_law_free", "_law_kept", "_law_number_here"]) : Callee P w K mg base 6 "_law_least" ["_law_hall_here", "_law_calls", "_law_asked_here", "_law_free", "_law_kept", "_law_number_here"] (spLst16 K) := by
  refine D.ok sc__law_least (fun vs H Q E h => ?_) (fun ff cdv A outer s H vs Q E hr h => ?_)
  · obtain ⟨a, l, b, e, f, g, h, as, ks, c, es, sh, rs, n, rfl, _⟩ := h
    rfl
  obtain ⟨a, l, b, e, f, g, h, as, ks, c, es, sh, rs, n, rfl, hH, ok, el, hC, hlt, hin, h63, eb, h0, h2m, ee, few, ef, eg, rows, q⟩ := h
  have o2 := ok.c
  have o3 := ok.m
  have la := Paired.length hC
  have lr := Paired.length rows
  unfold holdM at lr
  rw [hold_len] at lr
  refine ⟨_, (pss_cons (ps_asg (pv 2) (pg3K K rfl sc__law_least.nd (Nm.mk (i := 6) rfl (Or.inl rfl) (Or.inl rfl)) (Nm.mk (i := 7) rfl (Or.inl rfl) (Or.inl rfl)) (Nm.mk (i := 8) rfl (Or.inr rfl) (Or.inl rfl))))
    (pss_cons (ps_set (i := 9) sc__law_least.nd rfl (Or.inr rfl) (pe_fn C_least_ended.all hr rfl (pa_cons (pv 0) (pa_cons (pe_callTy (call_listK K) rfl T.m_list boot_list (pa_cons (pv 1) pa_nil st_name)) (pa_cons (pv 6) (pa_cons (pe_callTy (call_listK K) rfl T.m_list boot_list (pa_cons (pv 7) pa_nil st_name)) (pa_cons (pv 8) pa_nil st_name) st_call) st_name) st_call) st_name)))
    (pss_cons (ps_if (pt_cmpR op_eq (pv 8) (pe_op op_sub (pe_op op_shl pe_int (pe_ix (ix_tupK K) (pv 0) pe_int (fun _ _ => rfl))) pe_int) (nomark _)) (pss_one (ps_ret (pe_cmpR op_isN (pv 9) pe_non (nomark _)))) pss_nil)
    (pss_cons (ps_if (PW.pt (pw_or (pt_not (pt_truK K (pe_callB (call_isinstK K) rfl T.m_isinstance boot_isinstance (pa_cons (pv 9) (pa_cons (pe_bltn (v := .ty "list") rfl T.m_list boot_list rfl) pa_nil st_name) st_name)) (fun _ => rfl))) (pw_or1 (pt_cmpR op_ne (pe_cmpR (op_eqIK K (Room.units0 hr)) (pv 9) (pe_lst pa_nil) (nomark _)) (pe_cmpR (op_neIK K (Room.units0 hr)) (pv 3) (pe_lst pa_nil) (nomark _)) (nomark _))))) (pss_one (ps_ret pe_bl)) pss_nil)
    (pss_cons (ps_comp (i := 10) (own := ["_law_k"]) (fr := [(8, "_law_shut")]) rfl sc__law_least.nd rfl rfl (show CompScope ["_law_hall_here", "_law_calls", "_law_asked_here", "_law_free", "_law_kept", "_law_number_here", "_law_caller", "_law_ends_here", "_law_shut", "_law_fewest", "_law_ready", "_law_left_here", "_law_at", "_law_few"] (defScope (top 27)) _ _ _ from ⟨rfl, by decide +kernel, by decide +kernel, by decide +kernel, by decide +kernel⟩) (pi_range1 rfl T.m_range (pa_cons (pe_ix (ix_tupK K) (pv 0) pe_int (fun _ _ => rfl)) pa_nil st_sub)) (fun cl C s H ex => ⟨(pg_name (i := 0) (show (["_law_k", "_law_shut"] : List Str).Nodup from by decide +kernel) rfl (Or.inl rfl) (Or.inr rfl)), (pif_one (pt_cmpR op_eq (pe_op op_and (pe_op op_shr (pv 1) (pv 0)) pe_int) pe_int (nomark _))), (pv 0)⟩) rfl)
    (pss_cons (ps_if (pt_cmpR (op_notInLK K (Room.unitsT hr)) (pv 9) (pe_comp (own := ["_law_k"]) (fr := [(4, "_law_kept")]) rfl (show CompScope ["_law_hall_here", "_law_calls", "_law_asked_here", "_law_free", "_law_kept", "_law_number_here", "_law_caller", "_law_ends_here", "_law_shut", "_law_fewest", "_law_ready", "_law_left_here", "_law_at", "_law_few"] (defScope (top 27)) _ _ _ from ⟨rfl, by decide +kernel, by decide +kernel, by decide +kernel, by decide +kernel⟩) (pi_listK K (pv 10)) (fun cl C s H ex => ⟨(pg_name (i := 0) (show (["_law_k", "_law_kept"] : List Str).Nodup from by decide +kernel) rfl (Or.inl rfl) (Or.inr rfl)), pif_nil, (pe_ix (ix_listK K) (pv 1) (pv 0) (fun _ _ => rfl))⟩)) (by with_unfolding_all rfl)) (pss_one (ps_ret pe_bl)) pss_nil)
    (pss_cons (ps_set (i := 11) sc__law_least.nd rfl (Or.inl rfl) (pe_fn C__law_left hr rfl (pa_cons (pv 1) (pa_cons (pv 9) pa_nil st_name) st_name)))
    (pss_cons (ps_if (pt_cmpR (op_eqIK K (Room.units0 hr)) (pe_fn C_ways.all hr rfl (pa_cons (pv 0) (pa_cons (pv 11) (pa_cons (pv 6) (pa_cons (pv 7) (pa_cons (pv 8) pa_nil st_name) st_name) st_name) st_name) st_name)) (pe_lst pa_nil) (nomark _)) (pss_one (ps_ret pe_bl)) pss_nil)
    (pss_cons (ps_if (pt_cmpR (op_eqIK K (Room.units0 hr)) (pv 9) (pe_lst pa_nil) (nomark _)) (pss_one (ps_ret pe_bl)) pss_nil)
    (pss_cons (ps_set (i := 12) sc__law_least.nd rfl (Or.inl rfl) (pe_op op_mod (pe_op op_mod (pe_op op_mul (pv 5) pe_int) pe_int) (pe_callB (call_lenK K) rfl T.m_len boot_len (pa_cons (pv 1) pa_nil st_name))))
    (pss_cons (ps_set (i := 13) sc__law_least.nd rfl (Or.inl rfl) (pe_slice (sl_listK K) (pe_op op_cat (pe_slice (sl_listK K) (pv 1) (po_some (pv 12)) po_none) (pe_slice (sl_listK K) (pv 1) po_none (po_some (pv 12)))) po_none (po_some (pe_op op_sub (pe_callB (call_lenK K) rfl T.m_len boot_len (pa_cons (pv 9) pa_nil st_name)) pe_int))))
    (pss_cons (ps_set (i := 11) sc__law_least.nd rfl (Or.inl rfl) (pe_fn C__law_left hr rfl (pa_cons (pv 1) (pa_cons (pe_comp (own := ["_law_call"]) (fr := []) rfl (show CompScope ["_law_hall_here", "_law_calls", "_law_asked_here", "_law_free", "_law_kept", "_law_number_here", "_law_caller", "_law_ends_here", "_law_shut", "_law_fewest", "_law_ready", "_law_left_here", "_law_at", "_law_few"] (defScope (top 27)) _ _ _ from ⟨rfl, by decide +kernel, by decide +kernel, by decide +kernel, by decide +kernel⟩) (pi_listK K (pv 13)) (fun cl C s H ex => ⟨(pg_name (i := 0) (show (["_law_call"] : List Str).Nodup from by decide +kernel) rfl (Or.inl rfl) (Or.inr rfl)), pif_nil, (pe_ix (ix_tupK K) (pv 0) pe_int (fun _ _ => rfl))⟩)) pa_nil st_comp) st_name)))
    (pss_cons (ps_if (pt_cmpR (op_neIK K (Room.units0 hr)) (pe_fn C_ways.all hr rfl (pa_cons (pv 0) (pa_cons (pv 11) (pa_cons (pv 6) (pa_cons (pv 7) (pa_cons (pv 8) pa_nil st_name) st_name) st_name) st_name) st_name)) (pe_lst pa_nil) (nomark _)) (pss_one (ps_ret pe_bl)) pss_nil)
    (pss_cons (ps_comp (i := 13) (own := ["_law_one"]) (fr := [(9, "_law_fewest"), (5, "_law_number_here")]) rfl sc__law_least.nd rfl rfl (show CompScope ["_law_hall_here", "_law_calls", "_law_asked_here", "_law_free", "_law_kept", "_law_number_here", "_law_caller", "_law_ends_here", "_law_shut", "_law_fewest", "_law_ready", "_law_left_here", "_law_at", "_law_few"] (defScope (top 27)) _ _ _ from ⟨rfl, by decide +kernel, by decide +kernel, by decide +kernel, by decide +kernel⟩) (pi_listK K (pv 9)) (fun cl C s H ex => ⟨(pg_name (i := 0) (show (["_law_one", "_law_fewest", "_law_number_here"] : List Str).Nodup from by decide +kernel) rfl (Or.inl rfl) (Or.inr rfl)), (pif_one (pt_cmpR op_ne (pv 0) (pe_ix (ix_listK K) (pv 1) (pe_op op_mod (pv 2) (pe_callB (call_lenK K) rfl T.m_len boot_len (pa_cons (pv 1) pa_nil st_name))) (fun _ _ => rfl)) (nomark _))), (pv 0)⟩) rfl)
    (pss_cons (ps_set (i := 11) sc__law_least.nd rfl (Or.inl rfl) (pe_fn C__law_left hr rfl (pa_cons (pv 1) (pa_cons (pv 13) pa_nil st_name) st_name)))
    (pss_one (ps_ret (pe_cmpR (op_eqIK K (Room.units0 hr)) (pe_fn C_ways.all hr rfl (pa_cons (pv 0) (pa_cons (pv 11) (pa_cons (pv 6) (pa_cons (pv 7) (pa_cons (pv 8) pa_nil st_name) st_name) st_name) st_name) st_name)) (pe_lst pa_nil) (nomark _))))))))))))))))))), ?_⟩
  refine ⟨_, rfl, b, _, rfl, SqT.of eb, rfl, _, _, rfl, _, _, rfl, _, _, rfl, rfl, ?_⟩
  refine ⟨_, rfl, _, rfl, l, _, rfl, .inl (SqL.of el), fun l1 hl1 => ?_⟩
  have e1 := upd_same (H := H) (a := l1) (o := .lst (as.map V.ref))
  have s1 := same_new hl1 (.lst (as.map V.ref))
  generalize upd H l1 (.lst (as.map V.ref)) = H1 at e1 s1 ⊢
  refine ⟨_, rfl, _, rfl, e, _, rfl, .inl (SqL.of (s1 _ _ ee)), fun l2 hl2 => ?_⟩
  have e2 := upd_same (H := H1) (a := l2) (o := .lst (es.map V.int))
  have s2 := same_new hl2 (.lst (es.map V.int))
  generalize upd H1 l2 (.lst (es.map V.int)) = H2 at e2 s2 ⊢
  have s12 := s1.trans s2
  have ask : Asked K H2 a l1 l2 h as ks es := ⟨Same.seqT s12 hH, ok, SqL.of (s2 _ _ e1), CallsAt.same (fun b xs z => s12 _ _ z) hC, hin, h63, .inr (SqL.of e2), by omega⟩
  have os := open_shut (h := h) h0 h2m
  refine ⟨_, rfl, a, l1, l2, h, as, ks, c, es, sh, rfl, ask, fun H3 s3 ho => ?_, fun r k H3 s3 lk er => ?_⟩
  · have s13 := s12.trans s3
    refine ⟨_, rfl, _, rfl, a, _, _, _, rfl, rfl, Same.seqT s13 hH, rfl, _, _, rfl, rfl, ⟨by show 0 ≤ h.m; omega, by show h.m ≤ 1000000; omega, by decide⟩, _, _, rfl, rfl, rfl, _, rfl, iteP ?_ ⟨_, rfl, rfl, q _ s13⟩⟩
    show decide (V.int sh = V.int (1 * 2 ^ h.m.toNat - 1)) = true
    rw [← os.mp ho]
    simp
  · have s13 := s12.trans s3
    have ln := least_nil lk
    obtain ⟨row, hrw⟩ : ∃ row, row = hrow h ks (c / h.c) (racksM h es) k := ⟨_, rfl⟩
    rw [← hrw] at er ln
    have hrl : row.length ≤ 63 := by
      rw [hrw]
      exact Nat.le_trans (hrow_len _ _ _ _ _) h63
    have rnd : row.Nodup := by
      rw [hrw]
      exact nodup_of_rise (hrow_rise hlt)
    have lmin : ∀ k' ∈ openM h sh, row.length ≤ lenH h ks c es k' := fun k' hk' => by
      rw [hrw]
      exact (lk.2 k' hk').1
    refine ⟨_, rfl, _, rfl, a, _, _, _, rfl, rfl, Same.seqT s13 hH, rfl, _, _, rfl, rfl, ⟨by show 0 ≤ h.m; omega, by show h.m ≤ 1000000; omega, by decide⟩, _, _, rfl, rfl, rfl, _, rfl, iteN ?_ ?_⟩
    · show ¬ decide (V.int sh = V.int (1 * 2 ^ h.m.toNat - 1)) = true
      intro z
      have z' := of_decide_eq_true z
      injection z' with z'
      have := lk.1
      rw [os.mpr z'] at this
      cases this
    refine ⟨_, rfl, _, _, _, true, rfl, .lst er, kit_lst_lst, true, rfl, iteF ?_⟩
    refine ⟨_, rfl, (by show 0 ≤ sizeLine; decide), fun o1 ho1 => ?_⟩
    have eo1 := upd_same (H := H3) (a := o1) (o := .lst [])
    have s4 := same_new ho1 (.lst [])
    generalize upd H3 o1 (.lst []) = H4 at eo1 s4 ⊢
    refine ⟨r, o1, _, [], rfl, rfl, SqL.of (s4 _ _ er), SqL.of eo1, ?_⟩
    refine ⟨_, rfl, (by show 0 ≤ sizeLine; decide), fun o2 ho2 => ?_⟩
    have eo2 := upd_same (H := H4) (a := o2) (o := .lst [])
    have s5 := s4.trans (same_new ho2 (.lst []))
    generalize upd H4 o2 (.lst []) = H6 at eo2 s5 ⊢
    have s16 := s13.trans s5
    have ef6 := s16 _ _ ef
    have efI := ef6
    rw [natV_int] at efI
    refine ⟨f, o2, _, [], rfl, rfl, SqL.of efI, SqL.of eo2, rfl, _, rfl, iteN ?_ ?_⟩
    · show ¬ (!decide (V.bl (decide (row = [])) = V.bl (!decide ((waysM h ks c es sh).map (fun (k : Nat) => (k : Int)) = [])))) = true
      have e1 : decide (row = []) = !decide ((waysM h ks c es sh).map (fun (k : Nat) => (k : Int)) = []) := by
        rw [Bool.eq_iff_iff, decide_eq_true_iff, ln]
        simp
      rw [e1]
      simp
    refine ⟨_, rfl, a, _, _, _, rfl, rfl, Same.seqT s16 hH, rfl, _, rfl, by show -(2 ^ 62) ≤ h.m; omega, by show h.m < 2 ^ 62; omega, ?_⟩
    refine comp_range (fun i acc σ H' => H' = H6 ∧ acc = natV ((List.range i).filter (openB sh)) ∧ ∃ v, σ = [v, some (.int sh)])
      ⟨rfl, rfl, none, rfl⟩ (by show h.m.toNat ≤ 16777216; omega) (fun i acc σ H' g => ?_) ?_ ?_
    · obtain ⟨_, rfl, _⟩ := g
      rw [pv_len]
      have := List.length_filter_le (openB sh) (List.range i)
      rw [List.length_range] at this
      exact this
    · rintro i acc σ H' hi ⟨rfl, rfl, v, rfl⟩
      rw [Int.zero_add]
      have step : natV ((List.range (i + 1)).filter (openB sh)) = natV ((List.range i).filter (openB sh)) ++ (if openB sh i = true then [V.int (i : Int)] else []) := by
        unfold natV
        rw [List.range_succ, List.filter_append, List.map_append]
        by_cases c : openB sh i = true
        · rw [if_pos c]
          simp [c]
        · rw [if_neg c]
          simp [c]
      refine ⟨_, rfl, _, rfl, _, _, rfl, rfl, by omega, _, _, rfl, rfl, rfl, _, rfl, ?_⟩
      refine ite2 (fun c => ?_) (fun c => ?_)
      · have c' : openB sh i = true := by
          unfold openB
          simpa using c
        refine ⟨_, rfl, rfl, ?_, _, rfl⟩
        rw [step, if_pos c']
      · have c' : ¬ openB sh i = true := by
          unfold openB
          simpa using c
        refine ⟨rfl, ?_, _, rfl⟩
        rw [step, if_neg c', List.append_nil]
    rintro acc σ H' ⟨rfl, rfl, v, rfl⟩ lo hlo
    have elo := upd_same (H := H') (a := lo) (o := .lst (natV (openM h sh)))
    have s7 := same_new hlo (.lst (natV (openM h sh)))
    unfold openM at elo s7
    generalize upd H' lo _ = H7 at elo s7 ⊢
    change H7 lo = some (.lst (natV (openM h sh))) at elo
    have s17 := s16.trans s7
    have er7 := s7 _ _ (s5 _ _ er)
    have eg7 := s17 _ _ eg
    have ol := open_len h sh
    refine ⟨_, rfl, _, rfl, lo, rfl, ⟨_, SqL.of elo⟩, ?_⟩
    refine comp_list (xs := natV (openM h sh)) (fun j acc σ G => G = H7 ∧ (∃ bs : List Addr, acc = bs.map V.ref ∧ RowsI H7 bs (((openM h sh).take j).map (hrow h ks (c / h.c) (racksM h es)))) ∧ ∃ v, σ = [v, some (.ref g)])
      ⟨rfl, ⟨[], rfl, .nil⟩, none, rfl⟩ (Nat.le_of_lt (small1000 (by rw [pv_len]; omega))) (fun j acc σ G g => ?_) (fun j acc σ G _ g => by rw [g.1]; exact SqL.of elo) ?_ ?_
    · obtain ⟨_, ⟨bs, rfl, hb⟩, _⟩ := g
      have := Paired.length hb
      rw [List.length_map, this, List.length_map, List.length_take]
      omega
    · rintro j y acc σ G hy ⟨rfl, ⟨bs, rfl, hb⟩, v, rfl⟩
      obtain ⟨m, hm, rfl⟩ := pv_get hy
      have hml := open_lt (List.mem_of_getElem? hm)
      have hra : rs[m]? = some (rs[m]'(by omega)) := List.getElem?_eq_getElem _
      generalize rs[m]'(by omega) = ra at hra
      obtain ⟨row2, hr1, hr2⟩ := paired_at rows m ra hra
      have hrE : row2 = hrow h ks (c / h.c) (racksM h es) m := by
        unfold holdM holdG at hr1
        rw [List.getElem?_map, List.getElem?_range hml] at hr1
        injection hr1 with hr1
        exact hr1.symm
      refine ⟨_, rfl, _, rfl, g, _, _, _, rfl, rfl, SqL.of eg7, atI_nat (v := .ref ra) (by rw [List.getElem?_map, hra]; rfl), rfl, ⟨bs ++ [ra], by rw [List.map_append]; rfl, ?_⟩, _, rfl⟩
      rw [List.take_succ, hm, List.map_append]
      refine Paired.snoc hb ?_
      rw [← hrE]
      exact s17 _ _ hr2
    rintro acc σ G ⟨rfl, ⟨bs, rfl, hb⟩, v, rfl⟩ lq hlq
    rw [pv_len, List.take_length] at hb
    have elq := upd_same (H := G) (a := lq) (o := .lst (bs.map V.ref))
    have s8 := same_new hlq (.lst (bs.map V.ref))
    generalize upd G lq (.lst (bs.map V.ref)) = H8 at elq s8 ⊢
    have s18 := s17.trans s8
    have er8 := s8 _ _ er7
    refine ⟨lq, bs, row, _, rfl, SqL.of elq, ⟨r, _, rfl, SqL.of er8, ints_paired _⟩, paired_mem hb fun a d _ e => ⟨a, _, rfl, SqL.of (s8 _ _ e), ints_paired _⟩, _, rfl, iteN ?_ ?_⟩
    · show ¬ (!inR ((openM h sh).map (hrow h ks (c / h.c) (racksM h es))) row) = true
      rw [inR_iff.mpr (List.mem_map.mpr ⟨k, lk.1, hrw.symm⟩)]
      simp
    have hC8 := CallsAt.same (fun b xs z => s18 _ _ z) hC
    refine ⟨_, rfl, _, rfl, l, r, as, ks, row, rfl, s18 _ _ el, hC8, h63, er8, fun l3 as3 H9 s9 e9 c9 => ?_⟩
    have s19 := s18.trans s9
    refine ⟨_, rfl, _, rfl, _, rfl, _, rfl, _, rfl, a, l3, e, h, as3, goneF ks row, c, es, sh, rfl, ⟨Same.seqT s19 hH, ok, SqL.of e9, c9, goneF_in hin, Nat.le_trans (goneF_len _ _) h63, .inr (SqL.of (s19 _ _ ee)), by omega⟩, fun fw HA sA _ efw => ?_⟩
    rw [natV_int] at efw
    refine ⟨(by show 0 ≤ sizeLine; decide), fun o3 ho3 => ?_⟩
    have eo3 := upd_same (H := HA) (a := o3) (o := .lst [])
    have sB := same_new ho3 (.lst [])
    generalize upd HA o3 (.lst []) = HB at eo3 sB ⊢
    have s1B := (s19.trans sA).trans sB
    have erB := sB _ _ (sA _ _ (s9 _ _ er8))
    refine ⟨fw, o3, _, [], rfl, rfl, SqL.of (sB _ _ efw), SqL.of eo3, _, rfl, iteN ?_ ?_⟩
    · intro z
      have := List.map_eq_nil_iff.mp (of_decide_eq_true z)
      rw [hrw] at this
      exact ways_gone lk.1 this
    refine ⟨_, rfl, (by show 0 ≤ sizeLine; decide), fun o4 ho4 => ?_⟩
    have eo4 := upd_same (H := HB) (a := o4) (o := .lst [])
    have sC := same_new ho4 (.lst [])
    generalize upd HB o4 (.lst []) = HC at eo4 sC ⊢
    have s1C := s1B.trans sC
    have erC := sC _ _ erB
    refine ⟨r, o4, _, [], rfl, rfl, SqL.of erC, SqL.of eo4, _, rfl, ?_⟩
    refine ite2 (fun c1 => q _ s1C) (fun c1 => ?_)
    have rne : row ≠ [] := fun z => c1 (decide_eq_true z)
    have rpos : 0 < row.length := List.length_pos_iff.mpr rne
    have kpos : 0 < ks.length := by
      have := hrow_len h ks (c / h.c) (racksM h es) k
      rw [← hrw] at this
      omega
    have elC := s1C _ _ el
    have hCC := CallsAt.same (fun b xs z => s1C _ _ z) hC
    refine ⟨_, rfl, _, _, rfl, rfl, .inr ⟨by decide, by decide⟩, _, _, rfl, rfl, (by show (0 : Int) < 999907; decide), _, rfl, l, _, rfl, .inl (SqL.of elC), _, _, rfl, rfl, (by rw [List.length_map]; show (0 : Int) < ((as.length : Nat) : Int); omega), ?_⟩
    obtain ⟨as1, ks1, f1, d1, i1, m1⟩ := cut_calls hCC (some (n * 16807 % 999907 % (((as.map V.ref).length : Nat) : Int))) none
    obtain ⟨as2, ks2, f2, d2, i2, m2⟩ := cut_calls hCC none (some (n * 16807 % 999907 % (((as.map V.ref).length : Nat) : Int)))
    have y1 := Paired.length d1
    have y2 := Paired.length d2
    refine ⟨_, rfl, _, rfl, _, rfl, l, _, rfl, SqL.of elC, fun p1 hp1 => ?_⟩
    rw [f1]
    have ep1 := upd_same (H := HC) (a := p1) (o := .lst (as1.map V.ref))
    have sD := same_new hp1 (.lst (as1.map V.ref))
    generalize upd HC p1 (.lst (as1.map V.ref)) = HD at ep1 sD ⊢
    refine ⟨_, rfl, _, rfl, _, rfl, l, _, rfl, SqL.of (sD _ _ elC), fun p2 hp2 => ?_⟩
    rw [f2]
    have ep2 := upd_same (H := HD) (a := p2) (o := .lst (as2.map V.ref))
    have sE := same_new hp2 (.lst (as2.map V.ref))
    generalize upd HD p2 (.lst (as2.map V.ref)) = HE at ep2 sE ⊢
    refine ⟨p1, p2, _, _, rfl, rfl, sE _ _ ep1, ep2, Nat.le_of_lt (small1000 (by rw [List.length_map, List.length_map]; omega)), fun p3 hp3 => ?_⟩
    rw [← List.map_append]
    have ep3 := upd_same (H := HE) (a := p3) (o := .lst ((as1 ++ as2).map V.ref))
    have sF := (sD.trans sE).trans (same_new hp3 (.lst ((as1 ++ as2).map V.ref)))
    generalize upd HE p3 (.lst ((as1 ++ as2).map V.ref)) = HF at ep3 sF ⊢
    refine ⟨_, rfl, r, _, rfl, .inl (SqL.of (sF _ _ erC)), _, _, rfl, rfl, ((row.length - 1 : Nat) : Int), ?_, p3, _, rfl, SqL.of ep3, fun p4 hp4 => ?_⟩
    · show V.int ((((row.map V.int).length : Nat) : Int) - 1) = V.int ((row.length - 1 : Nat) : Int)
      rw [List.length_map]
      congr 1
      omega
    rw [cut_to, ← List.map_take]
    have dF := CallsAt.same (fun b xs z => sF _ _ z) (paired_take (row.length - 1) (paired_append d2 d1))
    have kl : ((ks1 ++ ks2).take (row.length - 1)).length ≤ row.length - 1 := by rw [List.length_take]; omega
    generalize (as1 ++ as2).take (row.length - 1) = fas at dF ⊢
    generalize (ks1 ++ ks2).take (row.length - 1) = fks at dF kl
    have yf := Paired.length dF
    have ep4 := upd_same (H := HF) (a := p4) (o := .lst (fas.map V.ref))
    have sG := sF.trans (same_new hp4 (.lst (fas.map V.ref)))
    have dG := CallsAt.same (fun b xs z => same_new hp4 (.lst (fas.map V.ref)) _ _ z) dF
    generalize upd HF p4 (.lst (fas.map V.ref)) = HG at ep4 sG dG ⊢
    refine ⟨_, rfl, _, rfl, p4, rfl, ⟨_, SqL.of ep4⟩, ?_⟩
    refine comp_list (xs := fas.map V.ref) (fun j acc σ G => G = HG ∧ acc = ((fks.take j).map Call.c).map V.int ∧ ∃ v, σ = [v])
      ⟨rfl, rfl, none, rfl⟩ (Nat.le_of_lt (small1000 (by rw [List.length_map]; omega))) (fun j acc σ G g => ?_) (fun j acc σ G _ g => by rw [g.1]; exact SqL.of ep4) ?_ ?_
    · obtain ⟨_, rfl, _⟩ := g
      rw [List.length_map, List.length_map, List.length_take]
      omega
    · rintro j y acc σ G hy ⟨rfl, rfl, v, rfl⟩
      rw [List.getElem?_map] at hy
      obtain ⟨pc, hpc, rfl⟩ := Option.map_eq_some_iff.mp hy
      obtain ⟨kc, hk1, ce, _, hk2⟩ := paired_at dG j pc hpc
      refine ⟨_, rfl, pc, _, _, _, rfl, rfl, SqT.of hk2, rfl, rfl, ?_, _, rfl⟩
      rw [List.take_succ, hk1, List.map_append, List.map_append]
      rfl
    rintro acc σ G ⟨rfl, rfl, v, rfl⟩ lx hlx
    rw [show fks.take (fas.map V.ref).length = fks by rw [List.length_map, yf, List.take_length]]
    have elx := upd_same (H := G) (a := lx) (o := .lst ((fks.map Call.c).map V.int))
    have sH := sG.trans (same_new hlx (.lst ((fks.map Call.c).map V.int)))
    generalize upd G lx (.lst ((fks.map Call.c).map V.int)) = HH at elx sH ⊢
    have s1H := s1C.trans sH
    refine ⟨l, lx, as, ks, fks.map Call.c, rfl, s1H _ _ el, CallsAt.same (fun b xs z => s1H _ _ z) hC, h63, elx, fun l4 as4 HI sI eI cI => ?_⟩
    have s1I := s1H.trans sI
    have w0 : waysM h (goneF ks (fks.map Call.c)) c es sh = [] := ways_few hlt fun k' hk' => by
      have := lmin k' hk'
      rw [List.length_map]
      omega
    refine ⟨_, rfl, _, rfl, _, rfl, _, rfl, _, rfl, a, l4, e, h, as4, goneF ks (fks.map Call.c), c, es, sh, rfl, ⟨Same.seqT s1I hH, ok, SqL.of eI, cI, goneF_in hin, Nat.le_trans (goneF_len _ _) h63, .inr (SqL.of (s1I _ _ ee)), by omega⟩, fun fw2 HJ sJ _ efw2 => ?_⟩
    rw [w0] at efw2
    refine ⟨(by show 0 ≤ sizeLine; decide), fun o5 ho5 => ?_⟩
    have eo5 := upd_same (H := HJ) (a := o5) (o := .lst [])
    have sK := sJ.trans (same_new ho5 (.lst []))
    have efw3 := same_new ho5 (.lst []) _ _ efw2
    generalize upd HJ o5 (.lst []) = HK at eo5 sK efw3 ⊢
    refine ⟨fw2, o5, [], [], rfl, rfl, SqL.of efw3, SqL.of eo5, _, rfl, iteN (by simp) ?_⟩
    have s1K := s1I.trans sK
    have erK := sK _ _ (sI _ _ (sH _ _ erC))
    have hm := mod_in (x := n) (show (0 : Int) < ((row.length : Nat) : Int) by omega)
    obtain ⟨m, hme⟩ := Int.eq_ofNat_of_zero_le hm.1
    rw [hme] at hm
    have hml : m < row.length := by omega
    have exm : row[m]? = some (row[m]'hml) := List.getElem?_eq_getElem hml
    generalize row[m]'hml = x at exm
    refine ⟨_, rfl, r, rfl, ⟨_, SqL.of erK⟩, ?_⟩
    refine comp_list (xs := row.map V.int) (fun j acc σ G => G = HK ∧ acc = ((row.take j).filter fun y => !decide (y = x)).map V.int ∧ ∃ v, σ = [v, some (.ref r), some (.int n)])
      ⟨rfl, rfl, none, rfl⟩ (Nat.le_of_lt (small1000 (by rw [List.length_map]; omega))) (fun j acc σ G g => ?_) (fun j acc σ G _ g => by rw [g.1]; exact SqL.of erK) ?_ ?_
    · obtain ⟨_, rfl, _⟩ := g
      rw [List.length_map]
      exact Nat.le_trans (List.length_filter_le _ _) (by rw [List.length_take]; omega)
    · rintro j y acc σ G hy ⟨rfl, rfl, v, rfl⟩
      rw [List.getElem?_map] at hy
      obtain ⟨z, hz, rfl⟩ := Option.map_eq_some_iff.mp hy
      have st : (row.take (j + 1)).filter (fun y => !decide (y = x)) = (row.take j).filter (fun y => !decide (y = x)) ++ (if (!decide (z = x)) = true then [z] else []) := by
        rw [List.take_succ, hz, List.filter_append]
        congr 1
        show List.filter _ [z] = _
        rw [List.filter_cons]
        split <;> rfl
      refine ⟨_, rfl, _, rfl, _, rfl, _, rfl, r, _, rfl, .inl (SqL.of erK), _, _, rfl, rfl, (by rw [List.length_map]; show (0 : Int) < ((row.length : Nat) : Int); omega), r, _, (m : Int), .int x, rfl, (by rw [List.length_map]; exact congrArg V.int hme), SqL.of erK, atI_nat (by rw [List.getElem?_map, exm]; rfl), rfl, _, rfl, ?_⟩
      have dz : decide (V.int z = V.int x) = decide (z = x) := by rw [Bool.eq_iff_iff]; simp
      refine ite2 (fun c2 => ?_) (fun c2 => ?_)
      · rw [dz] at c2
        refine ⟨_, rfl, rfl, ?_, _, rfl⟩
        rw [st, if_pos c2, List.map_append]
        rfl
      · rw [dz] at c2
        refine ⟨rfl, ?_, _, rfl⟩
        rw [st, if_neg c2, List.append_nil]
    rintro acc σ G ⟨rfl, rfl, v, rfl⟩ ly hly
    rw [show row.take (row.map V.int).length = row by rw [List.length_map, List.take_length]]
    have lone := less_one rnd (List.mem_of_getElem? exm)
    generalize row.filter (fun y => !decide (y = x)) = few2 at lone ⊢
    have ely := upd_same (H := G) (a := ly) (o := .lst (few2.map V.int))
    have sL := same_new hly (.lst (few2.map V.int))
    generalize upd G ly (.lst (few2.map V.int)) = HL at ely sL ⊢
    have s1L := s1K.trans sL
    refine ⟨_, rfl, _, rfl, l, ly, as, ks, few2, rfl, s1L _ _ el, CallsAt.same (fun b xs z => s1L _ _ z) hC, h63, ely, fun l5 as5 HM sM eM cM => ?_⟩
    have s1M := s1L.trans sM
    have w1 : waysM h (goneF ks few2) c es sh = [] := ways_few hlt fun k' hk' => by
      have := lmin k' hk'
      omega
    refine ⟨_, rfl, _, rfl, _, rfl, _, rfl, _, rfl, a, l5, e, h, as5, goneF ks few2, c, es, sh, rfl, ⟨Same.seqT s1M hH, ok, SqL.of eM, cM, goneF_in hin, Nat.le_trans (goneF_len _ _) h63, .inr (SqL.of (s1M _ _ ee)), by omega⟩, fun fw4 HN sN _ efw4 => ?_⟩
    rw [w1] at efw4
    refine ⟨(by show 0 ≤ sizeLine; decide), fun o6 ho6 => ?_⟩
    refine ⟨fw4, o6, [], [], rfl, rfl, SqL.of (same_new ho6 _ _ _ efw4), SqL.of upd_same, ?_⟩
    rw [decide_eq_true rfl]
    exact q _ ((s1M.trans sN).trans (same_new ho6 _))
end

theorem lines_needs {h : Hall} {k : Call} {d : List Key} (hd : d ∈ linesM h k.c k.es k.k) : d ∈ needsM h k := List.mem_append_left _ (List.mem_append_left _ hd)
theorem HeldD.nil (h : Hall) : HeldD h [] [] := ⟨fun _ z => (nomatch z), fun d v z => by cases z⟩
theorem HeldD.snoc {h : Hall} {ks : List Call} {k : Call} {kvs kvs' : List (List Key × V)} (e : HeldD h ks kvs) (fr : ∀ k' ∈ ks, Free h k' k) (h' : ∀ d, valV kvs' d = if inD (linesM h k.c k.es k.k) d = true then some (.int k.c) else valV kvs d) : HeldD h (ks ++ [k]) kvs' := by
  refine ⟨fun k' hk' d hd => ?_, fun d v z => ?_⟩
  · rw [h']
    rcases List.mem_append.mp hk' with g | g
    · rw [if_neg fun z => fr k' g d (lines_needs hd) (lines_needs (inD_iff.mp z))]
      exact e.has k' g d hd
    · rw [List.mem_singleton] at g
      rw [g] at hd ⊢
      rw [if_pos (inD_iff.mpr hd)]
  · rw [h'] at z
    by_cases c : inD (linesM h k.c k.es k.k) d = true
    · rw [if_pos c] at z
      injection z with z
      exact ⟨k, List.mem_append_right _ (List.mem_singleton.mpr rfl), inD_iff.mp c, z.symm⟩
    · rw [if_neg c] at z
      obtain ⟨k', h1, h2, h3⟩ := e.only d v z
      exact ⟨k', List.mem_append_left _ h1, h2, h3⟩
theorem way_there {h : Hall} (ok : h.Ok) {ks : List Call} {kvs : List (List Key × V)} (e : HeldD h ks kvs) (fr : ks.Pairwise (Free h)) (hin : ∀ k ∈ ks, k.In h) {c : Int} (hc : 0 ≤ c) {es : List Int} (hes : ∀ x ∈ es, 0 ≤ x ∧ x < h.o * h.e) {sh : Int}
    (hw : waysM h ks c es sh = []) : (((openM h sh).length : Nat) : Int) ≤ ((cntRow (pIn h) ks (openM h sh) (c / h.c).toNat : Nat) : Int) + (farM h ks es sh).sum := by
  have o5 := ok.e
  have tk := e.taken
  have hu := union_len (P := fun r k => (valV kvs (fOut r.toNat k)).isSome) (P0 := fun k => (valV kvs (fIn h c k)).isSome) (rs := racksM h es) (L := openM h sh) fun k hk => by
    have ne : ¬ hrow h ks (c / h.c) (racksM h es) k = [] := fun z => by
      have := mem_ways.mpr ⟨hk, z⟩
      rw [hw] at this
      cases this
    rw [← there_nil e] at ne
    obtain ⟨x, hx⟩ := List.exists_mem_of_ne_nil _ ne
    obtain ⟨d, hd, hv⟩ := List.mem_filterMap.mp hx
    have iss : (valV kvs d).isSome = true := by
      cases q : valV kvs d with
      | none => rw [q] at hv; cases hv
      | some v => rfl
    rcases mem_lines.mp hd with rfl | ⟨x', hx', rfl⟩
    · exact .inl iss
    · have x0 : 0 ≤ x' / h.e := Int.ediv_nonneg (hes x' hx').1 (by omega)
      refine .inr ⟨x' / h.e, mem_racks'.mpr ⟨x', hx', rfl⟩, ?_⟩
      show (valV kvs (fOut (x' / h.e).toNat k)).isSome = true
      unfold fOut
      rw [Int.toNat_of_nonneg x0]
      exact iss
  have e1 := in_eq ok tk fr hin hc (open_nodup h sh)
  have e2 : (farM h ks es sh).sum = (((racksM h es).map fun r => ((openM h sh).filter fun k => (valV kvs (fOut r.toNat k)).isSome).length).sum : Nat) := by
    unfold farM
    have go : ∀ rs : List Int, ((rs.map fun r => ((cntRow (pOut h) ks (openM h sh) r.toNat : Nat) : Int)).sum) = ((rs.map fun r => ((openM h sh).filter fun k => (valV kvs (fOut r.toNat k)).isSome).length).sum : Nat) := fun rs => by
      induction rs with
      | nil => rfl
      | cons r t ih =>
        rw [List.map_cons, List.sum_cons, List.map_cons, List.sum_cons, ih, out_eq ok tk fr hin (open_nodup h sh)]
        unfold heldN
        omega
    exact go _
  rw [e1, e2]
  unfold heldN
  omega
def spAsked16 (K : PySem.W.Frag) : Sp := fun vs H Q _ => ∃ (a lc : Addr) (h : Hall) (as : List Addr) (ks : List Call) (n : Int), vs = [.ref a, .ref lc, .int n] ∧ SqT K H a (h.row.map V.int) ∧ h.Ok ∧ H lc = some (.lst (as.map V.ref)) ∧ CallsAt H as ks ∧ (∀ k ∈ ks, k.In h) ∧ ks.length ≤ 63 ∧ ks.Pairwise (fun k k' => k.c < k'.c) ∧ ks.Pairwise (Free h) ∧
  ∀ H', Same H H' → Q (.bl true) H'
section
variable {P : Program} {w : World} {K : PySem.W.Frag} {mg : Str → Option Value} {base : Heap}
theorem sc__law_asked : FnScope ["_law_hall_here", "_law_calls", "_law_number_here", "_law_held", "_law_call", "_law_line", "_law_caller", "_law_ends_here", "_law_shut", "_law_asked_here", "_law_handed", "_law_free", "_law_kept", "_law_due", "_law_found"] ["_law_hall_here", "_law_calls", "_law_number_here"] (defScope (top 29)) := ⟨rfl, rfl, rfl, by decide +kernel, rfl, by decide +kernel, by decide +kernel⟩
set_option maxHeartbeats 4000000 in
theorem ok_asked16 (T : Txt K mg) (C__law_lines : Callee P w K mg base 1 "_law_lines" ["_law_hall_here", "_law_caller", "_law_ends_here", "_law_k"] (spLines K)) (C__law_ends : Callee P w K mg base 1 "_law_ends" ["_law_hall_here", "_law_number_here"] (spEnds K)) (C_ways : CalleeD P w K mg base 5 "ways" ["hall", "calls", "caller", "ends", "shut"] [.int 0] (spWays K)) (C_holders : Callee P w K mg base 4 "holders" ["hall", "calls", "caller", "ends"] (spHolders K)) (C__law_ways_held : Callee P w K mg base 3 "_law_ways_held" ["_law_hall_here", "_law_held", "_law_asked_here", "_law_free", "_law_kept"] (spWH K)) (C__law_counted : Callee P w K mg base 1 "_law_counted" ["_law_hall_here", "_law_held", "_law_asked_here"] (spCounted K)) (C_count_of : CalleeD P w K mg base 4 "count_of" ["hall", "calls", "caller", "ends", "shut"] [.int 0] (spCount K)) (C__law_alike : Callee P w K mg base 3 "_law_alike" ["_law_found", "_law_due"] (spAlike 2)) (C__law_least : Callee P w K mg base 6 "_law_least" ["_law_hall_here", "_law_calls", "_law_asked_here", "_law_free", "_law_kept", "_law_number_here"] (spLst16 K)) (D : Def K mg "_law_asked" (top 29) ["_law_hall_here", "_law_calls", "_law_number_here"]) : Callee P w K mg base 7 "_law_asked" ["_law_hall_here", "_law_calls", "_law_number_here"] (spAsked16 K) := by
  refine D.ok sc__law_asked (fun vs H Q E h => ?_) (fun ff cdv A outer s H vs Q E hr h => ?_)
  · obtain ⟨a, lc, h, as, ks, n, rfl, _⟩ := h
    rfl
  obtain ⟨a, lc, h, as, ks, n, rfl, hH, ok, elc, hC, hin, h63, hlt, hfr, q⟩ := h
  have o1 := ok.i
  have o2 := ok.c
  have o3 := ok.m
  have o6 := ok.ic
  have la := Paired.length hC
  refine ⟨_, (pss_cons (ps_set (i := 3) sc__law_asked.nd rfl (Or.inl rfl) pe_dnewT)
    (pss_cons (ps_for PassesOwn.never rfl (pi_listK K (pv 1)) (pg_name (i := 4) sc__law_asked.nd rfl (Or.inl rfl))
    (pss_one (ps_for PassesOwn.never rfl (pi_listK K (pe_fn C__law_lines hr rfl (pa_cons (pv 0) (pa_cons (pe_ix (ix_tupK K) (pv 4) pe_int (fun _ _ => rfl)) (pa_cons (pe_ix (ix_tupK K) (pv 4) pe_int (fun _ _ => rfl)) (pa_cons (pe_ix (ix_tupK K) (pv 4) pe_int (fun _ _ => rfl)) pa_nil st_sub) st_sub) st_sub) st_name))) (pg_name (i := 5) sc__law_asked.nd rfl (Or.inl rfl))
    (pss_one (ps_dput (hu_of hr) (pv 3) (pv 5) (pe_ix (ix_tupK K) (pv 4) pe_int (fun _ _ => rfl)) rfl)))))
    (pss_cons (ps_set (i := 6) sc__law_asked.nd rfl (Or.inl rfl) (pe_op op_mod (pe_op op_mod (pe_op op_mul (pv 2) pe_int) pe_int) (pe_op op_mul (pe_ix (ix_tupK K) (pv 0) pe_int (fun _ _ => rfl)) (pe_ix (ix_tupK K) (pv 0) pe_int (fun _ _ => rfl)))))
    (pss_cons (ps_set (i := 7) sc__law_asked.nd rfl (Or.inl rfl) (pe_fn C__law_ends hr rfl (pa_cons (pv 0) (pa_cons (pe_op op_add (pe_op op_mul (pv 2) pe_int) pe_int) pa_nil st_bin) st_name)))
    (pss_cons (ps_set (i := 8) sc__law_asked.nd rfl (Or.inl rfl) pe_int)
    (pss_cons (ps_if (pt_cmpR op_eq (pe_op op_mod (pe_op op_mod (pe_op op_mul (pv 2) pe_int) pe_int) pe_int) pe_int (nomark _)) (pss_one (ps_set (i := 8) sc__law_asked.nd rfl (Or.inl rfl) (pe_op op_mod (pe_op op_mod (pe_op op_mul (pv 2) pe_int) pe_int) (pe_op op_shl pe_int (pe_ix (ix_tupK K) (pv 0) pe_int (fun _ _ => rfl)))))) pss_nil)
    (pss_cons (ps_set (i := 9) sc__law_asked.nd rfl (Or.inl rfl) (pe_tup (pa_cons (pv 6) (pa_cons (pv 7) (pa_cons (pv 8) pa_nil st_name) st_name) st_name)))
    (pss_cons (ps_set (i := 10) sc__law_asked.nd rfl (Or.inl rfl) (pe_callTy (call_listK K) rfl T.m_list boot_list (pa_cons (pv 1) pa_nil st_name)))
    (pss_cons (ps_set (i := 11) sc__law_asked.nd rfl (Or.inl rfl) (pe_fn C_ways.all hr rfl (pa_cons (pv 0) (pa_cons (pv 10) (pa_cons (pv 6) (pa_cons (pe_callTy (call_listK K) rfl T.m_list boot_list (pa_cons (pv 7) pa_nil st_name)) (pa_cons (pv 8) pa_nil st_name) st_call) st_name) st_name) st_name)))
    (pss_cons (ps_set (i := 12) sc__law_asked.nd rfl (Or.inl rfl) (pe_fn C_holders hr rfl (pa_cons (pv 0) (pa_cons (pv 10) (pa_cons (pv 6) (pa_cons (pe_callTy (call_tupleK K) rfl T.m_tuple boot_tuple (pa_cons (pv 7) pa_nil st_name)) pa_nil st_call) st_name) st_name) st_name)))
    (pss_cons (ps_if (pt_not (pt_truK K (pe_fn C__law_ways_held hr rfl (pa_cons (pv 0) (pa_cons (pv 3) (pa_cons (pv 9) (pa_cons (pv 11) (pa_cons (pv 12) pa_nil st_name) st_name) st_name) st_name) st_name)) (fun _ => rfl))) (pss_one (ps_ret pe_bl)) pss_nil)
    (pss_cons (ps_set (i := 13) sc__law_asked.nd rfl (Or.inl rfl) (pe_fn C__law_counted hr rfl (pa_cons (pv 0) (pa_cons (pv 3) (pa_cons (pv 9) pa_nil st_name) st_name) st_name)))
    (pss_cons (ps_set (i := 14) sc__law_asked.nd rfl (Or.inl rfl) (pe_fn C_count_of.all hr rfl (pa_cons (pv 0) (pa_cons (pv 10) (pa_cons (pv 6) (pa_cons (pv 7) (pa_cons (pv 8) pa_nil st_name) st_name) st_name) st_name) st_name)))
    (pss_cons (ps_if (PW.pt (pw_or (pt_not (pt_truK K (pe_fn C__law_alike hr rfl (pa_cons (pv 14) (pa_cons (pv 13) pa_nil st_name) st_name)) (fun _ => rfl))) (pw_or1 (pt_cmpR (op_neSameK K (Room.units0 hr)) (pv 10) (pv 1) (nomark _))))) (pss_one (ps_ret pe_bl)) pss_nil)
    (pss_cons (ps_if (PW.pt (pw_and (pt_cmpR op_lt (pe_op op_add (pe_ix (ix_tupK K) (pv 13) pe_int (fun _ _ => rfl)) (pe_callB (call_sumK K rfl) rfl T.m_sum boot_sum (pa_cons (pe_ix (ix_tupK K) (pv 13) pe_int (fun _ _ => rfl)) pa_nil st_sub))) (pe_ix (ix_tupK K) (pv 13) pe_int (fun _ _ => rfl)) (nomark _)) (pw_and1 (pt_cmpR (op_eqIK K (Room.units0 hr)) (pv 11) (pe_lst pa_nil) (nomark _))))) (pss_one (ps_ret pe_bl)) pss_nil)
    (pss_one (ps_ret (pe_fn C__law_least hr rfl (pa_cons (pv 0) (pa_cons (pv 1) (pa_cons (pv 9) (pa_cons (pv 11) (pa_cons (pv 12) (pa_cons (pv 2) pa_nil st_name) st_name) st_name) st_name) st_name) st_name))))))))))))))))))), ?_⟩
  refine fun t ht => ?_
  have et := upd_same (H := H) (a := t) (o := .dT [])
  have s1 := same_new ht (.dT [])
  generalize upd H t (.dT []) = H1 at et s1 ⊢
  refine ⟨_, rfl, lc, rfl, ⟨_, SqL.of (s1 _ _ elc)⟩, ?_⟩
  refine for_list (xs := as.map V.ref) (fun i σ H' => Same H H' ∧ (∃ kvs, H' t = some (.dT kvs) ∧ kvs.length ≤ 13 * i ∧ HeldD h (ks.take i) kvs) ∧ ∃ v4 v5 v6 v7 v8 v9 v10 v11 v12 v13 v14, σ = [some (.ref a), some (.ref lc), some (.int n), some (.ref t), v4, v5, v6, v7, v8, v9, v10, v11, v12, v13, v14])
    ⟨s1, ⟨[], et, Nat.le_refl _, HeldD.nil h⟩, _, _, _, _, _, _, _, _, _, _, _, rfl⟩ (fun i σ H' _ g => SqL.of (g.1 _ _ elc)) ?_ ?_
  · rintro i x σ H' hx ⟨s5, ⟨kvs, et5, hkl, hd⟩, v4, v5, v6, v7, v8, v9, v10, v11, v12, v13, v14, rfl⟩
    rw [List.getElem?_map] at hx
    obtain ⟨pc, hp, rfl⟩ := Option.map_eq_some_iff.mp hx
    obtain ⟨k, hk1, ce, e1, e2⟩ := paired_at hC i pc hp
    have hi63 : i < 63 := by
      have := (List.getElem?_eq_some_iff.mp hk1).1
      omega
    have hkI := hin k (List.mem_of_getElem? hk1)
    have kf := hkI.few
    have tkk : ks.take (i + 1) = ks.take i ++ [k] := by rw [List.take_succ, hk1]; rfl
    have frk : ∀ k' ∈ ks.take i, Free h k' k := fun k' hk' => by
      have := hfr.sublist (List.take_sublist (i + 1) ks)
      rw [tkk, List.pairwise_append] at this
      exact this.2.2 k' hk' k (List.mem_singleton.mpr rfl)
    have e25 := s5 _ _ e2
    refine ⟨_, rfl, _, rfl, pc, _, _, _, rfl, rfl, SqT.of e25, rfl, _, rfl, pc, _, _, _, rfl, rfl, SqT.of e25, rfl, _, rfl, pc, _, _, _, rfl, rfl, SqT.of e25, rfl, a, ce, h, k.c, k.k, k.es, rfl, Same.seqT s5 hH, ok, .inl (SqT.of (s5 _ _ e1)), kf, fun nl nas H6 s6 hnl enl tnl => ?_⟩
    have et6 := s6 _ _ et5
    have e26 := s6 _ _ e25
    have hnt : nl ≠ t := fun z => by rw [z, et5] at hnl; cases hnl
    have hpt : pc ≠ t := fun z => by rw [z, et5] at e25; cases e25
    have lnl := Paired.length tnl
    have ll := lines_len h k.c k.es k.k
    refine ⟨nl, rfl, ⟨_, SqL.of enl⟩, ?_⟩
    refine for_list (xs := nas.map V.ref) (fun j σ H' => SameX t H6 H' ∧ (∃ kvs', H' t = some (.dT kvs') ∧ kvs'.length ≤ kvs.length + j ∧ (∀ d, valV kvs' d = if inD ((linesM h k.c k.es k.k).take j) d = true then some (.int k.c) else valV kvs d)) ∧ ∃ v5 v6 v7 v8 v9 v10 v11 v12 v13 v14, σ = [some (.ref a), some (.ref lc), some (.int n), some (.ref t), some (.ref pc), v5, v6, v7, v8, v9, v10, v11, v12, v13, v14])
      ⟨fun _ _ _ z => z, ⟨kvs, et6, Nat.le_refl _, fun d => by rw [List.take_zero]; rfl⟩, _, _, _, _, _, _, _, _, _, _, rfl⟩ (fun j σ H' _ g => SqL.of (g.1 _ _ hnt enl)) ?_ ?_
    · rintro j y σ H7 hy ⟨t1', ⟨kvs', t2', t7, t9⟩, v5, v6, v7, v8, v9, v10, v11, v12, v13, v14, rfl⟩
      rw [List.getElem?_map] at hy
      obtain ⟨x, hx, rfl⟩ := Option.map_eq_some_iff.mp hy
      obtain ⟨d, hd1, hd2⟩ := paired_at tnl j x hx
      replace hd2 : H6 x = some (.tup (d.map kV)) := hd2
      have hj : j < 13 := by
        have := (List.getElem?_eq_some_iff.mp hd1).1
        omega
      have hxt : x ≠ t := fun z => by rw [z, et6] at hd2; cases hd2
      refine ⟨_, rfl, pc, _, _, _, rfl, rfl, SqT.of (t1' _ _ hpt e26), rfl, _, rfl, _, rfl, t, _, rfl, DPut.t t2' (t1' _ _ hxt hd2) (by show kvs'.length < 16777216; omega), ?_⟩
      refine ⟨fun b u hb z => by rw [upd_ne hb]; exact t1' b u hb z, ⟨_, upd_same, ?_, fun d' => ?_⟩, _, _, _, _, _, _, _, _, _, _, rfl⟩
      · have := length_putK kvs' d (.int k.c)
        omega
      · rw [valV_put, List.take_succ, hd1]
        by_cases c : d' = d
        · rw [if_pos c, if_pos (inD_iff.mpr (List.mem_append_right _ (by simp [c])))]
        · rw [if_neg c, t9]
          have : inD ((linesM h k.c k.es k.k).take j ++ (some d).toList) d' = inD ((linesM h k.c k.es k.k).take j) d' := by
            rw [Bool.eq_iff_iff, inD_iff, inD_iff]
            simp [c]
          rw [this]
    · rintro σ H7 ⟨t1', ⟨kvs', t2', t7, t9⟩, v5, v6, v7, v8, v9, v10, v11, v12, v13, v14, rfl⟩
      rw [List.length_map, lnl] at t7 t9
      rw [List.take_length] at t9
      exact ⟨fun b u z => t1' b u (ne_of_none z ht) (s6 _ _ (s5 _ _ z)), ⟨kvs', t2', by omega, by rw [tkk]; exact hd.snoc frk t9⟩, _, _, _, _, _, _, _, _, _, _, _, rfl⟩
  rintro σ H2 ⟨s2, ⟨kvs, et2, _, hd⟩, v4, v5, v6, v7, v8, v9, v10, v11, v12, v13, v14, rfl⟩
  rw [List.length_map, la, List.take_length] at hd
  have hH2 := Same.seqT s2 hH
  refine ⟨_, rfl, _, _, rfl, rfl, .inr ⟨by decide, by decide⟩, _, _, rfl, rfl, (by show (0 : Int) < 999953; decide), _, rfl, a, _, _, _, rfl, rfl, hH2, rfl, _, rfl, a, _, _, _, rfl, rfl, hH2, rfl, _, _, rfl, rfl, .inl ⟨by omega, by omega⟩, _, _, rfl, rfl, (by show 0 < h.i * h.c; omega), ?_⟩
  have hc := mod_in (x := n * 39373 % 999953) (show 0 < h.i * h.c by omega)
  refine ⟨_, rfl, _, rfl, _, _, rfl, rfl, .inr ⟨by decide, by decide⟩, _, _, rfl, rfl, a, h, _, rfl, hH2, ok, fun le es H6 s6 _ ele eo => ?_⟩
  have few := eo.few
  have s26 := s2.trans s6
  have hH6 := Same.seqT s26 hH
  refine ⟨_, rfl, _, _, rfl, rfl, .inr ⟨by decide, by decide⟩, _, _, rfl, rfl, (by show (0 : Int) < 999931; decide), _, _, rfl, rfl, (by show (0 : Int) < 2; decide), rfl, _, rfl, ?_⟩
  have p2 : (0 : Int) < 1 * 2 ^ h.m.toNat := by rw [Int.one_mul]; exact Int.pow_pos (by decide)
  refine ite2 (fun _ => ⟨_, rfl, _, _, rfl, rfl, .inr ⟨by decide, by decide⟩, _, _, rfl, rfl, (by show (0 : Int) < 16777213; decide), _, rfl, a, _, _, _, rfl, rfl, hH6, rfl, _, _, rfl, rfl, ⟨by show 0 ≤ h.m; omega, by show h.m ≤ 1000000; omega, by decide⟩, _, _, rfl, rfl, p2, ?_⟩) (fun _ => ?_)
  · have hsh : 0 ≤ n * 742938285 % 16777213 % (1 * 2 ^ h.m.toNat) ∧ n * 742938285 % 16777213 % (1 * 2 ^ h.m.toNat) < 2 ^ h.m.toNat := by
      have := mod_in (x := n * 742938285 % 16777213) p2
      rw [Int.one_mul] at this ⊢
      exact this
    refine ⟨_, rfl, _, rfl, _, rfl, (by show 3 ≤ sizeLine; decide), fun b hb => ?_⟩
    have eb := upd_same (H := H6) (a := b) (o := .tup [.int (n * 39373 % 999953 % (h.i * h.c)), .ref le, .int ((n * 742938285 % 16777213 % (1 * 2 ^ h.m.toNat)))])
    have s7 := same_new hb (.tup [.int (n * 39373 % 999953 % (h.i * h.c)), .ref le, .int ((n * 742938285 % 16777213 % (1 * 2 ^ h.m.toNat)))])
    generalize upd H6 b (.tup [.int (n * 39373 % 999953 % (h.i * h.c)), .ref le, .int ((n * 742938285 % 16777213 % (1 * 2 ^ h.m.toNat)))]) = H7 at eb s7 ⊢
    have s27 := s26.trans s7
    refine ⟨_, rfl, lc, _, rfl, .inl (SqL.of (s27 _ _ elc)), fun hl hhl => ?_⟩
    have ehl := upd_same (H := H7) (a := hl) (o := .lst (as.map V.ref))
    have s8 := same_new hhl (.lst (as.map V.ref))
    generalize upd H7 hl (.lst (as.map V.ref)) = H8 at ehl s8 ⊢
    have s28 := s27.trans s8
    have ele8 := s8 _ _ (s7 _ _ ele)
    refine ⟨_, rfl, _, rfl, _, rfl, _, rfl, le, _, rfl, .inl (SqL.of ele8), fun u hu => ?_⟩
    have eu := upd_same (H := H8) (a := u) (o := .lst (es.map V.int))
    have s9 := same_new hu (.lst (es.map V.int))
    generalize upd H8 u (.lst (es.map V.int)) = H9 at eu s9 ⊢
    have s29 := s28.trans s9
    have ehl9 := s9 _ _ ehl
    have ele9 := s9 _ _ ele8
    have eb9 := s9 _ _ (s8 _ _ eb)
    have hC9 := CallsAt.same (fun b xs z => s29 _ _ z) hC
    refine ⟨_, rfl, a, hl, u, h, as, ks, (n * 39373 % 999953 % (h.i * h.c)), es, (n * 742938285 % 16777213 % (1 * 2 ^ h.m.toNat)), rfl, ⟨Same.seqT s29 hH, ok, SqL.of ehl9, hC9, hin, h63, .inr (SqL.of eu), by omega⟩, fun fw HA sA _ efw => ?_⟩
    have s2A := s29.trans sA
    refine ⟨_, rfl, _, rfl, _, rfl, _, rfl, le, _, rfl, .inl ⟨SqL.of (sA _ _ ele9), fun u2 hu2 => ?_⟩⟩
    have eu2 := upd_same (H := HA) (a := u2) (o := .tup (es.map V.int))
    have sB := same_new hu2 (.tup (es.map V.int))
    generalize upd HA u2 (.tup (es.map V.int)) = HB at eu2 sB ⊢
    have s2B := s2A.trans sB
    have sAB := sA.trans sB
    refine ⟨a, hl, u2, h, as, ks, (n * 39373 % 999953 % (h.i * h.c)), es, rfl, Same.seqT s2B hH, ok, SqL.of (sAB _ _ ehl9), CallsAt.same (fun b xs z => sAB _ _ z) hC9, hin, h63, .inl (SqT.of eu2), by omega, fun g rs HC sC _ _ _ _ eg rows => ?_⟩
    have s2C := s2B.trans sC
    have sAC := sAB.trans sC
    have s6C := ((s7.trans s8).trans s9).trans sAC
    have etC := s6C _ _ (s6 _ _ et2)
    have efC := sC _ _ (sB _ _ efw)
    refine ⟨_, rfl, _, rfl, _, rfl, _, rfl, _, rfl, a, t, b, le, fw, g, h, ks, kvs, (n * 39373 % 999953 % (h.i * h.c)), es, (n * 742938285 % 16777213 % (1 * 2 ^ h.m.toNat)), rs, rfl, Same.seqT s2C hH, ok, etC, hd, hlt, hin, h63, sAC _ _ eb9, sAC _ _ ele9, few, efC, eg, rows, fun HD sD => ⟨_, rfl, iteF ?_⟩⟩
    have s2D := s2C.trans sD
    have sAD := sAC.trans sD
    refine ⟨_, rfl, _, rfl, _, rfl, a, t, b, le, h, ks, kvs, (n * 39373 % 999953 % (h.i * h.c)), es, (n * 742938285 % 16777213 % (1 * 2 ^ h.m.toNat)), rfl, Same.seqT s2D hH, ok, sD _ _ etC, hd.taken, hfr, hin, sAD _ _ eb9, sAD _ _ ele9, few, hc.1, eo.es, fun p1 fl1 HE sE efl1 ep1 => ?_⟩
    have s2E := s2D.trans sE
    have sAE := sAD.trans sE
    refine ⟨_, rfl, _, rfl, _, rfl, _, rfl, _, rfl, a, hl, le, h, as, ks, (n * 39373 % 999953 % (h.i * h.c)), es, (n * 742938285 % 16777213 % (1 * 2 ^ h.m.toNat)), rfl, ⟨Same.seqT s2E hH, ok, SqL.of (sAE _ _ ehl9), CallsAt.same (fun b xs z => sAE _ _ z) hC9, hin, h63, .inr (SqL.of (sAE _ _ ele9)), by omega⟩, hfr, hc, eo.es, fun p2 fl2 HF sF efl2 ep2 => ?_⟩
    have s2F := s2E.trans sF
    have sAF := sAE.trans sF
    have rl := racks_len h es
    have flen : (farM h ks es ((n * 742938285 % 16777213 % (1 * 2 ^ h.m.toNat)))).length ≤ 12 := by
      unfold farM
      rw [List.length_map]
      omega
    have alk : AlikeAt HF 2 (.ref p2) (.ref p1) := .inr ⟨p2, p1, _, _, rfl, rfl, .inr ⟨ep2, sF _ _ ep1⟩, .cons (AlikeB.at (.inr ⟨_, rfl, rfl⟩)) (.cons (.inr ⟨fl2, fl1, _, _, rfl, rfl, .inl ⟨efl2, sF _ _ efl1⟩, alike_ints _, by rw [List.length_map]; omega⟩) (.cons (AlikeB.at (.inr ⟨_, rfl, rfl⟩)) .nil)), by show 3 ≤ 1000; decide⟩
    refine ⟨_, rfl, _, rfl, _, _, rfl, alk, _, rfl, iteF ?_⟩
    have elcF := s2F _ _ elc
    refine ⟨_, rfl, _, rfl, hl, lc, _, rfl, rfl, SqL.of (sAF _ _ ehl9), SqL.of elcF, fun x hx => ?_, _, rfl, iteF ?_⟩
    · obtain ⟨c, _, rfl⟩ := List.mem_map.mp hx
      exact ⟨c, rfl⟩
    have ep1F := sF _ _ ep1
    have efl1F := sF _ _ efl1
    have sCF := (sD.trans sE).trans sF
    have efF := sCF _ _ efC
    refine ⟨_, rfl, p1, _, _, _, rfl, rfl, SqT.of ep1F, rfl, _, rfl, p1, _, _, _, rfl, rfl, SqT.of ep1F, rfl, fl1, _, rfl, SqL.of efl1F, _, _, rfl, rfl, _, rfl, p1, _, _, _, rfl, rfl, SqT.of ep1F, rfl, ?_⟩
    refine ⟨_, _, rfl, rfl, _, rfl, ?_⟩
    refine ite2 (fun c1 => ?_) (fun c1 => ?_)
    · have c1' := of_decide_eq_true c1
      have wn : ¬ (waysM h ks (n * 39373 % 999953 % (h.i * h.c)) es (n * 742938285 % 16777213 % (1 * 2 ^ h.m.toNat))).map (fun (k : Nat) => (k : Int)) = [] := fun z => by
        have := way_there ok hd hfr hin hc.1 eo.es (List.map_eq_nil_iff.mp z)
        omega
      refine ⟨_, rfl, (by show 0 ≤ sizeLine; decide), fun o ho => ?_⟩
      have eo2 := upd_same (H := HF) (a := o) (o := .lst [])
      have sO := same_new ho (.lst [])
      generalize upd HF o (.lst []) = HO at eo2 sO ⊢
      have efO := sO _ _ efF
      rw [natV_int] at efO
      refine ⟨fw, o, _, [], rfl, rfl, SqL.of efO, SqL.of eo2, _, rfl, iteN (fun z => wn (of_decide_eq_true z)) ?_⟩
      exact ⟨_, rfl, _, rfl, _, rfl, _, rfl, _, rfl, _, rfl, a, lc, b, le, fw, g, h, as, ks, (n * 39373 % 999953 % (h.i * h.c)), es, (n * 742938285 % 16777213 % (1 * 2 ^ h.m.toNat)), rs, n, rfl, Same.seqT (s2F.trans sO) hH, ok, sO _ _ elcF, CallsAt.same (fun b xs z => (s2F.trans sO) _ _ z) hC, hlt, hin, h63, sO _ _ (sAF _ _ eb9), hsh.1, hsh.2, sO _ _ (sAF _ _ ele9), few, sO _ _ efF, sO _ _ (sCF _ _ eg), paired_mem rows fun a d _ e => sO _ _ (sCF _ _ e), fun HY sY => q _ ((s2F.trans sO).trans sY)⟩
    · exact ⟨_, rfl, _, rfl, _, rfl, _, rfl, _, rfl, _, rfl, a, lc, b, le, fw, g, h, as, ks, (n * 39373 % 999953 % (h.i * h.c)), es, (n * 742938285 % 16777213 % (1 * 2 ^ h.m.toNat)), rs, n, rfl, Same.seqT (s2F.trans (Same.refl HF)) hH, ok, (Same.refl HF) _ _ elcF, CallsAt.same (fun b xs z => (s2F.trans (Same.refl HF)) _ _ z) hC, hlt, hin, h63, (Same.refl HF) _ _ (sAF _ _ eb9), hsh.1, hsh.2, (Same.refl HF) _ _ (sAF _ _ ele9), few, (Same.refl HF) _ _ efF, (Same.refl HF) _ _ (sCF _ _ eg), paired_mem rows fun a d _ e => (Same.refl HF) _ _ (sCF _ _ e), fun HY sY => q _ ((s2F.trans (Same.refl HF)).trans sY)⟩
  · have hsh : (0 : Int) ≤ 0 ∧ (0 : Int) < 2 ^ h.m.toNat := ⟨Int.le_refl _, Int.pow_pos (by decide)⟩
    refine ⟨_, rfl, _, rfl, _, rfl, (by show 3 ≤ sizeLine; decide), fun b hb => ?_⟩
    have eb := upd_same (H := H6) (a := b) (o := .tup [.int (n * 39373 % 999953 % (h.i * h.c)), .ref le, .int (0)])
    have s7 := same_new hb (.tup [.int (n * 39373 % 999953 % (h.i * h.c)), .ref le, .int (0)])
    generalize upd H6 b (.tup [.int (n * 39373 % 999953 % (h.i * h.c)), .ref le, .int (0)]) = H7 at eb s7 ⊢
    have s27 := s26.trans s7
    refine ⟨_, rfl, lc, _, rfl, .inl (SqL.of (s27 _ _ elc)), fun hl hhl => ?_⟩
    have ehl := upd_same (H := H7) (a := hl) (o := .lst (as.map V.ref))
    have s8 := same_new hhl (.lst (as.map V.ref))
    generalize upd H7 hl (.lst (as.map V.ref)) = H8 at ehl s8 ⊢
    have s28 := s27.trans s8
    have ele8 := s8 _ _ (s7 _ _ ele)
    refine ⟨_, rfl, _, rfl, _, rfl, _, rfl, le, _, rfl, .inl (SqL.of ele8), fun u hu => ?_⟩
    have eu := upd_same (H := H8) (a := u) (o := .lst (es.map V.int))
    have s9 := same_new hu (.lst (es.map V.int))
    generalize upd H8 u (.lst (es.map V.int)) = H9 at eu s9 ⊢
    have s29 := s28.trans s9
    have ehl9 := s9 _ _ ehl
    have ele9 := s9 _ _ ele8
    have eb9 := s9 _ _ (s8 _ _ eb)
    have hC9 := CallsAt.same (fun b xs z => s29 _ _ z) hC
    refine ⟨_, rfl, a, hl, u, h, as, ks, (n * 39373 % 999953 % (h.i * h.c)), es, 0, rfl, ⟨Same.seqT s29 hH, ok, SqL.of ehl9, hC9, hin, h63, .inr (SqL.of eu), by omega⟩, fun fw HA sA _ efw => ?_⟩
    have s2A := s29.trans sA
    refine ⟨_, rfl, _, rfl, _, rfl, _, rfl, le, _, rfl, .inl ⟨SqL.of (sA _ _ ele9), fun u2 hu2 => ?_⟩⟩
    have eu2 := upd_same (H := HA) (a := u2) (o := .tup (es.map V.int))
    have sB := same_new hu2 (.tup (es.map V.int))
    generalize upd HA u2 (.tup (es.map V.int)) = HB at eu2 sB ⊢
    have s2B := s2A.trans sB
    have sAB := sA.trans sB
    refine ⟨a, hl, u2, h, as, ks, (n * 39373 % 999953 % (h.i * h.c)), es, rfl, Same.seqT s2B hH, ok, SqL.of (sAB _ _ ehl9), CallsAt.same (fun b xs z => sAB _ _ z) hC9, hin, h63, .inl (SqT.of eu2), by omega, fun g rs HC sC _ _ _ _ eg rows => ?_⟩
    have s2C := s2B.trans sC
    have sAC := sAB.trans sC
    have s6C := ((s7.trans s8).trans s9).trans sAC
    have etC := s6C _ _ (s6 _ _ et2)
    have efC := sC _ _ (sB _ _ efw)
    refine ⟨_, rfl, _, rfl, _, rfl, _, rfl, _, rfl, a, t, b, le, fw, g, h, ks, kvs, (n * 39373 % 999953 % (h.i * h.c)), es, 0, rs, rfl, Same.seqT s2C hH, ok, etC, hd, hlt, hin, h63, sAC _ _ eb9, sAC _ _ ele9, few, efC, eg, rows, fun HD sD => ⟨_, rfl, iteF ?_⟩⟩
    have s2D := s2C.trans sD
    have sAD := sAC.trans sD
    refine ⟨_, rfl, _, rfl, _, rfl, a, t, b, le, h, ks, kvs, (n * 39373 % 999953 % (h.i * h.c)), es, 0, rfl, Same.seqT s2D hH, ok, sD _ _ etC, hd.taken, hfr, hin, sAD _ _ eb9, sAD _ _ ele9, few, hc.1, eo.es, fun p1 fl1 HE sE efl1 ep1 => ?_⟩
    have s2E := s2D.trans sE
    have sAE := sAD.trans sE
    refine ⟨_, rfl, _, rfl, _, rfl, _, rfl, _, rfl, a, hl, le, h, as, ks, (n * 39373 % 999953 % (h.i * h.c)), es, 0, rfl, ⟨Same.seqT s2E hH, ok, SqL.of (sAE _ _ ehl9), CallsAt.same (fun b xs z => sAE _ _ z) hC9, hin, h63, .inr (SqL.of (sAE _ _ ele9)), by omega⟩, hfr, hc, eo.es, fun p2 fl2 HF sF efl2 ep2 => ?_⟩
    have s2F := s2E.trans sF
    have sAF := sAE.trans sF
    have rl := racks_len h es
    have flen : (farM h ks es (0)).length ≤ 12 := by
      unfold farM
      rw [List.length_map]
      omega
    have alk : AlikeAt HF 2 (.ref p2) (.ref p1) := .inr ⟨p2, p1, _, _, rfl, rfl, .inr ⟨ep2, sF _ _ ep1⟩, .cons (AlikeB.at (.inr ⟨_, rfl, rfl⟩)) (.cons (.inr ⟨fl2, fl1, _, _, rfl, rfl, .inl ⟨efl2, sF _ _ efl1⟩, alike_ints _, by rw [List.length_map]; omega⟩) (.cons (AlikeB.at (.inr ⟨_, rfl, rfl⟩)) .nil)), by show 3 ≤ 1000; decide⟩
    refine ⟨_, rfl, _, rfl, _, _, rfl, alk, _, rfl, iteF ?_⟩
    have elcF := s2F _ _ elc
    refine ⟨_, rfl, _, rfl, hl, lc, _, rfl, rfl, SqL.of (sAF _ _ ehl9), SqL.of elcF, fun x hx => ?_, _, rfl, iteF ?_⟩
    · obtain ⟨c, _, rfl⟩ := List.mem_map.mp hx
      exact ⟨c, rfl⟩
    have ep1F := sF _ _ ep1
    have efl1F := sF _ _ efl1
    have sCF := (sD.trans sE).trans sF
    have efF := sCF _ _ efC
    refine ⟨_, rfl, p1, _, _, _, rfl, rfl, SqT.of ep1F, rfl, _, rfl, p1, _, _, _, rfl, rfl, SqT.of ep1F, rfl, fl1, _, rfl, SqL.of efl1F, _, _, rfl, rfl, _, rfl, p1, _, _, _, rfl, rfl, SqT.of ep1F, rfl, ?_⟩
    refine ⟨_, _, rfl, rfl, _, rfl, ?_⟩
    refine ite2 (fun c1 => ?_) (fun c1 => ?_)
    · have c1' := of_decide_eq_true c1
      have wn : ¬ (waysM h ks (n * 39373 % 999953 % (h.i * h.c)) es 0).map (fun (k : Nat) => (k : Int)) = [] := fun z => by
        have := way_there ok hd hfr hin hc.1 eo.es (List.map_eq_nil_iff.mp z)
        omega
      refine ⟨_, rfl, (by show 0 ≤ sizeLine; decide), fun o ho => ?_⟩
      have eo2 := upd_same (H := HF) (a := o) (o := .lst [])
      have sO := same_new ho (.lst [])
      generalize upd HF o (.lst []) = HO at eo2 sO ⊢
      have efO := sO _ _ efF
      rw [natV_int] at efO
      refine ⟨fw, o, _, [], rfl, rfl, SqL.of efO, SqL.of eo2, _, rfl, iteN (fun z => wn (of_decide_eq_true z)) ?_⟩
      exact ⟨_, rfl, _, rfl, _, rfl, _, rfl, _, rfl, _, rfl, a, lc, b, le, fw, g, h, as, ks, (n * 39373 % 999953 % (h.i * h.c)), es, 0, rs, n, rfl, Same.seqT (s2F.trans sO) hH, ok, sO _ _ elcF, CallsAt.same (fun b xs z => (s2F.trans sO) _ _ z) hC, hlt, hin, h63, sO _ _ (sAF _ _ eb9), hsh.1, hsh.2, sO _ _ (sAF _ _ ele9), few, sO _ _ efF, sO _ _ (sCF _ _ eg), paired_mem rows fun a d _ e => sO _ _ (sCF _ _ e), fun HY sY => q _ ((s2F.trans sO).trans sY)⟩
    · exact ⟨_, rfl, _, rfl, _, rfl, _, rfl, _, rfl, _, rfl, a, lc, b, le, fw, g, h, as, ks, (n * 39373 % 999953 % (h.i * h.c)), es, 0, rs, n, rfl, Same.seqT (s2F.trans (Same.refl HF)) hH, ok, (Same.refl HF) _ _ elcF, CallsAt.same (fun b xs z => (s2F.trans (Same.refl HF)) _ _ z) hC, hlt, hin, h63, (Same.refl HF) _ _ (sAF _ _ eb9), hsh.1, hsh.2, (Same.refl HF) _ _ (sAF _ _ ele9), few, (Same.refl HF) _ _ efF, (Same.refl HF) _ _ (sCF _ _ eg), paired_mem rows fun a d _ e => (Same.refl HF) _ _ (sCF _ _ e), fun HY sY => q _ ((s2F.trans (Same.refl HF)).trans sY)⟩
end

def tri (k : Call) : Int × List Int × Int := (k.c, k.es, k.k)
theorem cal_of {K : PySem.W.Frag} {H : Hp} {p : Addr} {k : Call} (h : CallAt H p k) : rCal K H (.ref p) (tri k) := by
  obtain ⟨e, h1, h2⟩ := h
  exact ⟨p, e, rfl, SqT.of h2, SqT.of h1⟩
structure Good (h : Hall) (ks : List Call) : Prop where
  hin : ∀ k ∈ ks, k.In h
  lt : ks.Pairwise fun k k' => k.c < k'.c
  fr : ks.Pairwise (Free h)
theorem Good.sub {h : Hall} {ks ks' : List Call} (g : Good h ks) (s : ks'.Sublist ks) : Good h ks' := ⟨fun k hk => g.hin k (s.subset hk), g.lt.sublist s, g.fr.sublist s⟩
theorem Good.more {h : Hall} {ks ks' : List Call} {k : Call} (g : Good h ks) (hk : k.In h) (fr : ∀ k' ∈ ks, Free h k' k) (p : ks'.Perm (ks ++ [k])) (lt : ks'.Pairwise fun k k' => k.c < k'.c) : Good h ks' := by
  refine ⟨fun k' hk' => ?_, lt, (List.Perm.pairwise_iff (fun q => Free.symm q) p).mpr ?_⟩
  · rcases List.mem_append.mp (p.mem_iff.mp hk') with z | z
    · exact g.hin k' z
    · rw [List.mem_singleton.mp z]
      exact hk
  · rw [List.pairwise_append]
    exact ⟨g.fr, List.pairwise_singleton _ _, fun k' hk' k'' hk'' => by rw [List.mem_singleton.mp hk'']; exact fr k' hk'⟩
section
variable {P : Program} {w : World} {K : PySem.W.Frag} {mg : Str → Option Value} {base : Heap}
theorem sc_law : FnScope ["_law_script", "_law_hall_here", "_law_calls", "_law_at", "_law_number_here", "_law_call", "_law_gone", "_law_asked_here"] ["_law_script"] (defScope (top 31)) := ⟨rfl, rfl, rfl, by decide +kernel, rfl, by decide +kernel, by decide +kernel⟩
set_option maxHeartbeats 8000000 in
theorem ok_law (T : Txt K mg) (C__law_hall : Callee P w K mg base 2 "_law_hall" ["_law_script"] (spHall K)) (C__law_number : Callee P w K mg base 1 "_law_number" ["_law_cell", "_law_at"] spNum) (C__law_try : Callee P w K mg base 2 "_law_try" ["_law_hall_here", "_law_taken_here", "_law_number_here"] (spTry K)) (C__law_taken : Callee P w K mg base 2 "_law_taken" ["_law_hall_here", "_law_calls"] (spTaken16 K)) (C__law_asked : Callee P w K mg base 7 "_law_asked" ["_law_hall_here", "_law_calls", "_law_number_here"] (spAsked16 K)) {f : Addr} {fd : FuncData} (F : Fun K "law" "law" (top 31) f fd) : FnOk P w K mg base CX0 8 f fd ["_law_script"] (spLaw K) := by
  refine F.ok sc_law (fun vs H Q E h => ?_) (fun cdv A outer s H vs Q E hr h => ?_)
  · obtain ⟨a, ns, rfl, _⟩ := h
    rfl
  obtain ⟨a, ns, rfl, hS, h63, q⟩ := h
  refine ⟨_, (pss_cons (ps_set (i := 1) sc_law.nd rfl (Or.inl rfl) (pe_fn C__law_hall hr rfl (pa_cons (pv 0) pa_nil st_name)))
    (pss_cons (ps_set (i := 2) sc_law.nd rfl (Or.inl rfl) (pe_lst pa_nil))
    (pss_cons (ps_for PassesOwn.never rfl (pi_range2 rfl T.m_range (pa_cons pe_int (pa_cons (pe_callB (call_min2 rfl) rfl T.m_min boot_min (pa_cons (pe_callB (call_lenK K) rfl T.m_len boot_len (pa_cons (pv 0) pa_nil st_name)) (pa_cons pe_int pa_nil st_const) st_call)) pa_nil st_call) st_const)) (pg_name (i := 3) sc_law.nd rfl (Or.inl rfl))
    (pss_cons (ps_set (i := 4) sc_law.nd rfl (Or.inl rfl) (pe_fn C__law_number hr rfl (pa_cons (pe_ix (ix_listK K) (pv 0) (pv 3) (fun _ _ => rfl)) (pa_cons (pv 3) pa_nil st_name) st_sub)))
    (pss_cons (ps_set (i := 5) sc_law.nd rfl (Or.inl rfl) pe_non)
    (pss_cons (ps_if (pt_cmpR op_ne (pe_op op_mod (pe_op op_mod (pe_op op_mul (pv 4) pe_int) pe_int) pe_int) pe_int (nomark _)) (pss_one (ps_set (i := 5) sc_law.nd rfl (Or.inl rfl) (pe_fn C__law_try hr rfl (pa_cons (pv 1) (pa_cons (pe_fn C__law_taken hr rfl (pa_cons (pv 1) (pa_cons (pv 2) pa_nil st_name) st_name)) (pa_cons (pv 4) pa_nil st_name) st_call) st_name)))) pss_nil)
    (pss_cons (ps_if (pt_cmpR op_notN (pv 5) pe_non (nomark _)) (pss_one (ps_set (i := 2) sc_law.nd rfl (Or.inl rfl) (pe_callB (call_sortedTK K) rfl T.m_sorted boot_sorted (pa_cons (pe_op op_cat (pv 2) (pe_lst (pa_cons (pv 5) pa_nil st_name))) pa_nil st_bin)))) (pss_one (ps_if (pt_cmpR (op_neNilK K (Room.units0 hr)) (pv 2) (pe_lst pa_nil) (nomark _)) (pss_cons (ps_set (i := 6) sc_law.nd rfl (Or.inr rfl) (pe_ix (ix_listK K) (pv 2) (pe_op op_mod (pe_op op_mod (pe_op op_mul (pv 4) pe_int) pe_int) (pe_callB (call_lenK K) rfl T.m_len boot_len (pa_cons (pv 2) pa_nil st_name))) (fun _ _ => rfl)))
    (pss_one (ps_comp (i := 2) (own := ["_law_one"]) (fr := [(6, "_law_gone")]) rfl sc_law.nd rfl rfl (show CompScope ["_law_script", "_law_hall_here", "_law_calls", "_law_at", "_law_number_here", "_law_call", "_law_gone", "_law_asked_here"] (defScope (top 31)) _ _ _ from ⟨rfl, by decide +kernel, by decide +kernel, by decide +kernel, by decide +kernel⟩) (pi_listK K (pv 2)) (fun cl C s H ex => ⟨(pg_name (i := 0) (show (["_law_one", "_law_gone"] : List Str).Nodup from by decide +kernel) rfl (Or.inl rfl) (Or.inr rfl)), (pif_one (pt_cmpR (op_neCK K (Room.units2 hr)) (pv 0) (pv 1) (nomark _))), (pv 0)⟩) rfl))) pss_nil)))
    (pss_cons (ps_set (i := 7) sc_law.nd rfl (Or.inl rfl) (pe_op op_add (pe_op op_add (pe_op op_mul (pv 4) pe_int) (pe_op op_mul pe_int (pv 3))) pe_int))
    (pss_one (ps_if (pt_not (pt_truK K (pe_fn C__law_asked hr rfl (pa_cons (pv 1) (pa_cons (pv 2) (pa_cons (pv 7) pa_nil st_name) st_name) st_name)) (fun _ => rfl))) (pss_one (ps_ret pe_bl)) pss_nil))))))))
    (pss_one (ps_ret pe_bl))))), ?_⟩
  refine ⟨_, rfl, a, ns, rfl, hS, fun p h H1 ok s1 ep => ?_⟩
  have o3 := ok.m
  refine ⟨(by show 0 ≤ sizeLine; decide), fun l0 hl0 => ?_⟩
  have el0 := upd_same (H := H1) (a := l0) (o := .lst [])
  have s2 := same_new hl0 (.lst [])
  generalize upd H1 l0 (.lst []) = H2 at el0 s2 ⊢
  have ep2 := s2 _ _ ep
  have hS2 := (s1.trans s2).seq hS
  refine ⟨_, rfl, a, _, rfl, .inl hS2, _, _, rfl, _, _, rfl, ⟨by decide, by decide, ?_, ?_⟩, ?_⟩
  · show -(2 ^ 62) ≤ (if (70 : Int) < (((ns.map V.int).length : Nat) : Int) then 70 else (((ns.map V.int).length : Nat) : Int))
    split <;> omega
  · rw [List.length_map]
    show (if (70 : Int) < ((ns.length : Nat) : Int) then 70 else ((ns.length : Nat) : Int)) < 2 ^ 62
    split <;> omega
  rw [List.length_map]
  have bnd : ∀ i : Nat, i < ((if (70 : Int) < ((ns.length : Nat) : Int) then (70 : Int) else ((ns.length : Nat) : Int)) - 6).toNat → 6 + i < ns.length := fun i hi => by
    split at hi <;> omega
  refine for_range (fun i σ H' => Same H2 H' ∧ ∃ (lc : Addr) (as : List Addr) (ks : List Call), H' lc = some (.lst (as.map V.ref)) ∧ CallsAt H' as ks ∧ Good h ks ∧ ks.length ≤ i ∧ ∃ v3 v4 v5 v6 v7, σ = [some (.ref a), some (.ref p), some (.ref lc), v3, v4, v5, v6, v7])
    ⟨Same.refl _, l0, [], [], el0, .nil, ⟨fun _ z => (nomatch z), .nil, .nil⟩, Nat.le_refl _, _, _, _, _, _, rfl⟩ ?_ ?_
  · rintro i σ H3 hi ⟨s3, lc, as, ks, ec, hC, gd, hkl, v3, v4, v5, v6, v7, rfl⟩
    have hi' := bnd i hi
    have la := Paired.length hC
    rw [show (6 : Int) + (i : Int) = ((6 + i : Nat) : Int) by omega]
    have hS3 := s3.seq hS2
    have ep3 := s3 _ _ ep2
    refine ⟨_, rfl, _, rfl, a, _, _, _, rfl, rfl, hS3, at_nat hi', _, rfl, _, 6 + i, rfl, by omega, fun n hn => ?_⟩
    refine ⟨_, rfl, _, _, rfl, rfl, .inr ⟨by decide, by decide⟩, _, _, rfl, rfl, (by show (0 : Int) < 999917; decide), _, _, rfl, rfl, (by show (0 : Int) < 5; decide), rfl, _, rfl, ?_⟩
    refine ite2 (fun _ => ?_) (fun _ => ?_)
    · refine ⟨_, rfl, _, rfl, _, rfl, p, lc, h, as, ks, rfl, SqT.of ep3, ok, ec, hC, gd.hin, by omega, fun t kvs H4 s4 ht et tk hl5 => ?_⟩
      refine ⟨_, rfl, p, t, h, n, kvs, rfl, SqT.of (s4 _ _ ep3), ok, et, by omega, fun H5 s5 => ?_, fun pc k kvs' H5 s5 d1 hc hk frk t9 t7 => ?_⟩
      · have s45 := s4.trans s5
        refine ⟨_, rfl, rfl, _, rfl, iteF ?_⟩
        refine ⟨_, rfl, (by show 0 ≤ sizeLine; decide), fun o ho => ?_⟩
        have eo := upd_same (H := H5) (a := o) (o := .lst [])
        have sO := s45.trans (same_new ho (.lst []))
        generalize upd H5 o (.lst []) = HO at eo sO ⊢
        have ecO := sO _ _ ec
        have hCO := CallsAt.same (fun b xs z => sO _ _ z) hC
        refine ⟨lc, o, _, rfl, rfl, SqL.of ecO, SqL.of eo, _, rfl, ?_⟩
        refine ite2 (fun c1 => ?_) (fun c1 => ?_)
        · have hpos : 0 < ks.length := by
            cases z : as with
            | nil => rw [z] at c1; simp at c1
            | cons x y => rw [← la, z]; simp
          have hm := mod_in (x := n * 16807 % 999931) (show (0 : Int) < ((as.length : Nat) : Int) by omega)
          refine ⟨_, rfl, _, rfl, _, _, rfl, rfl, .inr ⟨by decide, by decide⟩, _, _, rfl, rfl, (by show (0 : Int) < 999931; decide), _, rfl, lc, _, rfl, .inl (SqL.of ecO), _, _, rfl, rfl, (by rw [List.length_map]; show (0 : Int) < ((as.length : Nat) : Int); omega), ?_⟩
          rw [List.length_map]
          show rIxL K (V.ref lc) (V.int (n * 16807 % 999931 % ((as.length : Nat) : Int))) HO _
          obtain ⟨m, hme⟩ := Int.eq_ofNat_of_zero_le hm.1
          rw [hme] at hm ⊢
          have hml : m < as.length := by omega
          have eam : as[m]? = some (as[m]'hml) := List.getElem?_eq_getElem hml
          generalize as[m]'hml = pg at eam
          obtain ⟨kg, hkg, hcg⟩ := paired_at hCO m pg eam
          refine ⟨lc, _, _, _, rfl, rfl, SqL.of ecO, atI_nat (v := .ref pg) (by rw [List.getElem?_map, eam]; rfl), ?_⟩
          refine ⟨_, rfl, lc, rfl, ⟨_, SqL.of ecO⟩, ?_⟩
          refine comp_list (xs := as.map V.ref) (fun j acc σ G => G = HO ∧ (∃ bs : List Addr, acc = bs.map V.ref ∧ CallsAt HO bs ((ks.take j).filter fun k => !decide (tri k = tri kg))) ∧ ∃ v, σ = [v, some (.ref pg)])
            ⟨rfl, ⟨[], rfl, .nil⟩, none, rfl⟩ (Nat.le_of_lt (small1000 (by rw [List.length_map]; omega))) (fun j acc σ G g => ?_) (fun j acc σ G _ g => by rw [g.1]; exact SqL.of ecO) ?_ ?_
          · obtain ⟨_, ⟨bs, rfl, hb⟩, _⟩ := g
            have := Paired.length hb
            rw [List.length_map, this]
            exact Nat.le_trans (List.length_filter_le _ _) (by rw [List.length_take]; omega)
          · rintro j y acc σ G hy ⟨rfl, ⟨bs, rfl, hb⟩, v, rfl⟩
            rw [List.getElem?_map] at hy
            obtain ⟨pc, hpc, rfl⟩ := Option.map_eq_some_iff.mp hy
            obtain ⟨kc, hk1, hk2⟩ := paired_at hCO j pc hpc
            have fs := filter_step (p := fun k => !decide (tri k = tri kg)) hk1
            refine ⟨_, rfl, _, rfl, _, _, cal_of hk2, cal_of hcg, _, rfl, ?_⟩
            refine ite2 (fun c2 => ?_) (fun c2 => ?_)
            · refine ⟨_, rfl, rfl, ⟨bs ++ [pc], by rw [List.map_append]; rfl, ?_⟩, _, rfl⟩
              rw [fs, if_pos c2]
              exact Paired.snoc hb hk2
            · refine ⟨rfl, ⟨bs, rfl, ?_⟩, _, rfl⟩
              rw [fs, if_neg c2, List.append_nil]
              exact hb
          · rintro acc σ G ⟨rfl, ⟨bs, rfl, hb⟩, v, rfl⟩ lq hlq
            rw [List.length_map, la, List.take_length] at hb
            have elq := upd_same (H := G) (a := lq) (o := .lst (bs.map V.ref))
            have sQ := same_new hlq (.lst (bs.map V.ref))
            generalize upd G lq (.lst (bs.map V.ref)) = HQ at elq sQ ⊢
            have hbQ := CallsAt.same (fun b xs z => sQ _ _ z) hb
            have gQ := gd.sub (List.filter_sublist (l := ks) (p := fun k => !decide (tri k = tri kg)))
            have lQ := List.length_filter_le (fun k => !decide (tri k = tri kg)) ks
            have sOQ := sO.trans sQ
            refine ⟨_, rfl, _, _, rfl, rfl, .inr ⟨by decide, by decide⟩, _, rfl, _, _, rfl, rfl, .inl ⟨by decide, by decide⟩, _, _, rfl, rfl, _, _, rfl, rfl, ?_⟩
            refine ⟨_, rfl, _, rfl, _, rfl, p, lq, h, bs, _, _, rfl, SqT.of (sOQ _ _ ep3), ok, elq, hbQ, gQ.hin, by omega, gQ.lt, gQ.fr, fun H9 s9 => ⟨_, rfl, iteF ?_⟩⟩
            exact ⟨(s3.trans sOQ).trans s9, lq, bs, _, s9 _ _ elq, CallsAt.same (fun b xs z => s9 _ _ z) hbQ, gQ, by omega, _, _, _, _, _, rfl⟩
        · refine ⟨_, rfl, _, _, rfl, rfl, .inr ⟨by decide, by decide⟩, _, rfl, _, _, rfl, rfl, .inl ⟨by decide, by decide⟩, _, _, rfl, rfl, _, _, rfl, rfl, ?_⟩
          refine ⟨_, rfl, _, rfl, _, rfl, p, lc, h, as, ks, _, rfl, SqT.of (sO _ _ ep3), ok, ecO, hCO, gd.hin, by omega, gd.lt, gd.fr, fun H9 s9 => ⟨_, rfl, iteF ?_⟩⟩
          exact ⟨(s3.trans sO).trans s9, lc, as, ks, s9 _ _ ecO, CallsAt.same (fun b xs z => s9 _ _ z) hCO, gd, by omega, _, _, _, _, _, rfl⟩
      · have s45 : Same H3 H5 := fun b u z => s5 b u (ne_of_none z ht) (s4 _ _ z)
        refine ⟨_, rfl, rfl, _, rfl, iteT ?_⟩
        have tp := fun b xs (z : H3 b = some (.tup xs)) => s45 _ _ z
        have ec5 := s45 _ _ ec
        have hC5 := CallsAt.same (fun b xs z => s45 _ _ z) hC
        refine ⟨_, rfl, _, rfl, (by show 1 ≤ sizeLine; decide), fun l1 hl1 => ?_⟩
        have el1 := upd_same (H := H5) (a := l1) (o := .lst [.ref pc])
        have n1 := same_new hl1 (.lst [.ref pc])
        generalize upd H5 l1 (.lst [.ref pc]) = H6 at el1 n1 ⊢
        refine ⟨lc, l1, _, _, rfl, rfl, n1 _ _ ec5, el1, ?_⟩
        refine ⟨Nat.le_of_lt (small1000 (by rw [List.length_map, List.length_singleton]; omega)), fun l2 hl2 => ?_⟩
        have el2 := upd_same (H := H6) (a := l2) (o := .lst (as.map V.ref ++ [.ref pc]))
        have n2 := n1.trans (same_new hl2 (.lst (as.map V.ref ++ [.ref pc])))
        generalize upd H6 l2 (.lst (as.map V.ref ++ [.ref pc])) = H7 at el2 n2 ⊢
        have hC7 : CallsAt H7 (as ++ [pc]) (ks ++ [k]) := Paired.snoc (CallsAt.same (fun b xs z => n2 _ _ z) hC5) (CallAt.same (fun b xs z => n2 _ _ z) hc)
        have frk' : ∀ k' ∈ ks, Free h k' k := fun k' hk' d g1 g2 => frk d g2 ((tk d).mpr ⟨k', hk', g1⟩)
        have nec : (ks ++ [k]).Pairwise fun k k' => k.c ≠ k'.c := by
          rw [List.pairwise_append]
          exact ⟨gd.lt.imp fun z => by omega, List.pairwise_singleton _ _, fun k' hk' k'' hk'' => by rw [List.mem_singleton.mp hk'']; exact (frk' k' hk').caller⟩
        dsimp only [tNil]
        refine sorted_calls (as := as ++ [pc]) (ks := ks ++ [k]) (by rw [el2, List.map_append]; rfl) hC7 (by rw [List.length_append, List.length_singleton]; omega) nec fun l3 bs qs hl3 hcq pq pw => ?_
        have el3 := upd_same (H := H7) (a := l3) (o := .lst (bs.map V.ref))
        have n3 := same_new hl3 (.lst (bs.map V.ref))
        generalize upd H7 l3 (.lst (bs.map V.ref)) = H8 at el3 n3 ⊢
        have hc8 := CallsAt.same (fun b xs z => n3 _ _ z) hcq
        have g8 := gd.more hk frk' pq pw
        have lq8 := pq.length_eq
        rw [List.length_append, List.length_singleton] at lq8
        have s48 := (s45.trans n2).trans n3
        refine ⟨_, rfl, _, _, rfl, rfl, .inr ⟨by decide, by decide⟩, _, rfl, _, _, rfl, rfl, .inl ⟨by decide, by decide⟩, _, _, rfl, rfl, _, _, rfl, rfl, ?_⟩
        refine ⟨_, rfl, _, rfl, _, rfl, p, l3, h, bs, qs, _, rfl, SqT.of (s48 _ _ ep3), ok, el3, hc8, g8.hin, by omega, g8.lt, g8.fr, fun H9 s9 => ⟨_, rfl, iteF ?_⟩⟩
        exact ⟨(s3.trans s48).trans s9, l3, bs, qs, s9 _ _ el3, CallsAt.same (fun b xs z => s9 _ _ z) hc8, g8, by omega, _, _, _, _, _, rfl⟩
    · refine ⟨_, rfl, rfl, _, rfl, iteF ?_⟩
      refine ⟨_, rfl, (by show 0 ≤ sizeLine; decide), fun o ho => ?_⟩
      have eo := upd_same (H := H3) (a := o) (o := .lst [])
      have sO := (Same.refl H3).trans (same_new ho (.lst []))
      generalize upd H3 o (.lst []) = HO at eo sO ⊢
      have ecO := sO _ _ ec
      have hCO := CallsAt.same (fun b xs z => sO _ _ z) hC
      refine ⟨lc, o, _, rfl, rfl, SqL.of ecO, SqL.of eo, _, rfl, ?_⟩
      refine ite2 (fun c1 => ?_) (fun c1 => ?_)
      · have hpos : 0 < ks.length := by
          cases z : as with
          | nil => rw [z] at c1; simp at c1
          | cons x y => rw [← la, z]; simp
        have hm := mod_in (x := n * 16807 % 999931) (show (0 : Int) < ((as.length : Nat) : Int) by omega)
        refine ⟨_, rfl, _, rfl, _, _, rfl, rfl, .inr ⟨by decide, by decide⟩, _, _, rfl, rfl, (by show (0 : Int) < 999931; decide), _, rfl, lc, _, rfl, .inl (SqL.of ecO), _, _, rfl, rfl, (by rw [List.length_map]; show (0 : Int) < ((as.length : Nat) : Int); omega), ?_⟩
        rw [List.length_map]
        show rIxL K (V.ref lc) (V.int (n * 16807 % 999931 % ((as.length : Nat) : Int))) HO _
        obtain ⟨m, hme⟩ := Int.eq_ofNat_of_zero_le hm.1
        rw [hme] at hm ⊢
        have hml : m < as.length := by omega
        have eam : as[m]? = some (as[m]'hml) := List.getElem?_eq_getElem hml
        generalize as[m]'hml = pg at eam
        obtain ⟨kg, hkg, hcg⟩ := paired_at hCO m pg eam
        refine ⟨lc, _, _, _, rfl, rfl, SqL.of ecO, atI_nat (v := .ref pg) (by rw [List.getElem?_map, eam]; rfl), ?_⟩
        refine ⟨_, rfl, lc, rfl, ⟨_, SqL.of ecO⟩, ?_⟩
        refine comp_list (xs := as.map V.ref) (fun j acc σ G => G = HO ∧ (∃ bs : List Addr, acc = bs.map V.ref ∧ CallsAt HO bs ((ks.take j).filter fun k => !decide (tri k = tri kg))) ∧ ∃ v, σ = [v, some (.ref pg)])
          ⟨rfl, ⟨[], rfl, .nil⟩, none, rfl⟩ (Nat.le_of_lt (small1000 (by rw [List.length_map]; omega))) (fun j acc σ G g => ?_) (fun j acc σ G _ g => by rw [g.1]; exact SqL.of ecO) ?_ ?_
        · obtain ⟨_, ⟨bs, rfl, hb⟩, _⟩ := g
          have := Paired.length hb
          rw [List.length_map, this]
          exact Nat.le_trans (List.length_filter_le _ _) (by rw [List.length_take]; omega)
        · rintro j y acc σ G hy ⟨rfl, ⟨bs, rfl, hb⟩, v, rfl⟩
          rw [List.getElem?_map] at hy
          obtain ⟨pc, hpc, rfl⟩ := Option.map_eq_some_iff.mp hy
          obtain ⟨kc, hk1, hk2⟩ := paired_at hCO j pc hpc
          have fs := filter_step (p := fun k => !decide (tri k = tri kg)) hk1
          refine ⟨_, rfl, _, rfl, _, _, cal_of hk2, cal_of hcg, _, rfl, ?_⟩
          refine ite2 (fun c2 => ?_) (fun c2 => ?_)
          · refine ⟨_, rfl, rfl, ⟨bs ++ [pc], by rw [List.map_append]; rfl, ?_⟩, _, rfl⟩
            rw [fs, if_pos c2]
            exact Paired.snoc hb hk2
          · refine ⟨rfl, ⟨bs, rfl, ?_⟩, _, rfl⟩
            rw [fs, if_neg c2, List.append_nil]
            exact hb
        · rintro acc σ G ⟨rfl, ⟨bs, rfl, hb⟩, v, rfl⟩ lq hlq
          rw [List.length_map, la, List.take_length] at hb
          have elq := upd_same (H := G) (a := lq) (o := .lst (bs.map V.ref))
          have sQ := same_new hlq (.lst (bs.map V.ref))
          generalize upd G lq (.lst (bs.map V.ref)) = HQ at elq sQ ⊢
          have hbQ := CallsAt.same (fun b xs z => sQ _ _ z) hb
          have gQ := gd.sub (List.filter_sublist (l := ks) (p := fun k => !decide (tri k = tri kg)))
          have lQ := List.length_filter_le (fun k => !decide (tri k = tri kg)) ks
          have sOQ := sO.trans sQ
          refine ⟨_, rfl, _, _, rfl, rfl, .inr ⟨by decide, by decide⟩, _, rfl, _, _, rfl, rfl, .inl ⟨by decide, by decide⟩, _, _, rfl, rfl, _, _, rfl, rfl, ?_⟩
          refine ⟨_, rfl, _, rfl, _, rfl, p, lq, h, bs, _, _, rfl, SqT.of (sOQ _ _ ep3), ok, elq, hbQ, gQ.hin, by omega, gQ.lt, gQ.fr, fun H9 s9 => ⟨_, rfl, iteF ?_⟩⟩
          exact ⟨(s3.trans sOQ).trans s9, lq, bs, _, s9 _ _ elq, CallsAt.same (fun b xs z => s9 _ _ z) hbQ, gQ, by omega, _, _, _, _, _, rfl⟩
      · refine ⟨_, rfl, _, _, rfl, rfl, .inr ⟨by decide, by decide⟩, _, rfl, _, _, rfl, rfl, .inl ⟨by decide, by decide⟩, _, _, rfl, rfl, _, _, rfl, rfl, ?_⟩
        refine ⟨_, rfl, _, rfl, _, rfl, p, lc, h, as, ks, _, rfl, SqT.of (sO _ _ ep3), ok, ecO, hCO, gd.hin, by omega, gd.lt, gd.fr, fun H9 s9 => ⟨_, rfl, iteF ?_⟩⟩
        exact ⟨(s3.trans sO).trans s9, lc, as, ks, s9 _ _ ecO, CallsAt.same (fun b xs z => s9 _ _ z) hCO, gd, by omega, _, _, _, _, _, rfl⟩
  · rintro σ H' ⟨s3, lc, as, ks, ec, hC, gd, hkl, v3, v4, v5, v6, v7, rfl⟩
    exact q _
end

section
variable {l : PySem.W.OpenLaw} {w : World} {K : PySem.W.Frag} {h : Heap} {mg : Str → Option Value}
theorem def_mk {x : Str} {st : Stmt} {ps : List Str} {f : Addr} {oc : Value} {od an : Option Addr} {sl : Array (Option Value)} {kV dc pm cd ct : Value} (X : K.In h) (G : h.Ns mainGlobals mg) (a : PySem.W.nsIn K mainGlobals x = some (some (.ref f)))
    (l : K.lookup f = some ⟨oc, od, .func (PySem.W.fnOf x x (defArgs st) (defBody st) (defScope st) .none kV dc pm an cd ct), sl⟩) (c : PySem.W.codeIn K cd x = true) (k : PySem.W.keepIn K (.ref f) = true)
    (b : ∀ us : List Value, us.length = ps.length → bindArgs (PySem.W.fnOf x x (defArgs st) (defBody st) (defScope st) .none kV dc pm an cd ct) ⟨us, []⟩ = pure (ps.zip us)) : Def K mg x st ps :=
  ⟨f, _, fun_mk l c k, .all b, PySem.W.mg_of X G a⟩
theorem all_mk {fa f1 f2 f3 f4 f5 f6 f7 f8 f9 f10 f11 f12 f13 f14 f15 f16 f17 f18 f19 f20 f21 f22 f23 f24 f25 f26 f27    : Addr} (X : K.In h) (G : h.Ns mainGlobals mg) (hfa : mg "law" = some (.ref fa))
    {od1 an1 od2 an2 od3 an3 od4 an4 od5 an5 od6 an6 od7 an7 od8 an8 od9 an9 od10 an10 od11 an11 od12 an12 od13 an13 od14 an14 od15 an15 od16 an16 od17 an17 od18 an18 od19 an19 od20 an20 od21 an21 od22 an22 od23 an23 od24 an24 od25 an25 od26 an26 od27 an27 : Option Addr} {sl1 sl2 sl3 sl4 sl5 sl6 sl7 sl8 sl9 sl10 sl11 sl12 sl13 sl14 sl15 sl16 sl17 sl18 sl19 sl20 sl21 sl22 sl23 sl24 sl25 sl26 sl27 : Array (Option Value)} {oc1 kV1 dc1 pm1 cd1 ct1 oc2 kV2 dc2 pm2 cd2 ct2 oc3 kV3 dc3 pm3 cd3 ct3 oc4 kV4 dc4 pm4 cd4 ct4 oc5 kV5 dc5 pm5 cd5 ct5 oc6 kV6 dc6 pm6 cd6 ct6 oc7 kV7 dc7 pm7 cd7 ct7 oc8 kV8 dc8 pm8 cd8 ct8 oc9 kV9 dc9 pm9 cd9 ct9 oc10 kV10 dc10 pm10 cd10 ct10 oc11 kV11 dc11 pm11 cd11 ct11 oc12 kV12 dc12 pm12 cd12 ct12 oc13 kV13 dc13 pm13 cd13 ct13 oc14 kV14 dc14 pm14 cd14 ct14 oc15 kV15 dc15 pm15 cd15 ct15 oc16 kV16 dc16 pm16 cd16 ct16 oc17 kV17 dc17 pm17 cd17 ct17 oc18 kV18 dc18 pm18 cd18 ct18 oc19 kV19 dc19 pm19 cd19 ct19 oc20 kV20 dc20 pm20 cd20 ct20 oc21 kV21 dc21 pm21 cd21 ct21 oc22 kV22 dc22 pm22 cd22 ct22 oc23 kV23 dc23 pm23 cd23 ct23 oc24 kV24 dc24 pm24 cd24 ct24 oc25 kV25 dc25 pm25 cd25 ct25 oc26 kV26 dc26 pm26 cd26 ct26 oc27 kV27 dc27 pm27 cd27 ct27 : Value}
    {dv11 : Addr} {odv11 : Option Addr} {slv11 : Array (Option Value)} {nv11 : Nat} {td11_0 : Tok}
    {dv12 : Addr} {odv12 : Option Addr} {slv12 : Array (Option Value)} {nv12 : Nat} {td12_0 : Tok}
    {dv13 : Addr} {odv13 : Option Addr} {slv13 : Array (Option Value)} {nv13 : Nat} {td13_0 : Tok}
    (a1 : PySem.W.nsIn K mainGlobals "place_in" = some (some (.ref f1))) (l1 : K.lookup f1 = some ⟨oc1, od1, .func (PySem.W.fnOf "place_in" "place_in" (defArgs (top 1)) (defBody (top 1)) (defScope (top 1)) .none kV1 dc1 pm1 an1 cd1 ct1), sl1⟩) (c1 : PySem.W.codeIn K cd1 "place_in" = true) (k1 : PySem.W.keepIn K (.ref f1) = true)
    (a2 : PySem.W.nsIn K mainGlobals "place_out" = some (some (.ref f2))) (l2 : K.lookup f2 = some ⟨oc2, od2, .func (PySem.W.fnOf "place_out" "place_out" (defArgs (top 2)) (defBody (top 2)) (defScope (top 2)) .none kV2 dc2 pm2 an2 cd2 ct2), sl2⟩) (c2 : PySem.W.codeIn K cd2 "place_out" = true) (k2 : PySem.W.keepIn K (.ref f2) = true)
    (a3 : PySem.W.nsIn K mainGlobals "racks_of" = some (some (.ref f3))) (l3 : K.lookup f3 = some ⟨oc3, od3, .func (PySem.W.fnOf "racks_of" "racks_of" (defArgs (top 3)) (defBody (top 3)) (defScope (top 3)) .none kV3 dc3 pm3 an3 cd3 ct3), sl3⟩) (c3 : PySem.W.codeIn K cd3 "racks_of" = true) (k3 : PySem.W.keepIn K (.ref f3) = true)
    (a4 : PySem.W.nsIn K mainGlobals "bits_of" = some (some (.ref f4))) (l4 : K.lookup f4 = some ⟨oc4, od4, .func (PySem.W.fnOf "bits_of" "bits_of" (defArgs (top 5)) (defBody (top 5)) (defScope (top 5)) .none kV4 dc4 pm4 an4 cd4 ct4), sl4⟩) (c4 : PySem.W.codeIn K cd4 "bits_of" = true) (k4 : PySem.W.keepIn K (.ref f4) = true)
    (a5 : PySem.W.nsIn K mainGlobals "bit_list" = some (some (.ref f5))) (l5 : K.lookup f5 = some ⟨oc5, od5, .func (PySem.W.fnOf "bit_list" "bit_list" (defArgs (top 6)) (defBody (top 6)) (defScope (top 6)) .none kV5 dc5 pm5 an5 cd5 ct5), sl5⟩) (c5 : PySem.W.codeIn K cd5 "bit_list" = true) (k5 : PySem.W.keepIn K (.ref f5) = true)
    (a6 : PySem.W.nsIn K mainGlobals "left_open" = some (some (.ref f6))) (l6 : K.lookup f6 = some ⟨oc6, od6, .func (PySem.W.fnOf "left_open" "left_open" (defArgs (top 7)) (defBody (top 7)) (defScope (top 7)) .none kV6 dc6 pm6 an6 cd6 ct6), sl6⟩) (c6 : PySem.W.codeIn K cd6 "left_open" = true) (k6 : PySem.W.keepIn K (.ref f6) = true)
    (a7 : PySem.W.nsIn K mainGlobals "in_bits" = some (some (.ref f7))) (l7 : K.lookup f7 = some ⟨oc7, od7, .func (PySem.W.fnOf "in_bits" "in_bits" (defArgs (top 8)) (defBody (top 8)) (defScope (top 8)) .none kV7 dc7 pm7 an7 cd7 ct7), sl7⟩) (c7 : PySem.W.codeIn K cd7 "in_bits" = true) (k7 : PySem.W.keepIn K (.ref f7) = true)
    (a8 : PySem.W.nsIn K mainGlobals "out_bits" = some (some (.ref f8))) (l8 : K.lookup f8 = some ⟨oc8, od8, .func (PySem.W.fnOf "out_bits" "out_bits" (defArgs (top 9)) (defBody (top 9)) (defScope (top 9)) .none kV8 dc8 pm8 an8 cd8 ct8), sl8⟩) (c8 : PySem.W.codeIn K cd8 "out_bits" = true) (k8 : PySem.W.keepIn K (.ref f8) = true)
    (a9 : PySem.W.nsIn K mainGlobals "holds_needed" = some (some (.ref f9))) (l9 : K.lookup f9 = some ⟨oc9, od9, .func (PySem.W.fnOf "holds_needed" "holds_needed" (defArgs (top 11)) (defBody (top 11)) (defScope (top 11)) .none kV9 dc9 pm9 an9 cd9 ct9), sl9⟩) (c9 : PySem.W.codeIn K cd9 "holds_needed" = true) (k9 : PySem.W.keepIn K (.ref f9) = true)
    (a10 : PySem.W.nsIn K mainGlobals "holders" = some (some (.ref f10))) (l10 : K.lookup f10 = some ⟨oc10, od10, .func (PySem.W.fnOf "holders" "holders" (defArgs (top 12)) (defBody (top 12)) (defScope (top 12)) .none kV10 dc10 pm10 an10 cd10 ct10), sl10⟩) (c10 : PySem.W.codeIn K cd10 "holders" = true) (k10 : PySem.W.keepIn K (.ref f10) = true)
    (dl11 : K.lookup dv11 = some ⟨.type "tuple", odv11, .seq #[.int 0 td11_0] nv11, slv11⟩)
    (a11 : PySem.W.nsIn K mainGlobals "ways" = some (some (.ref f11))) (l11 : K.lookup f11 = some ⟨oc11, od11, .func (PySem.W.fnOf "ways" "ways" (defArgs (top 13)) (defBody (top 13)) (defScope (top 13)) (.ref dv11) kV11 dc11 pm11 an11 cd11 ct11), sl11⟩) (c11 : PySem.W.codeIn K cd11 "ways" = true) (k11 : PySem.W.keepIn K (.ref f11) = true)
    (dl12 : K.lookup dv12 = some ⟨.type "tuple", odv12, .seq #[.int 0 td12_0] nv12, slv12⟩)
    (a12 : PySem.W.nsIn K mainGlobals "least_ended" = some (some (.ref f12))) (l12 : K.lookup f12 = some ⟨oc12, od12, .func (PySem.W.fnOf "least_ended" "least_ended" (defArgs (top 14)) (defBody (top 14)) (defScope (top 14)) (.ref dv12) kV12 dc12 pm12 an12 cd12 ct12), sl12⟩) (c12 : PySem.W.codeIn K cd12 "least_ended" = true) (k12 : PySem.W.keepIn K (.ref f12) = true)
    (dl13 : K.lookup dv13 = some ⟨.type "tuple", odv13, .seq #[.int 0 td13_0] nv13, slv13⟩)
    (a13 : PySem.W.nsIn K mainGlobals "count_of" = some (some (.ref f13))) (l13 : K.lookup f13 = some ⟨oc13, od13, .func (PySem.W.fnOf "count_of" "count_of" (defArgs (top 16)) (defBody (top 16)) (defScope (top 16)) (.ref dv13) kV13 dc13 pm13 an13 cd13 ct13), sl13⟩) (c13 : PySem.W.codeIn K cd13 "count_of" = true) (k13 : PySem.W.keepIn K (.ref f13) = true)
    (a14 : PySem.W.nsIn K mainGlobals "_law_cell_at" = some (some (.ref f14))) (l14 : K.lookup f14 = some ⟨oc14, od14, .func (PySem.W.fnOf "_law_cell_at" "_law_cell_at" (defArgs (top 18)) (defBody (top 18)) (defScope (top 18)) .none kV14 dc14 pm14 an14 cd14 ct14), sl14⟩) (c14 : PySem.W.codeIn K cd14 "_law_cell_at" = true) (k14 : PySem.W.keepIn K (.ref f14) = true)
    (a15 : PySem.W.nsIn K mainGlobals "_law_hall" = some (some (.ref f15))) (l15 : K.lookup f15 = some ⟨oc15, od15, .func (PySem.W.fnOf "_law_hall" "_law_hall" (defArgs (top 19)) (defBody (top 19)) (defScope (top 19)) .none kV15 dc15 pm15 an15 cd15 ct15), sl15⟩) (c15 : PySem.W.codeIn K cd15 "_law_hall" = true) (k15 : PySem.W.keepIn K (.ref f15) = true)
    (a16 : PySem.W.nsIn K mainGlobals "_law_ends" = some (some (.ref f16))) (l16 : K.lookup f16 = some ⟨oc16, od16, .func (PySem.W.fnOf "_law_ends" "_law_ends" (defArgs (top 20)) (defBody (top 20)) (defScope (top 20)) .none kV16 dc16 pm16 an16 cd16 ct16), sl16⟩) (c16 : PySem.W.codeIn K cd16 "_law_ends" = true) (k16 : PySem.W.keepIn K (.ref f16) = true)
    (a17 : PySem.W.nsIn K mainGlobals "_law_lines" = some (some (.ref f17))) (l17 : K.lookup f17 = some ⟨oc17, od17, .func (PySem.W.fnOf "_law_lines" "_law_lines" (defArgs (top 21)) (defBody (top 21)) (defScope (top 21)) .none kV17 dc17 pm17 an17 cd17 ct17), sl17⟩) (c17 : PySem.W.codeIn K cd17 "_law_lines" = true) (k17 : PySem.W.keepIn K (.ref f17) = true)
    (a18 : PySem.W.nsIn K mainGlobals "_law_number" = some (some (.ref f18))) (l18 : K.lookup f18 = some ⟨oc18, od18, .func (PySem.W.fnOf "_law_number" "_law_number" (defArgs (top 22)) (defBody (top 22)) (defScope (top 22)) .none kV18 dc18 pm18 an18 cd18 ct18), sl18⟩) (c18 : PySem.W.codeIn K cd18 "_law_number" = true) (k18 : PySem.W.keepIn K (.ref f18) = true)
    (a19 : PySem.W.nsIn K mainGlobals "_law_try" = some (some (.ref f19))) (l19 : K.lookup f19 = some ⟨oc19, od19, .func (PySem.W.fnOf "_law_try" "_law_try" (defArgs (top 23)) (defBody (top 23)) (defScope (top 23)) .none kV19 dc19 pm19 an19 cd19 ct19), sl19⟩) (c19 : PySem.W.codeIn K cd19 "_law_try" = true) (k19 : PySem.W.keepIn K (.ref f19) = true)
    (a20 : PySem.W.nsIn K mainGlobals "_law_alike" = some (some (.ref f20))) (l20 : K.lookup f20 = some ⟨oc20, od20, .func (PySem.W.fnOf "_law_alike" "_law_alike" (defArgs (top 24)) (defBody (top 24)) (defScope (top 24)) .none kV20 dc20 pm20 an20 cd20 ct20), sl20⟩) (c20 : PySem.W.codeIn K cd20 "_law_alike" = true) (k20 : PySem.W.keepIn K (.ref f20) = true)
    (a21 : PySem.W.nsIn K mainGlobals "_law_ways_held" = some (some (.ref f21))) (l21 : K.lookup f21 = some ⟨oc21, od21, .func (PySem.W.fnOf "_law_ways_held" "_law_ways_held" (defArgs (top 25)) (defBody (top 25)) (defScope (top 25)) .none kV21 dc21 pm21 an21 cd21 ct21), sl21⟩) (c21 : PySem.W.codeIn K cd21 "_law_ways_held" = true) (k21 : PySem.W.keepIn K (.ref f21) = true)
    (a22 : PySem.W.nsIn K mainGlobals "_law_left" = some (some (.ref f22))) (l22 : K.lookup f22 = some ⟨oc22, od22, .func (PySem.W.fnOf "_law_left" "_law_left" (defArgs (top 26)) (defBody (top 26)) (defScope (top 26)) .none kV22 dc22 pm22 an22 cd22 ct22), sl22⟩) (c22 : PySem.W.codeIn K cd22 "_law_left" = true) (k22 : PySem.W.keepIn K (.ref f22) = true)
    (a23 : PySem.W.nsIn K mainGlobals "_law_least" = some (some (.ref f23))) (l23 : K.lookup f23 = some ⟨oc23, od23, .func (PySem.W.fnOf "_law_least" "_law_least" (defArgs (top 27)) (defBody (top 27)) (defScope (top 27)) .none kV23 dc23 pm23 an23 cd23 ct23), sl23⟩) (c23 : PySem.W.codeIn K cd23 "_law_least" = true) (k23 : PySem.W.keepIn K (.ref f23) = true)
    (a24 : PySem.W.nsIn K mainGlobals "_law_counted" = some (some (.ref f24))) (l24 : K.lookup f24 = some ⟨oc24, od24, .func (PySem.W.fnOf "_law_counted" "_law_counted" (defArgs (top 28)) (defBody (top 28)) (defScope (top 28)) .none kV24 dc24 pm24 an24 cd24 ct24), sl24⟩) (c24 : PySem.W.codeIn K cd24 "_law_counted" = true) (k24 : PySem.W.keepIn K (.ref f24) = true)
    (a25 : PySem.W.nsIn K mainGlobals "_law_asked" = some (some (.ref f25))) (l25 : K.lookup f25 = some ⟨oc25, od25, .func (PySem.W.fnOf "_law_asked" "_law_asked" (defArgs (top 29)) (defBody (top 29)) (defScope (top 29)) .none kV25 dc25 pm25 an25 cd25 ct25), sl25⟩) (c25 : PySem.W.codeIn K cd25 "_law_asked" = true) (k25 : PySem.W.keepIn K (.ref f25) = true)
    (a26 : PySem.W.nsIn K mainGlobals "_law_taken" = some (some (.ref f26))) (l26 : K.lookup f26 = some ⟨oc26, od26, .func (PySem.W.fnOf "_law_taken" "_law_taken" (defArgs (top 30)) (defBody (top 30)) (defScope (top 30)) .none kV26 dc26 pm26 an26 cd26 ct26), sl26⟩) (c26 : PySem.W.codeIn K cd26 "_law_taken" = true) (k26 : PySem.W.keepIn K (.ref f26) = true)
    (a27 : PySem.W.nsIn K mainGlobals "law" = some (some (.ref f27))) (l27 : K.lookup f27 = some ⟨oc27, od27, .func (PySem.W.fnOf "law" "law" (defArgs (top 31)) (defBody (top 31)) (defScope (top 31)) .none kV27 dc27 pm27 an27 cd27 ct27), sl27⟩) (c27 : PySem.W.codeIn K cd27 "law" = true) (k27 : PySem.W.keepIn K (.ref f27) = true)
    (z_len : PySem.W.nsIn K mainGlobals "len" = some none) (z_isinstance : PySem.W.nsIn K mainGlobals "isinstance" = some none) (z_int : PySem.W.nsIn K mainGlobals "int" = some none) (z_bool : PySem.W.nsIn K mainGlobals "bool" = some none) (z_tuple : PySem.W.nsIn K mainGlobals "tuple" = some none) (z_list : PySem.W.nsIn K mainGlobals "list" = some none) (z_set : PySem.W.nsIn K mainGlobals "set" = some none) (z_sorted : PySem.W.nsIn K mainGlobals "sorted" = some none) (z_divmod : PySem.W.nsIn K mainGlobals "divmod" = some none) (z_range : PySem.W.nsIn K mainGlobals "range" = some none) (z_abs : PySem.W.nsIn K mainGlobals "abs" = some none) (z_min : PySem.W.nsIn K mainGlobals "min" = some none) (z_any : PySem.W.nsIn K mainGlobals "any" = some none) (z_sum : PySem.W.nsIn K mainGlobals "sum" = some none) :
    ∃ fd : FuncData, (∀ (s : Shared) (v : Value), BindsTo s fd ⟨[v], []⟩ [("_law_script", v)]) ∧ ∀ base : Heap, K.In base → base.Ns mainGlobals mg → FnOk l.prog w K mg base CX0 8 fa fd ["_law_script"] (spLaw K) := by
  have e := hfa.symm.trans (PySem.W.mg_of X G a27)
  cases e
  have T : Txt K mg := ⟨PySem.W.mg_none_of X G z_len, PySem.W.mg_none_of X G z_isinstance, PySem.W.mg_none_of X G z_int, PySem.W.mg_none_of X G z_bool, PySem.W.mg_none_of X G z_tuple, PySem.W.mg_none_of X G z_list, PySem.W.mg_none_of X G z_set, PySem.W.mg_none_of X G z_sorted, PySem.W.mg_none_of X G z_divmod, PySem.W.mg_none_of X G z_range, PySem.W.mg_none_of X G z_abs, PySem.W.mg_none_of X G z_min, PySem.W.mg_none_of X G z_any, PySem.W.mg_none_of X G z_sum⟩
  have D_place_in : Def K mg "place_in" (top 1) ["hall", "caller"] := def_mk X G a1 l1 c1 k1 fun us hl => match us, hl with | [_, _], _ => rfl
  have D_place_out : Def K mg "place_out" (top 2) ["hall", "end"] := def_mk X G a2 l2 c2 k2 fun us hl => match us, hl with | [_, _], _ => rfl
  have D_racks_of : Def K mg "racks_of" (top 3) ["hall", "ends"] := def_mk X G a3 l3 c3 k3 fun us hl => match us, hl with | [_, _], _ => rfl
  have D_bits_of : Def K mg "bits_of" (top 5) ["places"] := def_mk X G a4 l4 c4 k4 fun us hl => match us, hl with | [_], _ => rfl
  have D_bit_list : Def K mg "bit_list" (top 6) ["bits"] := def_mk X G a5 l5 c5 k5 fun us hl => match us, hl with | [_], _ => rfl
  have D_left_open : Def K mg "left_open" (top 7) ["hall", "shut"] := def_mk X G a6 l6 c6 k6 fun us hl => match us, hl with | [_, _], _ => rfl
  have D_in_bits : Def K mg "in_bits" (top 8) ["hall", "calls"] := def_mk X G a7 l7 c7 k7 fun us hl => match us, hl with | [_, _], _ => rfl
  have D_out_bits : Def K mg "out_bits" (top 9) ["hall", "calls"] := def_mk X G a8 l8 c8 k8 fun us hl => match us, hl with | [_, _], _ => rfl
  have D_holds_needed : Def K mg "holds_needed" (top 11) ["hall", "call", "start", "goals"] := def_mk X G a9 l9 c9 k9 fun us hl => match us, hl with | [_, _, _, _], _ => rfl
  have D_holders : Def K mg "holders" (top 12) ["hall", "calls", "caller", "ends"] := def_mk X G a10 l10 c10 k10 fun us hl => match us, hl with | [_, _, _, _], _ => rfl
  have D_ways : DefD K mg "ways" (top 13) ["hall", "calls", "caller", "ends", "shut"] [.int 0] := ⟨f11, _, ⟨_, _, _, _, _, _, _, _, _, _, rfl, l11, c11⟩, k11, fun m hm => match m, hm with | 0, _ => ⟨[.int 0 td11_0], (.cons ⟨_, rfl⟩ .nil), fun s us X hl => match us, (show us.length = 4 from by simpa using hl) with | [_, _, _, _], _ => BindsTo.of_defaults rfl (X _ _ dl11) rfl rfl rfl⟩ | 1, _ => ⟨[], .nil, fun s us X hl => match us, (show us.length = 5 from by simpa using hl) with | [_, _, _, _, _], _ => BindsTo.of_defaults rfl (X _ _ dl11) rfl rfl rfl⟩ | _ + 2, h => absurd h (by simp), PySem.W.mg_of X G a11⟩
  have D_least_ended : DefD K mg "least_ended" (top 14) ["hall", "calls", "caller", "ends", "shut"] [.int 0] := ⟨f12, _, ⟨_, _, _, _, _, _, _, _, _, _, rfl, l12, c12⟩, k12, fun m hm => match m, hm with | 0, _ => ⟨[.int 0 td12_0], (.cons ⟨_, rfl⟩ .nil), fun s us X hl => match us, (show us.length = 4 from by simpa using hl) with | [_, _, _, _], _ => BindsTo.of_defaults rfl (X _ _ dl12) rfl rfl rfl⟩ | 1, _ => ⟨[], .nil, fun s us X hl => match us, (show us.length = 5 from by simpa using hl) with | [_, _, _, _, _], _ => BindsTo.of_defaults rfl (X _ _ dl12) rfl rfl rfl⟩ | _ + 2, h => absurd h (by simp), PySem.W.mg_of X G a12⟩
  have D_count_of : DefD K mg "count_of" (top 16) ["hall", "calls", "caller", "ends", "shut"] [.int 0] := ⟨f13, _, ⟨_, _, _, _, _, _, _, _, _, _, rfl, l13, c13⟩, k13, fun m hm => match m, hm with | 0, _ => ⟨[.int 0 td13_0], (.cons ⟨_, rfl⟩ .nil), fun s us X hl => match us, (show us.length = 4 from by simpa using hl) with | [_, _, _, _], _ => BindsTo.of_defaults rfl (X _ _ dl13) rfl rfl rfl⟩ | 1, _ => ⟨[], .nil, fun s us X hl => match us, (show us.length = 5 from by simpa using hl) with | [_, _, _, _, _], _ => BindsTo.of_defaults rfl (X _ _ dl13) rfl rfl rfl⟩ | _ + 2, h => absurd h (by simp), PySem.W.mg_of X G a13⟩
  have D__law_cell_at : Def K mg "_law_cell_at" (top 18) ["_law_script", "_law_k"] := def_mk X G a14 l14 c14 k14 fun us hl => match us, hl with | [_, _], _ => rfl
  have D__law_hall : Def K mg "_law_hall" (top 19) ["_law_script"] := def_mk X G a15 l15 c15 k15 fun us hl => match us, hl with | [_], _ => rfl
  have D__law_ends : Def K mg "_law_ends" (top 20) ["_law_hall_here", "_law_number_here"] := def_mk X G a16 l16 c16 k16 fun us hl => match us, hl with | [_, _], _ => rfl
  have D__law_lines : Def K mg "_law_lines" (top 21) ["_law_hall_here", "_law_caller", "_law_ends_here", "_law_k"] := def_mk X G a17 l17 c17 k17 fun us hl => match us, hl with | [_, _, _, _], _ => rfl
  have D__law_number : Def K mg "_law_number" (top 22) ["_law_cell", "_law_at"] := def_mk X G a18 l18 c18 k18 fun us hl => match us, hl with | [_, _], _ => rfl
  have D__law_try : Def K mg "_law_try" (top 23) ["_law_hall_here", "_law_taken_here", "_law_number_here"] := def_mk X G a19 l19 c19 k19 fun us hl => match us, hl with | [_, _, _], _ => rfl
  have D__law_alike : Def K mg "_law_alike" (top 24) ["_law_found", "_law_due"] := def_mk X G a20 l20 c20 k20 fun us hl => match us, hl with | [_, _], _ => rfl
  have D__law_ways_held : Def K mg "_law_ways_held" (top 25) ["_law_hall_here", "_law_held", "_law_asked_here", "_law_free", "_law_kept"] := def_mk X G a21 l21 c21 k21 fun us hl => match us, hl with | [_, _, _, _, _], _ => rfl
  have D__law_left : Def K mg "_law_left" (top 26) ["_law_calls", "_law_gone"] := def_mk X G a22 l22 c22 k22 fun us hl => match us, hl with | [_, _], _ => rfl
  have D__law_least : Def K mg "_law_least" (top 27) ["_law_hall_here", "_law_calls", "_law_asked_here", "_law_free", "_law_kept", "_law_number_here"] := def_mk X G a23 l23 c23 k23 fun us hl => match us, hl with | [_, _, _, _, _, _], _ => rfl
  have D__law_counted : Def K mg "_law_counted" (top 28) ["_law_hall_here", "_law_held", "_law_asked_here"] := def_mk X G a24 l24 c24 k24 fun us hl => match us, hl with | [_, _, _], _ => rfl
  have D__law_asked : Def K mg "_law_asked" (top 29) ["_law_hall_here", "_law_calls", "_law_number_here"] := def_mk X G a25 l25 c25 k25 fun us hl => match us, hl with | [_, _, _], _ => rfl
  have D__law_taken : Def K mg "_law_taken" (top 30) ["_law_hall_here", "_law_calls"] := def_mk X G a26 l26 c26 k26 fun us hl => match us, hl with | [_, _], _ => rfl
  have F := fun_mk (st := top 31) l27 c27 k27
  refine ⟨PySem.W.fnOf "law" "law" (defArgs (top 31)) (defBody (top 31)) (defScope (top 31)) .none kV27 dc27 pm27 an27 cd27 ct27, fun s v => .of_eq rfl, fun base _ _ => ?_⟩
  have C_cell := ok_cell (P := l.prog) (w := w) (base := base) T D__law_cell_at
  have C_lines := ok_lines (P := l.prog) (w := w) (base := base) T D__law_lines
  have C_ends := ok_ends (P := l.prog) (w := w) (base := base) T D__law_ends
  have C_num := ok_number (P := l.prog) (w := w) (base := base) T D__law_number
  have C_pi := ok_place_in (P := l.prog) (w := w) (base := base) T D_place_in
  have C_ra := ok_racks (P := l.prog) (w := w) (base := base) T (ok_place_out T D_place_out) D_racks_of
  have C_open := ok_open (P := l.prog) (w := w) (base := base) T D_left_open
  have C_hold := ok_holders (P := l.prog) (w := w) (base := base) T C_pi C_ra (ok_needed T C_pi C_ra D_holds_needed) D_holders
  have C_ways := ok_ways (P := l.prog) (w := w) (base := base) T C_hold C_open D_ways
  have C_least := ok_least (P := l.prog) (w := w) (base := base) T C_hold C_open D_least_ended
  have C_count := ok_count (P := l.prog) (w := w) (base := base) T C_open (ok_bits_of T D_bits_of) (ok_bit_list T D_bit_list) C_pi C_ra (ok_in_bits T C_pi D_in_bits) (ok_out_bits T C_ra D_out_bits) D_count_of
  have C_asked := ok_asked16 (P := l.prog) (w := w) (base := base) T C_lines C_ends C_ways C_hold (ok_ways_held T C_lines (ok_alike T D__law_alike 1) D__law_ways_held) (ok_counted T D__law_counted) C_count (ok_alike T D__law_alike 2) (ok_least16 T C_least (ok_left T D__law_left) C_ways D__law_least) D__law_asked
  exact ok_law T (ok_hall T C_cell D__law_hall) C_num (ok_try T C_ends C_lines D__law_try) (ok_taken T C_lines D__law_taken) C_asked F
end
theorem walk {l : PySem.W.OpenLaw} {q : Program} {loose : List Str} {XP : (Str → Option Value) → Heap → Prop} {YP : World → Heap → Prop} {d : DefRec} {K : Params → PySem.W.Frag} (hn : l.most = some 63) (hdf : d.params.defaults = [])
    (hY : ∀ (w : World) (h : Heap), YP w h → (K w.params).In h)
    (F : ∀ (w : World) (mg : Str → Option Value) (fa : Addr) (h : Heap), (K w.params).In h → h.Ns mainGlobals mg → mg d.name = some (.ref fa) →
      ∃ fd : FuncData, (∀ (s : Shared) (u : Value), BindsTo s fd ⟨[u], []⟩ [("_law_script", u)]) ∧ ∀ base : Heap, (K w.params).In base → base.Ns mainGlobals mg → FnOk l.prog w (K w.params) mg base CX0 8 fa fd ["_law_script"] (spLaw (K w.params))) :
    PySem.W.WalkO q loose XP YP l.row.toRowW d [] (fun f vs => PySem.call f vs) :=
  L2.walk_of (n := 63) (k := 8) (x := "_law_script") (CX := fun _ => CX0) (sp := fun w => spLaw (K w.params)) hn (by decide) hdf ⟨rfl, by decide, by decide⟩ hY F (fun _ _ a ns hl _ hS => ⟨a, ns, rfl, hS, hl, fun _ => rfl⟩) fun _ _ _ _ _ z => z
end My
open PySem PySem.W PyProof.Rows
set_option maxRecDepth 100000 in
set_option maxHeartbeats 0 in
theorem PySem.Challenge.cw_crossracks_k16_whole_paper_of_ways_holds : PySem.Challenge.rw_crossracks_k16_whole_paper_of_ways.Holds := by
  w_on; o_law; k_head; (case hw => w_witness2)
  k_fill
  refine My.walk (l := PySem.Challenge.rw_crossracks_k16_whole_paper_of_ways) rfl rfl (fun w h Y => PySem.W.kIn_of Y) ?F
  case F =>
    intro w mg fa h KX G hmg
    refine' My.all_mk KX G hmg ?a1 ?l1 ?c1 ?k1 ?a2 ?l2 ?c2 ?k2 ?a3 ?l3 ?c3 ?k3 ?a4 ?l4 ?c4 ?k4 ?a5 ?l5 ?c5 ?k5 ?a6 ?l6 ?c6 ?k6 ?a7 ?l7 ?c7 ?k7 ?a8 ?l8 ?c8 ?k8 ?a9 ?l9 ?c9 ?k9 ?a10 ?l10 ?c10 ?k10 ?dl11 ?a11 ?l11 ?c11 ?k11 ?dl12 ?a12 ?l12 ?c12 ?k12 ?dl13 ?a13 ?l13 ?c13 ?k13 ?a14 ?l14 ?c14 ?k14 ?a15 ?l15 ?c15 ?k15 ?a16 ?l16 ?c16 ?k16 ?a17 ?l17 ?c17 ?k17 ?a18 ?l18 ?c18 ?k18 ?a19 ?l19 ?c19 ?k19 ?a20 ?l20 ?c20 ?k20 ?a21 ?l21 ?c21 ?k21 ?a22 ?l22 ?c22 ?k22 ?a23 ?l23 ?c23 ?k23 ?a24 ?l24 ?c24 ?k24 ?a25 ?l25 ?c25 ?k25 ?a26 ?l26 ?c26 ?k26 ?a27 ?l27 ?c27 ?k27   ?z_len ?z_isinstance ?z_int ?z_bool ?z_tuple ?z_list ?z_set ?z_sorted ?z_divmod ?z_range ?z_abs ?z_min ?z_any ?z_sum
    (case a1 => k_is); (case l1 => k_is); (case c1 => k_is); (case k1 => k_is)
    (case a2 => k_is); (case l2 => k_is); (case c2 => k_is); (case k2 => k_is)
    (case a3 => k_is); (case l3 => k_is); (case c3 => k_is); (case k3 => k_is)
    (case a4 => k_is); (case l4 => k_is); (case c4 => k_is); (case k4 => k_is)
    (case a5 => k_is); (case l5 => k_is); (case c5 => k_is); (case k5 => k_is)
    (case a6 => k_is); (case l6 => k_is); (case c6 => k_is); (case k6 => k_is)
    (case a7 => k_is); (case l7 => k_is); (case c7 => k_is); (case k7 => k_is)
    (case a8 => k_is); (case l8 => k_is); (case c8 => k_is); (case k8 => k_is)
    (case a9 => k_is); (case l9 => k_is); (case c9 => k_is); (case k9 => k_is)
    (case a10 => k_is); (case l10 => k_is); (case c10 => k_is); (case k10 => k_is)
    (case a11 => k_is); (case l11 => k_is); (case dl11 => k_is); (case c11 => k_is); (case k11 => k_is)
    (case a12 => k_is); (case l12 => k_is); (case dl12 => k_is); (case c12 => k_is); (case k12 => k_is)
    (case a13 => k_is); (case l13 => k_is); (case dl13 => k_is); (case c13 => k_is); (case k13 => k_is)
    (case a14 => k_is); (case l14 => k_is); (case c14 => k_is); (case k14 => k_is)
    (case a15 => k_is); (case l15 => k_is); (case c15 => k_is); (case k15 => k_is)
    (case a16 => k_is); (case l16 => k_is); (case c16 => k_is); (case k16 => k_is)
    (case a17 => k_is); (case l17 => k_is); (case c17 => k_is); (case k17 => k_is)
    (case a18 => k_is); (case l18 => k_is); (case c18 => k_is); (case k18 => k_is)
    (case a19 => k_is); (case l19 => k_is); (case c19 => k_is); (case k19 => k_is)
    (case a20 => k_is); (case l20 => k_is); (case c20 => k_is); (case k20 => k_is)
    (case a21 => k_is); (case l21 => k_is); (case c21 => k_is); (case k21 => k_is)
    (case a22 => k_is); (case l22 => k_is); (case c22 => k_is); (case k22 => k_is)
    (case a23 => k_is); (case l23 => k_is); (case c23 => k_is); (case k23 => k_is)
    (case a24 => k_is); (case l24 => k_is); (case c24 => k_is); (case k24 => k_is)
    (case a25 => k_is); (case l25 => k_is); (case c25 => k_is); (case k25 => k_is)
    (case a26 => k_is); (case l26 => k_is); (case c26 => k_is); (case k26 => k_is)
    (case a27 => k_is); (case l27 => k_is); (case c27 => k_is); (case k27 => k_is)
    (case z_len => k_is)
    (case z_isinstance => k_is)
    (case z_int => k_is)
    (case z_bool => k_is)
    (case z_tuple => k_is)
    (case z_list => k_is)
    (case z_set => k_is)
    (case z_sorted => k_is)
    (case z_divmod => k_is)
    (case z_range => k_is)
    (case z_abs => k_is)
    (case z_min => k_is)
    (case z_any => k_is)
    (case z_sum => k_is)

