import PyProof.Rows.All
import Wide.All
import OpenK.AllK
import Wide.FinOn
import Lean
import PyProof.EqAt
import PyProof.EqKinds
import PyProof.TupleCall
import PySem.SetOps
import PyProof.SetKind
import PyProof.CollectWalk
import PyProof.FactsAll.set
import PyProof.ForAny
import PyProof.Rows.SortWalk
import PyProof.Rows.SetFrom
import KE.KSortAsk
import KE.KSortTup
import KE.KDictList
import KE.KMinBuiltin
import PyProof.EnumMake
import PyProof.NsDelKeeps
import PyProof.ExcInit
import PyProof.ExcClass2
import PySem.Challenge.RW_crossracks_k44_parted
set_option Elab.async false
set_option linter.all false
set_option maxRecDepth 100000
namespace L2
open PySem PySem.Spec PyProof.Rows
abbrev Key := Sum Int Str
def keyIs : Key → Value → Bool
  | .inl k, v => Value.isInt k v
  | .inr x, v => Value.isStrOf x v
def keyH (w : World) : Key → Int
  | .inl k => hashInt k
  | .inr x => hashStr w x
theorem keyIs_shape : ∀ {k : Key} {v : Value}, keyIs k v = true → (∃ i t, k = Sum.inl i ∧ v = Value.int i t) ∨ (∃ x t, k = Sum.inr x ∧ v = Value.str x t)
  | .inl i, v, h => by
    obtain ⟨t, e⟩ := Value.isInt_shape (k := i) (v := v) h
    exact .inl ⟨i, t, rfl, e⟩
  | .inr x, v, h => by
    obtain ⟨t, e⟩ := Value.isStrOf_shape (x := x) (v := v) h
    exact .inr ⟨x, t, rfl, e⟩
theorem keyIs_int (i : Int) (t : Tok) : keyIs (.inl i) (.int i t) = true := by simp [keyIs, Value.isInt]
theorem keyIs_str (x : Str) (t : Tok) : keyIs (.inr x) (.str x t) = true := by simp [keyIs, Value.isStrOf]
theorem key_ll (a b : Int) : decide ((Sum.inl a : Key) = Sum.inl b) = (a == b) := by
  by_cases e : a = b
  · subst e; simp
  · have h : ¬ (Sum.inl a : Key) = Sum.inl b := fun q => e (Sum.inl.inj q)
    rw [decide_eq_false h]
    exact (beq_eq_false_iff_ne.mpr e).symm
theorem key_rr (a b : Str) : decide ((Sum.inr a : Key) = Sum.inr b) = decide (a = b) := by
  by_cases e : a = b
  · subst e; simp
  · have h : ¬ (Sum.inr a : Key) = Sum.inr b := fun q => e (Sum.inr.inj q)
    rw [decide_eq_false h, decide_eq_false e]
theorem key_lr (a : Int) (b : Str) : decide ((Sum.inl a : Key) = Sum.inr b) = false := decide_eq_false (fun q => nomatch q)
theorem key_rl (a : Str) (b : Int) : decide ((Sum.inr a : Key) = Sum.inl b) = false := decide_eq_false (fun q => nomatch q)
def mixKind (prog : Program) (w : World) : PySem.KeyKind prog w Key where
  is := keyIs
  hash := keyH w
  inj := fun v a b ha hb => by
    rcases keyIs_shape ha with ⟨i, t, rfl, rfl⟩ | ⟨x, t, rfl, rfl⟩
    · rcases keyIs_shape hb with ⟨j, u, rfl, e⟩ | ⟨y, u, rfl, e⟩
      · injection e with e1 _; rw [e1]
      · exact nomatch e
    · rcases keyIs_shape hb with ⟨j, u, rfl, e⟩ | ⟨y, u, rfl, e⟩
      · exact nomatch e
      · injection e with e1 _; rw [e1]
  byValue := fun k v h => by
    rcases keyIs_shape h with ⟨i, t, rfl, rfl⟩ | ⟨x, t, rfl, rfl⟩ <;> rfl
  pyHash := fun hv h => by
    rcases keyIs_shape hv with ⟨i, t, rfl, rfl⟩ | ⟨x, t, rfl, rfl⟩
    · exact wpAny_pyHash_int h
    · exact wpAny_pyHash_str h
  eqBool := fun hu hv h => by
    rcases keyIs_shape hu with ⟨i, t, rfl, rfl⟩ | ⟨x, t, rfl, rfl⟩
    · rcases keyIs_shape hv with ⟨j, u, rfl, rfl⟩ | ⟨y, u, rfl, rfl⟩
      · rw [key_ll] at h; exact wpAny_eqBool_int h
      · rw [key_lr] at h; exact SeqAt.EqAt.int_str i t y u _ _ _ _ h
    · rcases keyIs_shape hv with ⟨j, u, rfl, rfl⟩ | ⟨y, u, rfl, rfl⟩
      · rw [key_rl] at h; exact SeqAt.EqAt.str_int x t j u _ _ _ _ h
      · rw [key_rr] at h; exact wpAny_eqBool_str h
  «strs» := fun k x t v h => by
    rcases keyIs_shape h with ⟨i, u, rfl, e⟩ | ⟨y, u, rfl, e⟩
    · exact nomatch e
    · injection e with e1 _
      subst e1
      cases v <;> rfl
theorem mixKind_int (prog : Program) (w : World) (i : Int) (t : Tok) : (mixKind prog w).is (.inl i) (.int i t) = true := keyIs_int i t
theorem mixKind_str (prog : Program) (w : World) (x : Str) (t : Tok) : (mixKind prog w).is (.inr x) (.str x t) = true := keyIs_str x t
end L2
namespace L2
open PySem PySem.Spec PyProof.Rows
inductive V where
  | non | bl (b : Bool) | int (i : Int) | str (x : Str) | byt (b : Array UInt8) | flt (b : UInt64) | ref (a : Addr) | ty (n : String)
  deriving DecidableEq
def RelV : V → Value → Prop
  | .non, u => u = Value.none
  | .bl b, u => u = Value.bool b
  | .int i, u => ∃ t, u = Value.int i t
  | .str x, u => ∃ t, u = Value.str x t
  | .byt b, u => ∃ t, u = Value.bytes b t
  | .flt b, u => ∃ t, u = Value.float b t
  | .ref a, u => u = Value.ref a
  | .ty n, u => u = Value.type n
abbrev Vals : List V → List Value → Prop := Paired RelV
theorem Vals.length {xs : List V} {us : List Value} (r : Vals xs us) : xs.length = us.length := Paired.length r
theorem Vals.get : ∀ {xs : List V} {us : List Value} {i : Nat} {x : V}, Vals xs us → xs[i]? = some x → ∃ u, us[i]? = some u ∧ RelV x u
  | _, _, _, _, .nil, e => by simp at e
  | _, _, 0, _, .cons r _, e => by simp at e; subst e; exact ⟨_, rfl, r⟩
  | _, _, i + 1, x, .cons _ t, e => by
    obtain ⟨u, h1, h2⟩ := Vals.get (i := i) (x := x) t (by simpa using e)
    exact ⟨u, by simpa using h1, h2⟩
theorem Vals.set {x : V} {u : Value} (r : RelV x u) : ∀ {xs : List V} {us : List Value} (i : Nat), Vals xs us → Vals (xs.set i x) (us.set i u)
  | _, _, _, .nil => .nil
  | _, _, 0, .cons _ t => .cons r t
  | _, _, i + 1, .cons q t => .cons q (Vals.set r i t)
theorem Vals.append : ∀ {xs ys : List V} {us ws : List Value}, Vals xs us → Vals ys ws → Vals (xs ++ ys) (us ++ ws)
  | _, _, _, _, .nil, s => s
  | _, _, _, _, .cons r t, s => .cons r (Vals.append t s)
def RelO : Option V → Option Value → Prop
  | some v, some u => RelV v u
  | none, none => True
  | _, _ => False
def KV {κ : Type} : List (κ × V) → List (κ × Value) → Prop := Paired fun (p : κ × V) (q : κ × Value) => p.1 = q.1 ∧ RelV p.2 q.2
def kV : Key → V
  | .inl i => .int i
  | .inr x => .str x
inductive HO where
  /-- a list -/
  | lst (xs : List V)
  /-- a tuple (never changes) -/
  | tup (xs : List V)
  /-- a dict whose keys are ints and texts; one whose keys are tuples of ints and texts (the empty one is both) -/
  | dK (kvs : List (Key × V)) | dT (kvs : List (List Key × V))
  /-- a set of ints: its members, its size -/
  | set (S : Int → Bool) (n : Nat)
  /-- an instance of the class at C, its dict at dx, its attributes -/
  | ins (C dx : Addr) (fs : List (Str × V))
  /-- the dict of the instance at x -/
  | own (x : Addr)
  /-- the dict of an exception -/
  | xd (fs : List (Str × V))
  /-- a bound method, f of x -/
  | met (f x : Addr)
  /-- a range object lo, lo + 1, .. below hi -/
  | rng (lo hi : Int)
  /-- a thing that is known to the object (the script; a dict while a loop walks it): read, never written while it is so -/
  | frz (o : Obj) (u : HO)
  /-- a code object's table -/
  | tbl (ps : Array Value)
  /-- any other thing, by what is true of its one object (a def of one's own: SetO a S n := HO.ext fun h => ..) -/
  | ext (φ : Heap → Prop)
abbrev Hp := Addr → Option HO
def upd (H : Hp) (a : Addr) (o : HO) : Hp := fun b => if b = a then some o else H b
theorem upd_same {H : Hp} {a : Addr} {o : HO} : upd H a o a = some o := by unfold upd; rw [if_pos rfl]
theorem upd_ne {H : Hp} {a b : Addr} {o : HO} (h : b ≠ a) : upd H a o b = H b := by unfold upd; rw [if_neg h]
theorem ne_of {H : Hp} {a b : Addr} {o u : HO} (h : H a = some o) (h' : H b = some u) (d : o ≠ u) : a ≠ b := by
  intro e; subst e; rw [h] at h'; exact d (Option.some.inj h')
theorem ne_of_none {H : Hp} {a b : Addr} {o : HO} (h : H a = some o) (h' : H b = none) : a ≠ b := by
  intro e; subst e; rw [h] at h'; cases h'
section
variable (P : Program) (w : World)
def ObjOk (H : Hp) (h : Heap) (a : Addr) : HO → Prop
  | .lst xs => xs.length ≤ sizeLine ∧ ∃ (its : List Value) (n : Nat), Vals xs its ∧ h.get? a = some { cls := .type "list", data := .seq its.toArray n }
  | .tup xs => xs.length ≤ sizeLine ∧ ∃ its : List Value, Vals xs its ∧ IsTup h a its.toArray
  | .dK kvs => kvs.length ≤ sizeLine ∧ (a == sysModules) = false ∧ ∃ vs, KV kvs vs ∧ h.DictOf (mixKind P w) a vs
  | .dT kvs => kvs.length ≤ sizeLine ∧ (a == sysModules) = false ∧ ∃ xs : List (List Key × Addr × Value),
      Paired (fun (p : List Key × V) (q : List Key × Addr × Value) => p.1 = q.1 ∧ H q.2.1 = some (.tup (p.1.map kV)) ∧ RelV p.2 q.2.2) kvs xs ∧
      ∃ o es ep, h.get? a = some o ∧ o.ExactDict ∧ o.data = .dict es ep ∧ es.toList = xs.map (entryOfKey (tupleKind (mixKind P w))) ∧ (xs.map (·.1)).Nodup
  | .set S n => h.SetOf (intKind P w) a S n
  | .ins C dx fs => H dx = some (.own a) ∧ fs.length ≤ 1000 ∧ dx ≠ a ∧ h.get? a = some (PySem.W.instObj C dx) ∧
      ∃ mA, h.Ns1 dx mA ∧ (∀ f, RelO (fs.lookup f) (mA f)) ∧ PySem.Within mA (fs.map (·.1))
  | .own _ => ∃ o, h.get? a = some o
  | .xd fs => ∃ mA, h.Ns1 a mA ∧ ∀ f, RelO (fs.lookup f) (mA f)
  | .rng lo hi => ∃ t u v, h.get? a = some { cls := .type "range", data := .fields #[.int lo t, .int hi u, .int 1 v] }
  | .frz o u => h.get? a = some o ∧ ObjOk H h a u
  | .tbl ps => h.get? a = some { cls := .none, data := .fields ps }
  | .met f x => h.get? a = some (PySem.W.methodObj (.ref f) (.ref x))
  | .ext φ => φ h ∧ (∃ o, h.get? a = some o) ∧ ∀ h1 h2 : Heap, φ h1 → (∀ o, h1.get? a = some o → h2.get? a = some o) → φ h2
def HOk (H : Hp) (h : Heap) : Prop := ∀ a o, H a = some o → ObjOk P w H h a o
end
section
variable {P : Program} {w : World} {H H' : Hp} {h h' : Heap} {a : Addr} {o : HO}
theorem ObjOk.lt (x : ObjOk P w H h a o) : a < h.objs.size := by
  cases o with
  | lst xs => obtain ⟨_, _, _, _, e⟩ := x; exact Heap.lt_size e
  | tup xs => obtain ⟨_, _, _, p⟩ := x; exact p.lt
  | dK kvs => obtain ⟨_, _, _, _, o, _, _, e, _⟩ := x; exact Heap.lt_size e
  | dT kvs => obtain ⟨_, _, _, _, o, _, _, e, _⟩ := x; exact Heap.lt_size e
  | set S n => obtain ⟨o, _, _, _, e, _⟩ := x; exact Heap.lt_size e
  | ins C dx fs => obtain ⟨_, _, _, e, _⟩ := x; exact Heap.lt_size e
  | own y => obtain ⟨_, e⟩ := x; exact Heap.lt_size e
  | xd fs => obtain ⟨_, ⟨_, _, _, e, _⟩, _⟩ := x; exact Heap.lt_size e
  | rng lo hi => obtain ⟨_, _, _, e⟩ := x; exact Heap.lt_size e
  | frz ob u => obtain ⟨e, _⟩ := x; exact Heap.lt_size e
  | tbl ps => exact Heap.lt_size (show h.get? a = some _ from x)
  | met f y => exact Heap.lt_size (show h.get? a = some _ from x)
  | ext φ => obtain ⟨_, ⟨_, e⟩, _⟩ := x; exact Heap.lt_size e
theorem Paired.mapP {α β : Type} {F G : α → β → Prop} : ∀ {l₁ : List α} {l₂ : List β}, Paired F l₁ l₂ → (∀ a b, F a b → G a b) → Paired G l₁ l₂
  | _, _, .nil, _ => .nil
  | _, _, .cons r t, f => .cons (f _ _ r) (Paired.mapP t f)
theorem ObjOk.stay (x : ObjOk P w H h a o) (k : ∀ b u, (b = a ∨ H b = some (.own a)) → h.get? b = some u → h'.get? b = some u)
    (ho : ∀ b, H b = some (.own a) → H' b = some (.own a)) (ht : ∀ b xs, H b = some (.tup xs) → H' b = some (.tup xs)) : ObjOk P w H' h' a o := by
  induction o with
  | lst xs => obtain ⟨z, its, n, r, e⟩ := x; exact ⟨z, its, n, r, k _ _ (.inl rfl) e⟩
  | tup xs => obtain ⟨z, its, r, ob, e, c⟩ := x; exact ⟨z, its, r, ob, k _ _ (.inl rfl) e, c⟩
  | dK kvs => obtain ⟨z, y, vs, r, ob, es, ep, e, c⟩ := x; exact ⟨z, y, vs, r, ob, es, ep, k _ _ (.inl rfl) e, c⟩
  | dT kvs =>
    obtain ⟨z, y, xs, r, ob, es, ep, e, c⟩ := x
    exact ⟨z, y, xs, Paired.mapP r fun p q z => ⟨z.1, ht _ _ z.2.1, z.2.2⟩, ob, es, ep, k _ _ (.inl rfl) e, c⟩
  | set S n => obtain ⟨ob, es, ep, t, e, c⟩ := x; exact ⟨ob, es, ep, t, k _ _ (.inl rfl) e, c⟩
  | ins C dx fs =>
    obtain ⟨d, z, ne, e, mA, ⟨od, es, ep, e2, c⟩, r⟩ := x
    exact ⟨ho _ d, z, ne, k _ _ (.inl rfl) e, mA, ⟨od, es, ep, k _ _ (.inr d) e2, c⟩, r⟩
  | own y => obtain ⟨ob, e⟩ := x; exact ⟨ob, k _ _ (.inl rfl) e⟩
  | xd fs => obtain ⟨mA, ⟨od, es, ep, e, c⟩, r⟩ := x; exact ⟨mA, ⟨od, es, ep, k _ _ (.inl rfl) e, c⟩, r⟩
  | rng lo hi => obtain ⟨t, u, v, e⟩ := x; exact ⟨t, u, v, k _ _ (.inl rfl) e⟩
  | frz ob u ih => obtain ⟨e, q⟩ := x; exact ⟨k _ _ (.inl rfl) e, ih q⟩
  | tbl ps =>
    have e : h.get? a = some { cls := .none, data := .fields ps } := x
    show h'.get? a = some { cls := .none, data := .fields ps }
    exact k a _ (.inl rfl) e
  | met f y =>
    have e : h.get? a = some (PySem.W.methodObj (.ref f) (.ref y)) := x
    show h'.get? a = some (PySem.W.methodObj (.ref f) (.ref y))
    exact k a _ (.inl rfl) e
  | ext φ => obtain ⟨p, ⟨o, e⟩, st⟩ := x; exact ⟨st _ _ p fun o q => k _ _ (.inl rfl) q, ⟨o, k _ _ (.inl rfl) e⟩, st⟩
theorem HOk.lt (x : HOk P w H h) (e : H a = some o) : a < h.objs.size := (x a o e).lt
theorem HOk.fresh (x : HOk P w H h) (e : h.objs.size ≤ a) : H a = none := by
  cases q : H a with
  | none => rfl
  | some u => exact absurd (Nat.lt_of_lt_of_le (x.lt q) e) (Nat.lt_irrefl _)
theorem HOk.kept (x : HOk P w H h) (k : ∀ b u, h.get? b = some u → h'.get? b = some u) : HOk P w H h' := fun a o e =>
  (x a o e).stay (fun b u _ q => k b u q) (fun _ q => q) fun _ _ q => q
theorem HOk.laid (x : HOk P w H h) (k : ∀ b u, h.get? b = some u → h'.get? b = some u) (hp : h.objs.size ≤ a) (new : ObjOk P w (upd H a o) h' a o) : HOk P w (upd H a o) h' := fun b u e => by
  have hn := x.fresh hp
  by_cases hb : b = a
  · subst hb; rw [upd_same] at e; cases e; exact new
  · rw [upd_ne hb] at e
    exact (x b u e).stay (fun c v _ q => k c v q) (fun c q => by rw [upd_ne (ne_of_none q hn)]; exact q) fun c xs q => by rw [upd_ne (ne_of_none q hn)]; exact q
end
def Rd (H : Hp) (a : Addr) (u : HO) : Prop := H a = some u ∨ ∃ o, H a = some (.frz o u)
theorem Rd.ok {P : Program} {w : World} {H : Hp} {h : Heap} {a : Addr} {u : HO} (r : Rd H a u) (x : HOk P w H h) : ObjOk P w H h a u := by
  rcases r with r | ⟨o, r⟩
  · exact x a u r
  · obtain ⟨_, q⟩ := x a _ r
    exact q
def Mut : Option HO → Prop
  | some (.lst _) => True
  | some (.dK _) => True
  | some (.dT _) => True
  | some (.set _ _) => True
  | some (.ins _ _ _) => True
  | some (.ext _) => True
  | _ => False
section
variable {P : Program} {w : World} {H : Hp} {h h' : Heap} {x e : Addr} {o' : HO}
theorem HOk.write (ok : HOk P w H h) (mu : Mut (H x)) (he : e = x ∨ H e = some (.own x)) (k : ∀ b u, b ≠ e → h.get? b = some u → h'.get? b = some u) (heo : ∃ u, h'.get? e = some u)
    (new : ObjOk P w (upd H x o') h' x o') : HOk P w (upd H x o') h' := fun b u q => by
  have nown : ∀ c y, H c = some (.own y) → c ≠ x := fun c y r z => by subst z; rw [r] at mu; exact mu
  have ntup : ∀ c xs, H c = some (.tup xs) → c ≠ x := fun c xs r z => by subst z; rw [r] at mu; exact mu
  by_cases hb : b = x
  · subst hb; rw [upd_same] at q; cases q; exact new
  · rw [upd_ne hb] at q
    by_cases hbe : b = e
    · have q' : H b = some (.own x) := by
        rcases he with z | z
        · exact absurd (hbe.trans z) hb
        · rw [hbe]; exact z
      rw [q] at q'; cases q'
      obtain ⟨v, hv⟩ := heo
      exact ⟨v, by rw [hbe]; exact hv⟩
    · refine (ok b u q).stay (fun c v hc r => k c v ?_ r) (fun c r => by rw [upd_ne (nown c b r)]; exact r) fun c xs r => by rw [upd_ne (ntup c xs r)]; exact r
      rcases hc with rfl | hc
      · exact hbe
      · rintro rfl
        rcases he with z | z
        · exact nown c b hc z
        · rw [hc] at z; cases z; exact hb rfl
end
structure Un (fs ex : List Addr) (H H' : Hp) (h h' : Heap) : Prop where
  keep : ∀ b o, h.get? b = some o → H b = none → b ∉ fs → b ∉ ex → h'.get? b = some o
  slot : ∀ b o, h.get? b = some o → H b = none → b ∈ fs → b ∉ ex → ∃ sl, h'.get? b = some { o with slots := sl }
  free : ∀ b o, h.get? b = some o → H b = none → b ∉ ex → H' b = none
  there : ∀ b o, h.get? b = some o → b ∉ ex → ∃ o', h'.get? b = some o'
  tups : ∀ b xs, H b = some (.tup xs) → H' b = some (.tup xs)
  frzs : ∀ b o u, H b = some (.frz o u) → H' b = some (.frz o u)
  tbls : ∀ b ps, H b = some (.tbl ps) → ∃ more, H' b = some (.tbl (ps ++ more))
section
variable {fs fs' ex ex' : List Addr} {H H1 H2 : Hp} {h h1 h2 h' : Heap} {a x e : Addr} {o : HO}
theorem Un.any (u : Un fs ex H H1 h h1) {b : Addr} {ob : Obj} (q : h.get? b = some ob) (n : H b = none) (hx : b ∉ ex) : ∃ sl, h1.get? b = some { ob with slots := sl } := by
  by_cases hb : b ∈ fs
  · exact u.slot b ob q n hb hx
  · exact ⟨ob.slots, u.keep b ob q n hb hx⟩
theorem Un.kept (k : ∀ b u, h.get? b = some u → h'.get? b = some u) : Un fs ex H H h h' :=
  ⟨fun b ob q _ _ _ => k b ob q, fun b ob q _ _ _ => ⟨ob.slots, k b ob q⟩, fun _ _ _ n _ => n, fun b ob q _ => ⟨ob, k b ob q⟩, fun _ _ q => q, fun _ _ _ q => q, fun _ ps q => ⟨#[], by rw [q]; simp⟩⟩
theorem Un.refl : Un fs ex H H h h := Un.kept fun _ _ q => q
theorem Un.laid (k : ∀ b u, h.get? b = some u → h'.get? b = some u) (hp : h.objs.size ≤ a) (hn : H a = none) : Un fs ex H (upd H a o) h h' where
  keep := fun b u q _ _ _ => k b u q
  slot := fun b u q _ _ _ => ⟨u.slots, k b u q⟩
  free := fun b u q n _ => by rw [upd_ne (Nat.ne_of_lt (Nat.lt_of_lt_of_le (Heap.lt_size q) hp))]; exact n
  there := fun b u q _ => ⟨u, k b u q⟩
  tups := fun b xs q => by rw [upd_ne (ne_of_none q hn)]; exact q
  frzs := fun b u xs q => by rw [upd_ne (ne_of_none q hn)]; exact q
  tbls := fun b ps q => ⟨#[], by rw [upd_ne (ne_of_none q hn), q]; simp⟩
theorem Un.write (mu : Mut (H x)) (he : e = x ∨ H e = some (.own x)) (k : ∀ b u, b ≠ e → h.get? b = some u → h'.get? b = some u) (heo : ∃ u, h'.get? e = some u) : Un fs ex H (upd H x o) h h' := by
  have hx : ∀ b, H b = none → b ≠ x := fun b n z => by subst z; rw [n] at mu; exact mu
  have hb : ∀ b, H b = none → b ≠ e := fun b n z => by
    subst z
    rcases he with r | r
    · exact hx b n r
    · rw [n] at r; cases r
  have hm : ∀ b u, H b = some u → ¬ Mut (some u) → b ≠ x := fun b u q nm z => by subst z; rw [q] at mu; exact nm mu
  refine ⟨fun b u q n _ _ => k b u (hb b n) q, fun b u q n _ _ => ⟨u.slots, k b u (hb b n) q⟩, fun b u q n _ => by rw [upd_ne (hx b n)]; exact n, fun b u q _ => ?_,
    fun b xs q => by rw [upd_ne (hm b _ q fun z => z)]; exact q, fun b u xs q => by rw [upd_ne (hm b _ q fun z => z)]; exact q, fun b ps q => ⟨#[], by rw [upd_ne (hm b _ q fun z => z), q]; simp⟩⟩
  by_cases hbe : b = e
  · subst hbe; exact heo
  · exact ⟨u, k b u hbe q⟩
end
def trk (h : Heap) (H : Hp) : List Addr := (List.range h.objs.size).filter fun a => (H a).isSome
def hidT (h : Heap) (H : Hp) : Heap := PySem.W.hideAll h (trk h H)
theorem hidT_size (h : Heap) (H : Hp) : (hidT h H).objs.size = h.objs.size := PySem.W.hideAll_size _ _
theorem hidT_get {h : Heap} {H : Hp} {b : Addr} {o : Obj} (e : h.get? b = some o) (n : H b = none) : (hidT h H).get? b = some o :=
  PySem.W.hideAll_get _ e fun hm => by
    have q : (H b).isSome = true := (List.mem_filter.mp hm).2
    rw [n] at q; simp at q
theorem of_hidT {h : Heap} {H : Hp} {b : Addr} {o : Obj} (e : (hidT h H).get? b = some o) : h.get? b = some o ∧ H b = none := by
  have e' : h.get? b = some o := PySem.W.of_hideAll (trk h H) e
  refine ⟨e', ?_⟩
  cases q : H b with
  | none => rfl
  | some x =>
    have hm : b ∈ trk h H := List.mem_filter.mpr ⟨List.mem_range.mpr (Heap.lt_size e'), by simp [q]⟩
    have z : (hidT h H).get? b = none := PySem.W.hideAll_none (trk h H) hm
    rw [z] at e; cases e
end L2
namespace L2
open PySem PySem.Spec PyProof.Rows
structure Mod (K : PySem.W.Frag) (mg : Str → Option Value) (base : Heap) : Prop where
  kin : K.In base
  glob : base.Ns mainGlobals mg
  blt : ∃ mb, base.Ns builtinsNs mb ∧ ∀ x : Str, x ≠ "__name__" → mb x = bootBuiltins x
  nolimit : base.NoLimit
structure Cx where
  prog : Program
  w : World
  K : PySem.W.Frag
  mg : Str → Option Value
  base : Heap
  A : Around
  N : List Str
  s₀ : Shared
  H₀ : Hp
  env : Env
  outer : List Env
  stack : List Env
  ex : List Addr
  fn : Str → Bool
  calm : Bool
  pn : List (Addr × Obj)
  xe : Value → Shared → Prop
def frs (l : List Env) : List Addr := l.filterMap (·.frame)
abbrev Cx.fs (X : Cx) : List Addr := frs X.outer
def Vis (sc : Scope) (x : Str) : Prop := sc.names.lookup x = some .local ∨ sc.names.lookup x = some .cell ∨ sc.names.lookup x = some .free
def Loc (sc : Scope) (x : Str) : Prop := sc.names.lookup x = some .local ∨ sc.names.lookup x = some .cell
def Look (env : Env) (h : Heap) (m : Str → Option Value) (x : Str) (u : Value) : Prop :=
  (env.kindOf x = some .local ∧ m x = some u) ∨ ((env.kindOf x = some .cell ∨ env.kindOf x = some .free) ∧ ∃ c, env.cells.lookup x = some c ∧ h.IsCell c (some u))
structure Cx.Ok (X : Cx) : Prop where
  mod : Mod X.K X.mg X.base
  kind : X.env.scope.kind = .function
  glob : X.env.globals = mainGlobals
  blt : X.env.builtins = builtinsNs
  above : X.s₀.heap.objs.size ≤ X.env.locals
  inj : ∀ x y c, X.env.cells.lookup x = some c → X.env.cells.lookup y = some c → x = y
  has : ∀ x, (X.env.kindOf x = some .cell ∨ X.env.kindOf x = some .free) → ∃ c, X.env.cells.lookup x = some c
  cab : ∀ x c, X.fn x = true → X.env.cells.lookup x = some c → X.s₀.heap.objs.size ≤ c
  hd : X.calm = true → X.A.handled = none
  frames : X.A.frames = some X.stack
  stk : X.stack = X.outer ∨ (X.stack = X.env :: X.outer ∧ X.env.frame = some X.env.locals)
  exf : ∀ b ∈ X.ex, b ≠ X.env.locals ∧ ∀ x c, X.env.cells.lookup x = some c → c ≠ b
  bs : ∀ b o, X.base.get? b = some o → X.s₀.heap.get? b = some o ∧ X.H₀ b = none
  bsz : X.base.objs.size ≤ X.s₀.heap.objs.size
  noex : ∀ b o, X.base.get? b = some o → b ∉ X.ex
  exfs : ∀ b ∈ X.ex, b ∉ X.fs
  funs : X.s₀.heap.FunFrames X.base X.outer
  frf : ∀ b ∈ X.fs, X.H₀ b = none
structure Inv (X : Cx) (pins : List (Addr × Obj)) (σ : List (Option V)) (H : Hp) (s : Shared) : Prop where
  ok : X.Ok
  os : s.os = X.s₀.os
  bare : AllBare s.gens
  base : Un X.fs X.ex X.H₀ H X.s₀.heap s.heap
  loc : ∃ m, s.heap.Ns X.env.locals m ∧ ∀ (i : Nat) (x : Str) (v : V), X.N[i]? = some x → σ[i]? = some (some v) → Vis X.env.scope x → ∃ u, RelV v u ∧ Look X.env s.heap m x u
  cell : ∀ x c, X.env.cells.lookup x = some c → ∃ v, s.heap.IsCell c v
  free : H X.env.locals = none
  freeC : ∀ x c, X.env.cells.lookup x = some c → H c = none
  pin : ∀ p ∈ X.pn ++ pins, s.heap.get? p.1 = some p.2 ∧ H p.1 = none ∧ p.1 ≠ X.env.locals ∧ p.1 ∉ X.fs ∧ ∀ v, p.2.data ≠ .cell v
  hok : HOk X.prog X.w H s.heap
  len : σ.length = X.N.length
section
variable {X : Cx} {pins : List (Addr × Obj)} {σ : List (Option V)} {H H' : Hp} {s : Shared} {h' : Heap}
theorem Cx.Ok.nofr (ok : X.Ok) {b : Addr} {o : Obj} (e : X.base.get? b = some o) : b ∉ X.fs := fun hb => by
  have := (ok.funs.mem hb).1
  rw [e] at this; cases this
theorem Inv.bs (I : Inv X pins σ H s) : ∀ b o, X.base.get? b = some o → s.heap.get? b = some o ∧ H b = none := fun b o e =>
  ⟨I.base.keep b o (I.ok.bs b o e).1 (I.ok.bs b o e).2 (I.ok.nofr e) (I.ok.noex b o e), I.base.free b o (I.ok.bs b o e).1 (I.ok.bs b o e).2 (I.ok.noex b o e)⟩
theorem Inv.bk (I : Inv X pins σ H s) : ∀ b o, X.base.get? b = some o → s.heap.get? b = some o := fun b o e => (I.bs b o e).1
theorem Inv.mod (I : Inv X pins σ H s) : Mod X.K X.mg X.base := I.ok.mod
theorem Inv.kIn (I : Inv X pins σ H s) : X.K.In s.heap := I.ok.mod.kin.keeps I.bk
theorem Inv.lt (I : Inv X pins σ H s) : X.env.locals < s.heap.objs.size := let ⟨_, hn, _⟩ := I.loc; hn.lt
theorem Inv.sz (I : Inv X pins σ H s) : X.s₀.heap.objs.size ≤ s.heap.objs.size := Nat.le_trans I.ok.above (Nat.le_of_lt I.lt)
theorem Inv.nofs (I : Inv X pins σ H s) {a : Addr} (h : s.heap.objs.size ≤ a) : a ∉ X.fs := fun hb => by
  obtain ⟨_, o, ho, _⟩ := I.ok.funs.mem hb
  exact absurd (Nat.lt_of_lt_of_le (Heap.lt_size ho) (Nat.le_trans I.sz h)) (Nat.lt_irrefl _)
theorem Inv.cne (I : Inv X pins σ H s) : ∀ x c, X.env.cells.lookup x = some c → c ≠ X.env.locals := fun x c e z => by
  obtain ⟨v, o, ho, hd⟩ := I.cell x c e
  obtain ⟨m, ⟨o', es, ep, ho', hd', _⟩, _⟩ := I.loc
  rw [z, ho'] at ho; cases ho; rw [hd'] at hd; cases hd
theorem Inv.funs (I : Inv X pins σ H s) : s.heap.FunFrames X.base X.outer := by
  have all : ∀ (l : List Env), (∀ b ∈ frs l, b ∈ X.fs) → X.s₀.heap.FunFrames X.base l → s.heap.FunFrames X.base l := by
    intro l
    induction l with
    | nil => intro _ _; trivial
    | cons env r ih =>
      intro hs hl
      obtain ⟨hk, ⟨L, o, hf, hn, ho, hd⟩, hr⟩ := hl
      have hL : L ∈ X.fs := hs L (by unfold frs; rw [List.filterMap_cons, hf]; exact List.mem_cons_self)
      obtain ⟨sl, e⟩ := I.base.slot L o ho (I.ok.frf L hL) hL fun z => I.ok.exfs L z hL
      exact ⟨hk, ⟨L, _, hf, hn, e, hd⟩, ih (fun b hb => hs b (by unfold frs; rw [List.filterMap_cons, hf]; exact List.mem_cons_of_mem _ hb)) hr⟩
  exact all X.outer (fun _ hb => hb) I.ok.funs
theorem Inv.stack (I : Inv X pins σ H s) : s.heap.FunFrames X.base X.stack := by
  rcases I.ok.stk with e | ⟨e, hf⟩
  · rw [e]; exact I.funs
  · rw [e]
    obtain ⟨m, hn, _⟩ := I.loc
    refine .cons (by rw [I.ok.kind]; decide) hf hn ?_ I.funs
    exact Heap.get?_none_of_le (Nat.le_trans I.ok.bsz I.ok.above)
theorem Inv.stkSub (I : Inv X pins σ H s) : ∀ b ∈ frs X.stack, b ∈ X.env.locals :: X.fs := fun b hb => by
  rcases I.ok.stk with e | ⟨e, hf⟩
  · rw [e] at hb; exact List.mem_cons_of_mem _ hb
  · rw [e] at hb
    unfold frs at hb
    rw [List.filterMap_cons, hf] at hb
    exact hb
theorem Inv.stkFree (I : Inv X pins σ H s) : ∀ b ∈ frs X.stack, H b = none := fun b hb => by
  rcases List.mem_cons.mp (I.stkSub b hb) with e | hb
  · rw [e]; exact I.free
  · obtain ⟨_, o, ho, _⟩ := I.ok.funs.mem hb
    exact I.base.free b o ho (I.ok.frf b hb) fun z => I.ok.exfs b z hb
theorem Inv.step {g' : Array GenState} {t' : Nat} {d' : Drawn} {ch : List Addr} (I : Inv X pins σ H s)
    (hch : ∀ b ∈ ch, (b ∈ X.ex ∨ X.s₀.heap.objs.size ≤ b) ∧ b ≠ X.env.locals ∧ (∀ x c, X.env.cells.lookup x = some c → c ≠ b) ∧ ∀ p ∈ X.pn ++ pins, p.1 ≠ b)
    (keep : ∀ b o, b ≠ X.env.locals → b ∉ X.fs → b ∉ ch → s.heap.get? b = some o → H b = none → h'.get? b = some o)
    (slot : ∀ b o, b ≠ X.env.locals → b ∈ X.fs → b ∉ ch → s.heap.get? b = some o → H b = none → ∃ sl, h'.get? b = some { o with slots := sl }) (free : ∀ b o, b ∉ ch → s.heap.get? b = some o → H b = none → H' b = none)
    (there : ∀ b o, b ∉ ch → s.heap.get? b = some o → ∃ o', h'.get? b = some o')
    (tups : ∀ b xs, H b = some (.tup xs) → H' b = some (.tup xs)) (frzs : ∀ b o u, H b = some (.frz o u) → H' b = some (.frz o u)) (tbls : ∀ b ps, H b = some (.tbl ps) → ∃ more, H' b = some (.tbl (ps ++ more)))
    (ns : ∀ m, s.heap.Ns X.env.locals m → h'.Ns X.env.locals m) (hok : HOk X.prog X.w H' h') (hg : AllBare g') :
    Inv X pins σ H' { s with heap := h', gens := g', drawn := d', toks := t' } := by
  have neL : ∀ b o, X.s₀.heap.get? b = some o → b ≠ X.env.locals := fun b o e => Nat.ne_of_lt (Nat.lt_of_lt_of_le (Heap.lt_size e) I.ok.above)
  have neC : ∀ b o, X.s₀.heap.get? b = some o → b ∉ X.ex → b ∉ ch := fun b o e hx hb => by
    rcases (hch b hb).1 with z | z
    · exact hx z
    · exact absurd (Nat.lt_of_lt_of_le (Heap.lt_size e) z) (Nat.lt_irrefl _)
  have cellK : ∀ x c, X.env.cells.lookup x = some c → ∀ v, s.heap.IsCell c v → h'.IsCell c v := fun x c e v ⟨o, ho, hd⟩ => by
    have nch : c ∉ ch := fun z => (hch c z).2.2.1 x c e rfl
    by_cases hc : c ∈ X.fs
    · obtain ⟨sl, q⟩ := slot c o (I.cne x c e) hc nch ho (I.freeC x c e)
      exact ⟨_, q, hd⟩
    · exact ⟨o, keep c o (I.cne x c e) hc nch ho (I.freeC x c e), hd⟩
  refine ⟨I.ok, I.os, hg, ⟨fun b o e n hb hx => ?_, fun b o e n hb hx => ?_, fun b o e n hx => ?_, fun b o e hx => ?_, fun b xs e => tups b xs (I.base.tups b xs e), fun b o xs e => frzs b o xs (I.base.frzs b o xs e), fun b ps e => ?_⟩, ?_, fun x c e => ?_, ?_, fun x c e => ?_, fun p hp => ?_, hok, I.len⟩
  · exact keep b o (neL b o e) hb (neC b o e hx) (I.base.keep b o e n hb hx) (I.base.free b o e n hx)
  · obtain ⟨sl, e1⟩ := I.base.slot b o e n hb hx
    obtain ⟨sl', e2⟩ := slot b _ (neL b o e) hb (neC b o e hx) e1 (I.base.free b o e n hx)
    exact ⟨sl', e2⟩
  · obtain ⟨o', e1⟩ := I.base.there b o e hx
    exact free b o' (neC b o e hx) e1 (I.base.free b o e n hx)
  · obtain ⟨o', e1⟩ := I.base.there b o e hx
    exact there b o' (neC b o e hx) e1
  · obtain ⟨m1, e1⟩ := I.base.tbls b ps e
    obtain ⟨m2, e2⟩ := tbls b _ e1
    exact ⟨m1 ++ m2, by rw [e2, Array.append_assoc]⟩
  · obtain ⟨m, hn, hl⟩ := I.loc
    refine ⟨m, ns m hn, fun i x v e1 e2 e3 => ?_⟩
    obtain ⟨u, r, l⟩ := hl i x v e1 e2 e3
    refine ⟨u, r, ?_⟩
    rcases l with l | ⟨k, c, e, z⟩
    · exact .inl l
    · exact .inr ⟨k, c, e, cellK x c e _ z⟩
  · obtain ⟨v, z⟩ := I.cell x c e
    exact ⟨v, cellK x c e v z⟩
  · obtain ⟨m, ⟨o, _, _, ho, _⟩, _⟩ := I.loc
    exact free _ o (fun z => (hch _ z).2.1 rfl) ho I.free
  · obtain ⟨v, o, ho, hd⟩ := I.cell x c e
    exact free c o (fun z => (hch c z).2.2.1 x c e rfl) ho (I.freeC x c e)
  · obtain ⟨e, n, ne, nf, d⟩ := I.pin p hp
    have nch : p.1 ∉ ch := fun z => (hch p.1 z).2.2.2 p hp rfl
    exact ⟨keep p.1 p.2 ne nf nch e n, free p.1 p.2 nch e n, ne, nf, d⟩
theorem Inv.un {t' : Nat} (I : Inv X pins σ H s) (u : Un X.fs [] H H' s.heap h') (hok : HOk X.prog X.w H' h') : Inv X pins σ H' { s with heap := h', toks := t' } := by
  obtain ⟨m, ⟨o, es, ep, ho, r⟩, _⟩ := id I.loc
  obtain ⟨sl, hL⟩ := u.any ho I.free (by simp)
  exact I.step (g' := s.gens) (d' := s.drawn) (ch := []) (fun _ z => nomatch z) (fun b o _ hb _ e n => u.keep b o e n hb (by simp)) (fun b o _ hb _ e n => u.slot b o e n hb (by simp)) (fun b o _ e n => u.free b o e n (by simp)) (fun b o _ e => u.there b o e (by simp)) u.tups u.frzs u.tbls (fun m' hm => by
    obtain ⟨o', es', ep', ho', r'⟩ := hm
    rw [ho] at ho'; cases ho'
    exact ⟨_, es', ep', hL, r'⟩) hok I.bare
theorem Inv.call {g' : Array GenState} {t' : Nat} {d' : Drawn} {ch : List Addr} (I : Inv X pins σ H s) (u : Un (frs X.stack) ch H H' s.heap h') (hok : HOk X.prog X.w H' h') (hg : AllBare g')
    (hch : ∀ b ∈ ch, (b ∈ X.ex ∨ X.s₀.heap.objs.size ≤ b) ∧ b ≠ X.env.locals ∧ (∀ x c, X.env.cells.lookup x = some c → c ≠ b) ∧ ∀ p ∈ X.pn ++ pins, p.1 ≠ b) :
    Inv X pins σ H' { s with heap := h', gens := g', drawn := d', toks := t' } := by
  obtain ⟨m, ⟨o, es, ep, ho, r⟩, _⟩ := id I.loc
  obtain ⟨sl, hL⟩ := u.any ho I.free fun z => (hch _ z).2.1 rfl
  exact I.step (ch := ch) hch (fun b o hL hb hc e n => u.keep b o e n (fun z => (List.mem_cons.mp (I.stkSub b z)).elim hL hb) hc) (fun b o _ _ hc e n => u.any e n hc) (fun b o hc e n => u.free b o e n hc) (fun b o hc e => u.there b o e hc) u.tups u.frzs u.tbls (fun m' hm => by
    obtain ⟨o', es', ep', ho', r'⟩ := hm
    rw [ho] at ho'; cases ho'
    exact ⟨_, es', ep', hL, r'⟩) hok hg
theorem Inv.turned {t' : Nat} {it : Addr} (I : Inv X pins σ H s) (k : ∀ b o, b ≠ it → s.heap.get? b = some o → h'.get? b = some o) (hn : H it = none) (hL : it ≠ X.env.locals)
    (h1 : it ∈ X.ex ∨ X.s₀.heap.objs.size ≤ it) (h2 : ∀ x c, X.env.cells.lookup x = some c → c ≠ it) (h3 : ∀ p ∈ X.pn ++ pins, p.1 ≠ it) : Inv X pins σ H { s with heap := h', toks := t' } := by
  have nit : ∀ b u, H b = some u → b ≠ it := fun b u e z => by rw [z, hn] at e; cases e
  refine I.step (g' := s.gens) (d' := s.drawn) (ch := [it]) (fun b hb => ?_) (fun b o _ _ hc e _ => k b o (fun z => hc (by simp [z])) e) (fun b o _ _ hc e _ => ⟨o.slots, k b o (fun z => hc (by simp [z])) e⟩) (fun _ _ _ _ n => n)
    (fun b o hc e => ⟨o, k b o (fun z => hc (by simp [z])) e⟩) (fun _ _ e => e) (fun _ _ _ e => e) (fun b ps e => ⟨#[], by rw [e]; simp⟩) (fun m hm => ?_) (fun b u e => ?_) I.bare
  · have e : b = it := by simpa using hb
    subst e
    exact ⟨h1, hL, h2, h3⟩
  · obtain ⟨o, es, ep, ho, r⟩ := hm
    exact ⟨o, es, ep, k _ o (Ne.symm hL) ho, r⟩
  · refine (I.hok b u e).stay (fun c v hc q => k c v ?_ q) (fun _ q => q) fun _ _ q => q
    rcases hc with z | z
    · rw [z]; exact nit b u e
    · exact nit c _ z
theorem Inv.tok (I : Inv X pins σ H s) (t : Nat) : Inv X pins σ H { s with toks := t } := I.un (h' := s.heap) (t' := t) Un.refl I.hok
theorem Inv.kept {t' : Nat} (I : Inv X pins σ H s) (k : ∀ b u, s.heap.get? b = some u → h'.get? b = some u) : Inv X pins σ H { s with heap := h', toks := t' } := I.un (Un.kept k) (I.hok.kept k)
theorem Inv.laid {a : Addr} {o : HO} {t' : Nat} (I : Inv X pins σ H s) (k : ∀ b u, s.heap.get? b = some u → h'.get? b = some u) (hp : s.heap.objs.size ≤ a) (new : ObjOk X.prog X.w (upd H a o) h' a o) :
    Inv X pins σ (upd H a o) { s with heap := h', toks := t' } := I.un (Un.laid k hp (I.hok.fresh hp)) (I.hok.laid k hp new)
theorem Inv.write {x e : Addr} {o : HO} {t' : Nat} (I : Inv X pins σ H s) (mu : Mut (H x)) (he : e = x ∨ H e = some (.own x)) (k : ∀ b u, b ≠ e → s.heap.get? b = some u → h'.get? b = some u) (heo : ∃ u, h'.get? e = some u)
    (new : ObjOk X.prog X.w (upd H x o) h' x o) : Inv X pins σ (upd H x o) { s with heap := h', toks := t' } := I.un (Un.write mu he k heo) (I.hok.write mu he k heo new)
theorem Inv.pins_of {pins' : List (Addr × Obj)} (I : Inv X pins σ H s) (h : ∀ p ∈ pins', s.heap.get? p.1 = some p.2 ∧ H p.1 = none ∧ p.1 ≠ X.env.locals ∧ p.1 ∉ X.fs ∧ ∀ v, p.2.data ≠ .cell v) : Inv X pins' σ H s :=
  ⟨I.ok, I.os, I.bare, I.base, I.loc, I.cell, I.free, I.freeC, fun p hp => (List.mem_append.mp hp).elim (fun z => I.pin p (List.mem_append_left _ z)) (h p), I.hok, I.len⟩
theorem nodup_ix {N : List Str} (hN : N.Nodup) {i j : Nat} {x : Str} (a : N[i]? = some x) (b : N[j]? = some x) : i = j := by
  obtain ⟨h1, e1⟩ := List.getElem?_eq_some_iff.mp a
  obtain ⟨h2, e2⟩ := List.getElem?_eq_some_iff.mp b
  exact (List.getElem_inj hN).mp (e1.trans e2.symm)
theorem store_ok2 {M : Model} {A : Around} {E : Value → Shared → Prop} {i : Nat} {x : Str} {v : V} {u : Value} {Q : Unit → Shared → Prop} (I : Inv X pins σ H s) (hN : X.N.Nodup) (hi : X.N[i]? = some x) (hx : Loc X.env.scope x) (r : RelV v u)
    (h : ∀ s', Inv X pins (σ.set i (some v)) H s' → (∃ a, Heap.SameBut a s.heap s'.heap ∧ (a = X.env.locals ∨ X.env.cells.lookup x = some a)) → Q () s') (hf : X.fn x = true ∨ X.env.scope.names.lookup x = some .local := by first | exact .inl rfl | exact .inr rfl | assumption) : wpAny M A (storeName X.env x u) Q E s := by
  obtain ⟨m, hn, hl⟩ := id I.loc
  have hcls : (X.env.scope.kind == .class || (X.env.scope.kind == .module && X.env.locals != X.env.globals)) = false := by rw [I.ok.kind]; rfl
  have hiσ : i < σ.length := by rw [I.len]; exact (List.getElem?_eq_some_iff.mp hi).1
  have cne := I.cne
  have tracked : ∀ {a : Addr} {h' : Heap}, (∃ o, s.heap.get? a = some o ∧ H a = none) → Heap.SameBut a s.heap h' → HOk X.prog X.w H h' := fun {a h'} ha hs b ob e => by
    obtain ⟨_, _, hfree⟩ := ha
    refine (I.hok b ob e).stay (fun c w' hc q => (hs.2 c ?_).trans q) (fun _ q => q) fun _ _ q => q
    rintro rfl
    rcases hc with rfl | hc
    · rw [hfree] at e; cases e
    · rw [hfree] at hc; cases hc
  rcases hx with hk | hk
  · refine wpAny_storeName_local hk hn (fun h' hn' hs => ?_) hcls
    obtain ⟨oL, _, _, hoL, _⟩ := id hn
    refine h _ ⟨I.ok, I.os, I.bare, ⟨fun b o e n hb hx => ?_, fun b o e n hb hx => ?_, I.base.free, fun b o e hx => ?_, I.base.tups, I.base.frzs, I.base.tbls⟩, ⟨_, hn', fun j y v' e1 e2 e3 => ?_⟩, fun y c e => ?_, I.free, I.freeC, fun p hp => ?_, tracked ⟨oL, hoL, I.free⟩ hs, by simpa using I.len⟩ ⟨_, hs, .inl rfl⟩
    · exact (hs.2 b (Nat.ne_of_lt (Nat.lt_of_lt_of_le (Heap.lt_size e) I.ok.above))).trans (I.base.keep b o e n hb hx)
    · obtain ⟨sl, e1⟩ := I.base.slot b o e n hb hx
      exact ⟨sl, (hs.2 b (Nat.ne_of_lt (Nat.lt_of_lt_of_le (Heap.lt_size e) I.ok.above))).trans e1⟩
    · obtain ⟨o', e1⟩ := I.base.there b o e hx
      exact ⟨o', (hs.2 b (Nat.ne_of_lt (Nat.lt_of_lt_of_le (Heap.lt_size e) I.ok.above))).trans e1⟩
    · by_cases hj : j = i
      · subst hj
        rw [hi] at e1; cases e1
        rw [List.getElem?_set_self hiσ] at e2
        cases e2
        exact ⟨u, r, .inl ⟨hk, by simp⟩⟩
      · rw [List.getElem?_set_ne (Ne.symm hj)] at e2
        obtain ⟨u', r', q⟩ := hl j y v' e1 e2 e3
        refine ⟨u', r', ?_⟩
        rcases q with ⟨k, e⟩ | ⟨k, c, e, z⟩
        · refine .inl ⟨k, ?_⟩
          have : y ≠ x := fun e => hj (nodup_ix hN e1 (e ▸ hi))
          simp [this, e]
        · exact .inr ⟨k, c, e, z.sameBut hs (cne y c e)⟩
    · obtain ⟨w', z⟩ := I.cell y c e
      exact ⟨w', z.sameBut hs (cne y c e)⟩
    · obtain ⟨e, n, ne, nf, d⟩ := I.pin p hp
      exact ⟨(hs.2 p.1 ne).trans e, n, ne, nf, d⟩
  · have hfn : X.fn x = true := by
      rcases hf with z | z
      · exact z
      · rw [z] at hk; cases hk
    obtain ⟨c, hc⟩ := I.ok.has x (.inl hk)
    obtain ⟨w', z⟩ := I.cell x c hc
    refine wpAny_storeName_cell I.ok.kind hk hc z (fun h' hc' hs => ?_)
    obtain ⟨oc, hoc, hocd⟩ := id z
    refine h { s with heap := h' } ⟨I.ok, I.os, I.bare, ⟨fun b o e n hb hx => ?_, fun b o e n hb hx => ?_, I.base.free, fun b o e hx => ?_, I.base.tups, I.base.frzs, I.base.tbls⟩, ⟨m, hn.sameBut hs (Ne.symm (cne x c hc)), fun j y v' e1 e2 e3 => ?_⟩, fun y c' e => ?_, I.free, I.freeC, fun p hp => ?_, tracked ⟨oc, hoc, I.freeC x c hc⟩ hs, by simpa using I.len⟩ ⟨c, hs, .inr hc⟩
    · exact (hs.2 b (Nat.ne_of_lt (Nat.lt_of_lt_of_le (Heap.lt_size e) (I.ok.cab x c hfn hc)))).trans (I.base.keep b o e n hb hx)
    · obtain ⟨sl, e1⟩ := I.base.slot b o e n hb hx
      exact ⟨sl, (hs.2 b (Nat.ne_of_lt (Nat.lt_of_lt_of_le (Heap.lt_size e) (I.ok.cab x c hfn hc)))).trans e1⟩
    · obtain ⟨o', e1⟩ := I.base.there b o e hx
      exact ⟨o', (hs.2 b (Nat.ne_of_lt (Nat.lt_of_lt_of_le (Heap.lt_size e) (I.ok.cab x c hfn hc)))).trans e1⟩
    · by_cases hj : j = i
      · subst hj
        rw [hi] at e1; cases e1
        rw [List.getElem?_set_self hiσ] at e2
        cases e2
        exact ⟨u, r, .inr ⟨.inl hk, c, hc, hc'⟩⟩
      · rw [List.getElem?_set_ne (Ne.symm hj)] at e2
        obtain ⟨u', r', q⟩ := hl j y v' e1 e2 e3
        refine ⟨u', r', ?_⟩
        rcases q with q | ⟨k, c', e, z'⟩
        · exact .inl q
        · refine .inr ⟨k, c', e, z'.sameBut hs ?_⟩
          rintro rfl
          exact hj (nodup_ix hN e1 (I.ok.inj _ _ _ e hc ▸ hi))
    · by_cases hcc : c' = c
      · subst hcc; exact ⟨_, hc'⟩
      · obtain ⟨w2, z2⟩ := I.cell y c' e
        exact ⟨w2, z2.sameBut hs hcc⟩
    · obtain ⟨e, n, ne, nf, d⟩ := I.pin p hp
      refine ⟨(hs.2 p.1 ?_).trans e, n, ne, nf, d⟩
      intro q
      rw [q, hoc] at e
      have q' : oc = p.2 := Option.some.inj e
      exact d w' (by rw [← q']; exact hocd)
theorem store_ok {M : Model} {A : Around} {E : Value → Shared → Prop} {i : Nat} {x : Str} {v : V} {u : Value} {Q : Unit → Shared → Prop} (I : Inv X pins σ H s) (hN : X.N.Nodup) (hi : X.N[i]? = some x) (hx : Loc X.env.scope x) (r : RelV v u)
    (h : ∀ s', Inv X pins (σ.set i (some v)) H s' → Q () s') (hf : X.fn x = true ∨ X.env.scope.names.lookup x = some .local := by first | exact .inl rfl | exact .inr rfl | assumption) : wpAny M A (storeName X.env x u) Q E s :=
  store_ok2 I hN hi hx r (fun s' I' _ => h s' I') hf
theorem Inv.call' {s' : Shared} {ch : List Addr} (I : Inv X pins σ H s) (ho : s'.os = s.os) (u : Un (frs X.stack) ch H H' s.heap s'.heap) (hok : HOk X.prog X.w H' s'.heap) (hg : AllBare s'.gens)
    (hch : ∀ b ∈ ch, (b ∈ X.ex ∨ X.s₀.heap.objs.size ≤ b) ∧ b ≠ X.env.locals ∧ (∀ x c, X.env.cells.lookup x = some c → c ≠ b) ∧ ∀ p ∈ X.pn ++ pins, p.1 ≠ b) : Inv X pins σ H' s' := by
  obtain ⟨h', g', d', t', o'⟩ := s'
  have e : o' = s.os := ho
  subst e
  exact I.call (g' := g') (t' := t') (d' := d') u hok hg hch
end
abbrev XK := Value → Option Addr → Hp → Prop
abbrev St := List (Option V)
abbrev VK := V → Hp → Prop
abbrev TE := St → Hp → VK → Prop
abbrev TT := St → Hp → (Bool → Hp → Prop) → Prop
abbrev TA := St → Hp → (List V → Hp → Prop) → Prop
structure Ends where
  nx : St → Hp → Prop
  rt : VK
  bk : St → Hp → Prop := fun _ _ => False
  ct : St → Hp → Prop := fun _ _ => False
abbrev TS := Ends → St → Hp → Prop
def EP (X : Cx) (pins : List (Addr × Obj)) (σ : St) (Q : VK) (u : Value) (s' : Shared) : Prop := ∃ v H', Inv X pins σ H' s' ∧ RelV v u ∧ Q v H'
def TP (X : Cx) (pins : List (Addr × Obj)) (σ : St) (Q : Bool → Hp → Prop) (b : Bool) (s' : Shared) : Prop := ∃ H', Inv X pins σ H' s' ∧ Q b H'
def AP (X : Cx) (pins : List (Addr × Obj)) (σ : St) (Q : List V → Hp → Prop) (us : List Value) (s' : Shared) : Prop := ∃ vs H', Inv X pins σ H' s' ∧ Vals vs us ∧ Q vs H'
def SP (X : Cx) (pins : List (Addr × Obj)) (D : Ends) (f : Flow) (s' : Shared) : Prop :=
  match f with
  | .next => ∃ σ' H', Inv X pins σ' H' s' ∧ D.nx σ' H'
  | .brk => ∃ σ' H', Inv X pins σ' H' s' ∧ D.bk σ' H'
  | .cont => ∃ σ' H', Inv X pins σ' H' s' ∧ D.ct σ' H'
  | .ret u => ∃ v σ' H', Inv X pins σ' H' s' ∧ RelV v u ∧ D.rt v H'
def PE (X : Cx) (e : Expr) (t : TE) : Prop :=
  ∀ (pins : List (Addr × Obj)) (s : Shared) (σ : St) (H : Hp) (Q : VK), Inv X pins σ H s → t σ H Q → wpAny (model X.prog X.w) X.A (eval e X.env) (EP X pins σ Q) X.xe s
def PT (X : Cx) (e : Expr) (t : TT) : Prop :=
  ∀ (pins : List (Addr × Obj)) (s : Shared) (σ : St) (H : Hp) (Q : Bool → Hp → Prop), Inv X pins σ H s → t σ H Q → wpAny (model X.prog X.w) X.A (isTrue e X.env (eval e X.env)) (TP X pins σ Q) X.xe s
def PW (X : Cx) (e : Expr) (t : TT) : Prop :=
  ∀ (whole : Sem Value) (pins : List (Addr × Obj)) (s : Shared) (σ : St) (H : Hp) (Q : Bool → Hp → Prop), Inv X pins σ H s → t σ H Q → wpAny (model X.prog X.w) X.A (isTrue e X.env whole) (TP X pins σ Q) X.xe s
theorem PW.pt {X : Cx} {e : Expr} {t : TT} (h : PW X e t) : PT X e t := h _
def PA (X : Cx) (es : List Expr) (t : TA) : Prop :=
  ∀ (pos : Pos) (pins : List (Addr × Obj)) (s : Shared) (σ : St) (H : Hp) (Q : List V → Hp → Prop), Inv X pins σ H s → t σ H Q → wpAny (model X.prog X.w) X.A (spliced (backTo pos (starEach es X.env))) (AP X pins σ Q) X.xe s
def PS (X : Cx) (st : Stmt) (t : TS) : Prop :=
  ∀ (pins : List (Addr × Obj)) (s : Shared) (σ : St) (H : Hp) (D : Ends), Inv X pins σ H s → t D σ H → wpAny (model X.prog X.w) X.A (exec st X.env) (SP X pins D) X.xe s
def PSs (X : Cx) (st : List Stmt) (t : TS) : Prop :=
  ∀ (pins : List (Addr × Obj)) (s : Shared) (σ : St) (H : Hp) (D : Ends), Inv X pins σ H s → t D σ H → wpAny (model X.prog X.w) X.A (execs st X.env) (SP X pins D) X.xe s
theorem thn {α : Type} {t : Sem α} {Q Q' : α → Shared → Prop} {M : Model} {A : Around} {E : Value → Shared → Prop} {s : Shared} (h : wpAny M A t Q E s) (hQ : ∀ a s, Q a s → Q' a s) : wpAny M A t Q' E s := wpAny_mono h hQ fun _ _ x => x
end L2
namespace L2
open PySem PySem.Spec PyProof.Rows
section
variable {X : Cx}
theorem bin {a b : Expr} {ta tb : TE} (ha : PE X a ta) (hb : PE X b tb) {pins : List (Addr × Obj)} {s : Shared} {σ : St} {H : Hp} {R : V → V → Hp → Prop} (I : Inv X pins σ H s) (h : ta σ H fun x H1 => tb σ H1 fun y H2 => R x y H2)
    {α : Type} {Q : α → Shared → Prop} {f : Value → Value → Sem α}
    (hf : ∀ v u s2 x y H2, Inv X pins σ H2 s2 → RelV x v → RelV y u → R x y H2 → wpAny (model X.prog X.w) X.A (f v u) Q X.xe s2) :
    wpAny (model X.prog X.w) X.A (eval a X.env) (fun v s₁ => wpAny (model X.prog X.w) X.A (eval b X.env) (fun u s₂ => wpAny (model X.prog X.w) X.A (f v u) Q X.xe s₂) X.xe s₁) X.xe s := by
  refine thn (ha pins s σ H _ I h) fun v s1 ⟨x, H1, I1, r1, q1⟩ => ?_
  refine thn (hb pins s1 σ H1 _ I1 q1) fun u s2 ⟨y, H2, I2, r2, q2⟩ => ?_
  exact hf v u s2 x y H2 I2 r1 r2 q2
def tVar (i : Nat) : TE := fun σ H Q => ∃ v, σ[i]? = some (some v) ∧ Q v H
def tC (v : V) : TE := fun _ H Q => Q v H
theorem pe_var {i : Nat} {x : Str} {pos : Pos} (hN : X.N[i]? = some x) (hv : Vis X.env.scope x) (hd : (x == ("__debug__" : Str)) = false := by decide) (hcd : (x == ("__classdict__" : Str)) = false := by decide) : PE X (.Name x pos) (tVar i) := by
  intro pins s σ H Q I h
  obtain ⟨v, e, h⟩ := h
  obtain ⟨m, hn, hl⟩ := I.loc
  obtain ⟨u, r, l⟩ := hl i x v hN e hv
  have fin : EP X pins σ Q u s := ⟨v, H, I, r, h⟩
  rcases l with ⟨hk, hm⟩ | ⟨hk, c, hc, hcell⟩
  · exact wpAny_Name (wpAny_loadName_local I.ok.kind hk hn hm fin) hd
  · rcases hk with hk | hk
    · exact wpAny_Name (wpAny_loadName_cell I.ok.kind hk hc hcell fin) hd
    · exact wpAny_Name (wpAny_loadName_free I.ok.kind hk hc hcell fin hcd) hd
theorem pe_int {i j pos} : PE X (.Constant (.int i) j pos) (tC (.int i)) := fun _ _ _ H _ I h => wpAny_Constant_int ⟨.int i, H, I.tok _, ⟨_, rfl⟩, h⟩
theorem pe_bl {b j pos} : PE X (.Constant (.bool b) j pos) (tC (.bl b)) := fun _ _ _ H _ I h => Constant_bool ⟨.bl b, H, I, rfl, h⟩
theorem pe_non {j pos} : PE X (.Constant .none j pos) (tC .non) := fun _ _ _ H _ I h => Constant_none ⟨.non, H, I, rfl, h⟩
def Gl (X : Cx) (x : Str) : Prop := X.env.kindOf x = some .globalImplicit
theorem ld_glob {E : Value → Shared → Prop} {pins : List (Addr × Obj)} {s : Shared} {σ : St} {H : Hp} {x : Str} {u : Value} {pos : Pos} {Q : Value → Shared → Prop} (I : Inv X pins σ H s) (hg : Gl X x) (hm : X.mg x = some u) (h : Q u s)
    (hd : (x == ("__debug__" : Str)) = false := by decide) : wpAny (model X.prog X.w) X.A (eval (.Name x pos) X.env) Q E s :=
  Calls.Name_function_global I.ok.kind hg (Calls.loadGlobal_global (by rw [I.ok.glob]; exact I.mod.glob.keeps I.bk) hm h) hd
theorem ld_blt {E : Value → Shared → Prop} {pins : List (Addr × Obj)} {s : Shared} {σ : St} {H : Hp} {x : Str} {u : Value} {pos : Pos} {Q : Value → Shared → Prop} (I : Inv X pins σ H s) (hg : Gl X x) (hm : X.mg x = none) (hv : bootBuiltins x = some u) (h : Q u s)
    (hn : x ≠ "__name__" := by decide) (hd : (x == ("__debug__" : Str)) = false := by decide) : wpAny (model X.prog X.w) X.A (eval (.Name x pos) X.env) Q E s := by
  obtain ⟨mb, h1, h2⟩ := I.mod.blt
  exact Calls.Name_function_global I.ok.kind hg (Calls.loadGlobal_builtin (by rw [I.ok.glob]; exact I.mod.glob.keeps I.bk) hm (by rw [I.ok.blt]; exact h1.keeps I.bk) ((h2 x hn).trans hv) h) hd
theorem pe_glob {x : Str} {v : V} {u : Value} {pos : Pos} (hg : Gl X x) (hm : X.mg x = some u) (r : RelV v u) (hd : (x == ("__debug__" : Str)) = false := by decide) : PE X (.Name x pos) (tC v) :=
  fun _ _ _ H _ I h => ld_glob I hg hm ⟨v, H, I, r, h⟩ hd
theorem pe_bltn {x : Str} {v : V} {u : Value} {pos : Pos} (hg : Gl X x) (hm : X.mg x = none) (hv : bootBuiltins x = some u) (r : RelV v u) (hn : x ≠ "__name__" := by decide) (hd : (x == ("__debug__" : Str)) = false := by decide) : PE X (.Name x pos) (tC v) :=
  fun _ _ _ H _ I h => ld_blt I hg hm hv ⟨v, H, I, r, h⟩ hn hd
variable {a b : Expr} {ta tb : TE} {pos : Pos}
def PC (X : Cx) (op : CmpOp) (a b : Expr) (t : TE) : Prop :=
  ∀ (pins : List (Addr × Obj)) (s : Shared) (σ : St) (H : Hp) (Q : VK), Inv X pins σ H s → t σ H Q →
    wpAny (model X.prog X.w) X.A (eval a X.env) (fun v s₁ => wpAny (model X.prog X.w) X.A (eval b X.env) (fun u s₂ => wpAny (model X.prog X.w) X.A (compareOp op v u) (EP X pins σ Q) X.xe s₂) X.xe s₁) X.xe s
def tB (t : TE) : TT := fun σ H Q => t σ H fun x H1 => ∃ c, x = .bl c ∧ Q c H1
theorem pt_cmp {op : CmpOp} {t : TE} (h : PC X op a b t) (h1 : behindInMarks op b = false := by first | exact nobehind _ (by decide) (by decide) | rfl) : PT X (.Compare a [op] [b] pos) (tB t) := by
  intro pins s σ H Q I hw
  refine wpAny_isTrue_Compare1 (thn (h pins s σ H _ I hw) fun v s1 h1 => thn h1 fun u s2 h2 => thn h2 fun c s3 ⟨x, H1, I1, r1, q1⟩ => ?_) h1
  obtain ⟨d, rfl, q⟩ := q1
  cases r1
  exact wpAny_truthy_bool ⟨H1, I1, q⟩
variable {tA tB' : TT} {rest : List Expr}
def tAnd (t u : TT) : TT := fun σ H Q => t σ H fun c H1 => if c = true then u σ H1 Q else Q false H1
def tOr (t u : TT) : TT := fun σ H Q => t σ H fun c H1 => if c = true then Q true H1 else u σ H1 Q
def tNot (t : TT) : TT := fun σ H Q => t σ H fun c H1 => Q (!c) H1
theorem pw_and1 (ha : PT X a tA) : PW X (.BoolOp .And [a] pos) tA := by
  intro wh pins s σ H Q I h
  refine isTrue_and (thn (ha pins s σ H Q I h) fun c s1 e => ?_)
  cases c with
  | true => exact isTrue_and_nil e
  | false => exact e
theorem pw_or1 (ha : PT X a tA) : PW X (.BoolOp .Or [a] pos) tA := by
  intro wh pins s σ H Q I h
  refine isTrue_or (thn (ha pins s σ H Q I h) fun c s1 e => ?_)
  cases c with
  | false => exact isTrue_or_nil e
  | true => exact e
theorem pw_and (ha : PT X a tA) (hb : PW X (.BoolOp .And (b :: rest) pos) tB') : PW X (.BoolOp .And (a :: b :: rest) pos) (tAnd tA tB') := by
  intro wh pins s σ H Q I h
  refine isTrue_and (thn (ha pins s σ H _ I h) fun c s1 ⟨H1, I1, q1⟩ => ?_)
  cases c with
  | true => exact hb wh pins s1 σ H1 Q I1 q1
  | false => exact ⟨H1, I1, q1⟩
theorem pw_or (ha : PT X a tA) (hb : PW X (.BoolOp .Or (b :: rest) pos) tB') : PW X (.BoolOp .Or (a :: b :: rest) pos) (tOr tA tB') := by
  intro wh pins s σ H Q I h
  refine isTrue_or (thn (ha pins s σ H _ I h) fun c s1 ⟨H1, I1, q1⟩ => ?_)
  cases c with
  | true => exact ⟨H1, I1, q1⟩
  | false => exact hb wh pins s1 σ H1 Q I1 q1
theorem pt_not (ha : PT X a tA) : PT X (.UnaryOp .Not a pos) (tNot tA) := by
  intro pins s σ H Q I h
  exact isTrue_not (ha pins s σ H (fun c H1 => Q (!c) H1) I h)
def tAndV (ta tb : TE) : TE := fun σ H Q => ta σ H fun x H1 => ∃ c, x = .bl c ∧ if c = true then tb σ H1 Q else Q (.bl false) H1
def tNotV (ta : TE) : TE := fun σ H Q => ta σ H fun x H1 => ∃ c, x = .bl c ∧ Q (.bl (!c)) H1
theorem pe_one {op} {t : TE} (h : PE X a t) : PE X (.BoolOp op [a] pos) t := fun pins s σ H Q I hw => BoolOp_one (h pins s σ H Q I hw)
theorem pe_and (ha : PE X a ta) (hb : PE X (.BoolOp .And (b :: rest) pos) tb) : PE X (.BoolOp .And (a :: b :: rest) pos) (tAndV ta tb) := by
  intro pins s σ H Q I h
  refine BoolOp_and (thn (ha pins s σ H _ I h) fun v s1 ⟨x, H1, I1, r1, q1⟩ => ?_)
  obtain ⟨c, rfl, q1⟩ := q1
  cases r1
  refine wpAny_truthy_bool ?_
  cases c with
  | true => exact hb pins s1 σ H1 Q I1 q1
  | false => exact ⟨.bl false, H1, I1, rfl, q1⟩
theorem pe_not (ha : PE X a ta) : PE X (.UnaryOp .Not a pos) (tNotV ta) := by
  intro pins s σ H Q I h
  refine UnaryOp_ (thn (ha pins s σ H _ I h) fun v s1 ⟨x, H1, I1, r1, q1⟩ => ?_)
  obtain ⟨c, rfl, q1⟩ := q1
  cases r1
  exact not_of (wpAny_truthy_bool ⟨.bl (!c), H1, I1, rfl, q1⟩)
def tIf (t : TT) (ta tb : TE) : TE := fun σ H Q => t σ H fun c H1 => if c = true then ta σ H1 Q else tb σ H1 Q
theorem pe_ifExp {c : Expr} (hc : PT X c tA) (ha : PE X a ta) (hb : PE X b tb) : PE X (.IfExp c a b pos) (tIf tA ta tb) := by
  intro pins s σ H Q I h
  refine wpAny_IfExp (thn (hc pins s σ H _ I h) fun d s1 ⟨H1, I1, q1⟩ => ?_)
  cases d with
  | true => exact ha pins s1 σ H1 Q I1 q1
  | false => exact hb pins s1 σ H1 Q I1 q1
end
end L2
namespace L2
open PySem PySem.Spec PyProof.Rows
def SqL (K : PySem.W.Frag) (H : Hp) (a : Addr) (xs : List V) : Prop :=
  Rd H a (.lst xs) ∨
    ∃ (o : Obj) (its : Array Value) (n : Nat), K.lookup a = some o ∧ o.cls = .type "list" ∧ o.dict = none ∧ o.data = .seq its n ∧ its.size ≤ sizeLine ∧ Vals xs its.toList
def SqT (K : PySem.W.Frag) (H : Hp) (a : Addr) (xs : List V) : Prop :=
  Rd H a (.tup xs) ∨
    ∃ (o : Obj) (its : Array Value) (n : Nat), K.lookup a = some o ∧ o.cls = .type "tuple" ∧ o.data = .seq its n ∧ its.size ≤ sizeLine ∧ Vals xs its.toList
def absV : Value → Option V
  | .none => some .non
  | .bool b => some (.bl b)
  | .int i _ => some (.int i)
  | .str x _ => some (.str x)
  | .bytes b _ => some (.byt b)
  | .float b _ => some (.flt b)
  | .ref a => some (.ref a)
  | .type n => some (.ty n)
  | _ => none
theorem RelV.abs {x : V} {u : Value} (r : RelV x u) : absV u = some x := by
  cases x with
  | non => cases r; rfl
  | bl _ => cases r; rfl
  | int _ => obtain ⟨t, rfl⟩ := r; rfl
  | str _ => obtain ⟨t, rfl⟩ := r; rfl
  | byt _ => obtain ⟨t, rfl⟩ := r; rfl
  | flt _ => obtain ⟨t, rfl⟩ := r; rfl
  | ref _ => cases r; rfl
  | ty _ => cases r; rfl
theorem RelV.inj {x y : V} {u : Value} (r : RelV x u) (q : RelV y u) : x = y := Option.some.inj (r.abs.symm.trans q.abs)
theorem Vals.inj : ∀ {xs ys : List V} {us : List Value}, Vals xs us → Vals ys us → xs = ys
  | _, _, _, .nil, .nil => rfl
  | _, _, _, .cons r t, .cons r' t' => by rw [r.inj r', Vals.inj t t']
section
variable {X : Cx} {pins : List (Addr × Obj)} {σ : St} {H : Hp} {s : Shared} {a : Addr} {xs ys : List V}
theorem SqL.of {K : PySem.W.Frag} (h : H a = some (.lst xs)) : SqL K H a xs := .inl (.inl h)
theorem SqT.of {K : PySem.W.Frag} (h : H a = some (.tup xs)) : SqT K H a xs := .inl (.inl h)
theorem Inv.list (I : Inv X pins σ H s) (h : SqL X.K H a xs) : ∃ its : List Value, Vals xs its ∧ PlainL s.heap a its.toArray ∧ xs.length ≤ sizeLine := by
  rcases h with h | ⟨o, its, n, hk, hc, hd, hs, hz, r⟩
  · obtain ⟨z, its, n, r, e⟩ := h.ok I.hok
    exact ⟨its, r, ⟨_, n, e, rfl, rfl, rfl⟩, z⟩
  · refine ⟨its.toList, r, ⟨o, n, I.kIn a o hk, hc, hd, by simpa using hs⟩, ?_⟩
    have e := r.length
    simp only [Array.length_toList] at e
    omega
theorem Inv.tuple (I : Inv X pins σ H s) (h : SqT X.K H a xs) : ∃ its : List Value, Vals xs its ∧ IsTup s.heap a its.toArray ∧ xs.length ≤ sizeLine := by
  rcases h with h | ⟨o, its, n, hk, hc, hs, hz, r⟩
  · obtain ⟨z, its, r, p⟩ := h.ok I.hok
    exact ⟨its, r, p, z⟩
  · refine ⟨its.toList, r, ⟨o, I.kIn a o hk, hc, n, by simpa using hs⟩, ?_⟩
    have e := r.length
    simp only [Array.length_toList] at e
    omega
theorem Inv.list_inj (I : Inv X pins σ H s) (h : SqL X.K H a xs) (h' : SqL X.K H a ys) : xs = ys := by
  obtain ⟨its, r, ⟨o, n, e, _, _, d⟩, _⟩ := I.list h
  obtain ⟨its', r', ⟨o', n', e', _, _, d'⟩, _⟩ := I.list h'
  rw [e] at e'; cases e'
  rw [d] at d'
  injection d' with d1 _
  have : its = its' := by simpa using congrArg Array.toList d1
  subst this
  exact r.inj r'
theorem Inv.tuple_inj (I : Inv X pins σ H s) (h : SqT X.K H a xs) (h' : SqT X.K H a ys) : xs = ys := by
  obtain ⟨its, r, ⟨o, e, _, n, d⟩, _⟩ := I.tuple h
  obtain ⟨its', r', ⟨o', e', _, n', d'⟩, _⟩ := I.tuple h'
  rw [e] at e'; cases e'
  rw [d] at d'
  injection d' with d1 _
  have : its = its' := by simpa using congrArg Array.toList d1
  subst this
  exact r.inj r'
end
abbrev Cx.wish (X : Cx) (E : Value → Shared → Prop) : Cx := { X with xe := E }
abbrev Cx.nox (X : Cx) : Cx := X.wish fun _ _ => False
theorem Cx.Ok.wish {X : Cx} (ok : X.Ok) (E : Value → Shared → Prop) : (X.wish E).Ok :=
  ⟨ok.mod, ok.kind, ok.glob, ok.blt, ok.above, ok.inj, ok.has, ok.cab, ok.hd, ok.frames, ok.stk, ok.exf, ok.bs, ok.bsz, ok.noex, ok.exfs, ok.funs, ok.frf⟩
theorem Cx.Ok.unwish {X : Cx} {E : Value → Shared → Prop} (ok : (X.wish E).Ok) : X.Ok :=
  ⟨ok.mod, ok.kind, ok.glob, ok.blt, ok.above, ok.inj, ok.has, ok.cab, ok.hd, ok.frames, ok.stk, ok.exf, ok.bs, ok.bsz, ok.noex, ok.exfs, ok.funs, ok.frf⟩
section
variable {X : Cx} {pins : List (Addr × Obj)} {σ : St} {H : Hp} {s : Shared} {E : Value → Shared → Prop}
theorem Inv.wish (I : Inv X pins σ H s) (E : Value → Shared → Prop) : Inv (X.wish E) pins σ H s := ⟨I.ok.wish E, I.os, I.bare, I.base, I.loc, I.cell, I.free, I.freeC, I.pin, I.hok, I.len⟩
theorem Inv.unwish (I : Inv (X.wish E) pins σ H s) : Inv X pins σ H s := ⟨I.ok.unwish, I.os, I.bare, I.base, I.loc, I.cell, I.free, I.freeC, I.pin, I.hok, I.len⟩
theorem SP.unwish {D : Ends} {f : Flow} {s' : Shared} (h : SP (X.wish E) pins D f s') : SP X pins D f s' := by
  cases f with
  | next => obtain ⟨σ', H', I, q⟩ := h; exact ⟨σ', H', I.unwish, q⟩
  | brk => obtain ⟨σ', H', I, q⟩ := h; exact ⟨σ', H', I.unwish, q⟩
  | cont => obtain ⟨σ', H', I, q⟩ := h; exact ⟨σ', H', I.unwish, q⟩
  | ret u => obtain ⟨v, σ', H', I, r, q⟩ := h; exact ⟨v, σ', H', I.unwish, r, q⟩
theorem PSs.nox {st : List Stmt} {t : TS} (h : PSs X.nox st t) : PSs X st t := fun pins s σ H D I hw =>
  wpAny_mono (h pins s σ H D (I.wish _) hw) (fun _ _ q => q.unwish) fun _ _ z => False.elim z
end
section
variable {X : Cx} {st : Stmt} {rest : List Stmt} {t u : TS} {e : Expr} {te : TE} {pos : Pos}
def tNext : TS := fun D σ H => D.nx σ H
def tSeq (t u : TS) : TS := fun D σ H => t { D with nx := u D } σ H
theorem pss_nil : PSs X [] tNext := fun _ _ σ H _ I h => wpAny_execs_nil ⟨σ, H, I, h⟩
theorem pss_cons (h1 : PS X st t) (h2 : PSs X rest u) : PSs X (st :: rest) (tSeq t u) := by
  intro pins s σ H D I h
  refine wpAny_execs_cons (thn (h1 pins s σ H { D with nx := u D } I h) fun f s1 q => ?_)
  cases f with
  | next =>
    obtain ⟨σ', H', I', q⟩ := q
    exact h2 pins s1 σ' H' D I' q
  | ret v => exact q
  | brk => exact q
  | cont => exact q
theorem pss_one (h1 : PS X st t) : PSs X [st] t := by
  intro pins s σ H D I h
  refine wpAny_execs_cons (thn (h1 pins s σ H D I h) fun f s1 q => ?_)
  cases f with
  | next => exact wpAny_execs_nil q
  | ret v => exact q
  | brk => exact q
  | cont => exact q
theorem Inv.quiet {pins : List (Addr × Obj)} {σ : St} {H : Hp} {s : Shared} (I : Inv X pins σ H s) : interactive X.env = false := by simp [interactive, I.ok.kind]
def tDrop (te : TE) : TS := fun D σ H => te σ H fun _ H1 => D.nx σ H1
theorem ps_expr (he : PE X e te) (hs : swapsWith e none pos.line X.env = pure false := by rfl) : PS X (.Expr e pos) (tDrop te) := by
  intro pins s σ H D I h
  exact wpAny_Expr_any (thn (he pins s σ H _ I h) fun v s1 ⟨x, H1, I1, r1, q1⟩ => ⟨σ, H1, I1, q1⟩) I.quiet hs
def tRet (te : TE) : TS := fun D σ H => te σ H D.rt
theorem ps_ret (he : PE X e te) : PS X (.Return (some e) pos) (tRet te) := by
  intro pins s σ H D I h
  exact wpAny_Return_some (thn (he pins s σ H _ I h) fun v s1 ⟨x, H1, I1, r1, q1⟩ => ⟨x, σ, H1, I1, r1, q1⟩)
def tIfS (c : TT) (t u : TS) : TS := fun D σ H => c σ H fun b H1 => if b = true then t D σ H1 else u D σ H1
theorem ps_if {c : Expr} {a b : List Stmt} {tc : TT} (hc : PT X c tc) (ha : PSs X a t) (hb : PSs X b u) : PS X (.If c a b pos) (tIfS tc t u) := by
  intro pins s σ H D I h
  refine wpAny_If (thn (hc pins s σ H _ I h) fun d s1 ⟨H1, I1, q1⟩ => ?_)
  cases d with
  | true => exact ha pins s1 σ H1 D I1 q1
  | false => exact hb pins s1 σ H1 D I1 q1
end
abbrev TG := V → St → Hp → (St → Hp → Prop) → Prop
abbrev TGs := List V → St → Hp → (St → Hp → Prop) → Prop
def PG (X : Cx) (target : Expr) (t : TG) : Prop :=
  ∀ (pins : List (Addr × Obj)) (s : Shared) (σ : St) (H : Hp) (v : V) (u : Value) (Q : St → Hp → Prop), Inv X pins σ H s → RelV v u → t v σ H Q →
    wpAny (model X.prog X.w) X.A (assign target X.env u) (fun _ s' => ∃ σ' H', Inv X pins σ' H' s' ∧ Q σ' H') X.xe s
def PGs (X : Cx) (ts : List Expr) (t : TGs) : Prop :=
  ∀ (pins : List (Addr × Obj)) (s : Shared) (σ : St) (H : Hp) (vs : List V) (us : List Value) (Q : St → Hp → Prop), Inv X pins σ H s → Vals vs us → t vs σ H Q →
    wpAny (model X.prog X.w) X.A (assignInOrder ((assignEach ts X.env).map (·.2)) us) (fun _ s' => ∃ σ' H', Inv X pins σ' H' s' ∧ Q σ' H') X.xe s
abbrev TSet := V → V → V → Hp → (Hp → Prop) → Prop
def PSet (X : Cx) (t : TSet) : Prop :=
  ∀ (pins : List (Addr × Obj)) (s : Shared) (σ : St) (H : Hp) (o i v : V) (ov iv u : Value) (Q : Hp → Prop), Inv X pins σ H s → RelV o ov → RelV i iv → RelV v u → t o i v H Q →
    wpAny (model X.prog X.w) X.A (setItem ov iv u) (fun _ s' => ∃ H', Inv X pins σ H' s' ∧ Q H') X.xe s
abbrev TIp := V → V → Hp → VK → Prop
def PIp (X : Cx) (op : Operator) (t : TIp) : Prop :=
  ∀ (pins : List (Addr × Obj)) (s : Shared) (σ : St) (H : Hp) (x y : V) (v u : Value) (Q : VK), Inv X pins σ H s → RelV x v → RelV y u → t x y H Q →
    wpAny (model X.prog X.w) X.A (inplaceOp op v u) (EP X pins σ Q) X.xe s
section
variable {X : Cx} {pos : Pos}
def gName (i : Nat) : TG := fun v σ H Q => Q (σ.set i (some v)) H
theorem pg_name {i : Nat} {x : Str} (hN : X.N.Nodup) (hi : X.N[i]? = some x) (hx : Loc X.env.scope x) (hf : X.fn x = true ∨ X.env.scope.names.lookup x = some .local := by first | exact .inl rfl | exact .inr rfl | assumption) : PG X (.Name x pos) (gName i) := by
  intro pins s σ H v u Q I r h
  exact wpAny_assign_Name (store_ok I hN hi hx r (fun s' I' => ⟨_, H, I', h⟩) hf)
def gNil : TGs := fun vs σ H Q => vs = [] ∧ Q σ H
def gCons (t : TG) (u : TGs) : TGs := fun vs σ H Q => ∃ v r, vs = v :: r ∧ t v σ H fun σ' H' => u r σ' H' Q
theorem pgs_nil : PGs X [] gNil := by
  intro pins s σ H vs us Q I r h
  obtain ⟨e, h⟩ := h
  subst e
  cases r
  exact assignInOrder_nil ⟨σ, H, I, h⟩
theorem pgs_cons {e : Expr} {es : List Expr} {t : TG} {u : TGs} (h1 : PG X e t) (h2 : PGs X es u)
    (hs : (assignEach (e :: es) X.env).map (·.2) = assign e X.env :: (assignEach es X.env).map (·.2) := by rfl) : PGs X (e :: es) (gCons t u) := by
  intro pins s σ H vs us Q I r h
  obtain ⟨v, vr, e1, h⟩ := h
  subst e1
  cases r with
  | cons r rr =>
    rw [hs]
    refine assignInOrder_cons (thn (h1 pins s σ H _ _ _ I r h) fun _ s1 ⟨σ1, H1, I1, q1⟩ => ?_)
    exact h2 pins s1 σ1 H1 _ _ Q I1 rr q1
def gTup (K : PySem.W.Frag) (n : Nat) (t : TGs) : TG := fun v σ H Q => ∃ a xs, v = .ref a ∧ SqT K H a xs ∧ xs.length = n ∧ t xs σ H Q
theorem pg_tup {es : List Expr} {k : Nat} {t : TGs} {n : Nat} (hc : X.calm = true) (h : PGs X es t)
    (hn : (assignEach es X.env).length = n := by rfl) (hst : (assignEach es X.env).findIdx? (·.1) = none := by rfl) : PG X (.Tuple es k pos) (gTup X.K n t) := by
  intro pins s σ H v u Q I r hw
  obtain ⟨a, xs, e1, hq, hl, hw⟩ := hw
  subst e1
  cases r
  obtain ⟨its, rv, ht, hz⟩ := I.tuple hq
  refine assign_Tuple_tuple (I.ok.hd hc) ht (by simp [hn, ← hl, rv.length]) hst fun h' hx => ?_
  have I1 : Inv X pins σ H { s with heap := h' } := I.kept (t' := s.toks) fun b o e => hx b o (Nat.ne_of_lt (Heap.lt_size e)) e
  exact h pins _ σ H xs _ Q I1 (by simpa using rv) hw
def gSub (to ti : TE) (t : TSet) : TG := fun v σ H Q => to σ H fun o H1 => ti σ H1 fun i H2 => t o i v H2 fun H3 => Q σ H3
theorem pg_sub {o i : Expr} {to ti : TE} {t : TSet} (ho : PE X o to) (hi : PE X i ti) (hs : PSet X t)
    (ha : ∀ v, assign (.Subscript o i pos) X.env v = (do
      let ov ← holding [v] (eval o X.env)
      let iv ← holding [v, ov] (eval i X.env)
      standAt pos
      holding [v, ov, iv] (setItem ov iv v)
      release [v, ov, iv] []) := by intro _; rfl) : PG X (.Subscript o i pos) (gSub to ti t) := by
  intro pins s σ H v u Q I r h
  rw [ha]
  refine wpAny_bind (wpAny_holding (thn (ho pins s σ H _ I h) fun ov s1 ⟨x, H1, I1, r1, q1⟩ => ?_))
  refine wpAny_bind (wpAny_holding (thn (hi pins s1 σ H1 _ I1 q1) fun iv s2 ⟨y, H2, I2, r2, q2⟩ => ?_))
  refine wpAny_bind (wpAny_standAt (wpAny_bind (wpAny_holding (thn (hs pins s2 σ H2 x y v ov iv u _ I2 r1 r2 r q2) fun _ s3 ⟨H3, I3, q3⟩ => ?_))))
  exact wpAny_release ⟨σ, H3, I3, q3⟩
def tAsg (te : TE) (g : TG) : TS := fun D σ H => te σ H fun x H1 => g x σ H1 D.nx
theorem ps_asg {tg e : Expr} {te : TE} {g : TG} (he : PE X e te) (hg : PG X tg g) (hs : swapsWithSole [tg] e pos.line X.env = pure false := by rfl) (hw : swappedStores [tg] e X.env = pure none := by rfl)
    (h1 : (assignEach [tg] X.env).map (·.2) = [assign tg X.env] := by rfl) : PS X (.Assign [tg] e pos) (tAsg te g) := by
  intro pins s σ H D I h
  refine wpAny_Assign_stores (thn (he pins s σ H _ I h) fun v s1 ⟨x, H1, I1, r1, q1⟩ => ?_) hs hw
  rw [h1]
  exact thn (hg pins s1 σ H1 x v _ I1 r1 q1) fun _ s2 q => q
theorem ps_set {i : Nat} {x : Str} {e : Expr} {te : TE} {pos' : Pos} (hN : X.N.Nodup) (hi : X.N[i]? = some x) (hx : Loc X.env.scope x) (he : PE X e te) (hs : swapsWith e (some (.Name x pos')) pos.line X.env = pure false := by rfl) (hf : X.fn x = true ∨ X.env.scope.names.lookup x = some .local := by first | exact .inl rfl | exact .inr rfl | assumption) :
    PS X (.Assign [.Name x pos'] e pos) (tAsg te (gName i)) := by
  intro pins s σ H D I h
  refine wpAny_Assign_Name (thn (he pins s σ H _ I h) fun v s1 ⟨y, H1, I1, r1, q1⟩ => ?_) hs
  exact store_ok I1 hN hi hx r1 (fun s2 I2 => ⟨_, H1, I2, q1⟩) hf
def tAug (i : Nat) (te : TE) (ti : TIp) : TS := fun D σ H => ∃ x, σ[i]? = some (some x) ∧ te σ H fun y H1 => ti x y H1 fun z H2 => D.nx (σ.set i (some z)) H2
theorem ps_aug {i : Nat} {x : Str} {e : Expr} {te : TE} {op : Operator} {ti : TIp} {pos' : Pos} (hN : X.N.Nodup) (hi : X.N[i]? = some x) (hx : Loc X.env.scope x) (he : PE X e te) (ho : PIp X op ti) (hf : X.fn x = true ∨ X.env.scope.names.lookup x = some .local := by first | exact .inl rfl | exact .inr rfl | assumption) :
    PS X (.AugAssign (.Name x pos') op e pos) (tAug i te ti) := by
  intro pins s σ H D I h
  obtain ⟨v, e1, h⟩ := h
  obtain ⟨m, hn, hl⟩ := I.loc
  have vis : Vis X.env.scope x := by rcases hx with k | k; exact .inl k; exact .inr (.inl k)
  obtain ⟨u, r, l⟩ := hl i x v hi e1 vis
  refine wpAny_AugAssign_Name ?_
  have go : wpAny (model X.prog X.w) X.A (eval e X.env) (fun w s₂ => wpAny (model X.prog X.w) X.A (inplaceOp op u w) (fun r s₃ => wpAny (model X.prog X.w) X.A (storeName X.env x r) (fun _ => SP X pins D .next) X.xe s₃) X.xe s₂) X.xe s := by
    refine thn (he pins s σ H _ I h) fun w s1 ⟨y, H1, I1, r1, q1⟩ => ?_
    refine thn (ho pins s1 σ H1 v y u w _ I1 r r1 q1) fun z s2 ⟨zv, H2, I2, r2, q2⟩ => ?_
    exact store_ok I2 hN hi hx r2 (fun s3 I3 => ⟨_, H2, I3, q2⟩) hf
  rcases l with ⟨hk, hm⟩ | ⟨hk, c, hc, hcell⟩
  · exact wpAny_loadName_local I.ok.kind hk hn hm go
  · rcases hk with hk | hk
    · exact wpAny_loadName_cell I.ok.kind hk hc hcell go
    · rcases hx with k | k
      · have : X.env.scope.names.lookup x = some .free := hk
        rw [k] at this; cases this
      · have : X.env.scope.names.lookup x = some .free := hk
        rw [k] at this; cases this
end
section
variable {X : Cx} {pos : Pos}
def tWhile (c : TT) (tb : TS) : TS := fun D σ H => ∃ W : Nat → St → Hp → Prop, (∃ m, W m σ H) ∧ ∀ m σ H, W m σ H →
  c σ H fun b H1 => if b = true then ∃ N : St → Hp → Prop, (∀ σ' H', N σ' H' → ∃ m', m' < m ∧ W m' σ' H') ∧ tb { D with nx := N, ct := N, bk := D.nx } σ H1 else D.nx σ H1
theorem ps_while {c : Expr} {body : List Stmt} {tc : TT} {tb : TS} (hp : PassesOwn (model X.prog X.w) X.A X.env X.xe) (hc : PT X c tc) (hb : PSs X body tb) : PS X (.While c body [] pos) (tWhile tc tb) := by
  intro pins s σ H D I h
  obtain ⟨W, ⟨m0, w0⟩, turn⟩ := h
  refine wpAny_While (codeAny_whileLoop (fun n s' => ∃ σ' H', Inv X pins σ' H' s' ∧ W n σ' H') ?_ m0 ⟨σ, H, I, w0⟩)
  rintro n s1 ⟨σ1, H1, I1, w1⟩
  refine wpAny_passesOwn hp (thn (hc pins s1 σ1 H1 _ I1 (turn n σ1 H1 w1)) fun b s2 ⟨H2, I2, q2⟩ => ?_)
  cases b with
  | true =>
    obtain ⟨N, hN, q2⟩ := q2
    rw [if_pos rfl]
    refine wpAny_passesOwn hp (thn (hb pins s2 σ1 H2 _ I2 q2) fun f s3 q3 => ?_)
    cases f with
    | next =>
      obtain ⟨σ3, H3, I3, n3⟩ := q3
      obtain ⟨m', hm, w3⟩ := hN σ3 H3 n3
      exact ⟨m', hm, σ3, H3, I3, w3⟩
    | cont =>
      obtain ⟨σ3, H3, I3, n3⟩ := q3
      obtain ⟨m', hm, w3⟩ := hN σ3 H3 n3
      exact ⟨m', hm, σ3, H3, I3, w3⟩
    | brk => exact q3
    | ret v => exact q3
  | false =>
    rw [if_neg Bool.false_ne_true]
    exact wpAny_execs_nil ⟨σ1, H2, I2, q2⟩
end
structure It where
  go : Nat → Hp → Prop
  yld : Nat → Hp → V → Hp → Prop
  stop : Nat → Hp → Prop
def FpOk (X : Cx) (pins : List (Addr × Obj)) (H : Hp) (b : Addr) : Prop :=
  H b = none ∧ b ≠ X.env.locals ∧ b ∉ X.fs ∧ (b ∈ X.ex ∨ X.s₀.heap.objs.size ≤ b) ∧ (∀ x c, X.env.cells.lookup x = some c → c ≠ b) ∧ ∀ p ∈ X.pn ++ pins, p.1 ≠ b
theorem Inv.fpOk {X : Cx} {pins : List (Addr × Obj)} {σ : St} {H H' : Hp} {s : Shared} {b : Addr} (I : Inv X pins σ H s) (hb : s.heap.objs.size ≤ b) (hn : H' b = none) : FpOk X pins H' b := by
  refine ⟨hn, Nat.ne_of_gt (Nat.lt_of_lt_of_le I.lt hb), I.nofs hb, .inr (Nat.le_trans I.sz hb), fun x c e z => ?_, fun p hp z => ?_⟩
  · obtain ⟨v, q⟩ := I.cell x c e
    exact absurd (Nat.lt_of_lt_of_le q.lt (by rw [z]; exact hb)) (Nat.lt_irrefl _)
  · exact absurd (Nat.lt_of_lt_of_le (Heap.lt_size (I.pin p hp).1) (by rw [z]; exact hb)) (Nat.lt_irrefl _)
structure Turn (P : Program) (w : World) (K : PySem.W.Frag) (tg : Expr) (J : It) (fp : List Addr) (it : Addr) (tn : Nat → Heap → Prop) : Prop where
  mem : it ∈ fp
  obj : ∀ i h, tn i h → ∀ b ∈ fp, ∃ o, h.get? b = some o ∧ ∀ v, o.data ≠ .cell v
  keep : ∀ i h h', tn i h → (∀ b ∈ fp, ∀ o, h.get? b = some o → h'.get? b = some o) → tn i h'
  item : ∀ (X : Cx), X.prog = P → X.w = w → X.K = K → X.calm = true → ∀ (i : Nat) (pins : List (Addr × Obj)) (s : Shared) (σ : St) (H : Hp) (E : Value → Shared → Prop), Inv X pins σ H s → (∀ b ∈ fp, FpOk X pins H b) → tn i s.heap → J.go i H →
    wpAny (model P w) X.A (pyNext (.ref it)) (fun r s1 => ∃ u, r = some u ∧
      wpAny (model P w) X.A (letOwnedTupleGo tg (.ref it) u) (fun _ s2 => ∃ x H', Inv X pins σ H' s2 ∧ RelV x u ∧ J.yld i H x H' ∧ tn (i + 1) s2.heap ∧ ∀ b ∈ fp, H' b = none) E s1) E s
  done : ∀ (X : Cx), X.prog = P → X.w = w → X.K = K → X.calm = true → ∀ (i : Nat) (pins : List (Addr × Obj)) (s : Shared) (σ : St) (H : Hp) (E : Value → Shared → Prop), Inv X pins σ H s → (∀ b ∈ fp, FpOk X pins H b) → tn i s.heap → J.stop i H →
    wpAny (model P w) X.A (pyNext (.ref it)) (fun r s1 => r = none ∧ Inv X pins σ H s1) E s
  self : ∀ (A : Around) (i : Nat) (s : Shared) (Q : Value → Shared → Prop) (E : Value → Shared → Prop), tn i s.heap → Q (.ref it) s → wpAny (model P w) A (pyIter (.ref it)) Q E s
abbrev TI := St → Hp → (It → Hp → Prop) → Prop
def PIE (X : Cx) (pins : List (Addr × Obj)) (σ : St) (tg : Expr) (R : It → Hp → Prop) (itv : Value) (s2 : Shared) : Prop :=
  ∃ (it : Addr) (fp : List Addr) (tn : Nat → Heap → Prop) (J : It) (H' : Hp), itv = .ref it ∧ Inv X pins σ H' s2 ∧ Turn X.prog X.w X.K tg J fp it tn ∧ tn 0 s2.heap ∧ (∀ b ∈ fp, FpOk X pins H' b) ∧ R J H'
def PI (X : Cx) (tg iter : Expr) (wi : TI) : Prop :=
  ∀ (pins : List (Addr × Obj)) (s : Shared) (σ : St) (H : Hp) (R : It → Hp → Prop), Inv X pins σ H s → wi σ H R →
    wpAny (model X.prog X.w) X.A (eval iter X.env) (fun v s1 => wpAny (model X.prog X.w) X.A (pyIter v) (PIE X pins σ tg R) X.xe s1) X.xe s
theorem go_of {M : Model} {A : Around} {E : Value → Shared → Prop} {s : Shared} {tg : Expr} {it : Addr} {u : Value} {o : Obj} {n : String} {vs : Array Value} {Q : Unit → Shared → Prop} (ho : s.heap.get? it = some o) (hc : o.cls = .type n) (hd : o.data = .fields vs)
    (hn : ["enumerate", "zip", "dict_itemiterator", "dict_reverseitemiterator", "odict_iterator", "itertools.zip_longest", "itertools.pairwise"].contains n = false) (hQ : Q () s) : wpAny M A (letOwnedTupleGo tg (.ref it) u) Q E s := by
  unfold letOwnedTupleGo
  cases tg <;> first
    | exact wpAny_pure hQ
    | (cases u <;> first
        | exact wpAny_pure hQ
        | (refine wpAny_bind (wpAny_load ho ?_)
           rw [hc, hd]
           show wpAny M A (if (["enumerate", "zip", "dict_itemiterator", "dict_reverseitemiterator", "odict_iterator", "itertools.zip_longest", "itertools.pairwise"].contains n && vs[0]? == some (rawInt _)) = true then _ else _) Q E s
           rw [if_neg (by intro h; rw [hn, Bool.false_and] at h; cases h)]
           exact wpAny_pure hQ))
def Itl (K : PySem.W.Frag) (a : Addr) : It :=
  ⟨fun i H => ∃ xs x, SqL K H a xs ∧ xs[i]? = some x, fun i H x H' => H' = H ∧ ∀ xs, SqL K H a xs → xs[i]? = some x, fun i H => ∃ xs, SqL K H a xs ∧ xs.length ≤ i⟩
def Itt (K : PySem.W.Frag) (a : Addr) : It :=
  ⟨fun i H => ∃ xs x, SqT K H a xs ∧ xs[i]? = some x, fun i H x H' => H' = H ∧ ∀ xs, SqT K H a xs → xs[i]? = some x, fun i H => ∃ xs, SqT K H a xs ∧ xs.length ≤ i⟩
def Itr (lo : Int) (n : Nat) : It := ⟨fun i _ => i < n, fun i H x H' => H' = H ∧ x = .int (lo + i), fun i _ => n ≤ i⟩
theorem turn_list {P : Program} {w : World} {K : PySem.W.Frag} {tg : Expr} (a it : Addr) : Turn P w K tg (Itl K a) [it] it (fun i h => h.IsListIter it a i) where
  mem := by simp
  obj := fun i h st b hb => by
    have e : b = it := by simpa using hb
    subst e
    obtain ⟨o, e, c, d⟩ := st
    exact ⟨o, e, fun v z => by rw [d] at z; cases z⟩
  keep := fun i h h' st k => st.at fun o e => k it (by simp) o e
  item := by
    intro X hP hw hK hc i pins s σ H E I hf st hg
    subst hP hw hK
    obtain ⟨xs, x, hq, hx⟩ := hg
    obtain ⟨its, rv, p, hz⟩ := I.list hq
    obtain ⟨u, hu, ru⟩ := rv.get hx
    obtain ⟨f0, f1, f2, f3, f4, f5⟩ := hf it (by simp)
    refine wpAny_pyNext_list_item st p.isList (x := u) (by simpa using hu) fun h' st' sb => ?_
    have I1 : Inv X pins σ H { s with heap := h' } := I.turned (t' := s.toks) (fun b o hb e => (sb.2 b hb).trans e) f0 f1 f3 f4 f5
    obtain ⟨o, e, c, d⟩ := id st'
    exact ⟨u, rfl, go_of (s := { s with heap := h' }) e c d (by decide) ⟨x, H, I1, ru, ⟨rfl, fun ys hy => by rw [I.list_inj hy hq]; exact hx⟩, st', fun b hb => (hf b hb).1⟩⟩
  done := by
    intro X hP hw hK hc i pins s σ H E I hf st hg
    subst hP hw hK
    obtain ⟨xs, hq, hx⟩ := hg
    obtain ⟨its, rv, p, hz⟩ := I.list hq
    obtain ⟨f0, f1, f2, f3, f4, f5⟩ := hf it (by simp)
    have hl := rv.length
    exact wpAny_pyNext_list_end (I.ok.hd hc) st p.isList (by simp; omega) fun h' eb => ⟨rfl, I.turned (t' := s.toks) (fun b o hb e => eb b o hb e) f0 f1 f3 f4 f5⟩
  self := fun _ _ _ _ _ st h => wpAny_pyIter_listiter st h
theorem turn_tuple {P : Program} {w : World} {K : PySem.W.Frag} {tg : Expr} (a it : Addr) : Turn P w K tg (Itt K a) [it] it (fun i h => h.IsTupleIter it a i) where
  mem := by simp
  obj := fun i h st b hb => by
    have e : b = it := by simpa using hb
    subst e
    obtain ⟨o, e, c, d⟩ := st
    exact ⟨o, e, fun v z => by rw [d] at z; cases z⟩
  keep := fun i h h' st k => st.at fun o e => k it (by simp) o e
  item := by
    intro X hP hw hK hc i pins s σ H E I hf st hg
    subst hP hw hK
    obtain ⟨xs, x, hq, hx⟩ := hg
    obtain ⟨its, rv, p, hz⟩ := I.tuple hq
    obtain ⟨u, hu, ru⟩ := rv.get hx
    obtain ⟨f0, f1, f2, f3, f4, f5⟩ := hf it (by simp)
    refine wpAny_pyNext_tuple_item st (show s.heap.IsTuple a its.toArray from p) (x := u) (by simpa using hu) fun h' st' sb => ?_
    have I1 : Inv X pins σ H { s with heap := h' } := I.turned (t' := s.toks) (fun b o hb e => (sb.2 b hb).trans e) f0 f1 f3 f4 f5
    obtain ⟨o, e, c, d⟩ := id st'
    exact ⟨u, rfl, go_of (s := { s with heap := h' }) e c d (by decide) ⟨x, H, I1, ru, ⟨rfl, fun ys hy => by rw [I.tuple_inj hy hq]; exact hx⟩, st', fun b hb => (hf b hb).1⟩⟩
  done := by
    intro X hP hw hK hc i pins s σ H E I hf st hg
    subst hP hw hK
    obtain ⟨xs, hq, hx⟩ := hg
    obtain ⟨its, rv, p, hz⟩ := I.tuple hq
    obtain ⟨f0, f1, f2, f3, f4, f5⟩ := hf it (by simp)
    have hl := rv.length
    exact wpAny_pyNext_tuple_end (I.ok.hd hc) st (show s.heap.IsTuple a its.toArray from p) (by simp; omega) fun h' eb => ⟨rfl, I.turned (t' := s.toks) (fun b o hb e => eb b o hb e) f0 f1 f3 f4 f5⟩
  self := fun _ _ _ _ _ st h => wpAny_pyIter_tupleiter st h
theorem turn_range {P : Program} {w : World} {K : PySem.W.Frag} {tg : Expr} (it : Addr) (lo : Int) (n : Nat) : Turn P w K tg (Itr lo n) [it] it (fun i h => IsRangeIter h it (lo + (i : Nat) * 1) ((n : Int) - (i : Nat)) 1) where
  mem := by simp
  obj := fun i h st b hb => by
    have e : b = it := by simpa using hb
    subst e
    exact ⟨_, st, fun v z => by
      have z' : Data.fields _ = Data.cell v := z
      cases z'⟩
  keep := fun i h h' st k => k it (by simp) _ st
  item := by
    intro X hP hw hK hc i pins s σ H E I hf st hg
    subst hP hw hK
    obtain ⟨f0, f1, f2, f3, f4, f5⟩ := hf it (by simp)
    have W := Walks.range (prog := X.prog) (w := X.w) (I.ok.hd hc) it lo 1 n
    refine W.item i s _ _ hg st fun v h' tk hv st' kk => ?_
    obtain ⟨t, rfl⟩ := hv
    have I1 : Inv X pins σ H { s with heap := h', toks := tk } := I.turned (fun b o hb e => kk b o (by simpa using hb) e) f0 f1 f3 f4 f5
    refine ⟨_, rfl, go_of (s := { s with heap := h', toks := tk }) (n := "range_iterator") st' rfl rfl (by decide) ⟨.int (lo + i), H, I1, ⟨t, ?_⟩, ⟨rfl, rfl⟩, st', fun b hb => (hf b hb).1⟩⟩
    rw [Int.mul_one]
  done := by
    intro X hP hw hK hc i pins s σ H E I hf st hg
    subst hP hw hK
    obtain ⟨f0, f1, f2, f3, f4, f5⟩ := hf it (by simp)
    exact wpAny_pyNext_range_end (I.ok.hd hc) st (by have : n ≤ i := hg; omega) fun h' eb => ⟨rfl, I.turned (t' := s.toks) (fun b o hb e => eb b o hb e) f0 f1 f3 f4 f5⟩
  self := fun _ _ _ _ _ st h => wpAny_pyIter_rangeiter st h
end L2
namespace L2
open PySem PySem.Spec PyProof.Rows
section
variable {X : Cx} {tg : Expr}
def iList (K : PySem.W.Frag) (tl : TE) : TI := fun σ H R => tl σ H fun x H1 => ∃ a, x = .ref a ∧ (∃ xs, SqL K H1 a xs) ∧ R (Itl K a) H1
def iTup (K : PySem.W.Frag) (tl : TE) : TI := fun σ H R => tl σ H fun x H1 => ∃ a, x = .ref a ∧ (∃ xs, SqT K H1 a xs) ∧ R (Itt K a) H1
theorem pi_list {l : Expr} {tl : TE} (hl : PE X l tl) : PI X tg l (iList X.K tl) := by
  intro pins s σ H R I h
  refine thn (hl pins s σ H _ I h) fun v s1 ⟨x, H1, I1, r1, q1⟩ => ?_
  obtain ⟨a, e, ⟨xs, hq⟩, q⟩ := q1
  subst e
  cases r1
  obtain ⟨its, rv, p, hz⟩ := I1.list hq
  refine wpAny_pyIter_list p.isList ?_
  refine ⟨s1.heap.objs.size, [s1.heap.objs.size], _, _, H1, rfl, I1.kept (t' := s1.toks) fun b o e => Heap.get?_push_of_some _ e, turn_list a _, ⟨_, Heap.get?_push_size _ rfl, rfl, rfl⟩, fun b hb => ?_, q⟩
  have e : b = s1.heap.objs.size := by simpa using hb
  subst e
  exact I1.fpOk (Nat.le_refl _) (I1.hok.fresh (Nat.le_refl _))
theorem pi_tup {l : Expr} {tl : TE} (hl : PE X l tl) : PI X tg l (iTup X.K tl) := by
  intro pins s σ H R I h
  refine thn (hl pins s σ H _ I h) fun v s1 ⟨x, H1, I1, r1, q1⟩ => ?_
  obtain ⟨a, e, ⟨xs, hq⟩, q⟩ := q1
  subst e
  cases r1
  obtain ⟨its, rv, p, hz⟩ := I1.tuple hq
  refine wpAny_pyIter_tuple (show s1.heap.IsTuple a its.toArray from p) ?_
  refine ⟨s1.heap.objs.size, [s1.heap.objs.size], _, _, H1, rfl, I1.kept (t' := s1.toks) fun b o e => Heap.get?_push_of_some _ e, turn_tuple a _, ⟨_, Heap.get?_push_size _ rfl, rfl, rfl⟩, fun b hb => ?_, q⟩
  have e : b = s1.heap.objs.size := by simpa using hb
  subst e
  exact I1.fpOk (Nat.le_refl _) (I1.hok.fresh (Nat.le_refl _))
theorem range_it {pins : List (Addr × Obj)} {σ : St} {H : Hp} {s : Shared} {R : It → Hp → Prop} {E : Value → Shared → Prop} {lo hi : Int} {t u v : Tok} {tk : Nat} (I : Inv X pins σ H s) (h1 : -(2 ^ 62) ≤ lo) (h2 : lo < 2 ^ 62) (h3 : -(2 ^ 62) ≤ hi) (h4 : hi < 2 ^ 62)
    (q : R (Itr lo (hi - lo).toNat) H) : wpAny (model X.prog X.w) X.A (pyIter (.ref s.heap.objs.size)) (PIE X pins σ tg R) E { s with heap := s.heap.push { cls := .type "range", data := .fields #[.int lo t, .int hi u, .int 1 v] }, toks := tk } := by
  refine wpAny_pyIter_range (IsRange.new ..) (small_one h1 h2 h3 h4) ?_
  have I1 : Inv X pins σ H { s with heap := s.heap.push { cls := .type "range", data := .fields #[.int lo t, .int hi u, .int 1 v] }, toks := tk } := I.kept fun b o e => Heap.get?_push_of_some _ e
  refine ⟨(s.heap.push { cls := .type "range", data := .fields #[.int lo t, .int hi u, .int 1 v] }).objs.size, [(s.heap.push { cls := .type "range", data := .fields #[.int lo t, .int hi u, .int 1 v] }).objs.size], _, _, H, rfl,
    I1.kept (t' := tk) fun b o e => Heap.get?_push_of_some _ e, turn_range _ lo (hi - lo).toNat, ?_, fun b hb => ?_, q⟩
  · have e1 : lo + ((0 : Nat) : Int) * 1 = lo := by simp
    have e2 : (((hi - lo).toNat : Nat) : Int) - ((0 : Nat) : Int) = Builtin.Range.rangeSize lo hi 1 := by rw [rangeSize_one]; split <;> omega
    show IsRangeIter _ _ (lo + ((0 : Nat) : Int) * 1) ((((hi - lo).toNat : Nat) : Int) - ((0 : Nat) : Int)) 1
    rw [e1, e2]
    exact Heap.get?_push_size _ rfl
  · have e : b = (s.heap.push { cls := .type "range", data := .fields #[.int lo t, .int hi u, .int 1 v] }).objs.size := by simpa using hb
    subst e
    exact I1.fpOk (Nat.le_refl _) (I1.hok.fresh (Nat.le_refl _))
def iRng1 (ta : TA) : TI := fun σ H R => ta σ H fun vs H1 => ∃ j : Int, vs = [.int j] ∧ -(2 ^ 62) ≤ j ∧ j < 2 ^ 62 ∧ R (Itr 0 j.toNat) H1
def iRng2 (ta : TA) : TI := fun σ H R => ta σ H fun vs H1 => ∃ i j : Int, vs = [.int i, .int j] ∧ (-(2 ^ 62) ≤ i ∧ i < 2 ^ 62 ∧ -(2 ^ 62) ≤ j ∧ j < 2 ^ 62) ∧ R (Itr i (j - i).toNat) H1
theorem pi_range1 {a : Expr} {ta : TA} {p pos : Pos} (hg : Gl X "range") (hm : X.mg "range" = none) (ha : PA X [a] ta) (hs : starEach [a] X.env = [(false, eval a X.env)] := by rfl) : PI X tg (.Call (.Name "range" p) [a] [] pos) (iRng1 ta) := by
  intro pins s σ H R I h
  refine Call_ (ld_blt I hg hm boot_range (PyProof.Rows.callWith_type1 (thn (ha pos pins s σ H _ I h) fun us s1 ⟨vs, H1, I1, r1, q1⟩ => ?_) hs rfl))
  obtain ⟨j, e, q1, q2, q⟩ := q1
  subst e
  cases r1 with
  | cons r rr =>
    cases rr
    obtain ⟨t, rfl⟩ := r
    exact call_range_1 (range_it I1 (by omega) (by omega) q1 q2 (by simpa using q))
theorem pi_range2 {a b : Expr} {ta : TA} {p pos : Pos} (hg : Gl X "range") (hm : X.mg "range" = none) (ha : PA X [a, b] ta) (hs : starEach [a, b] X.env = [(false, eval a X.env), (false, eval b X.env)] := by rfl) (hs2 : starEach [b] X.env = [(false, eval b X.env)] := by rfl) :
    PI X tg (.Call (.Name "range" p) [a, b] [] pos) (iRng2 ta) := by
  intro pins s σ H R I h
  refine Call_ (ld_blt I hg hm boot_range (PyProof.Rows.callWith_type1 (thn (ha pos pins s σ H _ I h) fun us s1 ⟨vs, H1, I1, r1, q1⟩ => ?_) (by rw [hs, hs2]) (by rw [hs2]; rfl)))
  obtain ⟨i, j, e, ⟨q1, q2, q3, q4⟩, q⟩ := q1
  subst e
  cases r1 with
  | cons r rr =>
    cases rr with
    | cons r' rr =>
      cases rr
      obtain ⟨t, rfl⟩ := r
      obtain ⟨t', rfl⟩ := r'
      exact call_range_2 (range_it I1 q1 q2 q3 q4 q)
def tFor (wi : TI) (g : TG) (tb : TS) : TS := fun D σ H => wi σ H fun J H1 => ∃ W : Nat → Nat → St → Hp → Prop, (∃ m, W 0 m σ H1) ∧ ∀ i m σ H, W i m σ H →
  (J.stop i H ∧ D.nx σ H) ∨ (J.go i H ∧ ∃ N : St → Hp → Prop, (∀ σ' H', N σ' H' → ∃ m', m' < m ∧ W (i + 1) m' σ' H') ∧ ∀ x H', J.yld i H x H' → g x σ H' fun σ2 H2 => tb { D with nx := N, ct := N, bk := D.nx } σ2 H2)
def pinsAt (fp : List Addr) (h : Heap) : List (Addr × Obj) := fp.filterMap fun b => (h.get? b).map fun o => (b, o)
theorem mem_pinsAt {fp : List Addr} {h : Heap} {b : Addr} {o : Obj} (hb : b ∈ fp) (e : h.get? b = some o) : (b, o) ∈ pinsAt fp h := List.mem_filterMap.mpr ⟨b, hb, by rw [e]; rfl⟩
theorem of_pinsAt {fp : List Addr} {h : Heap} {p : Addr × Obj} (hp : p ∈ pinsAt fp h) : p.1 ∈ fp ∧ h.get? p.1 = some p.2 := by
  obtain ⟨b, hb, e⟩ := List.mem_filterMap.mp hp
  cases q : h.get? b with
  | none => rw [q] at e; cases e
  | some o =>
    rw [q] at e
    have e' : (b, o) = p := Option.some.inj e
    subst e'
    exact ⟨hb, q⟩
theorem Inv.pinned {pins : List (Addr × Obj)} {σ : St} {H : Hp} {s : Shared} {fp : List Addr} (I : Inv X pins σ H s) (hf : ∀ b ∈ fp, FpOk X pins H b) (ho : ∀ b ∈ fp, ∃ o, s.heap.get? b = some o ∧ ∀ v, o.data ≠ .cell v) : Inv X (pins ++ pinsAt fp s.heap) σ H s :=
  I.pins_of fun p hp => (List.mem_append.mp hp).elim (fun z => I.pin p (List.mem_append_right _ z)) fun z => by
    obtain ⟨hb, e⟩ := of_pinsAt z
    obtain ⟨f0, f1, f2, _⟩ := hf p.1 hb
    obtain ⟨o, e', d⟩ := ho p.1 hb
    rw [e] at e'; cases e'
    exact ⟨e, f0, f1, f2, d⟩
theorem Inv.unpinned {pins pl : List (Addr × Obj)} {σ : St} {H : Hp} {s : Shared} (I : Inv X (pins ++ pl) σ H s) : Inv X pins σ H s := I.pins_of fun p hp => I.pin p (List.mem_append_right _ (List.mem_append_left _ hp))
theorem ps_for {iter : Expr} {body : List Stmt} {wi : TI} {g : TG} {tb : TS} {pos : Pos} (hp : PassesOwn (model X.prog X.w) X.A X.env X.xe) (hc : X.calm = true) (hi : PI X tg iter wi) (hg : PG X tg g) (hb : PSs X body tb)
    (hs : ∀ x, foldedSetIterable iter X.env x = pure x := by intro _; rfl) : PS X (.For tg iter body [] pos) (tFor wi g tb) := by
  intro pins s σ H D I h
  refine wpAny_For (thn (hi pins s σ H _ I h) fun v s1 h1 => thn h1 fun itv s2 h2 => ?_) hs
  obtain ⟨it, fp, tn, J, H2, e, I2, T, st2, f2, W, ⟨m0, w0⟩, turn⟩ := h2
  subst e
  have stat : ∀ {H' : Hp}, (∀ b ∈ fp, H' b = none) → ∀ b ∈ fp, FpOk X pins H' b := fun hn b hb => ⟨hn b hb, (f2 b hb).2⟩
  refine codeAny_forLoop_any (fun n s' => ∃ i σ' H', Inv X pins σ' H' s' ∧ tn i s'.heap ∧ (∀ b ∈ fp, H' b = none) ∧ W i n σ' H') ?_ m0 ⟨0, σ, H2, I2, st2, fun b hb => (f2 b hb).1, w0⟩
  rintro n s3 ⟨i, σ3, H3, I3, st3, fr3, w3⟩
  rcases turn i n σ3 H3 w3 with ⟨stop, qn⟩ | ⟨go, N, hN, step⟩
  · refine wpAny_passesOwn hp (thn (T.done X rfl rfl rfl hc i pins s3 σ3 H3 X.xe I3 (stat fr3) st3 stop) fun r s4 ⟨hr, I4⟩ => ?_)
    subst hr
    exact wpAny_execs_nil ⟨σ3, H3, I4, qn⟩
  · refine wpAny_passesOwn hp (thn (T.item X rfl rfl rfl hc i pins s3 σ3 H3 X.xe I3 (stat fr3) st3 go) fun r s4 ⟨u, hr, h4⟩ => ?_)
    subst hr
    refine wpAny_passesOwn hp (thn h4 fun _ s5 ⟨x, H5, I5, r5, y5, st5, fr5⟩ => ?_)
    have I5' := I5.pinned (stat fr5) (T.obj _ _ st5)
    refine wpAny_passesOwn hp (thn (hg _ s5 σ3 H5 x u _ I5' r5 (step x H5 y5)) fun _ s6 ⟨σ6, H6, I6, q6⟩ => ?_)
    refine wpAny_passesOwn hp (thn (hb _ s6 σ6 H6 _ I6 q6) fun f s7 q7 => ?_)
    have again : ∀ {σ7 : St} {H7 : Hp}, Inv X (pins ++ pinsAt fp s5.heap) σ7 H7 s7 → N σ7 H7 → ∃ m, m < n ∧ ∃ i σ' H', Inv X pins σ' H' s7 ∧ tn i s7.heap ∧ (∀ b ∈ fp, H' b = none) ∧ W i m σ' H' := fun {σ7 H7} I7 n7 => by
      obtain ⟨m', hm, w7⟩ := hN σ7 H7 n7
      refine ⟨m', hm, i + 1, σ7, H7, I7.unpinned, T.keep _ _ _ st5 fun b hb o e => (I7.pin (b, o) (List.mem_append_right _ (List.mem_append_right _ (mem_pinsAt hb e)))).1, fun b hb => ?_, w7⟩
      obtain ⟨o, e, d⟩ := T.obj _ _ st5 b hb
      exact (I7.pin (b, o) (List.mem_append_right _ (List.mem_append_right _ (mem_pinsAt hb e)))).2.1
    cases f with
    | next => obtain ⟨σ7, H7, I7, n7⟩ := q7; exact again I7 n7
    | cont => obtain ⟨σ7, H7, I7, n7⟩ := q7; exact again I7 n7
    | brk => obtain ⟨σ7, H7, I7, q7⟩ := q7; exact ⟨σ7, H7, I7.unpinned, q7⟩
    | ret v => obtain ⟨x7, σ7, H7, I7, r7, q7⟩ := q7; exact ⟨x7, σ7, H7, I7.unpinned, r7, q7⟩
end
theorem for_list {K : PySem.W.Frag} {a : Addr} {xs : List V} {g : TG} {tb : TS} {D : Ends} {σ : St} {H : Hp} (Pv : Nat → St → Hp → Prop) (h0 : Pv 0 σ H) (hl : ∀ i σ H, i ≤ xs.length → Pv i σ H → SqL K H a xs)
    (hs : ∀ i x σ H, xs[i]? = some x → Pv i σ H → g x σ H fun σ2 H2 => tb { D with nx := Pv (i + 1), ct := Pv (i + 1), bk := D.nx } σ2 H2) (hd : ∀ σ H, Pv xs.length σ H → D.nx σ H) :
    ∃ W : Nat → Nat → St → Hp → Prop, (∃ m, W 0 m σ H) ∧ ∀ i m σ H, W i m σ H →
      ((Itl K a).stop i H ∧ D.nx σ H) ∨ ((Itl K a).go i H ∧ ∃ N : St → Hp → Prop, (∀ σ' H', N σ' H' → ∃ m', m' < m ∧ W (i + 1) m' σ' H') ∧ ∀ x H', (Itl K a).yld i H x H' → g x σ H' fun σ2 H2 => tb { D with nx := N, ct := N, bk := D.nx } σ2 H2) := by
  refine ⟨fun i m σ H => m = xs.length - i ∧ i ≤ xs.length ∧ Pv i σ H, ⟨xs.length, by simp, Nat.zero_le _, h0⟩, ?_⟩
  rintro i m σ H ⟨rfl, hi, p⟩
  have q := hl i σ H hi p
  by_cases hlt : i < xs.length
  · refine .inr ⟨⟨xs, xs[i], q, by simp [hlt]⟩, Pv (i + 1), fun σ' H' p' => ⟨xs.length - (i + 1), by omega, rfl, hlt, p'⟩, fun x H' y => ?_⟩
    obtain ⟨e, y⟩ := y
    subst e
    exact hs i x σ _ (y xs q) p
  · have e : i = xs.length := by omega
    subst e
    exact .inl ⟨⟨xs, q, Nat.le_refl _⟩, hd σ H p⟩
theorem for_tup {K : PySem.W.Frag} {a : Addr} {xs : List V} {g : TG} {tb : TS} {D : Ends} {σ : St} {H : Hp} (Pv : Nat → St → Hp → Prop) (h0 : Pv 0 σ H) (hl : ∀ i σ H, i ≤ xs.length → Pv i σ H → SqT K H a xs)
    (hs : ∀ i x σ H, xs[i]? = some x → Pv i σ H → g x σ H fun σ2 H2 => tb { D with nx := Pv (i + 1), ct := Pv (i + 1), bk := D.nx } σ2 H2) (hd : ∀ σ H, Pv xs.length σ H → D.nx σ H) :
    ∃ W : Nat → Nat → St → Hp → Prop, (∃ m, W 0 m σ H) ∧ ∀ i m σ H, W i m σ H →
      ((Itt K a).stop i H ∧ D.nx σ H) ∨ ((Itt K a).go i H ∧ ∃ N : St → Hp → Prop, (∀ σ' H', N σ' H' → ∃ m', m' < m ∧ W (i + 1) m' σ' H') ∧ ∀ x H', (Itt K a).yld i H x H' → g x σ H' fun σ2 H2 => tb { D with nx := N, ct := N, bk := D.nx } σ2 H2) := by
  refine ⟨fun i m σ H => m = xs.length - i ∧ i ≤ xs.length ∧ Pv i σ H, ⟨xs.length, by simp, Nat.zero_le _, h0⟩, ?_⟩
  rintro i m σ H ⟨rfl, hi, p⟩
  have q := hl i σ H hi p
  by_cases hlt : i < xs.length
  · refine .inr ⟨⟨xs, xs[i], q, by simp [hlt]⟩, Pv (i + 1), fun σ' H' p' => ⟨xs.length - (i + 1), by omega, rfl, hlt, p'⟩, fun x H' y => ?_⟩
    obtain ⟨e, y⟩ := y
    subst e
    exact hs i x σ _ (y xs q) p
  · have e : i = xs.length := by omega
    subst e
    exact .inl ⟨⟨xs, q, Nat.le_refl _⟩, hd σ H p⟩
theorem for_range {lo : Int} {n : Nat} {g : TG} {tb : TS} {D : Ends} {σ : St} {H : Hp} (Pv : Nat → St → Hp → Prop) (h0 : Pv 0 σ H)
    (hs : ∀ i σ H, i < n → Pv i σ H → g (.int (lo + i)) σ H fun σ2 H2 => tb { D with nx := Pv (i + 1), ct := Pv (i + 1), bk := D.nx } σ2 H2) (hd : ∀ σ H, Pv n σ H → D.nx σ H) :
    ∃ W : Nat → Nat → St → Hp → Prop, (∃ m, W 0 m σ H) ∧ ∀ i m σ H, W i m σ H →
      ((Itr lo n).stop i H ∧ D.nx σ H) ∨ ((Itr lo n).go i H ∧ ∃ N : St → Hp → Prop, (∀ σ' H', N σ' H' → ∃ m', m' < m ∧ W (i + 1) m' σ' H') ∧ ∀ x H', (Itr lo n).yld i H x H' → g x σ H' fun σ2 H2 => tb { D with nx := N, ct := N, bk := D.nx } σ2 H2) := by
  refine ⟨fun i m σ H => m = n - i ∧ i ≤ n ∧ Pv i σ H, ⟨n, by simp, Nat.zero_le _, h0⟩, ?_⟩
  rintro i m σ H ⟨rfl, hi, p⟩
  by_cases hlt : i < n
  · refine .inr ⟨hlt, Pv (i + 1), fun σ' H' p' => ⟨n - (i + 1), by omega, rfl, hlt, p'⟩, fun x H' y => ?_⟩
    obtain ⟨e, y⟩ := y
    subst e y
    exact hs i σ _ hlt p
  · have e : i = n := by omega
    subst e
    exact .inl ⟨Nat.le_refl _, hd σ H p⟩
end L2
namespace L2
open PySem PySem.Spec PyProof.Rows
abbrev R2 := V → V → Hp → VK → Prop
def OpR (X : Cx) (f : Value → Value → Sem Value) (r : R2) : Prop :=
  ∀ (pins : List (Addr × Obj)) (s : Shared) (σ : St) (H : Hp) (x y : V) (v u : Value) (Q : VK), Inv X pins σ H s → RelV x v → RelV y u → r x y H Q →
    wpAny (model X.prog X.w) X.A (f v u) (EP X pins σ Q) X.xe s
def CallR (X : Cx) (f : Value) (r : List V → Hp → VK → Prop) : Prop :=
  ∀ (pins : List (Addr × Obj)) (s : Shared) (σ : St) (H : Hp) (xs : List V) (us : List Value) (Q : VK), Inv X pins σ H s → Vals xs us → r xs H Q →
    wpAny (model X.prog X.w) X.A (call f us) (EP X pins σ Q) X.xe s
def TruR (X : Cx) (r : V → Hp → (Bool → Hp → Prop) → Prop) : Prop :=
  ∀ (pins : List (Addr × Obj)) (s : Shared) (σ : St) (H : Hp) (x : V) (v : Value) (Q : Bool → Hp → Prop), Inv X pins σ H s → RelV x v → r x H Q →
    wpAny (model X.prog X.w) X.A (truthy v) (TP X pins σ Q) X.xe s
def tOp (r : R2) (ta tb : TE) : TE := fun σ H Q => ta σ H fun x H1 => tb σ H1 fun y H2 => r x y H2 Q
def rI (C : Int → Int → Prop) (g : Int → Int → V) : R2 := fun x y H Q => ∃ i j, x = .int i ∧ y = .int j ∧ C i j ∧ Q (g i j) H
def rI0 (g : Int → Int → V) : R2 := fun x y H Q => ∃ i j, x = .int i ∧ y = .int j ∧ Q (g i j) H
section
variable {X : Cx} {a b c : Expr} {ta tb tc : TE} {pos : Pos}
theorem binT (ha : PE X a ta) (hb : PE X b tb) {pins : List (Addr × Obj)} {s : Shared} {σ : St} {H : Hp} {R : V → V → Hp → Prop} (I : Inv X pins σ H s)
    (h : ta σ H fun x H1 => tb σ H1 fun y H2 => R x y H2) {Q : Value → Shared → Prop} {f : Value → Value → Sem Value}
    (hf : ∀ v u s2 x y H2, Inv X pins σ H2 s2 → RelV x v → RelV y u → R x y H2 → wpAny (model X.prog X.w) X.A (f v u) Q X.xe s2) :
    wpAny (model X.prog X.w) X.A (eval a X.env) (fun v s₁ => wpAny (model X.prog X.w) X.A (eval b X.env) (fun u s₂ => wpAny (model X.prog X.w) X.A (f v u) Q X.xe s₂) X.xe s₁) X.xe s := by
  refine thn (ha pins s σ H _ I h) fun v s1 ⟨x, H1, I1, r1, q1⟩ => ?_
  refine thn (hb pins s1 σ H1 _ I1 q1) fun u s2 ⟨y, H2, I2, r2, q2⟩ => ?_
  exact hf v u s2 x y H2 I2 r1 r2 q2
theorem pe_op {op : Operator} {r : R2} (ho : OpR X (binaryOp op) r) (ha : PE X a ta) (hb : PE X b tb) : PE X (.BinOp a op b pos) (tOp r ta tb) := by
  intro pins s σ H Q I h
  exact wpAny_BinOp (binT ha hb I h fun v u s2 x y H2 I2 rx ry q => ho pins s2 σ H2 x y v u Q I2 rx ry q)
theorem opI {f : Value → Value → Sem Value} {C : Int → Int → Prop} {g : Int → Int → Int}
    (rule : ∀ (i j : Int) (t u : Tok) (s : Shared) (Q : Value → Shared → Prop) (E : Value → Shared → Prop), C i j → Q (.int (g i j) s.toks) { s with toks := s.toks + 1 } → wpAny (model X.prog X.w) X.A (f (.int i t) (.int j u)) Q E s) :
    OpR X f (rI C fun i j => .int (g i j)) := by
  intro pins s σ H x y v u Q I rx ry h
  obtain ⟨i, j, rfl, rfl, hc, q⟩ := h
  obtain ⟨t, rfl⟩ := rx
  obtain ⟨t', rfl⟩ := ry
  exact rule i j t t' s _ _ hc ⟨.int (g i j), H, I.tok _, ⟨_, rfl⟩, q⟩
theorem opI0 {f : Value → Value → Sem Value} {g : Int → Int → Int}
    (rule : ∀ (i j : Int) (t u : Tok) (s : Shared) (Q : Value → Shared → Prop) (E : Value → Shared → Prop), Q (.int (g i j) s.toks) { s with toks := s.toks + 1 } → wpAny (model X.prog X.w) X.A (f (.int i t) (.int j u)) Q E s) :
    OpR X f (rI0 fun i j => .int (g i j)) := by
  intro pins s σ H x y v u Q I rx ry h
  obtain ⟨i, j, rfl, rfl, q⟩ := h
  obtain ⟨t, rfl⟩ := rx
  obtain ⟨t', rfl⟩ := ry
  exact rule i j t t' s _ _ ⟨.int (g i j), H, I.tok _, ⟨_, rfl⟩, q⟩
theorem opB0 {f : Value → Value → Sem Value} {g : Int → Int → Bool}
    (rule : ∀ (i j : Int) (t u : Tok) (s : Shared) (Q : Value → Shared → Prop) (E : Value → Shared → Prop), Q (.bool (g i j)) s → wpAny (model X.prog X.w) X.A (f (.int i t) (.int j u)) Q E s) :
    OpR X f (rI0 fun i j => .bl (g i j)) := by
  intro pins s σ H x y v u Q I rx ry h
  obtain ⟨i, j, rfl, rfl, q⟩ := h
  obtain ⟨t, rfl⟩ := rx
  obtain ⟨t', rfl⟩ := ry
  exact rule i j t t' s _ _ ⟨.bl (g i j), H, I, rfl, q⟩
def CDiv (i j : Int) : Prop := 0 < j ∧ j < 1073741824
def CMul (i j : Int) : Prop := (-(2 ^ 64) < i ∧ i < 2 ^ 64) ∨ (-(2 ^ 64) < j ∧ j < 2 ^ 64)
theorem CMul.ok {i j : Int} (h : CMul i j) : IntMulOk i j := by
  rcases h with ⟨h1, h2⟩ | ⟨h1, h2⟩
  · exact .of_left (intBits_le_64 h1 h2)
  · exact .of_right (intBits_le_64 h1 h2)
theorem op_add : OpR X (binaryOp .Add) (rI0 fun i j => .int (i + j)) := opI0 fun _ _ _ _ _ _ _ q => add_int q
theorem op_sub : OpR X (binaryOp .Sub) (rI0 fun i j => .int (i - j)) := opI0 fun _ _ _ _ _ _ _ q => sub_int q
theorem op_mul : OpR X (binaryOp .Mult) (rI CMul fun i j => .int (i * j)) := opI fun _ _ _ _ _ _ _ hc q => mul_int q hc.ok
theorem op_fdiv : OpR X (binaryOp .FloorDiv) (rI CDiv fun i j => .int (i / j)) := opI fun i j _ _ _ _ _ hc q => by
  have h1 : (0 : Int) < j := hc.1
  have h2 : j < 1073741824 := hc.2
  exact floordiv_int (by omega) (by rw [Int.fdiv_eq_ediv_of_nonneg i (by omega)]; exact q) (.inl (PyProof.noPylong_small (by omega)))
theorem op_mod : OpR X (binaryOp .Mod) (rI (fun _ j => 0 < j) fun i j => .int (i % j)) := opI fun i j _ _ _ _ _ hc q => by
  have h1 : (0 : Int) < j := hc
  exact mod_int' (by omega) (by rw [Int.fmod_eq_emod_of_nonneg i (by omega)]; exact q)
theorem iop_add : OpR X (inplaceOp .Add) (rI0 fun i j => .int (i + j)) := opI0 fun _ _ _ _ _ _ _ q => iadd_int q
end
def scal : V → V → Bool
  | .non, .non => true | .non, .int _ => true | .int _, .non => true | .non, .bl _ => true | .bl _, .non => true | .non, .str _ => true | .str _, .non => true
  | .int _, .int _ => true | .bl _, .bl _ => true | .str _, .str _ => true | .byt _, .byt _ => true
  | .int _, .str _ => true | .str _, .int _ => true | .bl _, .str _ => true | .str _, .bl _ => true
  | _, _ => false
def rEq : R2 := fun x y H Q => scal x y = true ∧ Q (.bl (decide (x = y))) H
def rNe : R2 := fun x y H Q => scal x y = true ∧ Q (.bl (!decide (x = y))) H
theorem dec_int {i j : Int} : decide (V.int i = V.int j) = (i == j) := by
  rw [Bool.eq_iff_iff]
  simp
theorem dec_bl {i j : Bool} : decide (V.bl i = V.bl j) = (i == j) := by
  rw [Bool.eq_iff_iff]
  simp
theorem dec_str {i j : Str} : decide (V.str i = V.str j) = (i == j) := by
  rw [Bool.eq_iff_iff]
  simp
theorem dec_byt {i j : Array UInt8} : decide (V.byt i = V.byt j) = (i.toList == j.toList) := by
  rw [Bool.eq_iff_iff]
  cases i
  cases j
  simp
section
variable {X : Cx} {a b c : Expr} {ta tb tc : TE} {pos : Pos}
theorem fin_bl {pins : List (Addr × Obj)} {σ : St} {H : Hp} {s : Shared} {Q : VK} {k k' : Bool} (I : Inv X pins σ H s) (q : Q (.bl k) H) (e : k = k') : EP X pins σ Q (.bool k') s := by
  subst e
  exact ⟨.bl k, H, I, rfl, q⟩
theorem op_eq : OpR X (compareOp .Eq) rEq := by
  intro pins s σ H x y v u Q I rx ry h
  obtain ⟨hs, q⟩ := h
  cases x with
  | non =>
    cases rx
    cases y with
    | non => cases ry; exact PySem.EqNone.eq_none_none (fin_bl I q (by simp))
    | bl j => cases ry; exact PySem.EqNone.eq_none_bool (fin_bl I q (by simp))
    | int j => obtain ⟨t', rfl⟩ := ry; exact PySem.EqNone.eq_none_int (fin_bl I q (by simp))
    | str j => obtain ⟨t', rfl⟩ := ry; exact PySem.EqNone.eq_none_str (fin_bl I q (by simp))
    | _ => exact absurd (show false = true from hs) Bool.false_ne_true
  | bl i =>
    cases rx
    cases y with
    | non => cases ry; exact PySem.EqNone.eq_bool_none (fin_bl I q (by simp))
    | bl j => cases ry; exact eq_bool (fin_bl I q dec_bl)
    | str j => obtain ⟨t', rfl⟩ := ry; exact PySem.EqMixed.eq_bool_str (fin_bl I q (by simp))
    | _ => exact absurd (show false = true from hs) Bool.false_ne_true
  | int i =>
    obtain ⟨t, rfl⟩ := rx
    cases y with
    | non => cases ry; exact PySem.EqNone.eq_int_none (fin_bl I q (by simp))
    | int j => obtain ⟨t', rfl⟩ := ry; exact eq_int (fin_bl I q dec_int)
    | str j => obtain ⟨t', rfl⟩ := ry; exact PySem.EqMixed.eq_int_str (fin_bl I q (by simp))
    | _ => exact absurd (show false = true from hs) Bool.false_ne_true
  | str i =>
    obtain ⟨t, rfl⟩ := rx
    cases y with
    | non => cases ry; exact PySem.EqNone.eq_str_none (fin_bl I q (by simp))
    | bl j => cases ry; exact PySem.EqMixed.eq_str_bool (fin_bl I q (by simp))
    | int j => obtain ⟨t', rfl⟩ := ry; exact PySem.EqMixed.eq_str_int (fin_bl I q (by simp))
    | str j => obtain ⟨t', rfl⟩ := ry; exact eq_str (fin_bl I q dec_str)
    | _ => exact absurd (show false = true from hs) Bool.false_ne_true
  | byt i =>
    obtain ⟨t, rfl⟩ := rx
    cases y with
    | byt j => obtain ⟨t', rfl⟩ := ry; exact PySem.W.eq_bytes (fin_bl I q dec_byt)
    | _ => exact absurd (show false = true from hs) Bool.false_ne_true
  | _ => cases y <;> exact absurd (show false = true from hs) Bool.false_ne_true
theorem op_ne : OpR X (compareOp .NotEq) rNe := by
  intro pins s σ H x y v u Q I rx ry h
  obtain ⟨hs, q⟩ := h
  cases x with
  | non =>
    cases rx
    cases y with
    | non => cases ry; exact PySem.EqNone.ne_none_none (fin_bl I q (by simp))
    | bl j => cases ry; exact PySem.EqNone.ne_none_bool (fin_bl I q (by simp))
    | int j => obtain ⟨t', rfl⟩ := ry; exact PySem.EqNone.ne_none_int (fin_bl I q (by simp))
    | str j => obtain ⟨t', rfl⟩ := ry; exact PySem.EqNone.ne_none_str (fin_bl I q (by simp))
    | _ => exact absurd (show false = true from hs) Bool.false_ne_true
  | bl i =>
    cases rx
    cases y with
    | non => cases ry; exact PySem.EqNone.ne_bool_none (fin_bl I q (by simp))
    | bl j => cases ry; exact ne_bool (fin_bl I q (congrArg not dec_bl))
    | str j => obtain ⟨t', rfl⟩ := ry; exact PySem.EqMixed.ne_bool_str (fin_bl I q (by simp))
    | _ => exact absurd (show false = true from hs) Bool.false_ne_true
  | int i =>
    obtain ⟨t, rfl⟩ := rx
    cases y with
    | non => cases ry; exact PySem.EqNone.ne_int_none (fin_bl I q (by simp))
    | int j => obtain ⟨t', rfl⟩ := ry; exact ne_int (fin_bl I q (congrArg not dec_int))
    | str j => obtain ⟨t', rfl⟩ := ry; exact PySem.EqMixed.ne_int_str (fin_bl I q (by simp))
    | _ => exact absurd (show false = true from hs) Bool.false_ne_true
  | str i =>
    obtain ⟨t, rfl⟩ := rx
    cases y with
    | non => cases ry; exact PySem.EqNone.ne_str_none (fin_bl I q (by simp))
    | bl j => cases ry; exact PySem.EqMixed.ne_str_bool (fin_bl I q (by simp))
    | int j => obtain ⟨t', rfl⟩ := ry; exact PySem.EqMixed.ne_str_int (fin_bl I q (by simp))
    | str j => obtain ⟨t', rfl⟩ := ry; exact ne_str (fin_bl I q (congrArg not dec_str))
    | _ => exact absurd (show false = true from hs) Bool.false_ne_true
  | byt i =>
    obtain ⟨t, rfl⟩ := rx
    cases y with
    | byt j => obtain ⟨t', rfl⟩ := ry; exact PySem.W.ne_bytes (fin_bl I q (congrArg not dec_byt))
    | _ => exact absurd (show false = true from hs) Bool.false_ne_true
  | _ => cases y <;> exact absurd (show false = true from hs) Bool.false_ne_true
theorem op_lt : OpR X (compareOp .Lt) (rI0 fun i j => .bl (decide (i < j))) := opB0 fun _ _ _ _ _ _ _ q => lt_int q
theorem op_gt : OpR X (compareOp .Gt) (rI0 fun i j => .bl (decide (j < i))) := opB0 fun _ _ _ _ _ _ _ q => gt_int q
theorem op_ge : OpR X (compareOp .GtE) (rI0 fun i j => .bl (decide (j ≤ i))) := opB0 fun _ _ _ _ _ _ _ q => ge_int q
theorem op_isN : OpR X (compareOp .Is) (fun x y H Q => y = .non ∧ Q (.bl (decide (x = .non))) H) := by
  intro pins s σ H x y v u Q I rx ry h
  obtain ⟨rfl, q⟩ := h
  cases ry
  refine is_none_gen (fin_bl I q ?_)
  cases x <;> first
    | (cases rx; rfl)
    | (obtain ⟨t, rfl⟩ := rx; rfl)
theorem op_notN : OpR X (compareOp .IsNot) (fun x y H Q => y = .non ∧ Q (.bl (!decide (x = .non))) H) := by
  intro pins s σ H x y v u Q I rx ry h
  obtain ⟨rfl, q⟩ := h
  cases ry
  refine isnot_none_gen (fin_bl I q ?_)
  cases x <;> first
    | (cases rx; rfl)
    | (obtain ⟨t, rfl⟩ := rx; rfl)
theorem nomark (b : Expr) {op : CmpOp} (h : op ≠ .In := by decide) (h2 : op ≠ .NotIn := by decide) : behindInMarks op b = false := by
  have e1 : (op == CmpOp.In) = false := by cases op <;> first | rfl | exact absurd rfl h
  have e2 : (op == CmpOp.NotIn) = false := by cases op <;> first | rfl | exact absurd rfl h2
  cases b <;> simp [behindInMarks, e1, e2]
theorem pe_cmpR {op : CmpOp} {r : R2} (ho : OpR X (compareOp op) r) (ha : PE X a ta) (hb : PE X b tb) (hm : behindInMarks op b = false) : PE X (.Compare a [op] [b] pos) (tOp r ta tb) := by
  intro pins s σ H Q I h
  exact wpAny_Compare1 (binT ha hb I h fun v u s2 x y H2 I2 rx ry q => ho pins s2 σ H2 x y v u Q I2 rx ry q) hm
def tTest (t : TE) : TT := fun σ H Q => t σ H fun x H' => ∃ k, x = .bl k ∧ Q k H'
theorem pt_cmpR {op : CmpOp} {r : R2} (ho : OpR X (compareOp op) r) (ha : PE X a ta) (hb : PE X b tb) (hm : behindInMarks op b = false) : PT X (.Compare a [op] [b] pos) (tTest (tOp r ta tb)) := by
  intro pins s σ H Q I h
  refine wpAny_isTrue_Compare1 (thn (ha pins s σ H _ I h) fun v s1 ⟨x, H1, I1, r1, q1⟩ => thn (hb pins s1 σ H1 _ I1 q1) fun u s2 ⟨y, H2, I2, r2, q2⟩ =>
    thn (ho pins s2 σ H2 x y v u _ I2 r1 r2 q2) fun c s3 ⟨z, H3, I3, r3, k, e, q3⟩ => ?_) hm
  subst e
  cases r3
  exact wpAny_truthy_bool ⟨H3, I3, q3⟩
def TruV (K : PySem.W.Frag) (x : V) (H : Hp) (k : Bool) : Prop :=
  match x with
  | .non => k = false
  | .bl b => k = b
  | .int i => k = (i != 0)
  | .str y => y.length ≤ sizeLine ∧ k = ((y.length : Int) != 0)
  | .byt y => y.size ≤ sizeLine ∧ k = ((y.size : Int) != 0)
  | .ref p => (∃ xs, SqL K H p xs ∧ k = !xs.isEmpty) ∨ (∃ xs, SqT K H p xs ∧ k = !xs.isEmpty) ∨ ∃ kvs, H p = some (.dK kvs) ∧ k = !kvs.isEmpty
  | _ => False
theorem isEmpty_kv {κ : Type} {kvs : List (κ × V)} {vs : List (κ × Value)} (r : KV kvs vs) : (!vs.isEmpty) = !kvs.isEmpty := by
  cases r <;> rfl
theorem isEmpty_of {xs : List V} {its : List Value} (r : Vals xs its) : (!its.toArray.isEmpty) = !xs.isEmpty := by
  cases r <;> simp
theorem line63 : (sizeLine : Nat) < 2 ^ 63 := by rw [sizeLine_eq]; decide
theorem tru_ok : TruR X (fun x H Q => ∃ k, TruV X.K x H k ∧ Q k H) := by
  intro pins s σ H x v Q I rx h
  obtain ⟨k, e, q⟩ := h
  have hl := line63
  have hs : sizeLine = 16777216 := sizeLine_eq
  cases x with
  | non =>
    cases rx
    have e' : k = false := e
    subst e'
    exact truthy_none ⟨H, I, q⟩
  | bl b =>
    cases rx
    have e' : k = b := e
    subst e'
    exact wpAny_truthy_bool ⟨H, I, q⟩
  | int i =>
    obtain ⟨t, rfl⟩ := rx
    have e' : k = (i != 0) := e
    subst e'
    exact PySem.P.truthy_int ⟨H, I, q⟩
  | str y =>
    obtain ⟨t, rfl⟩ := rx
    obtain ⟨hy, e'⟩ : y.length ≤ sizeLine ∧ k = ((y.length : Int) != 0) := e
    subst e'
    exact PySem.P.truthy_str (by omega) ⟨H, I.tok _, q⟩
  | byt y =>
    obtain ⟨t, rfl⟩ := rx
    obtain ⟨hy, e'⟩ : y.size ≤ sizeLine ∧ k = ((y.size : Int) != 0) := e
    subst e'
    exact PySem.W.truthy_bytes (by omega) ⟨H, I.tok _, q⟩
  | ref p =>
    cases rx
    have e' : (∃ xs, SqL X.K H p xs ∧ k = !xs.isEmpty) ∨ (∃ xs, SqT X.K H p xs ∧ k = !xs.isEmpty) ∨ ∃ kvs, H p = some (.dK kvs) ∧ k = !kvs.isEmpty := e
    rcases e' with ⟨xs, hx, e'⟩ | ⟨xs, hx, e'⟩ | ⟨kvs, hx, e'⟩
    · subst e'
      obtain ⟨its, r, pl, hz⟩ := I.list hx
      have hlen := r.length
      exact wpAny_truthy_list pl.isList (by simp only [List.size_toArray]; omega) ⟨H, I.tok _, by rw [isEmpty_of r]; exact q⟩
    · subst e'
      obtain ⟨its, r, pl, hz⟩ := I.tuple hx
      have hlen := r.length
      exact truthy_tuple pl (by simp only [List.size_toArray]; omega) ⟨H, I.tok _, by rw [isEmpty_of r]; exact q⟩
    · subst e'
      obtain ⟨hz, hS, vs, r, m⟩ : kvs.length ≤ sizeLine ∧ (p == sysModules) = false ∧ ∃ vs, KV kvs vs ∧ s.heap.DictOf (mixKind X.prog X.w) p vs := I.hok p _ hx
      have hlen : kvs.length = vs.length := Paired.length r
      exact wpAny_truthy_dict hS m (by omega) ⟨H, I.tok _, by rw [isEmpty_kv r]; exact q⟩
  | _ => exact (show False from e).elim
theorem pt_truth (ha : PE X a ta) (he : ∀ whole, isTrue a X.env whole = (do let v ← whole; standAt a.pos; holding [v] (truthy v))) :
    PT X a (fun σ H Q => ta σ H fun x H' => ∃ k, TruV X.K x H' k ∧ Q k H') := by
  intro pins s σ H Q I h
  exact isTrue_plain (thn (ha pins s σ H _ I h) fun v s1 ⟨x, H1, I1, r1, q1⟩ => tru_ok pins s1 σ H1 x v Q I1 r1 q1) (he _)
theorem vals1 {x : V} {us : List Value} (r : Vals [x] us) : ∃ u, us = [u] ∧ RelV x u := by
  cases r with
  | cons r1 r2 => cases r2; exact ⟨_, rfl, r1⟩
theorem vals2 {x y : V} {us : List Value} (r : Vals [x, y] us) : ∃ u w', us = [u, w'] ∧ RelV x u ∧ RelV y w' := by
  cases r with
  | cons r1 r2 =>
    cases r2 with
    | cons r3 r4 => cases r4; exact ⟨_, _, rfl, r1, r3⟩
theorem call_abs : CallR X (.builtin "abs") (fun xs H Q => ∃ i, xs = [.int i] ∧ Q (.int (if i < 0 then -i else i)) H) := by
  intro pins s σ H xs us Q I r h
  obtain ⟨i, rfl, q⟩ := h
  obtain ⟨u, rfl, t, rfl⟩ := vals1 r
  exact call_abs_int fun u tk => ⟨.int (if i < 0 then -i else i), H, I.tok _, ⟨_, rfl⟩, q⟩
theorem call_max2 (hc : X.calm = true) : CallR X (.builtin "max") (fun xs H Q => ∃ i j, xs = [.int i, .int j] ∧ Q (.int (if j > i then j else i)) H) := by
  intro pins s σ H xs us Q I r h
  obtain ⟨i, j, rfl, q⟩ := h
  obtain ⟨u, w', rfl, ⟨t, rfl⟩, ⟨t', rfl⟩⟩ := vals2 r
  refine max_two_ints (I.ok.hd hc) fun h' tk k => ⟨_, H, I.kept k, ?_, q⟩
  by_cases hj : j > i
  · rw [if_pos hj, if_pos hj]; exact ⟨_, rfl⟩
  · rw [if_neg hj, if_neg hj]; exact ⟨_, rfl⟩
theorem call_min2 (hc : X.calm = true) : CallR X (.builtin "min") (fun xs H Q => ∃ i j, xs = [.int i, .int j] ∧ Q (.int (if j < i then j else i)) H) := by
  intro pins s σ H xs us Q I r h
  obtain ⟨i, j, rfl, q⟩ := h
  obtain ⟨u, w', rfl, ⟨t, rfl⟩, ⟨t', rfl⟩⟩ := vals2 r
  refine min_two_ints (I.ok.hd hc) fun h' tk k => ⟨_, H, I.kept k, ?_, q⟩
  by_cases hj : j < i
  · rw [if_pos hj, if_pos hj]; exact ⟨_, rfl⟩
  · rw [if_neg hj, if_neg hj]; exact ⟨_, rfl⟩
end
end L2
namespace L2
open PySem PySem.Spec PyProof.Rows
structure ObjM (h : Heap) (x dx C : Addr) (mA : Str → Option Value) : Prop where
  obj : h.get? x = some (PySem.W.instObj C dx)
  ns : h.Ns1 dx mA
  ne : dx ≠ x
theorem lookIn_ns {h : Heap} {dx : Addr} {mA : Str → Option Value} (n : h.Ns1 dx mA) : ∃ od, h.get? dx = some od ∧ ∀ name, PySem.W.lookIn name od = some (mA name) := by
  obtain ⟨o, es, ep, ho, hd, hk, _, hm⟩ := n
  refine ⟨o, ho, fun name => ?_⟩
  have e := hm name
  unfold nsFind findBy at e
  rw [← Array.find?_toList] at e
  unfold PySem.W.lookIn
  rw [hd]
  dsimp only
  split
  · rename_i y q
    rw [q] at e
    exact congrArg some e
  · rename_i q
    rw [q] at e
    have a : es.toList.any (·.refKey) = false := by
      rw [List.any_eq_false]
      intro y hy
      obtain ⟨z, t, hkey⟩ := hk y (Array.mem_toList_iff.mp hy)
      simp [DictEntry.refKey, hkey]
    have a' : ¬ es.toList.any (·.refKey) = true := by rw [a]; exact Bool.false_ne_true
    rw [if_neg a']
    exact congrArg some e
theorem ObjM.look {h : Heap} {x dx C : Addr} {mA : Str → Option Value} (I : ObjM h x dx C mA) : ∃ od, PySem.W.InstAt h x (PySem.W.instObj C dx) C (some od) ∧ ∀ name, PySem.W.lookIn name od = some (mA name) :=
  let ⟨od, ho, hl⟩ := lookIn_ns I.ns
  ⟨od, ⟨I.obj, rfl, rfl, ho⟩, hl⟩
theorem RelO.some_of {v : V} {o : Option Value} (r : RelO (some v) o) : ∃ u, o = some u ∧ RelV v u := by
  cases o with
  | none => exact (show False from r).elim
  | some u => exact ⟨u, rfl, r⟩
theorem handed_of {v : V} {u : Value} (r : RelV v u) : PySem.W.handedIn u = true := by
  cases v with
  | non => cases (show u = Value.none from r); rfl
  | bl b => cases (show u = Value.bool b from r); rfl
  | int i => obtain ⟨t, e⟩ := (show ∃ t, u = Value.int i t from r); cases e; rfl
  | str x => obtain ⟨t, e⟩ := (show ∃ t, u = Value.str x t from r); cases e; rfl
  | byt b => obtain ⟨t, e⟩ := (show ∃ t, u = Value.bytes b t from r); cases e; rfl
  | flt b => obtain ⟨t, e⟩ := (show ∃ t, u = Value.float b t from r); cases e; rfl
  | ref a => cases (show u = Value.ref a from r); rfl
  | ty n => cases (show u = Value.type n from r); rfl
section
variable {P : Program} {w : World} {H H' : Hp} {h h' : Heap} {a C dx : Addr} {fs fs' : List (Str × V)}
theorem ins_get (hok : HOk P w H h) (e : H a = some (.ins C dx fs)) : ∃ mA, ObjM h a dx C mA ∧ (∀ f, RelO (fs.lookup f) (mA f)) ∧ PySem.Within mA (fs.map (·.1)) ∧ fs.length ≤ 1000 ∧ H dx = some (.own a) := by
  obtain ⟨d, z, ne, ob, mA, n, r, q⟩ := (show ObjOk P w H h a (.ins C dx fs) from hok a _ e)
  exact ⟨mA, ⟨ob, n, ne⟩, r, q, z, d⟩
end
structure Cls (K : PySem.W.Frag) (C : Addr) : Prop where
  pg : PySem.W.plainGet K C Str.empty = true
  hd : PySem.W.hasDictIn K C = true
  po : PySem.W.plainOver K C = true
  sa : PySem.W.findIn K (.ref C) "__setattr__" = some (some (.builtin "object.__setattr__"))
theorem Cls.get {K : PySem.W.Frag} {C : Addr} (c : Cls K C) (f : Str) : PySem.W.plainGet K C f = true := c.pg
structure Meth (K : PySem.W.Frag) (C : Addr) (m : Str) (f : Addr) : Prop where
  at_ : PySem.W.findIn K (.ref C) m = some (some (.ref f))
  fn : PySem.W.isFn K (.ref f) = true
  kp : PySem.W.keepIn K (.ref f) = true
section
variable {X : Cx} {pins : List (Addr × Obj)} {σ : St} {H : Hp} {s : Shared} {a C dx : Addr} {fs : List (Str × V)} {f : Str} {v : V} {A : Around} {E : Value → Shared → Prop}
theorem attr_of {prog : Program} {w : World} {env : Env} {e : Expr} {f : Str} {pos : Pos} {s : Shared} {Q : Value → Shared → Prop} (hb : attributeBase e f env (eval e env) = eval e env)
    (h : wpAny (model prog w) A (eval e env) (fun o s₁ => wpAny (model prog w) A (getAttr o f true) Q E s₁) E s) : wpAny (model prog w) A (eval (.Attribute e f pos) env) Q E s :=
  Attribute_any_ h (by rw [arm_eval_Attribute, hb])
end
section
variable {X : Cx} {pins : List (Addr × Obj)} {σ : St} {H : Hp} {s : Shared} {A : Around} {E : Value → Shared → Prop} {Q : Value → Shared → Prop} {c : Value} {b : Bool}
inductive TyOf (K : PySem.W.Frag) (H : Hp) : V → Value → Prop where
  | non : TyOf K H .non (.type "NoneType")
  | bl (x : Bool) : TyOf K H (.bl x) (.type "bool")
  | int (i : Int) : TyOf K H (.int i) (.type "int")
  | str (x : Str) : TyOf K H (.str x) (.type "str")
  | flt (x : UInt64) : TyOf K H (.flt x) (.type "float")
  | lst {a : Addr} {xs : List V} (e : H a = some (.lst xs)) : TyOf K H (.ref a) (.type "list")
  | frz {a : Addr} {o : Obj} {xs : List V} (e : H a = some (.frz o (.lst xs))) : TyOf K H (.ref a) (.type "list")
  | tup {a : Addr} {xs : List V} (e : H a = some (.tup xs)) : TyOf K H (.ref a) (.type "tuple")
  | dK {a : Addr} {kvs : List (Key × V)} (e : H a = some (.dK kvs)) : TyOf K H (.ref a) (.type "dict")
  | dT {a : Addr} {kvs : List (List Key × V)} (e : H a = some (.dT kvs)) : TyOf K H (.ref a) (.type "dict")
  | ins {a C dx : Addr} {fs : List (Str × V)} (e : H a = some (.ins C dx fs)) (cl : Cls K C) (ha : PySem.W.findIn K (.ref C) "__class__" = some (some (.builtin "object.__class__")))
      (hn : PySem.W.specialIn K (.builtin "object.__class__") "__get__" = some (some (.builtin "getset_descriptor.__get__"))) (htk : PySem.W.takesIn K (.builtin "object.__class__") = some true)
      (hm : PySem.W.mroIn K C (.type "object") = some true) : TyOf K H (.ref a) (.ref C)
theorem isinst_ok {x : V} {u t : Value} (I : Inv X pins σ H s) (rx : RelV x u) (ty : TyOf X.K H x t) (e : PySem.W.kitOne X.K t c = some b) (h : ∀ tk, Q (.bool b) { s with toks := tk }) :
    wpAny (model X.prog X.w) A (call (.builtin "isinstance") [u, c]) Q E s := by
  cases ty with
  | non => cases (show u = Value.none from rx); exact PySem.W.kia_one PySem.W.kitx_none I.kIn True.intro e (fun z => nomatch z) h
  | bl y => cases (show u = Value.bool y from rx); exact PySem.W.kia_one PySem.W.kitx_bool I.kIn True.intro e (fun z => nomatch z) h
  | int i => obtain ⟨t, q⟩ := (show ∃ t, u = Value.int i t from rx); cases q; exact PySem.W.kia_one PySem.W.kitx_int I.kIn True.intro e (fun z => nomatch z) h
  | str y => obtain ⟨t, q⟩ := (show ∃ t, u = Value.str y t from rx); cases q; exact PySem.W.kia_one PySem.W.kitx_str I.kIn True.intro e (fun z => nomatch z) h
  | flt y => obtain ⟨t, q⟩ := (show ∃ t, u = Value.float y t from rx); cases q; exact PySem.W.kia_one PySem.W.kitx_float I.kIn True.intro e (fun z => nomatch z) h
  | @lst a xs ea =>
    cases (show u = Value.ref a from rx)
    obtain ⟨_, _, n, _, h1⟩ := (show ObjOk X.prog X.w H s.heap a (.lst xs) from I.hok a _ ea)
    exact PySem.W.kia_one PySem.W.kitx_list I.kIn ⟨_, h1, rfl⟩ e (fun z => nomatch z) h
  | @frz a ob xs ea =>
    cases (show u = Value.ref a from rx)
    obtain ⟨_, _, _, n, _, h1⟩ := (show ObjOk X.prog X.w H s.heap a (.frz ob (.lst xs)) from I.hok a _ ea)
    exact PySem.W.kia_one PySem.W.kitx_list I.kIn ⟨_, h1, rfl⟩ e (fun z => nomatch z) h
  | @tup a xs ea =>
    cases (show u = Value.ref a from rx)
    obtain ⟨_, _, _, p⟩ := (show ObjOk X.prog X.w H s.heap a (.tup xs) from I.hok a _ ea)
    obtain ⟨o, h1, h2, _⟩ := p
    exact PySem.W.kia_one PySem.W.kitx_tuple I.kIn ⟨o, h1, h2⟩ e (fun z => nomatch z) h
  | @dK a kvs ea =>
    cases (show u = Value.ref a from rx)
    obtain ⟨_, _, vs, _, p⟩ := (show ObjOk X.prog X.w H s.heap a (.dK kvs) from I.hok a _ ea)
    obtain ⟨o, es, ep, h1, h2, _⟩ := p
    exact PySem.W.kia_one PySem.W.kitx_dict I.kIn ⟨o, h1, h2.1⟩ e (fun z => nomatch z) h
  | @dT a kvs ea =>
    cases (show u = Value.ref a from rx)
    obtain ⟨_, _, xs, _, o, es, ep, h1, h2, _⟩ := (show ObjOk X.prog X.w H s.heap a (.dT kvs) from I.hok a _ ea)
    exact PySem.W.kia_one PySem.W.kitx_dict I.kIn ⟨o, h1, h2.1⟩ e (fun z => nomatch z) h
  | @ins a C dx fs ea cl ha hn htk hm =>
    cases (show u = Value.ref a from rx)
    obtain ⟨mA, O, _⟩ := ins_get I.hok ea
    obtain ⟨od, J, _⟩ := O.look
    exact PySem.W.kia_one (PySem.W.kitx_own (cl.get _) cl.hd ha hn htk hm) I.kIn J e (fun z => nomatch z) h
end
end L2
namespace L2
open PySem PySem.Spec PyProof.Rows
structure Room (k : Nat) (A : Around) : Prop where
  hd : A.handled = none
  dp : A.depth + 3 * k + 5 < recursionLimit
  un : A.units + 16 * k + 200 < cLine
theorem Room.mono {j k : Nat} {A : Around} (r : Room k A) (h : j ≤ k) : Room j A := ⟨r.hd, by have := r.dp; omega, by have := r.un; omega⟩
theorem Room.deeper {k : Nat} {A : Around} (r : Room (k + 1) A) (env : Env) : Room k (A.deeper env) :=
  ⟨r.hd, by have := r.dp; show A.depth + 1 + 3 * k + 5 < _; omega, by have := r.un; show A.units + 3 + 16 * k + 200 < _; omega⟩
theorem make_depth {A : Around} {C : Addr} {us : List Value} {kw : List (Str × Value)} : (A.under (.builtin "type.__call__" ⟨.ref C :: us, kw⟩)).depth = A.depth + 1 := by
  first | rfl | simp [Around.under, Code.weight, Code.isCreation, Code.isGuard, Code.isCaller, Code.frames, Code.isFrame, guardIds]
theorem make_units {A : Around} {C : Addr} {us : List Value} {kw : List (Str × Value)} : (A.under (.builtin "type.__call__" ⟨.ref C :: us, kw⟩)).units = A.units + 1 := by
  first | rfl | simp [Around.under, Code.cUnits, Code.frames, Code.isFrame]
theorem Room.make {k : Nat} {A : Around} (r : Room (k + 1) A) (C : Addr) (us : List Value) (kw : List (Str × Value)) : Room k (A.under (.builtin "type.__call__" ⟨.ref C :: us, kw⟩)) :=
  ⟨r.hd, by have := r.dp; rw [make_depth]; omega, by have := r.un; rw [make_units]; omega⟩
theorem Room.depth {k : Nat} {A : Around} (r : Room k A) : A.depth < recursionLimit := by have := r.dp; omega
theorem Room.units {k : Nat} {A : Around} (r : Room k A) : A.units + 64 < cLine := by have := r.un; omega
theorem Room.units0 {k : Nat} {A : Around} (r : Room k A) : A.units < cLine := by have := r.un; omega
def tNil : TA := fun _ H Q => Q [] H
def tCons (ta : TE) (tr : TA) : TA := fun σ H Q => ta σ H fun x H1 => tr σ H1 fun xs H2 => Q (x :: xs) H2
section
variable {X : Cx} {e : Expr} {es : List Expr} {te : TE} {t : TA} {pos : Pos}
theorem pa_nil : PA X [] tNil := fun _ _ _ _ H Q I h => Calls.spliced_nil ⟨[], H, I, .nil, h⟩
theorem pa_cons (ha : PE X e te) (hr : PA X es t) (hs : starEach (e :: es) X.env = (false, eval e X.env) :: starEach es X.env := by rfl) : PA X (e :: es) (tCons te t) := by
  intro pos pins s σ H Q I h
  rw [hs]
  show wpAny _ _ (spliced ((false, eval e X.env) :: backTo pos (starEach es X.env))) _ _ s
  refine Calls.spliced_cons (thn (ha pins s σ H _ I h) fun u s1 ⟨x, H1, I1, r1, q1⟩ => ?_)
  exact thn (hr pos pins s1 σ H1 _ I1 q1) fun us s2 ⟨xs, H2, I2, r2, q2⟩ => ⟨x :: xs, H2, I2, .cons r1 r2, q2⟩
def tTup (t : TA) : TE := fun σ H Q => t σ H fun xs H1 => xs.length ≤ sizeLine ∧ ∀ p, H1 p = none → Q (.ref p) (upd H1 p (.tup xs))
def tLst (t : TA) : TE := fun σ H Q => t σ H fun xs H1 => xs.length ≤ sizeLine ∧ ∀ p, H1 p = none → Q (.ref p) (upd H1 p (.lst xs))
theorem pe_tup {x1} (h : PA X es t) : PE X (.Tuple es x1 pos) (tTup t) := by
  intro pins s σ H Q I hq
  refine wpAny_Tuple_spliced (thn (h pos pins s σ H _ I hq) fun us s1 ⟨xs, H1, I1, r, z, q⟩ => ⟨by rw [← r.length]; exact z, ?_⟩)
  have hf : H1 s1.heap.objs.size = none := I1.hok.fresh (Nat.le_refl _)
  refine ⟨.ref s1.heap.objs.size, upd H1 s1.heap.objs.size (.tup xs), I1.laid (t' := s1.toks) (fun b u e => Heap.get?_push_of_some _ e) (Nat.le_refl _) ?_, rfl, q _ hf⟩
  exact ⟨z, us, r, ⟨_, Heap.get?_push_size _ rfl, rfl, _, rfl⟩⟩
theorem pe_lst (h : PA X es t) : PE X (.List es pos) (tLst t) := by
  intro pins s σ H Q I hq
  refine wpAny_List_spliced (thn (h pos pins s σ H _ I hq) fun us s1 ⟨xs, H1, I1, r, z, q⟩ => ⟨by rw [← r.length]; exact z, ?_⟩)
  have hf : H1 s1.heap.objs.size = none := I1.hok.fresh (Nat.le_refl _)
  refine ⟨.ref s1.heap.objs.size, upd H1 s1.heap.objs.size (.lst xs), I1.laid (t' := s1.toks) (fun b u e => Heap.get?_push_of_some _ e) (Nat.le_refl _) ?_, rfl, q _ hf⟩
  exact ⟨z, us, 0, r, Heap.get?_push_size _ rfl⟩
end
abbrev Sp := List V → Hp → VK → XK → Prop
abbrev CXT := List Env → Hp → Shared → XK → Value → Shared → Prop
structure Env0 (P : Program) (w : World) (K : PySem.W.Frag) (mg : Str → Option Value) (base : Heap) (A : Around) (outer : List Env) (s : Shared) (H : Hp) : Prop where
  frames : A.frames = some outer
  mod : Mod K mg base
  bs : ∀ b o, base.get? b = some o → s.heap.get? b = some o ∧ H b = none
  bsz : base.objs.size ≤ s.heap.objs.size
  funs : s.heap.FunFrames base outer
  frf : ∀ b ∈ frs outer, H b = none
  hok : HOk P w H s.heap
  bare : AllBare s.gens
def CE (outer : List Env) (P : Program) (w : World) (H : Hp) (s : Shared) (Q : VK) (u : Value) (s' : Shared) : Prop :=
  ∃ v H', s'.os = s.os ∧ AllBare s'.gens ∧ Un (frs outer) [] H H' s.heap s'.heap ∧ HOk P w H' s'.heap ∧ RelV v u ∧ Q v H'
def CR (CX : CXT) (outer : List Env) (P : Program) (w : World) (H : Hp) (s : Shared) (Q : VK) (E : XK) (r : Result) (s' : Shared) : Prop :=
  match r with
  | .ok (.ret u) => CE outer P w H s Q u s'
  | .ok _ => False
  | .error e => CX outer H s E e s'
structure FnOk (P : Program) (w : World) (K : PySem.W.Frag) (mg : Str → Option Value) (base : Heap) (CX : CXT) (k : Nat) (f : Addr) (fd : FuncData) (ps : List Str) (sp : Sp) : Prop where
  len : ∀ vs H Q E, sp vs H Q E → vs.length = ps.length
  run : ∀ (A : Around) (outer : List Env) (s : Shared) (H : Hp) (args : Args) (us : List Value) (vs : List V) (Q : VK) (E : XK), Room k A → Env0 P w K mg base A outer s H → BindsTo s fd args (ps.zip us) → Vals vs us → sp vs H Q E →
    codeAny (model P w) A (.call (.ref f) args) (CR CX outer P w H s Q E) s
theorem Env0.make {P : Program} {w : World} {K : PySem.W.Frag} {mg : Str → Option Value} {base : Heap} {A : Around} {outer : List Env} {s : Shared} {H : Hp} (e : Env0 P w K mg base A outer s H) (C : Addr) (us : List Value) (kw : List (Str × Value)) :
    Env0 P w K mg base (A.under (.builtin "type.__call__" ⟨.ref C :: us, kw⟩)) outer s H := ⟨by first | exact e.frames | (simpa [Around.under, Code.envs, Code.isFrame, pushEnvs] using e.frames), e.mod, e.bs, e.bsz, e.funs, e.frf, e.hok, e.bare⟩
section
variable {X : Cx} {pins : List (Addr × Obj)} {σ : St} {H : Hp} {s s' : Shared}
theorem Inv.env0 (I : Inv X pins σ H s) : Env0 X.prog X.w X.K X.mg X.base X.A X.stack s H :=
  ⟨I.ok.frames, I.ok.mod, I.bs, Nat.le_trans I.ok.bsz I.sz, I.stack, I.stkFree, I.hok, I.bare⟩
theorem Inv.after {Q : VK} {u : Value} (I : Inv X pins σ H s) (h : CE X.stack X.prog X.w H s Q u s') : EP X pins σ Q u s' := by
  obtain ⟨v, H', os, bare, un, hok, r, q⟩ := h
  obtain ⟨hh, g, d, t, os'⟩ := s'
  obtain rfl : os' = s.os := os
  exact ⟨v, H', I.call (h' := hh) (g' := g) (d' := d) (t' := t) (ch := []) un hok bare (fun b z => absurd z (by simp)), r, q⟩
end
def tCall (sp : Sp) (dvs : List V) (E : XK) (t : TA) : TE := fun σ H Q => t σ H fun vs H1 => sp (vs ++ dvs) H1 Q E
def Binds (K : PySem.W.Frag) (fd : FuncData) (ps : List Str) (ds : List Value) : Prop :=
  ∀ (s : Shared) (us : List Value), K.In s.heap → (us ++ ds).length = ps.length → BindsTo s fd ⟨us, []⟩ (ps.zip (us ++ ds))
theorem Binds.all {K : PySem.W.Frag} {fd : FuncData} {ps : List Str} (h : ∀ us : List Value, us.length = ps.length → bindArgs fd ⟨us, []⟩ = pure (ps.zip us)) : Binds K fd ps [] := fun s us _ hl => by
  rw [List.append_nil] at hl ⊢
  exact .of_eq (h us hl)
def Passes (CX : CXT) (X : Cx) (E : XK) : Prop := ∀ (pins : List (Addr × Obj)) (σ : St) (H : Hp) (s : Shared) (e : Value) (s' : Shared), Inv X pins σ H s → CX X.stack H s E e s' → X.xe e s'
section
variable {X : Cx} {CX : CXT} {k : Nat} {f C : Addr} {fd : FuncData} {ps : List Str} {sp : Sp} {dvs : List V} {ds : List Value} {E : XK} {x m : Str} {p pos apos : Pos} {e o : Expr} {es : List Expr} {ta : TE} {t : TA}
theorem run_fn {pins : List (Addr × Obj)} {σ : St} {H : Hp} {s : Shared} {Q : VK} {us : List Value} {vs : List V} (F : FnOk X.prog X.w X.K X.mg X.base CX k f fd ps sp) (hr : Room k X.A) (hb : Binds X.K fd ps ds) (hd : Vals dvs ds) (hx : Passes CX X E)
    (I : Inv X pins σ H s) (r : Vals vs us) (h : sp (vs ++ dvs) H Q E) : wpAny (model X.prog X.w) X.A (call (.ref f) us) (EP X pins σ Q) X.xe s := by
  have r2 : Vals (vs ++ dvs) (us ++ ds) := r.append hd
  have hl : (us ++ ds).length = ps.length := by rw [← r2.length]; exact F.len _ _ _ _ h
  refine wpAny_call (codeAny_mono (F.run X.A X.stack s H ⟨us, []⟩ (us ++ ds) (vs ++ dvs) Q E hr I.env0 (hb s us I.kIn hl) r2 h) fun r s' hq => ?_)
  cases r with
  | error e => exact hx pins σ H s e s' I hq
  | ok fl =>
    cases fl with
    | ret u => exact I.after hq
    | next => exact False.elim hq
    | brk => exact False.elim hq
    | cont => exact False.elim hq
theorem pe_call (F : FnOk X.prog X.w X.K X.mg X.base CX k f fd ps sp) (hr : Room k X.A) (hg : Gl X x) (hm : X.mg x = some (.ref f)) (hk : PySem.W.keepIn X.K (.ref f) = true) (hb : Binds X.K fd ps ds) (hd : Vals dvs ds) (hx : Passes CX X E)
    (ha : PA X (e :: es) t) (hdb : (x == ("__debug__" : Str)) = false := by decide) (he : starEach (e :: es) X.env = (false, eval e X.env) :: starEach es X.env := by rfl) (hpl : (backTo pos (starEach es X.env)).any (·.1) = false := by rfl) :
    PE X (.Call (.Name x p) (e :: es) [] pos) (tCall sp dvs E t) := by
  intro pins s σ H Q I h
  refine wpAny_Call_Name_kw (ld_glob I hg hm ?_ hdb)
  refine PySem.W.callWith_K (h₀ := X.base) I.ok.mod.kin hk (thn (ha pos pins s σ H _ I h) fun us s1 ⟨vs, H1, I1, r, q⟩ => ⟨I1.kIn, ?_⟩) he hpl
  exact run_fn F hr hb hd hx I1 r q
end
structure FnScope (N P : List Str) (sc : Scope) : Prop where
  kind : sc.kind = .function
  co : sc.isCoroutine = false
  gen : sc.isGenerator = false
  nd : N.Nodup
  pre : N.take P.length = P
  par : ∀ x ∈ P, sc.names.lookup x = some .local ∨ sc.names.lookup x = some .cell
  nofree : ∀ y ∈ sc.names, y.2 ≠ .free
theorem bindL_out {kindOf : Str → Option NameKind} {x : Str} : ∀ {binds : List (Str × Value)} {m : Str → Option Value}, (∀ v, (x, v) ∉ binds) → bindL kindOf binds m x = m x
  | [], _, _ => rfl
  | (n, v) :: r, m, h => by
    unfold bindL
    rw [bindL_out fun w hw => h w (List.mem_cons_of_mem _ hw)]
    split
    · have : x ≠ n := by rintro rfl; exact h v List.mem_cons_self
      simp [this]
    · rfl
theorem bindC_out {kindOf : Str → Option NameKind} {x : Str} : ∀ {binds : List (Str × Value)} {m : Str → Option Value}, (∀ v, (x, v) ∉ binds) → bindC kindOf binds m x = m x
  | [], _, _ => rfl
  | (n, v) :: r, m, h => by
    unfold bindC
    rw [bindC_out fun w hw => h w (List.mem_cons_of_mem _ hw)]
    split
    · rfl
    · have : x ≠ n := by rintro rfl; exact h v List.mem_cons_self
      simp [this]
theorem bindL_get {kindOf : Str → Option NameKind} {x : Str} {v : Value} : ∀ {P : List Str} {vs : List Value} {i : Nat} {m : Str → Option Value}, P.Nodup → P[i]? = some x → vs[i]? = some v → kindOf x = some .local →
    bindL kindOf (P.zip vs) m x = some v
  | [], _, _, _, _, h, _, _ => by simp at h
  | _ :: _, [], _, _, _, _, h, _ => by simp at h
  | p :: P, w :: vs, 0, m, nd, h1, h2, hk => by
    simp at h1 h2; subst h1; subst h2
    show bindL kindOf ((p, w) :: P.zip vs) m p = _
    unfold bindL
    rw [bindL_out fun v hv => (List.nodup_cons.mp nd).1 (List.of_mem_zip hv).1, if_pos hk]
    simp
  | p :: P, w :: vs, i + 1, m, nd, h1, h2, hk => by
    show bindL kindOf ((p, w) :: P.zip vs) m x = _
    unfold bindL
    exact bindL_get (i := i) (List.nodup_cons.mp nd).2 (by simpa using h1) (by simpa using h2) hk
theorem bindC_get {kindOf : Str → Option NameKind} {x : Str} {v : Value} : ∀ {P : List Str} {vs : List Value} {i : Nat} {m : Str → Option Value}, P.Nodup → P[i]? = some x → vs[i]? = some v → kindOf x ≠ some .local →
    bindC kindOf (P.zip vs) m x = some v
  | [], _, _, _, _, h, _, _ => by simp at h
  | _ :: _, [], _, _, _, _, h, _ => by simp at h
  | p :: P, w :: vs, 0, m, nd, h1, h2, hk => by
    simp at h1 h2; subst h1; subst h2
    show bindC kindOf ((p, w) :: P.zip vs) m p = _
    unfold bindC
    rw [bindC_out fun v hv => (List.nodup_cons.mp nd).1 (List.of_mem_zip hv).1, if_neg hk]
    simp
  | p :: P, w :: vs, i + 1, m, nd, h1, h2, hk => by
    show bindC kindOf ((p, w) :: P.zip vs) m x = _
    unfold bindC
    exact bindC_get (i := i) (List.nodup_cons.mp nd).2 (by simpa using h1) (by simpa using h2) hk
def start (N : List Str) (vs : List V) : St := vs.map some ++ List.replicate (N.length - vs.length) none
def cxOf (CX : CXT) (P : Program) (w : World) (K : PySem.W.Frag) (mg : Str → Option Value) (base : Heap) (N : List Str) (qual : Str) (scope : Scope) (f : Addr) (cd : Value) (A : Around) (outer : List Env) (s : Shared) (H : Hp) (E : XK) : Cx where
  prog := P
  w := w
  K := K
  mg := mg
  base := base
  A := A.deeper (envOfC qual scope s.heap.objs.size f cd)
  N := N
  s₀ := s
  H₀ := H
  env := envOfC qual scope s.heap.objs.size f cd
  outer := outer
  stack := envOfC qual scope s.heap.objs.size f cd :: outer
  ex := []
  calm := true
  fn := fun _ => true
  pn := []
  xe := fun e s' => wpAny (model P w) (A.deeper (envOfC qual scope s.heap.objs.size f cd)) (leaving (envOfC qual scope s.heap.objs.size f cd) e) (fun _ s'' => CX outer H s E e s'') (fun e' s'' => CX outer H s E e' s'') s'
theorem cell_has {sc : Scope} {n : Nat} {x : Str} (h : sc.names.lookup x = some .cell) : ∃ c, (cellsFrom n sc.names []).lookup x = some c := by
  have q := PySem.W.cellsFrom_some sc.names n [] (.inl h)
  exact Option.isSome_iff_exists.mp q
theorem inv_start {CX : CXT} {P : Program} {w : World} {K : PySem.W.Frag} {mg : Str → Option Value} {base : Heap} {N ps : List Str} {qual : Str} {scope : Scope} {f : Addr} {cd : Value} {A : Around} {outer : List Env} {s s1 : Shared} {H : Hp} {E : XK} {us : List Value} {vs : List V}
    (S : FnScope N ps scope) (hd : A.handled = none) (e0 : Env0 P w K mg base A outer s H) (hl : vs.length = ps.length) (r : Vals vs us)
    (x : InCallC s s.heap.objs.size (bindL (envOfC qual scope s.heap.objs.size f cd).kindOf (ps.zip us) fun _ => none) (cellsFrom (s.heap.objs.size + 1) scope.names []) (bindC (envOfC qual scope s.heap.objs.size f cd).kindOf (ps.zip us) fun _ => none) s1) :
    Inv (cxOf CX P w K mg base N qual scope f cd A outer s H E) [] (start N vs) H s1 := by
  have hpl : ps.length ≤ N.length := by have := congrArg List.length S.pre; rw [List.length_take] at this; omega
  obtain ⟨h1, tk, rfl, hk⟩ := x.done
  have noA : ∀ b : Addr, b ∉ (cxOf CX P w K mg base N qual scope f cd A outer s H E).ex := fun b z => absurd (show b ∈ ([] : List Addr) from z) (by simp)
  refine ⟨⟨e0.mod, S.kind, rfl, rfl, Nat.le_refl _, fun y z c h1 h2 => ?_, fun y hy => ?_, fun y c _ h => ?_, fun _ => hd, Around.frames_deeper e0.frames, .inr ⟨rfl, rfl⟩, fun b z => absurd z (noA b), e0.bs, e0.bsz, fun b _ _ => noA b, fun b z => absurd z (noA b), e0.funs, e0.frf⟩,
    rfl, e0.bare, Un.kept hk, ⟨_, x.toInCall.ns, fun i y v h1 h2 h3 => ?_⟩, fun y c h => ⟨_, x.cell y c h⟩, e0.hok.fresh (Nat.le_refl _), fun y c h => ?_, fun p hp => absurd (show p ∈ ([] : List (Addr × Obj)) from hp) (by simp), e0.hok.kept hk, ?_⟩
  · exact name_of_addr x.apart (PySem.mem_of_lookup h1) (PySem.mem_of_lookup h2)
  · have hy : scope.names.lookup y = some .cell ∨ scope.names.lookup y = some .free := hy
    rcases hy with hy | hy
    · exact cell_has hy
    · exact absurd rfl (S.nofree _ (PySem.mem_of_lookup hy))
  · exact Nat.le_of_lt (x.above y c (PySem.mem_of_lookup h))
  · have hi : i < vs.length := by
      unfold start at h2
      by_cases hi : i < vs.length
      · exact hi
      · rw [List.getElem?_append_right (by simpa using hi)] at h2
        rw [List.getElem?_replicate] at h2
        split at h2 <;> cases h2
    have ha : vs[i]? = some v := by
      unfold start at h2
      rw [List.getElem?_append_left (by simpa using hi), List.getElem?_map] at h2
      cases e : vs[i]? with
      | none => rw [e] at h2; cases h2
      | some a => rw [e] at h2; cases h2; rfl
    obtain ⟨u, hu, rv⟩ := r.get ha
    have hp : ps[i]? = some y := by
      rw [← S.pre, List.getElem?_take_of_lt (by omega)]; exact h1
    have ndP : ps.Nodup := by rw [← S.pre]; exact S.nd.sublist (List.take_sublist _ _)
    refine ⟨u, rv, ?_⟩
    rcases S.par y (List.mem_of_getElem? hp) with k | k
    · exact .inl ⟨k, bindL_get ndP hp hu k⟩
    · obtain ⟨c, e⟩ := cell_has (n := s.heap.objs.size + 1) k
      refine .inr ⟨.inl k, c, e, ?_⟩
      have q := x.cell y c e
      rw [bindC_get ndP hp hu (by show scope.names.lookup y ≠ _; rw [k]; decide)] at q
      exact q
  · exact e0.hok.fresh (Nat.le_of_lt (x.above y c (PySem.mem_of_lookup h)))
  · unfold start
    show _ = N.length
    rw [List.length_append, List.length_map, List.length_replicate]
    omega
theorem fn_of {CX : CXT} {P : Program} {w : World} {K : PySem.W.Frag} {mg : Str → Option Value} {base : Heap} {k : Nat} {f : Addr} {name qual : Str} {params : Arguments} {body : List Stmt} {scope : Scope} {dV kV doc pm cdv ct oc : Value} {an od : Option Addr}
    {osl : Array (Option Value)} {N ps : List Str} {sp : Sp} (lk : K.lookup f = some ⟨oc, od, .func (PySem.W.fnOf name qual params body scope dV kV doc pm an cdv ct), osl⟩) (hcd : PySem.W.codeIn K cdv qual = true) (S : FnScope N ps scope)
    (len : ∀ vs H Q E, sp vs H Q E → vs.length = ps.length)
    (hbody : ∀ (A : Around) (outer : List Env) (s : Shared) (H : Hp) (vs : List V) (Q : VK) (E : XK), Room k (A.deeper (envOfC qual scope s.heap.objs.size f cdv)) → sp vs H Q E →
      ∃ t, PSs (cxOf CX P w K mg base N qual scope f cdv A outer s H E) body t ∧ t { nx := fun _ H' => Q .non H', rt := Q } (start N vs) H) :
    FnOk P w K mg base CX (k + 1) f (PySem.W.fnOf name qual params body scope dV kV doc pm an cdv ct) ps sp := by
  refine ⟨len, fun A outer s H args us vs Q E hr e0 hb r hsp => ?_⟩
  have hl := len _ _ _ _ hsp
  have KX : K.In s.heap := e0.mod.kin.keeps fun b o e => (e0.bs b o e).1
  have lim : s.heap.NoLimit := e0.mod.nolimit.keeps fun b o e => (e0.bs b o e).1
  have hkind : ∀ y ∈ ps.zip us, scope.names.lookup y.1 = some .local ∨ (scope.names.lookup y.1 = some .cell ∧ ((cellsFrom (s.heap.objs.size + 1) scope.names []).lookup y.1).isSome = true) := fun ⟨n, v⟩ hy => by
    rcases S.par n (List.of_mem_zip hy).1 with q | q
    · exact .inl q
    · exact .inr ⟨q, PySem.W.cellsFrom_some _ _ _ (.inl q)⟩
  refine codeAny_call_function hr.depth (KX _ _ lk) rfl S.co S.gen rfl (PySem.W.codeRec_of KX hcd) (hb _ _ _ _ ?_)
  refine wpAny_newFunctionEnv_cells S.kind hkind fun env he s1 x => ?_
  subst he
  refine ⟨lim.keeps x.toInCall.keep, codeAny_func ?_⟩
  obtain ⟨t, ht, hq⟩ := hbody A outer s H vs Q E (hr.deeper _) hsp
  have I : Inv (cxOf CX P w K mg base N qual scope f cdv A outer s H E) [] (start N vs) H s1 := inv_start S hr.hd e0 hl r x
  refine wpAny_mono (ht [] s1 (start N vs) H _ I hq) (fun fl s' hs => ?_) fun e s' hs => hs
  have fin : ∀ {σ' : St} {H' : Hp} {v : V} {u : Value}, Inv (cxOf CX P w K mg base N qual scope f cdv A outer s H E) [] σ' H' s' → RelV v u → Q v H' → CE outer P w H s Q u s' :=
    fun {σ' H' v u} J rv q => ⟨v, H', J.os, J.bare, J.base, J.hok, rv, q⟩
  cases fl with
  | ret u =>
    obtain ⟨v, σ', H', J, rv, q⟩ := hs
    exact fin J rv q
  | next =>
    obtain ⟨σ', H', J, q⟩ := hs
    exact fin (v := V.non) (u := Value.none) J rfl q
  | brk =>
    obtain ⟨_, _, _, q⟩ := hs
    exact False.elim q
  | cont =>
    obtain ⟨_, _, _, q⟩ := hs
    exact False.elim q
end L2
namespace L2
open PySem PySem.Spec PyProof.Rows
section
variable {X : Cx} {x : Str} {p pos : Pos} {e : Expr} {es : List Expr} {t : TA} {id T : String} {r : List V → Hp → VK → Prop}
def tCB (r : List V → Hp → VK → Prop) (t : TA) : TE := fun σ H Q => t σ H fun vs H1 => r vs H1 Q
theorem pe_callB (hc : CallR X (.builtin id) r) (hg : Gl X x) (hm : X.mg x = none) (hv : bootBuiltins x = some (.builtin id)) (ha : PA X (e :: es) t) (hn : x ≠ "__name__" := by decide) (hdb : (x == ("__debug__" : Str)) = false := by decide)
    (he : starEach (e :: es) X.env = (false, eval e X.env) :: starEach es X.env := by rfl) (hpl : (backTo pos (starEach es X.env)).any (·.1) = false := by rfl) : PE X (.Call (.Name x p) (e :: es) [] pos) (tCB r t) := by
  intro pins s σ H Q I h
  refine wpAny_Call_Name_kw (ld_blt I hg hm hv ?_ hn hdb)
  exact PyProof.Rows.callWith_builtin1 (thn (ha pos pins s σ H _ I h) fun us s1 ⟨vs, H1, I1, r1, q1⟩ => hc pins s1 σ H1 vs us Q I1 r1 q1) he hpl
theorem pe_callTy (hc : CallR X (.type T) r) (hg : Gl X x) (hm : X.mg x = none) (hv : bootBuiltins x = some (.type T)) (ha : PA X (e :: es) t) (hn : x ≠ "__name__" := by decide) (hdb : (x == ("__debug__" : Str)) = false := by decide)
    (he : starEach (e :: es) X.env = (false, eval e X.env) :: starEach es X.env := by rfl) (hpl : (backTo pos (starEach es X.env)).any (·.1) = false := by rfl) : PE X (.Call (.Name x p) (e :: es) [] pos) (tCB r t) := by
  intro pins s σ H Q I h
  refine wpAny_Call_Name_kw (ld_blt I hg hm hv ?_ hn hdb)
  exact PyProof.Rows.callWith_type1 (thn (ha pos pins s σ H _ I h) fun us s1 ⟨vs, H1, I1, r1, q1⟩ => hc pins s1 σ H1 vs us Q I1 r1 q1) he hpl
end
end L2
namespace L2
open PySem PySem.Spec PyProof.Rows
theorem intsAre_of {ns : List Int} : ∀ {us : List Value}, Vals (ns.map V.int) us → IntsAre us ns := by
  induction ns with
  | nil => intro us r; rw [List.map_nil] at r; cases r; exact .nil
  | cons n ns ih =>
    intro us r
    rw [List.map_cons] at r
    cases r with
    | cons r1 r2 =>
      obtain ⟨t, e⟩ := r1
      subst e
      exact .cons n t (ih r2)
end L2
namespace L2
open PySem PySem.Spec PyProof.Rows
def ixN (n : Nat) (i : Int) : Option Nat := if 0 ≤ i then (if i < n then some i.toNat else none) else if -(n : Int) ≤ i then some (i + n).toNat else none
def atI {α : Type} (xs : List α) (i : Int) : Option α := (ixN xs.length i).bind fun j => xs[j]?
theorem ixN_seq {n : Nat} {i : Int} {j : Nat} (h : ixN n i = some j) : seqIndex? i n = some j ∧ j < n ∧ -(n : Int) ≤ i ∧ i < n := by
  unfold ixN at h
  by_cases h0 : 0 ≤ i
  · rw [if_pos h0] at h
    by_cases h1 : i < n
    · rw [if_pos h1] at h
      have e : i.toNat = j := Option.some.inj h
      exact ⟨by rw [seqIndex_of h0 h1, e], by omega, by omega, h1⟩
    · rw [if_neg h1] at h; cases h
  · rw [if_neg h0] at h
    by_cases h1 : -(n : Int) ≤ i
    · rw [if_pos h1] at h
      have e : (i + n).toNat = j := Option.some.inj h
      exact ⟨by rw [seqIndex_neg (by omega) h1, e], by omega, h1, by omega⟩
    · rw [if_neg h1] at h; cases h
theorem atI_get {α : Type} {xs : List α} {i : Int} {v : α} (h : atI xs i = some v) : ∃ j, seqIndex? i xs.length = some j ∧ xs[j]? = some v ∧ j < xs.length ∧ -(xs.length : Int) ≤ i ∧ i < xs.length := by
  unfold atI at h
  cases e : ixN xs.length i with
  | none => rw [e] at h; cases h
  | some j =>
    rw [e] at h
    obtain ⟨h1, h2, h3, h4⟩ := ixN_seq e
    exact ⟨j, h1, h, h2, h3, h4⟩
theorem atI_nat {α : Type} {xs : List α} {j : Nat} {v : α} (h : xs[j]? = some v) : atI xs (j : Int) = some v := by
  have hj : j < xs.length := (List.getElem?_eq_some_iff.mp h).1
  have e : ixN xs.length (j : Int) = some j := by
    unfold ixN
    rw [if_pos (by omega), if_pos (by omega)]; simp
  unfold atI; rw [e]; exact h
def PlainIx (b : Expr) : Prop := ∀ o i, subscripted b false o i = operate [o, i] (getItem o i)
def IxR (X : Cx) (r : R2) : Prop :=
  ∀ (value slice : Expr) (pins : List (Addr × Obj)) (s : Shared) (σ : St) (H : Hp) (x y : V) (v u : Value) (Q : VK), Inv X pins σ H s → RelV x v → RelV y u → r x y H Q →
    subscripted slice false v u = operate [v, u] (getItem v u) → wpAny (model X.prog X.w) X.A (subscriptTail value slice v u) (EP X pins σ Q) X.xe s
def MtR (X : Cx) (id : String) (r : V → List V → Hp → VK → Prop) : Prop :=
  ∀ (pins : List (Addr × Obj)) (s : Shared) (σ : St) (H : Hp) (x : V) (xs : List V) (v : Value) (us : List Value) (Q : VK), Inv X pins σ H s → RelV x v → Vals xs us → r x xs H Q →
    wpAny (model X.prog X.w) X.A (call (.builtin id) (v :: us)) (EP X pins σ Q) X.xe s
section
variable {X : Cx} {a b : Expr} {ta tb : TE} {pos : Pos}
theorem pe_ix {r : R2} (hr : IxR X r) (ha : PE X a ta) (hb : PE X b tb) (hs : PlainIx b) : PE X (.Subscript a b pos) (tOp r ta tb) := by
  intro pins s σ H Q I h
  exact Subscript_ (binT ha hb I h fun v u s2 x y H2 I2 rx ry q => hr a b pins s2 σ H2 x y v u Q I2 rx ry q (hs _ _))
def rIxL (K : PySem.W.Frag) : R2 := fun x y H Q => ∃ p xs i v, x = .ref p ∧ y = .int i ∧ SqL K H p xs ∧ atI xs i = some v ∧ Q v H
def rIxT (K : PySem.W.Frag) : R2 := fun x y H Q => ∃ p xs i v, x = .ref p ∧ y = .int i ∧ SqT K H p xs ∧ atI xs i = some v ∧ Q v H
theorem ix_list : IxR X (rIxL X.K) := by
  intro value slice pins s σ H x y v u Q I rx ry h hs
  obtain ⟨p, xs, i, z, rfl, rfl, hq, he, q⟩ := h
  cases rx
  obtain ⟨t, rfl⟩ := ry
  obtain ⟨its, r, pl, hz⟩ := I.list hq
  obtain ⟨j, h1, h2, h3, h4, h5⟩ := atI_get he
  obtain ⟨w, ew, rw'⟩ := r.get h2
  have hl := r.length
  have hn := line63
  have fin : EP X pins σ Q w s := ⟨z, H, I, rw', q⟩
  by_cases h0 : 0 ≤ i
  · have hj : i.toNat = j := by
      rw [seqIndex_of h0 h5] at h1
      exact Option.some.inj h1
    exact item_listR pl.isList h0 (by omega) (by rw [hj]; simpa using ew) fin hs
  · have hj : (i + (its.toArray.size : Int)).toNat = j := by
      rw [seqIndex_neg (by omega) h4] at h1
      rw [List.size_toArray, ← hl]
      exact Option.some.inj h1
    exact subscriptTail_builtinR (x := w) pl.isList.typeIs slot_list_getitem.lookup
      (wpAny_getItem_list_neg (Q := fun r s' => r = w ∧ EP X pins σ Q r s') pl.isList (by omega) (by rw [List.size_toArray] <;> omega) (by omega) (by rw [hj]; simpa using ew) ⟨rfl, fin⟩) hs
theorem ix_tup : IxR X (rIxT X.K) := by
  intro value slice pins s σ H x y v u Q I rx ry h hs
  obtain ⟨p, xs, i, z, rfl, rfl, hq, he, q⟩ := h
  cases rx
  obtain ⟨t, rfl⟩ := ry
  obtain ⟨its, r, pl, hz⟩ := I.tuple hq
  obtain ⟨j, h1, h2, h3, h4, h5⟩ := atI_get he
  obtain ⟨w, ew, rw'⟩ := r.get h2
  have hl := r.length
  have hn := line63
  have fin : EP X pins σ Q w s := ⟨z, H, I, rw', q⟩
  exact subscriptTail_builtinR (x := w) pl.typeIs slot_tuple_getitem.lookup
    (getItem_tuple (j := j) (Q := fun r s' => r = w ∧ EP X pins σ Q r s') pl (by omega) (by omega) (by rw [List.size_toArray, ← hl]; exact h1) (by simpa using ew) ⟨rfl, fin⟩) hs
theorem mapSeq_set (its : List Value) (n j : Nat) (u : Value) : Obj.mapSeq (·.setIfInBounds j u) { cls := .type "list", data := .seq its.toArray n } = { cls := .type "list", data := .seq (its.set j u).toArray n } := by
  simp [Obj.mapSeq]
theorem Inv.lst {pins : List (Addr × Obj)} {σ : St} {H : Hp} {s : Shared} {p : Addr} {xs : List V} (I : Inv X pins σ H s) (h : H p = some (.lst xs)) :
    ∃ (its : List Value) (n : Nat), Vals xs its ∧ s.heap.get? p = some { cls := .type "list", data := .seq its.toArray n } ∧ xs.length ≤ sizeLine := by
  obtain ⟨z, its, n, r, e⟩ := I.hok p _ h
  exact ⟨its, n, r, e, z⟩
theorem Inv.lstUpd {pins : List (Addr × Obj)} {σ : St} {H : Hp} {s : Shared} {p : Addr} {xs ys : List V} {its its' : List Value} {n n' : Nat} {f : Obj → Obj} (I : Inv X pins σ H s) (h : H p = some (.lst xs))
    (ho : s.heap.get? p = some { cls := .type "list", data := .seq its.toArray n }) (hf : f { cls := .type "list", data := .seq its.toArray n } = { cls := .type "list", data := .seq its'.toArray n' }) (r : Vals ys its') (hz : ys.length ≤ sizeLine) (t : Nat) :
    Inv X pins σ (upd H p (.lst ys)) { s with heap := s.heap.update p f, toks := t } := by
  have e : (s.heap.update p f).get? p = some { cls := .type "list", data := .seq its'.toArray n' } := by
    rw [Heap.get?_update_self f ho (by rw [hf] <;> rfl), hf]
  refine I.write (x := p) (e := p) (by rw [h]; trivial) (.inl rfl) (fun b u hb q => (Heap.get?_update_other _ _ (Ne.symm hb)).trans q) ⟨_, e⟩ ?_
  exact ⟨hz, its', n', r, e⟩
def rSetL : V → V → V → Hp → (Hp → Prop) → Prop := fun o i v H Q => ∃ p xs k j, o = .ref p ∧ i = .int k ∧ H p = some (.lst xs) ∧ ixN xs.length k = some j ∧ Q (upd H p (.lst (xs.set j v)))
theorem set_list : PSet X rSetL := by
  intro pins s σ H o i v ov iv u Q I ro ri rv h
  obtain ⟨p, xs, k, j, rfl, rfl, hp, hj, q⟩ := h
  cases ro
  obtain ⟨t, rfl⟩ := ri
  obtain ⟨its, n, r, ho, hz⟩ := I.lst hp
  obtain ⟨h1, h2, h3, h4⟩ := ixN_seq hj
  have hl := r.length
  have hn := line63
  have I' : Inv X pins σ (upd H p (.lst (xs.set j v))) { s with heap := s.heap.update p (Obj.mapSeq (·.setIfInBounds j u)) } :=
    I.lstUpd hp ho (mapSeq_set its n j u) (r.set rv j) (by rw [List.length_set]; exact hz) s.toks
  by_cases h0 : 0 ≤ k
  · have hk : k.toNat = j := by
      rw [seqIndex_of h0 h4] at h1
      exact Option.some.inj h1
    exact PySem.W.ki_setAt ho h0 (by omega) (by rw [List.size_toArray, ← hl]; exact h4) (by rw [hk]; exact ⟨_, I', q⟩)
  · have hk : (k + (its.toArray.size : Int)).toNat = j := by
      rw [seqIndex_neg (by omega) h3] at h1
      rw [List.size_toArray, ← hl]
      exact Option.some.inj h1
    exact PySem.W.ki_setBack ho (by omega) (by rw [List.size_toArray, ← hl]; exact h3) (by omega) (by rw [hk]; exact ⟨_, I', q⟩)
theorem call_len_seq : CallR X (.builtin "len") (fun xs H Q => ∃ p ys, xs = [.ref p] ∧ (SqL X.K H p ys ∨ SqT X.K H p ys) ∧ Q (.int ys.length) H) := by
  intro pins s σ H xs us Q I r h
  obtain ⟨p, ys, rfl, hq, q⟩ := h
  obtain ⟨u, rfl, rx⟩ := vals1 r
  cases rx
  have hn := line63
  rcases hq with hq | hq
  · obtain ⟨its, r', pl, hz⟩ := I.list hq
    have hlen := r'.length
    exact Calls.call_len_list pl.isList (by simp only [List.size_toArray] <;> omega) ⟨.int ys.length, H, I.tok _, ⟨s.toks + 1, by rw [List.size_toArray, hlen]⟩, q⟩
  · obtain ⟨its, r', pl, hz⟩ := I.tuple hq
    have hlen := r'.length
    exact len_tuple pl (by simp only [List.size_toArray] <;> omega) ⟨.int ys.length, H, I.tok _, ⟨s.toks + 1, by rw [List.size_toArray, hlen]⟩, q⟩
theorem call_list_of : CallR X (.type "list") (fun xs H Q => ∃ p ys, xs = [.ref p] ∧ (SqL X.K H p ys ∨ SqT X.K H p ys) ∧ ∀ l, H l = none → Q (.ref l) (upd H l (.lst ys))) := by
  intro pins s σ H xs us Q I r h
  obtain ⟨p, ys, rfl, hq, q⟩ := h
  obtain ⟨u, rfl, rx⟩ := vals1 r
  cases rx
  have fin : ∀ (its : List Value), Vals ys its → ys.length ≤ sizeLine → ∀ (h' : Heap) (c' : Nat), (∀ b o', s.heap.get? b = some o' → h'.get? b = some o') →
      h'.get? s.heap.objs.size = some { cls := .type "list", dict := none, data := .seq its.toArray c', slots := #[] } → EP X pins σ Q (.ref s.heap.objs.size) { s with heap := h' } := fun its r' hz h' c' kp e =>
    ⟨.ref s.heap.objs.size, _, I.laid (t' := s.toks) kp (Nat.le_refl _) (show ObjOk X.prog X.w _ h' _ (.lst ys) from ⟨hz, its, c', r', e⟩), rfl, q _ (I.hok.fresh (Nat.le_refl _))⟩
  rcases hq with hq | hq
  · obtain ⟨its, r', pl, hz⟩ := I.list hq
    have hlen := r'.length
    obtain ⟨o, ho, hc, n, hd⟩ := pl.isList
    exact call_list_seq p (.inl rfl) ho hc hd (fun h' c' kp e => fin its r' hz h' c' kp e) (by simp only [List.size_toArray] <;> omega)
  · obtain ⟨its, r', pl, hz⟩ := I.tuple hq
    have hlen := r'.length
    obtain ⟨o, ho, hc, n, hd⟩ := pl
    exact call_list_seq p (.inr rfl) ho hc hd (fun h' c' kp e => fin its r' hz h' c' kp e) (by simp only [List.size_toArray] <;> omega)
def tyV (K : PySem.W.Frag) (T : String) (x : V) (H : Hp) : Prop := match x with
  | .str _ => T = "str"
  | .int _ => T = "int"
  | .ref p => (T = "list" ∧ ∃ xs, SqL K H p xs) ∨ (T = "tuple" ∧ ∃ o, K.lookup p = some o ∧ o.cls = .type "tuple" ∧ o.dict = none) ∨
      (T = "dict" ∧ ((∃ kvs, H p = some (.dK kvs)) ∨ ∃ kvs, H p = some (.dT kvs))) ∨ (T = "set" ∧ ∃ S n, H p = some (.set S n))
  | _ => False
theorem tyV_is {pins : List (Addr × Obj)} {σ : St} {H : Hp} {s : Shared} {T : String} {x : V} {v : Value} (I : Inv X pins σ H s) (r : RelV x v) (ty : tyV X.K T x H) :
    s.TypeIs v T ∧ ∀ a, v = .ref a → ∃ ob, s.heap.get? a = some ob ∧ ob.dict = none := by
  cases x with
  | str z =>
    obtain ⟨t, rfl⟩ := r
    cases (show T = "str" from ty)
    exact ⟨typeIs_str s z t, fun _ e => nomatch e⟩
  | int i =>
    obtain ⟨t, rfl⟩ := r
    cases (show T = "int" from ty)
    exact ⟨typeIs_int s i t, fun _ e => nomatch e⟩
  | ref p =>
    cases r
    rcases ty with ⟨rfl, xs, hq⟩ | ⟨rfl, o, hk, hc, hd⟩ | ⟨rfl, hk⟩ | ⟨rfl, S, n, hk⟩
    · obtain ⟨its, _, pl, _⟩ := I.list hq
      refine ⟨pl.isList.typeIs, fun a e => ?_⟩
      cases e
      obtain ⟨o, n, e, c, hd, _⟩ := pl
      exact ⟨o, e, hd⟩
    · refine ⟨⟨o, I.kIn p o hk, hc⟩, fun a e => ?_⟩
      cases e
      exact ⟨o, I.kIn _ o hk, hd⟩
    · have z : ∃ o, s.heap.get? p = some o ∧ o.ExactDict := by
        rcases hk with ⟨kvs, hk⟩ | ⟨kvs, hk⟩
        · obtain ⟨_, _, _, _, o, _, _, e, ex, _⟩ := I.hok p _ hk
          exact ⟨o, e, ex⟩
        · obtain ⟨_, _, _, _, o, _, _, e, ex, _⟩ := I.hok p _ hk
          exact ⟨o, e, ex⟩
      obtain ⟨o, e, ex⟩ := z
      refine ⟨⟨o, e, ex.1⟩, fun a e2 => ?_⟩
      cases e2
      exact ⟨o, e, ex.2.1⟩
    · obtain ⟨o, _, _, _, e, ex, _⟩ := I.hok p _ hk
      refine ⟨⟨o, e, ex.1⟩, fun a e2 => ?_⟩
      cases e2
      exact ⟨o, e, ex.2.1⟩
  | _ => exact False.elim ty
def tBM (K : PySem.W.Frag) (T : String) (r : V → List V → Hp → VK → Prop) (to : TE) (t : TA) : TE := fun σ H Q => to σ H fun x H1 => tyV K T x H1 ∧ t σ H1 fun xs H2 => r x xs H2 Q
variable {o e : Expr} {es : List Expr} {to : TE} {t : TA} {name : Str} {apos cpos : Pos} {T id : String} {r : V → List V → Hp → VK → Prop}
theorem pe_bm (pa : PlainAttrs T) (slot : Slot T name id) (hty : typeOf (.builtin id) = pure (.type "method_descriptor")) (hm : MtR X id r) (ho : PE X o to) (ha : PA X (e :: es) t)
    (hbase : attributeBase o name X.env (eval o X.env) = eval o X.env := by rfl)
    (hfew : ((backTo cpos (starEach (e :: es) X.env)).all (fun x => !x.1) && (backToKw cpos (keywordEach [] X.env)).all (fun x => x.1.isSome)
      && decide ((e :: es).length + ([] : List Keyword).length + (if ([] : List Keyword).isEmpty then 0 else 1) < 30)) = true := by rfl)
    (hline : (apos.endLine == cpos.line) = true := by rfl) (hs : starEach (e :: es) X.env = (false, eval e X.env) :: starEach es X.env := by rfl) (hplain : (backTo cpos (starEach es X.env)).any (·.1) = false := by rfl) :
    PE X (.Call (.Attribute o name apos) (e :: es) [] cpos) (tBM X.K T r to t) := by
  intro pins s σ H Q I h
  refine wpAny_Call_method_late hbase hfew hline rfl (thn (ho pins s σ H _ I h) fun v s1 ⟨x, H1, I1, r1, ty, q1⟩ => ?_)
  obtain ⟨h1, h2⟩ := tyV_is I1 r1 ty
  refine ⟨T, id, pa, slot, hty, h1, h2, ?_⟩
  have hA := ha cpos pins s1 σ H1 _ I1 q1
  rw [hs] at hA ⊢
  refine Calls.callWith_builtin (by show (false || (backTo cpos (starEach es X.env)).any (·.1)) = false; rw [hplain] <;> rfl) (Calls.evalArgs_plain ?_)
  exact thn hA fun us s2 ⟨vs, H2, I2, r2, q2⟩ => hm pins s2 σ H2 x vs v us Q I2 r1 r2 q2
end
end L2
namespace L2
open PySem PySem.Spec PyProof.Rows
def MtM (X : Cx) (id : String) (r : V → List V → Hp → VK → Prop) : Prop :=
  ∀ (pins : List (Addr × Obj)) (s : Shared) (σ : St) (H : Hp) (x : V) (xs : List V) (v : Value) (us : List Value) (Q : VK), Inv X pins σ H s → RelV x v → Vals xs us → r x xs H Q →
    wpAny (model X.prog X.w) X.A (call (.builtin id) (v :: us)) (EP X pins σ Q) X.xe s
theorem Vals.one : ∀ {x : V} {us : List Value}, Vals [x] us → ∃ u, us = [u] ∧ RelV x u
  | _, _, .cons r .nil => ⟨_, rfl, r⟩
section
variable {X : Cx} {pins : List (Addr × Obj)} {σ : St} {H : Hp} {s : Shared} {l b : Addr} {xs ys zs : List V}
theorem Inv.lset {its its' : List Value} {n : Nat} {f : Array Value → Array Value} {t' : Nat} (I : Inv X pins σ H s) (hH : H l = some (.lst xs))
    (e : s.heap.get? l = some { cls := .type "list", data := .seq its.toArray n }) (hf : f its.toArray = its'.toArray) (hv : Vals ys its') (hz : ys.length ≤ sizeLine) :
    Inv X pins σ (upd H l (.lst ys)) { s with heap := s.heap.update l (Obj.mapSeq f), toks := t' } := by
  have q := PySem.IsL.update e f
  rw [hf] at q
  refine I.write (x := l) (e := l) (by rw [hH]; exact trivial) (.inl rfl) (fun b' u hb hu => (Heap.get?_update_other s.heap (Obj.mapSeq f) (Ne.symm hb)).trans hu) ⟨_, q⟩ ?_
  exact ⟨hz, its', _, hv, q⟩
theorem Inv.lstM (I : Inv X pins σ H s) (hH : H l = some (.lst xs)) : xs.length ≤ sizeLine ∧ ∃ (its : List Value) (n : Nat), Vals xs its ∧ xs.length = its.length ∧ s.heap.get? l = some { cls := .type "list", data := .seq its.toArray n } := by
  obtain ⟨z, its, n, r, e⟩ := I.hok l _ hH
  exact ⟨z, its, n, r, r.length, e⟩
end
section
variable {X : Cx}
def rAppend : V → List V → Hp → VK → Prop := fun x vs H Q => ∃ l xs y, x = .ref l ∧ vs = [y] ∧ H l = some (.lst xs) ∧ xs.length < sizeLine ∧ Q .non (upd H l (.lst (xs ++ [y])))
theorem mt_append : MtM X "list.append" rAppend := by
  intro pins s σ H x vs v us Q I rx rv h
  obtain ⟨l, xs, y, rfl, rfl, hH, hz, q⟩ := h
  cases rx
  obtain ⟨u, rfl, ru⟩ := rv.one
  obtain ⟨z, its, n, r, hl, e⟩ := I.lstM hH
  refine call_meets F.slot_list_append ⟨_, e, rfl⟩ F.entry_list_append (F.args_list_append_2 _ _) (PySem.list_append l its.toArray n u (by rw [List.size_toArray]; omega)) ⟨e, ?_⟩
  refine ⟨.non, _, I.lset (its' := its ++ [u]) hH e (by simp) (r.append (.cons ru .nil)) ?_, rfl, q⟩
  rw [List.length_append, List.length_singleton]
  omega
end
end L2
namespace Att
open PySem PySem.W PySem.Calls PyProof.Rows
theorem ints_of_wellAll {P : Params} {h : Heap} : ∀ (ns : List Int) (vs : List Value), WellAll P h vs (ns.map WData.int) → IntsAre vs ns := by
  intro ns
  induction ns with
  | nil =>
    intro vs w
    rw [List.map_nil] at w
    cases w
    exact .nil
  | cons n ns ih =>
    intro vs w
    rw [List.map_cons] at w
    cases w with
    | cons a b =>
      cases a
      exact .cons _ _ (ih _ b)
theorem script_of {l : OpenLaw} {n : Nat} (hn : l.most = some n) {P : Params} {h : Heap} {args : List WData} {vals : List Value}
    (hpre : l.row.toRowW.claim.pre args = true) (hwl : WellAll P h vals args) :
    ∃ a vs ns, vals = [Value.ref a] ∧ args = [WData.list (ns.map WData.int)] ∧ h.get? a = some { cls := .type "list", data := .seq vs.toArray } ∧ IntsAre vs ns ∧ ns.length ≤ n := by
  have hsh : WShape.hasAll [] args [.list .int] = true := (pre_splitW hpre).1
  have hc : l.pre.holds [] { args := args } = true := (pre_splitW hpre).2
  obtain ⟨d, r, rfl, h1, h2⟩ := hasAllW_cons hsh
  obtain rfl := hasAllW_nil h2
  obtain ⟨xs, rfl, h3⟩ := hasW_list h1
  obtain ⟨ns, rfl⟩ := items_int h3
  have hlen : ns.length ≤ n := by
    unfold OpenLaw.pre at hc
    have h4 : (WTm.not (.lt (.lit (.int (n : Int))) (.len (.arg 0)))).holds [] { args := [.list (ns.map .int)] } = true := by
      have h4 := (holds_andW hc).1
      rw [hn] at h4
      exact h4
    have h5 := condW_of h4 (w_not (w_lt w_lit (w_len_list (w_arg rfl))))
    rw [List.length_map] at h5
    refine Nat.le_of_not_lt fun q => ?_
    have q' : (n : Int) < ((ns.length : Nat) : Int) := by omega
    first
      | (rw [decide_eq_true q'] at h5; exact absurd h5 (by decide))
      | (simp at h5; omega)
  cases hwl with
  | cons w1 w2 =>
    cases w2
    cases w1 with
    | list ho hall => exact ⟨_, _, ns, rfl, rfl, ho, ints_of_wellAll ns _ hall, hlen⟩
theorem post_true (l : OpenLaw) (args : List WData) : l.row.toRowW.claim.post args (.bool true) args = true :=
  postW_of (r := l.row.toRowW) (X := (true == true))
    (show WShape.has [] (.bool true) .bool = true by first | rfl | decide | simp [WShape.has, WShape.arms, WShape.armsAll])
    (show (WTm.eq .res (.lit (.bool true))).value [] { args := args, res := some (.bool true), after := args } = some (.bool (true == true)) from w_eq_bool (w_res rfl) w_lit) rfl
theorem attach_call {l : OpenLaw} {n : Nat} {q : Program} {loose : List Str} {XP : (Str → Option Value) → Heap → Prop} {YP : World → Heap → Prop} {d : DefRec}
    (hn : l.most = some n) (hdf : d.params.defaults = [])
    (call : ∀ (w : World) (s₀ s₁ : Shared) (mg mb : Str → Option Value) (fa : Addr) (o : Obj) (pm cd doc : Value) (a : Addr) (vs : List Value) (ns : List Int),
      Ground q loose [] XP w s₀ mg mb s₁.heap → YP w s₁.heap →
      s₁.heap.get? fa = some o → o.data = .func (docDef d.name d.params d.body d.scope pm cd doc) → s₁.heap.CodeRec cd d.name → mg d.name = some (.ref fa) →
      s₁.heap.get? a = some { cls := .type "list", data := .seq vs.toArray } → IntsAre vs ns → ns.length ≤ n → s₁.gens = #[] →
      codeAny (model l.prog w) callerA (.call (.ref fa) ⟨[.ref a], []⟩) (fun r s' => r = .ok (.ret (.bool true)) ∧ OldK s₁.heap s'.heap ∧ s'.os = s₁.os ∧ AllBare s'.gens) s₁) :
    WalkO q loose XP YP l.row.toRowW d [] (fun f vs => PySem.call f vs) := by
  intro w s₀ s₁ mg mb G Y fa o pm cd doc dV kV ho hd hcd hD hmg hg args vals as hpre hlay hrd hwl hlo
  obtain rfl : dV = .none := Dflts.none hD hdf
  obtain rfl : kV = .none := Dflts.noKw hD
  obtain ⟨a, vs, ns, rfl, rfl, hobj, hints, hlen⟩ := script_of hn hpre hwl
  refine enter_call (codeAny_mono (call w s₀ s₁ mg mb fa o pm cd doc a vs ns G Y ho (fd_plain hd) hcd hmg hobj hints hlen hg) fun r s' hq => ?_)
  obtain ⟨rfl, h2, h3, h4⟩ := hq
  exact ⟨.inl ⟨.bool true, .bool true, [], rfl, fun _ => rfl, .bool true, post_true l _, fun _ => ⟨List.Pairwise.nil, fun _ hm => (nomatch hm)⟩⟩, h2, h3, h4⟩
end Att
namespace L2
open PySem PySem.Spec PyProof.Rows
theorem vals_ints : ∀ {vs : List Value} {ns : List Int}, IntsAre vs ns → Vals (ns.map V.int) vs
  | _, _, .nil => .nil
  | _, _, .cons n t h => .cons ⟨t, rfl⟩ (vals_ints h)
def Only (H : Hp) : Prop := ∀ b, H b = none ∨ ∃ o xs, H b = some (.frz o (.lst xs))
theorem law_call {P : Program} {w : World} {K : PySem.W.Frag} {mg mb : Str → Option Value} {CX : CXT} {k : Nat} {fa a : Addr} {fd : FuncData} {x : Str} {sp : Sp} {s₁ : Shared} {vs : List Value} {ns : List Int}
    (KX : K.In s₁.heap) (hns : s₁.heap.Ns mainGlobals mg) (hb : s₁.heap.Ns builtinsNs mb) (hbb : ∀ x : Str, x ≠ "__name__" → mb x = bootBuiltins x) (hlim : s₁.heap.NoLimit) (hg : s₁.gens = #[])
    (ha : s₁.heap.get? a = some { cls := .type "list", data := .seq vs.toArray }) (hi : IntsAre vs ns) (hl : ns.length ≤ sizeLine) (hr : Room k callerA)
    (F : ∀ base : Heap, K.In base → base.Ns mainGlobals mg → FnOk P w K mg base CX k fa fd [x] sp) (hbind : ∀ (s : Shared) (u : Value), BindsTo s fd ⟨[u], []⟩ [(x, u)])
    (hsp : ∀ H : Hp, Only H → SqL K H a (ns.map V.int) → sp [.ref a] H (fun v _ => v = .bl true) fun _ _ _ => False)
    (hCX : ∀ H e s', CX [] H s₁ (fun _ _ _ => False) e s' → False) :
    codeAny (model P w) callerA (.call (.ref fa) ⟨[.ref a], []⟩) (fun r s' => r = .ok (.ret (.bool true)) ∧ OldK s₁.heap s'.heap ∧ s'.os = s₁.os ∧ AllBare s'.gens) s₁ := by
  have rv := vals_ints hi
  have lenV := hi.length
  have core : ∀ H : Hp, Only H → SqL K H a (ns.map V.int) → HOk P w H s₁.heap → (∀ b, H b ≠ none → b = a) → (H a ≠ none → K.lookup a = none) →
      codeAny (model P w) callerA (.call (.ref fa) ⟨[.ref a], []⟩) (fun r s' => r = .ok (.ret (.bool true)) ∧ OldK s₁.heap s'.heap ∧ s'.os = s₁.os ∧ AllBare s'.gens) s₁ := by
    intro H hO hS hok hA hK
    have base_of : ∀ {b : Addr} {o : Obj}, s₁.heap.get? b = some o → H b = none → (hidT s₁.heap H).get? b = some o := fun e n => hidT_get e n
    have noA : ∀ {b : Addr} {o : Obj} {es : Array DictEntry} {ep : Nat}, s₁.heap.get? b = some o → o.data = .dict es ep → H b = none := fun {b o es ep} e d => by
      cases q : H b with
      | none => rfl
      | some u =>
        have e' : b = a := hA b (by rw [q]; simp)
        subst e'
        rw [ha] at e; cases e
        have d' : Data.seq vs.toArray _ = Data.dict es ep := d
        cases d'
    have nsK : ∀ {b : Addr} {m : Str → Option Value}, s₁.heap.Ns b m → (hidT s₁.heap H).Ns b m := fun {b m} ⟨o, es, ep, e, d, r⟩ => ⟨o, es, ep, base_of e (noA e d), d, r⟩
    have hKb : K.In (hidT s₁.heap H) := fun b o e => base_of (KX b o e) (by
      cases q : H b with
      | none => rfl
      | some u =>
        have e' : b = a := hA b (by rw [q]; simp)
        subst e'
        rw [hK (by rw [q]; simp)] at e; cases e)
    have hM : Mod K mg (hidT s₁.heap H) := ⟨hKb, nsK hns, ⟨mb, nsK hb, hbb⟩, let ⟨mc, h1, h2⟩ := hlim; ⟨mc, nsK h1, h2⟩⟩
    have e0 : Env0 P w K mg (hidT s₁.heap H) callerA [] s₁ H := ⟨rfl, hM, fun b o e => of_hidT e, Nat.le_of_eq (hidT_size _ _), trivial, fun b hb => absurd (show b ∈ ([] : List Addr) from hb) (by simp), hok, .of_eq hg⟩
    refine codeAny_mono ((F _ hKb (nsK hns)).run callerA [] s₁ H ⟨[.ref a], []⟩ [.ref a] [.ref a] _ _ hr e0 (hbind s₁ (.ref a)) (.cons rfl .nil) (hsp H hO hS)) fun r s' h => ?_
    cases r with
    | error e => exact (hCX H e s' h).elim
    | ok fl =>
      cases fl with
      | next => exact False.elim h
      | brk => exact False.elim h
      | cont => exact False.elim h
      | ret u =>
        obtain ⟨v, H', os, bare, un, hok', r', q⟩ := h
        have q' : v = .bl true := q
        subst q'
        obtain rfl : u = Value.bool true := r'
        refine ⟨rfl, OldK.of_keep fun b o e => ?_, os, bare⟩
        cases q : H b with
        | none => exact un.keep b o e q (by intro z; exact absurd (show b ∈ ([] : List Addr) from z) (by simp)) (by simp)
        | some u =>
          rcases hO b with z | ⟨ob, xs, z⟩
          · rw [q] at z; cases z
          · have z2 := un.frzs b ob _ z
            obtain ⟨e1, _⟩ := hok b _ z
            obtain ⟨e2, _⟩ := hok' b _ z2
            rw [e] at e1; cases e1
            exact e2
  cases hk : K.lookup a with
  | some o =>
    have e := KX a o hk
    rw [ha] at e
    cases e
    refine core (fun _ => none) (fun _ => .inl rfl) (.inr ⟨_, vs.toArray, _, hk, rfl, rfl, rfl, by rw [List.size_toArray, lenV]; exact hl, by simpa using rv⟩) (fun b u z => by have z' : (none : Option HO) = some u := z; cases z') (fun b z => absurd rfl z) fun z => absurd rfl z
  | none =>
    refine core (fun b => if b = a then some (.frz { cls := .type "list", data := .seq vs.toArray } (.lst (ns.map V.int))) else none) (fun b => ?_) (.inl (.inr ⟨{ cls := .type "list", data := .seq vs.toArray }, if_pos rfl⟩)) (fun b u z => ?_) (fun b z => ?_) fun _ => hk
    · by_cases hb : b = a
      · exact .inr ⟨_, _, if_pos hb⟩
      · exact .inl (if_neg hb)
    · by_cases hb : b = a
      · have z' := (if_pos hb).symm.trans z
        cases z'
        subst hb
        exact ⟨ha, by rw [List.length_map]; exact hl, vs, _, rv, ha⟩
      · have z' := (if_neg hb).symm.trans z
        cases z'
    · by_cases hb : b = a
      · exact hb
      · exact absurd (if_neg hb) z
end L2
namespace L2
open PySem PySem.Spec PyProof.Rows
theorem walk_of {l : PySem.W.OpenLaw} {n k : Nat} {q : Program} {loose : List Str} {XP : (Str → Option Value) → Heap → Prop} {YP : World → Heap → Prop} {d : DefRec} {K : Params → PySem.W.Frag} {CX : World → CXT} {sp : World → Sp} {x : Str}
    (hn : l.most = some n) (hn2 : n ≤ sizeLine) (hdf : d.params.defaults = []) (hr : Room k callerA)
    (hY : ∀ (w : World) (h : Heap), YP w h → (K w.params).In h)
    (F : ∀ (w : World) (mg : Str → Option Value) (fa : Addr) (h : Heap), (K w.params).In h → h.Ns mainGlobals mg → mg d.name = some (.ref fa) →
      ∃ fd : FuncData, (∀ (s : Shared) (u : Value), BindsTo s fd ⟨[u], []⟩ [(x, u)]) ∧
        ∀ base : Heap, (K w.params).In base → base.Ns mainGlobals mg → FnOk l.prog w (K w.params) mg base (CX w) k fa fd [x] (sp w))
    (hsp : ∀ (w : World) (H : Hp) (a : Addr) (ns : List Int), ns.length ≤ n → Only H → SqL (K w.params) H a (ns.map V.int) → sp w [.ref a] H (fun v _ => v = .bl true) fun _ _ _ => False)
    (hCX : ∀ (w : World) (H : Hp) (s : Shared) (e : Value) (s' : Shared), CX w [] H s (fun _ _ _ => False) e s' → False) :
    PySem.W.WalkO q loose XP YP l.row.toRowW d [] (fun f vs => PySem.call f vs) := by
  refine Att.attach_call hn hdf fun w s₀ s₁ mg mb fa o pm cd doc a vs ns G Y ho hd hcd hmg hobj hints hlen hg => ?_
  have KX := hY w _ Y
  obtain ⟨fd, hb, hF⟩ := F w mg fa _ KX G.T.g hmg
  exact law_call KX G.T.g G.T.b G.T.builtins G.T.nolimit hg hobj hints (Nat.le_trans hlen hn2) hr hF hb (fun H hO hS => hsp w H a ns hlen hO hS) fun H e s' => hCX w H s₁ e s'
end L2
namespace L2
open PySem PySem.Spec PyProof.Rows
def inClass (s : Stmt) (j : Nat) : Stmt := match s with
  | .ClassDef _ _ _ body _ _ _ _ _ _ _ => body.getD j (.Pass ⟨0, 0, 0, 0⟩)
  | _ => .Pass ⟨0, 0, 0, 0⟩
def defArgs (s : Stmt) : Arguments := match s with
  | .FunctionDef _ a _ _ _ _ _ _ _ _ => a
  | _ => { posonlyargs := [], args := [], vararg := none, kwonlyargs := [], kw_defaults := [], kwarg := none, defaults := [] }
def defBody (s : Stmt) : List Stmt := match s with
  | .FunctionDef _ _ b _ _ _ _ _ _ _ => b
  | _ => []
def defScope (s : Stmt) : Scope := match s with
  | .FunctionDef _ _ _ _ _ _ sc _ _ _ => sc
  | _ => { kind := .function, names := [], isGenerator := false, isCoroutine := false }
abbrev CX0 : CXT := fun _ _ _ _ _ _ => False
abbrev E0 : XK := fun _ _ _ => False
theorem pass0 {X : Cx} : Passes CX0 X E0 := fun _ _ _ _ _ _ _ h => h.elim
structure Fun (K : PySem.W.Frag) (x qual : Str) (st : Stmt) (f : Addr) (fd : FuncData) : Prop where
  ex : ∃ (oc : Value) (od : Option Addr) (kV doc pm : Value) (an : Option Addr) (cdv ct : Value) (osl : Array (Option Value)),
    fd = PySem.W.fnOf x qual (defArgs st) (defBody st) (defScope st) .none kV doc pm an cdv ct ∧ K.lookup f = some ⟨oc, od, .func fd, osl⟩ ∧ PySem.W.codeIn K cdv qual = true
  kp : PySem.W.keepIn K (.ref f) = true
section
variable {P : Program} {w : World} {K : PySem.W.Frag} {mg : Str → Option Value} {base : Heap}
theorem Fun.ok {x qual : Str} {st : Stmt} {f : Addr} {fd : FuncData} {N ps : List Str} {k : Nat} {sp : Sp} (F : Fun K x qual st f fd) (S : FnScope N ps (defScope st)) (len : ∀ vs H Q E, sp vs H Q E → vs.length = ps.length)
    (hbody : ∀ (cdv : Value) (A : Around) (outer : List Env) (s : Shared) (H : Hp) (vs : List V) (Q : VK) (E : XK), Room k (A.deeper (envOfC qual (defScope st) s.heap.objs.size f cdv)) → sp vs H Q E →
      ∃ t, PSs (cxOf CX0 P w K mg base N qual (defScope st) f cdv A outer s H E).nox (defBody st) t ∧ t { nx := fun _ H' => Q .non H', rt := Q } (start N vs) H) : FnOk P w K mg base CX0 (k + 1) f fd ps sp := by
  obtain ⟨oc, od, kV, doc, pm, an, cdv, ct, osl, rfl, lk, hcd⟩ := F.ex
  refine fn_of lk hcd S len fun A outer s H vs Q E hr hsp => ?_
  obtain ⟨t, h, q⟩ := hbody cdv A outer s H vs Q E hr hsp
  exact ⟨t, h.nox, q⟩
theorem fun_mk {x qual : Str} {st : Stmt} {f : Addr} {oc : Value} {od an : Option Addr} {osl : Array (Option Value)} {kV doc pm cdv ct : Value} (l : K.lookup f = some ⟨oc, od, .func (PySem.W.fnOf x qual (defArgs st) (defBody st) (defScope st) .none kV doc pm an cdv ct), osl⟩)
    (c : PySem.W.codeIn K cdv qual = true) (k : PySem.W.keepIn K (.ref f) = true) : Fun K x qual st f (PySem.W.fnOf x qual (defArgs st) (defBody st) (defScope st) .none kV doc pm an cdv ct) := ⟨⟨oc, od, kV, doc, pm, an, cdv, ct, osl, rfl, l, c⟩, k⟩
end
theorem hu_of {A : Around} {k : Nat} (hr : Room k A) : A.units + 1 < cLine := Nat.lt_of_le_of_lt (Nat.add_le_add_left (by decide : 1 ≤ 64) _) hr.units
theorem small1000 {n : Nat} (h : n ≤ 1000) : n < sizeLine := Nat.lt_of_le_of_lt h (by decide)
section
variable {X : Cx}
theorem pv (i : Nat) {x : Str} {pos : Pos} (hN : X.N[i]? = some x := by rfl) (hv : Vis X.env.scope x := by first | exact Or.inl rfl | exact Or.inr (Or.inl rfl) | exact Or.inr (Or.inr rfl)) (hd : (x == ("__debug__" : Str)) = false := by decide)
    (hcd : (x == ("__classdict__" : Str)) = false := by decide) : PE X (.Name x pos) (tVar i) := pe_var hN hv hd hcd
end
theorem iteF {A B : Prop} (h : B) : if false = true then A else B := by
  rw [if_neg Bool.false_ne_true]
  exact h
theorem iteT {A B : Prop} (h : A) : if true = true then A else B := by
  rw [if_pos rfl]
  exact h
theorem ite2 {c A B : Prop} [Decidable c] (h1 : c → A) (h2 : ¬ c → B) : if c then A else B := by
  by_cases h : c
  · rw [if_pos h]
    exact h1 h
  · rw [if_neg h]
    exact h2 h
def Same (H H' : Hp) : Prop := ∀ b o, H b = some o → H' b = some o
theorem Same.trans {H H1 H2 : Hp} (a : Same H H1) (b : Same H1 H2) : Same H H2 := fun c o h => b c o (a c o h)
theorem Same.seq {K : PySem.W.Frag} {H H' : Hp} {a : Addr} {xs : List V} (e : Same H H') (h : SqL K H a xs) : SqL K H' a xs := by
  rcases h with (h | ⟨o, h⟩) | h
  · exact .inl (.inl (e _ _ h))
  · exact .inl (.inr ⟨o, e _ _ h⟩)
  · exact .inr h
end L2
namespace L2
open PySem PySem.Spec PyProof.Rows
section
variable {κ : Type} [DecidableEq κ]
def valV (kvs : List (κ × V)) (k : κ) : Option V := (kvs.find? fun kv => decide (kv.1 = k)).map (·.2)
def putK (kvs : List (κ × V)) (k : κ) (v : V) : List (κ × V) :=
  if (kvs.any fun kv => decide (kv.1 = k)) = true then kvs.map (fun kv => if kv.1 = k then (kv.1, v) else kv) else kvs ++ [(k, v)]
def dropK (kvs : List (κ × V)) (k : κ) : List (κ × V) := kvs.filter fun kv => decide (kv.1 ≠ k)
theorem valV_pos {p : κ × V} {r : List (κ × V)} {k : κ} (e : p.1 = k) : valV (p :: r) k = some p.2 := by simp [valV, List.find?_cons, e]
theorem valV_neg {p : κ × V} {r : List (κ × V)} {k : κ} (e : ¬ p.1 = k) : valV (p :: r) k = valV r k := by simp [valV, List.find?_cons, e]
theorem valV_any (k : κ) : ∀ kvs : List (κ × V), (kvs.any fun kv => decide (kv.1 = k)) = (valV kvs k).isSome
  | [] => rfl
  | p :: r => by
    rw [List.any_cons]
    by_cases e : p.1 = k
    · simp only [valV_pos e, decide_eq_true e, Bool.true_or, Option.isSome_some]
    · rw [valV_neg e, decide_eq_false e, Bool.false_or]; exact valV_any k r
theorem valV_map (k j : κ) (y : V) : ∀ kvs : List (κ × V), valV (kvs.map fun kv => if kv.1 = k then (kv.1, y) else kv) j = (valV kvs j).map fun x => if j = k then y else x
  | [] => rfl
  | p :: r => by
    have ih := valV_map k j y r
    rw [List.map_cons]
    by_cases h : p.1 = k
    · rw [if_pos h]
      by_cases e : p.1 = j
      · rw [valV_pos (p := (p.1, y)) e, valV_pos e, Option.map_some, if_pos (e.symm.trans h)]
      · rw [valV_neg (p := (p.1, y)) e, valV_neg e, ih]
    · rw [if_neg h]
      by_cases e : p.1 = j
      · rw [valV_pos (p := p) e, valV_pos e, Option.map_some, if_neg (fun z => h (e.trans z))]
      · rw [valV_neg (p := p) e, valV_neg e, ih]
theorem valV_snoc (k j : κ) (y : V) : ∀ kvs : List (κ × V), valV kvs k = none → valV (kvs ++ [(k, y)]) j = if j = k then some y else valV kvs j
  | [], _ => by
    by_cases e : k = j
    · rw [if_pos e.symm]; exact valV_pos (p := (k, y)) e
    · rw [if_neg (fun z => e z.symm)]; exact valV_neg (p := (k, y)) e
  | p :: r, hn => by
    rw [List.cons_append]
    have hk : ¬ p.1 = k := fun z => by rw [valV_pos z] at hn; cases hn
    rw [valV_neg hk] at hn
    have ih := valV_snoc k j y r hn
    by_cases e : p.1 = j
    · rw [valV_pos e, valV_pos e, if_neg (fun z => hk (e.trans z))]
    · rw [valV_neg e, valV_neg e, ih]
theorem valV_put (kvs : List (κ × V)) (k j : κ) (y : V) : valV (putK kvs k y) j = if j = k then some y else valV kvs j := by
  unfold putK
  by_cases a : (kvs.any fun kv => decide (kv.1 = k)) = true
  · rw [if_pos a, valV_map]
    rw [valV_any] at a
    by_cases e : j = k
    · obtain ⟨x, hx⟩ := Option.isSome_iff_exists.mp a
      rw [if_pos e, e, hx, Option.map_some, if_pos rfl]
    · rw [if_neg e]
      cases valV kvs j with
      | none => rfl
      | some x => rw [Option.map_some, if_neg e]
  · rw [if_neg a]
    refine valV_snoc k j y kvs ?_
    rw [valV_any] at a
    cases q : valV kvs k with
    | none => rfl
    | some x => rw [q] at a; exact (a rfl).elim
theorem length_putK (kvs : List (κ × V)) (k : κ) (v : V) : (putK kvs k v).length ≤ kvs.length + 1 := by
  unfold putK
  split
  · rw [List.length_map]; omega
  · rw [List.length_append, List.length_cons, List.length_nil]; omega
theorem putK_new {kvs : List (κ × V)} {k : κ} (v : V) (h : valV kvs k = none) : putK kvs k v = kvs ++ [(k, v)] := by
  unfold putK
  rw [valV_any, h]
  exact if_neg (by decide)
theorem RelO.isSome_eq {o : Option V} {u : Option Value} (r : RelO o u) : o.isSome = u.isSome := by
  cases o with
  | none => cases u with
    | none => rfl
    | some _ => exact (show False from r).elim
  | some _ => cases u with
    | none => exact (show False from r).elim
    | some _ => rfl
theorem RelO.getD {o : Option V} {u : Option Value} {d : V} {d' : Value} (r : RelO o u) (rd : RelV d d') : RelV (o.getD d) (u.getD d') := by
  cases o with
  | none => cases u with
    | none => exact rd
    | some _ => exact (show False from r).elim
  | some _ => cases u with
    | none => exact (show False from r).elim
    | some _ => exact r
theorem KV.val {kvs : List (κ × V)} {vs : List (κ × Value)} (r : KV kvs vs) (k : κ) : RelO (valV kvs k) (valueAt vs k) := by
  unfold KV at r
  induction r with
  | nil => exact True.intro
  | @cons p q ps qs h t ih =>
    obtain ⟨h1, h2⟩ := h
    by_cases e : p.1 = k
    · have e' : q.1 = k := h1.symm.trans e
      have b : valueAt (q :: qs) k = some q.2 := by simp [valueAt, List.find?_cons, e']
      rw [valV_pos e, b]; exact h2
    · have e' : ¬ q.1 = k := fun z => e (h1.trans z)
      have b : valueAt (q :: qs) k = valueAt qs k := by simp [valueAt, List.find?_cons, e']
      rw [valV_neg e, b]; exact ih
theorem KV.any {kvs : List (κ × V)} {vs : List (κ × Value)} (r : KV kvs vs) (k : κ) : (kvs.any fun kv => decide (kv.1 = k)) = vs.any fun kv => decide (kv.1 = k) := by
  unfold KV at r
  induction r with
  | nil => rfl
  | cons h t ih => rw [List.any_cons, List.any_cons, ih, h.1]
theorem KV.repl {kvs : List (κ × V)} {vs : List (κ × Value)} (r : KV kvs vs) (k : κ) {y : V} {u : Value} (ry : RelV y u) :
    KV (kvs.map fun kv => if kv.1 = k then (kv.1, y) else kv) (vs.map fun kv => if kv.1 = k then (kv.1, u) else kv) := by
  unfold KV at r ⊢
  induction r with
  | nil => exact .nil
  | @cons p q ps qs h t ih =>
    rw [List.map_cons, List.map_cons]
    refine .cons ?_ ih
    obtain ⟨h1, h2⟩ := h
    by_cases e : p.1 = k
    · rw [if_pos e, if_pos (h1.symm.trans e)]; exact ⟨h1, ry⟩
    · rw [if_neg e, if_neg (fun z => e (h1.trans z))]; exact ⟨h1, h2⟩
theorem KV.put {kvs : List (κ × V)} {vs : List (κ × Value)} (r : KV kvs vs) (k : κ) {y : V} {u : Value} (ry : RelV y u) : KV (putK kvs k y) (stored vs k u) := by
  unfold putK stored
  rw [r.any k]
  by_cases e : (vs.any fun kv => decide (kv.1 = k)) = true
  · rw [if_pos e, if_pos e]; exact r.repl k ry
  · rw [if_neg e, if_neg e]; exact Paired.snoc r ⟨rfl, ry⟩
theorem KV.keys {kvs : List (κ × V)} {vs : List (κ × Value)} (r : KV kvs vs) : kvs.map (·.1) = vs.map (·.1) := by
  unfold KV at r
  induction r with
  | nil => rfl
  | cons h t ih => rw [List.map_cons, List.map_cons, ih, h.1]
theorem KV.length {kvs : List (κ × V)} {vs : List (κ × Value)} (r : KV kvs vs) : kvs.length = vs.length := Paired.length r
theorem dropK_le (kvs : List (κ × V)) (k : κ) : (dropK kvs k).length ≤ kvs.length := List.length_filter_le _ _
end
theorem kV_is {P : Program} {w : World} {k : Key} {u : Value} (r : RelV (kV k) u) : (mixKind P w).is k u = true := by
  cases k with
  | inl i => obtain ⟨t, e⟩ := (show ∃ t, u = Value.int i t from r); subst e; exact mixKind_int P w i t
  | inr x => obtain ⟨t, e⟩ := (show ∃ t, u = Value.str x t from r); subst e; exact mixKind_str P w x t
theorem items_are {P : Program} {w : World} : ∀ {ks : List Key} {us : List Value}, Vals (ks.map kV) us → ItemsAre (mixKind P w) ks us
  | [], _, r => by rw [List.map_nil] at r; cases r; exact .nil
  | k :: ks, _, r => by
    rw [List.map_cons] at r
    cases r with
    | cons h t => exact .cons (kV_is h) (items_are t)
abbrev KT (H : Hp) : List (List Key × V) → List (List Key × Addr × Value) → Prop := Paired fun p q => p.1 = q.1 ∧ H q.2.1 = some (.tup (p.1.map kV)) ∧ RelV p.2 q.2.2
theorem KT.val {H : Hp} {kvs : List (List Key × V)} {xs : List (List Key × Addr × Value)} (r : KT H kvs xs) (k : List Key) : RelO (valV kvs k) ((atKey xs k).map (·.2)) := by
  induction r with
  | nil => exact True.intro
  | @cons p q ps qs h t ih =>
    obtain ⟨h1, _, h2⟩ := h
    by_cases e : p.1 = k
    · have e' : q.1 = k := h1.symm.trans e
      have b : atKey (q :: qs) k = some q.2 := by simp [atKey, List.find?_cons, e']
      rw [valV_pos e, b]; exact h2
    · have e' : ¬ q.1 = k := fun z => e (h1.trans z)
      have b : atKey (q :: qs) k = atKey qs k := by simp [atKey, List.find?_cons, e']
      rw [valV_neg e, b]; exact ih
theorem KT.repl {H : Hp} {kvs : List (List Key × V)} {xs : List (List Key × Addr × Value)} (r : KT H kvs xs) (k : List Key) {y : V} {u : Value} (ry : RelV y u) :
    KT H (kvs.map fun kv => if kv.1 = k then (kv.1, y) else kv) (xs.map (putAt k u)) := by
  induction r with
  | nil => exact .nil
  | @cons p q ps qs h t ih =>
    rw [List.map_cons, List.map_cons]
    refine .cons ?_ ih
    obtain ⟨h1, h2, h3⟩ := h
    unfold putAt
    by_cases e : p.1 = k
    · rw [if_pos e, if_pos (h1.symm.trans e)]; exact ⟨h1, h2, ry⟩
    · rw [if_neg e, if_neg (fun z => e (h1.trans z))]; exact ⟨h1, h2, h3⟩
theorem KT.put {H : Hp} {kvs : List (List Key × V)} {xs : List (List Key × Addr × Value)} (r : KT H kvs xs) (k : List Key) {b : Addr} {y : V} {u : Value} (hb : H b = some (.tup (k.map kV))) (ry : RelV y u) :
    KT H (putK kvs k y) (storedH xs k b u) := by
  have e : (kvs.any fun kv => decide (kv.1 = k)) = (atKey xs k).isSome := by
    rw [valV_any, (r.val k).isSome_eq, Option.isSome_map]
  unfold putK storedH
  rw [e]
  by_cases q : (atKey xs k).isSome = true
  · rw [if_pos q, if_pos q]; exact r.repl k ry
  · rw [if_neg q, if_neg q]; exact Paired.snoc r ⟨rfl, hb, ry⟩
theorem KT.keeps {H H' : Hp} {kvs : List (List Key × V)} {xs : List (List Key × Addr × Value)} (r : KT H kvs xs) (ht : ∀ b ys, H b = some (.tup ys) → H' b = some (.tup ys)) : KT H' kvs xs :=
  Paired.mapP r fun _ _ z => ⟨z.1, ht _ _ z.2.1, z.2.2⟩
section
variable {P : Program} {w : World} {H : Hp} {h : Heap} {a : Addr}
theorem rd_of {u : HO} (ok : HOk P w H h) (e : Rd H a u) : ObjOk P w H h a u := e.ok ok
theorem dk_rd {kvs : List (Key × V)} (ok : HOk P w H h) (e : Rd H a (.dK kvs)) : kvs.length ≤ sizeLine ∧ (a == sysModules) = false ∧ ∃ vs, KV kvs vs ∧ h.DictOf (mixKind P w) a vs :=
  show ObjOk P w H h a (.dK kvs) from rd_of ok e
theorem dk_of {kvs : List (Key × V)} (ok : HOk P w H h) (e : H a = some (.dK kvs)) : kvs.length ≤ sizeLine ∧ (a == sysModules) = false ∧ ∃ vs, KV kvs vs ∧ h.DictOf (mixKind P w) a vs := dk_rd ok (.inl e)
theorem key_of {ks : List Key} (ok : HOk P w H h) (e : H a = some (.tup (ks.map kV))) : (tupleKind (mixKind P w)).is h ks a := by
  obtain ⟨_, its, r, o, h1, h2, n, h3⟩ := (show ObjOk P w H h a (.tup (ks.map kV)) from ok a _ e)
  exact ⟨o, its.toArray, n, h1, h2, h3, by simpa using items_are r⟩
theorem dt_rd {kvs : List (List Key × V)} (ok : HOk P w H h) (e : Rd H a (.dT kvs)) : kvs.length ≤ sizeLine ∧ (a == sysModules) = false ∧
    ∃ xs, KT H kvs xs ∧ h.DictOfH (tupleKind (mixKind P w)) a xs := by
  obtain ⟨z, y, xs, r, o, es, ep, h1, h2, h3, h4, h5⟩ := (show ObjOk P w H h a (.dT kvs) from rd_of ok e)
  refine ⟨z, y, xs, r, o, es, ep, h1, h2, h3, h4, fun x hx => ?_, h5⟩
  have all : ∀ {l : List (List Key × V)} {m : List (List Key × Addr × Value)}, KT H l m → ∀ x ∈ m, (tupleKind (mixKind P w)).is h x.1 x.2.1 := by
    intro l m q
    induction q with
    | nil => intro x hx; exact nomatch hx
    | @cons p q ps qs hq t ih =>
      intro x hx
      rcases List.mem_cons.mp hx with e | hx
      · subst e
        exact key_of ok (by rw [← hq.1]; exact hq.2.1)
      · exact ih x hx
  exact all r x hx
theorem dt_of {kvs : List (List Key × V)} (ok : HOk P w H h) (e : H a = some (.dT kvs)) : kvs.length ≤ sizeLine ∧ (a == sysModules) = false ∧
    ∃ xs, KT H kvs xs ∧ h.DictOfH (tupleKind (mixKind P w)) a xs := dt_rd ok (.inl e)
end
def DGet (H : Hp) (a : Addr) (y : V) (r : Option V) : Prop :=
  (∃ kvs k, Rd H a (.dK kvs) ∧ y = kV k ∧ r = valV kvs k) ∨ ∃ kvs k b, Rd H a (.dT kvs) ∧ y = .ref b ∧ H b = some (.tup (k.map kV)) ∧ r = valV kvs k
def DPut (H : Hp) (a : Addr) (y v : V) (H' : Hp) : Prop :=
  (∃ kvs k, H a = some (.dK kvs) ∧ y = kV k ∧ kvs.length < sizeLine ∧ H' = upd H a (.dK (putK kvs k v))) ∨
  ∃ kvs k b, H a = some (.dT kvs) ∧ y = .ref b ∧ H b = some (.tup (k.map kV)) ∧ kvs.length < sizeLine ∧ H' = upd H a (.dT (putK kvs k v))
theorem DGet.k {H : Hp} {a : Addr} {kvs : List (Key × V)} {k : Key} (e : H a = some (.dK kvs)) : DGet H a (kV k) (valV kvs k) := .inl ⟨kvs, k, .inl e, rfl, rfl⟩
theorem DGet.t {H : Hp} {a b : Addr} {kvs : List (List Key × V)} {k : List Key} (e : H a = some (.dT kvs)) (eb : H b = some (.tup (k.map kV))) : DGet H a (.ref b) (valV kvs k) := .inr ⟨kvs, k, b, .inl e, rfl, eb, rfl⟩
theorem DPut.k {H : Hp} {a : Addr} {kvs : List (Key × V)} {k : Key} {v : V} (e : H a = some (.dK kvs)) (hl : kvs.length < sizeLine) : DPut H a (kV k) v (upd H a (.dK (putK kvs k v))) := .inl ⟨kvs, k, e, rfl, hl, rfl⟩
theorem DPut.t {H : Hp} {a b : Addr} {kvs : List (List Key × V)} {k : List Key} {v : V} (e : H a = some (.dT kvs)) (eb : H b = some (.tup (k.map kV))) (hl : kvs.length < sizeLine) :
    DPut H a (.ref b) v (upd H a (.dT (putK kvs k v))) := .inr ⟨kvs, k, b, e, rfl, eb, hl, rfl⟩
section
variable {X : Cx} {pins : List (Addr × Obj)} {σ : St} {H : Hp} {s : Shared} {a : Addr} {y v : V} {u r : Value} {o : Option V} {A : Around} {E : Value → Shared → Prop}
theorem Inv.big (I : Inv X pins σ H s) : sysModules < s.heap.objs.size := by
  have h : mainGlobals < s.heap.objs.size := (I.mod.glob.keeps I.bk).lt
  exact Nat.lt_trans (by decide) h
theorem d_getItem {Q : Value → Shared → Prop} (hu : A.units + 1 < cLine) (I : Inv X pins σ H s) (g : DGet H a y (some v)) (ry : RelV y u) (h : ∀ w' s', Inv X pins σ H s' → RelV v w' → Q w' s') :
    wpAny (model X.prog X.w) A (getItem (.ref a) u) Q E s := by
  rcases g with ⟨kvs, k, e, ey, l⟩ | ⟨kvs, k, b, e, ey, eb, l⟩
  · subst ey
    obtain ⟨z, hd, vs, rel, dd⟩ := dk_rd I.hok e
    obtain ⟨w', hw, rw'⟩ := RelO.some_of (v := v) (o := valueAt vs k) (by rw [l]; exact rel.val k)
    exact wpAny_getItem_of (kV_is ry) dd.mapOf hw (h w' _ (I.tok _) rw')
  · subst ey
    cases (show u = Value.ref b from ry)
    obtain ⟨z, hd, xs, rel, dd⟩ := dt_rd I.hok e
    obtain ⟨w', hw, rw'⟩ := RelO.some_of (v := v) (o := (atKey xs k).map (·.2)) (by rw [l]; exact rel.val k)
    obtain ⟨p, hp, hp2⟩ := Option.map_eq_some_iff.mp hw
    refine wpAny_getItem_heap (tupleKind_room_in1 hu) (key_of I.hok eb) dd hp ?_
    rw [hp2]
    exact h w' _ (I.tok _) rw'
theorem d_in {Q : Value → Shared → Prop} (hu : A.units + 1 < cLine) (I : Inv X pins σ H s) (g : DGet H a y o) (ry : RelV y u) (h : ∀ s', Inv X pins σ H s' → Q (.bool o.isSome) s') :
    wpAny (model X.prog X.w) A (compareOp .In u (.ref a)) Q E s := by
  rcases g with ⟨kvs, k, e, ey, l⟩ | ⟨kvs, k, b, e, ey, eb, l⟩
  · subst ey
    obtain ⟨z, hd, vs, rel, dd⟩ := dk_rd I.hok e
    refine wpAny_in_of (kV_is ry) hd dd.mapOf ?_
    rw [← (rel.val k).isSome_eq, ← l]
    exact h _ (I.tok _)
  · subst ey
    cases (show u = Value.ref b from ry)
    obtain ⟨z, hd, xs, rel, dd⟩ := dt_rd I.hok e
    refine wpAny_in_heap (tupleKind_room_in1 hu) (key_of I.hok eb) hd dd ?_
    have q := (rel.val k).isSome_eq
    rw [Option.isSome_map] at q
    rw [← q, ← l]
    exact h _ (I.tok _)
theorem d_write {h' : Heap} {t' : Nat} {ob : HO} (I : Inv X pins σ H s) (mu : Mut (H a)) (hs : Heap.SameBut a s.heap h') (he : ∃ q, h'.get? a = some q) (new : ObjOk X.prog X.w (upd H a ob) h' a ob) :
    Inv X pins σ (upd H a ob) { s with heap := h', toks := t' } :=
  I.write (x := a) (e := a) mu (.inl rfl) (fun b q hb z => (hs.2 b hb).trans z) he new
theorem dk_new {P : Program} {w : World} {H' : Hp} {h' : Heap} {kvs : List (Key × V)} {vs : List (Key × Value)} (z : kvs.length ≤ sizeLine) (hd : (a == sysModules) = false) (rel : KV kvs vs) (dd : h'.DictOf (mixKind P w) a vs) :
    ObjOk P w H' h' a (.dK kvs) := ⟨z, hd, vs, rel, dd⟩
theorem d_setItem {H' : Hp} {Q : Unit → Shared → Prop} (hu : A.units + 1 < cLine) (I : Inv X pins σ H s) (g : DPut H a y v H') (ry : RelV y u) (rv : RelV v r) (h : ∀ s', Inv X pins σ H' s' → Q () s') :
    wpAny (model X.prog X.w) A (setItem (.ref a) u r) Q E s := by
  rcases g with ⟨kvs, k, e, ey, l, eH⟩ | ⟨kvs, k, b, e, ey, eb, l, eH⟩
  · subst ey eH
    obtain ⟨z, hd, vs, rel, dd⟩ := dk_of I.hok e
    have hz : vs.length ≤ sizeLine := by rw [← rel.length]; exact z
    have hl : (putK kvs k v).length ≤ sizeLine := by have := length_putK kvs k v; omega
    refine wpAny_setItem_pairs (hsz := hz) (kV_is ry) dd fun h' dd' hs => h _ ?_
    have he : ∃ q, h'.get? a = some q := let ⟨q, _, _, hq, _⟩ := dd'; ⟨q, hq⟩
    exact d_write I (by rw [e]; exact True.intro) hs he (dk_new hl hd (rel.put k rv) dd')
  · subst ey eH
    cases (show u = Value.ref b from ry)
    obtain ⟨z, hd, xs, rel, dd⟩ := dt_of I.hok e
    have hz : xs.length ≤ sizeLine := by rw [← Paired.length rel]; exact z
    have hl : (putK kvs k v).length ≤ sizeLine := by have := length_putK kvs k v; omega
    refine wpAny_setItem_heap (hsz := hz) (tupleKind_room_in1 hu) (key_of I.hok eb) dd fun h' dd' hs => h _ ?_
    obtain ⟨q, es, ep, hq, h2, h3, h4, _, h5⟩ := dd'
    refine d_write I (by rw [e]; exact True.intro) hs ⟨q, hq⟩ ⟨hl, hd, _, (rel.put k eb rv).keeps fun c ys ec => ?_, q, es, ep, hq, h2, h3, h4, h5⟩
    rw [upd_ne (ne_of ec e (fun z => nomatch z))]
    exact ec
end
def NoSl (i : Expr) : Prop := ∀ ov iv, subscripted i false ov iv = operate [ov, iv] (getItem ov iv)
theorem subD_of {prog : Program} {w : World} {A : Around} {E : Value → Shared → Prop} {s : Shared} {env : Env} {value slice : Expr} {pos : Pos} {T id : String} {Q : Value → Shared → Prop}
    (hl : typeLookup (.type T) "__getitem__" = pure (some (.builtin id))) (hs : NoSl slice)
    (h : wpAny (model prog w) A (eval value env) (fun o s₁ => wpAny (model prog w) A (eval slice env) (fun i s₂ => s₂.TypeIs o T ∧ wpAny (model prog w) A (getItem o i) Q E s₂) E s₁) E s) :
    wpAny (model prog w) A (eval (.Subscript value slice pos) env) Q E s := by
  refine Subscript_ (wpAny_mono h (fun o s₁ h₁ => wpAny_mono h₁ (fun i s₂ h₂ => ?_) fun _ _ x => x) fun _ _ x => x)
  obtain ⟨hT, h₂⟩ := h₂
  unfold subscriptTail
  refine wpAny_bind ?_
  rw [getitemInPython_of_ne hT.not_modules]
  refine wpAny_bind (wpAny_specialOf hT hl ?_)
  have fin : wpAny (model prog w) A (subscripted slice false o i) (fun r s₃ => wpAny (model prog w) A (letTemporaryGo value o r >>= fun _ => pure r) Q E s₃) E s₂ := by
    rw [hs o i]
    exact wpAny_operating (wpAny_mono h₂ (fun r s₃ h₃ => wpAny_bind (wpAny_letTemporaryGo (wpAny_pure h₃))) fun _ _ x => x)
  first
    | exact wpAny_pure (wpAny_bind fin)
    | exact wpAny_bind (wpAny_pure (wpAny_bind fin))
    | exact wpAny_bind fin
theorem dict_typeIs {X : Cx} {pins : List (Addr × Obj)} {σ : St} {H : Hp} {s : Shared} {a : Addr} {y : V} {o : Option V} (I : Inv X pins σ H s) (g : DGet H a y o) : s.TypeIs (.ref a) "dict" := by
  rcases g with ⟨kvs, k, e, _, _⟩ | ⟨kvs, k, b, e, _, _, _⟩
  · obtain ⟨_, _, vs, _, dd⟩ := dk_rd I.hok e
    exact dd.typeIs
  · obtain ⟨_, _, xs, _, dd⟩ := dt_rd I.hok e
    exact dd.typeIs
def tDGet (td ty : TE) : TE := fun σ H Q => td σ H fun x H1 => ty σ H1 fun y H2 => ∃ a v, x = .ref a ∧ DGet H2 a y (some v) ∧ Q v H2
def tDIn (ty td : TE) : TE := fun σ H Q => ty σ H fun y H1 => td σ H1 fun x H2 => ∃ a o, x = .ref a ∧ DGet H2 a y o ∧ Q (.bl o.isSome) H2
def sDPut (td ty tv : TE) : TS := fun D σ H => tv σ H fun v H1 => td σ H1 fun x H2 => ty σ H2 fun y H3 => ∃ a H4, x = .ref a ∧ DPut H3 a y v H4 ∧ D.nx σ H4
section
variable {X : Cx} {o i e value : Expr} {pos pos' tpos : Pos} {td ty tv : TE}
theorem pe_dget (hu : X.A.units + 1 < cLine) (ho : PE X o td) (hi : PE X i ty) (hs : NoSl i) : PE X (.Subscript o i pos) (tDGet td ty) := by
  intro pins s σ H Q I h
  refine subD_of PySem.F.slot_dict_getitem.lookup hs (thn (ho pins s σ H _ I h) fun u s1 ⟨x, H1, I1, rx, q1⟩ => thn (hi pins s1 σ H1 _ I1 q1) fun iv s2 ⟨y, H2, I2, ry, a, v, ex, g, q2⟩ => ?_)
  subst ex
  obtain rfl : u = Value.ref a := rx
  exact ⟨dict_typeIs I2 g, d_getItem hu I2 g ry fun w' s3 I3 rw' => ⟨v, H2, I3, rw', q2⟩⟩
theorem pc_din (hu : X.A.units + 1 < cLine) (hi : PE X i ty) (ho : PE X o td) : PC X .In i o (tDIn ty td) := by
  intro pins s σ H Q I h
  refine thn (hi pins s σ H _ I h) fun iv s1 ⟨y, H1, I1, ry, q1⟩ => thn (ho pins s1 σ H1 _ I1 q1) fun u s2 ⟨x, H2, I2, rx, a, ov, ex, g, q2⟩ => ?_
  subst ex
  obtain rfl : u = Value.ref a := rx
  exact d_in hu I2 g ry fun s3 I3 => ⟨.bl ov.isSome, H2, I3, rfl, q2⟩
theorem ps_dput (hu : X.A.units + 1 < cLine) (ho : PE X o td) (hi : PE X i ty) (hv : PE X value tv) (hs : swapsWith value (some (.Subscript o i pos')) pos.line X.env = pure false) :
    PS X (.Assign [.Subscript o i pos'] value pos) (sDPut td ty tv) := by
  intro pins s σ H D I h
  refine wpAny_Assign_Subscript (thn (hv pins s σ H _ I h) fun r s1 ⟨v, H1, I1, rv, q1⟩ => thn (ho pins s1 σ H1 _ I1 q1) fun u s2 ⟨x, H2, I2, rx, q2⟩ => thn (hi pins s2 σ H2 _ I2 q2) fun iv s3 ⟨y, H3, I3, ry, a, H4, ex, g, q3⟩ => ?_) hs
  subst ex
  obtain rfl : u = Value.ref a := rx
  exact d_setItem hu I3 g ry rv fun s4 I4 => ⟨σ, H4, I4, q3⟩
end
theorem dk_empty {P : Program} {w : World} {H : Hp} (h : Heap) (hb : sysModules < h.objs.size) : ObjOk P w H (h.push { cls := .type "dict", data := .dict #[] }) h.objs.size (.dK []) :=
  ⟨Nat.zero_le _, beq_eq_false_iff_ne.mpr (Ne.symm (Nat.ne_of_lt hb)), [], .nil, Heap.DictOf.new h⟩
theorem dt_empty {P : Program} {w : World} {H : Hp} (h : Heap) (hb : sysModules < h.objs.size) : ObjOk P w H (h.push { cls := .type "dict", data := .dict #[] }) h.objs.size (.dT []) :=
  ⟨Nat.zero_le _, beq_eq_false_iff_ne.mpr (Ne.symm (Nat.ne_of_lt hb)), [], .nil, _, #[], 0, Heap.get?_push_size _ rfl, ⟨rfl, rfl, rfl⟩, rfl, rfl, List.nodup_nil⟩
def tDNewK : TE := fun _ H Q => ∀ p, H p = none → Q (.ref p) (upd H p (.dK []))
def tDNewT : TE := fun _ H Q => ∀ p, H p = none → Q (.ref p) (upd H p (.dT []))
section
variable {X : Cx} {pos : Pos}
theorem pe_dnewK : PE X (.Dict [] [] pos) tDNewK := fun pins s σ H Q I h =>
  wpAny_Dict_empty ⟨.ref s.heap.objs.size, _, I.laid (a := s.heap.objs.size) (o := .dK []) (t' := s.toks) (fun _ _ q => Heap.get?_push_of_some _ q) (Nat.le_refl _) (dk_empty s.heap I.big), rfl, h _ (I.hok.fresh (Nat.le_refl _))⟩
theorem pe_dnewT : PE X (.Dict [] [] pos) tDNewT := fun pins s σ H Q I h =>
  wpAny_Dict_empty ⟨.ref s.heap.objs.size, _, I.laid (a := s.heap.objs.size) (o := .dT []) (t' := s.toks) (fun _ _ q => Heap.get?_push_of_some _ q) (Nat.le_refl _) (dt_empty s.heap I.big), rfl, h _ (I.hok.fresh (Nat.le_refl _))⟩
end
structure M1 (X : Cx) (o : Expr) (m : Str) (apos : Pos) (e : Expr) (cpos : Pos) : Prop where
  base : attributeBase o m X.env (eval o X.env) = eval o X.env
  few : ((backTo cpos (starEach [e] X.env)).all (fun x => !x.1) && (backToKw cpos (keywordEach [] X.env)).all (fun x => x.1.isSome)
    && decide (([e] : List Expr).length + ([] : List Keyword).length + (if ([] : List Keyword).isEmpty then 0 else 1) < 30)) = true
  line : (apos.endLine == cpos.line) = true
  trees : backTo cpos (starEach [e] X.env) = [(false, eval e X.env)]
structure M2 (X : Cx) (o : Expr) (m : Str) (apos : Pos) (e f : Expr) (cpos : Pos) : Prop where
  base : attributeBase o m X.env (eval o X.env) = eval o X.env
  few : ((backTo cpos (starEach [e, f] X.env)).all (fun x => !x.1) && (backToKw cpos (keywordEach [] X.env)).all (fun x => x.1.isSome)
    && decide (([e, f] : List Expr).length + ([] : List Keyword).length + (if ([] : List Keyword).isEmpty then 0 else 1) < 30)) = true
  line : (apos.endLine == cpos.line) = true
  trees : backTo cpos (starEach [e, f] X.env) = [(false, eval e X.env), (false, eval f X.env)]
def IsD (H : Hp) (a : Addr) : Prop := (∃ kvs, Rd H a (.dK kvs)) ∨ ∃ kvs, Rd H a (.dT kvs)
theorem isD_at {X : Cx} {pins : List (Addr × Obj)} {σ : St} {H : Hp} {s : Shared} {a : Addr} (I : Inv X pins σ H s) (d : IsD H a) :
    s.TypeIs (.ref a) "dict" ∧ (∀ b, Value.ref a = .ref b → ∃ ob, s.heap.get? b = some ob ∧ ob.dict = none) ∧ (a == sysModules) = false := by
  rcases d with ⟨kvs, e⟩ | ⟨kvs, e⟩
  · obtain ⟨_, hd, vs, _, dd⟩ := dk_rd I.hok e
    refine ⟨dd.typeIs, fun b q => ?_, hd⟩
    cases q
    obtain ⟨ob, _, _, h1, h2, _⟩ := dd
    exact ⟨ob, h1, h2.2.1⟩
  · obtain ⟨_, hd, xs, _, dd⟩ := dt_rd I.hok e
    refine ⟨dd.typeIs, fun b q => ?_, hd⟩
    cases q
    obtain ⟨ob, _, _, h1, h2, _⟩ := dd
    exact ⟨ob, h1, h2.2.1⟩
section
variable {X : Cx} {pins : List (Addr × Obj)} {σ : St} {H : Hp} {s : Shared} {a : Addr} {y d : V} {u r : Value} {o : Option V} {A : Around} {E : Value → Shared → Prop}
theorem d_get1 {Q : Value → Shared → Prop} (hu : A.units + 1 < cLine) (I : Inv X pins σ H s) (g : DGet H a y o) (ry : RelV y u) (h : ∀ w' s', Inv X pins σ H s' → RelV (o.getD .non) w' → Q w' s') :
    wpAny (model X.prog X.w) A (call (.builtin "dict.get") [.ref a, u]) Q E s := by
  rcases g with ⟨kvs, k, e, ey, l⟩ | ⟨kvs, k, b, e, ey, eb, l⟩
  · subst ey
    obtain ⟨z, hd, vs, rel, dd⟩ := dk_rd I.hok e
    refine call_meetsIn PySem.F.slot_dict_get dd.typeIs PySem.F.entry_dict_get (PySem.F.args_dict_get_2 _ _) (meets_dict_get (mixKind X.prog X.w) a (kV_is ry) hd) ⟨_, dd.mapOf, h _ _ (I.tok _) ?_⟩
    rw [l]
    exact (rel.val k).getD rfl
  · subst ey
    cases (show u = Value.ref b from ry)
    obtain ⟨z, hd, xs, rel, dd⟩ := dt_rd I.hok e
    refine call_meetsIn PySem.F.slot_dict_get dd.typeIs PySem.F.entry_dict_get (PySem.F.args_dict_get_2 _ _) (meetsH_dict_get (tupleKind (mixKind X.prog X.w)) a b hd) ⟨tupleKind_room_in1 hu, k, xs, key_of I.hok eb, dd, h _ _ (I.tok _) ?_⟩
    rw [l]
    exact (rel.val k).getD rfl
theorem d_get2 {Q : Value → Shared → Prop} (hu : A.units + 1 < cLine) (I : Inv X pins σ H s) (g : DGet H a y o) (ry : RelV y u) (rd : RelV d r) (h : ∀ w' s', Inv X pins σ H s' → RelV (o.getD d) w' → Q w' s') :
    wpAny (model X.prog X.w) A (call (.builtin "dict.get") [.ref a, u, r]) Q E s := by
  rcases g with ⟨kvs, k, e, ey, l⟩ | ⟨kvs, k, b, e, ey, eb, l⟩
  · subst ey
    obtain ⟨z, hd, vs, rel, dd⟩ := dk_rd I.hok e
    refine call_meetsIn PySem.F.slot_dict_get dd.typeIs PySem.F.entry_dict_get (PySem.F.args_dict_get_3 _ _ _) (meets_dict_get_default (mixKind X.prog X.w) a (kV_is ry) hd r) ⟨_, dd.mapOf, h _ _ (I.tok _) ?_⟩
    rw [l]
    exact (rel.val k).getD rd
  · subst ey
    cases (show u = Value.ref b from ry)
    obtain ⟨z, hd, xs, rel, dd⟩ := dt_rd I.hok e
    refine call_meetsIn PySem.F.slot_dict_get dd.typeIs PySem.F.entry_dict_get (PySem.F.args_dict_get_3 _ _ _) (meetsH_dict_get_default (tupleKind (mixKind X.prog X.w)) a b hd r) ⟨tupleKind_room_in1 hu, k, xs, key_of I.hok eb, dd, h _ _ (I.tok _) ?_⟩
    rw [l]
    exact (rel.val k).getD rd
end
def tDGet1 (td ty : TE) : TE := fun σ H Q => td σ H fun x H1 => ∃ a, x = .ref a ∧ IsD H1 a ∧ ty σ H1 fun y H2 => ∃ o, DGet H2 a y o ∧ Q (o.getD .non) H2
def tDGet2 (td ty tx : TE) : TE := fun σ H Q => td σ H fun x H1 => ∃ a, x = .ref a ∧ IsD H1 a ∧ ty σ H1 fun y H2 => tx σ H2 fun z H3 => ∃ o, DGet H3 a y o ∧ Q (o.getD z) H3
section
variable {X : Cx} {o e f : Expr} {apos cpos : Pos} {td ty tx : TE}
theorem pe_dget1 (hu : X.A.units + 1 < cLine) (ho : PE X o td) (he : PE X e ty) (m : M1 X o "get" apos e cpos) : PE X (.Call (.Attribute o "get" apos) [e] [] cpos) (tDGet1 td ty) := by
  intro pins s σ H Q I h
  refine wpAny_Call_method m.base m.few m.line PySem.F.plainAttrs_dict PySem.F.slot_dict_get PySem.F.type_dict_get (thn (ho pins s σ H _ I h) fun u s1 ⟨x, H1, I1, rx, a, ex, d, q1⟩ => ?_)
  subst ex
  obtain rfl : u = Value.ref a := rx
  obtain ⟨t1, t2, _⟩ := isD_at I1 d
  refine ⟨t1, t2, ?_⟩
  rw [m.trees]
  refine Calls.callWith_builtin rfl (Calls.evalArgs_plain (Calls.spliced_cons (thn (he pins s1 σ H1 _ I1 q1) fun iv s2 ⟨y, H2, I2, ry, ov, g, q2⟩ => Calls.spliced_nil ?_)))
  exact d_get1 hu I2 g ry fun w' s3 I3 rw' => ⟨_, H2, I3, rw', q2⟩
theorem pe_dget2 (hu : X.A.units + 1 < cLine) (ho : PE X o td) (he : PE X e ty) (hf : PE X f tx) (m : M2 X o "get" apos e f cpos) : PE X (.Call (.Attribute o "get" apos) [e, f] [] cpos) (tDGet2 td ty tx) := by
  intro pins s σ H Q I h
  refine wpAny_Call_method m.base m.few m.line PySem.F.plainAttrs_dict PySem.F.slot_dict_get PySem.F.type_dict_get (thn (ho pins s σ H _ I h) fun u s1 ⟨x, H1, I1, rx, a, ex, d, q1⟩ => ?_)
  subst ex
  obtain rfl : u = Value.ref a := rx
  obtain ⟨t1, t2, _⟩ := isD_at I1 d
  refine ⟨t1, t2, ?_⟩
  rw [m.trees]
  refine Calls.callWith_builtin rfl (Calls.evalArgs_plain (Calls.spliced_cons (thn (he pins s1 σ H1 _ I1 q1) fun iv s2 ⟨y, H2, I2, ry, q2⟩ =>
    Calls.spliced_cons (thn (hf pins s2 σ H2 _ I2 q2) fun fv s3 ⟨z, H3, I3, rz, ov, g, q3⟩ => Calls.spliced_nil ?_))))
  exact d_get2 hu I3 g ry rz fun w' s4 I4 rw' => ⟨_, H3, I4, rw', q3⟩
end
end L2
namespace L2
open PySem PySem.Spec PyProof.Rows
section
variable {κ : Type} [DecidableEq κ]
theorem nd_snoc : ∀ {l : List κ} {k : κ}, l.Nodup → ¬ k ∈ l → (l ++ [k]).Nodup
  | [], k, _, _ => by simp
  | a :: r, k, h, hk => by
    obtain ⟨h1, h2⟩ := List.nodup_cons.mp h
    show (a :: (r ++ [k])).Nodup
    refine List.nodup_cons.mpr ⟨fun m => ?_, nd_snoc h2 fun m => hk (List.mem_cons.mpr (Or.inr m))⟩
    rcases List.mem_append.mp m with q | q
    · exact h1 q
    · exact hk (List.mem_cons.mpr (Or.inl (List.mem_singleton.mp q).symm))
theorem dropK_pos {p : κ × V} {r : List (κ × V)} {k : κ} (e : p.1 = k) : dropK (p :: r) k = dropK r k := by
  unfold dropK
  rw [List.filter_cons, if_neg (by simp [e])]
theorem dropK_neg {p : κ × V} {r : List (κ × V)} {k : κ} (e : ¬ p.1 = k) : dropK (p :: r) k = p :: dropK r k := by
  unfold dropK
  rw [List.filter_cons, if_pos (by simp [e])]
end
end L2
set_option maxHeartbeats 1000000
namespace L2
open PySem PySem.Spec PyProof.Rows
theorem HOk.track {P : Program} {w : World} {H : Hp} {h : Heap} {a : Addr} {o : HO} (x : HOk P w H h) (hn : H a = none) (new : ObjOk P w (upd H a o) h a o) : HOk P w (upd H a o) h := fun b u e => by
  by_cases hb : b = a
  · subst hb; rw [upd_same] at e; cases e; exact new
  · rw [upd_ne hb] at e
    exact (x b u e).stay (fun c v _ q => q) (fun c q => by rw [upd_ne (ne_of_none q hn)]; exact q) fun c xs q => by rw [upd_ne (ne_of_none q hn)]; exact q
theorem Un.track {fs ex : List Addr} {H H' : Hp} {h h' : Heap} {a : Addr} {o : HO} (u : Un fs ex H H' h h') (ha : h.objs.size ≤ a) (hn : H a = none) : Un fs ex H (upd H' a o) h h' where
  keep := u.keep
  slot := u.slot
  free := fun b ob q n hx => by rw [upd_ne (Nat.ne_of_lt (Nat.lt_of_lt_of_le (Heap.lt_size q) ha))]; exact u.free b ob q n hx
  there := u.there
  tups := fun b xs q => by rw [upd_ne (ne_of_none q hn)]; exact u.tups b xs q
  frzs := fun b ob v q => by rw [upd_ne (ne_of_none q hn)]; exact u.frzs b ob v q
  tbls := fun b ps q => by rw [upd_ne (ne_of_none q hn)]; exact u.tbls b ps q
end L2
namespace L2
open PySem PySem.Spec PyProof.Rows
theorem iteN {c A B : Prop} [Decidable c] (h : ¬ c) (b : B) : if c then A else B := by rw [if_neg h]; exact b
structure Callee (P : Program) (w : World) (K : PySem.W.Frag) (mg : Str → Option Value) (base : Heap) (k : Nat) (x : Str) (ps : List Str) (sp : Sp) : Prop where
  ex : ∃ (f : Addr) (fd : FuncData), FnOk P w K mg base CX0 k f fd ps sp ∧ Binds K fd ps [] ∧ PySem.W.keepIn K (.ref f) = true ∧ mg x = some (.ref f)
structure Def (K : PySem.W.Frag) (mg : Str → Option Value) (x : Str) (st : Stmt) (ps : List Str) : Prop where
  ex : ∃ (f : Addr) (fd : FuncData), Fun K x x st f fd ∧ Binds K fd ps [] ∧ mg x = some (.ref f)
section
variable {P : Program} {w : World} {K : PySem.W.Frag} {mg : Str → Option Value} {base : Heap}
theorem Def.ok {x : Str} {st : Stmt} {N ps : List Str} {k : Nat} {sp : Sp} (D : Def K mg x st ps) (S : FnScope N ps (defScope st)) (len : ∀ vs H Q E, sp vs H Q E → vs.length = ps.length)
    (hbody : ∀ (f : Addr) (cdv : Value) (A : Around) (outer : List Env) (s : Shared) (H : Hp) (vs : List V) (Q : VK) (E : XK), Room k (A.deeper (envOfC x (defScope st) s.heap.objs.size f cdv)) → sp vs H Q E →
      ∃ t, PSs (cxOf CX0 P w K mg base N x (defScope st) f cdv A outer s H E).nox (defBody st) t ∧ t { nx := fun _ H' => Q .non H', rt := Q } (start N vs) H) : Callee P w K mg base (k + 1) x ps sp := by
  obtain ⟨f, fd, F, b, m⟩ := D.ex
  exact ⟨f, fd, F.ok S len fun cdv A outer s H vs Q E hr h => hbody f cdv A outer s H vs Q E hr h, b, F.kp, m⟩
end
section
variable {X : Cx} {k n : Nat} {ps : List Str} {sp : Sp} {x : Str} {p pos : Pos} {e : Expr} {es : List Expr} {t : TA}
theorem pe_fn (C : Callee X.prog X.w X.K X.mg X.base k x ps sp) (hr : Room n X.A) (hg : Gl X x) (ha : PA X (e :: es) t) (hk : k ≤ n := by decide) (hdb : (x == ("__debug__" : Str)) = false := by decide)
    (he : starEach (e :: es) X.env = (false, eval e X.env) :: starEach es X.env := by rfl) (hpl : (backTo pos (starEach es X.env)).any (·.1) = false := by rfl) :
    PE X (.Call (.Name x p) (e :: es) [] pos) (tCall sp [] E0 t) := by
  obtain ⟨f, fd, F, b, kp, m⟩ := C.ex
  exact pe_call F (hr.mono hk) hg m kp b .nil pass0 ha hdb he hpl
theorem call_isinst : CallR X (.builtin "isinstance") (fun xs H Q => ∃ v T t b, xs = [v, .ty T] ∧ TyOf X.K H v t ∧ PySem.W.kitOne X.K t (.type T) = some b ∧ Q (.bl b) H) := by
  intro pins s σ H xs us Q I r h
  obtain ⟨v, T, t, b, rfl, ty, e, q⟩ := h
  obtain ⟨u, u', rfl, r1, r2⟩ := vals2 r
  cases r2
  exact isinst_ok I r1 ty e fun tk => ⟨.bl b, H, I.tok _, rfl, q⟩
def kitB (S T : String) : Option Bool := if (Value.type S == Value.type T) = true then some true else if PySem.W.kitMeta T = true then (fastBuiltinMro S).map (·.contains (.type T)) else none
theorem kit_of {K : PySem.W.Frag} {S T : String} {b : Bool} (h : kitB S T = some b) : PySem.W.kitOne K (.type S) (.type T) = some b := h
section
variable {K : PySem.W.Frag}
theorem kit_int_int : PySem.W.kitOne K (.type "int") (.type "int") = some true := kit_of (by decide +kernel)
theorem kit_int_bool : PySem.W.kitOne K (.type "int") (.type "bool") = some false := kit_of (by decide +kernel)
theorem kit_lst_lst : PySem.W.kitOne K (.type "list") (.type "list") = some true := kit_of (by decide +kernel)
end
theorem ints_at {ns : List Int} {us : List Value} (h : IntsAre us ns) : ∀ (i : Nat) (v : Value), us[i]? = some v → ∃ t, v = .int (ns.getD i 0) t := by
  induction h with
  | nil => intro i v e; simp at e
  | cons n t h ih =>
    intro i v e
    cases i with
    | zero => exact ⟨t, by simpa using e.symm⟩
    | succ i =>
      obtain ⟨t', e'⟩ := ih i v (by simpa using e)
      exact ⟨t', by simpa using e'⟩
theorem eqAt_ints {A : Around} {s : Shared} {us vs : List Value} {ns ms : List Int} (h : IntsAre us ns) (h' : IntsAre vs ms) : ∀ j (h1 : j < us.toArray.size) (h2 : j < vs.toArray.size), SeqAt.EqAt A s us.toArray[j] vs.toArray[j] (ns.getD j 0 == ms.getD j 0) := fun j h1 h2 => by
  obtain ⟨t, e⟩ := ints_at h j us.toArray[j] (by simp)
  obtain ⟨t', e'⟩ := ints_at h' j vs.toArray[j] (by simp)
  rw [e, e']
  exact SeqAt.EqAt.int_int _ _ _ _
end
end L2
namespace L2
open PySem PySem.Spec PyProof.Rows
def RowAt (b : Bool) (h : Heap) (l : Addr) (xs : Array Value) : Prop := match b with
  | true => h.IsTuple l xs
  | false => h.IsList l xs
def RowIt (b : Bool) (h : Heap) (i l : Addr) (k : Nat) : Prop := match b with
  | true => h.IsTupleIter i l k
  | false => h.IsListIter i l k
theorem RowAt.kept {b : Bool} {h h' : Heap} {l : Addr} {xs : Array Value} (x : RowAt b h l xs) (k : ∀ o, h.get? l = some o → h'.get? l = some o) : RowAt b h' l xs := by
  cases b with
  | true => obtain ⟨o, e, r⟩ := (show h.IsTuple l xs from x); exact ⟨o, k o e, r⟩
  | false => obtain ⟨o, e, r⟩ := (show h.IsList l xs from x); exact ⟨o, k o e, r⟩
theorem RowIt.kept {b : Bool} {h h' : Heap} {i l : Addr} {n : Nat} (x : RowIt b h i l n) (k : ∀ o, h.get? i = some o → h'.get? i = some o) : RowIt b h' i l n := by
  cases b with
  | true => obtain ⟨o, e, r⟩ := (show h.IsTupleIter i l n from x); exact ⟨o, k o e, r⟩
  | false => obtain ⟨o, e, r⟩ := (show h.IsListIter i l n from x); exact ⟨o, k o e, r⟩
theorem RowIt.there {b : Bool} {h : Heap} {i l : Addr} {n : Nat} (x : RowIt b h i l n) : ∃ o, h.get? i = some o ∧ ∀ v, o.data ≠ .cell v := by
  cases b with
  | true => obtain ⟨o, e, c, d⟩ := (show h.IsTupleIter i l n from x); exact ⟨o, e, fun v z => by rw [d] at z; cases z⟩
  | false => obtain ⟨o, e, c, d⟩ := (show h.IsListIter i l n from x); exact ⟨o, e, fun v z => by rw [d] at z; cases z⟩
section
variable {prog : Program} {w : World} {A : Around} {E : Value → Shared → Prop} {s : Shared}
theorem tupNext {it t : Addr} {i : Nat} {items : Array Value} {x : Value} {Q : Value → Shared → Prop} (hit : s.heap.IsTupleIter it t i) (ht : s.heap.IsTuple t items) (hx : items[i]? = some x)
    (hQ : ∀ h', h'.IsTupleIter it t (i + 1) → Heap.SameBut it s.heap h' → Q x { s with heap := h' }) : wpAny (model prog w) A (Builtin.SmallTypes.nextOf (.ref it)) Q E s := by
  obtain ⟨oi, gi, ci, di⟩ := id hit
  obtain ⟨ot, gt, _, nt, dt⟩ := ht
  unfold Builtin.SmallTypes.nextOf
  refine wpAny_bind (wpAny_callSpecial?_slot (name := Str.ofString "__next__") hit.typeIs F.slot_tuple_iterator_next (wpAny_call_entry F.slot_tuple_iterator_next hit.typeIs F.entry_tuple_iterator_next ?_ (F.args_tuple_iterator_next_1 _)))
  show wpAny _ _ (field (.ref it) 0 >>= _) _ _ s
  refine wpAny_bind (wpAny_field gi di (x := .ref t) rfl ?_)
  show wpAny _ _ (if (Value.ref t == Value.none) = true then _ else _) _ _ s
  rw [if_neg (show ¬ ((Value.ref t == Value.none) = true) from Bool.false_ne_true)]
  show wpAny _ _ (field (.ref it) 1 >>= _) _ _ s
  refine wpAny_bind (wpAny_field gi di (x := .int i 0) rfl ?_)
  show wpAny _ _ (seqItems? (.ref t) >>= _) _ _ s
  refine wpAny_bind (wpAny_seqItems gt dt ?_)
  simp only [Int.toNat_natCast, hx]
  refine wpAny_bind (wpAny_setField gi di (by simp) (wpAny_pure ⟨x, rfl, wpAny_pure (hQ _ ?_ (Heap.SameBut.update ..))⟩))
  exact ⟨_, Heap.get?_update_self _ gi (Obj.isFreed_of_fields (Obj.data_mapFields di _)), (Obj.cls_mapFields ..).trans ci, by rw [Obj.data_mapFields di]; simp [rawInt]⟩
theorem tupStop {it t : Addr} {i : Nat} {items : Array Value} {Q : Value → Shared → Prop} (hh : A.handled = none) (hit : s.heap.IsTupleIter it t i) (ht : s.heap.IsTuple t items) (hx : items[i]? = none)
    (hE : ∀ h' e, Heap.ExtBut it s.heap h' → (∃ o, h'.get? e = some o ∧ o.cls = .type "StopIteration") → E (.ref e) { s with heap := h' }) : wpAny (model prog w) A (Builtin.SmallTypes.nextOf (.ref it)) Q E s := by
  obtain ⟨oi, gi, ci, di⟩ := id hit
  obtain ⟨ot, gt, _, nt, dt⟩ := ht
  unfold Builtin.SmallTypes.nextOf
  refine wpAny_bind (wpAny_callSpecial?_slot (name := Str.ofString "__next__") hit.typeIs F.slot_tuple_iterator_next (wpAny_call_entry F.slot_tuple_iterator_next hit.typeIs F.entry_tuple_iterator_next ?_ (F.args_tuple_iterator_next_1 _)))
  show wpAny _ _ (field (.ref it) 0 >>= _) _ _ s
  refine wpAny_bind (wpAny_field gi di (x := .ref t) rfl ?_)
  show wpAny _ _ (if (Value.ref t == Value.none) = true then _ else _) _ _ s
  rw [if_neg (show ¬ ((Value.ref t == Value.none) = true) from Bool.false_ne_true)]
  show wpAny _ _ (field (.ref it) 1 >>= _) _ _ s
  refine wpAny_bind (wpAny_field gi di (x := .int i 0) rfl ?_)
  show wpAny _ _ (seqItems? (.ref t) >>= _) _ _ s
  refine wpAny_bind (wpAny_seqItems gt dt ?_)
  simp only [Int.toNat_natCast, hx]
  refine wpAny_bind (wpAny_rule (wpAny_bind (wpAny_setField gi di (by simp) ?_)))
  show wpAny _ _ (newExc (.type "StopIteration") [] >>= _) _ _ _
  refine wpAny_bind ?_
  simp only [newExc, newTuple]
  refine wpAny_bind (wpAny_newObj_type ?_ (by size_fits))
  refine wpAny_bind (m := firstArgMember _ _) (wpAny_of_eq (a := Value.none) (by first | rfl | (simp only [firstArgMember]; rfl)) ?_)
  refine wpAny_newObj_type ?_ (by size_fits)
  simp only [raiseNew]
  refine wpAny_bind (wpAny_handled ?_)
  first | rw [show A.in1.handled = none from hh] | rw [hh]
  refine wpAny_bind (wpAny_pure (wpAny_throw ?_))
  exact hE _ _ (((Heap.SameBut.update ..).extBut.push _).push _) ⟨_, Heap.get?_push_size _ rfl, rfl⟩
theorem rowNext {b : Bool} {it l : Addr} {i : Nat} {items : Array Value} {x : Value} {Q : Value → Shared → Prop} (hit : RowIt b s.heap it l i) (hl : RowAt b s.heap l items) (hx : items[i]? = some x)
    (hQ : ∀ h', RowIt b h' it l (i + 1) → Heap.SameBut it s.heap h' → Q x { s with heap := h' }) : wpAny (model prog w) A (Builtin.SmallTypes.nextOf (.ref it)) Q E s := by
  cases b with
  | true => exact tupNext hit hl hx hQ
  | false => exact wpAny_nextOf_list_item hit hl hx hQ
theorem rowStop {b : Bool} {it l : Addr} {i : Nat} {items : Array Value} {Q : Value → Shared → Prop} (hh : A.handled = none) (hit : RowIt b s.heap it l i) (hl : RowAt b s.heap l items) (hx : items[i]? = none)
    (hE : ∀ h' e, Heap.ExtBut it s.heap h' → (∃ o, h'.get? e = some o ∧ o.cls = .type "StopIteration") → E (.ref e) { s with heap := h' }) : wpAny (model prog w) A (Builtin.SmallTypes.nextOf (.ref it)) Q E s := by
  cases b with
  | true => exact tupStop hh hit hl hx hE
  | false => exact wpAny_nextOf_list_end hh hit hl hx hE
structure ZAp (z t o i j l m : Addr) : Prop where
  tz : t ≠ z
  oz : o ≠ z
  iz : i ≠ z
  jz : j ≠ z
  ot : o ≠ t
  it : i ≠ t
  jt : j ≠ t
  io : i ≠ o
  jo : j ≠ o
  ij : i ≠ j
  lz : l ≠ z
  lo : l ≠ o
  li : l ≠ i
  lj : l ≠ j
  mz : m ≠ z
  mo : m ≠ o
  mi : m ≠ i
  mj : m ≠ j
theorem zipNext {b : Bool} {z t o i j l m : Addr} {n : Nat} {xs ys : Array Value} {x y c d : Value} {Q : Option Value → Shared → Prop} (D : ZAp z t o i j l m) (hz : IsZip s.heap z t o .none) (ht : IsPair s.heap t (.ref i) (.ref j)) (ho : IsPair s.heap o c d)
    (hi : RowIt b s.heap i l n) (hj : RowIt b s.heap j m n) (hl : RowAt b s.heap l xs) (hm : RowAt b s.heap m ys) (hx : xs[n]? = some x) (hy : ys[n]? = some y)
    (hQ : ∀ h', IsZip h' z t o (rawInt s.heap.objs.size) → IsPair h' o x y → RowIt b h' i l (n + 1) → RowIt b h' j m (n + 1) → IsPair h' s.heap.objs.size x y → h'.objs.size = s.heap.objs.size + 1 →
      (∀ a u, a ≠ z → a ≠ o → a ≠ i → a ≠ j → s.heap.get? a = some u → h'.get? a = some u) → Q (some (.ref s.heap.objs.size)) { s with heap := h' }) : wpAny (model prog w) A (pyNext (.ref z)) Q E s := by
  have hT : s.TypeIs (.ref z) "zip" := ⟨_, hz, rfl⟩
  unfold pyNext
  refine wpAny_bind (wpAny_attempt (wpAny_callSpecial?_slot (name := Str.ofString "__next__") hT F.slot_zip_next (wpAny_call_entry F.slot_zip_next hT F.entry_zip_next ?_ (F.args_zip_next_1 _))))
  show wpAny _ _ (field (.ref z) 2 >>= _) _ _ _
  refine wpAny_bind (wpAny_field hz rfl (x := .bool false) rfl ?_)
  show wpAny _ _ (field (.ref z) 3 >>= _) _ _ _
  refine wpAny_bind (wpAny_field hz rfl (x := .ref t) rfl ?_)
  refine wpAny_bind (wpAny_seqItems ht rfl ?_)
  show wpAny _ _ (Builtin.SmallTypes.ownedTupleIsFree (.ref z) >>= _) _ _ _
  refine wpAny_bind ?_
  unfold Builtin.SmallTypes.ownedTupleIsFree
  refine wpAny_bind (wpAny_field hz rfl (x := .none) rfl (wpAny_pure ?_))
  simp only [if_true]
  refine wpAny_bind (wpAny_rule ?_)
  refine wpAny_bind (wpAny_field hz rfl (x := .ref o) rfl ?_)
  refine wpAny_bind (wpAny_setField_rec hz (by simp) fun h1 z1 s1 => ?_)
  replace z1 : IsZip h1 z t o .ellipsis := z1
  refine wpAny_bind ?_
  simp only [List.zipIdx_cons, List.zipIdx_nil, List.forIn_cons, List.forIn_nil]
  refine wpAny_bind (wpAny_bind (wpAny_onRaise ?_))
  show wpAny _ _ (Builtin.SmallTypes.nextOf (.ref i) >>= _) _ _ _
  refine wpAny_bind (rowNext (s := { s with heap := h1 }) (hi.kept fun u e => s1.extBut _ u D.iz e) (hl.kept fun u e => s1.extBut _ u D.lz e) hx fun h2 i2 s2 => wpAny_pure ?_)
  have o2 : IsPair h2 o c d := s2.extBut _ _ (Ne.symm D.io) (s1.extBut _ _ D.oz ho)
  refine wpAny_bind (wpAny_seqItems o2 rfl ?_)
  refine wpAny_bind (wpAny_updateSeq_pair o2 fun h3 o3 s3 => ?_)
  replace o3 : IsPair h3 o x d := o3
  refine wpAny_bind (wpAny_letGo (wpAny_pure ?_))
  refine wpAny_bind (wpAny_bind (wpAny_onRaise ?_))
  show wpAny _ _ (Builtin.SmallTypes.nextOf (.ref j) >>= _) _ _ _
  refine wpAny_bind (rowNext (s := { s with heap := h3 }) (hj.kept fun u e => s3.extBut _ u D.jo (s2.extBut _ u (Ne.symm D.ij) (s1.extBut _ u D.jz e))) (hm.kept fun u e => s3.extBut _ u D.mo (s2.extBut _ u D.mi (s1.extBut _ u D.mz e))) hy fun h4 j4 s4 => wpAny_pure ?_)
  have o4 : IsPair h4 o x d := s4.extBut _ _ (Ne.symm D.jo) o3
  refine wpAny_bind (wpAny_seqItems o4 rfl ?_)
  refine wpAny_bind (wpAny_updateSeq_pair o4 fun h5 o5 s5 => ?_)
  replace o5 : IsPair h5 o x y := o5
  refine wpAny_bind (wpAny_letGo (wpAny_pure (wpAny_pure ?_)))
  refine wpAny_bind (wpAny_seqItems o5 rfl ?_)
  refine wpAny_bind (wpAny_newTuple ?_)
  have hsz : h5.objs.size = s.heap.objs.size := by rw [s5.1, s4.1, s3.1, s2.1, s1.1]
  have z5 : IsZip h5 z t o .ellipsis := s5.extBut _ _ (Ne.symm D.oz) (s4.extBut _ _ (Ne.symm D.jz) (s3.extBut _ _ (Ne.symm D.oz) (s2.extBut _ _ (Ne.symm D.iz) z1)))
  have k5 : ∀ a u, a ≠ z → a ≠ o → a ≠ i → a ≠ j → s.heap.get? a = some u → h5.get? a = some u := fun a u a1 a2 a3 a4 e => s5.extBut _ _ a2 (s4.extBut _ _ a4 (s3.extBut _ _ a2 (s2.extBut _ _ a3 (s1.extBut _ _ a1 e))))
  have i5 : RowIt b h5 i l (n + 1) := i2.kept fun u e => s5.extBut _ u D.io (s4.extBut _ u D.ij (s3.extBut _ u D.io e))
  have j5 : RowIt b h5 j m (n + 1) := j4.kept fun u e => s5.extBut _ u D.jo e
  have hzlt : z < h5.objs.size := Heap.lt_size z5
  show wpAny _ _ (Builtin.SmallTypes.ownedTupleHandOut (.ref z) (.ref h5.objs.size) >>= _) _ _ _
  refine wpAny_bind ?_
  unfold Builtin.SmallTypes.ownedTupleHandOut
  have z6 : IsZip (h5.push { cls := .type "tuple", data := .seq #[x, y] }) z t o .ellipsis := Heap.get?_push_of_some _ z5
  refine wpAny_bind (wpAny_setField_rec z6 (by simp) fun h7 z7 s7 => ?_)
  replace z7 : IsZip h7 z t o (rawInt h5.objs.size) := z7
  refine wpAny_setField_rec z7 (by simp) fun h8 z8 s8 => ?_
  replace z8 : IsZip h8 z t o (rawInt h5.objs.size) := z8
  have up : ∀ a u, a ≠ z → h5.get? a = some u → h8.get? a = some u := fun a u a1 e => s8.extBut _ _ a1 (s7.extBut _ _ a1 (Heap.get?_push_of_some _ e))
  have t8 : IsPair h8 h5.objs.size x y := s8.extBut _ _ (Nat.ne_of_gt hzlt) (s7.extBut _ _ (Nat.ne_of_gt hzlt) (Heap.get?_push_size _ rfl))
  have n8 : h8.objs.size = h5.objs.size + 1 := by rw [s8.1, s7.1, Heap.size_push]
  rw [hsz] at z8 t8 n8
  refine wpAny_pure ⟨_, rfl, wpAny_pure ?_⟩
  show Q (some (.ref h5.objs.size)) _
  rw [hsz]
  exact hQ h8 z8 (up _ _ D.oz o5) (i5.kept fun u e => up _ u D.iz e) (j5.kept fun u e => up _ u D.jz e) t8 n8 fun a u a1 a2 a3 a4 e => up a u a1 (k5 a u a1 a2 a3 a4 e)
theorem zipStop {b : Bool} {z t o i j l m : Addr} {n : Nat} {xs ys : Array Value} {c d : Value} {Q : Option Value → Shared → Prop} (hh : A.handled = none) (D : ZAp z t o i j l m) (hz : IsZip s.heap z t o .none) (ht : IsPair s.heap t (.ref i) (.ref j)) (ho : IsPair s.heap o c d)
    (hi : RowIt b s.heap i l n) (hj : RowIt b s.heap j m n) (hl : RowAt b s.heap l xs) (hm : RowAt b s.heap m ys) (hend : xs[n]? = none ∨ ys[n]? = none)
    (hQ : ∀ h', (∀ a u, a ≠ z → a ≠ o → a ≠ i → a ≠ j → s.heap.get? a = some u → h'.get? a = some u) → Q none { s with heap := h' }) : wpAny (model prog w) A (pyNext (.ref z)) Q E s := by
  have hT : s.TypeIs (.ref z) "zip" := ⟨_, hz, rfl⟩
  unfold pyNext
  have fin : ∀ (h' : Heap) (e : Addr), (∀ a u, a ≠ z → a ≠ o → a ≠ i → a ≠ j → s.heap.get? a = some u → h'.get? a = some u) → (∃ u, h'.get? e = some u ∧ u.cls = .type "StopIteration") →
      wpAny (model prog w) A (do if ← isInstance (.ref e) (.type "StopIteration") then pure none else throw (.ref e)) Q E { s with heap := h' } := fun h' e kk ⟨u, hu, hc⟩ => by
    refine wpAny_bind (wpAny_isInstance (T := "StopIteration") (b := true) ⟨u, hu, hc⟩ isSubtype_stop ?_)
    exact wpAny_pure (hQ _ kk)
  refine wpAny_bind (wpAny_attempt (wpAny_callSpecial?_slot (name := Str.ofString "__next__") hT F.slot_zip_next (wpAny_call_entry F.slot_zip_next hT F.entry_zip_next ?_ (F.args_zip_next_1 _))))
  show wpAny _ _ (field (.ref z) 2 >>= _) _ _ _
  refine wpAny_bind (wpAny_field hz rfl (x := .bool false) rfl ?_)
  show wpAny _ _ (field (.ref z) 3 >>= _) _ _ _
  refine wpAny_bind (wpAny_field hz rfl (x := .ref t) rfl ?_)
  refine wpAny_bind (wpAny_seqItems ht rfl ?_)
  show wpAny _ _ (Builtin.SmallTypes.ownedTupleIsFree (.ref z) >>= _) _ _ _
  refine wpAny_bind ?_
  unfold Builtin.SmallTypes.ownedTupleIsFree
  refine wpAny_bind (wpAny_field hz rfl (x := .none) rfl (wpAny_pure ?_))
  simp only [if_true]
  refine wpAny_bind (wpAny_rule ?_)
  refine wpAny_bind (wpAny_field hz rfl (x := .ref o) rfl ?_)
  refine wpAny_bind (wpAny_setField_rec hz (by simp) fun h1 z1 s1 => ?_)
  replace z1 : IsZip h1 z t o .ellipsis := z1
  refine wpAny_bind ?_
  simp only [List.zipIdx_cons, List.zipIdx_nil, List.forIn_cons, List.forIn_nil]
  refine wpAny_bind (wpAny_bind (wpAny_onRaise ?_))
  show wpAny _ _ (Builtin.SmallTypes.nextOf (.ref i) >>= _) _ _ _
  cases hx : xs[n]? with
  | none =>
    refine wpAny_bind (rowStop (s := { s with heap := h1 }) hh (hi.kept fun u e => s1.extBut _ u D.iz e) (hl.kept fun u e => s1.extBut _ u D.lz e) hx fun h2 e s2 he => ?_)
    obtain ⟨oe, hoe, hce⟩ := he
    have z2 : IsZip h2 z t o .ellipsis := s2 _ _ (Ne.symm D.iz) z1
    have hez : e ≠ z := fun q => by subst q; rw [z2] at hoe; cases hoe; simp at hce
    refine wpAny_setField_rec z2 (by simp) fun h3 _ s3 => ?_
    exact fin h3 e (fun a u a1 _ a3 _ q => s3.extBut _ _ a1 (s2 _ _ a3 (s1.extBut _ _ a1 q))) ⟨oe, s3.extBut _ _ hez hoe, hce⟩
  | some x =>
    have hy : ys[n]? = none := by
      rcases hend with q | q
      · rw [hx] at q; cases q
      · exact q
    refine wpAny_bind (rowNext (s := { s with heap := h1 }) (hi.kept fun u e => s1.extBut _ u D.iz e) (hl.kept fun u e => s1.extBut _ u D.lz e) hx fun h2 i2 s2 => wpAny_pure ?_)
    have o2 : IsPair h2 o c d := s2.extBut _ _ (Ne.symm D.io) (s1.extBut _ _ D.oz ho)
    refine wpAny_bind (wpAny_seqItems o2 rfl ?_)
    refine wpAny_bind (wpAny_updateSeq_pair o2 fun h3 o3 s3 => ?_)
    refine wpAny_bind (wpAny_letGo (wpAny_pure ?_))
    refine wpAny_bind (wpAny_bind (wpAny_onRaise ?_))
    show wpAny _ _ (Builtin.SmallTypes.nextOf (.ref j) >>= _) _ _ _
    refine wpAny_bind (rowStop (s := { s with heap := h3 }) hh (hj.kept fun u e => s3.extBut _ u D.jo (s2.extBut _ u (Ne.symm D.ij) (s1.extBut _ u D.jz e))) (hm.kept fun u e => s3.extBut _ u D.mo (s2.extBut _ u D.mi (s1.extBut _ u D.mz e))) hy fun h4 e s4 he => ?_)
    obtain ⟨oe, hoe, hce⟩ := he
    have z4 : IsZip h4 z t o .ellipsis := s4 _ _ (Ne.symm D.jz) (s3.extBut _ _ (Ne.symm D.oz) (s2.extBut _ _ (Ne.symm D.iz) z1))
    have hez : e ≠ z := fun q => by subst q; rw [z4] at hoe; cases hoe; simp at hce
    refine wpAny_setField_rec z4 (by simp) fun h5 _ s5 => ?_
    exact fin h5 e (fun a u a1 a2 a3 a4 q => s5.extBut _ _ a1 (s4 _ _ a4 (s3.extBut _ _ a2 (s2.extBut _ _ a3 (s1.extBut _ _ a1 q))))) ⟨oe, s5.extBut _ _ hez hoe, hce⟩
end
section
variable {prog : Program} {w : World} {A : Around} {E : Value → Shared → Prop} {s : Shared}
abbrev rowIter (b : Bool) (l : Addr) : Obj := { cls := .type (if b then "tuple_iterator" else "list_iterator"), data := .fields #[.ref l, .int 0 0] }
theorem rowIt_iter {b : Bool} {l : Addr} {items : Array Value} {Q : Value → Shared → Prop} (hl : RowAt b s.heap l items) (hQ : Q (.ref s.heap.objs.size) { s with heap := s.heap.push (rowIter b l) }) : wpAny (model prog w) A (pyIter (.ref l)) Q E s := by
  cases b with
  | true => exact wpAny_pyIter_tuple hl hQ
  | false => exact wpAny_pyIter_list hl hQ
abbrev zH1 (b : Bool) (h : Heap) (l : Addr) : Heap := h.push (rowIter b l)
abbrev zH2 (b : Bool) (h : Heap) (l m : Addr) : Heap := (zH1 b h l).push (rowIter b m)
abbrev zH3 (b : Bool) (h : Heap) (l m : Addr) : Heap := (zH2 b h l m).push { cls := .type "tuple", data := .seq #[.ref h.objs.size, .ref (zH1 b h l).objs.size] }
abbrev zH4 (b : Bool) (h : Heap) (l m : Addr) : Heap := (zH3 b h l m).push { cls := .type "tuple", data := .seq #[.none, .none] }
abbrev zH5 (b : Bool) (h : Heap) (l m : Addr) : Heap := (zH4 b h l m).push { cls := .type "zip", data := .fields #[.none, .bool false, .bool false, .ref (zH2 b h l m).objs.size, .ref (zH3 b h l m).objs.size] }
theorem zip_made (b : Bool) (l m : Addr) (xs ys : Array Value) : Meets (Builtin.«zip.__new__» ⟨[.type "zip", .ref l, .ref m], []⟩) (fun _ R s => RowAt b s.heap l xs ∧ RowAt b s.heap m ys ∧ R (.ok (.ret (.ref (zH4 b s.heap l m).objs.size))) { s with heap := zH5 b s.heap l m }) :=
  .of_wp fun prog w A R s h => by
    obtain ⟨hp, g, d, tk, os⟩ := s; obtain ⟨hl, hm, h⟩ := h
    have hsub := sub_zip
    have hL : RowAt b (Shared.heap ⟨hp, g, d, tk, os⟩) l xs := hl
    have hM : RowAt b (Shared.heap ⟨hp.push (rowIter b l), g, d, tk, os⟩) m ys := hm.kept fun o e => Heap.get?_push_of_some _ e
    wp_walk using rowIt_iter hL, rowIt_iter hM
    exact ⟨_, rfl, h⟩
theorem call_zip_rows {b : Bool} {l m : Addr} {xs ys : Array Value} {Q : Value → Shared → Prop} (hl : RowAt b s.heap l xs) (hm : RowAt b s.heap m ys)
    (h : ∀ h', IsZip h' (s.heap.objs.size + 4) (s.heap.objs.size + 2) (s.heap.objs.size + 3) .none → IsPair h' (s.heap.objs.size + 2) (.ref s.heap.objs.size) (.ref (s.heap.objs.size + 1)) → IsPair h' (s.heap.objs.size + 3) .none .none →
      RowIt b h' s.heap.objs.size l 0 → RowIt b h' (s.heap.objs.size + 1) m 0 → (∀ c o, s.heap.get? c = some o → h'.get? c = some o) → Q (.ref (s.heap.objs.size + 4)) { s with heap := h' }) :
    wpAny (model prog w) A (call (.type "zip") [.ref l, .ref m]) Q E s := by
  refine callType_new F.called_zip (by decide) (F.typeCall_zip_2 _ _) (F.newCall_zip_2 _ _) (fun obj => F.args_object_init_3 obj _ _) F.entry_zip_new (zip_made b l m xs ys) ⟨hl, hm, ?_⟩
  have z1 : (zH1 b s.heap l).objs.size = s.heap.objs.size + 1 := Heap.size_push ..
  have z2 : (zH2 b s.heap l m).objs.size = s.heap.objs.size + 2 := by rw [Heap.size_push, z1]
  have z3 : (zH3 b s.heap l m).objs.size = s.heap.objs.size + 3 := by rw [Heap.size_push, z2]
  have z4 : (zH4 b s.heap l m).objs.size = s.heap.objs.size + 4 := by rw [Heap.size_push, z3]
  have g5 : (zH5 b s.heap l m).get? (zH4 b s.heap l m).objs.size = some _ := Heap.get?_push_size _ rfl
  have g4 : (zH5 b s.heap l m).get? (zH3 b s.heap l m).objs.size = some _ := Heap.get?_push_of_some _ (Heap.get?_push_size _ rfl)
  have g3 : (zH5 b s.heap l m).get? (zH2 b s.heap l m).objs.size = some _ := Heap.get?_push_of_some _ (Heap.get?_push_of_some _ (Heap.get?_push_size _ rfl))
  have g2 : (zH5 b s.heap l m).get? (zH1 b s.heap l).objs.size = some (rowIter b m) := Heap.get?_push_of_some _ (Heap.get?_push_of_some _ (Heap.get?_push_of_some _ (Heap.get?_push_size _ rfl)))
  have g1 : (zH5 b s.heap l m).get? s.heap.objs.size = some (rowIter b l) := Heap.get?_push_of_some _ (Heap.get?_push_of_some _ (Heap.get?_push_of_some _ (Heap.get?_push_of_some _ (Heap.get?_push_size _ rfl))))
  show _ ∧ _
  rw [z2, z3, z4] at g5
  rw [z1, z2] at g3
  rw [z3] at g4
  rw [z1] at g2
  rw [z4]
  have r1 : RowIt b (zH5 b s.heap l m) s.heap.objs.size l 0 := by cases b <;> exact ⟨_, g1, rfl, rfl⟩
  have r2 : RowIt b (zH5 b s.heap l m) (s.heap.objs.size + 1) m 0 := by cases b <;> exact ⟨_, g2, rfl, rfl⟩
  exact ⟨⟨_, g5, rfl⟩, h _ g5 g3 g4 r1 r2 fun c o x => Heap.get?_push_of_some _ (Heap.get?_push_of_some _ (Heap.get?_push_of_some _ (Heap.get?_push_of_some _ (Heap.get?_push_of_some _ x))))⟩
end
def Sq (b : Bool) (K : PySem.W.Frag) (H : Hp) (a : Addr) (xs : List V) : Prop := match b with
  | true => SqT K H a xs
  | false => SqL K H a xs
section
variable {X : Cx} {pins : List (Addr × Obj)} {σ : St} {H : Hp} {s : Shared} {b : Bool} {a : Addr} {xs ys : List V}
theorem Inv.row (I : Inv X pins σ H s) (h : Sq b X.K H a xs) : ∃ its : List Value, Vals xs its ∧ RowAt b s.heap a its.toArray ∧ xs.length ≤ sizeLine := by
  cases b with
  | true =>
    obtain ⟨its, r, p, z⟩ := I.tuple h
    exact ⟨its, r, p, z⟩
  | false =>
    obtain ⟨its, r, p, z⟩ := I.list h
    exact ⟨its, r, p.isList, z⟩
theorem Inv.row_inj (I : Inv X pins σ H s) (h : Sq b X.K H a xs) (h' : Sq b X.K H a ys) : xs = ys := by
  cases b with
  | true => exact I.tuple_inj h h'
  | false => exact I.list_inj h h'
end
theorem Sq.there {b : Bool} {h : Heap} {l : Addr} {xs : Array Value} (x : RowAt b h l xs) : l < h.objs.size := by
  cases b with
  | true => obtain ⟨o, e, _⟩ := (show h.IsTuple l xs from x); exact Heap.lt_size e
  | false => obtain ⟨o, e, _⟩ := (show h.IsList l xs from x); exact Heap.lt_size e
def Itz (b : Bool) (K : PySem.W.Frag) (l m : Addr) : It :=
  ⟨fun i H => ∃ xs ys x y, Sq b K H l xs ∧ Sq b K H m ys ∧ xs[i]? = some x ∧ ys[i]? = some y,
   fun i H v H' => ∃ p x y, H p = none ∧ v = .ref p ∧ H' = upd H p (.tup [x, y]) ∧ (∀ xs, Sq b K H l xs → xs[i]? = some x) ∧ ∀ ys, Sq b K H m ys → ys[i]? = some y,
   fun i H => ∃ xs ys, Sq b K H l xs ∧ Sq b K H m ys ∧ (xs.length ≤ i ∨ ys.length ≤ i)⟩
theorem turn_zip {P : Program} {w : World} {K : PySem.W.Frag} {es : List Expr} {kk : Nat} {pos : Pos} {b : Bool} {z t o i j l m : Addr} (D : ZAp z t o i j l m) :
    Turn P w K (.Tuple es kk pos) (Itz b K l m) [z, t, o, i, j] z (fun n h => IsZip h z t o .none ∧ IsPair h t (.ref i) (.ref j) ∧ (∃ c d, IsPair h o c d) ∧ RowIt b h i l n ∧ RowIt b h j m n) where
  mem := by simp
  obj := fun n h ⟨hz, ht, ⟨c, d, ho⟩, hi, hj⟩ a ha => by
    simp only [List.mem_cons, List.not_mem_nil, or_false] at ha
    rcases ha with rfl | rfl | rfl | rfl | rfl
    · exact ⟨_, hz, fun v q => nomatch q⟩
    · exact ⟨_, ht, fun v q => nomatch q⟩
    · exact ⟨_, ho, fun v q => nomatch q⟩
    · exact hi.there
    · exact hj.there
  keep := fun n h h' ⟨hz, ht, ⟨c, d, ho⟩, hi, hj⟩ k => ⟨k z (by simp) _ hz, k t (by simp) _ ht, ⟨c, d, k o (by simp) _ ho⟩, hi.kept fun u e => k i (by simp) u e, hj.kept fun u e => k j (by simp) u e⟩
  item := by
    intro X hP hw hK hc n pins s σ H E I hf ⟨hz, ht, ⟨c, d, ho⟩, hi, hj⟩ hg
    subst hP hw hK
    obtain ⟨xs, ys, x, y, hl, hm, hx, hy⟩ := hg
    obtain ⟨us, ru, hl', hzl⟩ := I.row hl
    obtain ⟨vs, rv, hm', hzm⟩ := I.row hm
    obtain ⟨u, hu, r1⟩ := ru.get hx
    obtain ⟨v, hv, r2⟩ := rv.get hy
    refine zipNext D hz ht ho hi hj hl' hm' (x := u) (y := v) (by simpa using hu) (by simpa using hv) fun h' z' o' i' j' t' n' kp => ⟨_, rfl, ?_⟩
    refine wpAny_letOwnedTupleGo_zip (s := { s with heap := h' }) z' fun h'' z'' sb => ?_
    have fresh : H s.heap.objs.size = none := I.hok.fresh (Nat.le_refl _)
    have kp2 : ∀ a q, a ≠ z → a ≠ o → a ≠ i → a ≠ j → s.heap.get? a = some q → h''.get? a = some q := fun a q a1 a2 a3 a4 e => sb.extBut _ _ a1 (kp a q a1 a2 a3 a4 e)
    have hT : s.heap.objs.size ≠ z := Nat.ne_of_gt (Heap.lt_size hz)
    have pT : IsPair h'' s.heap.objs.size u v := sb.extBut _ _ hT t'
    have notin : ∀ a, a ∉ [z, o, i, j] → a ≠ z ∧ a ≠ o ∧ a ≠ i ∧ a ≠ j := fun a ha => by simpa using ha
    have fpn : ∀ a ∈ [z, o, i, j], H a = none := fun a ha => by
      simp only [List.mem_cons, List.not_mem_nil, or_false] at ha
      rcases ha with rfl | rfl | rfl | rfl
      · exact (hf _ (by simp)).1
      · exact (hf _ (by simp)).1
      · exact (hf _ (by simp)).1
      · exact (hf _ (by simp)).1
    have trk : ∀ a q, H a = some q → a ∉ [z, o, i, j] := fun a q e ha => by rw [fpn a ha] at e; cases e
    have hok : HOk X.prog X.w (upd H s.heap.objs.size (.tup [x, y])) h'' := fun a q e => by
      by_cases ha : a = s.heap.objs.size
      · subst ha
        rw [upd_same] at e
        cases e
        exact ⟨by show 2 ≤ sizeLine; decide, [u, v], .cons r1 (.cons r2 .nil), ⟨_, pT, rfl, _, rfl⟩⟩
      · rw [upd_ne ha] at e
        refine (I.hok a q e).stay (fun a' q' h1 h2 => ?_) (fun a' q' => by rw [upd_ne (ne_of_none q' fresh)]; exact q') fun a' xs' q' => by rw [upd_ne (ne_of_none q' fresh)]; exact q'
        have ni : a' ∉ [z, o, i, j] := by
          rcases h1 with rfl | h1
          · exact trk _ _ e
          · exact trk _ _ h1
        obtain ⟨n1, n2, n3, n4⟩ := notin a' ni
        exact kp2 a' q' n1 n2 n3 n4 h2
    have J : Inv X pins σ (upd H s.heap.objs.size (.tup [x, y])) { s with heap := h'' } := by
      refine I.step (g' := s.gens) (d' := s.drawn) (t' := s.toks) (ch := [z, o, i, j]) (fun a ha => ?_) (fun a q _ _ hc' e _ => ?_) (fun a q _ _ hc' e _ => ?_) (fun a q _ e n2 => ?_) (fun a q hc' e => ?_) (fun a xs' e => ?_) (fun a q u' e => ?_) (fun a ps e => ?_) (fun m' hm'' => ?_) hok I.bare
      · have ha' : a ∈ [z, t, o, i, j] := by
          simp only [List.mem_cons, List.not_mem_nil, or_false] at ha ⊢
          rcases ha with q | q | q | q
          · exact .inl q
          · exact .inr (.inr (.inl q))
          · exact .inr (.inr (.inr (.inl q)))
          · exact .inr (.inr (.inr (.inr q)))
        obtain ⟨_, f1, _, f3, f4, f5⟩ := hf a ha'
        exact ⟨f3, f1, f4, f5⟩
      · obtain ⟨n1, n2, n3, n4⟩ := notin a hc'
        exact kp2 a q n1 n2 n3 n4 e
      · obtain ⟨n1, n2, n3, n4⟩ := notin a hc'
        exact ⟨q.slots, kp2 a q n1 n2 n3 n4 e⟩
      · rw [upd_ne (Nat.ne_of_lt (Heap.lt_size e))]
        exact n2
      · obtain ⟨n1, n2, n3, n4⟩ := notin a hc'
        exact ⟨q, kp2 a q n1 n2 n3 n4 e⟩
      · rw [upd_ne (ne_of_none e fresh)]
        exact e
      · rw [upd_ne (ne_of_none e fresh)]
        exact e
      · exact ⟨#[], by rw [upd_ne (ne_of_none e fresh), e]; simp⟩
      · obtain ⟨ob, es', ep, e1, r⟩ := hm''
        have f1 : ∀ a' ∈ [z, t, o, i, j], a' ≠ X.env.locals := fun a' ha' => (hf a' ha').2.1
        exact ⟨ob, es', ep, kp2 _ _ (Ne.symm (f1 z (by simp))) (Ne.symm (f1 o (by simp))) (Ne.symm (f1 i (by simp))) (Ne.symm (f1 j (by simp))) e1, r⟩
    refine ⟨.ref s.heap.objs.size, _, J, rfl, ⟨s.heap.objs.size, x, y, fresh, rfl, rfl, fun xs' q => ?_, fun ys' q => ?_⟩, ⟨z'', ?_, ⟨_, _, sb.extBut _ _ D.oz o'⟩, i'.kept fun q e => sb.extBut _ q D.iz e, j'.kept fun q e => sb.extBut _ q D.jz e⟩, fun a ha => ?_⟩
    · rw [I.row_inj q hl]; exact hx
    · rw [I.row_inj q hm]; exact hy
    · exact kp2 t _ D.tz (Ne.symm D.ot) (Ne.symm D.it) (Ne.symm D.jt) ht
    · have : a ≠ s.heap.objs.size := by
        simp only [List.mem_cons, List.not_mem_nil, or_false] at ha
        rcases ha with rfl | rfl | rfl | rfl | rfl
        · exact Ne.symm hT
        · exact Nat.ne_of_lt (Heap.lt_size ht)
        · exact Nat.ne_of_lt (Heap.lt_size ho)
        · obtain ⟨q, e, _⟩ := hi.there; exact Nat.ne_of_lt (Heap.lt_size e)
        · obtain ⟨q, e, _⟩ := hj.there; exact Nat.ne_of_lt (Heap.lt_size e)
      rw [upd_ne this]
      exact (hf a ha).1
  done := by
    intro X hP hw hK hc n pins s σ H E I hf ⟨hz, ht, ⟨c, d, ho⟩, hi, hj⟩ hg
    subst hP hw hK
    obtain ⟨xs, ys, hl, hm, hend⟩ := hg
    obtain ⟨us, ru, hl', hzl⟩ := I.row hl
    obtain ⟨vs, rv, hm', hzm⟩ := I.row hm
    have e1 := ru.length
    have e2 := rv.length
    have hend' : us.toArray[n]? = none ∨ vs.toArray[n]? = none := by
      rcases hend with q | q
      · exact .inl (by simp; omega)
      · exact .inr (by simp; omega)
    refine zipStop (I.ok.hd hc) D hz ht ho hi hj hl' hm' hend' fun h' kp => ⟨rfl, ?_⟩
    have notin : ∀ a, a ∉ [z, o, i, j] → a ≠ z ∧ a ≠ o ∧ a ≠ i ∧ a ≠ j := fun a ha => by simpa using ha
    have fpn : ∀ a ∈ [z, o, i, j], FpOk X pins H a := fun a ha => hf a (by
      simp only [List.mem_cons, List.not_mem_nil, or_false] at ha ⊢
      rcases ha with q | q | q | q
      · exact .inl q
      · exact .inr (.inr (.inl q))
      · exact .inr (.inr (.inr (.inl q)))
      · exact .inr (.inr (.inr (.inr q))))
    have trk : ∀ a q, H a = some q → a ∉ [z, o, i, j] := fun a q e ha => by rw [(fpn a ha).1] at e; cases e
    have kp2 : ∀ a q, a ∉ [z, o, i, j] → s.heap.get? a = some q → h'.get? a = some q := fun a q ha e => by
      obtain ⟨n1, n2, n3, n4⟩ := notin a ha
      exact kp a q n1 n2 n3 n4 e
    refine I.step (g' := s.gens) (d' := s.drawn) (t' := s.toks) (ch := [z, o, i, j]) (fun a ha => ?_) (fun a q _ _ hc' e _ => kp2 a q hc' e) (fun a q _ _ hc' e _ => ⟨q.slots, kp2 a q hc' e⟩) (fun a q _ e n2 => n2) (fun a q hc' e => ⟨q, kp2 a q hc' e⟩) (fun a xs' e => e) (fun a q u' e => e) (fun a ps e => ⟨#[], by rw [e]; simp⟩) (fun m' hm'' => ?_) (fun a q e => ?_) I.bare
    · obtain ⟨_, f1, _, f3, f4, f5⟩ := fpn a ha
      exact ⟨f3, f1, f4, f5⟩
    · obtain ⟨ob, es', ep, e1, r⟩ := hm''
      exact ⟨ob, es', ep, kp2 _ _ (fun ha => (fpn _ ha).2.1 rfl) e1, r⟩
    · refine (I.hok a q e).stay (fun a' q' h1 h2 => kp2 a' q' ?_ h2) (fun _ q' => q') fun _ _ q' => q'
      rcases h1 with rfl | h1
      · exact trk _ _ e
      · exact trk _ _ h1
  self := fun _ _ _ _ _ st h => wpAny_pyIter_zip st.1 h
section
variable {X : Cx}
def iZip (b : Bool) (K : PySem.W.Frag) (ta : TA) : TI := fun σ H R => ta σ H fun vs H1 => ∃ l m xs ys, vs = [.ref l, .ref m] ∧ Sq b K H1 l xs ∧ Sq b K H1 m ys ∧ R (Itz b K l m) H1
theorem pi_zip {b : Bool} {es : List Expr} {kk : Nat} {tpos : Pos} {e1 e2 : Expr} {ta : TA} {p pos : Pos} (hg : Gl X "zip") (hm : X.mg "zip" = none) (ha : PA X [e1, e2] ta) (hs : starEach [e1, e2] X.env = [(false, eval e1 X.env), (false, eval e2 X.env)] := by rfl) (hs2 : starEach [e2] X.env = [(false, eval e2 X.env)] := by rfl) :
    PI X (.Tuple es kk tpos) (.Call (.Name "zip" p) [e1, e2] [] pos) (iZip b X.K ta) := by
  intro pins s σ H R I h
  refine Call_ (ld_blt I hg hm boot_zip (PyProof.Rows.callWith_type1 (thn (ha pos pins s σ H _ I h) fun us s1 ⟨vs, H1, I1, r1, q1⟩ => ?_) (by rw [hs, hs2]) (by rw [hs2]; rfl)))
  obtain ⟨l, m, xs, ys, e, hl, hm, q⟩ := q1
  subst e
  obtain ⟨u, u', rfl, ru, ru'⟩ := vals2 r1
  cases ru
  cases ru'
  obtain ⟨its, rv, hl', _⟩ := I1.row hl
  obtain ⟨its2, rv2, hm', _⟩ := I1.row hm
  refine call_zip_rows hl' hm' fun h' hz ht ho hi hj kp => wpAny_pyIter_zip hz ?_
  have ll := Sq.there hl'
  have lm := Sq.there hm'
  have N : ∀ n, l ≠ s1.heap.objs.size + n := fun n => Nat.ne_of_lt (Nat.lt_of_lt_of_le ll (Nat.le_add_right _ n))
  have M : ∀ n, m ≠ s1.heap.objs.size + n := fun n => Nat.ne_of_lt (Nat.lt_of_lt_of_le lm (Nat.le_add_right _ n))
  have L : ∀ n k, n < k → s1.heap.objs.size + n ≠ s1.heap.objs.size + k := fun n k q => Nat.ne_of_lt (Nat.add_lt_add_left q _)
  have G : ∀ n k, k < n → s1.heap.objs.size + n ≠ s1.heap.objs.size + k := fun n k q => Nat.ne_of_gt (Nat.add_lt_add_left q _)
  have D : ZAp (s1.heap.objs.size + 4) (s1.heap.objs.size + 2) (s1.heap.objs.size + 3) s1.heap.objs.size (s1.heap.objs.size + 1) l m :=
    ⟨L 2 4 (by decide), L 3 4 (by decide), L 0 4 (by decide), L 1 4 (by decide), G 3 2 (by decide), L 0 2 (by decide), L 1 2 (by decide), L 0 3 (by decide), L 1 3 (by decide), L 0 1 (by decide), N 4, N 3, N 0, N 1, M 4, M 3, M 0, M 1⟩
  have fr : ∀ n, FpOk X pins H1 (s1.heap.objs.size + n) := fun n => I1.fpOk (Nat.le_add_right _ n) (I1.hok.fresh (Nat.le_add_right _ n))
  refine ⟨s1.heap.objs.size + 4, [s1.heap.objs.size + 4, s1.heap.objs.size + 2, s1.heap.objs.size + 3, s1.heap.objs.size, s1.heap.objs.size + 1], _, _, H1, rfl, I1.kept (t' := s1.toks) kp, turn_zip (b := b) D, ⟨hz, ht, ⟨_, _, ho⟩, hi, hj⟩, fun a ha => ?_, q⟩
  simp only [List.mem_cons, List.not_mem_nil, or_false] at ha
  rcases ha with rfl | rfl | rfl | rfl | rfl
  · exact fr 4
  · exact fr 2
  · exact fr 3
  · exact fr 0
  · exact fr 1
end
end L2
namespace L2
open PySem PySem.Spec PyProof.Rows
section
variable {X : Cx}
variable {δ : Type} [DecidableEq δ] {n : Nat} {R : Hp → V → δ → Prop}
theorem paired_at {α β : Type} {Rl : α → β → Prop} : ∀ {xs : List α} {ds : List β}, Paired Rl xs ds → ∀ (i : Nat) (x : α), xs[i]? = some x → ∃ d, ds[i]? = some d ∧ Rl x d
  | _, _, .nil, i, x, h => by simp at h
  | _, _, .cons r t, 0, x, h => by simp at h; subst h; exact ⟨_, rfl, r⟩
  | _, _, .cons r t, i + 1, x, h => by
    obtain ⟨d, e, q⟩ := paired_at t i x (by simpa using h)
    exact ⟨d, by simpa using e, q⟩
end
end L2
namespace L2
open PySem PySem.Spec PyProof.Rows
section
variable {X : Cx} {x y z w : Str} {i j k l n : Nat} {px py pz pw pt : Pos}
structure Nm (X : Cx) (i : Nat) (x : Str) : Prop where
  at_ : X.N[i]? = some x
  loc : Loc X.env.scope x
  fn : X.fn x = true ∨ X.env.scope.names.lookup x = some .local
theorem Nm.pg (h : Nm X i x) (nd : X.N.Nodup) : PG X (.Name x px) (gName i) := pg_name nd h.at_ h.loc h.fn
theorem pg2 (hc : X.calm = true) (nd : X.N.Nodup) (a : Nm X i x) (b : Nm X j y) : PG X (.Tuple [.Name x px, .Name y py] n pt) (gTup X.K 2 (gCons (gName i) (gCons (gName j) gNil))) :=
  pg_tup (X := X) (n := 2) hc (pgs_cons (X := X) (a.pg nd) (pgs_cons (X := X) (b.pg nd) pgs_nil))
end
end L2
namespace L2
open PySem PySem.Spec PyProof.Rows
section
variable {es : List Expr} {env : Env} {c : Const} {i : Nat} {p : Pos}
theorem st_const : starEach (.Constant c i p :: es) env = (false, eval (.Constant c i p) env) :: starEach es env := by rw [starEach]; intro a b h; cases h
theorem st_name {x : Str} : starEach (.Name x p :: es) env = (false, eval (.Name x p) env) :: starEach es env := by rw [starEach]; intro a b h; cases h
theorem st_call {f : Expr} {as : List Expr} {ks : List Keyword} : starEach (.Call f as ks p :: es) env = (false, eval (.Call f as ks p) env) :: starEach es env := by rw [starEach]; intro a b h; cases h
theorem st_bin {a b : Expr} {o : Operator} : starEach (.BinOp a o b p :: es) env = (false, eval (.BinOp a o b p) env) :: starEach es env := by rw [starEach]; intro a b h; cases h
theorem st_sub {a b : Expr} : starEach (.Subscript a b p :: es) env = (false, eval (.Subscript a b p) env) :: starEach es env := by rw [starEach]; intro a b h; cases h
theorem st_tup {a : List Expr} : starEach (.Tuple a i p :: es) env = (false, eval (.Tuple a i p) env) :: starEach es env := by rw [starEach]; intro a b h; cases h
theorem st_list {a : List Expr} : starEach (.List a p :: es) env = (false, eval (.List a p) env) :: starEach es env := by rw [starEach]; intro a b h; cases h
theorem st_dict {a : List (Option Expr)} {b : List Expr} : starEach (.Dict a b p :: es) env = (false, eval (.Dict a b p) env) :: starEach es env := by rw [starEach]; intro a b h; cases h
theorem st_attr {a : Expr} {x : Str} : starEach (.Attribute a x p :: es) env = (false, eval (.Attribute a x p) env) :: starEach es env := by rw [starEach]; intro a b h; cases h
end
section
variable {X : Cx}
theorem ix_listK (K : PySem.W.Frag) (h : X.K = K := by rfl) : IxR X (rIxL K) := h ▸ ix_list
theorem ix_tupK (K : PySem.W.Frag) (h : X.K = K := by rfl) : IxR X (rIxT K) := h ▸ ix_tup
def rLenSeq (K : PySem.W.Frag) : List V → Hp → VK → Prop := fun xs H Q => ∃ p ys, xs = [.ref p] ∧ (SqL K H p ys ∨ SqT K H p ys) ∧ Q (.int ys.length) H
theorem call_lenK (K : PySem.W.Frag) (h : X.K = K := by rfl) : CallR X (.builtin "len") (rLenSeq K) := h ▸ call_len_seq
def rListOf (K : PySem.W.Frag) : List V → Hp → VK → Prop := fun xs H Q => ∃ p ys, xs = [.ref p] ∧ (SqL K H p ys ∨ SqT K H p ys) ∧ ∀ l, H l = none → Q (.ref l) (upd H l (.lst ys))
theorem call_listK (K : PySem.W.Frag) (h : X.K = K := by rfl) : CallR X (.type "list") (rListOf K) := h ▸ call_list_of
def rIsinst (K : PySem.W.Frag) : List V → Hp → VK → Prop := fun xs H Q => ∃ v T t b, xs = [v, .ty T] ∧ TyOf K H v t ∧ PySem.W.kitOne K t (.type T) = some b ∧ Q (.bl b) H
theorem call_isinstK (K : PySem.W.Frag) (h : X.K = K := by rfl) : CallR X (.builtin "isinstance") (rIsinst K) := h ▸ call_isinst
def tTru (K : PySem.W.Frag) (ta : TE) : TT := fun σ H Q => ta σ H fun x H' => ∃ k, TruV K x H' k ∧ Q k H'
theorem pt_truK (K : PySem.W.Frag) {a : Expr} {ta : TE} (ha : PE X a ta) (he : ∀ whole, isTrue a X.env whole = (do let v ← whole; standAt a.pos; holding [v] (truthy v))) (h : X.K = K := by rfl) : PT X a (tTru K ta) := h ▸ pt_truth ha he
theorem pi_listK (K : PySem.W.Frag) {tg l : Expr} {tl : TE} (hl : PE X l tl) (h : X.K = K := by rfl) : PI X tg l (iList K tl) := h ▸ pi_list hl
theorem pi_tupK (K : PySem.W.Frag) {tg l : Expr} {tl : TE} (hl : PE X l tl) (h : X.K = K := by rfl) : PI X tg l (iTup K tl) := h ▸ pi_tup hl
theorem pi_zipK (b : Bool) (K : PySem.W.Frag) {es : List Expr} {kk : Nat} {tpos : Pos} {e1 e2 : Expr} {ta : TA} {p pos : Pos} (hg : Gl X "zip") (hm : X.mg "zip" = none) (ha : PA X [e1, e2] ta) (h : X.K = K := by rfl) (hs : starEach [e1, e2] X.env = [(false, eval e1 X.env), (false, eval e2 X.env)] := by rfl) (hs2 : starEach [e2] X.env = [(false, eval e2 X.env)] := by rfl) :
    PI X (.Tuple es kk tpos) (.Call (.Name "zip" p) [e1, e2] [] pos) (iZip b K ta) := h ▸ pi_zip hg hm ha hs hs2
variable {x y z w : Str} {i j k l n : Nat} {px py pz pw pt : Pos}
theorem pg2K (K : PySem.W.Frag) (hc : X.calm = true) (nd : X.N.Nodup) (a : Nm X i x) (b : Nm X j y) (h : X.K = K := by rfl) : PG X (.Tuple [.Name x px, .Name y py] n pt) (gTup K 2 (gCons (gName i) (gCons (gName j) gNil))) := h ▸ pg2 hc nd a b
end
section
variable {X : Cx} {o e : Expr} {es : List Expr} {to : TE} {t : TA} {name : Str} {apos cpos : Pos} {T id : String} {r : V → List V → Hp → VK → Prop}
theorem pe_bmK (K : PySem.W.Frag) (pa : PlainAttrs T) (slot : Slot T name id) (hty : typeOf (.builtin id) = pure (.type "method_descriptor")) (hm : MtR X id r) (ho : PE X o to) (ha : PA X (e :: es) t) (h : X.K = K := by rfl)
    (hbase : attributeBase o name X.env (eval o X.env) = eval o X.env := by rfl)
    (hfew : ((backTo cpos (starEach (e :: es) X.env)).all (fun x => !x.1) && (backToKw cpos (keywordEach [] X.env)).all (fun x => x.1.isSome)
      && decide ((e :: es).length + ([] : List Keyword).length + (if ([] : List Keyword).isEmpty then 0 else 1) < 30)) = true := by rfl)
    (hline : (apos.endLine == cpos.line) = true := by rfl) (hs : starEach (e :: es) X.env = (false, eval e X.env) :: starEach es X.env := by rfl) (hplain : (backTo cpos (starEach es X.env)).any (·.1) = false := by rfl) :
    PE X (.Call (.Attribute o name apos) (e :: es) [] cpos) (tBM K T r to t) := h ▸ pe_bm pa slot hty hm ho ha hbase hfew hline hs hplain
end
end L2
namespace L2
open PySem PySem.Spec PyProof.Rows
theorem mt_appendR {X : Cx} : MtR X "list.append" rAppend := mt_append
end L2
namespace L2
open PySem PySem.Spec PyProof.Rows
section
variable {X : Cx}
def rNeSame (K : PySem.W.Frag) : R2 := fun x y H Q => ∃ (a b : Addr) (xs : List V), x = .ref a ∧ y = .ref b ∧ SqL K H a (xs) ∧ SqL K H b xs ∧ (∀ x ∈ xs, ∃ c, x = .ref c) ∧ Q (.bl false) H
theorem op_neSameK (K : PySem.W.Frag) (hu : X.A.units < cLine) (h : X.K = K := by rfl) : OpR X (compareOp .NotEq) (rNeSame K) := by
  subst h
  intro pins s σ H x y v u Q I rx ry h
  obtain ⟨a, b, xs, rfl, rfl, ha, hb, hr, q⟩ := h
  cases rx
  cases ry
  obtain ⟨us, r1, p1, _⟩ := I.list ha
  obtain ⟨vs, r2, p2, _⟩ := I.list hb
  have e : us = vs := by
    have go : ∀ (xs : List V) (us vs : List Value), (∀ x ∈ xs, ∃ c, x = V.ref c) → Vals xs us → Vals xs vs → us = vs := by
      intro xs
      induction xs with
      | nil => intro us vs _ r r'; cases r; cases r'; rfl
      | cons x t ih =>
        intro us vs hx r r'
        obtain ⟨c, rfl⟩ := hx x (List.mem_cons_self ..)
        cases r with
        | cons q1 q2 =>
          cases r' with
          | cons q3 q4 => rw [show _ = Value.ref c from q1, show _ = Value.ref c from q3, ih _ _ (fun y hy => hx y (List.mem_cons_of_mem _ hy)) q2 q4]
    exact go xs us vs hr r1 r2
  subst e
  refine SeqAt.RcNeAt.lists (e := fun j => true) p1.isList p2.isList rfl (by omega) (fun j h1 h2 => SeqAt.EqAt.same _) X.prog X.w X.xe _ ?_
  have : ((List.range us.toArray.size).all fun _ => true) = true := by simp
  rw [this]
  exact ⟨.bl false, H, I, rfl, q⟩
theorem ipR_add : PIp X .Add (rI0 fun i j => .int (i + j)) := iop_add
end
end L2
namespace L2
open PySem PySem.Spec PyProof.Rows
theorem seq_cut {A u : TS} {D : Ends} {σ : St} {H : Hp} (S : St → Hp → Prop) (h1 : ∀ R : St → Hp → Prop, (∀ σ' H', S σ' H' → R σ' H') → A { D with nx := R } σ H) (h2 : ∀ σ' H', S σ' H' → u D σ' H') : tSeq A u D σ H := h1 (u D) h2
end L2
namespace L2
open PySem PySem.Spec PyProof.Rows PyProof PySem.W
theorem Inv.freeze {X : Cx} {pins : List (Addr × Obj)} {σ : St} {H : Hp} {s : Shared} {d : Addr} {ob : Obj} {kvs : List (Key × V)} (I : Inv X pins σ H s) (e : H d = some (.dK kvs)) (ho : s.heap.get? d = some ob) : Inv X pins σ (upd H d (.frz ob (.dK kvs))) s := by
  have ne : ∀ {b : Addr}, H b = none → b ≠ d := fun {b} h z => by rw [z, e] at h; cases h
  have free : ∀ {b : Addr}, H b = none → upd H d (.frz ob (.dK kvs)) b = none := fun {b} h => by rw [upd_ne (ne h)]; exact h
  refine ⟨I.ok, I.os, I.bare, ⟨I.base.keep, I.base.slot, fun b o q n hx => free (I.base.free b o q n hx), I.base.there, fun b xs q => ?_, fun b o u q => ?_, fun b ps q => ?_⟩, I.loc, I.cell, free I.free, fun x c q => free (I.freeC x c q), fun p hp => ?_, fun a o q => ?_, I.len⟩
  · have h := I.base.tups b xs q
    rw [upd_ne (fun z => by rw [z, e] at h; cases h)]
    exact h
  · have h := I.base.frzs b o u q
    rw [upd_ne (fun z => by rw [z, e] at h; cases h)]
    exact h
  · obtain ⟨more, h⟩ := I.base.tbls b ps q
    refine ⟨more, ?_⟩
    rw [upd_ne (fun z => by rw [z, e] at h; cases h)]
    exact h
  · obtain ⟨h1, h2, h3, h4, h5⟩ := I.pin p hp
    exact ⟨h1, free h2, h3, h4, h5⟩
  · by_cases z : a = d
    · subst z
      rw [upd_same] at q
      cases q
      exact ⟨ho, show ObjOk X.prog X.w H s.heap a (.dK kvs) from I.hok a _ e⟩
    · rw [upd_ne z] at q
      refine (I.hok a o q).stay (fun b u _ h => h) (fun b h => ?_) fun b xs h => ?_
      · rw [upd_ne (fun z => by rw [z, e] at h; cases h)]
        exact h
      · rw [upd_ne (fun z => by rw [z, e] at h; cases h)]
        exact h
section
variable {X : Cx} {e : Expr} {te : TE}
def tFrz (te : TE) : TE := fun σ H Q => te σ H fun x H1 => ∃ d kvs, x = .ref d ∧ H1 d = some (.dK kvs) ∧ ∀ ob, Q x (upd H1 d (.frz ob (.dK kvs)))
theorem pe_frz (he : PE X e te) : PE X e (tFrz te) := by
  intro pins s σ H Q I h
  refine thn (he pins s σ H _ I h) fun v s1 ⟨x, H1, I1, r1, q1⟩ => ?_
  obtain ⟨d, kvs, rfl, ed, q⟩ := q1
  obtain ⟨_, _, vs, _, o, es, ep, ho, _⟩ := (show ObjOk X.prog X.w H1 s1.heap d (.dK kvs) from I1.hok d _ ed)
  exact ⟨.ref d, _, I1.freeze ed ho, r1, q o⟩
end
def Itd (d : Addr) (ob : Obj) (kvs : List (Key × V)) : It := ⟨fun i H => H d = some (.frz ob (.dK kvs)) ∧ i < kvs.length, fun i H x H' => H' = H ∧ ∃ k y, kvs[i]? = some (k, y) ∧ x = kV k, fun i H => H d = some (.frz ob (.dK kvs)) ∧ kvs.length ≤ i⟩
theorem kV_of {k : Key} {v : Value} (h : keyIs k v = true) : RelV (kV k) v := by
  rcases keyIs_shape h with ⟨i, t, rfl, rfl⟩ | ⟨x, t, rfl, rfl⟩
  · exact ⟨t, rfl⟩
  · exact ⟨t, rfl⟩
theorem KV.get {kvs : List (Key × V)} {vs : List (Key × Value)} (h : KV kvs vs) : ∀ {i : Nat} {k : Key} {v : Value}, vs[i]? = some (k, v) → ∃ y, kvs[i]? = some (k, y) := by
  induction h with
  | nil => intro i k v e; simp at e
  | cons r t ih =>
    intro i k v e
    cases i with
    | zero =>
      simp at e
      subst e
      exact ⟨_, by simp; exact Prod.ext r.1 rfl⟩
    | succ i => exact ih (by simpa using e)
theorem frz_at {X : Cx} {pins : List (Addr × Obj)} {σ : St} {H : Hp} {s : Shared} {d : Addr} {ob : Obj} {kvs : List (Key × V)} (I : Inv X pins σ H s) (e : H d = some (.frz ob (.dK kvs))) :
    s.heap.get? d = some ob ∧ kvs.length ≤ sizeLine ∧ (d == sysModules) = false ∧ ∃ vs es ep, KV kvs vs ∧ ob.data = .dict es ep ∧ s.heap.DictAt (mixKind X.prog X.w) d vs ep := by
  obtain ⟨h1, h2, h3, vs, r, o, es, ep, ho, he, hd, rest⟩ := (show ObjOk X.prog X.w H s.heap d (.frz ob (.dK kvs)) from I.hok d _ e)
  rw [h1] at ho
  cases ho
  exact ⟨h1, h2, h3, vs, es, ep, r, hd, ob, es, h1, he, hd, rest⟩
theorem turn_dict {P : Program} {w : World} {K : PySem.W.Frag} {tg : Expr} (it d : Addr) (ob : Obj) (kvs : List (Key × V)) {es : Array DictEntry} {ep : Nat} (hob : ob.data = .dict es ep) : Turn P w K tg (Itd d ob kvs) [it] it (fun i h => h.IsKeyIter it d i kvs.length ep) where
  mem := by simp
  obj := fun i h st b hb => by
    have e : b = it := by simpa using hb
    subst e
    obtain ⟨o, e, c, d⟩ := st
    exact ⟨o, e, fun v z => by rw [d] at z; cases z⟩
  keep := fun i h h' st k => st.at fun o e => k it (by simp) o e
  item := by
    intro X hP hw hK hc i pins s σ H E I hf st hg
    subst hP hw hK
    obtain ⟨ed, hi⟩ := hg
    obtain ⟨_, _, _, vs, es', ep', r, hob', dd⟩ := frz_at I ed
    rw [hob] at hob'
    cases hob'
    have hl : kvs.length = vs.length := Paired.length r
    rw [hl] at st
    obtain ⟨⟨k, v⟩, hx⟩ : ∃ p, vs[i]? = some p := ⟨vs[i]'(by omega), List.getElem?_eq_getElem (by omega)⟩
    obtain ⟨y, hy⟩ := r.get hx
    obtain ⟨f0, f1, f2, f3, f4, f5⟩ := hf it (by simp)
    refine wpAny_pyNext_dict_item st dd hx fun key h' hkey st' sb => ?_
    have I1 : Inv X pins σ H { s with heap := h' } := I.turned (t' := s.toks) (fun b o hb e => (sb.2 b hb).trans e) f0 f1 f3 f4 f5
    obtain ⟨o, e, c, dt⟩ := id st'
    exact ⟨key, rfl, go_of (s := { s with heap := h' }) e c dt (by decide) ⟨kV k, H, I1, kV_of hkey, ⟨rfl, k, y, hy, rfl⟩, hl ▸ st', fun b hb => (hf b hb).1⟩⟩
  done := by
    intro X hP hw hK hc i pins s σ H E I hf st hg
    subst hP hw hK
    obtain ⟨ed, hi⟩ := hg
    obtain ⟨_, _, _, vs, es', ep', r, hob', dd⟩ := frz_at I ed
    rw [hob] at hob'
    cases hob'
    have hl : kvs.length = vs.length := Paired.length r
    rw [hl] at st
    obtain ⟨f0, f1, f2, f3, f4, f5⟩ := hf it (by simp)
    exact wpAny_pyNext_dict_end (I.ok.hd hc) st dd (List.getElem?_eq_none (by omega)) fun h' eb => ⟨rfl, I.turned (t' := s.toks) (fun b o hb e => eb b o hb e) f0 f1 f3 f4 f5⟩
  self := fun _ _ _ _ _ st h => wpAny_pyIter_keyiter st h
section
variable {X : Cx} {tg : Expr}
def iDic (tl : TE) : TI := fun σ H R => tl σ H fun x H1 => ∃ d ob kvs, x = .ref d ∧ H1 d = some (.frz ob (.dK kvs)) ∧ R (Itd d ob kvs) H1
theorem pi_dic {l : Expr} {tl : TE} (hl : PE X l tl) : PI X tg l (iDic tl) := by
  intro pins s σ H R I h
  refine thn (hl pins s σ H _ I h) fun v s1 ⟨x, H1, I1, r1, q1⟩ => ?_
  obtain ⟨d, ob, kvs, rfl, ed, q⟩ := q1
  cases r1
  obtain ⟨_, _, hs, vs, es, ep, r, hob, dd⟩ := frz_at I1 ed
  refine wpAny_pyIter_dict hs dd ?_
  have hll : kvs.length = vs.length := Paired.length r
  refine ⟨s1.heap.objs.size, [s1.heap.objs.size], _, _, H1, rfl, I1.kept (t' := s1.toks) fun b o e => Heap.get?_push_of_some _ e, turn_dict _ d ob kvs hob, ⟨_, Heap.get?_push_size _ rfl, rfl, by rw [hll]; rfl⟩, fun b hb => ?_, q⟩
  have e : b = s1.heap.objs.size := by simpa using hb
  subst e
  exact I1.fpOk (Nat.le_refl _) (I1.hok.fresh (Nat.le_refl _))
theorem for_dic {d : Addr} {ob : Obj} {kvs : List (Key × V)} {g : TG} {tb : TS} {D : Ends} {σ : St} {H : Hp} (Pv : Nat → St → Hp → Prop) (h0 : Pv 0 σ H) (hl : ∀ i σ H, i ≤ kvs.length → Pv i σ H → H d = some (.frz ob (.dK kvs)))
    (hs : ∀ i k y σ H, kvs[i]? = some (k, y) → Pv i σ H → g (kV k) σ H fun σ2 H2 => tb { D with nx := Pv (i + 1), ct := Pv (i + 1), bk := D.nx } σ2 H2) (hd : ∀ σ H, Pv kvs.length σ H → D.nx σ H) :
    ∃ W : Nat → Nat → St → Hp → Prop, (∃ m, W 0 m σ H) ∧ ∀ i m σ H, W i m σ H →
      ((Itd d ob kvs).stop i H ∧ D.nx σ H) ∨ ((Itd d ob kvs).go i H ∧ ∃ N : St → Hp → Prop, (∀ σ' H', N σ' H' → ∃ m', m' < m ∧ W (i + 1) m' σ' H') ∧ ∀ x H', (Itd d ob kvs).yld i H x H' → g x σ H' fun σ2 H2 => tb { D with nx := N, ct := N, bk := D.nx } σ2 H2) := by
  refine ⟨fun i m σ H => m = kvs.length - i ∧ i ≤ kvs.length ∧ Pv i σ H, ⟨kvs.length, by simp, Nat.zero_le _, h0⟩, ?_⟩
  rintro i m σ H ⟨rfl, hi, p⟩
  have hq := hl i σ H hi p
  by_cases hlt : i < kvs.length
  · refine .inr ⟨⟨hq, hlt⟩, Pv (i + 1), fun σ' H' p' => ⟨kvs.length - (i + 1), by omega, rfl, hlt, p'⟩, fun x H' y => ?_⟩
    obtain ⟨e, k, v, hk, rfl⟩ := y
    subst e
    exact hs i k v σ _ hk p
  · have e : i = kvs.length := by omega
    subst e
    exact .inl ⟨⟨hq, Nat.le_refl _⟩, hd σ H p⟩
end
section
variable {prog : Program} {w : World} {A : Around} {E : Value → Shared → Prop} {s : Shared} {d : Addr}
theorem collect_dict {K : Type} [DecidableEq K] {knd : KeyKind prog w K} {kvs : List (K × Value)} {ep : Nat} {Q : List Value → Shared → Prop} (hh : A.handled = none) (lo : (d == sysModules) = false) (hm : s.heap.DictAt knd d kvs ep) (hn : kvs.length ≤ sizeLine)
    (hQ : ∀ (h' : Heap) (tk : Nat) (xs : List Value), xs.length = kvs.length → (∀ (j : Nat) v, xs[j]? = some v → ∃ k x, kvs[j]? = some (k, x) ∧ knd.is k v = true) → s.heap.objs.size < h'.objs.size → (∀ b ob, s.heap.get? b = some ob → h'.get? b = some ob) → Q xs { s with heap := h', toks := tk }) :
    wpAny (model prog w) A (collect (.ref d)) Q E s := by
  have hdl := hm.lt_size
  unfold collect
  refine wpAny_bind (wpAny_runValue (codeAny_builtin PySem.F.entry_proto_collect ?_))
  rw [Around.under_plainId PySem.F.plain_proto_collect _]
  show wpAny _ A.in1 (newList [] >>= fun l => again (.builtin "list.__iadd__" ⟨[l, .ref d], []⟩)) _ _ s
  refine wpAny_bind (wpAny_newObj_type ?_)
  refine wpAny_pure ⟨plainId_quiet PySem.F.plain_list_iadd _, codeAny_builtin PySem.F.entry_list_iadd ?_⟩
  rw [Around.under_plainId PySem.F.plain_list_iadd _]
  have hS : (s.heap.push { cls := .type "list", data := .seq ([] : List Value).toArray }).get? s.heap.objs.size = some { cls := .type "list", data := .seq #[] } := Heap.get?_push_size _ rfl
  show wpAny _ A.in1 (Builtin.List.listExtendWith (.ref s.heap.objs.size) (.ref d) (.ref s.heap.objs.size)) _ _ _
  refine kdl_extend (R := fun r s' => match r with | .ok (.ret v) => wpAny (model prog w) A (match v with | .ref a => (do match (← load a).data with | .seq xs _ => pure xs.toList | _ => unsupported "internal:collect") | _ => unsupported "internal:collect") Q E s' | .ok _ => False | .error e => E e s')
    (kdl_dict (knd := knd) (kvs := kvs) (ep := ep) lo) hh (hm.push _) _ (Nat.ne_of_gt hdl) (Nat.ne_of_gt hdl) _ 0 hS (fun h' tk acc c keep hS' items => ?_) hn
  show wpAny _ A (load s.heap.objs.size >>= _) _ _ _
  refine wpAny_bind (wpAny_load hS' (wpAny_pure (hQ h' tk acc.toList (by rw [Array.length_toList]; exact items.1) (fun j v e => items.2 j v (by rw [← Array.getElem?_toList]; exact e)) (Heap.lt_size hS') fun b ob e => ?_)))
  exact keep b ob (Nat.ne_of_lt (Heap.lt_size e)) (Heap.get?_push_of_some _ e)
theorem sorted_dict {kvs : List (Key × Value)} {ns : List Int} {ep : Nat} {Q : Value → Shared → Prop} (hh : A.handled = none) (lo : (d == sysModules) = false) (hm : s.heap.DictAt (mixKind prog w) d kvs ep) (hk : kvs.map (·.1) = ns.map Sum.inl) (h64 : ns.length < 64)
    (h : ∀ (l : Addr) (h' : Heap) (tk e : Nat) (out : Array Value) (ns' : List Int), IntsAre out.toList ns' → ns'.Perm ns → ns'.Pairwise (· ≤ ·) → s.heap.objs.size ≤ l → (∀ b ob, s.heap.get? b = some ob → h'.get? b = some ob) →
      h'.get? l = some (seqObj "list" out e) → Q (.ref l) { s with heap := h', toks := tk }) : wpAny (model prog w) A (call (.builtin "sorted") [.ref d]) Q E s := by
  have hl : kvs.length = ns.length := by
    have := congrArg List.length hk
    rwa [List.length_map, List.length_map] at this
  refine Calls.call_function_entry kind_sorted plain_sorted entry_sorted (args_sorted1 _) ?_
  unfold Builtin.«sorted»
  refine wpAny_bind (m := checkCount "sorted" 1 1 _) (wpAny_pure ?_)
  refine wpAny_bind (collect_dict hh lo hm (by rw [hl]; exact Nat.le_trans (Nat.le_of_lt h64) (by decide)) fun h1 tk xs hxl hx big old => ?_)
  have im : IntsAre xs ns := by
    have go : ∀ (xs : List Value) (ns : List Int), xs.length = ns.length → (∀ (j : Nat) v, xs[j]? = some v → ∃ i t, ns[j]? = some i ∧ v = Value.int i t) → IntsAre xs ns := by
      intro xs
      induction xs with
      | nil =>
        intro ns h _
        cases ns with
        | nil => exact .nil
        | cons => cases h
      | cons x xs ih =>
        intro ns h q
        cases ns with
        | nil => cases h
        | cons n ns =>
          obtain ⟨i, t, e1, e2⟩ := q 0 x rfl
          simp at e1
          subst e1 e2
          exact .cons _ _ (ih ns (by simpa using h) fun j v e => q (j + 1) v (by simpa using e))
    refine go xs ns (hxl.trans hl) fun j v e => ?_
    obtain ⟨k, x, e1, e2⟩ := hx j v e
    have e3 : (kvs.map (·.1))[j]? = some k := by rw [List.getElem?_map, e1]; rfl
    rw [hk, List.getElem?_map] at e3
    obtain ⟨i, e4, e5⟩ := Option.map_eq_some_iff.mp e3
    subst e5
    rcases keyIs_shape (show keyIs (Sum.inl i) v = true from e2) with ⟨i', t, e6, rfl⟩ | ⟨_, _, e6, _⟩
    · injection e6 with e6
      subst e6
      exact ⟨i, t, e4, rfl⟩
    · cases e6
  refine wpAny_bind (wpAny_newList ?_ (by rw [hxl, hl]; exact Nat.le_trans (Nat.le_of_lt h64) (by decide)))
  have hoL : (h1.push (seqObj "list" xs.toArray 0)).get? h1.objs.size = some (seqObj "list" xs.toArray 0) := Heap.get?_push_size _ rfl
  show wpAny _ _ _ _ _ { s with heap := h1.push (seqObj "list" xs.toArray 0), toks := tk }
  refine wpAny_bind (wpAny_holding (wpAny_call_entry slot_list_sort ⟨_, hoL, rfl⟩ entry_list_sort (list_sort_tree hoL im (by omega) fun out ns' a1 a2 a3 => ⟨_, rfl, ?_⟩) (args_list_sort _)))
  obtain ⟨e, he⟩ := sortedHeap_at (out := out) hoL
  refine wpAny_pure ⟨_, rfl, h h1.objs.size _ tk e out ns' a1 a2 a3 ?_ (fun b ob q => ?_) he⟩
  · exact Nat.le_of_lt big
  · have q1 := old b ob q
    have hlt := Heap.lt_size q1
    rw [sortedHeap_old (Nat.ne_of_lt hlt) (by rw [Heap.size_push]; exact Nat.lt_succ_of_lt hlt)]
    exact Heap.get?_push_of_some _ q1
end
section
variable {X : Cx}
def rSortedDic : List V → Hp → VK → Prop := fun xs H Q => ∃ (p : Addr) (kvs : List (Key × V)) (ns : List Int), xs = [.ref p] ∧ Rd H p (.dK kvs) ∧ kvs.map (·.1) = ns.map Sum.inl ∧ ns.length < 64 ∧ ∀ ns' : List Int, ns'.Perm ns → ns'.Pairwise (· ≤ ·) → ∀ l, H l = none → Q (.ref l) (upd H l (.lst (ns'.map V.int)))
theorem call_sortedDic (hc : X.calm = true) : CallR X (.builtin "sorted") rSortedDic := by
  intro pins s σ H xs us Q I r h
  obtain ⟨p, kvs, ns, rfl, rd, hk, h64, q⟩ := h
  obtain ⟨u, rfl, rx⟩ := vals1 r
  cases rx
  obtain ⟨_, hs, vs, rel, dd⟩ := dk_rd I.hok rd
  obtain ⟨ep, dd⟩ := dd.dictAt
  have hk' : vs.map (·.1) = ns.map Sum.inl := (KV.keys rel).symm.trans hk
  refine sorted_dict (I.ok.hd hc) hs dd hk' h64 fun l h' tk e out ns' a1 a2 a3 hlz kp g => ?_
  have fr := I.hok.fresh hlz
  have new : ObjOk X.prog X.w (upd H l (.lst (ns'.map V.int))) h' l (.lst (ns'.map V.int)) := ⟨by rw [List.length_map, a2.length_eq]; exact Nat.le_of_lt (small1000 (by omega)), out.toList, e, vals_ints a1, by simpa [seqObj] using g⟩
  exact ⟨.ref l, _, I.call' (s' := { s with heap := h', toks := tk }) (ch := []) rfl (Un.track (Un.kept kp) hlz fr) (HOk.track (I.hok.kept kp) fr new) I.bare (fun b z => nomatch z), rfl, q ns' a2 a3 l fr⟩
end
end L2
namespace L2
open PySem PySem.Spec PyProof.Rows
def Ite (K : PySem.W.Frag) (l : Addr) : It :=
  ⟨fun i H => ∃ xs x, SqL K H l xs ∧ xs[i]? = some x,
   fun i H v H' => ∃ p x, H p = none ∧ v = .ref p ∧ H' = upd H p (.tup [.int (i : Nat), x]) ∧ ∀ xs, SqL K H l xs → xs[i]? = some x,
   fun i H => ∃ xs, SqL K H l xs ∧ xs.length ≤ i⟩
theorem turn_enum {P : Program} {w : World} {K : PySem.W.Frag} {es : List Expr} {kk : Nat} {pos : Pos} {e it l : Addr} (hei : e ≠ it) (hle : l ≠ e) (hli : l ≠ it) :
    Turn P w K (.Tuple es kk pos) (Ite K l) [e, it] e (fun n h => (∃ old, IsEnum h e it (n : Int) old) ∧ h.IsListIter it l n) where
  mem := by simp
  obj := fun n h ⟨⟨old, he⟩, hi⟩ a ha => by
    simp only [List.mem_cons, List.not_mem_nil, or_false] at ha
    rcases ha with rfl | rfl
    · exact ⟨_, he, fun v q => nomatch q⟩
    · obtain ⟨o, e1, _, d⟩ := hi
      exact ⟨o, e1, fun v z => by rw [d] at z; cases z⟩
  keep := fun n h h' ⟨⟨old, he⟩, hi⟩ k => ⟨⟨old, k e (by simp) _ he⟩, hi.at fun o x => k it (by simp) o x⟩
  item := by
    intro X hP hw hK hc n pins s σ H E I hf ⟨⟨old, he⟩, hi⟩ hg
    subst hP hw hK
    obtain ⟨xs, x, hl, hx⟩ := hg
    obtain ⟨us, ru, hl', hzl⟩ := I.list hl
    obtain ⟨u, hu, r1⟩ := ru.get hx
    refine wpAny_pyNext_enum_item he hi hl'.isList (x := u) (by simpa using hu) hei fun h' ho hit hT hsz kp => ⟨_, rfl, ?_⟩
    refine wpAny_letOwnedTupleGo_enum (s := { s with heap := h', toks := s.toks + 1 }) ho fun h'' he'' sb => ?_
    replace sb : Heap.SameBut e h' h'' := sb
    have fresh : H s.heap.objs.size = none := I.hok.fresh (Nat.le_refl _)
    have kp2 : ∀ a q, a ≠ e → a ≠ it → s.heap.get? a = some q → h''.get? a = some q := fun a q a1 a2 z => sb.extBut _ _ a1 (kp a q a1 a2 z)
    have hTe : s.heap.objs.size ≠ e := Nat.ne_of_gt (Heap.lt_size he)
    have pT : h''.get? s.heap.objs.size = some { cls := .type "tuple", data := .seq #[.int n s.toks, u] } := sb.extBut _ _ hTe hT
    have notin : ∀ a, a ∉ [e, it] → a ≠ e ∧ a ≠ it := fun a ha => by simpa using ha
    have trk : ∀ a q, H a = some q → a ∉ [e, it] := fun a q z ha => by rw [(hf a ha).1] at z; cases z
    have hok : HOk X.prog X.w (upd H s.heap.objs.size (.tup [.int (n : Nat), x])) h'' := fun a q z => by
      by_cases ha : a = s.heap.objs.size
      · subst ha
        rw [upd_same] at z
        cases z
        exact ⟨by show 2 ≤ sizeLine; decide, [.int n s.toks, u], .cons ⟨_, rfl⟩ (.cons r1 .nil), ⟨_, pT, rfl, _, rfl⟩⟩
      · rw [upd_ne ha] at z
        refine (I.hok a q z).stay (fun a' q' h1 h2 => ?_) (fun a' q' => by rw [upd_ne (ne_of_none q' fresh)]; exact q') fun a' xs' q' => by rw [upd_ne (ne_of_none q' fresh)]; exact q'
        have ni : a' ∉ [e, it] := by
          rcases h1 with rfl | h1
          · exact trk _ _ z
          · exact trk _ _ h1
        obtain ⟨n1, n2⟩ := notin a' ni
        exact kp2 a' q' n1 n2 h2
    have J : Inv X pins σ (upd H s.heap.objs.size (.tup [.int (n : Nat), x])) { s with heap := h'', toks := s.toks + 1 } := by
      refine I.step (g' := s.gens) (d' := s.drawn) (t' := s.toks + 1) (ch := [e, it]) (fun a ha => ?_) (fun a q _ _ hc' z _ => ?_) (fun a q _ _ hc' z _ => ?_) (fun a q _ z n2 => ?_) (fun a q hc' z => ?_) (fun a xs' z => ?_) (fun a q u' z => ?_) (fun a ps z => ?_) (fun m' hm'' => ?_) hok I.bare
      · obtain ⟨_, f1, _, f3, f4, f5⟩ := hf a ha
        exact ⟨f3, f1, f4, f5⟩
      · obtain ⟨n1, n2⟩ := notin a hc'
        exact kp2 a q n1 n2 z
      · obtain ⟨n1, n2⟩ := notin a hc'
        exact ⟨q.slots, kp2 a q n1 n2 z⟩
      · rw [upd_ne (Nat.ne_of_lt (Heap.lt_size z))]
        exact n2
      · obtain ⟨n1, n2⟩ := notin a hc'
        exact ⟨q, kp2 a q n1 n2 z⟩
      · rw [upd_ne (ne_of_none z fresh)]
        exact z
      · rw [upd_ne (ne_of_none z fresh)]
        exact z
      · exact ⟨#[], by rw [upd_ne (ne_of_none z fresh), z]; simp⟩
      · obtain ⟨ob, es', ep, e1, r⟩ := hm''
        have f1 : ∀ a' ∈ [e, it], a' ≠ X.env.locals := fun a' ha' => (hf a' ha').2.1
        exact ⟨ob, es', ep, kp2 _ _ (Ne.symm (f1 e (by simp))) (Ne.symm (f1 it (by simp))) e1, r⟩
    have hi2 : h''.IsListIter it l (n + 1) := hit.at fun o z => sb.extBut _ _ (Ne.symm hei) z
    refine ⟨.ref s.heap.objs.size, _, J, rfl, ⟨s.heap.objs.size, x, fresh, rfl, rfl, fun xs' q => ?_⟩, ⟨⟨_, by have := he''; rw [show ((n : Nat) : Int) + 1 = ((n + 1 : Nat) : Int) by omega] at this; exact this⟩, hi2⟩, fun a ha => ?_⟩
    · have e2 := I.row_inj (b := false) (show Sq false X.K H l xs' from q) (show Sq false X.K H l xs from hl)
      rw [e2]
      exact hx
    · have : a ≠ s.heap.objs.size := by
        simp only [List.mem_cons, List.not_mem_nil, or_false] at ha
        rcases ha with rfl | rfl
        · exact Ne.symm hTe
        · obtain ⟨q, z, _⟩ := hi; exact Nat.ne_of_lt (Heap.lt_size z)
      rw [upd_ne this]
      exact (hf a ha).1
  done := by
    intro X hP hw hK hc n pins s σ H E I hf ⟨⟨old, he⟩, hi⟩ hg
    subst hP hw hK
    obtain ⟨xs, hl, hend⟩ := hg
    obtain ⟨us, ru, hl', hzl⟩ := I.list hl
    have e1 := ru.length
    refine wpAny_pyNext_enum_end (I.ok.hd hc) he hi hl'.isList (by simp; omega) fun h' kp => ⟨rfl, ?_⟩
    obtain ⟨f0, f1, f2, f3, f4, f5⟩ := hf it (by simp)
    exact I.turned (t' := s.toks) (fun b o hb z => kp b o hb z) f0 f1 f3 f4 f5
  self := fun _ _ _ _ _ ⟨⟨old, he⟩, _⟩ h => wpAny_pyIter_enum he h
section
variable {X : Cx}
def iEnum (K : PySem.W.Frag) (ta : TA) : TI := fun σ H R => ta σ H fun vs H1 => ∃ l xs, vs = [.ref l] ∧ SqL K H1 l xs ∧ R (Ite K l) H1
theorem pi_enum (K : PySem.W.Frag) {es : List Expr} {kk : Nat} {tpos : Pos} {e1 : Expr} {ta : TA} {p pos : Pos} (hg : Gl X "enumerate") (hm : X.mg "enumerate" = none) (ha : PA X [e1] ta) (hK : X.K = K := by rfl) (hs : starEach [e1] X.env = [(false, eval e1 X.env)] := by rfl) (hs0 : starEach [] X.env = [] := by rfl) :
    PI X (.Tuple es kk tpos) (.Call (.Name "enumerate" p) [e1] [] pos) (iEnum K ta) := by
  subst hK
  intro pins s σ H R I h
  refine Call_ (ld_blt I hg hm boot_enumerate (PyProof.Rows.callWith_type1 (thn (ha pos pins s σ H _ I h) fun us s1 ⟨vs, H1, I1, r1, q1⟩ => ?_) (by rw [hs, hs0]) (by rw [hs0]; rfl)))
  obtain ⟨l, xs, e, hl, q⟩ := q1
  subst e
  obtain ⟨u, rfl, ru⟩ := vals1 r1
  cases ru
  obtain ⟨its, rv, hl', _⟩ := I1.list hl
  refine call_enumerate_list hl'.isList fun h' he hi hz kp => wpAny_pyIter_enum he ?_
  obtain ⟨ol, gl, _⟩ := id hl'.isList
  have ll : l < s1.heap.objs.size := Heap.lt_size gl
  have fr : ∀ n, FpOk X pins H1 (s1.heap.objs.size + n) := fun n => I1.fpOk (Nat.le_add_right _ n) (I1.hok.fresh (Nat.le_add_right _ n))
  refine ⟨s1.heap.objs.size + 1, [s1.heap.objs.size + 1, s1.heap.objs.size], _, _, H1, rfl, I1.kept (t' := s1.toks) kp, turn_enum (Nat.succ_ne_self _) (Nat.ne_of_lt (Nat.lt_succ_of_lt ll)) (Nat.ne_of_lt ll), ⟨⟨_, he⟩, hi⟩, fun a ha => ?_, q⟩
  simp only [List.mem_cons, List.not_mem_nil, or_false] at ha
  rcases ha with rfl | rfl
  · exact fr 1
  · exact fr 0
end
theorem for_enum {K : PySem.W.Frag} {l : Addr} {xs : List V} {g : TG} {tb : TS} {D : Ends} {σ : St} {H : Hp} (Pv : Nat → St → Hp → Prop) (h0 : Pv 0 σ H) (hl : ∀ i σ H, i ≤ xs.length → Pv i σ H → SqL K H l xs)
    (hs : ∀ i x σ H p, xs[i]? = some x → Pv i σ H → H p = none → g (.ref p) σ (upd H p (.tup [.int (i : Nat), x])) fun σ2 H2 => tb { D with nx := Pv (i + 1), ct := Pv (i + 1), bk := D.nx } σ2 H2) (hd : ∀ σ H, Pv xs.length σ H → D.nx σ H) :
    ∃ W : Nat → Nat → St → Hp → Prop, (∃ m, W 0 m σ H) ∧ ∀ i m σ H, W i m σ H →
      ((Ite K l).stop i H ∧ D.nx σ H) ∨ ((Ite K l).go i H ∧ ∃ N : St → Hp → Prop, (∀ σ' H', N σ' H' → ∃ m', m' < m ∧ W (i + 1) m' σ' H') ∧ ∀ x H', (Ite K l).yld i H x H' → g x σ H' fun σ2 H2 => tb { D with nx := N, ct := N, bk := D.nx } σ2 H2) := by
  refine ⟨fun i m σ H => m = xs.length - i ∧ i ≤ xs.length ∧ Pv i σ H, ⟨xs.length, by simp, Nat.zero_le _, h0⟩, ?_⟩
  rintro i m σ H ⟨rfl, hi, p⟩
  have hq := hl i σ H hi p
  by_cases hlt : i < xs.length
  · refine .inr ⟨⟨xs, xs[i], hq, by simp [hlt]⟩, Pv (i + 1), fun σ' H' p' => ⟨xs.length - (i + 1), by omega, rfl, hlt, p'⟩, fun x H' y => ?_⟩
    obtain ⟨a, v, fr, rfl, rfl, k⟩ := y
    exact hs i v σ H a (k xs hq) p fr
  · have e : i = xs.length := by omega
    subst e
    exact .inl ⟨⟨xs, hq, Nat.le_refl _⟩, hd σ H p⟩
theorem for_zip {b : Bool} {K : PySem.W.Frag} {l m : Addr} {xs ys : List V} {g : TG} {tb : TS} {D : Ends} {σ : St} {H : Hp} (Pv : Nat → St → Hp → Prop) (he : ys.length = xs.length) (h0 : Pv 0 σ H) (hl : ∀ i σ H, i ≤ xs.length → Pv i σ H → Sq b K H l xs ∧ Sq b K H m ys)
    (hs : ∀ i x y σ H p, xs[i]? = some x → ys[i]? = some y → Pv i σ H → H p = none → g (.ref p) σ (upd H p (.tup [x, y])) fun σ2 H2 => tb { D with nx := Pv (i + 1), ct := Pv (i + 1), bk := D.nx } σ2 H2) (hd : ∀ σ H, Pv xs.length σ H → D.nx σ H) :
    ∃ W : Nat → Nat → St → Hp → Prop, (∃ m, W 0 m σ H) ∧ ∀ i n σ H, W i n σ H →
      ((Itz b K l m).stop i H ∧ D.nx σ H) ∨ ((Itz b K l m).go i H ∧ ∃ N : St → Hp → Prop, (∀ σ' H', N σ' H' → ∃ n', n' < n ∧ W (i + 1) n' σ' H') ∧ ∀ x H', (Itz b K l m).yld i H x H' → g x σ H' fun σ2 H2 => tb { D with nx := N, ct := N, bk := D.nx } σ2 H2) := by
  refine ⟨fun i n σ H => n = xs.length - i ∧ i ≤ xs.length ∧ Pv i σ H, ⟨xs.length, by simp, Nat.zero_le _, h0⟩, ?_⟩
  rintro i n σ H ⟨rfl, hi, p⟩
  obtain ⟨q1, q2⟩ := hl i σ H hi p
  by_cases hlt : i < xs.length
  · have h2 : i < ys.length := by omega
    refine .inr ⟨⟨xs, ys, xs[i], ys[i], q1, q2, by simp [hlt], by simp [h2]⟩, Pv (i + 1), fun σ' H' p' => ⟨xs.length - (i + 1), by omega, rfl, hlt, p'⟩, fun x H' y => ?_⟩
    obtain ⟨a, u, v, fr, rfl, rfl, k1, k2⟩ := y
    exact hs i u v σ H a (k1 xs q1) (k2 ys q2) p fr
  · have e : i = xs.length := by omega
    subst e
    exact .inl ⟨⟨xs, ys, q1, q2, .inl (Nat.le_refl _)⟩, hd σ H p⟩
end L2
namespace L2
open PySem PySem.Spec PyProof.Rows
section
variable {K : Type} [DecidableEq K]
def dropH (xs : List (K × Addr × Value)) (k : K) : List (K × Addr × Value) := xs.filter fun x => decide (x.1 ≠ k)
theorem drop_erase : ∀ {xs : List (K × Addr × Value)} {j : Nat} {k : K} {p : Addr × Value}, (xs.map (·.1)).Nodup → xs[j]? = some (k, p) → xs.eraseIdx j = dropH xs k
  | [], j, k, p, _, h => by simp at h
  | x :: t, 0, k, p, n, h => by
    simp at h
    subst h
    obtain ⟨n1, n2⟩ := List.nodup_cons.mp n
    have : dropH t k = t := by
      unfold dropH
      rw [List.filter_eq_self]
      intro y hy
      simp
      intro e
      exact n1 (List.mem_map.mpr ⟨y, hy, e⟩)
    show t = dropH ((k, p) :: t) k
    unfold dropH at this ⊢
    rw [List.filter_cons_of_neg (by simp), this]
  | x :: t, j + 1, k, p, n, h => by
    obtain ⟨n1, n2⟩ := List.nodup_cons.mp n
    have h' : t[j]? = some (k, p) := by simpa using h
    have hx : x.1 ≠ k := fun e => n1 (List.mem_map.mpr ⟨(k, p), List.mem_of_getElem? h', e.symm⟩)
    have ih := drop_erase n2 h'
    show x :: t.eraseIdx j = dropH (x :: t) k
    unfold dropH at ih ⊢
    rw [List.filter_cons_of_pos (by simpa using hx), ih]
end
theorem map_erase {α β : Type} (f : α → β) : ∀ (l : List α) (j : Nat), (l.eraseIdx j).map f = (l.map f).eraseIdx j
  | [], _ => by simp
  | x :: t, 0 => rfl
  | x :: t, j + 1 => by
    show f x :: (t.eraseIdx j).map f = f x :: (t.map f).eraseIdx j
    rw [map_erase f t j]
section
variable {prog : Program} {w : World} {K : Type} [DecidableEq K] {knd : HeapKind prog w K} {A : Around} {E : Value → Shared → Prop} {s : Shared}
theorem takeOut_heap {d a b : Addr} {v : Value} {xs : List (K × Addr × Value)} {k : K} {Q : Option DictEntry → Shared → Prop} (hu : knd.room A) (hkey : knd.is s.heap k a) (hm : s.heap.DictOfH knd d xs) (hat : atKey xs k = some (b, v))
    (hQ : ∀ (e : DictEntry) h', e.val = v → h'.DictOfH knd d (dropH xs k) → Heap.SameBut d s.heap h' → Q (some e) { s with heap := h', toks := s.toks + knd.draws k }) (hsz : xs.length ≤ sizeLine) :
    wpAny (model prog w) A (Builtin.Dict.takeOut d (.ref a)) Q E s := by
  obtain ⟨o, es, ep, ho, hc, hd, he, his, hn⟩ := hm
  have hes : es.size = xs.length := size_of_entries he
  unfold Builtin.Dict.takeOut
  try with_reducible refine wpAny_holding ?_
  refine wpAny_bind (knd.pyHash hu hkey ?_)
  refine wpAny_bind (wpAny_dictFind_heap (s := { s with toks := s.toks + knd.draws k }) hu hkey ho hd he his hn ?_ ?_)
  · intro hno
    rw [atKey_none_of_get hno] at hat
    cases hat
  · intro j p hj
    have hp := atKey_of_get hn hj
    rw [hat] at hp
    cases hp
    refine wpAny_bind (wpAny_dictEntries (s := { s with toks := s.toks + knd.draws k }) ho hd ?_)
    rw [entry_at he j, hj]
    refine wpAny_bind (wpAny_updateDictKeys (hz := by rw [hes]; exact hsz) (s := { s with toks := s.toks + knd.draws k }) ho hd (wpAny_pure (hQ _ _ rfl ⟨_, _, ep + 1, Heap.get?_update_self _ ho (Obj.isFreed_of_dict (Obj.data_mapDictKeys hd _)),
      hc.mapDictKeys _, Obj.data_mapDictKeys hd _, ?_, ?_, ?_⟩ (Heap.SameBut.update ..))))
    · rw [← drop_erase hn hj, map_erase, ← he]
      obtain ⟨l⟩ := es
      simp
    · intro x hx
      exact knd.keeps (his x (List.mem_filter.mp hx).1) ho hd (Heap.SameBut.update ..)
    · exact (List.Sublist.map _ List.filter_sublist).nodup hn
theorem meetsH_dict_pop {d a : Addr} (knd : HeapKind prog w K) (hd : (d == sysModules) = false) :
    MeetsIn prog w (Builtin.«dict.pop» ⟨[.ref d, .ref a], []⟩) (fun A R s => knd.room A.in1 ∧ ∃ k xs b v, knd.is s.heap k a ∧ s.heap.DictOfH knd d xs ∧ xs.length ≤ sizeLine ∧ atKey xs k = some (b, v) ∧
      ∀ h', h'.DictOfH knd d (dropH xs k) → Heap.SameBut d s.heap h' → R (.ok (.ret v)) { s with heap := h', toks := s.toks + knd.draws k }) :=
  .of_wp fun A R s ⟨hu, k, xs, b, v, hkey, hm, hsz, hat, h⟩ => by
    unfold Builtin.«dict.pop»
    refine wpAny_bind ?_
    unfold Builtin.Dict.keyAndDefault
    refine wpAny_bind (wpAny_notOrdered_dict hm.typeIs ?_)
    show wpAny _ _ (pure (d, Value.ref a, none)) _ _ s
    refine wpAny_pure ?_
    obtain ⟨o, es, ep, ho, hc, hdat, he, his, hn⟩ := id hm
    have hne : es.isEmpty = false := by
      have hs : es.size = xs.length := size_of_entries he
      have : xs ≠ [] := fun z => by rw [z] at hat; cases hat
      have : 0 < xs.length := List.length_pos_iff.mpr this
      rw [Array.isEmpty_eq_false_iff]
      intro z
      rw [z] at hs
      simp at hs
      omega
    simp only [show (keyPart (Value.ref a)).isSome = false from rfl, Bool.false_eq_true, if_false]
    refine wpAny_bind (wpAny_dictEntries ho hdat ?_)
    refine wpAny_bind (wpAny_pure ?_)
    simp only [hne, Bool.false_eq_true, if_false]
    refine wpAny_bind (takeOut_heap hu hkey hm hat (fun e h' hev hm' hs' => ?_) hsz)
    simp only [Option.isNone_some, Bool.false_eq_true, if_false]
    exact wpAny_bind (wpAny_letGo (wpAny_pure ⟨e.val, rfl, by rw [hev]; exact h h' hm' hs'⟩))
end
end L2
namespace L2
open PySem PySem.Spec PyProof.Rows
theorem KT.drop {H : Hp} {kvs : List (List Key × V)} {xs : List (List Key × Addr × Value)} (r : KT H kvs xs) (k : List Key) : KT H (dropK kvs k) (dropH xs k) := by
  induction r with
  | nil => exact .nil
  | @cons p q ps qs h t ih =>
    by_cases e : p.1 = k
    · have e' : q.1 = k := h.1.symm.trans e
      rw [dropK_pos e]
      unfold dropH
      rw [List.filter_cons_of_neg (by simp [e'])]
      exact ih
    · have e' : ¬ q.1 = k := fun z => e (h.1.trans z)
      rw [dropK_neg e]
      unfold dropH
      rw [List.filter_cons_of_pos (by simp [e'])]
      exact .cons h ih
section
variable {X : Cx} {o e : Expr} {apos cpos : Pos} {td ty : TE}
def tDPopT (td ty : TE) : TE := fun σ H Q => td σ H fun x H1 => ∃ a, x = .ref a ∧ IsD H1 a ∧ ty σ H1 fun y H2 => ∃ kvs k b v, H2 a = some (.dT kvs) ∧ y = .ref b ∧ H2 b = some (.tup (k.map kV)) ∧ valV kvs k = some v ∧ Q v (upd H2 a (.dT (dropK kvs k)))
theorem pe_dpopT (hu : X.A.units + 1 < cLine) (ho : PE X o td) (he : PE X e ty) (m : M1 X o "pop" apos e cpos) : PE X (.Call (.Attribute o "pop" apos) [e] [] cpos) (tDPopT td ty) := by
  intro pins s σ H Q I h
  refine wpAny_Call_method m.base m.few m.line PySem.F.plainAttrs_dict PySem.F.slot_dict_pop PySem.F.type_dict_pop (thn (ho pins s σ H _ I h) fun u s1 ⟨x, H1, I1, rx, a, ex, d, q1⟩ => ?_)
  subst ex
  obtain rfl : u = Value.ref a := rx
  obtain ⟨t1, t2, _⟩ := isD_at I1 d
  refine ⟨t1, t2, ?_⟩
  rw [m.trees]
  refine Calls.callWith_builtin rfl (Calls.evalArgs_plain (Calls.spliced_cons (thn (he pins s1 σ H1 _ I1 q1) fun iv s2 ⟨y, H2, I2, ry, kvs, k, b, v, ea, ey, eb, l, q2⟩ => Calls.spliced_nil ?_)))
  subst ey
  cases (show iv = Value.ref b from ry)
  obtain ⟨z, hd, xs, rel, dd⟩ := dt_of I2.hok ea
  have hz : xs.length ≤ sizeLine := by rw [← Paired.length rel]; exact z
  obtain ⟨w', hw, rw'⟩ := RelO.some_of (v := v) (o := (atKey xs k).map (·.2)) (by rw [← l]; exact rel.val k)
  obtain ⟨⟨b', w''⟩, hw1, hw2⟩ := Option.map_eq_some_iff.mp hw
  cases hw2
  refine call_meetsIn PySem.F.slot_dict_pop dd.typeIs PySem.F.entry_dict_pop (PySem.F.args_dict_pop_2 _ _) (meetsH_dict_pop (tupleKind (mixKind X.prog X.w)) hd) ⟨tupleKind_room_in1 hu, k, xs, b', _, key_of I2.hok eb, dd, hz, hw1, fun h' dd' hs => ?_⟩
  obtain ⟨q, es, ep, hq, h2, h3, h4, _, h5⟩ := dd'
  refine ⟨v, upd H2 a (.dT (dropK kvs k)), d_write I2 (ob := .dT (dropK kvs k)) (by rw [ea]; exact True.intro) hs ⟨q, hq⟩ ⟨Nat.le_trans (dropK_le kvs k) z, hd, _, (rel.drop k).keeps fun c ys ec => ?_, q, es, ep, hq, h2, h3, h4, h5⟩, rw', q2⟩
  rw [upd_ne (ne_of ec ea (fun z => nomatch z))]
  exact ec
end
end L2
namespace L2
open PySem PySem.Spec PyProof.Rows
structure FnQ (K : PySem.W.Frag) (x qual : Str) (st : Stmt) (f : Addr) (fd : FuncData) : Prop where
  ex : ∃ (oc : Value) (od : Option Addr) (dV kV doc pm : Value) (an : Option Addr) (cdv ct : Value) (osl : Array (Option Value)),
    fd = PySem.W.fnOf x qual (defArgs st) (defBody st) (defScope st) dV kV doc pm an cdv ct ∧ K.lookup f = some ⟨oc, od, .func fd, osl⟩ ∧ PySem.W.codeIn K cdv qual = true
structure DefM (K : PySem.W.Frag) (C : Addr) (m qual : Str) (st : Stmt) (ps : List Str) (dvs : List V) (kb : FuncData → Prop) : Prop where
  ex : ∃ (f : Addr) (fd : FuncData), FnQ K m qual st f fd ∧ Meth K C m f ∧ kb fd ∧ ∀ j, j ≤ dvs.length → ∃ ds, Vals (dvs.drop j) ds ∧ Binds K fd ps ds
structure CalleeM (P : Program) (w : World) (K : PySem.W.Frag) (mg : Str → Option Value) (base : Heap) (k : Nat) (C : Addr) (m : Str) (ps : List Str) (dvs : List V) (kb : FuncData → Prop) (sp : Sp) : Prop where
  ex : ∃ (f : Addr) (fd : FuncData), FnOk P w K mg base CX0 k f fd ps sp ∧ Meth K C m f ∧ kb fd ∧ ∀ j, j ≤ dvs.length → ∃ ds, Vals (dvs.drop j) ds ∧ Binds K fd ps ds
abbrev noKw : FuncData → Prop := fun _ => True
section
variable {P : Program} {w : World} {K : PySem.W.Frag} {mg : Str → Option Value} {base : Heap}
theorem DefM.ok {C : Addr} {m qual : Str} {st : Stmt} {N ps : List Str} {k : Nat} {dvs : List V} {kb : FuncData → Prop} {sp : Sp} (D : DefM K C m qual st ps dvs kb) (S : FnScope N ps (defScope st)) (len : ∀ vs H Q E, sp vs H Q E → vs.length = ps.length)
    (hbody : ∀ (f : Addr) (cdv : Value) (A : Around) (outer : List Env) (s : Shared) (H : Hp) (vs : List V) (Q : VK) (E : XK), Room k (A.deeper (envOfC qual (defScope st) s.heap.objs.size f cdv)) → sp vs H Q E →
      ∃ t, PSs (cxOf CX0 P w K mg base N qual (defScope st) f cdv A outer s H E).nox (defBody st) t ∧ t { nx := fun _ H' => Q .non H', rt := Q } (start N vs) H) : CalleeM P w K mg base (k + 1) C m ps dvs kb sp := by
  obtain ⟨f, fd, ⟨oc, od, dV, kV, doc, pm, an, cdv, ct, osl, rfl, lk, hcd⟩, mt, hkb, b⟩ := D.ex
  refine ⟨f, _, fn_of lk hcd S len fun A outer s H vs Q E hr hsp => ?_, mt, hkb, b⟩
  obtain ⟨t, h, q⟩ := hbody f cdv A outer s H vs Q E hr hsp
  exact ⟨t, h.nox, q⟩
end
section
variable {X : Cx} {k n : Nat} {C : Addr} {ps : List Str} {dvs : List V} {kb : FuncData → Prop} {sp : Sp} {x m : Str} {p pos apos kpos : Pos} {e o : Expr} {es : List Expr} {ta te : TE} {t : TA}
theorem kit_own {K : PySem.W.Frag} {C D : Addr} (hc : PySem.W.isClsIn K D = true) (ht : PySem.W.typeIn K (.ref D) = some (.type "type")) (hs : PySem.W.subIn K (.ref C) (.ref D) = some true) : PySem.W.kitOne K (.ref C) (.ref D) = some true := by
  unfold PySem.W.kitOne
  split
  · rfl
  · show (if ((PySem.W.clsIn K D).isSome && PySem.W.typeIn K (.ref D) == some (.type "type")) = true then PySem.W.subIn K (.ref C) (.ref D) else none) = some true
    rw [if_pos (by rw [show (PySem.W.clsIn K D).isSome = true from hc, ht]; rfl), hs]
end
end L2
namespace L2
open PySem PySem.Spec PyProof.Rows
theorem ObjOk.at_ {P : Program} {w : World} {H : Hp} {h : Heap} {a : Addr} {o : HO} (x : ObjOk P w H h a o) : ∃ u, h.get? a = some u := by
  cases o with
  | lst xs => obtain ⟨_, _, _, _, e⟩ := x; exact ⟨_, e⟩
  | tup xs => obtain ⟨_, _, _, p⟩ := x; exact ⟨_, p.choose_spec.1⟩
  | dK kvs => obtain ⟨_, _, _, _, o, _, _, e, _⟩ := x; exact ⟨_, e⟩
  | dT kvs => obtain ⟨_, _, _, _, o, _, _, e, _⟩ := x; exact ⟨_, e⟩
  | set S n => obtain ⟨o, _, _, _, e, _⟩ := x; exact ⟨_, e⟩
  | ins C dx fs => obtain ⟨_, _, _, e, _⟩ := x; exact ⟨_, e⟩
  | own y => obtain ⟨_, e⟩ := x; exact ⟨_, e⟩
  | xd fs => obtain ⟨_, ⟨_, _, _, e, _⟩, _⟩ := x; exact ⟨_, e⟩
  | rng lo hi => obtain ⟨_, _, _, e⟩ := x; exact ⟨_, e⟩
  | frz ob u => obtain ⟨e, _⟩ := x; exact ⟨_, e⟩
  | tbl ps => exact ⟨_, (show h.get? a = some _ from x)⟩
  | met f y => exact ⟨_, (show h.get? a = some _ from x)⟩
  | ext φ => obtain ⟨_, e, _⟩ := x; exact e
structure Fly (fs : List Addr) (H1 H2 : Hp) (h1 B h2 : Heap) : Prop where
  kp : ∀ b o, h1.get? b = some o → b ∉ fs → (∃ o', B.get? b = some o') ∧ (H1 b = none → B.get? b = some o)
  sl : ∀ b o, h1.get? b = some o → b ∈ fs → ∃ sl, h2.get? b = some { o with slots := sl }
  free : ∀ b o, h1.get? b = some o → H1 b = none → H2 b = none
  tups : ∀ b xs, H1 b = some (.tup xs) → H2 b = some (.tup xs)
  frzs : ∀ b o u, H1 b = some (.frz o u) → H2 b = some (.frz o u)
  tbls : ∀ b ps, H1 b = some (.tbl ps) → ∃ more, H2 b = some (.tbl (ps ++ more))
theorem Fly.un {fs : List Addr} {H1 H2 : Hp} {h1 B h2 : Heap} (f : Fly fs H1 H2 h1 B h2) (st : B.StaysIn h2) : Un fs [] H1 H2 h1 h2 where
  keep := fun b o e n hb _ => st b o ((f.kp b o e hb).2 n)
  slot := fun b o e _ hb _ => f.sl b o e hb
  free := fun b o e n _ => f.free b o e n
  there := fun b o e _ => by
    by_cases hb : b ∈ fs
    · obtain ⟨sl, q⟩ := f.sl b o e hb; exact ⟨_, q⟩
    · obtain ⟨⟨o', q⟩, _⟩ := f.kp b o e hb; exact ⟨o', st _ _ q⟩
  tups := f.tups
  frzs := f.frzs
  tbls := f.tbls
theorem Fly.up {fs : List Addr} {H1 H2 : Hp} {h1 B h2 h3 : Heap} (f : Fly fs H1 H2 h1 B h2) (up : ∀ b ∈ fs, ∀ o, h2.get? b = some o → ∃ sl, h3.get? b = some { o with slots := sl }) : Fly fs H1 H2 h1 B h3 :=
  ⟨f.kp, fun b o e hb => by
    obtain ⟨s1, q1⟩ := f.sl b o e hb
    obtain ⟨s2, q2⟩ := up b hb _ q1
    exact ⟨s2, q2⟩, f.free, f.tups, f.frzs, f.tbls⟩
theorem Fly.after {fs fs' : List Addr} {H0 H1 H2 : Hp} {h0 h1 B h2 : Heap} (u : Un fs [] H0 H1 h0 h1) (f : Fly fs' H1 H2 h1 B h2) (hL : ∀ b o, h0.get? b = some o → b ∉ fs → b ∉ fs') (hs : ∀ b ∈ fs, b ∈ fs') (hf : ∀ b ∈ fs, H0 b = none) :
    Fly fs H0 H2 h0 B h2 where
  kp := fun b o e hb => by
    obtain ⟨o1, e1⟩ := u.there b o e (by simp)
    refine ⟨(f.kp b o1 e1 (hL b o e hb)).1, fun n => ?_⟩
    exact (f.kp b o (u.keep b o e n hb (by simp)) (hL b o e hb)).2 (u.free b o e n (by simp))
  sl := fun b o e hb => by
    obtain ⟨s1, q1⟩ := u.slot b o e (hf b hb) hb (by simp)
    obtain ⟨s2, q2⟩ := f.sl b _ q1 (hs b hb)
    exact ⟨s2, q2⟩
  free := fun b o e n => by
    obtain ⟨o1, e1⟩ := u.there b o e (by simp)
    exact f.free b o1 e1 (u.free b o e n (by simp))
  tups := fun b xs e => f.tups b xs (u.tups b xs e)
  frzs := fun b o x e => f.frzs b o x (u.frzs b o x e)
  tbls := fun b ps e => by
    obtain ⟨m1, e1⟩ := u.tbls b ps e
    obtain ⟨m2, e2⟩ := f.tbls b _ e1
    exact ⟨m1 ++ m2, by rw [e2, Array.append_assoc]⟩
section
variable {P : Program} {w : World} {K : PySem.W.Frag} {mg : Str → Option Value} {base : Heap} {N : List Str} {qual : Str} {scope : Scope} {f : Addr} {cd : Value} {A : Around} {outer : List Env} {s : Shared} {H : Hp} {E : XK}
theorem frs_cons {env : Env} {L : Addr} {l : List Env} (h : env.frame = some L) : frs (env :: l) = L :: frs l := by unfold frs; rw [List.filterMap_cons, h]
end
end L2
namespace L2
open PySem PySem.Spec PyProof.Rows
def tCallS (sp : Sp) (dvs : List V) (E : St → XK) (t : TA) : TE := fun σ H Q => t σ H fun vs H1 => sp (vs ++ dvs) H1 Q (E σ)
def vErr : List Value := [.type "ValueError", .type "Exception", .type "BaseException", .type "object"]
end L2
namespace L2
open PySem PySem.Spec PyProof.Rows
abbrev Cx.pinned (X : Cx) (pn : List (Addr × Obj)) : Cx := { X with pn := pn }
abbrev hcx (X : Cx) (ea : Addr) : Cx := { X with A := X.A.mark (some (.ref ea)), calm := false, xe := fun _ _ => False }
section
variable {X : Cx} {pins : List (Addr × Obj)} {σ : St} {H : Hp} {s : Shared}
theorem Inv.toPinned (I : Inv X pins σ H s) : Inv (X.pinned (X.pn ++ pins)) [] σ H s :=
  ⟨⟨I.ok.mod, I.ok.kind, I.ok.glob, I.ok.blt, I.ok.above, I.ok.inj, I.ok.has, I.ok.cab, I.ok.hd, I.ok.frames, I.ok.stk, I.ok.exf, I.ok.bs, I.ok.bsz, I.ok.noex, I.ok.exfs, I.ok.funs, I.ok.frf⟩, I.os, I.bare, I.base, I.loc, I.cell, I.free, I.freeC, fun p hp => I.pin p (by rw [List.append_nil] at hp; exact hp), I.hok, I.len⟩
theorem Inv.ofPinned {ps : List (Addr × Obj)} (I : Inv (X.pinned (X.pn ++ pins)) ps σ H s) : Inv X pins σ H s :=
  ⟨⟨I.ok.mod, I.ok.kind, I.ok.glob, I.ok.blt, I.ok.above, I.ok.inj, I.ok.has, I.ok.cab, I.ok.hd, I.ok.frames, I.ok.stk, I.ok.exf, I.ok.bs, I.ok.bsz, I.ok.noex, I.ok.exfs, I.ok.funs, I.ok.frf⟩, I.os, I.bare, I.base, I.loc, I.cell, I.free, I.freeC, fun p hp => I.pin p (List.mem_append_left _ hp), I.hok, I.len⟩
theorem Inv.toH (I : Inv X pins σ H s) (ea : Addr) : Inv (hcx X ea) pins σ H s :=
  ⟨⟨I.ok.mod, I.ok.kind, I.ok.glob, I.ok.blt, I.ok.above, I.ok.inj, I.ok.has, I.ok.cab, (fun z => nomatch z), I.ok.frames, I.ok.stk, I.ok.exf, I.ok.bs, I.ok.bsz, I.ok.noex, I.ok.exfs, I.ok.funs, I.ok.frf⟩, I.os, I.bare, I.base, I.loc, I.cell, I.free, I.freeC, I.pin, I.hok, I.len⟩
theorem Inv.ofH {ea : Addr} (ok : X.Ok) (I : Inv (hcx X ea) pins σ H s) : Inv X pins σ H s :=
  ⟨ok, I.os, I.bare, I.base, I.loc, I.cell, I.free, I.freeC, I.pin, I.hok, I.len⟩
theorem goes_ok {M : Model} {A : Around} {E : Value → Shared → Prop} {i : Nat} {n : Str} {pos : Pos} {Q : Unit → Shared → Prop} (I : Inv X pins σ H s) (hN : X.N.Nodup) (hi : X.N[i]? = some n) (hl : X.env.scope.names.lookup n = some .local)
    (h : ∀ s', Inv X pins (σ.set i none) H s' → Q () s') : wpAny M A (do bindName X.env n .none; unbindBehindTheSuite X.env n pos) Q E s := by
  obtain ⟨m, hn, hlm⟩ := id I.loc
  have hcls : (X.env.scope.kind == .class || (X.env.scope.kind == .module && X.env.locals != X.env.globals)) = false := by rw [I.ok.kind]; rfl
  have cne := I.cne
  obtain ⟨oL, _, _, hoL, _⟩ := id hn
  have iσ : i < σ.length := by rw [I.len]; exact (List.getElem?_eq_some_iff.mp hi).1
  refine wpAny_nameGoes_keeps hl hn hcls fun h' v hn' hs => ?_
  refine h _ ⟨I.ok, I.os, I.bare, ⟨fun b o e n hb hx => ?_, fun b o e n hb hx => ?_, I.base.free, fun b o e hx => ?_, I.base.tups, I.base.frzs, I.base.tbls⟩, ⟨_, hn', fun j y v' e1 e2 e3 => ?_⟩, fun y c e => ?_, I.free, I.freeC, fun p hp => ?_, fun b ob e => ?_, by simpa using I.len⟩
  · exact (hs.2 b (Nat.ne_of_lt (Nat.lt_of_lt_of_le (Heap.lt_size e) I.ok.above))).trans (I.base.keep b o e n hb hx)
  · obtain ⟨sl, e1⟩ := I.base.slot b o e n hb hx
    exact ⟨sl, (hs.2 b (Nat.ne_of_lt (Nat.lt_of_lt_of_le (Heap.lt_size e) I.ok.above))).trans e1⟩
  · obtain ⟨o', e1⟩ := I.base.there b o e hx
    exact ⟨o', (hs.2 b (Nat.ne_of_lt (Nat.lt_of_lt_of_le (Heap.lt_size e) I.ok.above))).trans e1⟩
  · by_cases hj : j = i
    · subst hj
      rw [List.getElem?_set_self iσ] at e2
      cases e2
    · rw [List.getElem?_set_ne (Ne.symm hj)] at e2
      obtain ⟨u', r', q⟩ := hlm j y v' e1 e2 e3
      refine ⟨u', r', ?_⟩
      rcases q with ⟨k, e⟩ | ⟨k, c, e, z⟩
      · refine .inl ⟨k, ?_⟩
        have : y ≠ n := fun e => hj (nodup_ix hN e1 (e ▸ hi))
        simp [this, e]
      · exact .inr ⟨k, c, e, z.sameBut hs (cne y c e)⟩
  · obtain ⟨w', z⟩ := I.cell y c e
    exact ⟨w', z.sameBut hs (cne y c e)⟩
  · obtain ⟨e, n, ne, nf, d⟩ := I.pin p hp
    exact ⟨(hs.2 p.1 ne).trans e, n, ne, nf, d⟩
  · refine (I.hok b ob e).stay (fun c w' hc q => (hs.2 c ?_).trans q) (fun _ q => q) fun _ _ q => q
    rintro rfl
    have fr := I.free
    rcases hc with rfl | hc
    · rw [fr] at e; cases e
    · rw [fr] at hc; cases hc
end
section
variable {X : Cx}
def Ends.gone (D : Ends) (i : Nat) : Ends := { nx := fun σ H => D.nx (σ.set i none) H, rt := D.rt, bk := fun σ H => D.bk (σ.set i none) H, ct := fun σ H => D.ct (σ.set i none) H }
end
end L2
namespace L2
open PySem PySem.Spec PyProof.Rows
open PySem.W (Looks)
open PySem.Builtin PySem.Builtin.ObjectAttr PySem.Builtin.Getset_descriptor
structure ExcX (K : PySem.W.Frag) (C : Addr) : Prop where
  ga : PySem.W.findIn K (.ref C) "__getattribute__" = some (some (.builtin "BaseException.__getattribute__"))
  gn : PySem.W.findIn K (.ref C) "__getattr__" = some none
  cl : PySem.W.findIn K (.ref C) "__class__" = some (some (.builtin "object.__class__"))
  gt : PySem.W.specialIn K (.builtin "object.__class__") "__get__" = some (some (.builtin "getset_descriptor.__get__"))
  tk : PySem.W.takesIn K (.builtin "object.__class__") = some true
  mo : PySem.W.mroIn K C (.type "object") = some true
  mb : PySem.W.mroIn K C (.type "BaseException") = some true
  cs : (PySem.W.clsIn K C).isSome = true
section
variable {prog : Program} {w : World} {A : Around} {E : Value → Shared → Prop} {s : Shared} {K : PySem.W.Frag} {x C : Addr}
theorem exc_find {M : Model} {h : Heap} (X : K.In h) (Z : ExcX K C) : Looks M h (find (.ref x) (.ref C) "__class__") (.bind (.builtin "getset_descriptor.__get__") (.builtin "object.__class__")) := by
  have L1 := PySem.W.looks_findIn (M := M) X Z.cl
  have L2 : Looks M h (getOf (some (.builtin "object.__class__"))) (some (.builtin "getset_descriptor.__get__")) := PySem.W.looks_specialIn X Z.gt
  have L3 := PySem.W.looks_takesIn (M := M) X Z.tk
  exact L1.andThen (L2.andThen ((show Looks M h (dataDescriptor? (some (.builtin "object.__class__")) (some (.builtin "getset_descriptor.__get__"))) (some (.builtin "getset_descriptor.__get__", .builtin "object.__class__")) from L3.andThen .now).andThen (Looks.tag .now)))
theorem exc_get {R : Result → Shared → Prop} {tp : Value} {o : Obj} (X : K.In s.heap) (Z : ExcX K C) (ho : s.heap.get? x = some o) (hc : o.cls = .ref C) (h : R (.ok (.ret (.ref C))) s) :
    codeAny (model prog w) A (.call (.builtin "getset_descriptor.__get__") ⟨[.builtin "object.__class__", .ref x, tp], []⟩) R s := by
  obtain ⟨hh, g, dr, t, os⟩ := s
  have L0 : Looks (model prog w) hh (typeOf (.ref x)) (.ref C) := hc ▸ (Looks.ld ho).andThen .now
  have L1 := PySem.W.looks_mroIn (M := model prog w) X Z.mo
  refine codeAny_call_builtin PySem.W.KF.slot_gs.plain PySem.W.KF.entry_gs (PySem.W.KF.slot_gs.check _ _ _ _ _ _ _ _ PySem.W.KF.type_class (PySem.W.KF.args_gs _ _ _) ?_)
  unfold Builtin.«getset_descriptor.__get__» descrGet
  rw [PySem.W.dga_obj]
  refine wpAny_bind (wpAny_pure ?_)
  unfold descrGetter descrCheckInstance descrNameAndClass isInstance
  simp only [PySem.W.KF.owner_class]
  repeat lk
  refine ⟨Code.quiet_builtin _ (by decide +kernel), codeAny_builtin PySem.W.KF.entry_class ?_⟩
  unfold Builtin.«object.__class__» shownTypeOf
  repeat lk
  exact h
theorem exc_class {Q : Option Value → Shared → Prop} {o : Obj} (X : K.In s.heap) (Z : ExcX K C) (ho : s.heap.get? x = some o) (hc : o.cls = .ref C) (h : Q (some (.ref C)) { s with toks := s.toks + 1 }) :
    wpAny (model prog w) A (getAttr? (.ref x) "__class__") Q E s := by
  obtain ⟨hh, g, dr, t, os⟩ := s
  have L0 : Looks (model prog w) hh (typeOf (.ref x)) (.ref C) := hc ▸ (Looks.ld ho).andThen .now
  have L1 := PySem.W.looks_findIn (M := model prog w) X Z.ga
  have L2 := PySem.W.looks_findIn (M := model prog w) X Z.gn
  have L3 := exc_find (M := model prog w) (x := x) X Z
  have L4 := PySem.W.looks_mroIn (M := model prog w) X Z.mb
  have f3 := PySem.F.attr_ValueError.ga.bind (.ref x)
  have hk : builtinKind "BaseException.__getattribute__" = some .slot := by decide +kernel
  have hsplit : splitId "BaseException.__getattribute__" = some ("BaseException", "__getattribute__") := by decide +kernel
  unfold getAttr? getAttrBy? getAttrBy
  refine wpAny_bind (wpAny_mkText (wpAny_bind (wpAny_attempt (wpAny_holding (wpAny_bind (L0.at (wpAny_bind (L1.at ?_))))))))
  show wpAny _ _ (getAttrByItsOwn _ _ _ _ _ _) _ _ _
  unfold getAttrByItsOwn
  refine wpAny_bind ?_
  show wpAny _ _ (typeLookup _ _) _ _ _
  refine L2.at ?_
  refine wpAny_bind (wpAny_attempt (wpAny_holding ?_))
  show wpAny _ _ (boundAndCalled _ _ _) _ _ _
  unfold boundAndCalled
  refine wpAny_bind ?_
  rw [f3]
  refine wpAny_pure ?_
  refine wpAny_call (codeAny_call_builtin PySem.F.attr_ValueError.ga.plain PySem.F.entry_bexc_ga ?_)
  have ha := PySem.F.args_bexc_ga (.ref x) (.str "__class__" t)
  simp only [checkBuiltinCall, hk, hsplit]
  refine wpAny_bind ?_
  unfold isInstance
  refine wpAny_bind (L0.at (L4.at ?_))
  simp only [Bool.not_true, Bool.false_eq_true, if_false]
  repeat (any_goals (first | assumption | wp_step))
  rw [hc]
  have La := PySem.W.looks_findIn (M := model prog w) X Z.cl
  have Lb : Looks (model prog w) hh (getOf (some (.builtin "object.__class__"))) (some (.builtin "getset_descriptor.__get__")) := PySem.W.looks_specialIn X Z.gt
  have Lc : Looks (model prog w) hh (dataDescriptor? (some (.builtin "object.__class__")) (some (.builtin "getset_descriptor.__get__"))) (some (.builtin "getset_descriptor.__get__", .builtin "object.__class__")) := (PySem.W.looks_takesIn (M := model prog w) X Z.tk).andThen .now
  refine La.at (wpAny_bind (Lb.at (wpAny_bind (Lc.at (wpAny_bind (wpAny_rule (wpAny_pure ?_)))))))
  unfold bindTo
  refine wpAny_bind (wpAny_holding (wpAny_call (exc_get (s := ⟨hh, g, dr, t + 1, os⟩) X Z ho hc ?_)))
  show wpAny _ _ (ret (.ref C)) _ _ _
  refine wpAny_pure ?_
  show wpAny _ _ (handedOut (.ref C)) _ _ _
  exact PySem.W.handed_on rfl (wpAny_pure h)
theorem kitx_exc (Z : ExcX K C) : PySem.W.KitX K (.ref x) (.ref C) (fun h => ∃ o, h.get? x = some o ∧ o.cls = .ref C) where
  ty := fun _ _ _ ⟨o, ho, hc⟩ => hc ▸ (Looks.ld ho).andThen .now
  it := fun _ _ X _ => by
    have z0 := Z.cs
    unfold PySem.W.clsIn at z0
    split at z0
    · rename_i c' d' cd' sl' ho
      intro A' Q' E' s' k q
      unfold isType loadHead
      exact wpAny_bind (wpAny_loadPart (k _ _ (X _ _ ho)) (wpAny_pure q))
    · cases z0
  ne := fun h tp dd its n sl X htp => by
    have z0 := Z.cs
    refine Bool.eq_false_iff.mpr fun q => ?_
    have e : C = tp := Value.ref.inj (beq_iff_eq.mp q)
    subst e
    unfold PySem.W.clsIn at z0
    split at z0
    · rename_i c' d' cd' sl' ho
      have z := (X _ _ ho).symm.trans htp
      cases z
    · cases z0
  ca := fun X ⟨o, ho, hc⟩ k => exc_class X Z ho hc k
end
end L2
namespace L2
open PySem PySem.Spec PyProof.Rows PySem.SeqAt
section
variable {K : PySem.W.Frag} {C D : Addr}
theorem kit_not (hc : PySem.W.isClsIn K D = true) (ht : PySem.W.typeIn K (.ref D) = some (.type "type")) (hs : PySem.W.subIn K (.ref C) (.ref D) = some false) (h1 : PySem.W.subIn K (.ref C) (.ref C) = some true) : PySem.W.kitOne K (.ref C) (.ref D) = some false := by
  unfold PySem.W.kitOne
  split
  · rename_i z
    have e : C = D := Value.ref.inj (beq_iff_eq.mp z)
    rw [← e, h1] at hs
    cases hs
  · show (if ((PySem.W.clsIn K D).isSome && PySem.W.typeIn K (.ref D) == some (.type "type")) = true then PySem.W.subIn K (.ref C) (.ref D) else none) = some false
    rw [if_pos (by rw [show (PySem.W.clsIn K D).isSome = true from hc, ht]; rfl), hs]
theorem kit_val (hs : PySem.W.subIn K (.ref C) (.type "ValueError") = some true) : PySem.W.kitOne K (.ref C) (.type "ValueError") = some true := by
  unfold PySem.W.kitOne
  split
  · rfl
  · show (if PySem.W.kitMeta "ValueError" = true then PySem.W.subIn K (.ref C) (.type "ValueError") else none) = some true
    rw [if_pos (by decide +kernel), hs]
theorem exm_own (hc : PySem.W.isClsIn K D = true) (ht : PySem.W.typeIn K (.ref D) = some (.type "type")) (hs : PySem.W.subIn K (.ref C) (.ref D) = some true) (hb : PySem.W.subIn K (.ref D) (.type "BaseException") = some true) : PySem.W.exmOne K (.ref C) (.ref D) = some true := by
  unfold PySem.W.exmOne
  rw [if_pos (by rw [hb]; rfl)]
  show (if ((PySem.W.clsIn K D).isSome && PySem.W.typeIn K (.ref D) == some (.type "type")) = true then PySem.W.subIn K (.ref C) (.ref D) else none) = some true
  rw [if_pos (by rw [show (PySem.W.clsIn K D).isSome = true from hc, ht]; rfl), hs]
end
theorem boot_ValueError : bootBuiltins "ValueError" = some (.type "ValueError") := by first | rfl | decide +kernel
end L2
namespace L2
open PySem
def DictIs (h : Heap) (e : Addr) (od : Option Addr) : Prop := ∃ o, h.get? e = some o ∧ o.dict = od
theorem dict_fields (f : Array Value → Array Value) (o : Obj) : (Obj.mapFields f o).dict = o.dict := by
  obtain ⟨c, d, dt, sl⟩ := o
  cases dt <;> rfl
section
variable {M : Model} {A : Around} {E : Value → Shared → Prop} {s : Shared} {B : Heap} {env : Env} {up : List Env} {L x : Addr} {k : Value} {a0 : Value} {od : Option Addr} {Q : Unit → Shared → Prop}
abbrev tbOf (hd : Value) (L : Addr) (pl : List Value) : Obj := { cls := .type "traceback", dict := none, data := .fields ([hd, .ref L, .none, rawInt L, .none] ++ (if pl.isEmpty then List.replicate 6 Value.none else pl)).toArray }
theorem note_entry {ob : Obj} {fs : Array Value} {hd : Value} {hn : Bool} (a1 : A.frames = some (env :: up)) (a2 : s.heap.FunFrames B (env :: up)) (a3 : env.frame = some L) (b1 : s.heap.get? x = some ob) (b2 : B.StaysIn s.heap) (b3 : B.get? x = none)
    (b4 : ob.data = .fields fs) (b5 : 1 < fs.size) (b6 : fs[0]? = some a0) (q : ∀ g, Heap.NotedW B (env :: up) x ob.cls a0 (rawInt L) s.heap g → DictIs g x ob.dict → Q () { s with heap := g }) :
    wpAny M A (do let a ← frameOf env; let pl ← entryPlaceOf L hn; let b ← EntryCells.newEntry hd a .none (rawInt L) .none pl; setField (.ref x) 1 b) Q E s := by
  have out : x ∉ (env :: up).filterMap (·.frame) := fun m => by
    obtain ⟨_, o, e1, e2⟩ := a2.mem m
    rw [b1] at e1
    cases e1
    exact e2 fs b4
  refine wpAny_bind (wpAny_frameOf_fun a1 a2 a3 fun g1 k1 => wpAny_bind (wpAny_entryPlaceOf fun pl hpl => ?_))
  unfold EntryCells.newEntry newFields
  refine wpAny_bind (wpAny_newObj_type ?_ (hpl.sizeOk5 _ _ _ _ _))
  have x1 : g1.get? x = some ob := (k1.2.1 x out).trans b1
  have st1 : B.StaysIn g1 := fun b o e => (k1.2.1 b fun m => by rw [(a2.mem m).1] at e; cases e).trans (b2 b o e)
  have x2 := Heap.get?_push_of_some (h := g1) (tbOf hd L pl) x1
  refine wpAny_setField x2 b4 b5 ?_
  have nT : g1.objs.size ≠ x := Nat.ne_of_gt (Heap.lt_size x1)
  have d3 := Obj.data_mapFields b4 (·.setIfInBounds 1 (Value.ref g1.objs.size))
  have x3 := Heap.get?_update_self (Obj.mapFields (·.setIfInBounds 1 (Value.ref g1.objs.size))) x2 (Obj.isFreed_of_fields d3)
  have t3 := (Heap.get?_update_other (g1.push (tbOf hd L pl)) (Obj.mapFields (·.setIfInBounds 1 (Value.ref g1.objs.size))) (Ne.symm nT)).trans (Heap.get?_push_size g1 rfl)
  have kp : ∀ b o, b ≠ x → g1.get? b = some o → ((g1.push (tbOf hd L pl)).update x (Obj.mapFields (·.setIfInBounds 1 (Value.ref g1.objs.size)))).get? b = some o := fun b o n e => by
    rw [Heap.get?_update_other _ _ (Ne.symm n)]
    exact Heap.get?_push_of_some _ e
  have no : ∀ b o, s.heap.get? b = some o → (∀ vs, o.data ≠ .fields vs) → b ≠ x := fun b o e n z => by
    rw [z, b1] at e
    cases e
    exact n fs b4
  refine q _ ⟨fun b o e => kp b o (fun z => by rw [z, b3] at e; cases e) (st1 b o e), a2.of_keeps fun b o e n => ?_, ?_, fun b o e n => ?_⟩ ⟨_, x3, dict_fields _ _⟩
  · obtain ⟨sl, z⟩ := k1.2.2 b o e
    exact ⟨_, kp b _ (no b o e n) z, rfl⟩
  · refine ⟨_, _, g1.objs.size, _, _, x3, ⟨Obj.cls_mapFields _ _, ?_⟩, d3, by simp [b5], st1.fresh, nT, t3, rfl, ?_⟩
    · rw [Array.getElem?_setIfInBounds_ne (by decide)]
      exact b6
    · first | (simp; done) | (rcases hpl with rfl | ⟨_, _, _, _, _, _, _, rfl⟩ <;> simp)
  · obtain ⟨sl, z⟩ := k1.2.2 b o e
    exact ⟨sl, kp b _ (no b o e n) z⟩
theorem note_next (a1 : A.frames = some (env :: up)) (a2 : s.heap.FunFrames B (env :: up)) (a3 : env.frame = some L) (tr : s.heap.TracedW B x k a0) (dx : DictIs s.heap x od) (b2 : B.StaysIn s.heap) (b3 : B.get? x = none)
    (q : ∀ g, Heap.NotedW B (env :: up) x k a0 (rawInt L) s.heap g → DictIs g x od → Q () { s with heap := g }) : wpAny M A (noteFrame (.ref x) env) Q E s := by
  obtain ⟨ob, fs, T, oT, ts, e1, ⟨e2, e3⟩, e4, e5, e6, e7, e8, e9, e10⟩ := tr
  subst e2
  obtain ⟨o2, f1, f2⟩ := dx
  rw [e1] at f1
  cases f1
  subst f2
  unfold noteFrame
  simp only [a3]
  refine wpAny_bind (wpAny_field e1 e4 e5 ?_)
  rw [if_pos (show (Value.ref T != Value.none) = true by simp)]
  refine wpAny_bind (wpAny_field e8 e9 e10 ?_)
  rw [if_neg (show ¬ (Value.none == rawInt L) = true by simp [rawInt])]
  refine wpAny_bind (wpAny_setField e8 e9 (Array.getElem?_eq_some_iff.mp e10).1 ?_)
  have oth : ∀ b, b ≠ T → (s.heap.update T (Obj.mapFields (·.setIfInBounds 3 Value.none))).get? b = s.heap.get? b := fun b n => Heap.get?_update_other _ _ (Ne.symm n)
  have no : ∀ b o, s.heap.get? b = some o → (∀ vs, o.data ≠ .fields vs) → b ≠ T := fun b o e n z => by
    rw [z, e8] at e
    cases e
    exact n ts e9
  refine note_entry a1 (a2.of_keeps fun b o e n => ⟨o, (oth b (no b o e n)).trans e, rfl⟩) a3 ((oth x (Ne.symm e7)).trans e1) (fun b o e => (oth b fun z => by rw [z, e6] at e; cases e).trans (b2 b o e)) b3 e4 (Array.getElem?_eq_some_iff.mp e5).1 e3 fun g z dz => ?_
  obtain ⟨z1, z2, z3, z4⟩ := z
  exact q g ⟨z1, z2, z3, fun b o e n => z4 b o ((oth b (no b o e n)).trans e) n⟩ dz
theorem flight_none {l : List Env} {fl : Value} (b2 : B.StaysIn s.heap) (a2 : s.heap.FunFrames B l) (tr : s.heap.TracedAtW B x k a0 fl) (dx : DictIs s.heap x od)
    (q : ∀ g, B.StaysIn g → g.FunFrames B l → g.TracedW B x k a0 → s.heap.UpToSlots g → DictIs g x od → Q () { s with heap := g }) : wpAny M A (setFlight (.ref x) none) Q E s := by
  obtain ⟨ob, fs, T, oT, ts, e1, e2, e4, e5, e6, e7, e8, e9, e10⟩ := tr
  obtain ⟨o2, f1, f2⟩ := dx
  have l3 : 3 < ts.size := (Array.getElem?_eq_some_iff.mp e10).1
  have oth : ∀ b, b ≠ T → (s.heap.update T (Obj.mapFields (·.setIfInBounds 3 ((none : Option Addr).elim Value.none fun f => rawInt f)))).get? b = s.heap.get? b := fun b n => Heap.get?_update_other _ _ (Ne.symm n)
  have no : ∀ b o, s.heap.get? b = some o → (∀ vs, o.data ≠ .fields vs) → b ≠ T := fun b o e n z => by
    rw [z, e8] at e
    cases e
    exact n ts e9
  unfold setFlight
  refine wpAny_bind (wpAny_field e1 e4 e5 ?_)
  rw [if_pos (show (Value.ref T != Value.none) = true by simp)]
  refine wpAny_setField e8 e9 l3 (q _ (fun b o e => (oth b fun z => by rw [z, e6] at e; cases e).trans (b2 b o e)) (a2.of_keeps fun b o e n => ⟨o, (oth b (no b o e n)).trans e, rfl⟩) ?_ (fun b o e n => ⟨o.slots, (oth b (no b o e n)).trans e⟩) ⟨o2, (oth x (Ne.symm e7)).trans f1, f2⟩)
  exact ⟨ob, fs, T, _, _, (oth x (Ne.symm e7)).trans e1, e2, e4, e5, e6, e7, Heap.get?_update_self _ e8 (Obj.isFreed_of_fields (Obj.data_mapFields e9 _)), Obj.data_mapFields e9 _, by simp [l3]⟩
theorem leaves_onD (a1 : A.frames = some (env :: up)) (a3 : env.frame = some L) (fl : Heap.FlyingW B (env :: up) x k a0 s.heap) (dx : DictIs s.heap x od)
    (q : ∀ g, Heap.FlyingW B up x k a0 g → s.heap.UpToSlots g → DictIs g x od → Q () { s with heap := g }) : wpAny M A (leaving env (.ref x)) Q E s := by
  obtain ⟨f1, f2, f3, f4⟩ := fl
  unfold leaving
  refine wpAny_bind (note_next a1 f3 a3 f4 dx f1 f2 fun g1 z1 d1 => ?_)
  obtain ⟨z1, z2, z3, z4⟩ := z1
  refine flight_none (s := { s with heap := g1 }) z1 z2 z3 d1 fun g2 y1 y2 y3 y4 d2 => ?_
  obtain ⟨_, _, y2'⟩ := y2
  exact q g2 ⟨y1, f2, y2', y3⟩ (Heap.UpToSlots.trans (fun b o e n => z4 b o e n) y4) d2
theorem looks_onD (a1 : A.frames = some (env :: up)) (a3 : env.frame = some L) (fl : Heap.FlyingW B (env :: up) x k a0 s.heap) (dx : DictIs s.heap x od)
    (q : ∀ g, Heap.HeldW B (env :: up) x k a0 L g → s.heap.UpToSlots g → DictIs g x od → Q () { s with heap := g }) : wpAny M A (noteFrame (.ref x) env) Q E s := by
  obtain ⟨f1, f2, f3, f4⟩ := fl
  refine note_next a1 f3 a3 f4 dx f1 f2 fun g1 z1 d1 => ?_
  obtain ⟨z1, z2, z3, z4⟩ := z1
  exact q g1 ⟨z1, f2, z2, z3⟩ z4 d1
theorem landsD {l : List Env} (hh : Heap.HeldW B l x k a0 L s.heap) (dx : DictIs s.heap x od) (q : ∀ g, Heap.FlyingW B l x k a0 g → s.heap.UpToSlots g → DictIs g x od → Q () { s with heap := g }) : wpAny M A (setFlight (.ref x) none) Q E s := by
  obtain ⟨f1, f2, f3, f4⟩ := hh
  exact flight_none f1 f3 f4 dx fun g y1 y2 y3 y4 d => q g ⟨y1, f2, y2, y3⟩ y4 d
theorem lands_againD {l : List Env} (hh : Heap.FlyingW B l x k a0 s.heap) (dx : DictIs s.heap x od) (q : ∀ g, Heap.FlyingW B l x k a0 g → s.heap.UpToSlots g → DictIs g x od → Q () { s with heap := g }) : wpAny M A (setFlight (.ref x) none) Q E s := by
  obtain ⟨f1, f2, f3, f4⟩ := hh
  exact flight_none f1 f3 f4.at dx fun g y1 y2 y3 y4 d => q g ⟨y1, f2, y2, y3⟩ y4 d
theorem leaves_firstD {ob : Obj} {fs : Array Value} (a1 : A.frames = some (env :: up)) (a2 : s.heap.FunFrames B (env :: up)) (a3 : env.frame = some L) (b1 : s.heap.get? x = some ob) (b2 : B.StaysIn s.heap) (b3 : B.get? x = none)
    (b4 : ob.data = .fields fs) (b5 : fs[1]? = some .none) (b6 : fs[0]? = some a0) (q : ∀ g, Heap.FlyingW B up x ob.cls a0 g → s.heap.UpToSlots g → DictIs g x ob.dict → Q () { s with heap := g }) : wpAny M A (leaving env (.ref x)) Q E s := by
  unfold leaving noteFrame
  simp only [a3]
  refine wpAny_bind (wpAny_bind (wpAny_field b1 b4 b5 ?_))
  rw [if_neg (by decide)]
  refine note_entry a1 a2 a3 b1 b2 b3 b4 (Array.getElem?_eq_some_iff.mp b5).1 b6 fun g1 z1 d1 => ?_
  obtain ⟨z1, z2, z3, z4⟩ := z1
  refine flight_none (s := { s with heap := g1 }) z1 z2 z3 d1 fun g2 y1 y2 y3 y4 d2 => ?_
  obtain ⟨_, _, y2'⟩ := y2
  exact q g2 ⟨y1, b3, y2', y3⟩ (Heap.UpToSlots.trans (fun b o e n => z4 b o e n) y4) d2
end
end L2
namespace L2
open PySem PySem.Spec PyProof.Rows
def refsThen : List Value → Bool
  | .ref _ :: r => refsThen r
  | l => l == vErr
def excInI (K : PySem.W.Frag) (C fI : Addr) : Bool := match K.lookup C with
  | some ⟨.type "type", _, .cls cd, sl⟩ => (match cd.mro, sl.toList with
    | .ref C' :: bm, [_, _, _, _, some (.builtin n), _] => C' == C && n == "ValueError.__new__" && !cd.hasDel && cd.hasDict && PySem.W.tailIn K vErr bm && PySem.W.nsOkIn K cd.ns && PySem.W.nsIn K cd.ns "__init__" == some (some (.ref fI)) && refsThen bm
    | _, _ => false)
  | _ => false
theorem ns_some {K : PySem.W.Frag} {h : Heap} {N : Addr} {m : Str → Option Value} {n : Str} {v : Value} (X : K.In h) (G : h.Ns N m) (e : PySem.W.nsIn K N n = some (some v)) : m n = some v := by
  obtain ⟨o, es, ep, ho, hd, _, hf⟩ := G
  unfold PySem.W.nsIn at e
  split at e
  · rename_i c d es' n' sl q
    have z := X _ _ q
    rw [ho] at z
    cases z
    cases hd
    split at e
    · rename_i en he
      cases e
      rw [← hf]
      unfold nsFind findBy
      rw [← Array.find?_toList, he]
      rfl
    · split at e <;> cases e
  · cases e
structure ClsI (C fI : Addr) (h : Heap) : Prop where
  obj : ∃ bm N nm q bs sn sub ab col dd k0 k1 k2 k3 k5 mN, h.get? C = some (excClassObj nm q C N bs bm true sn sub ab col dd k0 k1 k2 k3 k5 "ValueError.__new__") ∧ h.Ns N mN ∧ mN "__init__" = some (.ref fI) ∧ OwnTail h vErr bm ∧ refsThen bm = true
theorem clsI_of {K : PySem.W.Frag} {C fI : Addr} {h : Heap} (X : K.In h) (q : excInI K C fI = true) : ClsI C fI h := by
  unfold excInI at q
  split at q
  · rename_i dd cd sl ho
    split at q
    · rename_i C' bm k0 k1 k2 k3 n k5 hm hs
      simp only [Bool.and_eq_true, beq_iff_eq, Bool.not_eq_true'] at q
      obtain ⟨⟨⟨⟨⟨⟨⟨rfl, rfl⟩, hdel⟩, hdc⟩, ht⟩, hok⟩, hni⟩, hrf⟩ := q
      obtain ⟨nm, bs, mro, ns, qn, hd, sn, sub, ab, col, del⟩ := cd
      dsimp only at hm hdel hdc hok hni
      subst hm hdel hdc
      have hsl : sl = #[k0, k1, k2, k3, some (.builtin "ValueError.__new__"), k5] := by
        obtain ⟨l⟩ := sl
        simp only at hs
        rw [hs]
      subst hsl
      have N1 : h.Ns ns _ := .of_isNs (PySem.W.isNs_of_in X hok)
      exact ⟨bm, ns, nm, qn, bs, sn, sub, ab, col, dd, k0, k1, k2, k3, k5, _, X _ _ ho, N1, ns_some X N1 hni, PySem.W.tail_of_in X ht, hrf⟩
    · cases q
  · cases q
end L2
namespace L2
open PySem
abbrev excObj (C t : Addr) (od : Option Addr) : Obj := { cls := .ref C, dict := od, data := .fields #[.ref t, .none, .none, .none, .bool false, .none] }
section
variable {prog : Program} {w : World} {A : Around} {E : Value → Shared → Prop} {h : Heap} {g : Array GenState} {d : Drawn} {t : Nat} {os : OsState}
variable {nm q : Str} {C N fI : Addr} {bs bm : List Value} {hdct : Bool} {sn : List Str} {sub : List Value} {ab : Bool} {col : Option Bool} {dd : Option Addr} {k0 k1 k2 k3 k5 : Option Value}
set_option maxHeartbeats 4000000 in
theorem tcall_init (T : OwnTail h vErr bm) {mN : Str → Option Value} {rest : List Value} {oI : Obj} {Q : Fin → Shared → Prop}
    (hC : h.get? C = some (excClassObj nm q C N bs bm hdct sn sub ab col dd k0 k1 k2 k3 k5 "ValueError.__new__")) (hn : h.Ns N mN) (hi : mN "__init__" = some (.ref fI)) (hfI : h.get? fI = some oI) (hfc : oI.cls = .type "function")
    (hq : ∀ h' e, (∀ b o, h.get? b = some o → h'.get? b = some o) → h.objs.size ≤ e → (∃ tt, h'.get? e = some (excObj C tt none)) →
      wpAny (model prog w) A (call (.ref fI) (.ref e :: rest)) (fun r s' => r = .none ∧ Q (.done (.ret (.ref e))) s') E ⟨h', g, d, t, os⟩) (hrest : rest.length ≤ sizeLine) :
    wpAny (model prog w) A (Builtin.«type.__call__» ⟨.ref C :: rest, []⟩) Q E ⟨h, g, d, t, os⟩ := by
  have F := PySem.F.excBase_ValueError
  repeat (first | with_reducible refine wpAny_loadPart_at hC ?_ | with_reducible refine wpAny_madeBy_exc hC ?_ | wp_step)
  refine codeAny_call_builtin_code (Code.quiet_builtin _ F.quiet) (wpAny_check_new_subT F T hC ?_)
  refine codeAny_exc_new_subT F T hC ?_ hrest
  show wpAny _ _ _ _ _ _
  let tp : Obj := { cls := .type "tuple", data := .seq rest.toArray }
  let eo : Obj := { cls := .ref C, data := .fields #[.ref h.objs.size, .none, .none, .none, .bool false, .none] }
  have kp : ∀ b o, h.get? b = some o → ((h.push tp).push eo).get? b = some o := fun b o z => Heap.get?_push_of_some _ (Heap.get?_push_of_some _ z)
  have C1 := kp _ _ hC
  have I1 := kp _ _ hfI
  have N1 : ((h.push tp).push eo).Ns N mN := let ⟨o, es, ep, z, r⟩ := hn; ⟨o, es, ep, kp _ _ z, r⟩
  have G1 : ((h.push tp).push eo).get? (h.objs.size + 1) = some eo := by
    show ((h.push { cls := .type "tuple", data := .seq rest.toArray }).push _).get? (h.objs.size + 1) = some _
    heap_get
  have c1 : (Value.ref C :: bm).contains (.ref C) = true := by simp
  have T1 := T.keeps kp
  unfold isInstance
  repeat (first | with_reducible refine wpAny_loadPart_at G1 ?_ | (with_reducible refine wpAny_isSubtype_exc C1 ?_; rw [c1]) | wp_step)
  show wpAny _ _ (typeLookup (.ref C) _) _ _ _
  refine wpAny_typeLookup_tail C1 N1 T1 F.mroIs F.init.lookup ?_
  rw [hi]
  refine wpAny_holding (wpAny_bind ?_)
  unfold bindSpecial
  refine wpAny_bind (wpAny_typeOf (T := "function") ⟨_, I1, hfc⟩ ?_)
  rw [if_pos (by decide)]
  refine wpAny_pure (wpAny_bind (wpAny_mono (hq _ (h.objs.size + 1) kp (Nat.le_succ _) ⟨_, G1⟩) (fun r s' hr => ?_) fun _ _ z => z))
  obtain ⟨rfl, hQ⟩ := hr
  wp_walk
  exact hQ
theorem call_init (T : OwnTail h vErr bm) {mN : Str → Option Value} {rest : List Value} {oI : Obj} {Q : Value → Shared → Prop}
    (hC : h.get? C = some (excClassObj nm q C N bs bm hdct sn sub ab col dd k0 k1 k2 k3 k5 "ValueError.__new__")) (hn : h.Ns N mN) (hi : mN "__init__" = some (.ref fI)) (hfI : h.get? fI = some oI) (hfc : oI.cls = .type "function")
    (hq : ∀ h' e, (∀ b o, h.get? b = some o → h'.get? b = some o) → h.objs.size ≤ e → (∃ tt, h'.get? e = some (excObj C tt none)) →
      wpAny (model prog w) (A.under (.builtin "type.__call__" ⟨.ref C :: rest, []⟩)) (call (.ref fI) (.ref e :: rest)) (fun r s' => r = .none ∧ Q (.ref e) s') E ⟨h', g, d, t, os⟩) (hrest : rest.length ≤ sizeLine) :
    wpAny (model prog w) A (call (.ref C) rest) Q E ⟨h, g, d, t, os⟩ := by
  have f1 := tc_lookup
  have f2 := tc_bind (.ref C)
  have hT : (⟨h, g, d, t, os⟩ : Shared).TypeIs (.ref C) "type" := ⟨_, hC, rfl⟩
  refine wpAny_call (codeAny_of_tree ?_)
  show wpAny _ _ (callAny (.ref C) _) _ _ _
  repeat (any_goals (first | assumption | with_reducible refine wpAny_loadPart_at hC ?_ | wp_step))
  refine ⟨rfl, ?_⟩
  refine codeAny_call_builtin_at (Code.quiet_builtin _ (by decide +kernel)) entry_typeCall (wpAny_check_type_call_sub hC (tcall_init T hC hn hi hfI hfc (fun h' e a1 a2 a3 => ?_) hrest))
  exact hq h' e a1 a2 a3
end
section
variable {M : Model} {A : Around} {E : Value → Shared → Prop} {s : Shared} {env : Env} {C : Addr}
theorem raise_of {x : Sem Value} {Q : Flow → Shared → Prop} (hh : A.handled = none)
    (h : wpAny M A x (fun v s1 => ∃ e t od fI, v = .ref e ∧ ClsI C fI s1.heap ∧ s1.heap.get? e = some (excObj C t od) ∧ E (.ref e) s1) E s) :
    wpAny M A (raiseStmt env (some x) none) Q E s := by
  unfold raiseStmt
  refine wpAny_bind (wpAny_mono h (fun v s1 z => ?_) fun _ _ y => y)
  obtain ⟨e, t, od, fI, rfl, Z, he, hE⟩ := z
  obtain ⟨bm, N, nm, q, bs, sn, sub, ab, col, dd, k0, k1, k2, k3, k5, mN, hC, _, _, T, _⟩ := Z.obj
  have hcB : (Value.ref C :: bm).contains (.type "BaseException") = true := by rw [List.contains_cons, T.hasType PySem.F.excBase_ValueError.hasBase, Bool.or_true]
  obtain ⟨hp, g, d, tk, os⟩ := s1
  repeat (first | with_reducible refine wpAny_loadPart_at he ?_ | with_reducible refine wpAny_loadPart_at hC ?_ | (with_reducible refine wpAny_isSubtype_exc hC ?_; rw [hcB]) | wp_step)
  exact wpAny_raiseNew_none hh hE
end
section
variable {prog : Program} {w : World} {A : Around} {E : Value → Shared → Prop} {s : Shared} {env : Env} {C fI : Addr}
theorem raise_init {x : Str} {np cpos pos : Pos} {args : List Expr} {Q : Flow → Shared → Prop} (hh : A.handled = none) (hplain : (backTo cpos (starEach args env)).any (·.1) = false)
    (h : wpAny (model prog w) A (eval (.Name x np) env) (fun f s1 => f = .ref C ∧ wpAny (model prog w) A (evalArgs (.ref C) true (backTo cpos (starEach args env)) [])
      (fun a s2 => a.kw = [] ∧ a.pos.length ≤ sizeLine ∧ ClsI C fI s2.heap ∧ (∃ oI, s2.heap.get? fI = some oI ∧ oI.cls = .type "function") ∧
        ∀ h' e, (∀ b o, s2.heap.get? b = some o → h'.get? b = some o) → s2.heap.objs.size ≤ e → (∃ tt, h'.get? e = some (excObj C tt none)) →
          wpAny (model prog w) (A.under (.builtin "type.__call__" ⟨.ref C :: a.pos, []⟩)) (call (.ref fI) (.ref e :: a.pos)) (fun r s' => r = .none ∧ ClsI C fI s'.heap ∧ (∃ t od, s'.heap.get? e = some (excObj C t od)) ∧ E (.ref e) s') E { s2 with heap := h' }) E s1) E s) :
    wpAny (model prog w) A (exec (.Raise (some (.Call (.Name x np) args [] cpos)) none pos) env) Q E s := by
  rw [arm_exec_Raise]
  first
    | refine wpAny_bind (wpAny_standAt (raise_of (C := C) hh (wpAny_bind (wpAny_mono (wpAny_Call_ofName (wpAny_mono h (fun f s1 z => ?_) fun _ _ y => y)) (fun v s3 y3 => wpAny_bind (wpAny_standAt (wpAny_pure y3))) fun _ _ y => y))))
    | (simp only [evalOpt, Option.map]; refine wpAny_bind (wpAny_standAt (raise_of (C := C) hh (wpAny_bind (wpAny_mono (wpAny_Call_ofName (wpAny_mono h (fun f s1 z => ?_) fun _ _ y => y)) (fun v s3 y3 => wpAny_bind (wpAny_standAt (wpAny_pure y3))) fun _ _ y => y)))))
    | (refine wpAny_bind (wpAny_standAt (raise_of (C := C) hh ?_)); refine wpAny_bind (wpAny_mono (wpAny_Call_ofName (wpAny_mono h (fun f s1 z => ?_) fun _ _ y => y)) (fun v s3 y3 => wpAny_bind (wpAny_standAt (wpAny_pure y3))) fun _ _ y => y))
  obtain ⟨rfl, z⟩ := z
  unfold callWith
  refine wpAny_bind (wpAny_holding (wpAny_mono z (fun a s2 y => wpAny_bind (wpAny_standAt ?_)) fun _ _ y => y))
  obtain ⟨apos, akw⟩ := a
  obtain ⟨hkw, hlen, Z, ⟨oI, hfI, hfc⟩, y⟩ := y
  obtain rfl : akw = [] := hkw
  obtain ⟨bm, N, nm, q, bs, sn, sub, ab, col, dd, k0, k1, k2, k3, k5, mN, hC, hn, hi, T, _⟩ := Z.obj
  obtain ⟨hp, g, d, tk, os⟩ := s2
  simp only [hplain]
  refine wpAny_bind (wpAny_keeperOf_exc hC ?_)
  refine wpAny_bind (call_init T hC hn hi hfI hfc (fun h' e a1 a2 a3 => ?_) hlen)
  refine wpAny_mono (y h' e a1 a2 a3) (fun r s' u => ?_) fun _ _ u => u
  obtain ⟨rfl, u1, ⟨t, od, u2⟩, u3⟩ := u
  exact ⟨rfl, wpAny_bind (wpAny_holding (wpAny_point (wpAny_pure ⟨e, t, od, fI, rfl, u1, u2, u3⟩)))⟩
end
end L2
namespace L2
open PySem PySem.Spec PyProof.Rows
open PySem.W (Looks InstAt)
open PySem.Builtin PySem.Builtin.ObjectAttr
theorem refuse_v (self : Value) : ∀ {l : List Value}, refsThen l = true → refuseLoop self "__setattr__" l = pure ()
  | .ref c :: r, e => by rw [refuseLoop_ref]; exact refuse_v self (l := r) e
  | [], e => by cases e
  | .none :: _, e => by cases e
  | .bool _ :: _, e => by cases e
  | .int _ _ :: _, e => by cases e
  | .str _ _ :: _, e => by cases e
  | .bytes _ _ :: _, e => by cases e
  | .float _ _ :: _, e => by cases e
  | .builtin _ :: _, e => by cases e
  | .type n :: r, e => by
    rw [show (Value.type n :: r) = vErr from beq_iff_eq.mp e]
    exact PySem.F.store_ValueError.passes self
structure ExcN (K : PySem.W.Frag) (C : Addr) : Prop where
  cd : ∃ cd, PySem.W.clsIn K C = some cd ∧ refsThen cd.mro = true ∧ cd.hasDict = true
  sa : PySem.W.findIn K (.ref C) "__setattr__" = some (some (.builtin "object.__setattr__"))
  hd : PySem.W.hasDictIn K C = true
section
variable {prog : Program} {w : World} {A : Around} {E : Value → Shared → Prop} {s : Shared} {K : PySem.W.Frag} {x C : Addr} {R : Result → Shared → Prop}
theorem xosa_open {ox : Obj} {od : Option Obj} {name : Str} {tk : Tok} {v : Value} (X : K.In s.heap) (I : InstAt s.heap x ox C od) (Z : ExcN K C) (mo : PySem.W.mroIn K C (.type "object") = some true) (ht : PySem.W.findIn K (.ref C) name = some none)
    (h : ∀ b, wpAny (model prog w) A.in1 (storeInOwnDict (.ref x) (.ref C) (.str name tk) name v b)
      (fun fin s' => match fin with | .done f => R (.ok f) s' | .again c' => c'.quiet = true ∧ codeAny (model prog w) A c' R s') (fun e s' => R (.error e) s') s) :
    codeAny (model prog w) A (.call (.builtin "object.__setattr__") ⟨[.ref x, .str name tk, v], []⟩) R s := by
  have SF := PySem.F.store_object
  obtain ⟨cd, hc, ho, _⟩ := Z.cd
  have sub : Looks (model prog w) s.heap (isInstance (.ref x) (.type "object")) true := I.type.andThen (PySem.W.looks_mroIn X mo)
  refine codeAny_call_builtin SF.slot.plain SF.entry (@PySem.W.check_slot (model prog w) _ _ s "object.__setattr__" "object" "__setattr__" (.ref x) [.str name tk, v] [] _ SF.kind SF.split sub (SF.args (.ref x) (.str name tk) v) ?_)
  have hm : Looks (model prog w) s.heap (mroOf (.ref C)) cd.mro := (PySem.W.looks_clsIn X hc).andThen .now
  rw [PySem.W.osa_eq, refuse_eq]
  refine wpAny_bind (wpAny_bind (I.type.here (wpAny_bind (hm.here ?_))))
  rw [refuse_v _ ho]
  refine wpAny_pure (wpAny_bind (I.type.here (wpAny_bind ((PySem.W.looks_findIn X ht).here (wpAny_bind (wpAny_pure ?_))))))
  exact h _
theorem xset_none {t : Addr} {name : Str} {v : Value} {Q : Unit → Shared → Prop} (X : K.In s.heap) (hx : s.heap.get? x = some (excObj C t none)) (Z : ExcN K C) (mo : PySem.W.mroIn K C (.type "object") = some true) (ht : PySem.W.findIn K (.ref C) name = some none)
    (h : ∀ h', h'.get? x = some (excObj C t (some s.heap.objs.size)) → h'.Ns1 s.heap.objs.size (fun y => if y = name then some v else none) → (∀ b o, b ≠ x → s.heap.get? b = some o → h'.get? b = some o) → Q () { s with heap := h', toks := s.toks + 2 }) :
    wpAny (model prog w) A (setAttr (.ref x) name v) Q E s := by
  have J : InstAt s.heap x (excObj C t none) C none := ⟨hx, rfl, rfl, trivial⟩
  refine PySem.W.set_plain X J Z.sa (xosa_open (s := { s with toks := s.toks + 1 }) X J Z mo ht fun b => ?_)
  obtain ⟨cd, hc, _, hd'⟩ := Z.cd
  refine wpAny_bind (wpAny_pure (wpAny_bind (wpAny_bind (wpAny_loadPart hx (wpAny_bind (Looks.here (s := { s with toks := s.toks + 1 }) (PySem.W.looks_clsIn X hc) ?_))))))
  rw [hd']
  have x1 : (s.heap.push { cls := .type "dict", data := .dict #[] }).get? x = some (excObj C t none) := Heap.get?_push_of_some _ hx
  have nx : x ≠ s.heap.objs.size := Nat.ne_of_lt (Heap.lt_size hx)
  show wpAny _ _ ((if (!true || !typeHasDict (Value.ref C)) = true then _ else _)) _ _ _
  rw [if_neg (by simp [typeHasDict])]
  refine wpAny_bind (wpAny_alloc' ?_)
  refine wpAny_bind (wpAny_update' x1 ?_)
  refine wpAny_pure ?_
  show wpAny _ _ (storeInDict s.heap.objs.size (.str name s.toks) name v) _ _ _
  have gx : ((s.heap.push { cls := .type "dict", data := .dict #[] }).update x fun o => { cls := o.cls, dict := some s.heap.objs.size, data := o.data, slots := o.slots }).get? x = some (excObj C t (some s.heap.objs.size)) := Heap.get?_update_self _ x1 rfl
  have gd : ((s.heap.push { cls := .type "dict", data := .dict #[] }).update x fun o => { cls := o.cls, dict := some s.heap.objs.size, data := o.data, slots := o.slots }).get? s.heap.objs.size = some { cls := .type "dict", data := .dict #[] } :=
    (Heap.get?_update_ne _ _ _ _ nx.symm).trans (Heap.get?_push_at rfl rfl)
  have ko : ∀ b o, b ≠ x → s.heap.get? b = some o → ((s.heap.push { cls := .type "dict", data := .dict #[] }).update x fun o => { cls := o.cls, dict := some s.heap.objs.size, data := o.data, slots := o.slots }).get? b = some o := fun b o n e => (Heap.get?_update_ne _ _ _ _ n).trans (Heap.get?_push_of_some _ e)
  generalize ((s.heap.push { cls := .type "dict", data := .dict #[] }).update x fun o => { cls := o.cls, dict := some s.heap.objs.size, data := o.data, slots := o.slots }) = g1 at gx gd ko ⊢
  have nd : g1.Ns s.heap.objs.size (fun _ => none) := ⟨_, #[], _, gd, rfl, fun e he => absurd he (by simp), fun _ => rfl⟩
  unfold storeInDict newKeyGuard
  refine wpAny_bind (wpAny_pure (wpAny_bind (wpAny_nsSet1 (Heap.Ns1.of_empty nd) fun h' hn' hs => ?_)))
  obtain ⟨oD, esD, epD, hoD, hdD, hcD⟩ := hn'.count (PySem.Within.cons name v PySem.Within.nil)
  refine wpAny_bind (wpAny_lookBehind hoD (by rw [hdD]; exact pastItsLine_dict (Nat.le_trans hcD (by rw [List.length_cons, List.length_nil, sizeLine_eq]; omega))) ?_)
  exact wpAny_pure (h h' ((hs.2 x nx).trans gx) hn' fun b o n e => (hs.2 b (Nat.ne_of_lt (Heap.lt_size e))).trans (ko b o n e))
theorem xset_some {t dx : Addr} {mA : Str → Option Value} {ns : List Str} {name : Str} {v : Value} {Q : Unit → Shared → Prop} (X : K.In s.heap) (hx : s.heap.get? x = some (excObj C t (some dx))) (hn : s.heap.Ns1 dx mA) (hw : PySem.Within mA ns) (hz : ns.length ≤ 1000) (Z : ExcN K C)
    (mo : PySem.W.mroIn K C (.type "object") = some true) (ht : PySem.W.findIn K (.ref C) name = some none)
    (h : ∀ h', h'.Ns1 dx (fun y => if y = name then some v else mA y) → Heap.SameBut dx s.heap h' → Q () { s with heap := h', toks := s.toks + 2 }) :
    wpAny (model prog w) A (setAttr (.ref x) name v) Q E s := by
  obtain ⟨od, ho, hl⟩ := lookIn_ns hn
  have J : InstAt s.heap x (excObj C t (some dx)) C (some od) := ⟨hx, rfl, rfl, ho⟩
  refine PySem.W.set_plain X J Z.sa (xosa_open (s := { s with toks := s.toks + 1 }) X J Z mo ht fun b => ?_)
  obtain ⟨cd, hc, _, hd'⟩ := Z.cd
  refine wpAny_bind (wpAny_pure (wpAny_bind (wpAny_bind (wpAny_loadPart hx (wpAny_bind (Looks.here (s := { s with toks := s.toks + 1 }) (PySem.W.looks_clsIn X hc) ?_))))))
  rw [hd']
  refine wpAny_pure (a := some dx) (wpAny_bind (wpAny_pure (wpAny_bind ?_)))
  refine wpAny_nsSet1 (s := { s with toks := s.toks + 1 }) hn fun h' hn2 hs2 => ?_
  obtain ⟨oD, esD, epD, hoD, hdD, hcD⟩ := hn2.count (PySem.Within.cons name v hw)
  refine wpAny_bind (wpAny_lookBehind hoD (by rw [hdD]; exact pastItsLine_dict (Nat.le_trans hcD (by rw [List.length_cons, sizeLine_eq]; omega))) ?_)
  exact wpAny_pure (h _ hn2 hs2)
theorem xget {o : Obj} {dx : Addr} {mA : Str → Option Value} {name : Str} {v : Value} {expr : Bool} {Q : Value → Shared → Prop} (X : K.In s.heap) (Z : ExcX K C) (N : ExcN K C) (hx : s.heap.get? x = some o) (hc : o.cls = .ref C) (hf : ∃ fs, o.data = .fields fs) (hd : o.dict = some dx) (hn : s.heap.Ns1 dx mA)
    (ht : PySem.W.findIn K (.ref C) name = some none) (hv : mA name = some v) (hh : PySem.W.handedIn v = true) (h : Q v { s with toks := s.toks + 1 }) :
    wpAny (model prog w) A (getAttr (.ref x) name expr) Q E s := by
  obtain ⟨od, ho, hl⟩ := lookIn_ns hn
  obtain ⟨fs, hfs⟩ := hf
  have J : InstAt s.heap x o C (some od) := ⟨hx, hc, by obtain ⟨a, b, c, d⟩ := o; cases hfs; rfl, by rw [hd]; exact ho⟩
  have Lf := PySem.W.looks_find (M := model prog w) X J (PySem.W.findObj_own N.hd ht rfl (by rw [hl, hv]))
  obtain ⟨hh0, g, dr, t, os⟩ := s
  have L0 : Looks (model prog w) hh0 (typeOf (.ref x)) (.ref C) := hc ▸ (Looks.ld hx).andThen .now
  have L1 := PySem.W.looks_findIn (M := model prog w) X Z.ga
  have L2 := PySem.W.looks_findIn (M := model prog w) X Z.gn
  have L4 := PySem.W.looks_mroIn (M := model prog w) X Z.mb
  have f3 := PySem.F.attr_ValueError.ga.bind (.ref x)
  have hk : builtinKind "BaseException.__getattribute__" = some .slot := by decide +kernel
  have hsplit : splitId "BaseException.__getattribute__" = some ("BaseException", "__getattribute__") := by decide +kernel
  unfold getAttr getAttrBy
  refine wpAny_bind (wpAny_mkText (wpAny_holding (wpAny_bind (L0.at (wpAny_bind (L1.at ?_))))))
  show wpAny _ _ (getAttrByItsOwn _ _ _ _ _ _) _ _ _
  unfold getAttrByItsOwn
  refine wpAny_bind ?_
  show wpAny _ _ (typeLookup _ _) _ _ _
  refine L2.at ?_
  refine wpAny_bind (wpAny_attempt (wpAny_holding ?_))
  unfold callGetattribute
  rw [if_neg (by simp [onTheHeap])]
  unfold boundAndCalled
  refine wpAny_bind ?_
  rw [f3]
  refine wpAny_pure ?_
  refine wpAny_call (codeAny_call_builtin PySem.F.attr_ValueError.ga.plain PySem.F.entry_bexc_ga ?_)
  have ha := PySem.F.args_bexc_ga (.ref x) (.str name t)
  simp only [checkBuiltinCall, hk, hsplit]
  refine wpAny_bind ?_
  unfold isInstance
  refine wpAny_bind (L0.at (L4.at ?_))
  simp only [Bool.not_true, Bool.false_eq_true, if_false]
  refine wpAny_mono (Q := fun _ s1 => s1 = ⟨hh0, g, dr, t + 1, os⟩) (E := fun _ _ => False) ?_ (fun _ s1 z => ?_) fun _ _ z => z.elim
  · cases hs : Manifest.signature? "BaseException.__getattribute__" with
    | none => exact wpAny_pure rfl
    | some sig =>
      simp only [argsOk, hs] at ha
      have h2 : Bind.checkArgs "BaseException.__getattribute__" sig ⟨[.ref x, .str name t], []⟩ = pure () := ha
      show wpAny _ _ (Bind.checkArgs "BaseException.__getattribute__" sig ⟨[.ref x, .str name t], []⟩) _ _ _
      rw [h2]
      exact wpAny_pure rfl
  subst z
  unfold Builtin.«object.__getattribute__»
  refine wpAny_bind (wpAny_pure (wpAny_bind (wpAny_pure (wpAny_bind (L0.at (wpAny_bind (Lf.at (wpAny_pure ?_))))))))
  show wpAny _ _ (handedOut v) _ _ _
  rw [PySem.W.handedOut_of hh]
  exact wpAny_pure h
end
end L2
namespace L2
open PySem PySem.Spec PyProof.Rows
def ExcF (e C : Addr) (od : Option Addr) : HO := .ext fun h => ∃ t, h.get? e = some (excObj C t od)
def XdO (dx : Addr) (fs : List (Str × V)) : HO := .ext fun h => ∃ mA, h.Ns1 dx mA ∧ (∀ f, RelO (fs.lookup f) (mA f)) ∧ PySem.Within mA (fs.map (·.1))
def ExcD (e C : Addr) (od : Option Addr) : HO := .ext fun h => ∃ o vs, h.get? e = some o ∧ o.cls = .ref C ∧ o.data = .fields vs ∧ o.dict = od
theorem excF_ok {P : Program} {w : World} {H : Hp} {h : Heap} {e C t : Addr} {od : Option Addr} (g : h.get? e = some (excObj C t od)) : ObjOk P w H h e (ExcF e C od) := ⟨⟨t, g⟩, ⟨_, g⟩, fun h1 h2 ⟨t', g'⟩ k => ⟨t', k _ g'⟩⟩
theorem ns1_at {h1 h2 : Heap} {d : Addr} {m : Str → Option Value} (n : h1.Ns1 d m) (k : ∀ o, h1.get? d = some o → h2.get? d = some o) : h2.Ns1 d m := by
  obtain ⟨o, es, ep, e, r⟩ := n
  exact ⟨o, es, ep, k _ e, r⟩
theorem xdO_ok {P : Program} {w : World} {H : Hp} {h : Heap} {dx : Addr} {fs : List (Str × V)} {mA : Str → Option Value} (n : h.Ns1 dx mA) (r : ∀ f, RelO (fs.lookup f) (mA f)) (wi : PySem.Within mA (fs.map (·.1))) : ObjOk P w H h dx (XdO dx fs) := by
  obtain ⟨o, es, ep, e, r'⟩ := id n
  exact ⟨⟨mA, n, r, wi⟩, ⟨_, e⟩, fun h1 h2 ⟨m, n1, r1, w1⟩ k => ⟨m, ns1_at n1 k, r1, w1⟩⟩
section
variable {X : Cx} {o value : Expr} {ta tv : TE} {f : Str} {pos pos' : Pos}
def sX0 (K : PySem.W.Frag) (ta tv : TE) (f : Str) : TS := fun D σ H => tv σ H fun y H1 => ta σ H1 fun x H2 => ∃ a C, x = .ref a ∧ H2 a = some (ExcF a C none) ∧ ExcN K C ∧ PySem.W.mroIn K C (.type "object") = some true ∧ PySem.W.findIn K (.ref C) f = some none ∧
  ∀ dx, H2 dx = none → D.nx σ (upd (upd H2 a (ExcF a C (some dx))) dx (XdO dx [(f, y)]))
theorem ps_x0 (K : PySem.W.Frag) (ha : PE X o ta) (hv : PE X value tv) (hs : swapsWith value (some (.Attribute o f pos')) pos.line X.env = pure false) (hK : X.K = K := by rfl) : PS X (.Assign [.Attribute o f pos'] value pos) (sX0 K ta tv f) := by
  subst hK
  intro pins s σ H D I h
  refine plainObj_wpAny_Assign_Attribute (thn (hv pins s σ H _ I h) fun u s1 ⟨y, H1, I1, ry, q⟩ => thn (ha pins s1 σ H1 _ I1 q) fun ov s2 ⟨x, H2, I2, rx, a, C, ex, ea, Z, mo, nf, q2⟩ => ?_) hs
  subst ex
  obtain rfl : ov = Value.ref a := rx
  obtain ⟨⟨t, g⟩, _, _⟩ := (show ObjOk X.prog X.w H2 s2.heap a (ExcF a C none) from I2.hok a _ ea)
  refine xset_none I2.kIn g Z mo nf fun h' g' n' kp => ?_
  have fr : H2 s2.heap.objs.size = none := I2.hok.fresh (Nat.le_refl _)
  have na : s2.heap.objs.size ≠ a := Nat.ne_of_gt (Heap.lt_size g)
  have mu : Mut (H2 a) := by rw [ea]; exact True.intro
  have new1 : ObjOk X.prog X.w (upd H2 a (ExcF a C (some s2.heap.objs.size))) h' a (ExcF a C (some s2.heap.objs.size)) := excF_ok g'
  have ok1 := I2.hok.write (e := a) mu (.inl rfl) (fun b u hb z => kp b u hb z) ⟨_, g'⟩ new1
  have fr1 : upd H2 a (ExcF a C (some s2.heap.objs.size)) s2.heap.objs.size = none := by rw [upd_ne na]; exact fr
  refine ⟨σ, _, I2.call' (s' := { s2 with heap := h', toks := s2.toks + 2 }) (ch := []) rfl (Un.track (Un.write (e := a) mu (.inl rfl) (fun b u hb z => kp b u hb z) ⟨_, g'⟩) (Nat.le_refl _) fr) (HOk.track ok1 fr1 (xdO_ok (fs := [(f, y)]) n' (fun g => ?_) ?_)) I2.bare (fun b z => nomatch z), q2 _ fr⟩
  · by_cases z : g = f
    · subst z
      simp only [List.lookup, beq_self_eq_true, if_true]
      exact ry
    · have z' : (g == f) = false := beq_eq_false_iff_ne.mpr z
      simp only [List.lookup, z', if_neg z]
      exact True.intro
  · exact PySem.Within.cons f u PySem.Within.nil
def sX1 (K : PySem.W.Frag) (ta tv : TE) (f : Str) : TS := fun D σ H => tv σ H fun y H1 => ta σ H1 fun x H2 => ∃ a C dx fs, x = .ref a ∧ H2 a = some (ExcF a C (some dx)) ∧ H2 dx = some (XdO dx fs) ∧ ExcN K C ∧ PySem.W.mroIn K C (.type "object") = some true ∧ PySem.W.findIn K (.ref C) f = some none ∧ fs.length < 1000 ∧
  D.nx σ (upd H2 dx (XdO dx ((f, y) :: fs)))
theorem ps_x1 (K : PySem.W.Frag) (ha : PE X o ta) (hv : PE X value tv) (hs : swapsWith value (some (.Attribute o f pos')) pos.line X.env = pure false) (hK : X.K = K := by rfl) : PS X (.Assign [.Attribute o f pos'] value pos) (sX1 K ta tv f) := by
  subst hK
  intro pins s σ H D I h
  refine plainObj_wpAny_Assign_Attribute (thn (hv pins s σ H _ I h) fun u s1 ⟨y, H1, I1, ry, q⟩ => thn (ha pins s1 σ H1 _ I1 q) fun ov s2 ⟨x, H2, I2, rx, a, C, dx, fs, ex, ea, ed, Z, mo, nf, hl, q2⟩ => ?_) hs
  subst ex
  obtain rfl : ov = Value.ref a := rx
  obtain ⟨⟨t, g⟩, _, _⟩ := (show ObjOk X.prog X.w H2 s2.heap a (ExcF a C (some dx)) from I2.hok a _ ea)
  obtain ⟨⟨mA, n, r, wi⟩, _, _⟩ := (show ObjOk X.prog X.w H2 s2.heap dx (XdO dx fs) from I2.hok dx _ ed)
  refine xset_some I2.kIn g n wi (by rw [List.length_map]; omega) Z mo nf fun h' n' sb => ?_
  have he : ∃ u, h'.get? dx = some u := by obtain ⟨o, _, _, e, _⟩ := id n'; exact ⟨o, e⟩
  refine ⟨σ, _, I2.write (x := dx) (e := dx) (o := XdO dx ((f, y) :: fs)) (by rw [ed]; exact True.intro) (.inl rfl) (fun b u hb z => (sb.2 b hb).trans z) he (xdO_ok n' (fun g => ?_) ?_), q2⟩
  · by_cases z : g = f
    · subst z
      simp only [List.lookup, beq_self_eq_true, if_true]
      exact ry
    · have z' : (g == f) = false := beq_eq_false_iff_ne.mpr z
      simp only [List.lookup, z', if_neg z]
      exact r g
  · rw [List.map_cons]
    exact PySem.Within.cons f u wi
def tXf (K : PySem.W.Frag) (ta : TE) (f : Str) : TE := fun σ H Q => ta σ H fun x H1 => ∃ a C dx fs v, x = .ref a ∧ H1 a = some (ExcD a C (some dx)) ∧ H1 dx = some (XdO dx fs) ∧ ExcX K C ∧ ExcN K C ∧ PySem.W.findIn K (.ref C) f = some none ∧ fs.lookup f = some v ∧ Q v H1
theorem pe_xf (K : PySem.W.Frag) (he : PE X o ta) (hK : X.K = K := by rfl) (hb : attributeBase o f X.env (eval o X.env) = eval o X.env := by rfl) : PE X (.Attribute o f pos) (tXf K ta f) := by
  subst hK
  intro pins s σ H Q I h
  refine attr_of hb (thn (he pins s σ H _ I h) fun u s1 ⟨x, H1, I1, rx, a, C, dx, fs, v, ex, ea, ed, Z, N, nf, l, q⟩ => ?_)
  subst ex
  obtain rfl : u = Value.ref a := rx
  obtain ⟨⟨o, vs, g, hc, hd, hdd⟩, _, _⟩ := (show ObjOk X.prog X.w H1 s1.heap a (ExcD a C (some dx)) from I1.hok a _ ea)
  obtain ⟨⟨mA, n, r, wi⟩, _, _⟩ := (show ObjOk X.prog X.w H1 s1.heap dx (XdO dx fs) from I1.hok dx _ ed)
  obtain ⟨u', hu, ru⟩ := RelO.some_of (v := v) (o := mA f) (by rw [← l]; exact r f)
  exact xget I1.kIn Z N g hc ⟨vs, hd⟩ hdd n nf hu (handed_of ru) ⟨v, H1, I1.tok _, ru, q⟩
def rIsinstD (K : PySem.W.Frag) : List V → Hp → VK → Prop := fun xs H Q => ∃ ea C od d c b, xs = [.ref ea, d] ∧ (∀ u, RelV d u → u = c) ∧ H ea = some (ExcD ea C od) ∧ ExcX K C ∧ PySem.W.kitOne K (.ref C) c = some b ∧ Q (.bl b) H
theorem call_isinstD (K : PySem.W.Frag) (h : X.K = K := by rfl) : CallR X (.builtin "isinstance") (rIsinstD K) := by
  subst h
  intro pins s σ H xs us Q I r h
  obtain ⟨ea, C, od, d, c, b, rfl, hd, he, Z, e, q⟩ := h
  obtain ⟨u, u', rfl, r1, r2⟩ := vals2 r
  cases (show u = Value.ref ea from r1)
  cases hd u' r2
  obtain ⟨⟨o, vs, ho, hc, _⟩, _⟩ := (show ObjOk X.prog X.w H s.heap ea (ExcD ea C od) from I.hok ea _ he)
  exact PySem.W.kia_one (kitx_exc Z) I.kIn ⟨o, ho, hc⟩ e (fun z => nomatch z) fun tk => ⟨.bl b, H, I.tok _, rfl, q⟩
end
end L2
namespace L2
open PySem PySem.Spec PyProof.Rows
def untr (H : Hp) (e : Addr) : Hp := fun b => if b = e then none else H b
theorem untr_same {H : Hp} {e : Addr} : untr H e e = none := if_pos rfl
theorem untr_ne {H : Hp} {e b : Addr} (h : b ≠ e) : untr H e b = H b := if_neg h
def CXF (P : Program) (w : World) : CXT := fun outer H s E e s' => ∃ (ea C : Addr) (a0 : Value) (B : Heap) (H' : Hp) (od : Option Addr),
  e = .ref ea ∧ s'.os = s.os ∧ AllBare s'.gens ∧ Heap.FlyingW B outer ea (.ref C) a0 s'.heap ∧ DictIs s'.heap ea od ∧ Fly (frs outer) H H' s.heap B s'.heap ∧ HOk P w H' B ∧ E (.ref C) od H'
def PassF (X : Cx) (E : St → XK) : Prop := ∀ (pins : List (Addr × Obj)) (σ : St) (H : Hp) (s : Shared) (e : Value) (s' : Shared), Inv X pins σ H s → CXF X.prog X.w X.stack H s (E σ) e s' → X.xe e s'
def LetsF (X : Cx) (E : XK) : Prop := ∀ (pins : List (Addr × Obj)) (σ : St) (H : Hp) (s : Shared) (e C : Addr) (od : Option Addr), Inv X pins σ H s → H e = some (ExcF e C od) → X.s₀.heap.get? e = none → E (.ref C) od (untr H e) → X.xe (.ref e) s
section
variable {P : Program} {w : World} {K : PySem.W.Frag} {mg : Str → Option Value} {base : Heap} {N : List Str} {qual : Str} {scope : Scope} {f : Addr} {cd : Value} {A : Around} {outer : List Env} {s : Shared} {H : Hp} {E : XK}
theorem letsF_cx : LetsF (cxOf (CXF P w) P w K mg base N qual scope f cd A outer s H E) E := by
  intro pins σ H1 s1 e C od I he h0 hE
  show wpAny _ _ (leaving _ (.ref e)) _ _ _
  have fr : frs (cxOf (CXF P w) P w K mg base N qual scope f cd A outer s H E).stack = s.heap.objs.size :: frs outer := frs_cons rfl
  have hin : ∀ env ∈ (cxOf (CXF P w) P w K mg base N qual scope f cd A outer s H E).stack, ∀ a, env.frame = some a → a ∈ e :: frs (cxOf (CXF P w) P w K mg base N qual scope f cd A outer s H E).stack := fun env hm b hb => List.mem_cons_of_mem _ (List.mem_filterMap.mpr ⟨env, hm, hb⟩)
  have frees := I.stkFree
  have stk := I.stack
  obtain ⟨⟨t, g⟩, _, _⟩ := (show ObjOk P w H1 s1.heap e (ExcF e C od) from I.hok e _ he)
  refine leaves_firstD (B := PySem.W.hideAll s1.heap (e :: frs (cxOf (CXF P w) P w K mg base N qual scope f cd A outer s H E).stack)) I.ok.frames (PySem.W.funFrames_hide stk hin) rfl g (fun b o q => PySem.W.of_hideAll _ q) (PySem.W.hideAll_none _ (List.mem_cons_self ..)) rfl rfl rfl fun h'' fl up dz => ?_
  have ne : ∀ b, b ∈ frs (cxOf (CXF P w) P w K mg base N qual scope f cd A outer s H E).stack → b ≠ e := fun b hb z => by
    have := frees b hb
    rw [z, he] at this
    cases this
  have keepB : ∀ b o, s1.heap.get? b = some o → b ≠ e → b ∉ frs (cxOf (CXF P w) P w K mg base N qual scope f cd A outer s H E).stack → (PySem.W.hideAll s1.heap (e :: frs (cxOf (CXF P w) P w K mg base N qual scope f cd A outer s H E).stack)).get? b = some o := fun b o q n1 n2 => PySem.W.hideAll_get _ q fun z => (List.mem_cons.mp z).elim n1 n2
  have n0 : ∀ b o, s.heap.get? b = some o → b ≠ e := fun b o q z => by
    have h0' : s.heap.get? e = none := h0
    rw [z, h0'] at q
    cases q
  have nL : ∀ b o, s.heap.get? b = some o → b ∉ frs outer → b ∉ frs (cxOf (CXF P w) P w K mg base N qual scope f cd A outer s H E).stack := fun b o q hb z => by
    rw [fr] at z
    rcases List.mem_cons.mp z with y | y
    · exact absurd (Heap.lt_size q) (by rw [y]; exact Nat.lt_irrefl _)
    · exact hb y
  have fly : Fly (frs outer) H (untr H1 e) s.heap (PySem.W.hideAll s1.heap (e :: frs (cxOf (CXF P w) P w K mg base N qual scope f cd A outer s H E).stack)) h'' := by
    refine ⟨fun b o q hb => ?_, fun b o q hb => ?_, fun b o q n => ?_, fun b xs q => ?_, fun b o u q => ?_, fun b ps q => ?_⟩
    · obtain ⟨o1, e1⟩ := I.base.there b o q (show _ ∉ ([] : List Addr) by simp)
      refine ⟨⟨o1, keepB b o1 e1 (n0 b o q) (nL b o q hb)⟩, fun n => ?_⟩
      exact keepB b o (I.base.keep b o q n hb (show _ ∉ ([] : List Addr) by simp)) (n0 b o q) (nL b o q hb)
    · obtain ⟨s1', q1⟩ := I.base.slot b o q (I.ok.frf b hb) hb (show _ ∉ ([] : List Addr) by simp)
      have hb' : b ∈ frs (cxOf (CXF P w) P w K mg base N qual scope f cd A outer s H E).stack := by rw [fr]; exact List.mem_cons_of_mem _ hb
      obtain ⟨s2', q2⟩ := up b _ q1 (by
        obtain ⟨_, o', q', d⟩ := stk.mem hb'
        rw [q1] at q'
        cases q'
        exact d)
      exact ⟨s2', q2⟩
    · rw [untr_ne (n0 b o q)]
      exact I.base.free b o q n (show _ ∉ ([] : List Addr) by simp)
    · have z := I.base.tups b xs q
      rw [untr_ne (fun y => by rw [y, he] at z; cases z)]
      exact z
    · have z := I.base.frzs b o u q
      rw [untr_ne (fun y => by rw [y, he] at z; cases z)]
      exact z
    · obtain ⟨m, z⟩ := I.base.tbls b ps q
      exact ⟨m, by rw [untr_ne (fun y => by rw [y, he] at z; cases z)]; exact z⟩
  refine ⟨e, C, _, _, untr H1 e, od, rfl, I.os, I.bare, fl, dz, fly, fun b u e1 => ?_, hE⟩
  have nb : b ≠ e := fun z => by rw [z, untr_same] at e1; cases e1
  rw [untr_ne nb] at e1
  refine (I.hok b u e1).stay (fun c v hc q => keepB c v q ?_ fun hm => ?_) (fun c q => ?_) fun c xs q => ?_
  · rintro rfl
    rcases hc with z | z
    · exact nb z.symm
    · rw [he] at z; cases z
  · have hn := frees c hm
    rcases hc with z | z
    · rw [z] at hn; rw [e1] at hn; cases hn
    · rw [z] at hn; cases hn
  · rw [untr_ne (fun y => by rw [y, he] at q; cases q)]; exact q
  · rw [untr_ne (fun y => by rw [y, he] at q; cases q)]; exact q
theorem pass_cxF {E2 : XK} (hE : ∀ c d H, E2 c d H → E c d H) : PassF (cxOf (CXF P w) P w K mg base N qual scope f cd A outer s H E) (fun _ => E2) := by
  intro pins σ H1 s1 e s' I c
  obtain ⟨ea, C, a0, B, H2, od, rfl, os, bare, fl, dz, fy, hok, hE2⟩ := c
  show wpAny _ _ (leaving _ (.ref ea)) _ _ _
  have fr : frs (cxOf (CXF P w) P w K mg base N qual scope f cd A outer s H E).stack = s.heap.objs.size :: frs outer := frs_cons rfl
  refine leaves_onD I.ok.frames rfl fl dz fun h'' fl' up dz' => ?_
  have f2 := fy.up (h3 := h'') fun b hb o e1 => up b o e1 (by
    obtain ⟨_, o', q, d⟩ := fl.2.2.1.mem hb
    rw [e1] at q; cases q; exact d)
  refine ⟨ea, C, a0, B, H2, od, rfl, os.trans I.os, bare, fl', dz', f2.after (u := I.base) (fun b o e1 hb => ?_) (fun b hb => by rw [fr]; exact List.mem_cons_of_mem _ hb) I.ok.frf, hok, hE _ _ _ hE2⟩
  rw [fr]
  intro z
  rcases List.mem_cons.mp z with z | z
  · exact absurd (Heap.lt_size e1) (by rw [z]; exact Nat.lt_irrefl _)
  · exact hb z
end
structure CalleeF (P : Program) (w : World) (K : PySem.W.Frag) (mg : Str → Option Value) (base : Heap) (k : Nat) (x : Str) (ps : List Str) (dvs : List V) (sp : Sp) : Prop where
  ex : ∃ (f : Addr) (fd : FuncData), FnOk P w K mg base (CXF P w) k f fd ps sp ∧ (∀ m, m ≤ dvs.length → ∃ ds, Vals (dvs.drop m) ds ∧ Binds K fd ps ds) ∧ PySem.W.keepIn K (.ref f) = true ∧ mg x = some (.ref f)
section
variable {P : Program} {w : World} {K : PySem.W.Frag} {mg : Str → Option Value} {base : Heap}
theorem Def.okF {x : Str} {st : Stmt} {N ps : List Str} {k : Nat} {sp : Sp} (D : Def K mg x st ps) (S : FnScope N ps (defScope st)) (len : ∀ vs H Q E, sp vs H Q E → vs.length = ps.length)
    (hbody : ∀ (f : Addr) (cdv : Value) (A : Around) (outer : List Env) (s : Shared) (H : Hp) (vs : List V) (Q : VK) (E : XK), Room k (A.deeper (envOfC x (defScope st) s.heap.objs.size f cdv)) → sp vs H Q E →
      ∃ t, PSs (cxOf (CXF P w) P w K mg base N x (defScope st) f cdv A outer s H E) (defBody st) t ∧ t { nx := fun _ H' => Q .non H', rt := Q } (start N vs) H) : CalleeF P w K mg base (k + 1) x ps [] sp := by
  obtain ⟨f, fd, ⟨⟨oc, od, kV, doc, pm, an, cdv, ct, osl, rfl, lk, hcd⟩, kp⟩, b, m⟩ := D.ex
  refine ⟨f, _, fn_of lk hcd S len fun A outer s H vs Q E hr hsp => hbody f cdv A outer s H vs Q E hr hsp, fun j hj => ⟨[], ?_, b⟩, kp, m⟩
  rw [List.drop_nil]; exact .nil
end
section
variable {X : Cx} {k n : Nat} {ps : List Str} {dvs : List V} {sp : Sp} {x : Str} {p pos : Pos} {e : Expr} {es : List Expr} {t : TA} {E : St → XK}
theorem run_fnF {f : Addr} {fd : FuncData} {ds : List Value} {pins : List (Addr × Obj)} {σ : St} {H : Hp} {s : Shared} {Q : VK} {us : List Value} {vs : List V} (F : FnOk X.prog X.w X.K X.mg X.base (CXF X.prog X.w) k f fd ps sp) (hr : Room k X.A) (hb : Binds X.K fd ps ds) (hd : Vals dvs ds) (hx : PassF X E)
    (I : Inv X pins σ H s) (r : Vals vs us) (h : sp (vs ++ dvs) H Q (E σ)) : wpAny (model X.prog X.w) X.A (call (.ref f) us) (EP X pins σ Q) X.xe s := by
  have r2 : Vals (vs ++ dvs) (us ++ ds) := r.append hd
  have hl : (us ++ ds).length = ps.length := by rw [← r2.length]; exact F.len _ _ _ _ h
  refine wpAny_call (codeAny_mono (F.run X.A X.stack s H ⟨us, []⟩ (us ++ ds) (vs ++ dvs) Q (E σ) hr I.env0 (hb s us I.kIn hl) r2 h) fun r s' hq => ?_)
  cases r with
  | error e => exact hx pins σ H s e s' I hq
  | ok fl =>
    cases fl with
    | ret u => exact I.after hq
    | next => exact False.elim hq
    | brk => exact False.elim hq
    | cont => exact False.elim hq
theorem pe_fnF (m : Nat) (C : CalleeF X.prog X.w X.K X.mg X.base k x ps dvs sp) (hx : PassF X E) (hr : Room n X.A) (hg : Gl X x) (ha : PA X (e :: es) t) (hm : m ≤ dvs.length := by decide) (hk : k ≤ n := by decide) (hdb : (x == ("__debug__" : Str)) = false := by decide)
    (he : starEach (e :: es) X.env = (false, eval e X.env) :: starEach es X.env := by rfl) (hpl : (backTo pos (starEach es X.env)).any (·.1) = false := by rfl) :
    PE X (.Call (.Name x p) (e :: es) [] pos) (tCallS sp (dvs.drop m) E t) := by
  obtain ⟨f, fd, F, b, kp, mm⟩ := C.ex
  obtain ⟨ds, hv, hb⟩ := b m hm
  intro pins s σ H Q I h
  refine wpAny_Call_Name_kw (ld_glob I hg mm ?_ hdb)
  refine PySem.W.callWith_K (h₀ := X.base) I.ok.mod.kin kp (thn (ha pos pins s σ H _ I h) fun us s1 ⟨vs, H1, I1, r, q⟩ => ⟨I1.kIn, ?_⟩) he hpl
  exact run_fnF F (hr.mono hk) hb hv hx I1 r q
end
end L2
namespace L2
open PySem PySem.Spec PyProof.Rows
structure ExcI (K : PySem.W.Frag) (mg : Str → Option Value) (x : Str) (C fI : Addr) : Prop where
  mg : mg x = some (.ref C)
  exc : excInI K C fI = true
  at_ : PySem.W.findIn K (.ref C) "__init__" = some (some (.ref fI))
section
variable {X : Cx} {C : Addr} {x : Str} {E : XK} {np cpos pos : Pos} {e : Expr} {es : List Expr} {t : TA} {k n : Nat} {ps : List Str} {kb : FuncData → Prop} {sp : Sp}
def tRaiseI (C : Addr) (sp : Sp) (E : XK) (t : TA) : TS := fun _ σ H => t σ H fun vs H1 => vs.length ≤ 1000 ∧ ∀ ea, H1 ea = none → sp (.ref ea :: vs) (upd H1 ea (ExcF ea C none)) (fun r H2 => r = .non ∧ ∃ od, H2 ea = some (ExcF ea C od) ∧ E (.ref C) od (untr H2 ea)) E0
theorem ps_raiseI (hl : LetsF X E) (M : ∃ fI, ExcI X.K X.mg x C fI) (Z : CalleeM X.prog X.w X.K X.mg X.base k C "__init__" ps [] kb sp) (hr : Room n X.A) (hh : X.A.handled = none) (hg : Gl X x) (ha : PA X (e :: es) t) (hk : k + 1 ≤ n := by decide) (hdb : (x == ("__debug__" : Str)) = false := by decide) (hx0 : X.ex = [] := by rfl)
    (hst : starEach (e :: es) X.env = (false, eval e X.env) :: starEach es X.env := by rfl) (hpl : (backTo cpos (starEach es X.env)).any (·.1) = false := by rfl) : PS X (.Raise (some (.Call (.Name x np) (e :: es) [] cpos)) none pos) (tRaiseI C sp E t) := by
  obtain ⟨fI, M⟩ := M
  obtain ⟨f, fd, F, mt, hkb, b⟩ := Z.ex
  have ef : f = fI := by
    have z := mt.at_
    rw [M.at_] at z
    cases z
    rfl
  subst ef
  obtain ⟨ds, hv, hb⟩ := b 0 (Nat.zero_le _)
  rw [List.drop_zero] at hv
  cases hv
  intro pins s σ H D I h
  have hpl' : (backTo cpos (starEach (e :: es) X.env)).any (·.1) = false := by rw [hst]; exact hpl
  refine raise_init (C := C) (fI := f) hh hpl' (ld_glob I hg M.mg ⟨rfl, ?_⟩ hdb)
  have hA := ha cpos pins s σ H _ I h
  rw [hst] at hA ⊢
  refine Calls.evalArgs_plain ?_
  refine thn hA fun us s2 ⟨vs, H2, I2, r2, hlen, q2⟩ => ?_
  have hfn : ∃ oI, s2.heap.get? f = some oI ∧ oI.cls = .type "function" := by
    have z : PySem.W.typeIn X.K (.ref f) = some (.type "function") := beq_iff_eq.mp mt.fn
    obtain ⟨oI, h1, h2⟩ := Option.map_eq_some_iff.mp (show (X.K.lookup f).map (·.cls) = _ from z)
    exact ⟨oI, I2.kIn _ _ h1, h2⟩
  refine ⟨rfl, by rw [← r2.length]; exact Nat.le_of_lt (small1000 hlen), clsI_of I2.kIn M.exc, hfn, fun h' ea kp hsz ⟨tt, ge⟩ => ?_⟩
  have fr := I2.hok.fresh hsz
  have I3 : Inv X pins σ (upd H2 ea (ExcF ea C none)) { s2 with heap := h' } := I2.laid (t' := s2.toks) kp hsz (excF_ok ge)
  have hq := q2 ea fr
  have rr : Vals (V.ref ea :: vs) (Value.ref ea :: us) := .cons rfl r2
  have hll : (Value.ref ea :: us).length = ps.length := by rw [← rr.length]; exact F.len _ _ _ _ hq
  have s0n : X.s₀.heap.get? ea = none := by
    cases z : X.s₀.heap.get? ea with
    | none => rfl
    | some o =>
      obtain ⟨o', e'⟩ := I2.base.there ea o z (by rw [hx0]; simp)
      exact absurd (Heap.lt_size e') (Nat.not_lt.mpr hsz)
  refine wpAny_call (codeAny_mono (F.run _ X.stack _ _ ⟨.ref ea :: us, []⟩ (.ref ea :: us) _ _ E0 ((hr.mono hk).make C us []) (I3.env0.make C us []) (by have := hb _ (.ref ea :: us) I3.kIn (by rw [List.append_nil]; exact hll); rw [List.append_nil] at this; exact this) rr hq) fun r s' hq' => ?_)
  cases r with
  | error e => exact (pass0 (X := X)) pins σ _ _ e s' I3 hq'
  | ok fl =>
    cases fl with
    | ret u =>
      obtain ⟨v, H', I4, rv, ev, od, eH, hE⟩ := I3.after hq'
      subst ev
      cases (show u = Value.none from rv)
      obtain ⟨⟨t', g'⟩, _, _⟩ := (show ObjOk X.prog X.w H' s'.heap ea (ExcF ea C od) from I4.hok ea _ eH)
      exact ⟨rfl, clsI_of I4.kIn M.exc, ⟨t', od, g'⟩, hl pins σ H' s' ea C od I4 eH s0n hE⟩
    | next => exact False.elim hq'
    | brk => exact False.elim hq'
    | cont => exact False.elim hq'
end
def xeF (X : Cx) (pn : List (Addr × Obj)) (E : St → XK) : Value → Shared → Prop := fun e s' => ∃ (pins : List (Addr × Obj)) (σ : St) (H : Hp) (s1 : Shared), Inv (X.pinned pn) pins σ H s1 ∧ CXF X.prog X.w X.stack H s1 (E σ) e s'
abbrev tcxF (X : Cx) (pn : List (Addr × Obj)) (E : St → XK) : Cx := (X.pinned pn).wish (xeF X pn E)
section
variable {X : Cx} {pins : List (Addr × Obj)} {σ : St} {H : Hp} {s : Shared}
theorem pass_tryF {pn : List (Addr × Obj)} {E : St → XK} : PassF (tcxF X pn E) E := fun pins σ H s _ _ I c => ⟨pins, σ, H, s, I.unwish, c⟩
end
section
variable {X : Cx}
def tTryF (K : PySem.W.Frag) (c : Value) (i : Nat) (tb : (St → XK) → TS) (th : TS) : TS := fun D σ H => ∃ E : St → XK, tb E D σ H ∧ ∀ σ' c0 d H', E σ' c0 d H' → σ'.length = σ.length ∧ PySem.W.exmOne K c0 c = some true ∧
  ∀ (ea C : Addr), c0 = .ref C → H' ea = none → th (D.gone i) (σ'.set i (some (.ref ea))) (upd H' ea (ExcD ea C d))
theorem ps_tryF {x n : Str} {c : Value} {i : Nat} {body : List Stmt} {b₀ : Stmt} {suite : List Stmt} {np hpos pos : Pos} {tb : (St → XK) → TS} {th : TS} (hg : Gl X x) (hm : X.mg x = some c) (hN : X.N.Nodup) (hi : X.N[i]? = some n)
    (hl : X.env.scope.names.lookup n = some .local) (hst : X.stack = X.env :: X.outer) (hf : X.env.frame = some X.env.locals) (hx0 : X.ex = [])
    (hb : ∀ (pn : List (Addr × Obj)) (E : St → XK), PSs (tcxF X pn E) body (tb E)) (hs : ∀ ea, PSs (hcx X ea) (b₀ :: suite) th) (hdb : (x == ("__debug__" : Str)) = false := by decide) :
    PS X (.Try body [.ExceptHandler (some (.Name x np)) (some n) (b₀ :: suite) hpos] [] [] pos) (tTryF X.K c i tb th) := by
  intro pins s σ H D I h
  obtain ⟨E, h1, h2⟩ := h
  have lenσ := I.len
  refine wpAny_Try_except ?_
  refine wpAny_mono (hb (X.pn ++ pins) E [] s σ H D (I.toPinned.wish _) h1) (fun fl s1 q => ?_) (fun e s1 q => ?_)
  · cases fl with
    | next => obtain ⟨σ', H', J, q⟩ := q; exact wpAny_execs_nil ⟨σ', H', J.unwish.ofPinned, q⟩
    | brk => obtain ⟨σ', H', J, q⟩ := q; exact ⟨σ', H', J.unwish.ofPinned, q⟩
    | cont => obtain ⟨σ', H', J, q⟩ := q; exact ⟨σ', H', J.unwish.ofPinned, q⟩
    | ret u => obtain ⟨v, σ', H', J, r, q⟩ := q; exact ⟨v, σ', H', J.unwish.ofPinned, r, q⟩
  · obtain ⟨ps, σ1, H1, s0, J0, ea, C, a0, B, H2, od, rfl, os, bare, fl, dz0, fy, hok, hE⟩ := q
    have J1 : Inv X pins σ1 H1 s0 := J0.ofPinned
    obtain ⟨lσ, hex, hth⟩ := h2 σ1 _ _ H2 hE
    have he2 : H2 ea = none := by
      cases q : H2 ea with
      | none => rfl
      | some o => obtain ⟨u, e⟩ := (hok ea o q).at_; rw [fl.2.1] at e; cases e
    have hframes : X.A.frames = some (X.env :: X.outer) := hst ▸ I.ok.frames
    have flup : ∀ {h3 : Heap}, s1.heap.UpToSlots h3 → Fly (frs X.stack) H1 H2 s0.heap B h3 := fun {h3} up => fy.up fun b hb o e1 => up b o e1 (by
      obtain ⟨_, o', q, d⟩ := fl.2.2.1.mem hb
      rw [e1] at q; cases q; exact d)
    have inv : ∀ {h3 : Heap} {t : Nat}, s1.heap.UpToSlots h3 → B.StaysIn h3 → Inv X pins σ1 H2 { s1 with heap := h3, toks := t } := fun {h3 t} up st =>
      J1.call' (s' := { s1 with heap := h3, toks := t }) (ch := []) os ((flup up).un st) (hok.kept st) bare (fun _ z => nomatch z)
    refine looks_onD hframes hf (hst ▸ fl) dz0 fun h4 held up4 dz4 => ?_
    refine landsD held dz4 fun h5 fl5 up5 dz5 => ?_
    have up45 := up4.trans up5
    have I5 : Inv X pins σ1 H2 { s1 with heap := h5 } := inv (t := s1.toks) up45 fl5.1
    obtain ⟨ob, hob, hobc⟩ := fl5.there
    refine wpAny_handleBy_cons (codeAny_handlers_test (ld_glob (X := hcx X ea) (I5.toH ea) hg hm ?_ hdb)) (by intro q; cases q)
    have LT : PySem.W.Looks (model X.prog X.w) h5 (typeOf (.ref ea)) (.ref C) := hobc ▸ (PySem.W.Looks.ld hob).andThen .now
    refine (PySem.W.exm_one (M := model X.prog X.w) (K := X.K) (h := h5) I5.kIn LT hex).here ?_
    refine codeAny_handlers_suite_as ?_
    refine lands_againD fl5 dz5 fun h6 fl6 up6 dz6 => ?_
    have I6 : Inv X pins σ1 H2 { s1 with heap := h6 } := inv (t := s1.toks) (up45.trans up6) fl6.1
    obtain ⟨oe, ws, hoe, hoec, hoed, _⟩ := fl6.first
    have hodd : oe.dict = od := by
      obtain ⟨o2, z1, z2⟩ := dz6
      rw [hoe] at z1
      cases z1
      exact z2
    have new : ObjOk X.prog X.w (upd H2 ea (ExcD ea C od)) h6 ea (ExcD ea C od) := ⟨⟨oe, ws, hoe, hoec, hoed, hodd⟩, ⟨oe, hoe⟩, fun g1 g2 ⟨o, vs, e1, e2, e3, e4⟩ k => ⟨o, vs, k _ e1, e2, e3, e4⟩⟩
    have none0 : X.s₀.heap.get? ea = none := by
      cases q : X.s₀.heap.get? ea with
      | none => rfl
      | some o =>
        exfalso
        have hx : ea ∉ X.ex := by rw [hx0]; simp
        obtain ⟨o1, e1⟩ := J1.base.there ea o q hx
        by_cases hb : ea ∈ frs X.stack
        · obtain ⟨_, o', q', d⟩ := fl6.2.2.1.mem (hst ▸ hb)
          rw [hoe] at q'; cases q'; exact d _ hoed
        · obtain ⟨⟨o', q'⟩, _⟩ := fy.kp ea o1 e1 hb
          rw [fl.2.1] at q'; cases q'
    have ne : ∀ {b : Addr} {u : HO}, H2 b = some u → b ≠ ea := fun {b u} e z => by rw [z, he2] at e; cases e
    have nL : X.env.locals ≠ ea := fun z => by
      obtain ⟨m, ⟨o, es, ep, ho, hd, _⟩, _⟩ := I6.loc
      rw [z] at ho
      have ho2 : h6.get? ea = some o := ho
      rw [hoe] at ho2; cases ho2; rw [hoed] at hd; cases hd
    have I7 : Inv X pins σ1 (upd H2 ea (ExcD ea C od)) { s1 with heap := h6 } := by
      refine ⟨I6.ok, I6.os, I6.bare, ⟨I6.base.keep, I6.base.slot, fun b o e n hx => ?_, I6.base.there, fun b xs e => ?_, fun b o u e => ?_, fun b ps e => ?_⟩, I6.loc, I6.cell, ?_, fun y c e => ?_, fun p hp => ?_, fun b u e => ?_, I6.len⟩
      · rw [upd_ne (fun z => by rw [z, none0] at e; cases e)]; exact I6.base.free b o e n hx
      · have q := I6.base.tups b xs e; rw [upd_ne (ne q)]; exact q
      · have q := I6.base.frzs b o u e; rw [upd_ne (ne q)]; exact q
      · obtain ⟨m, q⟩ := I6.base.tbls b ps e; exact ⟨m, by rw [upd_ne (ne q)]; exact q⟩
      · rw [upd_ne nL]; exact I6.free
      · have nC : c ≠ ea := fun z => by
          obtain ⟨v, o, ho, hd⟩ := I6.cell y c e
          rw [z] at ho
          have ho2 : h6.get? ea = some o := ho
          rw [hoe] at ho2; cases ho2; rw [hoed] at hd; cases hd
        rw [upd_ne nC]; exact I6.freeC y c e
      · obtain ⟨e, n, ne1, nf, d⟩ := I6.pin p hp
        obtain ⟨e0, n0, _, _, _⟩ := J1.pin p hp
        have np : p.1 ≠ ea := fun z => by
          have hb : p.1 ∉ frs X.stack := fun hm => (List.mem_cons.mp (J1.stkSub _ hm)).elim ne1 nf
          have q := (fy.kp p.1 p.2 e0 hb).2 n0
          rw [z, fl.2.1] at q; cases q
        exact ⟨e, by rw [upd_ne np]; exact n, ne1, nf, d⟩
      · by_cases hb : b = ea
        · subst hb; rw [upd_same] at e; cases e; exact new
        · rw [upd_ne hb] at e
          exact (I6.hok b u e).stay (fun c v _ q => q) (fun c q => by rw [upd_ne (ne q)]; exact q) fun c xs q => by rw [upd_ne (ne q)]; exact q
    refine store_ok (X := hcx X ea) (I7.toH ea) hN hi (.inl hl) (v := .ref ea) rfl (fun s7 I8 => ?_) (.inr hl)
    refine wpAny_mono (hs ea pins s7 _ _ (D.gone i) I8 (hth ea C rfl he2)) (fun fl8 s8 q8 => ?_) fun _ _ z => z.elim
    cases fl8 with
    | next =>
      obtain ⟨σ', H', J, q⟩ := q8
      exact goes_ok (J.ofH I.ok) hN hi hl fun s9 J9 => ⟨_, H', J9, q⟩
    | brk =>
      obtain ⟨σ', H', J, q⟩ := q8
      exact goes_ok (J.ofH I.ok) hN hi hl fun s9 J9 => ⟨_, H', J9, q⟩
    | cont =>
      obtain ⟨σ', H', J, q⟩ := q8
      exact goes_ok (J.ofH I.ok) hN hi hl fun s9 J9 => ⟨_, H', J9, q⟩
    | ret u =>
      obtain ⟨v, σ', H', J, r, q⟩ := q8
      exact goes_ok (J.ofH I.ok) hN hi hl fun s9 J9 => ⟨v, _, H', J9, r, q⟩
end
end L2
namespace L2
open PySem PySem.Spec PyProof.Rows
theorem excN_of {K : PySem.W.Frag} {C fI : Addr} (q : excInI K C fI = true) (sa : PySem.W.findIn K (.ref C) "__setattr__" = some (some (.builtin "object.__setattr__"))) : ExcN K C := by
  have key : ∃ cd, PySem.W.clsIn K C = some cd ∧ refsThen cd.mro = true ∧ cd.hasDict = true := by
    unfold excInI at q
    split at q
    · rename_i dd cd sl ho
      split at q
      · rename_i C' bm k0 k1 k2 k3 n k5 hm hs
        simp only [Bool.and_eq_true, beq_iff_eq, Bool.not_eq_true'] at q
        obtain ⟨⟨⟨⟨⟨⟨⟨rfl, rfl⟩, hdel⟩, hdc⟩, ht⟩, hok⟩, hni⟩, hrf⟩ := q
        refine ⟨cd, ?_, ?_, hdc⟩
        · unfold PySem.W.clsIn
          rw [ho]
        · rw [hm]
          exact hrf
      · cases q
    · cases q
  refine ⟨key, sa, ?_⟩
  obtain ⟨cd, h1, _, h2⟩ := key
  unfold PySem.W.hasDictIn
  rw [h1]
  exact h2
section
variable {X : Cx}
def rIsinstD2 (K : PySem.W.Frag) : List V → Hp → VK → Prop := fun xs H Q => ∃ ea C od p D1 D2 b1 b2, xs = [.ref ea, .ref p] ∧ H p = some (.tup [.ref D1, .ref D2]) ∧ H ea = some (ExcD ea C od) ∧ ExcX K C ∧ PySem.W.kitOne K (.ref C) (.ref D1) = some b1 ∧ PySem.W.kitOne K (.ref C) (.ref D2) = some b2 ∧ Q (.bl (b1 || b2)) H
theorem call_isinstD2 (K : PySem.W.Frag) (h : X.K = K := by rfl) : CallR X (.builtin "isinstance") (rIsinstD2 K) := by
  subst h
  intro pins s σ H xs us Q I r h
  obtain ⟨ea, C, od, p, D1, D2, b1, b2, rfl, hp, he, Z, e1, e2, q⟩ := h
  obtain ⟨u, u', rfl, r1, r2⟩ := vals2 r
  cases (show u = Value.ref ea from r1)
  cases r2
  obtain ⟨⟨o, vs, ho, hc, _⟩, _⟩ := (show ObjOk X.prog X.w H s.heap ea (ExcD ea C od) from I.hok ea _ he)
  obtain ⟨_, its, rv, pl⟩ := (show ObjOk X.prog X.w H s.heap p (.tup [.ref D1, .ref D2]) from I.hok p _ hp)
  obtain ⟨w1, w2, rfl, q1, q2⟩ := vals2 rv
  cases q1
  cases q2
  obtain ⟨⟨oc, od', dat, sl⟩, g1, g2, n, g3⟩ := pl
  simp only at g2 g3
  subst g2 g3
  have ka : PySem.W.kitAny X.K (.ref C) [.ref D1, .ref D2] = some (b1 || b2) := by
    unfold PySem.W.kitAny
    rw [e1]
    cases b1 with
    | true => rfl
    | false =>
      show PySem.W.kitAny X.K (.ref C) [.ref D2] = some b2
      unfold PySem.W.kitAny
      rw [e2]
      cases b2 <;> rfl
  exact PySem.W.kia_tup (kitx_exc Z) I.kIn ⟨o, ho, hc⟩ g1 ka (fun z => nomatch z) fun tk => ⟨.bl (b1 || b2), H, I.tok _, rfl, q⟩
end
end L2
namespace L2
open PySem PySem.Spec PyProof.Rows PyProof
section
variable {X : Cx}
def rEqTS (K : PySem.W.Frag) : R2 := fun x y H Q => ∃ (a b : Addr) (ns : List Int), x = .ref a ∧ y = .ref b ∧ SqT K H a (ns.map V.int) ∧ SqT K H b (ns.map V.int) ∧ Q (.bl true) H
theorem op_eqTSK (K : PySem.W.Frag) (hu : X.A.units < cLine) (h : X.K = K := by rfl) : OpR X (compareOp .Eq) (rEqTS K) := by
  subst h
  intro pins s σ H x y v u Q I rx ry h
  obtain ⟨a, b, ns, rfl, rfl, ha, hb, q⟩ := h
  cases rx
  cases ry
  obtain ⟨its, r1, p1, _⟩ := I.tuple ha
  obtain ⟨its2, r2, p2, _⟩ := I.tuple hb
  have i1 : IntsAre its ns := intsAre_of r1
  have i2 : IntsAre its2 ns := intsAre_of r2
  have l1 := i1.length
  have l2 := i2.length
  refine SeqAt.RcAt.tuples (A := X.A) (e := fun j => ns.getD j 0 == ns.getD j 0) p1 p2 hu (fun j h1 h2 => ?_) X.prog X.w X.xe _ ?_
  · exact eqAt_ints i1 i2 j (by simpa using h1) (by simpa using h2)
  · refine ⟨.bl true, H, I, ?_, q⟩
    show _ = Value.bool true
    simp [l1, l2]
end
end L2
namespace My
open PySem L2 PyProof.Rows
seal PE PT PW PA PS PSs PG PGs PI OpR CallR TruR IxR MtR MtM PSet PIp PC
def top (i : Nat) : Stmt := PySem.Challenge.pw_crossracks_k44_parted.main.body.getD i (.Pass ⟨0, 0, 0, 0⟩)
structure Txt (K : PySem.W.Frag) (mg : Str → Option Value) : Prop where
  m_len : mg "len" = none
  m_isinstance : mg "isinstance" = none
  m_int : mg "int" = none
  m_bool : mg "bool" = none
  m_tuple : mg "tuple" = none
  m_list : mg "list" = none
  m_range : mg "range" = none
  m_abs : mg "abs" = none
  m_min : mg "min" = none
  m_max : mg "max" = none
  m_sorted : mg "sorted" = none
  m_enumerate : mg "enumerate" = none
  m_zip : mg "zip" = none
  m_ValueError : mg "ValueError" = none
structure TxtC (K : PySem.W.Frag) (mg : Str → Option Value) (C_HallError : Addr) (C_Engaged : Addr) (C_TooFull : Addr) (C_NoTable : Addr) (C_NoTurns : Addr) (C_Wide : Addr) : Prop where
  mg_HallError : mg "HallError" = some (.ref C_HallError)
  mg_Engaged : mg "Engaged" = some (.ref C_Engaged)
  mg_TooFull : mg "TooFull" = some (.ref C_TooFull)
  mg_NoTable : mg "NoTable" = some (.ref C_NoTable)
  mg_NoTurns : mg "NoTurns" = some (.ref C_NoTurns)
  mg_Wide : mg "Wide" = some (.ref C_Wide)
  i_TooFull : ∃ fI, ExcI K mg "TooFull" C_TooFull fI
  n_TooFull : ExcN K C_TooFull
  x_TooFull : ExcX K C_TooFull
  kv_TooFull : PySem.W.kitOne K (.ref C_TooFull) (.type "ValueError") = some true
  kh_TooFull : PySem.W.exmOne K (.ref C_TooFull) (.ref C_HallError) = some true
  kx_TooFull_HallError : PySem.W.kitOne K (.ref C_TooFull) (.ref C_HallError) = some true
  kx_TooFull_Engaged : PySem.W.kitOne K (.ref C_TooFull) (.ref C_Engaged) = some false
  kx_TooFull_TooFull : PySem.W.kitOne K (.ref C_TooFull) (.ref C_TooFull) = some true
  kx_TooFull_NoTable : PySem.W.kitOne K (.ref C_TooFull) (.ref C_NoTable) = some false
  kx_TooFull_NoTurns : PySem.W.kitOne K (.ref C_TooFull) (.ref C_NoTurns) = some false
  kx_TooFull_Wide : PySem.W.kitOne K (.ref C_TooFull) (.ref C_Wide) = some false
  f_TooFull_side : PySem.W.findIn K (.ref C_TooFull) "side" = some none
  f_TooFull_rack : PySem.W.findIn K (.ref C_TooFull) "rack" = some none
  f_TooFull_many : PySem.W.findIn K (.ref C_TooFull) "many" = some none
def cell (ns : List Int) (k : Nat) : Int := ns.getD k 0
theorem at_nat {ns : List Int} {k : Nat} (h : k < ns.length) : atI (ns.map V.int) (k : Int) = some (.int (cell ns k)) := atI_nat (by
  rw [List.getElem?_map, List.getElem?_eq_getElem h]
  simp [cell, List.getD, h])
theorem same_new {H : Hp} {p : Addr} (h : H p = none) (o : HO) : Same H (upd H p o) := fun b u q => by rw [upd_ne (ne_of_none q h)]; exact q
theorem Same.put {H H' : Hp} {l : Addr} {o : HO} (s : Same H H') (hl : H l = none) : Same H (upd H' l o) := fun b u q => by
  rw [upd_ne (ne_of_none q hl)]
  exact s b u q
def SameX (t : Addr) (H H' : Hp) : Prop := ∀ b u, b ≠ t → H b = some u → H' b = some u
def spCell (K : PySem.W.Frag) : Sp := fun vs H Q _ => ∃ (a : Addr) (ns : List Int) (k : Nat), vs = [.ref a, .int k] ∧ SqL K H a (ns.map V.int) ∧ Q (.int (cell ns k)) H
def spLaw (K : PySem.W.Frag) : Sp := fun vs H Q _ => ∃ (a : Addr) (ns : List Int), vs = [.ref a] ∧ SqL K H a (ns.map V.int) ∧ ns.length ≤ 63 ∧ ∀ H', Q (.bl true) H'
def spMixed : Sp := fun vs H Q _ => ∃ (c : Int) (k : Nat), vs = [.int c, .int k] ∧ k ≤ 63 ∧ ∀ v : Int, 0 ≤ v → v < 2147483647 → Q (.int v) H
def spWholeI : Sp := fun vs H Q _ => ∃ i : Int, vs = [.int i] ∧ Q (.bl true) H
def spDigit : Sp := fun vs H Q _ => ∃ (l : Addr) (n m : Int), vs = [.ref l, .int m] ∧ H l = some (.lst [.int n]) ∧ 0 < m ∧ m < 1000 ∧ Q (.int (n % m)) (upd H l (.lst [.int (n / m)]))
def oN : Option Nat → V
  | none => .non
  | some n => .int (n : Nat)
def inP (p : Int × Int) : Prop := (0 ≤ p.1 ∧ p.1 < 32) ∧ 0 ≤ p.2 ∧ p.2 < 32
def PrAt (H : Hp) (a : Addr) (p : Int × Int) : Prop := H a = some (.tup [.int p.1, .int p.2])
def PrsAt (H : Hp) (as : List Addr) (ps : List (Int × Int)) : Prop := Paired (PrAt H) as ps
theorem PrsAt.mono {H H' : Hp} {as : List Addr} {ps : List (Int × Int)} (s : ∀ a xs, H a = some (.tup xs) → H' a = some (.tup xs)) (h : PrsAt H as ps) : PrsAt H' as ps := Paired.mapP h fun a p z => s _ _ z
theorem PrsAt.same {H H' : Hp} {as : List Addr} {ps : List (Int × Int)} (s : Same H H') (h : PrsAt H as ps) : PrsAt H' as ps := h.mono fun a xs z => s _ _ z
theorem pr_snoc {F : Addr → Int × Int → Prop} {a : Addr} {p : Int × Int} : ∀ {as : List Addr} {ps : List (Int × Int)}, Paired F as ps → F a p → Paired F (as ++ [a]) (ps ++ [p])
  | _, _, .nil, h => .cons h .nil
  | _, _, .cons r t, h => .cons r (pr_snoc t h)
def spFree : Sp := fun vs H Q _ => ∃ (l : Addr) (n m : Int), vs = [.ref l, .int m] ∧ H l = some (.lst [.int n]) ∧ 0 ≤ m ∧ m ≤ 60 ∧ ∀ (r : Addr) (as : List Addr) (ps : List (Int × Int)) (H' : Hp), SameX l H H' → H r = none → H' r = some (.lst (as.map V.ref)) → PrsAt H' as ps → (∀ p ∈ ps, inP p) → ps.length ≤ 60 → Q (.ref r) H'
def spPairs (K : PySem.W.Frag) : Sp := fun vs H Q _ => ∃ (a : Addr) (ns : List Int) (st : Nat), vs = [.ref a, .int st, .int ((st + 60 : Nat) : Int)] ∧ SqL K H a (ns.map V.int) ∧ ns.length ≤ 63 ∧ st ≤ 3 ∧
  ∀ (r : Addr) (as : List Addr) (ps : List (Int × Int)) (H' : Hp), Same H H' → H r = none → H' r = some (.lst (as.map V.ref)) → PrsAt H' as ps → (∀ p ∈ ps, inP p) → ps.length ≤ 60 → Q (.ref r) H'
theorem most4 {v : Int} : ∃ m : Int, atI ([6, 6, 6, 32].map V.int) (v % 4) = some (.int m) ∧ 1 ≤ m ∧ m ≤ 32 := by
  rcases (show v % 4 = 0 ∨ v % 4 = 1 ∨ v % 4 = 2 ∨ v % 4 = 3 by omega) with z | z | z | z <;> rw [z]
  · exact ⟨6, rfl, by decide, by decide⟩
  · exact ⟨6, rfl, by decide, by decide⟩
  · exact ⟨6, rfl, by decide, by decide⟩
  · exact ⟨32, rfl, by decide, by decide⟩
section
variable {P : Program} {w : World} {K : PySem.W.Frag} {mg : Str → Option Value} {base : Heap}
theorem sc__law_cell_at : FnScope ["_law_script", "_law_k"] ["_law_script", "_law_k"] (defScope (top 18)) := ⟨rfl, rfl, rfl, by decide +kernel, rfl, by decide +kernel, by decide +kernel⟩
theorem ok_cell (T : Txt K mg) (D : Def K mg "_law_cell_at" (top 18) ["_law_script", "_law_k"]) : Callee P w K mg base 1 "_law_cell_at" ["_law_script", "_law_k"] (spCell K) := by
  refine D.ok sc__law_cell_at (fun vs H Q E h => ?_) (fun f cdv A outer s H vs Q E hr h => ?_)
  · obtain ⟨a, ns, k, rfl, _⟩ := h
    rfl
  obtain ⟨a, ns, k, rfl, hS, q⟩ := h
  refine ⟨_, (pss_cons (ps_if (pt_cmpR op_lt (pv 1) (pe_callB (call_lenK K) rfl T.m_len boot_len (pa_cons (pv 0) pa_nil st_name)) (nomark _)) (pss_one (ps_ret (pe_ix (ix_listK K) (pv 0) (pv 1) (fun _ _ => rfl)))) pss_nil)
    (pss_one (ps_ret pe_int))), ?_⟩
  refine ⟨_, rfl, _, rfl, a, _, rfl, .inl hS, _, _, rfl, rfl, _, rfl, ?_⟩
  refine ite2 (fun c => ?_) (fun c => ?_)
  · have c' : (k : Int) < (((ns.map V.int).length : Nat) : Int) := of_decide_eq_true c
    rw [List.length_map] at c'
    exact ⟨_, rfl, _, rfl, a, _, _, _, rfl, rfl, hS, at_nat (by omega), q⟩
  · have c' : ¬ (k : Int) < (((ns.map V.int).length : Nat) : Int) := of_decide_eq_false (Bool.eq_false_iff.mpr c)
    rw [List.length_map] at c'
    have e : cell ns k = 0 := by simp [cell, List.getD, List.getElem?_eq_none (show ns.length ≤ k by omega)]
    rw [e] at q
    exact q
theorem sc__law_mixed : FnScope ["_law_cell", "_law_k"] ["_law_cell", "_law_k"] (defScope (top 19)) := ⟨rfl, rfl, rfl, by decide +kernel, rfl, by decide +kernel, by decide +kernel⟩
theorem ok_mixed (T : Txt K mg) (D : Def K mg "_law_mixed" (top 19) ["_law_cell", "_law_k"]) : Callee P w K mg base 1 "_law_mixed" ["_law_cell", "_law_k"] spMixed := by
  refine D.ok sc__law_mixed (fun vs H Q E h => ?_) (fun f cdv A outer s H vs Q E hr h => ?_)
  · obtain ⟨c, k, rfl, _⟩ := h
    rfl
  obtain ⟨c, k, rfl, hk, q⟩ := h
  refine ⟨_, (pss_one (ps_ret (pe_op op_mod (pe_op op_mul (pe_op op_add (pe_op op_add (pe_op op_mod (pv 0) pe_int) (pe_op op_mul (pv 1) (pv 1))) pe_int) pe_int) pe_int))), ?_⟩
  exact ⟨_, rfl, _, _, rfl, rfl, (by show (0 : Int) < 1000003; decide), _, rfl, _, rfl, _, _, rfl, rfl, .inl ⟨by omega, by omega⟩, _, _, rfl, rfl, _, _, rfl, rfl, _, _, rfl, rfl, .inr ⟨by decide, by decide⟩, _, _, rfl, rfl, (by show (0 : Int) < 2147483647; decide), q _ (Int.emod_nonneg _ (by decide)) (Int.emod_lt_of_pos _ (by decide))⟩
theorem sc__law_whole : FnScope ["_law_found"] ["_law_found"] (defScope (top 20)) := ⟨rfl, rfl, rfl, by decide +kernel, rfl, by decide +kernel, by decide +kernel⟩
theorem ok_wholeI (T : Txt K mg) (D : Def K mg "_law_whole" (top 20) ["_law_found"]) : Callee P w K mg base 1 "_law_whole" ["_law_found"] spWholeI := by
  refine D.ok sc__law_whole (fun vs H Q E h => ?_) (fun f cdv A outer s H vs Q E hr h => ?_)
  · obtain ⟨i, rfl, _⟩ := h
    rfl
  obtain ⟨i, rfl, q⟩ := h
  refine ⟨_, (pss_one (ps_ret (pe_and (pe_callB (call_isinstK K) rfl T.m_isinstance boot_isinstance (pa_cons (pv 0) (pa_cons (pe_bltn (v := .ty "int") rfl T.m_int boot_int rfl) pa_nil st_name) st_name)) (pe_one (pe_not (pe_callB (call_isinstK K) rfl T.m_isinstance boot_isinstance (pa_cons (pv 0) (pa_cons (pe_bltn (v := .ty "bool") rfl T.m_bool boot_bool rfl) pa_nil st_name) st_name))))))), ?_⟩
  exact ⟨_, rfl, _, _, _, true, rfl, .int i, kit_int_int, _, rfl, iteT ⟨_, rfl, _, _, _, false, rfl, .int i, kit_int_bool, _, rfl, q⟩⟩
theorem sc__law_digit : FnScope ["_law_left", "_law_many", "_law_found"] ["_law_left", "_law_many"] (defScope (top 21)) := ⟨rfl, rfl, rfl, by decide +kernel, rfl, by decide +kernel, by decide +kernel⟩
theorem ok_digit (T : Txt K mg) (D : Def K mg "_law_digit" (top 21) ["_law_left", "_law_many"]) : Callee P w K mg base 1 "_law_digit" ["_law_left", "_law_many"] spDigit := by
  refine D.ok sc__law_digit (fun vs H Q E h => ?_) (fun f cdv A outer s H vs Q E hr h => ?_)
  · obtain ⟨l, n, m, rfl, _⟩ := h
    rfl
  obtain ⟨l, n, m, rfl, hl, hm, hm2, q⟩ := h
  refine ⟨_, (pss_cons (ps_set (i := 2) sc__law_digit.nd rfl (Or.inl rfl) (pe_op op_mod (pe_ix (ix_listK K) (pv 0) pe_int (fun _ _ => rfl)) (pv 1)))
    (pss_cons (ps_asg (pe_op op_fdiv (pe_ix (ix_listK K) (pv 0) pe_int (fun _ _ => rfl)) (pv 1)) (pg_sub (pv 0) pe_int set_list))
    (pss_one (ps_ret (pv 2))))), ?_⟩
  refine ⟨_, rfl, l, _, _, _, rfl, rfl, SqL.of hl, rfl, _, rfl, _, _, rfl, rfl, hm, ?_⟩
  exact ⟨_, rfl, l, _, _, _, rfl, rfl, SqL.of hl, rfl, _, rfl, _, _, rfl, rfl, ⟨hm, by omega⟩, _, rfl, l, _, _, 0, rfl, rfl, hl, rfl, _, rfl, q⟩
theorem sc__law_free_pairs : FnScope ["_law_left", "_law_most", "_law_found", "_law_k", "_law_i"] ["_law_left", "_law_most"] (defScope (top 22)) := ⟨rfl, rfl, rfl, by decide +kernel, rfl, by decide +kernel, by decide +kernel⟩
theorem ok_free (T : Txt K mg) (C__law_digit : Callee P w K mg base 1 "_law_digit" ["_law_left", "_law_many"] spDigit) (D : Def K mg "_law_free_pairs" (top 22) ["_law_left", "_law_most"]) : Callee P w K mg base 2 "_law_free_pairs" ["_law_left", "_law_most"] spFree := by
  refine D.ok sc__law_free_pairs (fun vs H Q E h => ?_) (fun f cdv A outer s H vs Q E hr h => ?_)
  · obtain ⟨l, n, m, rfl, _⟩ := h
    rfl
  obtain ⟨l, n, m, rfl, hl, hm, hm2, q⟩ := h
  refine ⟨_, (pss_cons (ps_set (i := 2) sc__law_free_pairs.nd rfl (Or.inl rfl) (pe_lst pa_nil))
    (pss_cons (ps_for PassesOwn.never rfl (pi_range1 rfl T.m_range (pa_cons (pe_fn C__law_digit hr rfl (pa_cons (pv 0) (pa_cons (pe_op op_add (pv 1) pe_int) pa_nil st_bin) st_name)) pa_nil st_call)) (pg_name (i := 3) sc__law_free_pairs.nd rfl (Or.inl rfl))
    (pss_cons (ps_set (i := 4) sc__law_free_pairs.nd rfl (Or.inl rfl) (pe_fn C__law_digit hr rfl (pa_cons (pv 0) (pa_cons pe_int pa_nil st_const) st_name)))
    (pss_one (ps_expr (pe_bmK K PySem.F.plainAttrs_list PySem.F.slot_list_append PySem.F.type_list_append mt_appendR (pv 2) (pa_cons (pe_tup (pa_cons (pv 4) (pa_cons (pe_fn C__law_digit hr rfl (pa_cons (pv 0) (pa_cons pe_int pa_nil st_const) st_name)) pa_nil st_call) st_name)) pa_nil st_tup))))))
    (pss_one (ps_ret (pv 2))))), ?_⟩
  refine ⟨(by show 0 ≤ sizeLine; decide), fun r hr0 => ?_⟩
  have er := upd_same (H := H) (a := r) (o := .lst [])
  have s1 := same_new hr0 (.lst [])
  generalize upd H r (.lst []) = H1 at er s1 ⊢
  have hlr : l ≠ r := ne_of_none hl hr0
  refine ⟨_, rfl, _, rfl, _, _, rfl, rfl, l, n, m + 1, rfl, s1 _ _ hl, by omega, by omega, ?_⟩
  have k1 := Int.emod_nonneg n (show m + 1 ≠ 0 by omega)
  have k2 := Int.emod_lt_of_pos n (show 0 < m + 1 by omega)
  refine ⟨_, rfl, by omega, by omega, ?_⟩
  refine for_range (lo := 0) (n := (n % (m + 1)).toNat) (fun i σ H' => SameX l H H' ∧ (∃ n', H' l = some (.lst [.int n'])) ∧ (∃ as ps, H' r = some (.lst (as.map V.ref)) ∧ PrsAt H' as ps ∧ (∀ p ∈ ps, inP p) ∧ ps.length = i) ∧ ∃ v3 v4, σ = [some (.ref l), some (.int m), some (.ref r), v3, v4])
    ⟨fun b u hb z => by rw [upd_ne hb]; exact s1 _ _ z, ⟨_, upd_same⟩, ⟨[], [], by rw [upd_ne (Ne.symm hlr)]; exact er, .nil, (fun p hp => nomatch hp), rfl⟩, none, none, rfl⟩ ?_ ?_
  · rintro i σ H' hi ⟨sx, ⟨n', el⟩, ⟨as, ps, e1, e2, e3, e4⟩, v3, v4, rfl⟩
    refine ⟨_, rfl, l, n', 32, rfl, el, by decide, by decide, ?_⟩
    have el2 := upd_same (H := H') (a := l) (o := .lst [.int (n' / 32)])
    have er2 : upd H' l (.lst [.int (n' / 32)]) r = some (.lst (as.map V.ref)) := by rw [upd_ne (Ne.symm hlr)]; exact e1
    have t2 : ∀ a xs, H' a = some (.tup xs) → upd H' l (.lst [.int (n' / 32)]) a = some (.tup xs) := fun a xs z => by
      rw [upd_ne (fun y => by rw [y, el] at z; cases z)]
      exact z
    have sx2 : SameX l H (upd H' l (.lst [.int (n' / 32)])) := fun b u hb z => by rw [upd_ne hb]; exact sx b u hb z
    generalize upd H' l (.lst [.int (n' / 32)]) = H2 at el2 er2 t2 sx2 ⊢
    refine ⟨_, rfl, .inl ⟨rfl, _, SqL.of er2⟩, _, rfl, _, rfl, l, n' / 32, 32, rfl, el2, by decide, by decide, ?_⟩
    have el3 := upd_same (H := H2) (a := l) (o := .lst [.int (n' / 32 / 32)])
    have er3 : upd H2 l (.lst [.int (n' / 32 / 32)]) r = some (.lst (as.map V.ref)) := by rw [upd_ne (Ne.symm hlr)]; exact er2
    have t3 : ∀ a xs, H2 a = some (.tup xs) → upd H2 l (.lst [.int (n' / 32 / 32)]) a = some (.tup xs) := fun a xs z => by
      rw [upd_ne (fun y => by rw [y, el2] at z; cases z)]
      exact z
    have sx3 : SameX l H (upd H2 l (.lst [.int (n' / 32 / 32)])) := fun b u hb z => by rw [upd_ne hb]; exact sx2 b u hb z
    generalize upd H2 l (.lst [.int (n' / 32 / 32)]) = H3 at el3 er3 t3 sx3 ⊢
    refine ⟨(by show 2 ≤ sizeLine; decide), fun p hp => ?_⟩
    have s4 := same_new hp (.tup [.int (n' % 32), .int (n' / 32 % 32)])
    have ep := upd_same (H := H3) (a := p) (o := .tup [.int (n' % 32), .int (n' / 32 % 32)])
    generalize upd H3 p (.tup [.int (n' % 32), .int (n' / 32 % 32)]) = H4 at s4 ep ⊢
    have ln : as.length = ps.length := Paired.length e2
    refine ⟨r, _, _, rfl, rfl, s4 _ _ er3, small1000 (by rw [List.length_map]; omega), ?_⟩
    have tr : ∀ a xs, H4 a = some (.tup xs) → upd H4 r (.lst (as.map V.ref ++ [.ref p])) a = some (.tup xs) := fun a xs z => by
      rw [upd_ne (fun y => by rw [y, s4 _ _ er3] at z; cases z)]
      exact z
    refine ⟨fun b u hb z => ?_, ⟨_, by rw [upd_ne hlr]; exact s4 _ _ el3⟩, ⟨as ++ [p], ps ++ [(n' % 32, n' / 32 % 32)], by rw [upd_same, List.map_append]; rfl, pr_snoc (e2.mono fun a xs z => tr _ _ (s4 _ _ (t3 _ _ (t2 _ _ z)))) (tr _ _ ep), fun x hx => ?_, by rw [List.length_append, List.length_singleton, e4]⟩, _, _, rfl⟩
    · rw [upd_ne (ne_of_none z hr0)]
      exact s4 _ _ (sx3 b u hb z)
    · rcases List.mem_append.mp hx with y | y
      · exact e3 x y
      · rw [List.mem_singleton.mp y]
        exact ⟨⟨Int.emod_nonneg _ (by decide), Int.emod_lt_of_pos _ (by decide)⟩, Int.emod_nonneg _ (by decide), Int.emod_lt_of_pos _ (by decide)⟩
  · rintro σ H' ⟨sx, _, ⟨as, ps, e1, e2, e3, e4⟩, v3, v4, rfl⟩
    exact ⟨_, rfl, q r as ps H' sx hr0 e1 e2 e3 (by omega)⟩
theorem sc__law_pairs : FnScope ["_law_script", "_law_start", "_law_last", "_law_first", "_law_shape", "_law_most", "_law_ins", "_law_outs", "_law_found", "_law_k", "_law_number", "_law_i", "_law_j"] ["_law_script", "_law_start", "_law_last"] (defScope (top 23)) := ⟨rfl, rfl, rfl, by decide +kernel, rfl, by decide +kernel, by decide +kernel⟩
theorem ok_pairs (T : Txt K mg) (C__law_cell_at : Callee P w K mg base 1 "_law_cell_at" ["_law_script", "_law_k"] (spCell K)) (C__law_mixed : Callee P w K mg base 1 "_law_mixed" ["_law_cell", "_law_k"] spMixed) (C__law_free_pairs : Callee P w K mg base 2 "_law_free_pairs" ["_law_left", "_law_most"] spFree) (D : Def K mg "_law_pairs" (top 23) ["_law_script", "_law_start", "_law_last"]) : Callee P w K mg base 3 "_law_pairs" ["_law_script", "_law_start", "_law_last"] (spPairs K) := by
  refine D.ok sc__law_pairs (fun vs H Q E h => ?_) (fun f cdv A outer s H vs Q E hr h => ?_)
  · obtain ⟨a, ns, st, rfl, _⟩ := h
    rfl
  obtain ⟨a, ns, st, rfl, hS, h63, hst, q⟩ := h
  refine ⟨_, (pss_cons (ps_if (pt_cmpR op_eq (pe_op op_mod (pe_fn C__law_cell_at hr rfl (pa_cons (pv 0) (pa_cons pe_int pa_nil st_const) st_name)) pe_int) pe_int (nomark _)) (pss_one (ps_ret (pe_fn C__law_free_pairs hr rfl (pa_cons (pe_lst (pa_cons (pe_callB call_abs rfl T.m_abs boot_abs (pa_cons (pe_fn C__law_cell_at hr rfl (pa_cons (pv 0) (pa_cons (pv 1) pa_nil st_name) st_name)) pa_nil st_call)) pa_nil st_call)) (pa_cons (pe_op op_sub (pv 2) (pv 1)) pa_nil st_bin) st_list)))) pss_nil)
    (pss_cons (ps_set (i := 3) sc__law_pairs.nd rfl (Or.inl rfl) (pe_fn C__law_mixed hr rfl (pa_cons (pe_fn C__law_cell_at hr rfl (pa_cons (pv 0) (pa_cons pe_int pa_nil st_const) st_name)) (pa_cons pe_int pa_nil st_const) st_call)))
    (pss_cons (ps_set (i := 4) sc__law_pairs.nd rfl (Or.inl rfl) (pe_op op_mod (pe_fn C__law_cell_at hr rfl (pa_cons (pv 0) (pa_cons pe_int pa_nil st_const) st_name)) pe_int))
    (pss_cons (ps_set (i := 5) sc__law_pairs.nd rfl (Or.inl rfl) (pe_ix (ix_listK K) (pe_lst (pa_cons pe_int (pa_cons pe_int (pa_cons pe_int (pa_cons pe_int pa_nil st_const) st_const) st_const) st_const)) (pe_op op_mod (pv 3) pe_int) (fun _ _ => rfl)))
    (pss_cons (ps_set (i := 6) sc__law_pairs.nd rfl (Or.inl rfl) (pe_op op_add pe_int (pe_op op_mod (pe_op op_fdiv (pv 3) pe_int) (pv 5))))
    (pss_cons (ps_set (i := 7) sc__law_pairs.nd rfl (Or.inl rfl) (pe_op op_add pe_int (pe_op op_mod (pe_op op_fdiv (pv 3) pe_int) (pv 5))))
    (pss_cons (ps_set (i := 8) sc__law_pairs.nd rfl (Or.inl rfl) (pe_lst pa_nil))
    (pss_cons (ps_for PassesOwn.never rfl (pi_range2 rfl T.m_range (pa_cons (pv 1) (pa_cons (pe_callB (call_min2 rfl) rfl T.m_min boot_min (pa_cons (pe_callB (call_lenK K) rfl T.m_len boot_len (pa_cons (pv 0) pa_nil st_name)) (pa_cons (pv 2) pa_nil st_name) st_call)) pa_nil st_call) st_name)) (pg_name (i := 9) sc__law_pairs.nd rfl (Or.inl rfl))
    (pss_cons (ps_set (i := 10) sc__law_pairs.nd rfl (Or.inl rfl) (pe_fn C__law_mixed hr rfl (pa_cons (pe_ix (ix_listK K) (pv 0) (pv 9) (fun _ _ => rfl)) (pa_cons (pv 9) pa_nil st_name) st_sub)))
    (pss_cons (ps_set (i := 11) sc__law_pairs.nd rfl (Or.inl rfl) (pe_op op_mod (pv 10) (pv 6)))
    (pss_cons (ps_set (i := 12) sc__law_pairs.nd rfl (Or.inl rfl) (pe_op op_mod (pe_op op_fdiv (pv 10) pe_int) (pv 7)))
    (pss_cons (ps_if (pt_cmpR op_eq (pv 4) pe_int (nomark _)) (pss_cons (ps_set (i := 11) sc__law_pairs.nd rfl (Or.inl rfl) (pe_op op_mod (pv 9) (pv 6)))
    (pss_one (ps_set (i := 12) sc__law_pairs.nd rfl (Or.inl rfl) (pe_op op_mod (pe_op op_add (pv 9) (pe_op op_fdiv (pv 9) (pv 6))) (pv 7))))) pss_nil)
    (pss_cons (ps_if (PW.pt (pw_and (pt_cmpR op_eq (pv 4) pe_int (nomark _)) (pw_and1 (pt_cmpR op_gt (pe_op op_mod (pe_op op_fdiv (pv 10) pe_int) pe_int) pe_int (nomark _))))) (pss_one (ps_set (i := 11) sc__law_pairs.nd rfl (Or.inl rfl) pe_int)) pss_nil)
    (pss_cons (ps_if (PW.pt (pw_and (pt_cmpR op_eq (pv 4) pe_int (nomark _)) (pw_and1 (pt_cmpR op_eq (pe_op op_mod (pe_op op_fdiv (pv 10) pe_int) pe_int) pe_int (nomark _))))) (pss_cons (ps_set (i := 11) sc__law_pairs.nd rfl (Or.inl rfl) pe_int)
    (pss_one (ps_set (i := 12) sc__law_pairs.nd rfl (Or.inl rfl) pe_int))) pss_nil)
    (pss_cons (ps_if (pt_cmpR op_eq (pv 4) pe_int (nomark _)) (pss_one (ps_set (i := 12) sc__law_pairs.nd rfl (Or.inl rfl) (pe_op op_mod (pv 11) (pv 7)))) pss_nil)
    (pss_one (ps_expr (pe_bmK K PySem.F.plainAttrs_list PySem.F.slot_list_append PySem.F.type_list_append mt_appendR (pv 8) (pa_cons (pe_tup (pa_cons (pe_op op_mod (pe_op op_add (pe_op op_fdiv (pv 3) pe_int) (pe_op op_mul pe_int (pv 11))) pe_int) (pa_cons (pe_op op_mod (pe_op op_add (pe_op op_fdiv (pv 3) pe_int) (pe_op op_mul pe_int (pv 12))) pe_int) pa_nil st_bin) st_bin)) pa_nil st_tup))))))))))))
    (pss_one (ps_ret (pv 8))))))))))), ?_⟩
  refine ⟨_, rfl, a, ns, 0, rfl, hS, _, _, rfl, rfl, (by show (0 : Int) < 2; decide), rfl, _, rfl, ?_⟩
  refine ite2 (fun _ => ?_) (fun _ => ?_)
  · refine ⟨_, rfl, _, rfl, a, ns, st, rfl, hS, _, rfl, (by show 1 ≤ sizeLine; decide), fun l hl => ?_⟩
    refine ⟨_, rfl, _, rfl, _, _, rfl, rfl, l, _, _, rfl, upd_same, by omega, by omega, fun r as ps H' sx hr0 e1 e2 e3 e4 => ?_⟩
    have hrl : r ≠ l := fun z => by rw [z, upd_same] at hr0; cases hr0
    rw [upd_ne hrl] at hr0
    exact q r as ps H' (fun b u z => sx b u (ne_of_none z hl) (same_new hl _ b u z)) hr0 e1 e2 e3 e4
  refine ⟨_, rfl, a, ns, 0, rfl, hS, _, 0, rfl, by omega, fun v v1 v2 => ?_⟩
  refine ⟨_, rfl, a, ns, 1, rfl, hS, _, _, rfl, rfl, (by show (0 : Int) < 5; decide), ?_⟩
  refine ⟨(by show 4 ≤ sizeLine; decide), fun l1 hl1 => ?_⟩
  obtain ⟨m, m1, m2, m3⟩ := most4 (v := v)
  have s1 := same_new hl1 (.lst [.int 6, .int 6, .int 6, .int 32])
  have el1 := upd_same (H := H) (a := l1) (o := .lst [.int 6, .int 6, .int 6, .int 32])
  generalize upd H l1 (.lst [.int 6, .int 6, .int 6, .int 32]) = H1 at s1 el1 ⊢
  refine ⟨_, rfl, _, _, rfl, rfl, (by show (0 : Int) < 4; decide), l1, _, _, _, rfl, rfl, SqL.of el1, m1, ?_⟩
  refine ⟨_, rfl, _, _, rfl, rfl, ⟨by decide, by decide⟩, _, rfl, _, _, rfl, rfl, (by show 0 < m; omega), _, _, rfl, rfl, ?_⟩
  refine ⟨_, rfl, _, _, rfl, rfl, ⟨by decide, by decide⟩, _, rfl, _, _, rfl, rfl, (by show 0 < m; omega), _, _, rfl, rfl, ?_⟩
  have i1 := Int.emod_nonneg (v / 4) (show m ≠ 0 by omega)
  have i2 := Int.emod_lt_of_pos (v / 4) (show 0 < m by omega)
  have j1 := Int.emod_nonneg (v / 128) (show m ≠ 0 by omega)
  have j2 := Int.emod_lt_of_pos (v / 128) (show 0 < m by omega)
  have ins1 : 1 ≤ 1 + v / 4 % m := by omega
  have ins2 : 1 + v / 4 % m ≤ 32 := by omega
  have outs1 : 1 ≤ 1 + v / 128 % m := by omega
  refine ⟨(by show 0 ≤ sizeLine; decide), fun r hr1 => ?_⟩
  have hr0 : H r = none := by
    cases z : H r with
    | none => rfl
    | some u => rw [s1 _ _ z] at hr1; cases hr1
  have s2 := s1.trans (same_new hr1 (.lst []))
  have er := upd_same (H := H1) (a := r) (o := .lst [])
  generalize upd H1 r (.lst []) = H2 at s2 er ⊢
  refine ⟨_, rfl, _, rfl, a, _, rfl, .inl (s2.seq hS), _, rfl, _, _, rfl, _, _, rfl, ?_, ?_⟩
  · rw [List.length_map]
    split <;> omega
  have hl : (((ns.map V.int).length : Nat) : Int) = (ns.length : Int) := by rw [List.length_map]
  generalize hN : ((if ((st + 60 : Nat) : Int) < (((ns.map V.int).length : Nat) : Int) then ((st + 60 : Nat) : Int) else (((ns.map V.int).length : Nat) : Int)) - (st : Int)).toNat = N
  have hN1 : ∀ i : Nat, i < N → st + i < ns.length ∧ i < 60 := fun i hi => by
    rw [← hN, hl] at hi
    split at hi <;> omega
  refine for_range (lo := (st : Int)) (n := N) (fun i σ H' => Same H H' ∧ (∃ as ps, H' r = some (.lst (as.map V.ref)) ∧ PrsAt H' as ps ∧ (∀ p ∈ ps, inP p) ∧ ps.length = i) ∧ ∃ v9 v10 v11 v12, σ = [some (.ref a), some (.int st), some (.int ((st + 60 : Nat) : Int)), some (.int v), some (.int (cell ns 1 % 5)), some (.int m), some (.int (1 + v / 4 % m)), some (.int (1 + v / 128 % m)), some (.ref r), v9, v10, v11, v12])
    ⟨s2, ⟨[], [], er, .nil, (fun p hp => nomatch hp), rfl⟩, none, none, none, none, rfl⟩ ?_ ?_
  · rintro i σ H' hi ⟨s3, ⟨as, ps, e1, e2, e3, e4⟩, v9, v10, v11, v12, rfl⟩
    obtain ⟨hk, hk60⟩ := hN1 i hi
    rw [show (st : Int) + (i : Int) = ((st + i : Nat) : Int) by omega]
    refine ⟨_, rfl, _, rfl, a, _, _, _, rfl, rfl, s3.seq hS, at_nat hk, _, rfl, _, st + i, rfl, by omega, fun x x1 x2 => ?_⟩
    refine ⟨_, rfl, _, rfl, _, _, rfl, rfl, (by show 0 < 1 + v / 4 % m; omega), ?_⟩
    refine ⟨_, rfl, _, _, rfl, rfl, ⟨by decide, by decide⟩, _, rfl, _, _, rfl, rfl, (by show 0 < 1 + v / 128 % m; omega), ?_⟩
    dsimp only [gName, tNext]
    refine seq_cut (fun σ' G => G = H' ∧ ∃ y z : Int, σ' = [some (.ref a), some (.int st), some (.int ((st + 60 : Nat) : Int)), some (.int v), some (.int (cell ns 1 % 5)), some (.int m), some (.int (1 + v / 4 % m)), some (.int (1 + v / 128 % m)), some (.ref r), some (.int ((st + i : Nat) : Int)), some (.int x), some (.int y), some (.int z)]) (fun R rest => ?_) ?_
    · refine ⟨_, rfl, rfl, _, rfl, ?_⟩
      refine ite2 (fun _ => ?_) (fun _ => ?_)
      · refine ⟨_, rfl, _, rfl, _, _, rfl, rfl, (by show 0 < 1 + v / 4 % m; omega), ?_⟩
        exact ⟨_, rfl, _, rfl, _, rfl, _, _, rfl, rfl, ⟨by omega, by omega⟩, _, _, rfl, rfl, _, rfl, _, _, rfl, rfl, (by show 0 < 1 + v / 128 % m; omega), rest _ _ ⟨rfl, _, _, rfl⟩⟩
      · exact rest _ _ ⟨rfl, _, _, rfl⟩
    rintro σ G ⟨rfl, y, z, rfl⟩
    refine seq_cut (fun σ' G' => G' = G ∧ ∃ y z : Int, σ' = [some (.ref a), some (.int st), some (.int ((st + 60 : Nat) : Int)), some (.int v), some (.int (cell ns 1 % 5)), some (.int m), some (.int (1 + v / 4 % m)), some (.int (1 + v / 128 % m)), some (.ref r), some (.int ((st + i : Nat) : Int)), some (.int x), some (.int y), some (.int z)]) (fun R rest => ?_) ?_
    · refine ⟨_, rfl, rfl, _, rfl, ?_⟩
      refine ite2 (fun _ => ?_) (fun _ => iteF (rest _ _ ⟨rfl, _, _, rfl⟩))
      refine ⟨_, rfl, _, _, rfl, rfl, ⟨by decide, by decide⟩, _, _, rfl, rfl, (by show (0 : Int) < 3; decide), _, _, rfl, rfl, _, rfl, ?_⟩
      refine ite2 (fun _ => rest _ _ ⟨rfl, _, _, rfl⟩) (fun _ => rest _ _ ⟨rfl, _, _, rfl⟩)
    rintro σ G' ⟨rfl, y, z, rfl⟩
    refine seq_cut (fun σ' G => G = G' ∧ ∃ y z : Int, σ' = [some (.ref a), some (.int st), some (.int ((st + 60 : Nat) : Int)), some (.int v), some (.int (cell ns 1 % 5)), some (.int m), some (.int (1 + v / 4 % m)), some (.int (1 + v / 128 % m)), some (.ref r), some (.int ((st + i : Nat) : Int)), some (.int x), some (.int y), some (.int z)]) (fun R rest => ?_) ?_
    · refine ⟨_, rfl, rfl, _, rfl, ?_⟩
      refine ite2 (fun _ => ?_) (fun _ => iteF (rest _ _ ⟨rfl, _, _, rfl⟩))
      refine ⟨_, rfl, _, _, rfl, rfl, ⟨by decide, by decide⟩, _, _, rfl, rfl, (by show (0 : Int) < 2; decide), rfl, _, rfl, ?_⟩
      refine ite2 (fun _ => rest _ _ ⟨rfl, _, _, rfl⟩) (fun _ => rest _ _ ⟨rfl, _, _, rfl⟩)
    rintro σ G ⟨rfl, y, z, rfl⟩
    refine seq_cut (fun σ' G' => G' = G ∧ ∃ y z : Int, σ' = [some (.ref a), some (.int st), some (.int ((st + 60 : Nat) : Int)), some (.int v), some (.int (cell ns 1 % 5)), some (.int m), some (.int (1 + v / 4 % m)), some (.int (1 + v / 128 % m)), some (.ref r), some (.int ((st + i : Nat) : Int)), some (.int x), some (.int y), some (.int z)]) (fun R rest => ?_) ?_
    · refine ⟨_, rfl, rfl, _, rfl, ?_⟩
      refine ite2 (fun _ => ?_) (fun _ => rest _ _ ⟨rfl, _, _, rfl⟩)
      exact ⟨_, rfl, _, rfl, _, _, rfl, rfl, (by show 0 < 1 + v / 128 % m; omega), rest _ _ ⟨rfl, _, _, rfl⟩⟩
    rintro σ G' ⟨rfl, y, z, rfl⟩
    refine ⟨_, rfl, .inl ⟨rfl, _, SqL.of e1⟩, _, rfl, _, _, rfl, rfl, ⟨by decide, by decide⟩, _, rfl, _, _, rfl, rfl, .inl ⟨by decide, by decide⟩, _, _, rfl, rfl, _, _, rfl, rfl, (by show (0 : Int) < 32; decide), _, rfl, _, _, rfl, rfl, ⟨by decide, by decide⟩, _, rfl, _, _, rfl, rfl, .inl ⟨by decide, by decide⟩, _, _, rfl, rfl, _, _, rfl, rfl, (by show (0 : Int) < 32; decide), (by show 2 ≤ sizeLine; decide), fun p hp => ?_⟩
    have u1 := Int.emod_nonneg (v / 4096 + 5 * y) (show (32 : Int) ≠ 0 by decide)
    have u2 := Int.emod_lt_of_pos (v / 4096 + 5 * y) (show (0 : Int) < 32 by decide)
    have u3 := Int.emod_nonneg (v / 131072 + 11 * z) (show (32 : Int) ≠ 0 by decide)
    have u4 := Int.emod_lt_of_pos (v / 131072 + 11 * z) (show (0 : Int) < 32 by decide)
    have s4 := same_new hp (.tup [.int ((v / 4096 + 5 * y) % 32), .int ((v / 131072 + 11 * z) % 32)])
    have ep := upd_same (H := G') (a := p) (o := .tup [.int ((v / 4096 + 5 * y) % 32), .int ((v / 131072 + 11 * z) % 32)])
    have ln : as.length = ps.length := Paired.length e2
    refine ⟨r, _, _, rfl, rfl, s4 _ _ e1, small1000 (by rw [List.length_map]; omega), ?_⟩
    have tr : ∀ a xs, upd G' p (.tup [.int ((v / 4096 + 5 * y) % 32), .int ((v / 131072 + 11 * z) % 32)]) a = some (.tup xs) → upd (upd G' p (.tup [.int ((v / 4096 + 5 * y) % 32), .int ((v / 131072 + 11 * z) % 32)])) r (.lst (as.map V.ref ++ [.ref p])) a = some (.tup xs) := fun a xs z => by
      rw [upd_ne (fun y => by rw [y, s4 _ _ e1] at z; cases z)]
      exact z
    refine ⟨Same.put (s3.trans s4) hr0, ⟨as ++ [p], ps ++ [((v / 4096 + 5 * y) % 32, (v / 131072 + 11 * z) % 32)], by rw [upd_same, List.map_append]; rfl, pr_snoc (e2.mono fun a xs z => tr _ _ (s4 _ _ z)) (tr _ _ ep), fun x hx => ?_, by rw [List.length_append, List.length_singleton, e4]⟩, _, _, _, _, rfl⟩
    rcases List.mem_append.mp hx with y | y
    · exact e3 x y
    · rw [List.mem_singleton.mp y]
      exact ⟨⟨u1, u2⟩, u3, u4⟩
  · rintro σ H' ⟨s3, ⟨as, ps, e1, e2, e3, e4⟩, v9, v10, v11, v12, rfl⟩
    have : N ≤ 60 := by
      by_cases z : N ≤ 60
      · exact z
      · have := (hN1 60 (by omega)).2
        omega
    exact ⟨_, rfl, q r as ps H' s3 hr0 e1 e2 e3 (by omega)⟩
end
def sdI (side : Int) (p : Int × Int) : Int := if side = 0 then p.1 else p.2
def rks (side : Int) (ps : List (Int × Int)) : List Int := ps.map (sdI side)
theorem sd_at {side : Int} (hs : side = 0 ∨ side = 1) (p : Int × Int) : atI [V.int p.1, V.int p.2] side = some (V.int (sdI side p)) := by
  rcases hs with rfl | rfl <;> rfl
theorem ixN_nat {n k : Nat} (h : k < n) : ixN n (k : Int) = some k := by
  unfold ixN
  simp
  omega
theorem set_map {α : Type} (f : α → V) (l : List α) (i : Nat) (x : α) : (l.map f).set i (f x) = (l.set i x).map f := by rw [List.map_set]
theorem val_map {f : Int → V} (r : Int) : ∀ ns : List Int, valV (ns.map fun r => ((Sum.inl r : Key), f r)) (.inl r) = if r ∈ ns then some (f r) else none
  | [] => rfl
  | n :: ns => by
    rw [List.map_cons]
    by_cases e : n = r
    · subst e
      rw [valV_pos (by rfl), if_pos (List.mem_cons_self ..)]
    · rw [valV_neg (fun z => e (Sum.inl.inj z)), val_map r ns]
      have : r ∈ n :: ns ↔ r ∈ ns := by
        rw [List.mem_cons]
        exact ⟨fun z => z.elim (fun y => absurd y.symm e) id, .inr⟩
      by_cases m : r ∈ ns
      · rw [if_pos m, if_pos (this.mpr m)]
      · rw [if_neg m, if_neg (fun z => m (this.mp z))]
def CntD (kvs : List (Key × V)) (rs : List Int) : Prop := ∃ ns : List Int, ns.Nodup ∧ (∀ r, r ∈ ns ↔ r ∈ rs) ∧ ns.length ≤ rs.length ∧ kvs = ns.map fun r => ((Sum.inl r : Key), V.int ((rs.count r : Nat) : Int))
theorem CntD.nil : CntD [] [] := ⟨[], List.nodup_nil, fun r => Iff.rfl, Nat.le_refl _, rfl⟩
theorem CntD.val {kvs : List (Key × V)} {rs : List Int} (h : CntD kvs rs) (r : Int) : valV kvs (.inl r) = if r ∈ rs then some (.int ((rs.count r : Nat) : Int)) else none := by
  obtain ⟨ns, _, h2, _, rfl⟩ := h
  rw [val_map]
  by_cases m : r ∈ rs
  · rw [if_pos m, if_pos ((h2 r).mpr m)]
  · rw [if_neg m, if_neg fun z => m ((h2 r).mp z)]
theorem CntD.get {kvs : List (Key × V)} {rs : List Int} (h : CntD kvs rs) (r : Int) : (valV kvs (.inl r)).getD (.int 0) = .int ((rs.count r : Nat) : Int) := by
  rw [h.val]
  by_cases m : r ∈ rs
  · rw [if_pos m]; rfl
  · rw [if_neg m, List.count_eq_zero.mpr m]; rfl
theorem count_snoc (rs : List Int) (r x : Int) : (rs ++ [r]).count x = rs.count x + if r = x then 1 else 0 := by
  rw [List.count_append, List.count_singleton]
  by_cases e : r = x
  · rw [if_pos e, if_pos (by simpa using e)]
  · rw [if_neg e, if_neg (by simpa using e)]
theorem CntD.put {kvs : List (Key × V)} {rs : List Int} (h : CntD kvs rs) (r : Int) : CntD (putK kvs (.inl r) (.int ((rs.count r : Nat) + 1 : Int))) (rs ++ [r]) := by
  obtain ⟨ns, h1, h2, h3, rfl⟩ := h
  have hv := val_map (f := fun r => V.int ((rs.count r : Nat) : Int)) r ns
  by_cases m : r ∈ ns
  · rw [if_pos m] at hv
    refine ⟨ns, h1, fun x => ?_, by rw [List.length_append]; omega, ?_⟩
    · rw [h2 x, List.mem_append, List.mem_singleton]
      exact ⟨.inl, fun z => z.elim id fun y => y ▸ (h2 r).mp m⟩
    · unfold putK
      rw [if_pos (by rw [valV_any, hv]; rfl), List.map_map]
      refine List.map_congr_left fun x hx => ?_
      by_cases e : x = r
      · subst e
        simp only [Function.comp, if_pos, count_snoc]
        rfl
      · have e' : ¬ (Sum.inl x : Key) = Sum.inl r := fun z => e (Sum.inl.inj z)
        simp only [Function.comp, if_neg e', count_snoc, if_neg (show ¬ r = x from fun z => e z.symm), Nat.add_zero]
  · rw [if_neg m] at hv
    rw [putK_new _ hv]
    have mr : ¬ r ∈ rs := fun z => m ((h2 r).mpr z)
    refine ⟨ns ++ [r], nd_snoc h1 m, fun x => ?_, by rw [List.length_append, List.length_append]; exact Nat.add_le_add_right h3 _, ?_⟩
    · rw [List.mem_append, List.mem_append, h2 x]
    · rw [List.map_append]
      congr 1
      · refine List.map_congr_left fun x hx => ?_
        have e : ¬ r = x := fun z => m (z ▸ hx)
        rw [count_snoc, if_neg e, Nat.add_zero]
      · rw [List.map_singleton, count_snoc, if_pos rfl]
        rfl
def spSide (K : PySem.W.Frag) : Sp := fun vs H Q _ => ∃ (l : Addr) (as : List Addr) (ps : List (Int × Int)) (side : Int), vs = [.ref l, .int side] ∧ SqL K H l (as.map V.ref) ∧ PrsAt H as ps ∧ ps.length ≤ 60 ∧ (side = 0 ∨ side = 1) ∧ ∀ (d : Addr) (kvs : List (Key × V)) (H' : Hp), Same H H' → H d = none → H' d = some (.dK kvs) → CntD kvs (rks side ps) → Q (.ref d) H'
def spCounts (K : PySem.W.Frag) : Sp := fun vs H Q _ => ∃ (l : Addr) (as : List Addr) (ps : List (Int × Int)) (side : Int), vs = [.ref l, .int side] ∧ SqL K H l (as.map V.ref) ∧ PrsAt H as ps ∧ ps.length ≤ 60 ∧ (side = 0 ∨ side = 1) ∧ ∀ (d : Addr) (ob : Obj) (kvs : List (Key × V)) (H' : Hp), Same H H' → H d = none → H' d = some (.frz ob (.dK kvs)) → CntD kvs (rks side ps) → Q (.ref d) H'
theorem take_snoc {α : Type} {l : List α} {i : Nat} {x : α} (h : l[i]? = some x) : l.take (i + 1) = l.take i ++ [x] := by
  rw [List.take_add_one, h]
  rfl
section
variable {P : Program} {w : World} {K : PySem.W.Frag} {mg : Str → Option Value} {base : Heap}
theorem sc_side_weights : FnScope ["pairs", "side", "found", "pair"] ["pairs", "side"] (defScope (top 8)) := ⟨rfl, rfl, rfl, by decide +kernel, rfl, by decide +kernel, by decide +kernel⟩
theorem ok_side (T : Txt K mg) (D : Def K mg "side_weights" (top 8) ["pairs", "side"]) : Callee P w K mg base 1 "side_weights" ["pairs", "side"] (spSide K) := by
  refine D.ok sc_side_weights (fun vs H Q E h => ?_) (fun f cdv A outer s H vs Q E hr h => ?_)
  · obtain ⟨l, as, ps, side, rfl, _⟩ := h
    rfl
  obtain ⟨l, as, ps, side, rfl, hl, pr, few, hs, q⟩ := h
  refine ⟨_, (pss_cons (ps_set (i := 2) sc_side_weights.nd rfl (Or.inl rfl) pe_dnewK)
    (pss_cons (ps_for PassesOwn.never rfl (pi_listK K (pv 0)) (pg_name (i := 3) sc_side_weights.nd rfl (Or.inl rfl))
    (pss_one (ps_dput (hu_of hr) (pv 2) (pe_ix (ix_tupK K) (pv 3) (pv 1) (fun _ _ => rfl)) (pe_op op_add (pe_dget2 (hu_of hr) (pv 2) (pe_ix (ix_tupK K) (pv 3) (pv 1) (fun _ _ => rfl)) pe_int ⟨rfl, rfl, rfl, rfl⟩) pe_int) rfl)))
    (pss_one (ps_ret (pv 2))))), ?_⟩
  refine fun d hd => ?_
  have ed := upd_same (H := H) (a := d) (o := .dK [])
  have s1 := same_new hd (.dK [])
  generalize upd H d (.dK []) = H1 at ed s1 ⊢
  have ln : as.length = ps.length := Paired.length pr
  refine ⟨_, rfl, l, rfl, ⟨_, s1.seq hl⟩, ?_⟩
  refine for_list (xs := as.map V.ref) (fun i σ H' => Same H H' ∧ (∃ kvs, H' d = some (.dK kvs) ∧ CntD kvs (rks side (ps.take i))) ∧ ∃ v3, σ = [some (.ref l), some (.int side), some (.ref d), v3])
    ⟨s1, ⟨[], ed, CntD.nil⟩, none, rfl⟩ (fun i σ H' _ g => g.1.seq hl) ?_ ?_
  · rintro i x σ H' hx ⟨s2, ⟨kvs, e1, cd⟩, v3, rfl⟩
    rw [List.getElem?_map] at hx
    obtain ⟨a, ha, rfl⟩ := Option.map_eq_some_iff.mp hx
    obtain ⟨p, hp, pa⟩ := paired_at pr i a ha
    have pa' : H' a = some (.tup [.int p.1, .int p.2]) := s2 _ _ pa
    have hi := (List.getElem?_eq_some_iff.mp hp).1
    have kl : kvs.length ≤ 60 := by
      obtain ⟨ns, _, _, h3, rfl⟩ := cd
      rw [rks, List.length_map, List.length_take] at h3
      rw [List.length_map]
      omega
    refine ⟨_, rfl, d, rfl, .inl ⟨_, .inl e1⟩, _, rfl, _, rfl, a, _, _, _, rfl, rfl, SqT.of pa', sd_at hs p, _, DGet.k (k := .inl (sdI side p)) e1, _, _, cd.get _, rfl, _, rfl, _, rfl, _, rfl, a, _, _, _, rfl, rfl, SqT.of pa', sd_at hs p, d, _, rfl, DPut.k (k := .inl (sdI side p)) e1 (small1000 (by omega)), ?_⟩
    refine ⟨Same.put s2 hd, ⟨_, upd_same, ?_⟩, _, rfl⟩
    have := cd.put (sdI side p)
    rw [take_snoc hp, show rks side (ps.take i ++ [p]) = rks side (ps.take i) ++ [sdI side p] by rw [rks, rks, List.map_append]; rfl]
    exact this
  · rintro σ H' ⟨s2, ⟨kvs, e1, cd⟩, v3, rfl⟩
    rw [List.length_map, ln, List.take_length] at cd
    exact ⟨_, rfl, q d kvs H' s2 hd e1 cd⟩
theorem sc__law_counts : FnScope ["_law_pairs_here", "_law_side", "_law_found", "_law_pair"] ["_law_pairs_here", "_law_side"] (defScope (top 24)) := ⟨rfl, rfl, rfl, by decide +kernel, rfl, by decide +kernel, by decide +kernel⟩
theorem ok_counts (T : Txt K mg) (D : Def K mg "_law_counts" (top 24) ["_law_pairs_here", "_law_side"]) : Callee P w K mg base 1 "_law_counts" ["_law_pairs_here", "_law_side"] (spCounts K) := by
  refine D.ok sc__law_counts (fun vs H Q E h => ?_) (fun f cdv A outer s H vs Q E hr h => ?_)
  · obtain ⟨l, as, ps, side, rfl, _⟩ := h
    rfl
  obtain ⟨l, as, ps, side, rfl, hl, pr, few, hs, q⟩ := h
  refine ⟨_, (pss_cons (ps_set (i := 2) sc__law_counts.nd rfl (Or.inl rfl) pe_dnewK)
    (pss_cons (ps_for PassesOwn.never rfl (pi_listK K (pv 0)) (pg_name (i := 3) sc__law_counts.nd rfl (Or.inl rfl))
    (pss_one (ps_dput (hu_of hr) (pv 2) (pe_ix (ix_tupK K) (pv 3) (pv 1) (fun _ _ => rfl)) (pe_op op_add (pe_dget2 (hu_of hr) (pv 2) (pe_ix (ix_tupK K) (pv 3) (pv 1) (fun _ _ => rfl)) pe_int ⟨rfl, rfl, rfl, rfl⟩) pe_int) rfl)))
    (pss_one (ps_ret (pe_frz (pv 2)))))), ?_⟩
  refine fun d hd => ?_
  have ed := upd_same (H := H) (a := d) (o := .dK [])
  have s1 := same_new hd (.dK [])
  generalize upd H d (.dK []) = H1 at ed s1 ⊢
  have ln : as.length = ps.length := Paired.length pr
  refine ⟨_, rfl, l, rfl, ⟨_, s1.seq hl⟩, ?_⟩
  refine for_list (xs := as.map V.ref) (fun i σ H' => Same H H' ∧ (∃ kvs, H' d = some (.dK kvs) ∧ CntD kvs (rks side (ps.take i))) ∧ ∃ v3, σ = [some (.ref l), some (.int side), some (.ref d), v3])
    ⟨s1, ⟨[], ed, CntD.nil⟩, none, rfl⟩ (fun i σ H' _ g => g.1.seq hl) ?_ ?_
  · rintro i x σ H' hx ⟨s2, ⟨kvs, e1, cd⟩, v3, rfl⟩
    rw [List.getElem?_map] at hx
    obtain ⟨a, ha, rfl⟩ := Option.map_eq_some_iff.mp hx
    obtain ⟨p, hp, pa⟩ := paired_at pr i a ha
    have pa' : H' a = some (.tup [.int p.1, .int p.2]) := s2 _ _ pa
    have hi := (List.getElem?_eq_some_iff.mp hp).1
    have kl : kvs.length ≤ 60 := by
      obtain ⟨ns, _, _, h3, rfl⟩ := cd
      rw [rks, List.length_map, List.length_take] at h3
      rw [List.length_map]
      omega
    refine ⟨_, rfl, d, rfl, .inl ⟨_, .inl e1⟩, _, rfl, _, rfl, a, _, _, _, rfl, rfl, SqT.of pa', sd_at hs p, _, DGet.k (k := .inl (sdI side p)) e1, _, _, cd.get _, rfl, _, rfl, _, rfl, _, rfl, a, _, _, _, rfl, rfl, SqT.of pa', sd_at hs p, d, _, rfl, DPut.k (k := .inl (sdI side p)) e1 (small1000 (by omega)), ?_⟩
    refine ⟨Same.put s2 hd, ⟨_, upd_same, ?_⟩, _, rfl⟩
    have := cd.put (sdI side p)
    rw [take_snoc hp, show rks side (ps.take i ++ [p]) = rks side (ps.take i) ++ [sdI side p] by rw [rks, rks, List.map_append]; rfl]
    exact this
  · rintro σ H' ⟨s2, ⟨kvs, e1, cd⟩, v3, rfl⟩
    rw [List.length_map, ln, List.take_length] at cd
    refine ⟨_, rfl, d, kvs, rfl, e1, fun ob => q d ob kvs _ (Same.put s2 hd) hd upd_same cd⟩
end
structure Num (R0 R1 : Nat → Int) (t : Nat) (nu : Nat → Int) : Prop where
  p0 : ∀ i j, i < t → j < t → nu i = nu j → R0 i = R0 j → i = j
  p1 : ∀ i j, i < t → j < t → nu i = nu j → R1 i = R1 j → i = j
structure Cha (R0 R1 : Nat → Int) (t : Nat) (nu : Nat → Int) (a b r1 : Int) (cs pre : List Nat) : Prop where
  nd : cs.Nodup
  sub : ∀ i ∈ pre, i ∈ cs
  lt : ∀ i ∈ cs, i < t
  ab : ∀ i ∈ cs, nu i = a ∨ nu i = b
  A : ∀ p ∈ cs, nu p = b → ∃ e ∈ pre, nu e = a ∧ R0 e = R0 p
  B : ∀ p ∈ cs, nu p = a → R1 p = r1 ∨ ∃ e ∈ pre, nu e = b ∧ R1 e = R1 p
  C : ∀ e ∈ pre, nu e = a → ∀ j, j < t → nu j = b → R0 j = R0 e → j ∈ cs
  D : ∀ e ∈ pre, nu e = b → ∀ j, j < t → nu j = a → R1 j = R1 e → j ∈ cs
  F : ∀ j, j < t → nu j = a → R1 j = r1 → j ∈ cs
section
variable {R0 R1 : Nat → Int} {t : Nat} {nu : Nat → Int} {a b r1 : Int} {cs pre : List Nat} {e p : Nat}
theorem Cha.none (h : ∀ j, j < t → nu j = a → R1 j ≠ r1) : Cha R0 R1 t nu a b r1 [] [] :=
  ⟨List.nodup_nil, (fun i z => z), (fun i z => nomatch z), (fun i z => nomatch z), (fun i z => nomatch z), (fun i z => nomatch z), (fun i z => nomatch z), (fun i z => nomatch z), fun j h1 h2 h3 => absurd h3 (h j h1 h2)⟩
theorem Cha.one (N : Num R0 R1 t nu) (hb : ∀ j, j < t → R1 j = r1 → nu j ≠ b) (hp : p < t) (pa : nu p = a) (pr : R1 p = r1) : Cha R0 R1 t nu a b r1 [p] [] := by
  have hab : a ≠ b := fun z => hb p hp pr (by rw [pa, z])
  refine ⟨by simp, (fun i z => nomatch z), fun i z => ?_, fun i z => ?_, fun i z y => ?_, fun i z y => ?_, (fun i z => nomatch z), (fun i z => nomatch z), fun j h1 h2 h3 => ?_⟩
  · rw [List.mem_singleton.mp z]; exact hp
  · rw [List.mem_singleton.mp z]; exact .inl pa
  · rw [List.mem_singleton.mp z, pa] at y; exact absurd y hab
  · rw [List.mem_singleton.mp z]; exact .inl pr
  · rw [N.p1 j p h1 hp (by rw [h2, pa]) (by rw [h3, pr])]; exact List.mem_singleton.mpr rfl
theorem nd_last (h : (pre ++ [e]).Nodup) : ¬ e ∈ pre := fun z => by
  rw [List.nodup_append] at h
  exact h.2.2 e z e (List.mem_singleton.mpr rfl) rfl
theorem nd_snocN {l : List Nat} {x : Nat} (h : l.Nodup) (hx : ¬ x ∈ l) : (l ++ [x]).Nodup := by
  rw [List.nodup_append]
  refine ⟨h, by simp, fun y hy z hz w => ?_⟩
  rw [List.mem_singleton.mp hz] at w
  exact hx (w ▸ hy)
theorem Cha.to0 (N : Num R0 R1 t nu) (hab : a ≠ b) (h : Cha R0 R1 t nu a b r1 (pre ++ [e]) pre) (ea : nu e = a) (hp : p < t) (pb : nu p = b) (pr : R0 p = R0 e) : Cha R0 R1 t nu a b r1 ((pre ++ [e]) ++ [p]) (pre ++ [e]) := by
  have he : e ∈ pre ++ [e] := List.mem_append_right _ (List.mem_singleton.mpr rfl)
  have le := h.lt e he
  have np : ¬ p ∈ pre ++ [e] := fun z => by
    obtain ⟨e', h1, h2, h3⟩ := h.A p z pb
    have : e' = e := N.p0 e' e (h.lt e' (h.sub e' h1)) le (by rw [h2, ea]) (by rw [h3, pr])
    exact nd_last h.nd (this ▸ h1)
  have old : ∀ i, i ∈ pre ++ [e] → i ∈ (pre ++ [e]) ++ [p] := fun i z => List.mem_append_left _ z
  have cas : ∀ i, i ∈ (pre ++ [e]) ++ [p] → i ∈ pre ++ [e] ∨ i = p := fun i z => (List.mem_append.mp z).imp id List.mem_singleton.mp
  refine ⟨nd_snocN h.nd np, old, fun i z => ?_, fun i z => ?_, fun i z y => ?_, fun i z y => ?_, fun i z y j h1 h2 h3 => ?_, fun i z y j h1 h2 h3 => ?_, fun j h1 h2 h3 => old _ (h.F j h1 h2 h3)⟩
  · rcases cas i z with w | rfl
    · exact h.lt i w
    · exact hp
  · rcases cas i z with w | rfl
    · exact h.ab i w
    · exact .inr pb
  · rcases cas i z with w | rfl
    · obtain ⟨e', h1, h2⟩ := h.A i w y
      exact ⟨e', h.sub e' h1, h2⟩
    · exact ⟨e, he, ea, pr.symm⟩
  · rcases cas i z with w | rfl
    · rcases h.B i w y with v | ⟨e', h1, h2⟩
      · exact .inl v
      · exact .inr ⟨e', h.sub e' h1, h2⟩
    · exact absurd (y.symm.trans pb) hab
  · rcases List.mem_append.mp z with w | w
    · exact old _ (h.C i w y j h1 h2 h3)
    · rw [List.mem_singleton.mp w] at h3
      rw [N.p0 j p h1 hp (by rw [h2, pb]) (by rw [h3, pr])]
      exact List.mem_append_right _ (List.mem_singleton.mpr rfl)
  · rcases List.mem_append.mp z with w | w
    · exact old _ (h.D i w y j h1 h2 h3)
    · rw [List.mem_singleton.mp w, ea] at y
      exact absurd y hab
theorem Cha.to1 (N : Num R0 R1 t nu) (hab : a ≠ b) (hb : ∀ j, j < t → R1 j = r1 → nu j ≠ b) (h : Cha R0 R1 t nu a b r1 (pre ++ [e]) pre) (eb : nu e = b) (hp : p < t) (pa : nu p = a) (pr : R1 p = R1 e) : Cha R0 R1 t nu a b r1 ((pre ++ [e]) ++ [p]) (pre ++ [e]) := by
  have he : e ∈ pre ++ [e] := List.mem_append_right _ (List.mem_singleton.mpr rfl)
  have le := h.lt e he
  have np : ¬ p ∈ pre ++ [e] := fun z => by
    rcases h.B p z pa with w | ⟨e', h1, h2, h3⟩
    · exact hb e le (by rw [← pr, w]) eb
    · have : e' = e := N.p1 e' e (h.lt e' (h.sub e' h1)) le (by rw [h2, eb]) (by rw [h3, pr])
      exact nd_last h.nd (this ▸ h1)
  have old : ∀ i, i ∈ pre ++ [e] → i ∈ (pre ++ [e]) ++ [p] := fun i z => List.mem_append_left _ z
  have cas : ∀ i, i ∈ (pre ++ [e]) ++ [p] → i ∈ pre ++ [e] ∨ i = p := fun i z => (List.mem_append.mp z).imp id List.mem_singleton.mp
  refine ⟨nd_snocN h.nd np, old, fun i z => ?_, fun i z => ?_, fun i z y => ?_, fun i z y => ?_, fun i z y j h1 h2 h3 => ?_, fun i z y j h1 h2 h3 => ?_, fun j h1 h2 h3 => old _ (h.F j h1 h2 h3)⟩
  · rcases cas i z with w | rfl
    · exact h.lt i w
    · exact hp
  · rcases cas i z with w | rfl
    · exact h.ab i w
    · exact .inl pa
  · rcases cas i z with w | rfl
    · obtain ⟨e', h1, h2⟩ := h.A i w y
      exact ⟨e', h.sub e' h1, h2⟩
    · exact absurd (pa.symm.trans y) hab
  · rcases cas i z with w | rfl
    · rcases h.B i w y with v | ⟨e', h1, h2⟩
      · exact .inl v
      · exact .inr ⟨e', h.sub e' h1, h2⟩
    · exact .inr ⟨e, he, eb, pr.symm⟩
  · rcases List.mem_append.mp z with w | w
    · exact old _ (h.C i w y j h1 h2 h3)
    · rw [List.mem_singleton.mp w, eb] at y
      exact absurd y.symm hab
  · rcases List.mem_append.mp z with w | w
    · exact old _ (h.D i w y j h1 h2 h3)
    · rw [List.mem_singleton.mp w] at h3
      rw [N.p1 j p h1 hp (by rw [h2, pa]) (by rw [h3, pr])]
      exact List.mem_append_right _ (List.mem_singleton.mpr rfl)
theorem Cha.end0 (hab : a ≠ b) (h : Cha R0 R1 t nu a b r1 (pre ++ [e]) pre) (ea : nu e = a) (no : ∀ j, j < t → nu j = b → R0 j ≠ R0 e) : Cha R0 R1 t nu a b r1 (pre ++ [e]) (pre ++ [e]) := by
  refine ⟨h.nd, fun i z => z, h.lt, h.ab, fun i z y => ?_, fun i z y => ?_, fun i z y j h1 h2 h3 => ?_, fun i z y j h1 h2 h3 => ?_, h.F⟩
  · obtain ⟨e', h1, h2⟩ := h.A i z y
    exact ⟨e', h.sub e' h1, h2⟩
  · rcases h.B i z y with v | ⟨e', h1, h2⟩
    · exact .inl v
    · exact .inr ⟨e', h.sub e' h1, h2⟩
  · rcases List.mem_append.mp z with w | w
    · exact h.C i w y j h1 h2 h3
    · rw [List.mem_singleton.mp w] at h3
      exact absurd h3 (no j h1 h2)
  · rcases List.mem_append.mp z with w | w
    · exact h.D i w y j h1 h2 h3
    · rw [List.mem_singleton.mp w, ea] at y
      exact absurd y hab
theorem Cha.end1 (hab : a ≠ b) (h : Cha R0 R1 t nu a b r1 (pre ++ [e]) pre) (eb : nu e = b) (no : ∀ j, j < t → nu j = a → R1 j ≠ R1 e) : Cha R0 R1 t nu a b r1 (pre ++ [e]) (pre ++ [e]) := by
  refine ⟨h.nd, fun i z => z, h.lt, h.ab, fun i z y => ?_, fun i z y => ?_, fun i z y j h1 h2 h3 => ?_, fun i z y j h1 h2 h3 => ?_, h.F⟩
  · obtain ⟨e', h1, h2⟩ := h.A i z y
    exact ⟨e', h.sub e' h1, h2⟩
  · rcases h.B i z y with v | ⟨e', h1, h2⟩
    · exact .inl v
    · exact .inr ⟨e', h.sub e' h1, h2⟩
  · rcases List.mem_append.mp z with w | w
    · exact h.C i w y j h1 h2 h3
    · rw [List.mem_singleton.mp w, eb] at y
      exact absurd y.symm hab
  · rcases List.mem_append.mp z with w | w
    · exact h.D i w y j h1 h2 h3
    · rw [List.mem_singleton.mp w] at h3
      exact absurd h3 (no j h1 h2)
theorem Cha.closed (N : Num R0 R1 t nu) (hb : ∀ j, j < t → R1 j = r1 → nu j ≠ b) (h : Cha R0 R1 t nu a b r1 cs cs) {i j : Nat} (hi : i ∈ cs) (hj : j < t) (ja : nu j = a ∨ nu j = b) (sh : R0 i = R0 j ∨ R1 i = R1 j) : j ∈ cs := by
  have li := h.lt i hi
  rcases h.ab i hi with ia | ib
  · rcases ja with ja | jb
    · rcases sh with s | s
      · rw [← N.p0 i j li hj (by rw [ia, ja]) s]; exact hi
      · rw [← N.p1 i j li hj (by rw [ia, ja]) s]; exact hi
    · rcases sh with s | s
      · exact h.C i hi ia j hj jb s.symm
      · rcases h.B i hi ia with v | ⟨e, h1, h2, h3⟩
        · exact absurd jb (hb j hj (by rw [← s, v]))
        · rw [N.p1 j e hj (h.lt e h1) (by rw [jb, h2]) (by rw [← s, h3])]; exact h1
  · rcases ja with ja | jb
    · rcases sh with s | s
      · obtain ⟨e, h1, h2, h3⟩ := h.A i hi ib
        rw [N.p0 j e hj (h.lt e h1) (by rw [ja, h2]) (by rw [← s, h3])]; exact h1
      · exact h.D i hi ib j hj ja s.symm
    · rcases sh with s | s
      · rw [← N.p0 i j li hj (by rw [ib, jb]) s]; exact hi
      · rw [← N.p1 i j li hj (by rw [ib, jb]) s]; exact hi
def swp (a b x : Int) : Int := if x = a then b else a
theorem swp_in (x : Int) : swp a b x = a ∨ swp a b x = b := by
  unfold swp
  split
  · exact .inr rfl
  · exact .inl rfl
theorem swp_inj {x y : Int} (hx : x = a ∨ x = b) (hy : y = a ∨ y = b) (h : swp a b x = swp a b y) : x = y := by
  unfold swp at h
  split at h <;> split at h
  · omega
  · omega
  · omega
  · omega
theorem swapped (N : Num R0 R1 t nu) (hb : ∀ j, j < t → R1 j = r1 → nu j ≠ b) (h : Cha R0 R1 t nu a b r1 cs cs) {nu' : Nat → Int} (hn : ∀ i, i < t → nu' i = if i ∈ cs then swp a b (nu i) else nu i) : Num R0 R1 t nu' := by
  have key : ∀ i j, i < t → j < t → nu' i = nu' j → (R0 i = R0 j ∨ R1 i = R1 j) → nu i = nu j := fun i j hi hj e sh => by
    rw [hn i hi, hn j hj] at e
    by_cases ci : i ∈ cs
    · rw [if_pos ci] at e
      by_cases cj : j ∈ cs
      · rw [if_pos cj] at e
        exact swp_inj (h.ab i ci) (h.ab j cj) e
      · rw [if_neg cj] at e
        exact absurd (h.closed N hb ci hj (by rw [← e]; exact swp_in _) sh) cj
    · rw [if_neg ci] at e
      by_cases cj : j ∈ cs
      · rw [if_pos cj] at e
        exact absurd (h.closed N hb cj hi (by rw [e]; exact swp_in _) (sh.imp Eq.symm Eq.symm)) ci
      · rw [if_neg cj] at e
        exact e
  exact ⟨fun i j hi hj e s => N.p0 i j hi hj (key i j hi hj e (.inl s)) s, fun i j hi hj e s => N.p1 i j hi hj (key i j hi hj e (.inr s)) s⟩
theorem swapped0 {r0 : Int} (ha : ∀ j, j < t → R0 j = r0 → nu j ≠ a) (h : Cha R0 R1 t nu a b r1 cs cs) {nu' : Nat → Int} (hn : ∀ i, i < t → nu' i = if i ∈ cs then swp a b (nu i) else nu i) : ∀ j, j < t → R0 j = r0 → nu' j ≠ a := fun j hj hr e => by
  rw [hn j hj] at e
  by_cases cj : j ∈ cs
  · rcases h.ab j cj with w | w
    · exact ha j hj hr w
    · obtain ⟨e', h1, h2, h3⟩ := h.A j cj w
      exact ha e' (h.lt e' h1) (by rw [h3, hr]) h2
  · rw [if_neg cj] at e
    exact ha j hj hr e
theorem swapped1 (hb : ∀ j, j < t → R1 j = r1 → nu j ≠ b) (h : Cha R0 R1 t nu a b r1 cs cs) {nu' : Nat → Int} (hn : ∀ i, i < t → nu' i = if i ∈ cs then swp a b (nu i) else nu i) : ∀ j, j < t → R1 j = r1 → nu' j ≠ a := fun j hj hr e => by
  rw [hn j hj] at e
  by_cases cj : j ∈ cs
  · rw [if_pos cj] at e
    rcases h.ab j cj with w | w
    · unfold swp at e
      rw [if_pos w] at e
      exact hb j hj hr (by rw [w, e])
    · exact hb j hj hr w
  · rw [if_neg cj] at e
    exact cj (h.F j hj e hr)
theorem Num.snoc {x : Int} (N : Num R0 R1 t nu) (h0 : ∀ j, j < t → R0 j = R0 t → nu j ≠ x) (h1 : ∀ j, j < t → R1 j = R1 t → nu j ≠ x) {nu' : Nat → Int} (ho : ∀ i, i < t → nu' i = nu i) (hx : nu' t = x) : Num R0 R1 (t + 1) nu' := by
  refine ⟨fun i j hi hj e s => ?_, fun i j hi hj e s => ?_⟩
  · by_cases zi : i = t
    · by_cases zj : j = t
      · rw [zi, zj]
      · rw [zi, hx, ho j (by omega)] at e
        rw [zi] at s
        exact absurd e.symm (h0 j (by omega) s.symm)
    · by_cases zj : j = t
      · rw [zj, hx, ho i (by omega)] at e
        rw [zj] at s
        exact absurd e (h0 i (by omega) s)
      · rw [ho i (by omega), ho j (by omega)] at e
        exact N.p0 i j (by omega) (by omega) e s
  · by_cases zi : i = t
    · by_cases zj : j = t
      · rw [zi, zj]
      · rw [zi, hx, ho j (by omega)] at e
        rw [zi] at s
        exact absurd e.symm (h1 j (by omega) s.symm)
    · by_cases zj : j = t
      · rw [zj, hx, ho i (by omega)] at e
        rw [zj] at s
        exact absurd e (h1 i (by omega) s)
      · rw [ho i (by omega), ho j (by omega)] at e
        exact N.p1 i j (by omega) (by omega) e s
end
theorem nd_len {α : Type} [BEq α] [LawfulBEq α] : ∀ {l l' : List α}, l.Nodup → (∀ x ∈ l, x ∈ l') → l.length ≤ l'.length
  | [], _, _, _ => Nat.zero_le _
  | x :: t, l', n, h => by
    obtain ⟨n1, n2⟩ := List.nodup_cons.mp n
    have hx := h x (List.mem_cons_self ..)
    have ih := nd_len (l := t) (l' := l'.erase x) n2 fun y hy => (List.mem_erase_of_ne (show y ≠ x from fun z => n1 (z ▸ hy))).mpr (h y (List.mem_cons_of_mem _ hy))
    rw [List.length_erase_of_mem hx] at ih
    have := List.length_pos_of_mem hx
    rw [List.length_cons]
    omega
theorem nd_lt {t : Nat} {l : List Nat} (n : l.Nodup) (h : ∀ x ∈ l, x < t) : l.length ≤ t := by
  have := nd_len (l' := List.range t) n fun x hx => List.mem_range.mpr (h x hx)
  rwa [List.length_range] at this
theorem few_left {R nu : Nat → Int} {t x : Nat} {r : Int} (h : ∀ y : Nat, y < x → ∃ i, i < t ∧ R i = r ∧ nu i = (y : Int)) : x ≤ ((List.range t).filter fun i => decide (R i = r)).length := by
  have := nd_len (l := (List.range x).map fun y : Nat => (y : Int)) (l' := ((List.range t).filter fun i => decide (R i = r)).map nu) (List.Pairwise.map _ (fun a b c z => c (by omega)) List.nodup_range) fun y hy => by
    obtain ⟨k, hk, rfl⟩ := List.mem_map.mp hy
    obtain ⟨i, h1, h2, h3⟩ := h k (List.mem_range.mp hk)
    exact List.mem_map.mpr ⟨i, List.mem_filter.mpr ⟨List.mem_range.mpr h1, decide_eq_true h2⟩, h3⟩
  rwa [List.length_map, List.length_map, List.length_range] at this
theorem small9 {n : Nat} (h : n ≤ 100000) : n < sizeLine := Nat.lt_of_le_of_lt h (by decide)
def kRN (r x : Int) : List Key := [.inl r, .inl x]
theorem kRN_inj {r x r' x' : Int} (h : kRN r x = kRN r' x') : r = r' ∧ x = x' := by
  unfold kRN at h
  injection h with h1 h2
  injection h2 with h2 _
  exact ⟨Sum.inl.inj h1, Sum.inl.inj h2⟩
theorem valV_drop {κ : Type} [DecidableEq κ] (k j : κ) : ∀ kvs : List (κ × V), valV (dropK kvs k) j = if j = k then none else valV kvs j
  | [] => by
    show none = _
    split <;> rfl
  | p :: r => by
    by_cases e : p.1 = k
    · rw [dropK_pos e, valV_drop k j r]
      by_cases z : j = k
      · rw [if_pos z, if_pos z]
      · rw [if_neg z, if_neg z, valV_neg (fun y => z (y.symm.trans e))]
    · rw [dropK_neg e]
      by_cases z : p.1 = j
      · rw [valV_pos z, if_neg (fun y => e (z.trans y)), valV_pos z]
      · rw [valV_neg z, valV_drop k j r, valV_neg z]
def DT (kvs : List (List Key × V)) (R nu : Nat → Int) (In : Nat → Prop) : Prop := (∀ i, In i → valV kvs (kRN (R i) (nu i)) = some (.int (i : Nat))) ∧ ∀ (r x : Int) (v : V), valV kvs (kRN r x) = some v → ∃ i : Nat, In i ∧ R i = r ∧ nu i = x ∧ v = .int (i : Nat)
theorem DT.put {kvs : List (List Key × V)} {R nu nu' : Nat → Int} {In In' : Nat → Prop} {i : Nat} {x : Int} (h : DT kvs R nu In) (hi : ¬ In i) (hno : ∀ j, In j → R j = R i → nu j ≠ x) (ho : ∀ j, In j → nu' j = nu j) (hx : nu' i = x) (hI : ∀ j, In' j ↔ In j ∨ j = i) : DT (putK kvs (kRN (R i) x) (.int (i : Nat))) R nu' In' := by
  refine ⟨fun j hj => ?_, fun r y v hv => ?_⟩
  · rw [valV_put]
    rcases (hI j).mp hj with z | rfl
    · rw [ho j z, if_neg, h.1 j z]
      intro w
      obtain ⟨w1, w2⟩ := kRN_inj w
      exact hno j z w1 w2
    · rw [hx, if_pos rfl]
  · rw [valV_put] at hv
    by_cases z : kRN r y = kRN (R i) x
    · rw [if_pos z] at hv
      cases hv
      obtain ⟨w1, w2⟩ := kRN_inj z
      exact ⟨i, (hI i).mpr (.inr rfl), w1.symm, by rw [hx, w2], rfl⟩
    · rw [if_neg z] at hv
      obtain ⟨j, j1, j2, j3, j4⟩ := h.2 r y v hv
      exact ⟨j, (hI j).mpr (.inl j1), j2, by rw [ho j j1]; exact j3, j4⟩
theorem DT.drop {kvs : List (List Key × V)} {R nu : Nat → Int} {In In' : Nat → Prop} {i : Nat} (h : DT kvs R nu In) (inj : ∀ j, In j → R j = R i → nu j = nu i → j = i) (hI : ∀ j, In' j ↔ In j ∧ j ≠ i) : DT (dropK kvs (kRN (R i) (nu i))) R nu In' := by
  refine ⟨fun j hj => ?_, fun r y v hv => ?_⟩
  · obtain ⟨j1, j2⟩ := (hI j).mp hj
    rw [valV_drop, if_neg, h.1 j j1]
    intro w
    obtain ⟨w1, w2⟩ := kRN_inj w
    exact j2 (inj j j1 w1 w2)
  · rw [valV_drop] at hv
    by_cases z : kRN r y = kRN (R i) (nu i)
    · rw [if_pos z] at hv
      cases hv
    · rw [if_neg z] at hv
      obtain ⟨j, j1, j2, j3, j4⟩ := h.2 r y v hv
      exact ⟨j, (hI j).mpr ⟨j1, fun w => z (by rw [← j2, ← j3, w])⟩, j2, j3, j4⟩
theorem DT.look {kvs : List (List Key × V)} {R nu : Nat → Int} {In : Nat → Prop} (h : DT kvs R nu In) (r x : Int) : (valV kvs (kRN r x) = none ∧ ∀ i, In i → R i = r → nu i ≠ x) ∨ ∃ i, valV kvs (kRN r x) = some (.int (i : Nat)) ∧ In i ∧ R i = r ∧ nu i = x := by
  cases e : valV kvs (kRN r x) with
  | none =>
    refine .inl ⟨rfl, fun i h1 h2 h3 => ?_⟩
    have := h.1 i h1
    rw [h2, h3, e] at this
    cases this
  | some v =>
    obtain ⟨i, h1, h2, h3, h4⟩ := h.2 r x v e
    exact .inr ⟨i, by rw [h4], h1, h2, h3⟩
def RI (side : Int) (ps : List (Int × Int)) (i : Nat) : Int := sdI side (ps.getD i (0, 0))
theorem RI_at {side : Int} {ps : List (Int × Int)} {i : Nat} {p : Int × Int} (h : ps[i]? = some p) : RI side ps i = sdI side p := by
  unfold RI
  rw [List.getD, h]
  rfl
def nuL (ns : List Int) (i : Nat) : Int := ns.getD i 0
theorem cnt_range {side r : Int} {ps : List (Int × Int)} : ∀ t, t ≤ ps.length → (rks side (ps.take t)).count r = ((List.range t).filter fun i => decide (RI side ps i = r)).length
  | 0, _ => rfl
  | t + 1, h => by
    have e : ps[t]? = some (ps[t]'(by omega)) := List.getElem?_eq_getElem _
    rw [take_snoc e, rks, List.map_append, List.map_singleton, count_snoc, List.range_succ, List.filter_append, List.length_append, ← cnt_range t (by omega)]
    congr 1
    rw [← RI_at (side := side) e]
    by_cases z : RI side ps t = r
    · rw [if_pos z, List.filter_cons_of_pos (by simpa using z)]; rfl
    · rw [if_neg z, List.filter_cons_of_neg (by simpa using z)]; rfl
theorem cnt_more {side r : Int} {ps : List (Int × Int)} {t : Nat} (ht : t < ps.length) (hr : RI side ps t = r) : ((List.range t).filter fun i => decide (RI side ps i = r)).length + 1 ≤ (rks side ps).count r := by
  have h1 := cnt_range (side := side) (r := r) (ps := ps) (t + 1) ht
  rw [List.range_succ, List.filter_append, List.length_append, List.filter_cons_of_pos (by simpa using hr)] at h1
  have h2 : (rks side (ps.take (t + 1))).count r ≤ (rks side ps).count r := List.Sublist.count_le r (List.Sublist.map _ (List.take_sublist _ _))
  rw [h1] at h2
  exact h2
def SameX2 (c d : Addr) (H H' : Hp) : Prop := ∀ b u, b ≠ c → b ≠ d → H b = some u → H' b = some u
def SameX3 (c d e : Addr) (H H' : Hp) : Prop := ∀ b u, b ≠ c → b ≠ d → b ≠ e → H b = some u → H' b = some u
structure Tk (H : Hp) (tk d0 d1 : Addr) (kv0 kv1 : List (List Key × V)) : Prop where
  tk : H tk = some (.tup [.ref d0, .ref d1])
  e0 : H d0 = some (.dT kv0)
  e1 : H d1 = some (.dT kv1)
  ne : d0 ≠ d1
theorem Tk.same {H H' : Hp} {tk d0 d1 : Addr} {kv0 kv1 : List (List Key × V)} (s : Same H H') (h : Tk H tk d0 d1 kv0 kv1) : Tk H' tk d0 d1 kv0 kv1 := ⟨s _ _ h.tk, s _ _ h.e0, s _ _ h.e1, h.ne⟩
theorem tup_ne {H : Hp} {a b : Addr} {xs : List V} {kv : List (List Key × V)} (h : H a = some (.tup xs)) (h' : H b = some (.dT kv)) : a ≠ b := fun z => by rw [z, h'] at h; cases h
def spTake : Sp := fun vs H Q _ => ∃ (tk d0 d1 pa : Addr) (kv0 kv1 : List (List Key × V)) (p : Int × Int) (i : Nat) (x : Int), vs = [.ref tk, .int (i : Nat), .ref pa, .int x] ∧ Tk H tk d0 d1 kv0 kv1 ∧ H pa = some (.tup [.int p.1, .int p.2]) ∧ kv0.length ≤ 9000 ∧ kv1.length ≤ 9000 ∧
  ∀ H', SameX2 d0 d1 H H' → Tk H' tk d0 d1 (putK kv0 (kRN p.1 x) (.int (i : Nat))) (putK kv1 (kRN p.2 x) (.int (i : Nat))) → Q .non H'
def spLeave : Sp := fun vs H Q _ => ∃ (tk d0 d1 pa : Addr) (kv0 kv1 : List (List Key × V)) (p : Int × Int) (x : Int) (v0 v1 : V), vs = [.ref tk, .ref pa, .int x] ∧ Tk H tk d0 d1 kv0 kv1 ∧ H pa = some (.tup [.int p.1, .int p.2]) ∧ valV kv0 (kRN p.1 x) = some v0 ∧ valV kv1 (kRN p.2 x) = some v1 ∧
  ∀ H', SameX2 d0 d1 H H' → Tk H' tk d0 d1 (dropK kv0 (kRN p.1 x)) (dropK kv1 (kRN p.2 x)) → Q .non H'
def spLeft : Sp := fun vs H Q _ => ∃ (d : Addr) (kvs : List (List Key × V)) (r : Int), vs = [.ref d, .int r] ∧ H d = some (.dT kvs) ∧ (∀ x : Nat, (∀ y : Nat, y < x → (valV kvs (kRN r y)).isSome = true) → x ≤ 60) ∧
  ∀ (x : Nat) (H' : Hp), Same H H' → (∀ y : Nat, y < x → (valV kvs (kRN r y)).isSome = true) → valV kvs (kRN r x) = none → Q (.int (x : Nat)) H'
def spChain (K : PySem.W.Frag) : Sp := fun vs H Q _ => ∃ (l tk d0 d1 : Addr) (as : List Addr) (ps : List (Int × Int)) (kv0 kv1 : List (List Key × V)) (nu : Nat → Int) (t : Nat) (r1 a b : Int), vs = [.ref l, .ref tk, .int r1, .int a, .int b] ∧ SqL K H l (as.map V.ref) ∧ PrsAt H as ps ∧ t ≤ ps.length ∧ ps.length ≤ 60 ∧ Tk H tk d0 d1 kv0 kv1 ∧
  DT kv0 (RI 0 ps) nu (· < t) ∧ DT kv1 (RI 1 ps) nu (· < t) ∧ Num (RI 0 ps) (RI 1 ps) t nu ∧ (∀ j, j < t → RI 1 ps j = r1 → nu j ≠ b) ∧
  ∀ (cl : Addr) (cs : List Nat) (H' : Hp), Same H H' → H cl = none → H' cl = some (.lst (cs.map fun c => V.int (c : Nat))) → Cha (RI 0 ps) (RI 1 ps) t nu a b r1 cs cs → Q (.ref cl) H'
def spExch (K : PySem.W.Frag) : Sp := fun vs H Q _ => ∃ (l tk nl cl d0 d1 : Addr) (as : List Addr) (ps : List (Int × Int)) (kv0 kv1 : List (List Key × V)) (ns : List Int) (cs : List Nat) (r1 a b : Int), vs = [.ref l, .ref tk, .ref nl, .ref cl, .int a, .int b] ∧ SqL K H l (as.map V.ref) ∧ PrsAt H as ps ∧ ns.length ≤ ps.length ∧ ps.length ≤ 60 ∧ Tk H tk d0 d1 kv0 kv1 ∧ l ≠ nl ∧ cl ≠ nl ∧
  H nl = some (.lst (ns.map V.int)) ∧ H cl = some (.lst (cs.map fun c => V.int (c : Nat))) ∧ H l = some (.lst (as.map V.ref)) ∧ kv0.length ≤ 5000 ∧ kv1.length ≤ 5000 ∧
  DT kv0 (RI 0 ps) (nuL ns) (· < ns.length) ∧ DT kv1 (RI 1 ps) (nuL ns) (· < ns.length) ∧ Num (RI 0 ps) (RI 1 ps) ns.length (nuL ns) ∧ (∀ j, j < ns.length → RI 1 ps j = r1 → nuL ns j ≠ b) ∧ Cha (RI 0 ps) (RI 1 ps) ns.length (nuL ns) a b r1 cs cs ∧
  ∀ (ns' : List Int) (kv0' kv1' : List (List Key × V)) (H' : Hp), SameX3 d0 d1 nl H H' → Tk H' tk d0 d1 kv0' kv1' → H' nl = some (.lst (ns'.map V.int)) → ns'.length = ns.length → kv0'.length ≤ kv0.length + 60 → kv1'.length ≤ kv1.length + 60 → (∀ i, i < ns.length → nuL ns' i = if i ∈ cs then swp a b (nuL ns i) else nuL ns i) → DT kv0' (RI 0 ps) (nuL ns') (· < ns.length) → DT kv1' (RI 1 ps) (nuL ns') (· < ns.length) → Q .non H'
section
variable {P : Program} {w : World} {K : PySem.W.Frag} {mg : Str → Option Value} {base : Heap}
theorem sc_take : FnScope ["taken", "place", "pair", "number", "side"] ["taken", "place", "pair", "number"] (defScope (top 11)) := ⟨rfl, rfl, rfl, by decide +kernel, rfl, by decide +kernel, by decide +kernel⟩
theorem ok_take (T : Txt K mg) (D : Def K mg "take" (top 11) ["taken", "place", "pair", "number"]) : Callee P w K mg base 1 "take" ["taken", "place", "pair", "number"] spTake := by
  refine D.ok sc_take (fun vs H Q E h => ?_) (fun f cdv A outer s H vs Q E hr h => ?_)
  · obtain ⟨tk, d0, d1, pa, kv0, kv1, p, i, x, rfl, _⟩ := h
    rfl
  obtain ⟨tk, d0, d1, pa, kv0, kv1, p, i, x, rfl, tt, ep, l0, l1, q⟩ := h
  refine ⟨_, (pss_one (ps_for PassesOwn.never rfl (pi_range1 rfl T.m_range (pa_cons pe_int pa_nil st_const)) (pg_name (i := 4) sc_take.nd rfl (Or.inl rfl))
    (pss_one (ps_dput (hu_of hr) (pe_ix (ix_tupK K) (pv 0) (pv 4) (fun _ _ => rfl)) (pe_tup (pa_cons (pe_ix (ix_tupK K) (pv 2) (pv 4) (fun _ _ => rfl)) (pa_cons (pv 3) pa_nil st_name) st_sub)) (pv 1) rfl)))), ?_⟩
  refine ⟨_, rfl, by decide, by decide, ?_⟩
  have nt0 := tup_ne tt.tk tt.e0
  have nt1 := tup_ne tt.tk tt.e1
  have np0 := tup_ne ep tt.e0
  have np1 := tup_ne ep tt.e1
  refine for_range (lo := 0) (n := 2) (fun j σ H' => SameX2 d0 d1 H H' ∧ Tk H' tk d0 d1 (if 0 < j then putK kv0 (kRN p.1 x) (.int (i : Nat)) else kv0) (if 1 < j then putK kv1 (kRN p.2 x) (.int (i : Nat)) else kv1) ∧ ∃ v4, σ = [some (.ref tk), some (.int (i : Nat)), some (.ref pa), some (.int x), v4])
    ⟨fun b u _ _ z => z, tt, none, rfl⟩ ?_ ?_
  · rintro j σ H' hj ⟨sx, tj, v4, rfl⟩
    have ep' := sx _ _ np0 np1 ep
    match j, hj with
    | 0, _ =>
      refine ⟨_, rfl, _, rfl, _, rfl, tk, _, _, _, rfl, rfl, SqT.of tj.tk, rfl, _, rfl, _, rfl, pa, _, _, _, rfl, rfl, SqT.of ep', rfl, _, rfl, (by show 2 ≤ sizeLine; decide), fun k hk => ?_⟩
      have s2 := same_new hk (.tup [.int p.1, .int x])
      have ek := upd_same (H := H') (a := k) (o := .tup [.int p.1, .int x])
      have t2 := tj.same s2
      generalize upd H' k (.tup [.int p.1, .int x]) = H2 at s2 ek t2 ⊢
      refine ⟨d0, _, rfl, DPut.t (k := kRN p.1 x) t2.e0 ek (small9 (show kv0.length ≤ 100000 by omega)), ?_⟩
      refine ⟨fun b u b0 b1 z => by rw [upd_ne b0]; exact s2 _ _ (sx b u b0 b1 z), ⟨by rw [upd_ne nt0]; exact t2.tk, upd_same, by rw [upd_ne (Ne.symm tt.ne)]; exact t2.e1, tt.ne⟩, _, rfl⟩
    | 1, _ =>
      refine ⟨_, rfl, _, rfl, _, rfl, tk, _, _, _, rfl, rfl, SqT.of tj.tk, rfl, _, rfl, _, rfl, pa, _, _, _, rfl, rfl, SqT.of ep', rfl, _, rfl, (by show 2 ≤ sizeLine; decide), fun k hk => ?_⟩
      have s2 := same_new hk (.tup [.int p.2, .int x])
      have ek := upd_same (H := H') (a := k) (o := .tup [.int p.2, .int x])
      have t2 := tj.same s2
      generalize upd H' k (.tup [.int p.2, .int x]) = H2 at s2 ek t2 ⊢
      refine ⟨d1, _, rfl, DPut.t (k := kRN p.2 x) t2.e1 ek (small9 (show kv1.length ≤ 100000 by omega)), ?_⟩
      refine ⟨fun b u b0 b1 z => by rw [upd_ne b1]; exact s2 _ _ (sx b u b0 b1 z), ⟨by rw [upd_ne nt1]; exact t2.tk, by rw [upd_ne tt.ne]; exact t2.e0, upd_same, tt.ne⟩, _, rfl⟩
  · rintro σ H' ⟨sx, tj, v4, rfl⟩
    exact q H' sx tj
theorem sc_leave : FnScope ["taken", "pair", "number", "side"] ["taken", "pair", "number"] (defScope (top 12)) := ⟨rfl, rfl, rfl, by decide +kernel, rfl, by decide +kernel, by decide +kernel⟩
theorem ok_leave (T : Txt K mg) (D : Def K mg "leave" (top 12) ["taken", "pair", "number"]) : Callee P w K mg base 1 "leave" ["taken", "pair", "number"] spLeave := by
  refine D.ok sc_leave (fun vs H Q E h => ?_) (fun f cdv A outer s H vs Q E hr h => ?_)
  · obtain ⟨tk, d0, d1, pa, kv0, kv1, p, x, v0, v1, rfl, _⟩ := h
    rfl
  obtain ⟨tk, d0, d1, pa, kv0, kv1, p, x, v0, v1, rfl, tt, ep, l0, l1, q⟩ := h
  refine ⟨_, (pss_one (ps_for PassesOwn.never rfl (pi_range1 rfl T.m_range (pa_cons pe_int pa_nil st_const)) (pg_name (i := 3) sc_leave.nd rfl (Or.inl rfl))
    (pss_one (ps_expr (pe_dpopT (hu_of hr) (pe_ix (ix_tupK K) (pv 0) (pv 3) (fun _ _ => rfl)) (pe_tup (pa_cons (pe_ix (ix_tupK K) (pv 1) (pv 3) (fun _ _ => rfl)) (pa_cons (pv 2) pa_nil st_name) st_sub)) ⟨rfl, rfl, rfl, rfl⟩))))), ?_⟩
  refine ⟨_, rfl, by decide, by decide, ?_⟩
  have nt0 := tup_ne tt.tk tt.e0
  have nt1 := tup_ne tt.tk tt.e1
  have np0 := tup_ne ep tt.e0
  have np1 := tup_ne ep tt.e1
  refine for_range (lo := 0) (n := 2) (fun j σ H' => SameX2 d0 d1 H H' ∧ Tk H' tk d0 d1 (if 0 < j then dropK kv0 (kRN p.1 x) else kv0) (if 1 < j then dropK kv1 (kRN p.2 x) else kv1) ∧ ∃ v3, σ = [some (.ref tk), some (.ref pa), some (.int x), v3])
    ⟨fun b u _ _ z => z, tt, none, rfl⟩ ?_ ?_
  · rintro j σ H' hj ⟨sx, tj, v3, rfl⟩
    have ep' := sx _ _ np0 np1 ep
    match j, hj with
    | 0, _ =>
      refine ⟨_, rfl, _, rfl, tk, _, _, _, rfl, rfl, SqT.of tj.tk, rfl, d0, rfl, .inr ⟨_, .inl tj.e0⟩, _, rfl, _, rfl, pa, _, _, _, rfl, rfl, SqT.of ep', rfl, _, rfl, (by show 2 ≤ sizeLine; decide), fun k hk => ?_⟩
      have s2 := same_new hk (.tup [.int p.1, .int x])
      have ek := upd_same (H := H') (a := k) (o := .tup [.int p.1, .int x])
      have t2 := tj.same s2
      generalize upd H' k (.tup [.int p.1, .int x]) = H2 at s2 ek t2 ⊢
      refine ⟨_, kRN p.1 x, k, v0, t2.e0, rfl, ek, l0, ?_⟩
      refine ⟨fun b u b0 b1 z => by rw [upd_ne b0]; exact s2 _ _ (sx b u b0 b1 z), ⟨by rw [upd_ne nt0]; exact t2.tk, upd_same, by rw [upd_ne (Ne.symm tt.ne)]; exact t2.e1, tt.ne⟩, _, rfl⟩
    | 1, _ =>
      refine ⟨_, rfl, _, rfl, tk, _, _, _, rfl, rfl, SqT.of tj.tk, rfl, d1, rfl, .inr ⟨_, .inl tj.e1⟩, _, rfl, _, rfl, pa, _, _, _, rfl, rfl, SqT.of ep', rfl, _, rfl, (by show 2 ≤ sizeLine; decide), fun k hk => ?_⟩
      have s2 := same_new hk (.tup [.int p.2, .int x])
      have ek := upd_same (H := H') (a := k) (o := .tup [.int p.2, .int x])
      have t2 := tj.same s2
      generalize upd H' k (.tup [.int p.2, .int x]) = H2 at s2 ek t2 ⊢
      refine ⟨_, kRN p.2 x, k, v1, t2.e1, rfl, ek, l1, ?_⟩
      refine ⟨fun b u b0 b1 z => by rw [upd_ne b1]; exact s2 _ _ (sx b u b0 b1 z), ⟨by rw [upd_ne nt1]; exact t2.tk, by rw [upd_ne tt.ne]; exact t2.e0, upd_same, tt.ne⟩, _, rfl⟩
  · rintro σ H' ⟨sx, tj, v3, rfl⟩
    exact q H' sx tj
theorem sc_first_left : FnScope ["places", "rack", "number"] ["places", "rack"] (defScope (top 13)) := ⟨rfl, rfl, rfl, by decide +kernel, rfl, by decide +kernel, by decide +kernel⟩
theorem ok_left (T : Txt K mg) (D : Def K mg "first_left" (top 13) ["places", "rack"]) : Callee P w K mg base 1 "first_left" ["places", "rack"] spLeft := by
  refine D.ok sc_first_left (fun vs H Q E h => ?_) (fun f cdv A outer s H vs Q E hr h => ?_)
  · obtain ⟨d, kvs, r, rfl, _⟩ := h
    rfl
  obtain ⟨d, kvs, r, rfl, ed, hb, q⟩ := h
  refine ⟨_, (pss_cons (ps_set (i := 2) sc_first_left.nd rfl (Or.inl rfl) pe_int)
    (pss_cons (ps_while PassesOwn.never (pt_cmp (pc_din (hu_of hr) (pe_tup (pa_cons (pv 1) (pa_cons (pv 2) pa_nil st_name) st_name)) (pv 0))) (pss_one (ps_aug (i := 2) sc_first_left.nd rfl (Or.inl rfl) pe_int ipR_add)))
    (pss_one (ps_ret (pv 2))))), ?_⟩
  refine ⟨fun m σ H' => Same H H' ∧ ∃ x : Nat, m = 61 - x ∧ (∀ y : Nat, y < x → (valV kvs (kRN r y)).isSome = true) ∧ σ = [some (.ref d), some (.int r), some (.int (x : Nat))],
    ⟨_, fun b u z => z, 0, rfl, fun y hy => absurd hy (Nat.not_lt_zero _), rfl⟩, ?_⟩
  rintro m σ H' ⟨s1, x, rfl, hx, rfl⟩
  refine ⟨_, rfl, _, rfl, (by show 2 ≤ sizeLine; decide), fun k hk => ?_⟩
  have s2 := same_new hk (.tup [.int r, .int (x : Nat)])
  have ek := upd_same (H := H') (a := k) (o := .tup [.int r, .int (x : Nat)])
  generalize upd H' k (.tup [.int r, .int (x : Nat)]) = H2 at s2 ek ⊢
  refine ⟨_, rfl, d, _, rfl, DGet.t (k := kRN r x) (s2 _ _ (s1 _ _ ed)) ek, ?_⟩
  have h60 := hb x hx
  cases e : valV kvs (kRN r x) with
  | some v =>
    refine ⟨true, rfl, iteT ?_⟩
    have hx' : ∀ y : Nat, y < x + 1 → (valV kvs (kRN r y)).isSome = true := fun y hy => by
      rcases Nat.lt_succ_iff_lt_or_eq.mp hy with z | rfl
      · exact hx y z
      · rw [e]; rfl
    have h61 := hb (x + 1) hx'
    refine ⟨fun σ' G => ∃ m', m' < 61 - x ∧ (Same H G ∧ ∃ x : Nat, m' = 61 - x ∧ (∀ y : Nat, y < x → (valV kvs (kRN r y)).isSome = true) ∧ σ' = [some (.ref d), some (.int r), some (.int (x : Nat))]), fun σ' G z => z, ?_⟩
    exact ⟨_, rfl, _, _, rfl, rfl, 61 - (x + 1), by omega, s1.trans s2, x + 1, rfl, hx', rfl⟩
  | none =>
    refine ⟨false, rfl, iteF ?_⟩
    exact ⟨_, rfl, q x H2 (s1.trans s2) hx e⟩
end
def Pend (R0 R1 : Nat → Int) (t : Nat) (nu : Nat → Int) (a b r1 : Int) (cs : List Nat) (side : Int) (nx : Option Nat) : Prop :=
  (side = 0 ∨ side = 1) ∧ (nx = none → Cha R0 R1 t nu a b r1 cs cs) ∧ ∀ p, nx = some p → p < t ∧ a ≠ b ∧ nu p = (if side = 1 then a else b) ∧ Cha R0 R1 t nu a b r1 (cs ++ [p]) cs
theorem cha_len {R0 R1 : Nat → Int} {t : Nat} {nu : Nat → Int} {a b r1 : Int} {cs pre : List Nat} (h : Cha R0 R1 t nu a b r1 cs pre) : cs.length ≤ t := nd_lt h.nd h.lt
theorem prs_get {H : Hp} {as : List Addr} {ps : List (Int × Int)} (h : PrsAt H as ps) {i : Nat} (hi : i < ps.length) : ∃ a p, as[i]? = some a ∧ ps[i]? = some p ∧ H a = some (.tup [.int p.1, .int p.2]) := by
  have ln : as.length = ps.length := Paired.length h
  have ea : as[i]? = some (as[i]'(by omega)) := List.getElem?_eq_getElem _
  obtain ⟨p, hp, e⟩ := paired_at h i _ ea
  exact ⟨_, p, ea, hp, e⟩
section
variable {P : Program} {w : World} {K : PySem.W.Frag} {mg : Str → Option Value} {base : Heap}
theorem sc_chain_along : FnScope ["pairs", "taken", "rack", "a", "b", "chain", "side", "place"] ["pairs", "taken", "rack", "a", "b"] (defScope (top 14)) := ⟨rfl, rfl, rfl, by decide +kernel, rfl, by decide +kernel, by decide +kernel⟩
set_option maxHeartbeats 4000000 in
theorem ok_chain (T : Txt K mg) (D : Def K mg "chain_along" (top 14) ["pairs", "taken", "rack", "a", "b"]) : Callee P w K mg base 1 "chain_along" ["pairs", "taken", "rack", "a", "b"] (spChain K) := by
  refine D.ok sc_chain_along (fun vs H Q E h => ?_) (fun f cdv A outer s H vs Q E hr h => ?_)
  · obtain ⟨l, tk, d0, d1, as, ps, kv0, kv1, nu, t, r1, a, b, rfl, _⟩ := h
    rfl
  obtain ⟨l, tk, d0, d1, as, ps, kv0, kv1, nu, t, r1, a, b, rfl, hl, pr, ht, few, tt, D0, D1, N, hb, q⟩ := h
  have ln : as.length = ps.length := Paired.length pr
  refine ⟨_, (pss_cons (ps_set (i := 5) sc_chain_along.nd rfl (Or.inl rfl) (pe_lst pa_nil))
    (pss_cons (ps_set (i := 6) sc_chain_along.nd rfl (Or.inl rfl) pe_int)
    (pss_cons (ps_set (i := 7) sc_chain_along.nd rfl (Or.inl rfl) (pe_dget1 (hu_of hr) (pe_ix (ix_tupK K) (pv 1) (pv 6) (fun _ _ => rfl)) (pe_tup (pa_cons (pv 2) (pa_cons (pv 3) pa_nil st_name) st_name)) ⟨rfl, rfl, rfl, rfl⟩))
    (pss_cons (ps_while PassesOwn.never (pt_cmpR op_notN (pv 7) pe_non (nomark _)) (pss_cons (ps_expr (pe_bmK K PySem.F.plainAttrs_list PySem.F.slot_list_append PySem.F.type_list_append mt_appendR (pv 5) (pa_cons (pv 7) pa_nil st_name)))
    (pss_cons (ps_set (i := 6) sc_chain_along.nd rfl (Or.inl rfl) (pe_op op_sub pe_int (pv 6)))
    (pss_one (ps_set (i := 7) sc_chain_along.nd rfl (Or.inl rfl) (pe_dget1 (hu_of hr) (pe_ix (ix_tupK K) (pv 1) (pv 6) (fun _ _ => rfl)) (pe_tup (pa_cons (pe_ix (ix_tupK K) (pe_ix (ix_listK K) (pv 0) (pv 7) (fun _ _ => rfl)) (pv 6) (fun _ _ => rfl)) (pa_cons (pe_ix (ix_tupK K) (pe_tup (pa_cons (pv 4) (pa_cons (pv 3) pa_nil st_name) st_name)) (pv 6) (fun _ _ => rfl)) pa_nil st_sub) st_sub)) ⟨rfl, rfl, rfl, rfl⟩))))))
    (pss_one (ps_ret (pv 5))))))), ?_⟩
  refine ⟨(by show 0 ≤ sizeLine; decide), fun cl hcl => ?_⟩
  have s1 := same_new hcl (.lst [])
  have ec := upd_same (H := H) (a := cl) (o := .lst [])
  have t1 := tt.same s1
  generalize upd H cl (.lst []) = H1 at s1 ec t1 ⊢
  refine ⟨_, rfl, _, rfl, tk, _, _, _, rfl, rfl, SqT.of t1.tk, rfl, d1, rfl, .inr ⟨_, .inl t1.e1⟩, _, rfl, _, rfl, (by show 2 ≤ sizeLine; decide), fun k hk => ?_⟩
  have s2 := same_new hk (.tup [.int r1, .int a])
  have ek := upd_same (H := H1) (a := k) (o := .tup [.int r1, .int a])
  have t2 := t1.same s2
  have ec2 := s2 _ _ ec
  generalize upd H1 k (.tup [.int r1, .int a]) = H2 at s2 ek t2 ec2 ⊢
  refine ⟨_, DGet.t (k := kRN r1 a) t2.e1 ek, ?_⟩
  obtain ⟨nx, vx, pd⟩ : ∃ nx : Option Nat, (valV kv1 (kRN r1 a)).getD .non = oN nx ∧ Pend (RI 0 ps) (RI 1 ps) t nu a b r1 [] 1 nx := by
    rcases D1.look r1 a with ⟨e1, e2⟩ | ⟨i, e1, e2, e3, e4⟩
    · exact ⟨none, by rw [e1]; rfl, .inr rfl, fun _ => Cha.none fun j h1 h2 h3 => e2 j h1 h3 h2, fun p z => nomatch z⟩
    · refine ⟨some i, by rw [e1]; rfl, .inr rfl, fun z => (nomatch z), fun p z => ?_⟩
      cases z
      exact ⟨e2, fun z => hb i e2 e3 (by rw [e4, z]), by rw [if_pos rfl]; exact e4, Cha.one N hb e2 e4 e3⟩
  rw [vx]
  have s12 := s1.trans s2
  refine ⟨fun m σ H' => Same H H' ∧ ∃ (cs : List Nat) (side : Int) (nx : Option Nat), m = 61 - cs.length ∧ H' cl = some (.lst (cs.map fun c => V.int (c : Nat))) ∧ Pend (RI 0 ps) (RI 1 ps) t nu a b r1 cs side nx ∧ σ = [some (.ref l), some (.ref tk), some (.int r1), some (.int a), some (.int b), some (.ref cl), some (.int side), some (oN nx)],
    ⟨_, s12, [], 1, nx, rfl, ec2, pd, rfl⟩, ?_⟩
  rintro m σ H' ⟨s3, cs, side, nx, rfl, e3, pd, rfl⟩
  obtain ⟨hside, pd0, pd1⟩ := pd
  cases nx with
  | none =>
    refine ⟨_, rfl, rfl, _, rfl, iteF ?_⟩
    exact ⟨_, rfl, q cl cs H' s3 hcl e3 (pd0 rfl)⟩
  | some p =>
    obtain ⟨pt, hab, pn, cha⟩ := pd1 p rfl
    refine ⟨_, rfl, rfl, _, rfl, iteT ?_⟩
    have cl60 : (cs ++ [p]).length ≤ t := cha_len cha
    rw [List.length_append, List.length_singleton] at cl60
    refine ⟨fun σ' G => ∃ m', m' < 61 - cs.length ∧ (Same H G ∧ ∃ (cs : List Nat) (side : Int) (nx : Option Nat), m' = 61 - cs.length ∧ G cl = some (.lst (cs.map fun c => V.int (c : Nat))) ∧ Pend (RI 0 ps) (RI 1 ps) t nu a b r1 cs side nx ∧ σ' = [some (.ref l), some (.ref tk), some (.int r1), some (.int a), some (.int b), some (.ref cl), some (.int side), some (oN nx)]), fun σ' G z => z, ?_⟩
    refine ⟨_, rfl, .inl ⟨rfl, _, SqL.of e3⟩, _, rfl, cl, _, _, rfl, rfl, e3, small1000 (by rw [List.length_map]; omega), ?_⟩
    have s4 : Same H (upd H' cl (.lst ((cs.map fun c => V.int (c : Nat)) ++ [oN (some p)]))) := Same.put s3 hcl
    have e4 : upd H' cl (.lst ((cs.map fun c => V.int (c : Nat)) ++ [oN (some p)])) cl = some (.lst ((cs ++ [p]).map fun c => V.int (c : Nat))) := by rw [upd_same, List.map_append]; rfl
    generalize upd H' cl (.lst ((cs.map fun c => V.int (c : Nat)) ++ [oN (some p)])) = H4 at s4 e4 ⊢
    have t4 := tt.same s4
    refine ⟨_, rfl, _, _, rfl, rfl, ?_⟩
    obtain ⟨ap, pp, ha, hp, ep⟩ := prs_get pr (show p < ps.length by omega)
    have ep4 := s4 _ _ ep
    have hat : atI (as.map V.ref) ((p : Nat) : Int) = some (.ref ap) := atI_nat (by rw [List.getElem?_map, ha]; rfl)
    rcases hside with rfl | rfl
    · -- behind a pair with b: its out rack
      rw [if_neg (by decide)] at pn
      refine ⟨_, rfl, _, rfl, tk, _, _, _, rfl, rfl, SqT.of t4.tk, rfl, d1, rfl, .inr ⟨_, .inl t4.e1⟩, _, rfl, _, rfl, l, _, _, _, rfl, rfl, s4.seq hl, hat, _, rfl, ap, _, _, _, rfl, rfl, SqT.of ep4, rfl, _, rfl, _, rfl, (by show 2 ≤ sizeLine; decide), fun k2 hk2 => ?_⟩
      have s5 := same_new hk2 (.tup [.int b, .int a])
      have ek2 := upd_same (H := H4) (a := k2) (o := .tup [.int b, .int a])
      have t5 := t4.same s5
      have e5 := s5 _ _ e4
      generalize upd H4 k2 (.tup [.int b, .int a]) = H5 at s5 ek2 t5 e5 ⊢
      refine ⟨_, rfl, k2, _, _, _, rfl, rfl, SqT.of ek2, rfl, (by show 2 ≤ sizeLine; decide), fun k3 hk3 => ?_⟩
      have s6 := same_new hk3 (.tup [.int pp.2, .int a])
      have ek3 := upd_same (H := H5) (a := k3) (o := .tup [.int pp.2, .int a])
      have t6 := t5.same s6
      have e6 := s6 _ _ e5
      generalize upd H5 k3 (.tup [.int pp.2, .int a]) = H6 at s6 ek3 t6 e6 ⊢
      refine ⟨_, DGet.t (k := kRN pp.2 a) t6.e1 ek3, ?_⟩
      have rp : RI 1 ps p = pp.2 := RI_at hp
      obtain ⟨nx, vx, pd⟩ : ∃ nx : Option Nat, (valV kv1 (kRN pp.2 a)).getD .non = oN nx ∧ Pend (RI 0 ps) (RI 1 ps) t nu a b r1 (cs ++ [p]) 1 nx := by
        rcases D1.look pp.2 a with ⟨e1, e2⟩ | ⟨i, e1, e2, e3, e4⟩
        · exact ⟨none, by rw [e1]; rfl, .inr rfl, fun _ => cha.end1 hab pn fun j h1 h2 h3 => e2 j h1 (by rw [h3, rp]) h2, fun p z => nomatch z⟩
        · refine ⟨some i, by rw [e1]; rfl, .inr rfl, fun z => (nomatch z), fun p' z => ?_⟩
          cases z
          exact ⟨e2, hab, by rw [if_pos rfl]; exact e4, cha.to1 N hab hb pn e2 e4 (by rw [e3, rp])⟩
      rw [vx]
      exact ⟨61 - (cs ++ [p]).length, by rw [List.length_append, List.length_singleton]; omega, s4.trans (s5.trans s6), cs ++ [p], 1, nx, rfl, e6, pd, rfl⟩
    · rw [if_pos rfl] at pn
      refine ⟨_, rfl, _, rfl, tk, _, _, _, rfl, rfl, SqT.of t4.tk, rfl, d0, rfl, .inr ⟨_, .inl t4.e0⟩, _, rfl, _, rfl, l, _, _, _, rfl, rfl, s4.seq hl, hat, _, rfl, ap, _, _, _, rfl, rfl, SqT.of ep4, rfl, _, rfl, _, rfl, (by show 2 ≤ sizeLine; decide), fun k2 hk2 => ?_⟩
      have s5 := same_new hk2 (.tup [.int b, .int a])
      have ek2 := upd_same (H := H4) (a := k2) (o := .tup [.int b, .int a])
      have t5 := t4.same s5
      have e5 := s5 _ _ e4
      generalize upd H4 k2 (.tup [.int b, .int a]) = H5 at s5 ek2 t5 e5 ⊢
      refine ⟨_, rfl, k2, _, _, _, rfl, rfl, SqT.of ek2, rfl, (by show 2 ≤ sizeLine; decide), fun k3 hk3 => ?_⟩
      have s6 := same_new hk3 (.tup [.int pp.1, .int b])
      have ek3 := upd_same (H := H5) (a := k3) (o := .tup [.int pp.1, .int b])
      have t6 := t5.same s6
      have e6 := s6 _ _ e5
      generalize upd H5 k3 (.tup [.int pp.1, .int b]) = H6 at s6 ek3 t6 e6 ⊢
      refine ⟨_, DGet.t (k := kRN pp.1 b) t6.e0 ek3, ?_⟩
      have rp : RI 0 ps p = pp.1 := RI_at hp
      obtain ⟨nx, vx, pd⟩ : ∃ nx : Option Nat, (valV kv0 (kRN pp.1 b)).getD .non = oN nx ∧ Pend (RI 0 ps) (RI 1 ps) t nu a b r1 (cs ++ [p]) 0 nx := by
        rcases D0.look pp.1 b with ⟨e1, e2⟩ | ⟨i, e1, e2, e3, e4⟩
        · exact ⟨none, by rw [e1]; rfl, .inl rfl, fun _ => cha.end0 hab pn fun j h1 h2 h3 => e2 j h1 (by rw [h3, rp]) h2, fun p z => nomatch z⟩
        · refine ⟨some i, by rw [e1]; rfl, .inl rfl, fun z => (nomatch z), fun p' z => ?_⟩
          cases z
          exact ⟨e2, hab, by rw [if_neg (by decide)]; exact e4, cha.to0 N hab pn e2 e4 (by rw [e3, rp])⟩
      rw [vx]
      exact ⟨61 - (cs ++ [p]).length, by rw [List.length_append, List.length_singleton]; omega, s4.trans (s5.trans s6), cs ++ [p], 0, nx, rfl, e6, pd, rfl⟩
end
theorem nu_set {ns : List Int} {i : Nat} {x : Int} (h : i < ns.length) (j : Nat) : nuL (ns.set i x) j = if j = i then x else nuL ns j := by
  unfold nuL
  by_cases e : j = i
  · rw [if_pos e, e, List.getD, List.getElem?_set_self h]
    rfl
  · rw [if_neg e, List.getD, List.getElem?_set_ne (Ne.symm e), List.getD]
theorem nu_snoc {ns : List Int} {x : Int} : (∀ i, i < ns.length → nuL (ns ++ [x]) i = nuL ns i) ∧ nuL (ns ++ [x]) ns.length = x := by
  refine ⟨fun i hi => ?_, ?_⟩
  · unfold nuL
    rw [List.getD, List.getElem?_append_left hi, List.getD]
  · unfold nuL
    rw [List.getD, List.getElem?_concat_length]
    rfl
theorem mem_take_lt {cs : List Nat} {k j : Nat} {c : Nat} (nd : cs.Nodup) (hc : cs[k]? = some c) : ¬ c ∈ cs.take k := fun z => by
  obtain ⟨i, hi, e⟩ := List.getElem_of_mem z
  rw [List.length_take] at hi
  have hk := (List.getElem?_eq_some_iff.mp hc).1
  have e1 : cs[i]? = some c := by
    rw [List.getElem_take] at e
    rw [List.getElem?_eq_getElem (by omega), e]
  have := (List.getElem?_inj (by omega) nd).mp (e1.trans hc.symm)
  omega
section
variable {P : Program} {w : World} {K : PySem.W.Frag} {mg : Str → Option Value} {base : Heap}
theorem sc_exchange : FnScope ["pairs", "taken", "numbers", "chain", "a", "b", "place"] ["pairs", "taken", "numbers", "chain", "a", "b"] (defScope (top 15)) := ⟨rfl, rfl, rfl, by decide +kernel, rfl, by decide +kernel, by decide +kernel⟩
set_option maxHeartbeats 4000000 in
theorem ok_exch (T : Txt K mg) (C_take : Callee P w K mg base 1 "take" ["taken", "place", "pair", "number"] spTake) (C_leave : Callee P w K mg base 1 "leave" ["taken", "pair", "number"] spLeave) (D : Def K mg "exchange" (top 15) ["pairs", "taken", "numbers", "chain", "a", "b"]) : Callee P w K mg base 2 "exchange" ["pairs", "taken", "numbers", "chain", "a", "b"] (spExch K) := by
  refine D.ok sc_exchange (fun vs H Q E h => ?_) (fun f cdv A outer s H vs Q E hr h => ?_)
  · obtain ⟨l, tk, nl, cl, d0, d1, as, ps, kv0, kv1, ns, cs, r1, a, b, rfl, _⟩ := h
    rfl
  obtain ⟨l, tk, nl, cl, d0, d1, as, ps, kv0, kv1, ns, cs, r1, a, b, rfl, hl, pr, ht, few, tt, hln, hcn, en, ec, el, k0, k1, D0, D1, N, hb, ch, q⟩ := h
  have ln : as.length = ps.length := Paired.length pr
  have cl60 := cha_len ch
  refine ⟨_, (pss_cons (ps_for PassesOwn.never rfl (pi_listK K (pv 3)) (pg_name (i := 6) sc_exchange.nd rfl (Or.inl rfl))
    (pss_one (ps_expr (pe_fn C_leave hr rfl (pa_cons (pv 1) (pa_cons (pe_ix (ix_listK K) (pv 0) (pv 6) (fun _ _ => rfl)) (pa_cons (pe_ix (ix_listK K) (pv 2) (pv 6) (fun _ _ => rfl)) pa_nil st_sub) st_sub) st_name)))))
    (pss_one (ps_for PassesOwn.never rfl (pi_listK K (pv 3)) (pg_name (i := 6) sc_exchange.nd rfl (Or.inl rfl))
    (pss_cons (ps_asg (pe_ifExp (pt_cmpR op_eq (pe_ix (ix_listK K) (pv 2) (pv 6) (fun _ _ => rfl)) (pv 4) (nomark _)) (pv 5) (pv 4)) (pg_sub (pv 2) (pv 6) set_list))
    (pss_one (ps_expr (pe_fn C_take hr rfl (pa_cons (pv 1) (pa_cons (pv 6) (pa_cons (pe_ix (ix_listK K) (pv 0) (pv 6) (fun _ _ => rfl)) (pa_cons (pe_ix (ix_listK K) (pv 2) (pv 6) (fun _ _ => rfl)) pa_nil st_sub) st_sub) st_name) st_name)))))))), ?_⟩
  have ln0 : l ≠ d0 := fun z => by rw [z, tt.e0] at el; cases el
  have ln1 : l ≠ d1 := fun z => by rw [z, tt.e1] at el; cases el
  have cn0 : cl ≠ d0 := fun z => by rw [z, tt.e0] at ec; cases ec
  have cn1 : cl ≠ d1 := fun z => by rw [z, tt.e1] at ec; cases ec
  have nn0 : nl ≠ d0 := fun z => by rw [z, tt.e0] at en; cases en
  have nn1 : nl ≠ d1 := fun z => by rw [z, tt.e1] at en; cases en
  have ntn : tk ≠ nl := fun z => by
    have := tt.tk
    rw [z, en] at this
    cases this
  have tupX : ∀ {H' : Hp}, SameX2 d0 d1 H H' → ∀ x xs, H x = some (.tup xs) → H' x = some (.tup xs) := fun sx x xs z => sx _ _ (tup_ne z tt.e0) (tup_ne z tt.e1) z
  refine ⟨_, rfl, cl, rfl, ⟨_, SqL.of ec⟩, ?_⟩
  refine for_list (xs := cs.map fun c => V.int (c : Nat)) (fun i σ H' => SameX2 d0 d1 H H' ∧ (∃ kv0' kv1', Tk H' tk d0 d1 kv0' kv1' ∧ kv0'.length ≤ kv0.length ∧ kv1'.length ≤ kv1.length ∧ DT kv0' (RI 0 ps) (nuL ns) (fun j => j < ns.length ∧ ¬ j ∈ cs.take i) ∧ DT kv1' (RI 1 ps) (nuL ns) (fun j => j < ns.length ∧ ¬ j ∈ cs.take i)) ∧ ∃ v6, σ = [some (.ref l), some (.ref tk), some (.ref nl), some (.ref cl), some (.int a), some (.int b), v6])
    ⟨fun b u _ _ z => z, ⟨kv0, kv1, tt, Nat.le_refl _, Nat.le_refl _, ?_, ?_⟩, none, rfl⟩ (fun i σ H' _ g => SqL.of (g.1 _ _ cn0 cn1 ec)) ?_ ?_
  · have e : (fun j => j < ns.length ∧ ¬ j ∈ cs.take 0) = fun j => j < ns.length := funext fun j => propext ⟨And.left, fun z => ⟨z, fun y => nomatch y⟩⟩
    rw [e]; exact D0
  · have e : (fun j => j < ns.length ∧ ¬ j ∈ cs.take 0) = fun j => j < ns.length := funext fun j => propext ⟨And.left, fun z => ⟨z, fun y => nomatch y⟩⟩
    rw [e]; exact D1
  · rintro i x σ H' hx ⟨sx, ⟨kv0', kv1', t', z0, z1, E0, E1⟩, v6, rfl⟩
    rw [List.getElem?_map] at hx
    obtain ⟨c, hc, rfl⟩ := Option.map_eq_some_iff.mp hx
    have hcl := ch.lt c (List.mem_of_getElem? hc)
    obtain ⟨ap, pp, ha, hp, ep⟩ := prs_get pr (show c < ps.length by omega)
    have ep' := tupX sx _ _ ep
    have hat : atI (as.map V.ref) ((c : Nat) : Int) = some (.ref ap) := atI_nat (by rw [List.getElem?_map, ha]; rfl)
    have hat2 : atI (ns.map V.int) ((c : Nat) : Int) = some (.int (nuL ns c)) := atI_nat (by
      rw [List.getElem?_map, List.getElem?_eq_getElem hcl, nuL, List.getD, List.getElem?_eq_getElem hcl]
      rfl)
    have r0 : RI 0 ps c = pp.1 := RI_at hp
    have r1' : RI 1 ps c = pp.2 := RI_at hp
    have hnt := mem_take_lt (j := 0) ch.nd hc
    have g0 := E0.1 c ⟨hcl, hnt⟩
    have g1 := E1.1 c ⟨hcl, hnt⟩
    rw [r0] at g0
    rw [r1'] at g1
    refine ⟨_, rfl, _, rfl, _, rfl, l, _, _, _, rfl, rfl, SqL.of (sx _ _ ln0 ln1 el), hat, _, rfl, _, rfl, nl, _, _, _, rfl, rfl, SqL.of (sx _ _ nn0 nn1 en), hat2, tk, d0, d1, ap, kv0', kv1', pp, nuL ns c, _, _, rfl, t', ep', g0, g1, fun H2 s2 t2 => ?_⟩
    refine ⟨fun b u b0 b1 z => s2 b u b0 b1 (sx b u b0 b1 z), ⟨_, _, t2, Nat.le_trans (dropK_le ..) z0, Nat.le_trans (dropK_le ..) z1, ?_, ?_⟩, _, rfl⟩
    · rw [← r0]
      refine E0.drop (fun j hj e1 e2 => N.p0 j c hj.1 hcl e2 e1) fun j => ?_
      rw [take_snoc hc, List.mem_append, List.mem_singleton]
      exact ⟨fun z => ⟨⟨z.1, fun y => z.2 (.inl y)⟩, fun y => z.2 (.inr y)⟩, fun z => ⟨z.1.1, fun y => y.elim z.1.2 z.2⟩⟩
    · rw [← r1']
      refine E1.drop (fun j hj e1 e2 => N.p1 j c hj.1 hcl e2 e1) fun j => ?_
      rw [take_snoc hc, List.mem_append, List.mem_singleton]
      exact ⟨fun z => ⟨⟨z.1, fun y => z.2 (.inl y)⟩, fun y => z.2 (.inr y)⟩, fun z => ⟨z.1.1, fun y => y.elim z.1.2 z.2⟩⟩
  rintro σ H2 ⟨sx, ⟨kv0', kv1', t', z0, z1, E0, E1⟩, v6, rfl⟩
  rw [List.length_map, List.take_length] at E0 E1
  have ec2 := sx _ _ cn0 cn1 ec
  refine ⟨_, rfl, cl, rfl, ⟨_, SqL.of ec2⟩, ?_⟩
  refine for_list (xs := cs.map fun c => V.int (c : Nat)) (fun i σ H' => SameX3 d0 d1 nl H H' ∧ (∃ (ns' : List Int) (kv0'' kv1'' : List (List Key × V)), Tk H' tk d0 d1 kv0'' kv1'' ∧ H' nl = some (.lst (ns'.map V.int)) ∧ ns'.length = ns.length ∧ kv0''.length ≤ kv0.length + i ∧ kv1''.length ≤ kv1.length + i ∧ (∀ j, j < ns.length → nuL ns' j = if j ∈ cs.take i then swp a b (nuL ns j) else nuL ns j) ∧
      DT kv0'' (RI 0 ps) (nuL ns') (fun j => j < ns.length ∧ (¬ j ∈ cs ∨ j ∈ cs.take i)) ∧ DT kv1'' (RI 1 ps) (nuL ns') (fun j => j < ns.length ∧ (¬ j ∈ cs ∨ j ∈ cs.take i))) ∧ ∃ v6, σ = [some (.ref l), some (.ref tk), some (.ref nl), some (.ref cl), some (.int a), some (.int b), v6])
    ⟨fun b u b0 b1 _ z => sx b u b0 b1 z, ⟨ns, kv0', kv1', t', sx _ _ nn0 nn1 en, rfl, by omega, by omega, fun j hj => ?_, ?_, ?_⟩, _, rfl⟩ (fun i σ H' _ g => SqL.of (g.1 _ _ cn0 cn1 hcn ec)) ?_ ?_
  · rw [if_neg (fun z => nomatch z)]
  · have e : (fun j => j < ns.length ∧ (¬ j ∈ cs ∨ j ∈ cs.take 0)) = fun j => j < ns.length ∧ ¬ j ∈ cs := funext fun j => propext ⟨fun z => ⟨z.1, z.2.elim id fun y => nomatch y⟩, fun z => ⟨z.1, .inl z.2⟩⟩
    rw [e]; exact E0
  · have e : (fun j => j < ns.length ∧ (¬ j ∈ cs ∨ j ∈ cs.take 0)) = fun j => j < ns.length ∧ ¬ j ∈ cs := funext fun j => propext ⟨fun z => ⟨z.1, z.2.elim id fun y => nomatch y⟩, fun z => ⟨z.1, .inl z.2⟩⟩
    rw [e]; exact E1
  · rintro i x σ H' hx ⟨s3, ⟨ns', w0, w1, t3, f1, f2, f3, f4, f5, G0, G1⟩, v6, rfl⟩
    rw [List.getElem?_map] at hx
    obtain ⟨c, hc, rfl⟩ := Option.map_eq_some_iff.mp hx
    have hi := (List.getElem?_eq_some_iff.mp hc).1
    have hcm := List.mem_of_getElem? hc
    have hcl := ch.lt c hcm
    have hnt := mem_take_lt (j := 0) ch.nd hc
    obtain ⟨ap, pp, ha, hp, ep⟩ := prs_get pr (show c < ps.length by omega)
    have hne_ap : ∀ z : Addr, z = nl → ¬ H z = some (.tup [.int pp.1, .int pp.2]) := fun z e y => by rw [e, en] at y; cases y
    have ep3 : H' ap = some (.tup [.int pp.1, .int pp.2]) := s3 _ _ (tup_ne ep tt.e0) (tup_ne ep tt.e1) (fun z => hne_ap ap z ep) ep
    have hat : atI (as.map V.ref) ((c : Nat) : Int) = some (.ref ap) := atI_nat (by rw [List.getElem?_map, ha]; rfl)
    have cl' : c < ns'.length := by omega
    have nc : nuL ns' c = nuL ns c := by rw [f5 c hcl, if_neg hnt]
    have hat2 : atI (ns'.map V.int) ((c : Nat) : Int) = some (.int (nuL ns c)) := atI_nat (by
      rw [List.getElem?_map, List.getElem?_eq_getElem cl', ← nc, nuL, List.getD, List.getElem?_eq_getElem cl']
      rfl)
    have r0 : RI 0 ps c = pp.1 := RI_at hp
    have r1' : RI 1 ps c = pp.2 := RI_at hp
    have rest : H' nl = some (.lst (ns'.map V.int)) ∧ ∃ j, ixN (ns'.map V.int).length ((c : Nat) : Int) = some j ∧ j = c := ⟨f1, c, by rw [List.length_map]; exact ixN_nat cl', rfl⟩
    have goal : ∀ G : Hp, G = upd H' nl (.lst ((ns'.set c (swp a b (nuL ns c))).map V.int)) → SameX3 d0 d1 nl H G ∧ Tk G tk d0 d1 w0 w1 ∧ G nl = some (.lst ((ns'.set c (swp a b (nuL ns c))).map V.int)) ∧ G l = some (.lst (as.map V.ref)) ∧ G ap = some (.tup [.int pp.1, .int pp.2]) := fun G e => by
      subst e
      refine ⟨fun b u b0 b1 b2 z => by rw [upd_ne b2]; exact s3 b u b0 b1 b2 z, ⟨by rw [upd_ne ntn]; exact t3.tk, by rw [upd_ne (Ne.symm nn0)]; exact t3.e0, by rw [upd_ne (Ne.symm nn1)]; exact t3.e1, t3.ne⟩, upd_same, by rw [upd_ne hln]; exact s3 _ _ ln0 ln1 hln el, by rw [upd_ne (fun z => hne_ap ap z ep)]; exact ep3⟩
    have nset := nu_set (ns := ns') (x := swp a b (nuL ns c)) cl'
    have fin : ∀ G : Hp, SameX3 d0 d1 nl H G → Tk G tk d0 d1 w0 w1 → G nl = some (.lst ((ns'.set c (swp a b (nuL ns c))).map V.int)) → ∀ G', SameX2 d0 d1 G G' → Tk G' tk d0 d1 (putK w0 (kRN pp.1 (swp a b (nuL ns c))) (.int (c : Nat))) (putK w1 (kRN pp.2 (swp a b (nuL ns c))) (.int (c : Nat))) →
        (SameX3 d0 d1 nl H G' ∧ (∃ (ns' : List Int) (kv0'' kv1'' : List (List Key × V)), Tk G' tk d0 d1 kv0'' kv1'' ∧ G' nl = some (.lst (ns'.map V.int)) ∧ ns'.length = ns.length ∧ kv0''.length ≤ kv0.length + (i + 1) ∧ kv1''.length ≤ kv1.length + (i + 1) ∧ (∀ j, j < ns.length → nuL ns' j = if j ∈ cs.take (i + 1) then swp a b (nuL ns j) else nuL ns j) ∧
        DT kv0'' (RI 0 ps) (nuL ns') (fun j => j < ns.length ∧ (¬ j ∈ cs ∨ j ∈ cs.take (i + 1))) ∧ DT kv1'' (RI 1 ps) (nuL ns') (fun j => j < ns.length ∧ (¬ j ∈ cs ∨ j ∈ cs.take (i + 1))))) := fun G g1 g2 g3 G' s4 t4 => by
      have mem1 : ∀ j, (j ∈ cs.take (i + 1)) ↔ (j ∈ cs.take i ∨ j = c) := fun j => by rw [take_snoc hc, List.mem_append, List.mem_singleton]
      have inI : ∀ j, (j < ns.length ∧ (¬ j ∈ cs ∨ j ∈ cs.take (i + 1))) ↔ ((j < ns.length ∧ (¬ j ∈ cs ∨ j ∈ cs.take i)) ∨ j = c) := fun j => by
        rw [mem1]
        refine ⟨fun z => ?_, fun z => ?_⟩
        · rcases z.2 with y | y | y
          · exact .inl ⟨z.1, .inl y⟩
          · exact .inl ⟨z.1, .inr y⟩
          · exact .inr y
        · rcases z with y | y
          · exact ⟨y.1, y.2.imp id .inl⟩
          · exact ⟨y ▸ hcl, .inr (.inr y)⟩
      have notin : ¬ (c < ns.length ∧ (¬ c ∈ cs ∨ c ∈ cs.take i)) := fun z => z.2.elim (fun y => y hcm) hnt
      have oldn : ∀ j, (j < ns.length ∧ (¬ j ∈ cs ∨ j ∈ cs.take i)) → nuL (ns'.set c (swp a b (nuL ns c))) j = nuL ns' j := fun j hj => by
        rw [nset j, if_neg (show ¬ j = c from fun z => notin (by rw [z] at hj; exact hj))]
      have clash : ∀ j, (j < ns.length ∧ (¬ j ∈ cs ∨ j ∈ cs.take i)) → (RI 0 ps j = RI 0 ps c ∨ RI 1 ps j = RI 1 ps c) → nuL ns' j ≠ swp a b (nuL ns c) := fun j hj sh e => by
        rw [f5 j hj.1] at e
        by_cases m : j ∈ cs.take i
        · rw [if_pos m] at e
          have jm := List.mem_of_mem_take m
          have := swp_inj (ch.ab j jm) (ch.ab c hcm) e
          have jc : j = c := sh.elim (fun y => N.p0 j c hj.1 hcl this y) (fun y => N.p1 j c hj.1 hcl this y)
          exact hnt (jc ▸ m)
        · rw [if_neg m] at e
          have nj : ¬ j ∈ cs := hj.2.elim id (fun y => absurd y m)
          exact nj (ch.closed N hb hcm hj.1 (by rw [e]; exact swp_in _) (sh.imp Eq.symm Eq.symm))
      refine ⟨fun b u b0 b1 b2 z => s4 b u b0 b1 (g1 b u b0 b1 b2 z), _, _, _, t4, s4 _ _ nn0 nn1 g3, by rw [List.length_set]; exact f2, Nat.le_trans (length_putK ..) (by omega), Nat.le_trans (length_putK ..) (by omega), fun j hj => ?_, ?_, ?_⟩
      · rw [nset j]
        by_cases e : j = c
        · rw [if_pos e, if_pos ((mem1 j).mpr (.inr e)), e]
        · rw [if_neg e, f5 j hj]
          by_cases m : j ∈ cs.take i
          · rw [if_pos m, if_pos ((mem1 j).mpr (.inl m))]
          · rw [if_neg m, if_neg (fun z => ((mem1 j).mp z).elim m e)]
      · rw [← r0]
        exact G0.put notin (fun j hj e => clash j hj (.inl e)) oldn (by rw [nset c, if_pos rfl]) inI
      · rw [← r1']
        exact G1.put notin (fun j hj e => clash j hj (.inr e)) oldn (by rw [nset c, if_pos rfl]) inI
    have step : ∀ xv : Int, xv = swp a b (nuL ns c) → ∀ R : Hp → Prop, (∀ G', SameX3 d0 d1 nl H G' ∧ (∃ (ns' : List Int) (kv0'' kv1'' : List (List Key × V)), Tk G' tk d0 d1 kv0'' kv1'' ∧ G' nl = some (.lst (ns'.map V.int)) ∧ ns'.length = ns.length ∧ kv0''.length ≤ kv0.length + (i + 1) ∧ kv1''.length ≤ kv1.length + (i + 1) ∧ (∀ j, j < ns.length → nuL ns' j = if j ∈ cs.take (i + 1) then swp a b (nuL ns j) else nuL ns j) ∧
        DT kv0'' (RI 0 ps) (nuL ns') (fun j => j < ns.length ∧ (¬ j ∈ cs ∨ j ∈ cs.take (i + 1))) ∧ DT kv1'' (RI 1 ps) (nuL ns') (fun j => j < ns.length ∧ (¬ j ∈ cs ∨ j ∈ cs.take (i + 1)))) → R G') → True := fun _ _ _ _ => trivial
    refine ⟨_, rfl, _, rfl, nl, _, _, _, rfl, rfl, SqL.of f1, hat2, _, rfl, rfl, _, rfl, ?_⟩
    refine ite2 (fun e => ?_) (fun e => ?_)
    · have e' : nuL ns c = a := V.int.inj (of_decide_eq_true e)
      have sv : swp a b (nuL ns c) = b := if_pos e'
      refine ⟨_, rfl, _, rfl, _, rfl, nl, _, _, c, rfl, rfl, f1, by rw [List.length_map]; exact ixN_nat cl', ?_⟩
      rw [show V.int b = V.int (swp a b (nuL ns c)) by rw [sv], set_map]
      obtain ⟨g1, g2, g3, g4, g5⟩ := goal _ rfl
      generalize upd H' nl (.lst ((ns'.set c (swp a b (nuL ns c))).map V.int)) = G at g1 g2 g3 g4 g5 ⊢
      have hat3 : atI ((ns'.set c (swp a b (nuL ns c))).map V.int) ((c : Nat) : Int) = some (.int (swp a b (nuL ns c))) := atI_nat (by rw [List.getElem?_map, List.getElem?_set_self cl']; rfl)
      refine ⟨_, rfl, _, rfl, _, rfl, _, rfl, l, _, _, _, rfl, rfl, SqL.of g4, hat, _, rfl, _, rfl, nl, _, _, _, rfl, rfl, SqL.of g3, hat3, tk, d0, d1, ap, w0, w1, pp, c, _, rfl, g2, g5, by omega, by omega, fun G' s4 t4 => ?_⟩
      obtain ⟨o1, o2⟩ := fin G g1 g2 g3 G' s4 t4
      exact ⟨o1, o2, _, rfl⟩
    · have e' : ¬ nuL ns c = a := fun z => e (decide_eq_true (by rw [z]))
      have sv : swp a b (nuL ns c) = a := if_neg e'
      refine ⟨_, rfl, _, rfl, _, rfl, nl, _, _, c, rfl, rfl, f1, by rw [List.length_map]; exact ixN_nat cl', ?_⟩
      rw [show V.int a = V.int (swp a b (nuL ns c)) by rw [sv], set_map]
      obtain ⟨g1, g2, g3, g4, g5⟩ := goal _ rfl
      generalize upd H' nl (.lst ((ns'.set c (swp a b (nuL ns c))).map V.int)) = G at g1 g2 g3 g4 g5 ⊢
      have hat3 : atI ((ns'.set c (swp a b (nuL ns c))).map V.int) ((c : Nat) : Int) = some (.int (swp a b (nuL ns c))) := atI_nat (by rw [List.getElem?_map, List.getElem?_set_self cl']; rfl)
      refine ⟨_, rfl, _, rfl, _, rfl, _, rfl, l, _, _, _, rfl, rfl, SqL.of g4, hat, _, rfl, _, rfl, nl, _, _, _, rfl, rfl, SqL.of g3, hat3, tk, d0, d1, ap, w0, w1, pp, c, _, rfl, g2, g5, by omega, by omega, fun G' s4 t4 => ?_⟩
      obtain ⟨o1, o2⟩ := fin G g1 g2 g3 G' s4 t4
      exact ⟨o1, o2, _, rfl⟩
  · rintro σ H' ⟨s3, ⟨ns', w0, w1, t3, f1, f2, f3, f4, f5, G0, G1⟩, v6, rfl⟩
    rw [List.length_map] at f3 f4
    rw [List.length_map, List.take_length] at f5 G0 G1
    have e : (fun j => j < ns.length ∧ (¬ j ∈ cs ∨ j ∈ cs)) = fun j => j < ns.length := funext fun j => propext ⟨And.left, fun z => ⟨z, (Classical.em (j ∈ cs)).symm⟩⟩
    rw [e] at G0 G1
    exact q ns' w0 w1 H' s3 t3 f1 f2 (by omega) (by omega) f5 G0 G1
end
def fullF (side r n : Int) : List (Str × V) := [("many", .int n), ("rack", .int r), ("side", .int side)]
structure FirstFull (ps : List (Int × Int)) (W side r : Int) : Prop where
  sd : side = 0 ∨ side = 1
  full : W < (((rks side ps).count r : Nat) : Int)
  least : ∀ r', r' < r → (((rks side ps).count r' : Nat) : Int) ≤ W
  before : ∀ s r', 0 ≤ s → s < side → (((rks s ps).count r' : Nat) : Int) ≤ W
theorem FirstFull.one {ps : List (Int × Int)} {W s r s' r' : Int} (h : FirstFull ps W s r) (h' : FirstFull ps W s' r') : s = s' ∧ r = r' := by
  have b1 := h.sd
  have b2 := h'.sd
  have es : s = s' := by
    rcases Int.lt_trichotomy s s' with z | z | z
    · have := h'.before s r (by omega) z
      have := h.full
      omega
    · exact z
    · have := h.before s' r' (by omega) z
      have := h'.full
      omega
  subst es
  refine ⟨rfl, ?_⟩
  rcases Int.lt_trichotomy r r' with z | z | z
  · have := h'.least r z
    have := h.full
    omega
  · exact z
  · have := h.least r' z
    have := h'.full
    omega
def spInit (K : PySem.W.Frag) (C : Addr) : Sp := fun vs H Q _ => ∃ (e : Addr) (a b c : Int), vs = [.ref e, .int a, .int b, .int c] ∧ H e = some (ExcF e C none) ∧ ∀ (dx : Addr) (H' : Hp), H dx = none → dx ≠ e → (∀ b, b ≠ e → b ≠ dx → H' b = H b) → H' e = some (ExcF e C (some dx)) → H' dx = some (XdO dx (fullF a b c)) → Q .non H'
def spRefuse (K : PySem.W.Frag) (C : Addr) : Sp := fun vs H Q E => ∃ (l : Addr) (as : List Addr) (ps : List (Int × Int)) (W : Int), vs = [.ref l, .int W] ∧ 0 ≤ W ∧ SqL K H l (as.map V.ref) ∧ PrsAt H as ps ∧ ps.length ≤ 60 ∧ (∀ H', Same H H' → (∀ side r : Int, side = 0 ∨ side = 1 → (((rks side ps).count r : Nat) : Int) ≤ W) → Q .non H') ∧
  ∀ (side r : Int) (dx : Addr) (H' : Hp), Same H H' → FirstFull ps W side r → H dx = none → H' dx = some (XdO dx (fullF side r ((rks side ps).count r : Nat))) → E (.ref C) (some dx) H'
def spParted (C : Addr) : Sp := fun vs H Q E => ∃ (l : Addr) (as : List Addr) (ps : List (Int × Int)) (W : Int), vs = [.ref l, .int W] ∧ 0 ≤ W ∧ H l = some (.lst (as.map V.ref)) ∧ PrsAt H as ps ∧ ps.length ≤ 60 ∧
  (∀ (nl : Addr) (ns : List Int) (H' : Hp), Same H H' → (∀ side r : Int, side = 0 ∨ side = 1 → (((rks side ps).count r : Nat) : Int) ≤ W) → H nl = none → H' nl = some (.lst (ns.map V.int)) → ns.length = ps.length → Num (RI 0 ps) (RI 1 ps) ps.length (nuL ns) → (∀ i, i < ps.length → 0 ≤ nuL ns i ∧ nuL ns i < W) → Q (.ref nl) H') ∧
  ∀ (side r : Int) (dx : Addr) (H' : Hp), Same H H' → FirstFull ps W side r → H dx = none → H' dx = some (XdO dx (fullF side r ((rks side ps).count r : Nat))) → E (.ref C) (some dx) H'
theorem left_few {kvs : List (List Key × V)} {R nu : Nat → Int} {t x : Nat} {r : Int} (h : DT kvs R nu (· < t)) (hx : ∀ y : Nat, y < x → (valV kvs (kRN r y)).isSome = true) : x ≤ ((List.range t).filter fun i => decide (R i = r)).length := few_left (nu := nu) fun y hy => by
  obtain ⟨v, hv⟩ := Option.isSome_iff_exists.mp (hx y hy)
  obtain ⟨i, h1, h2, h3, _⟩ := h.2 r y v hv
  exact ⟨i, h1, h2, h3⟩
section
variable {P : Program} {w : World} {K : PySem.W.Frag} {mg : Str → Option Value} {base : Heap} {C_HallError C_Engaged C_TooFull C_NoTable C_NoTurns C_Wide : Addr}
theorem sc_TooFull___init__ : FnScope ["self", "side", "rack", "many"] ["self", "side", "rack", "many"] (defScope (inClass (top 3) 0)) := ⟨rfl, rfl, rfl, by decide +kernel, rfl, by decide +kernel, by decide +kernel⟩
theorem ok_init (T : Txt K mg) (Z : TxtC K mg C_HallError C_Engaged C_TooFull C_NoTable C_NoTurns C_Wide) (D : DefM K C_TooFull "__init__" "TooFull.__init__" (inClass (top 3) 0) ["self", "side", "rack", "many"] [] noKw) : CalleeM P w K mg base 1 C_TooFull "__init__" ["self", "side", "rack", "many"] [] noKw (spInit K C_TooFull) := by
  refine D.ok sc_TooFull___init__ (fun vs H Q E h => ?_) (fun f cdv A outer s H vs Q E hr h => ?_)
  · obtain ⟨e, a, b, c, rfl, _⟩ := h
    rfl
  obtain ⟨e, a, b, c, rfl, he, q⟩ := h
  refine ⟨_, (pss_cons (ps_x0 K (pv 0) (pv 1) rfl)
    (pss_cons (ps_x1 K (pv 0) (pv 2) rfl)
    (pss_one (ps_x1 K (pv 0) (pv 3) rfl)))), ?_⟩
  refine ⟨_, rfl, _, rfl, e, C_TooFull, rfl, he, Z.n_TooFull, Z.x_TooFull.mo, Z.f_TooFull_side, fun dx hdx => ?_⟩
  have ne : dx ≠ e := fun z => by rw [z, he] at hdx; cases hdx
  have h1 : upd (upd H e (ExcF e C_TooFull (some dx))) dx (XdO dx [("side", .int a)]) e = some (ExcF e C_TooFull (some dx)) := by rw [upd_ne (Ne.symm ne), upd_same]
  have h2 := upd_same (H := upd H e (ExcF e C_TooFull (some dx))) (a := dx) (o := XdO dx [("side", .int a)])
  have h3 : ∀ b, b ≠ e → b ≠ dx → upd (upd H e (ExcF e C_TooFull (some dx))) dx (XdO dx [("side", .int a)]) b = H b := fun b n1 n2 => by rw [upd_ne n2, upd_ne n1]
  generalize upd (upd H e (ExcF e C_TooFull (some dx))) dx (XdO dx [("side", .int a)]) = H1 at h1 h2 h3 ⊢
  refine ⟨_, rfl, _, rfl, e, C_TooFull, dx, _, rfl, h1, h2, Z.n_TooFull, Z.x_TooFull.mo, Z.f_TooFull_rack, (by show 1 < 1000; decide), ?_⟩
  have g1 : upd H1 dx (XdO dx [("rack", .int b), ("side", .int a)]) e = some (ExcF e C_TooFull (some dx)) := by rw [upd_ne (Ne.symm ne)]; exact h1
  have g2 := upd_same (H := H1) (a := dx) (o := XdO dx [("rack", .int b), ("side", .int a)])
  have g3 : ∀ b', b' ≠ e → b' ≠ dx → upd H1 dx (XdO dx [("rack", .int b), ("side", .int a)]) b' = H b' := fun b' n1 n2 => by rw [upd_ne n2]; exact h3 b' n1 n2
  refine ⟨_, rfl, _, rfl, e, C_TooFull, dx, _, rfl, g1, g2, Z.n_TooFull, Z.x_TooFull.mo, Z.f_TooFull_many, (by show 2 < 1000; decide), ?_⟩
  refine q dx _ hdx ne (fun b' n1 n2 => by rw [upd_ne n2]; exact g3 b' n1 n2) (by rw [upd_ne (Ne.symm ne)]; exact g1) upd_same
theorem sc_refuse_full : FnScope ["pairs", "ways", "side", "weights", "rack"] ["pairs", "ways"] (defScope (top 10)) := ⟨rfl, rfl, rfl, by decide +kernel, rfl, by decide +kernel, by decide +kernel⟩
theorem ok_refuse (T : Txt K mg) (Z : TxtC K mg C_HallError C_Engaged C_TooFull C_NoTable C_NoTurns C_Wide) (C_side_weights : Callee P w K mg base 1 "side_weights" ["pairs", "side"] (spSide K)) (C_TooFull___init__ : CalleeM P w K mg base 1 C_TooFull "__init__" ["self", "side", "rack", "many"] [] noKw (spInit K C_TooFull)) (D : Def K mg "refuse_full" (top 10) ["pairs", "ways"]) : CalleeF P w K mg base 3 "refuse_full" ["pairs", "ways"] [] (spRefuse K C_TooFull) := by
  refine D.okF sc_refuse_full (fun vs H Q E h => ?_) (fun f cdv A outer s H vs Q E hr h => ?_)
  · obtain ⟨l, as, ps, W, rfl, _⟩ := h
    rfl
  obtain ⟨l, as, ps, W, rfl, hW0, hl, pr, few, q, qE⟩ := h
  refine ⟨_, (pss_one (ps_for PassesOwn.leaving rfl (pi_range1 rfl T.m_range (pa_cons pe_int pa_nil st_const)) (pg_name (i := 2) sc_refuse_full.nd rfl (Or.inl rfl))
    (pss_cons (ps_set (i := 3) sc_refuse_full.nd rfl (Or.inl rfl) (pe_fn C_side_weights hr rfl (pa_cons (pv 0) (pa_cons (pv 2) pa_nil st_name) st_name)))
    (pss_one (ps_for PassesOwn.leaving rfl (pi_listK K (pe_callB (call_sortedDic rfl) rfl T.m_sorted boot_sorted (pa_cons (pv 3) pa_nil st_name))) (pg_name (i := 4) sc_refuse_full.nd rfl (Or.inl rfl))
    (pss_one (ps_if (pt_cmpR op_gt (pe_dget (hu_of hr) (pv 3) (pv 4) (fun _ _ => rfl)) (pv 1) (nomark _)) (pss_one (ps_raiseI letsF_cx Z.i_TooFull C_TooFull___init__ hr hr.hd rfl (pa_cons (pv 2) (pa_cons (pv 4) (pa_cons (pe_dget (hu_of hr) (pv 3) (pv 4) (fun _ _ => rfl)) pa_nil st_sub) st_name) st_name))) pss_nil))))))), ?_⟩
  refine ⟨_, rfl, by decide, by decide, ?_⟩
  refine for_range (lo := 0) (n := 2) (fun j σ H' => Same H H' ∧ (∀ s r : Int, 0 ≤ s → s < (j : Int) → (((rks s ps).count r : Nat) : Int) ≤ W) ∧ ∃ v2 v3 v4, σ = [some (.ref l), some (.int W), v2, v3, v4])
    ⟨fun b u z => z, fun s r h1 h2 => by omega, none, none, none, rfl⟩ ?_ ?_
  · rintro j σ H' hj ⟨s1, bef, v2, v3, v4, rfl⟩
    rw [Int.zero_add]
    have hs : (j : Int) = 0 ∨ (j : Int) = 1 := by omega
    refine ⟨_, rfl, _, rfl, l, as, ps, (j : Int), rfl, s1.seq hl, pr.same s1, few, hs, fun d kvs H2 s2 hd ed cd => ?_⟩
    obtain ⟨nsx, nd, mem, nlen, hk⟩ := id cd
    have n60 : nsx.length ≤ 60 := by rw [rks, List.length_map] at nlen; omega
    refine ⟨_, rfl, d, kvs, nsx, rfl, .inl ed, by rw [hk, List.map_map]; rfl, by omega, fun ns' pm srt sl hsl => ?_⟩
    have s3 := same_new hsl (.lst (ns'.map V.int))
    have es := upd_same (H := H2) (a := sl) (o := .lst (ns'.map V.int))
    have ed3 := s3 _ _ ed
    generalize upd H2 sl (.lst (ns'.map V.int)) = H3 at s3 es ed3 ⊢
    have s13 := s1.trans (s2.trans s3)
    have mem' : ∀ r, r ∈ ns' ↔ r ∈ rks (j : Int) ps := fun r => by rw [pm.mem_iff]; exact mem r
    refine ⟨sl, rfl, ⟨_, SqL.of es⟩, ?_⟩
    refine for_list (xs := ns'.map V.int) (fun k σ H' => H' = H3 ∧ (∀ r ∈ ns'.take k, (((rks (j : Int) ps).count r : Nat) : Int) ≤ W) ∧ ∃ v4, σ = [some (.ref l), some (.int W), some (.int (j : Int)), some (.ref d), v4])
      ⟨rfl, (fun r hr => nomatch hr), _, rfl⟩ (fun k σ H' _ g => by rw [g.1]; exact SqL.of es) ?_ ?_
    · rintro k x σ G hx ⟨rfl, low, v4, rfl⟩
      rw [List.getElem?_map] at hx
      obtain ⟨r, hr, rfl⟩ := Option.map_eq_some_iff.mp hx
      have mr := (mem' r).mp (List.mem_of_getElem? hr)
      have hv := cd.val r
      rw [if_pos mr] at hv
      refine ⟨_, rfl, _, rfl, d, _, rfl, .inl ⟨kvs, .inl r, .inl ed3, rfl, hv.symm⟩, _, rfl, _, _, rfl, rfl, _, rfl, ?_⟩
      refine ite2 (fun c => ?_) (fun c => ?_)
      · have c' : W < (((rks (j : Int) ps).count r : Nat) : Int) := of_decide_eq_true c
        refine ⟨_, rfl, _, rfl, _, rfl, _, rfl, d, _, rfl, .inl ⟨kvs, .inl r, .inl ed3, rfl, hv.symm⟩, (by show 3 ≤ 1000; decide), fun ea hea => ?_⟩
        refine ⟨ea, (j : Int), r, _, rfl, upd_same, fun dx H4 hdx ne oth e1 e2 => ⟨rfl, some dx, e1, ?_⟩⟩
        rw [upd_ne ne] at hdx
        have s4 : Same G (untr H4 ea) := fun b u z => by
          have nb : b ≠ ea := fun y => by rw [y, hea] at z; cases z
          have nd' : b ≠ dx := fun y => by rw [y, hdx] at z; cases z
          rw [untr_ne nb, oth b nb nd', upd_ne nb]
          exact z
        refine qE (j : Int) r dx _ (s13.trans s4) ⟨hs, c', fun r' hr' => ?_, fun s r' h1 h2 => bef s r' h1 h2⟩ ?_ (by rw [untr_ne ne]; exact e2)
        · by_cases mr' : r' ∈ rks (j : Int) ps
          · refine low r' ?_
            obtain ⟨i, hi, he⟩ := List.getElem_of_mem ((mem' r').mpr mr')
            have hk := (List.getElem?_eq_some_iff.mp hr)
            by_cases z : i < k
            · rw [List.mem_take_iff_getElem]
              exact ⟨i, by omega, he⟩
            · by_cases y : i = k
              · subst y
                rw [hk.2] at he
                omega
              · have := (List.pairwise_iff_getElem.mp srt) k i hk.1 hi (by omega)
                rw [hk.2, he] at this
                omega
          · rw [List.count_eq_zero.mpr mr']
            exact hW0
        · cases z : H dx with
          | none => rfl
          | some u => rw [s13 _ _ z] at hdx; cases hdx
      · have c' : ¬ W < (((rks (j : Int) ps).count r : Nat) : Int) := fun z => c (decide_eq_true z)
        refine ⟨rfl, fun r' hr' => ?_, _, rfl⟩
        rw [take_snoc hr] at hr'
        rcases List.mem_append.mp hr' with y | y
        · exact low r' y
        · rw [List.mem_singleton.mp y]
          omega
    · rintro σ G ⟨rfl, low, v4, rfl⟩
      rw [List.length_map, List.take_length] at low
      refine ⟨s13, fun s r h1 h2 => ?_, _, _, _, rfl⟩
      by_cases z : s = (j : Int)
      · rw [z]
        by_cases mr : r ∈ rks (j : Int) ps
        · exact low r ((mem' r).mpr mr)
        · rw [List.count_eq_zero.mpr mr]
          exact hW0
      · exact bef s r h1 (by omega)
  · rintro σ H' ⟨s1, bef, v2, v3, v4, rfl⟩
    exact q H' s1 fun side r hs => bef side r (by omega) (by omega)
theorem sc_parted : FnScope ["pairs", "ways", "taken", "numbers", "place", "pair", "a", "b"] ["pairs", "ways"] (defScope (top 16)) := ⟨rfl, rfl, rfl, by decide +kernel, rfl, by decide +kernel, by decide +kernel⟩
set_option maxHeartbeats 4000000 in
theorem ok_parted (T : Txt K mg) (Z : TxtC K mg C_HallError C_Engaged C_TooFull C_NoTable C_NoTurns C_Wide) (C_refuse_full : CalleeF P w K mg base 3 "refuse_full" ["pairs", "ways"] [] (spRefuse K C_TooFull)) (C_first_left : Callee P w K mg base 1 "first_left" ["places", "rack"] spLeft) (C_chain_along : Callee P w K mg base 1 "chain_along" ["pairs", "taken", "rack", "a", "b"] (spChain K)) (C_exchange : Callee P w K mg base 2 "exchange" ["pairs", "taken", "numbers", "chain", "a", "b"] (spExch K)) (C_take : Callee P w K mg base 1 "take" ["taken", "place", "pair", "number"] spTake) (D : Def K mg "parted" (top 16) ["pairs", "ways"]) : CalleeF P w K mg base 4 "parted" ["pairs", "ways"] [] (spParted C_TooFull) := by
  refine D.okF sc_parted (fun vs H Q E h => ?_) (fun f cdv A outer s H vs Q E hr h => ?_)
  · obtain ⟨l, as, ps, W, rfl, _⟩ := h
    rfl
  obtain ⟨l, as, ps, W, rfl, hW0, el, pr, few, q, qE⟩ := h
  have ln : as.length = ps.length := Paired.length pr
  refine ⟨_, (pss_cons (ps_expr (pe_fnF 0 C_refuse_full (pass_cxF fun _ _ _ z => z) hr rfl (pa_cons (pv 0) (pa_cons (pv 1) pa_nil st_name) st_name)))
    (pss_cons (ps_set (i := 2) sc_parted.nd rfl (Or.inl rfl) (pe_tup (pa_cons pe_dnewT (pa_cons pe_dnewT pa_nil st_dict) st_dict)))
    (pss_cons (ps_set (i := 3) sc_parted.nd rfl (Or.inl rfl) (pe_lst pa_nil))
    (pss_cons (ps_for PassesOwn.leaving rfl (pi_enum K rfl T.m_enumerate (pa_cons (pv 0) pa_nil st_name)) (pg2K K rfl sc_parted.nd (Nm.mk (i := 4) rfl (Or.inl rfl) (Or.inl rfl)) (Nm.mk (i := 5) rfl (Or.inl rfl) (Or.inl rfl)))
    (pss_cons (ps_set (i := 6) sc_parted.nd rfl (Or.inl rfl) (pe_fn C_first_left hr rfl (pa_cons (pe_ix (ix_tupK K) (pv 2) pe_int (fun _ _ => rfl)) (pa_cons (pe_ix (ix_tupK K) (pv 5) pe_int (fun _ _ => rfl)) pa_nil st_sub) st_sub)))
    (pss_cons (ps_set (i := 7) sc_parted.nd rfl (Or.inl rfl) (pe_fn C_first_left hr rfl (pa_cons (pe_ix (ix_tupK K) (pv 2) pe_int (fun _ _ => rfl)) (pa_cons (pe_ix (ix_tupK K) (pv 5) pe_int (fun _ _ => rfl)) pa_nil st_sub) st_sub)))
    (pss_cons (ps_expr (pe_fn C_exchange hr rfl (pa_cons (pv 0) (pa_cons (pv 2) (pa_cons (pv 3) (pa_cons (pe_fn C_chain_along hr rfl (pa_cons (pv 0) (pa_cons (pv 2) (pa_cons (pe_ix (ix_tupK K) (pv 5) pe_int (fun _ _ => rfl)) (pa_cons (pv 6) (pa_cons (pv 7) pa_nil st_name) st_name) st_sub) st_name) st_name)) (pa_cons (pv 6) (pa_cons (pv 7) pa_nil st_name) st_name) st_call) st_name) st_name) st_name)))
    (pss_cons (ps_expr (pe_bmK K PySem.F.plainAttrs_list PySem.F.slot_list_append PySem.F.type_list_append mt_appendR (pv 3) (pa_cons (pv 6) pa_nil st_name)))
    (pss_one (ps_expr (pe_fn C_take hr rfl (pa_cons (pv 2) (pa_cons (pv 4) (pa_cons (pv 5) (pa_cons (pv 6) pa_nil st_name) st_name) st_name) st_name)))))))))
    (pss_one (ps_ret (pv 3))))))), ?_⟩
  refine ⟨_, rfl, _, rfl, l, as, ps, W, rfl, hW0, SqL.of el, pr, few, fun H0 s0 hW => ?_, qE⟩
  refine fun d0 hd0 => fun d1 hd1 => ?_
  have s1 := s0.trans (same_new hd0 (.dT []))
  have s2 := s1.trans (same_new hd1 (.dT []))
  have e0 := same_new hd1 (.dT []) _ _ (upd_same (H := H0) (a := d0) (o := .dT []))
  have e1 := upd_same (H := upd H0 d0 (.dT [])) (a := d1) (o := .dT [])
  have nd01 : d0 ≠ d1 := ne_of_none (upd_same (H := H0) (a := d0) (o := .dT [])) hd1
  have fr : ∀ {G : Hp} {x : Addr}, Same H G → G x = none → H x = none := fun {G x} s z => by
    cases y : H x with
    | none => rfl
    | some u => rw [s _ _ y] at z; cases z
  have f0 := fr s0 hd0
  have f1 := fr s1 hd1
  generalize upd (upd H0 d0 (.dT [])) d1 (.dT []) = H2 at s2 e0 e1 ⊢
  refine ⟨(by show 2 ≤ sizeLine; decide), fun tk htk => ?_⟩
  have s3 := s2.trans (same_new htk (.tup [.ref d0, .ref d1]))
  have t3 : Tk (upd H2 tk (.tup [.ref d0, .ref d1])) tk d0 d1 [] [] := ⟨upd_same, same_new htk _ _ _ e0, same_new htk _ _ _ e1, nd01⟩
  generalize upd H2 tk (.tup [.ref d0, .ref d1]) = H3 at s3 t3 ⊢
  refine ⟨(by show 0 ≤ sizeLine; decide), fun nl hnl => ?_⟩
  have fn := fr s3 hnl
  have s4 := s3.trans (same_new hnl (.lst []))
  have t4 := t3.same (same_new hnl (.lst []))
  have en := upd_same (H := H3) (a := nl) (o := .lst [])
  generalize upd H3 nl (.lst []) = H4 at s4 t4 en ⊢
  refine ⟨_, rfl, l, _, rfl, SqL.of (s4 _ _ el), ?_⟩
  refine for_enum (xs := as.map V.ref) (fun i σ H' => Same H H' ∧ (∃ (ns : List Int) (kv0 kv1 : List (List Key × V)), Tk H' tk d0 d1 kv0 kv1 ∧ H' nl = some (.lst (ns.map V.int)) ∧ ns.length = i ∧ kv0.length ≤ 61 * i ∧ kv1.length ≤ 61 * i ∧ DT kv0 (RI 0 ps) (nuL ns) (· < i) ∧ DT kv1 (RI 1 ps) (nuL ns) (· < i) ∧ Num (RI 0 ps) (RI 1 ps) i (nuL ns) ∧ ∀ j, j < i → 0 ≤ nuL ns j ∧ nuL ns j < W) ∧ ∃ v4 v5 v6 v7, σ = [some (.ref l), some (.int W), some (.ref tk), some (.ref nl), v4, v5, v6, v7])
    ⟨s4, ⟨[], [], [], t4, en, rfl, Nat.le_refl _, Nat.le_refl _, ⟨fun i z => absurd z (Nat.not_lt_zero _), fun r x v z => nomatch z⟩, ⟨fun i z => absurd z (Nat.not_lt_zero _), fun r x v z => nomatch z⟩, ⟨fun i j z => absurd z (Nat.not_lt_zero _), fun i j z => absurd z (Nat.not_lt_zero _)⟩, fun j z => absurd z (Nat.not_lt_zero _)⟩, none, none, none, none, rfl⟩ (fun i σ H' _ g => SqL.of (g.1 _ _ el)) ?_ ?_
  · rintro i x σ H' p hx ⟨s5, ⟨ns, kv0, kv1, t5, en5, hlen, z0, z1, D0, D1, N, bd⟩, v4, v5, v6, v7, rfl⟩ hp
    rw [List.getElem?_map] at hx
    obtain ⟨a, ha, rfl⟩ := Option.map_eq_some_iff.mp hx
    obtain ⟨pp, hpp, pa⟩ := paired_at pr i a ha
    have hi := (List.getElem?_eq_some_iff.mp hpp).1
    have r0 : RI 0 ps i = pp.1 := RI_at hpp
    have r1 : RI 1 ps i = pp.2 := RI_at hpp
    refine ⟨p, [.int (i : Nat), .ref a], rfl, SqT.of upd_same, rfl, .int (i : Nat), [.ref a], rfl, .ref a, [], rfl, rfl, ?_⟩
    have s6' := same_new hp (.tup [.int (i : Nat), .ref a])
    have s6 := s5.trans s6'
    have t6 := t5.same s6'
    have en6 := s6' _ _ en5
    generalize upd H' p (.tup [.int (i : Nat), .ref a]) = H6 at s6 t6 en6 ⊢
    have fl : ∀ (side r : Int), ((List.range i).filter fun j => decide (RI side ps j = r)).length ≤ i := fun side r => Nat.le_trans (List.length_filter_le ..) (by rw [List.length_range]; exact Nat.le_refl _)
    refine ⟨_, rfl, tk, _, _, _, rfl, rfl, SqT.of t6.tk, rfl, _, rfl, a, _, _, _, rfl, rfl, SqT.of (s6 _ _ pa), rfl, d0, kv0, pp.1, rfl, t6.e0, fun x hx => Nat.le_trans (left_few D0 hx) (Nat.le_trans (fl _ _) (by omega)), fun na H7 s7 ha1 ha2 => ?_⟩
    have t7 := t6.same s7
    refine ⟨_, rfl, tk, _, _, _, rfl, rfl, SqT.of t7.tk, rfl, _, rfl, a, _, _, _, rfl, rfl, SqT.of (s7 _ _ (s6 _ _ pa)), rfl, d1, kv1, pp.2, rfl, t7.e1, fun x hx => Nat.le_trans (left_few D1 hx) (Nat.le_trans (fl _ _) (by omega)), fun nb H8 s8 hb1 hb2 => ?_⟩
    have t8 := t7.same s8
    have s68 := (s6.trans s7).trans s8
    have aW : ((na : Nat) : Int) < W := by
      have h1 := left_few D0 ha1
      have h2 := cnt_more hi r0
      have h3 := hW 0 pp.1 (.inl rfl)
      omega
    have bW : ((nb : Nat) : Int) < W := by
      have h1 := left_few D1 hb1
      have h2 := cnt_more hi r1
      have h3 := hW 1 pp.2 (.inr rfl)
      omega
    have ha3 : ∀ j, j < i → RI 0 ps j = pp.1 → nuL ns j ≠ (na : Nat) := fun j h1 h2 h3 => by
      have := D0.1 j h1
      rw [h2, h3, ha2] at this
      cases this
    have hb3 : ∀ j, j < i → RI 1 ps j = pp.2 → nuL ns j ≠ (nb : Nat) := fun j h1 h2 h3 => by
      have := D1.1 j h1
      rw [h2, h3, hb2] at this
      cases this
    have pa8 := s68 _ _ pa
    have en8 := s8 _ _ (s7 _ _ en6)
    refine ⟨_, rfl, _, rfl, _, rfl, _, rfl, _, rfl, _, rfl, a, _, _, _, rfl, rfl, SqT.of pa8, rfl, _, rfl, _, rfl, l, tk, d0, d1, as, ps, kv0, kv1, nuL ns, i, pp.2, (na : Nat), (nb : Nat), rfl, SqL.of (s68 _ _ el), pr.same s68, by omega, few, t8, D0, D1, N, hb3, fun cl cs H9 s9 hcl ecl ch => ?_⟩
    have t9 := t8.same s9
    have s69 := s68.trans s9
    have en9 := s9 _ _ en8
    have hln : l ≠ nl := ne_of_none el fn
    have hcn : cl ≠ nl := fun z => by rw [z, en8] at hcl; cases hcl
    subst hlen
    refine ⟨_, rfl, _, rfl, l, tk, nl, cl, d0, d1, as, ps, kv0, kv1, ns, cs, pp.2, (na : Nat), (nb : Nat), rfl, SqL.of (s69 _ _ el), pr.same s69, by omega, few, t9, hln, hcn, en9, ecl, s69 _ _ el, by omega, by omega, D0, D1, N, hb3, ch, fun ns' kv0' kv1' HA sA tA enA lA y0 y1 nA E0 E1 => ?_⟩
    have sHA : Same H HA := fun b u z => sA b u (ne_of_none z f0) (ne_of_none z f1) (ne_of_none z fn) (s69 b u z)
    have nn0 : nl ≠ d0 := fun z => by have := tA.e0; rw [← z, enA] at this; cases this
    have nn1 : nl ≠ d1 := fun z => by have := tA.e1; rw [← z, enA] at this; cases this
    have ntn : tk ≠ nl := fun z => by have := tA.tk; rw [z, enA] at this; cases this
    refine ⟨_, rfl, .inl ⟨rfl, _, SqL.of enA⟩, _, rfl, nl, _, _, rfl, rfl, enA, small1000 (by rw [List.length_map]; omega), ?_⟩
    have sB : Same H (upd HA nl (.lst (ns'.map V.int ++ [.int ((na : Nat) : Int)]))) := Same.put sHA fn
    have tB : Tk (upd HA nl (.lst (ns'.map V.int ++ [.int ((na : Nat) : Int)]))) tk d0 d1 kv0' kv1' := ⟨by rw [upd_ne ntn]; exact tA.tk, by rw [upd_ne (Ne.symm nn0)]; exact tA.e0, by rw [upd_ne (Ne.symm nn1)]; exact tA.e1, tA.ne⟩
    have enB : upd HA nl (.lst (ns'.map V.int ++ [.int ((na : Nat) : Int)])) nl = some (.lst ((ns' ++ [((na : Nat) : Int)]).map V.int)) := by rw [upd_same, List.map_append]; rfl
    generalize upd HA nl (.lst (ns'.map V.int ++ [.int ((na : Nat) : Int)])) = HB at sB tB enB ⊢
    refine ⟨_, rfl, _, rfl, _, rfl, _, rfl, tk, d0, d1, a, kv0', kv1', pp, ns.length, ((na : Nat) : Int), rfl, tB, sB _ _ pa, by omega, by omega, fun HC sC tC => ?_⟩
    have sHC : Same H HC := fun b u z => sC b u (ne_of_none z f0) (ne_of_none z f1) (sB b u z)
    have N' := swapped N hb3 ch nA
    have g0 := swapped0 ha3 ch nA
    have g1 := swapped1 hb3 ch nA
    obtain ⟨m1, m2⟩ := nu_snoc (ns := ns') (x := ((na : Nat) : Int))
    rw [lA] at m1 m2
    refine ⟨sHC, ⟨ns' ++ [((na : Nat) : Int)], _, _, tC, sC _ _ nn0 nn1 enB, by rw [List.length_append, List.length_singleton, lA], Nat.le_trans (length_putK ..) (by omega), Nat.le_trans (length_putK ..) (by omega), ?_, ?_, N'.snoc (fun j h1 h2 => g0 j h1 (by rw [h2, r0])) (fun j h1 h2 => g1 j h1 (by rw [h2, r1])) m1 m2, fun j hj => ?_⟩, _, _, _, _, rfl⟩
    · rw [← r0]
      exact E0.put (Nat.lt_irrefl _) (fun j h1 h2 => g0 j h1 (by rw [h2, r0])) m1 m2 fun j => by omega
    · rw [← r1]
      exact E1.put (Nat.lt_irrefl _) (fun j h1 h2 => g1 j h1 (by rw [h2, r1])) m1 m2 fun j => by omega
    · by_cases e : j = ns.length
      · rw [e, m2]
        exact ⟨by omega, aW⟩
      · rw [m1 j (by omega), nA j (by omega)]
        split
        · rcases swp_in (a := ((na : Nat) : Int)) (b := ((nb : Nat) : Int)) (nuL ns j) with y | y <;> rw [y] <;> exact ⟨by omega, by omega⟩
        · exact bd j (by omega)
  · rintro σ H' ⟨s5, ⟨ns, kv0, kv1, t5, en5, hlen, z0, z1, D0, D1, N, bd⟩, v4, v5, v6, v7, rfl⟩
    rw [List.length_map, ln] at hlen N bd
    exact ⟨_, rfl, q nl ns H' s5 hW fn en5 hlen N bd⟩
end
def spFullL (K : PySem.W.Frag) : Sp := fun vs H Q _ => ∃ (l : Addr) (as : List Addr) (ps : List (Int × Int)) (W : Int), vs = [.ref l, .int W] ∧ 0 ≤ W ∧ SqL K H l (as.map V.ref) ∧ PrsAt H as ps ∧ ps.length ≤ 60 ∧ (∀ H', Same H H' → (∀ side r : Int, side = 0 ∨ side = 1 → (((rks side ps).count r : Nat) : Int) ≤ W) → Q .non H') ∧
  ∀ (side r : Int) (t : Addr) (H' : Hp), Same H H' → FirstFull ps W side r → H' t = some (.tup [.int side, .int r, .int ((rks side ps).count r : Nat)]) → Q (.ref t) H'
def spRefusedL (C : Addr) : Sp := fun vs H Q _ => ∃ (e dx t : Addr) (a b c : Int), vs = [.ref e, .ref t] ∧ H e = some (ExcD e C (some dx)) ∧ H dx = some (XdO dx (fullF a b c)) ∧ H t = some (.tup [.int a, .int b, .int c]) ∧ ∀ H', Q (.bl true) H'
def spApart (K : PySem.W.Frag) : Sp := fun vs H Q _ => ∃ (l nl : Addr) (as : List Addr) (ps : List (Int × Int)) (ns : List Int) (W : Int), vs = [.ref l, .ref nl, .int W] ∧ SqL K H l (as.map V.ref) ∧ PrsAt H as ps ∧ ps.length ≤ 60 ∧ H nl = some (.lst (ns.map V.int)) ∧ ns.length = ps.length ∧ Num (RI 0 ps) (RI 1 ps) ps.length (nuL ns) ∧ (∀ i, i < ps.length → 0 ≤ nuL ns i ∧ nuL ns i < W) ∧ ∀ H', Q (.bl true) H'
theorem refs_refs (as : List Addr) : ∀ x ∈ as.map V.ref, ∃ c, x = V.ref c := fun x hx => by
  obtain ⟨c, _, rfl⟩ := List.mem_map.mp hx
  exact ⟨c, rfl⟩
theorem two_at (i : Nat) (x : V) (hx : ([V.int 0, V.int 1] : List V)[i]? = some x) : ∃ side : Int, x = .int side ∧ side = (i : Int) ∧ (side = 0 ∨ side = 1) := by
  match i, hx with
  | 0, hx => cases hx; exact ⟨0, rfl, rfl, .inl rfl⟩
  | 1, hx => cases hx; exact ⟨1, rfl, rfl, .inr rfl⟩
section
variable {P : Program} {w : World} {K : PySem.W.Frag} {mg : Str → Option Value} {base : Heap} {C_HallError C_Engaged C_TooFull C_NoTable C_NoTurns C_Wide : Addr}
theorem sc__law_too_full : FnScope ["_law_pairs_here", "_law_many", "_law_side", "_law_counts_here", "_law_rack"] ["_law_pairs_here", "_law_many"] (defScope (top 25)) := ⟨rfl, rfl, rfl, by decide +kernel, rfl, by decide +kernel, by decide +kernel⟩
theorem ok_fullL (T : Txt K mg) (C__law_counts : Callee P w K mg base 1 "_law_counts" ["_law_pairs_here", "_law_side"] (spCounts K)) (D : Def K mg "_law_too_full" (top 25) ["_law_pairs_here", "_law_many"]) : Callee P w K mg base 2 "_law_too_full" ["_law_pairs_here", "_law_many"] (spFullL K) := by
  refine D.ok sc__law_too_full (fun vs H Q E h => ?_) (fun f cdv A outer s H vs Q E hr h => ?_)
  · obtain ⟨l, as, ps, W, rfl, _⟩ := h
    rfl
  obtain ⟨l, as, ps, W, rfl, hW0, hl, pr, few, q, q2⟩ := h
  refine ⟨_, (pss_cons (ps_for PassesOwn.never rfl (pi_tupK K (pe_tup (pa_cons pe_int (pa_cons pe_int pa_nil st_const) st_const))) (pg_name (i := 2) sc__law_too_full.nd rfl (Or.inl rfl))
    (pss_cons (ps_set (i := 3) sc__law_too_full.nd rfl (Or.inl rfl) (pe_fn C__law_counts hr rfl (pa_cons (pv 0) (pa_cons (pv 2) pa_nil st_name) st_name)))
    (pss_one (ps_for PassesOwn.never rfl (pi_listK K (pe_callB (call_sortedDic rfl) rfl T.m_sorted boot_sorted (pa_cons (pv 3) pa_nil st_name))) (pg_name (i := 4) sc__law_too_full.nd rfl (Or.inl rfl))
    (pss_one (ps_if (pt_cmpR op_gt (pe_dget (hu_of hr) (pv 3) (pv 4) (fun _ _ => rfl)) (pv 1) (nomark _)) (pss_one (ps_ret (pe_tup (pa_cons (pv 2) (pa_cons (pv 4) (pa_cons (pe_dget (hu_of hr) (pv 3) (pv 4) (fun _ _ => rfl)) pa_nil st_sub) st_name) st_name)))) pss_nil))))))
    (pss_one (ps_ret pe_non))), ?_⟩
  refine ⟨(by show 2 ≤ sizeLine; decide), fun t ht => ?_⟩
  have s3 := same_new ht (.tup [.int 0, .int 1])
  have et := upd_same (H := H) (a := t) (o := .tup [.int 0, .int 1])
  generalize upd H t (.tup [.int 0, .int 1]) = H3 at s3 et ⊢
  refine ⟨t, rfl, ⟨_, SqT.of et⟩, ?_⟩
  refine for_tup (xs := [.int 0, .int 1]) (fun j σ H' => Same H3 H' ∧ (∀ s r : Int, 0 ≤ s → s < (j : Int) → (((rks s ps).count r : Nat) : Int) ≤ W) ∧ ∃ v2 v3 v4, σ = [some (.ref l), some (.int W), v2, v3, v4])
    ⟨fun b u z => z, fun s r h1 h2 => by omega, none, none, none, rfl⟩ (fun i σ H' _ g => SqT.of (g.1 _ _ et)) ?_ ?_
  · rintro j x σ H' hx ⟨s4, bef, v2, v3, v4, rfl⟩
    obtain ⟨side, rfl, hside, hs⟩ := two_at j x hx
    have s1 := s3.trans s4
    refine ⟨_, rfl, _, rfl, l, as, ps, side, rfl, s1.seq hl, pr.same s1, few, hs, fun d ob kvs H2 s2 hd ed cd => ?_⟩
    obtain ⟨nsx, nd, mem, nlen, hk⟩ := id cd
    have n60 : nsx.length ≤ 60 := by rw [rks, List.length_map] at nlen; omega
    refine ⟨_, rfl, d, kvs, nsx, rfl, .inr ⟨ob, ed⟩, by rw [hk, List.map_map]; rfl, by omega, fun ns' pm srt sl hsl => ?_⟩
    have s3' := same_new hsl (.lst (ns'.map V.int))
    have es := upd_same (H := H2) (a := sl) (o := .lst (ns'.map V.int))
    have ed3 := s3' _ _ ed
    generalize upd H2 sl (.lst (ns'.map V.int)) = H5 at s3' es ed3 ⊢
    have s13 := s1.trans (s2.trans s3')
    have s43 := s4.trans (s2.trans s3')
    have mem' : ∀ r, r ∈ ns' ↔ r ∈ rks side ps := fun r => by rw [pm.mem_iff]; exact mem r
    refine ⟨sl, rfl, ⟨_, SqL.of es⟩, ?_⟩
    refine for_list (xs := ns'.map V.int) (fun k σ H' => H' = H5 ∧ (∀ r ∈ ns'.take k, (((rks side ps).count r : Nat) : Int) ≤ W) ∧ ∃ v4, σ = [some (.ref l), some (.int W), some (.int side), some (.ref d), v4])
      ⟨rfl, (fun r hr => nomatch hr), _, rfl⟩ (fun k σ H' _ g => by rw [g.1]; exact SqL.of es) ?_ ?_
    · rintro k x σ G hx ⟨rfl, low, v4, rfl⟩
      rw [List.getElem?_map] at hx
      obtain ⟨r, hr, rfl⟩ := Option.map_eq_some_iff.mp hx
      have mr := (mem' r).mp (List.mem_of_getElem? hr)
      have hv := cd.val r
      rw [if_pos mr] at hv
      refine ⟨_, rfl, _, rfl, d, _, rfl, .inl ⟨kvs, .inl r, .inr ⟨ob, ed3⟩, rfl, hv.symm⟩, _, rfl, _, _, rfl, rfl, _, rfl, ?_⟩
      refine ite2 (fun c => ?_) (fun c => ?_)
      · have c' : W < (((rks side ps).count r : Nat) : Int) := of_decide_eq_true c
        refine ⟨_, rfl, _, rfl, _, rfl, _, rfl, d, _, rfl, .inl ⟨kvs, .inl r, .inr ⟨ob, ed3⟩, rfl, hv.symm⟩, (by show 3 ≤ sizeLine; decide), fun p hp => ?_⟩
        refine q2 side r p _ (s13.trans (same_new hp _)) ⟨hs, c', fun r' hr' => ?_, fun s r' h1 h2 => bef s r' h1 (by omega)⟩ upd_same
        by_cases mr' : r' ∈ rks side ps
        · refine low r' ?_
          obtain ⟨i, hi, he⟩ := List.getElem_of_mem ((mem' r').mpr mr')
          have hk := (List.getElem?_eq_some_iff.mp hr)
          by_cases z : i < k
          · rw [List.mem_take_iff_getElem]
            exact ⟨i, by omega, he⟩
          · by_cases y : i = k
            · subst y
              rw [hk.2] at he
              omega
            · have := (List.pairwise_iff_getElem.mp srt) k i hk.1 hi (by omega)
              rw [hk.2, he] at this
              omega
        · rw [List.count_eq_zero.mpr mr']
          exact hW0
      · have c' : ¬ W < (((rks side ps).count r : Nat) : Int) := fun z => c (decide_eq_true z)
        refine ⟨rfl, fun r' hr' => ?_, _, rfl⟩
        rw [take_snoc hr] at hr'
        rcases List.mem_append.mp hr' with y | y
        · exact low r' y
        · rw [List.mem_singleton.mp y]
          omega
    · rintro σ G ⟨rfl, low, v4, rfl⟩
      rw [List.length_map, List.take_length] at low
      refine ⟨s43, fun s r h1 h2 => ?_, _, _, _, rfl⟩
      by_cases z : s = side
      · rw [z]
        by_cases mr : r ∈ rks side ps
        · exact low r ((mem' r).mpr mr)
        · rw [List.count_eq_zero.mpr mr]
          exact hW0
      · exact bef s r h1 (by omega)
  · rintro σ H' ⟨s4, bef, v2, v3, v4, rfl⟩
    exact q H' (s3.trans s4) fun side r hs => bef side r (by omega) (by show side < 2; omega)
theorem sc__law_refused : FnScope ["_law_error", "_law_due"] ["_law_error", "_law_due"] (defScope (top 26)) := ⟨rfl, rfl, rfl, by decide +kernel, rfl, by decide +kernel, by decide +kernel⟩
theorem ok_refusedL (T : Txt K mg) (Z : TxtC K mg C_HallError C_Engaged C_TooFull C_NoTable C_NoTurns C_Wide) (C__law_whole : Callee P w K mg base 1 "_law_whole" ["_law_found"] spWholeI) (D : Def K mg "_law_refused" (top 26) ["_law_error", "_law_due"]) : Callee P w K mg base 2 "_law_refused" ["_law_error", "_law_due"] (spRefusedL C_TooFull) := by
  refine D.ok sc__law_refused (fun vs H Q E h => ?_) (fun f cdv A outer s H vs Q E hr h => ?_)
  · obtain ⟨e, dx, t, a, b, c, rfl, _⟩ := h
    rfl
  obtain ⟨e, dx, t, a, b, c, rfl, he, hdx, ht, q⟩ := h
  refine ⟨_, (pss_cons (ps_if (PW.pt (pw_or (pt_not (pt_truK K (pe_callB (call_isinstD K) rfl T.m_isinstance boot_isinstance (pa_cons (pv 0) (pa_cons (pe_glob (v := .ref C_TooFull) rfl Z.mg_TooFull rfl) pa_nil st_name) st_name)) (fun _ => rfl))) (pw_or1 (pt_not (pt_truK K (pe_callB (call_isinstD K) rfl T.m_isinstance boot_isinstance (pa_cons (pv 0) (pa_cons (pe_bltn (v := .ty "ValueError") rfl T.m_ValueError boot_ValueError rfl) pa_nil st_name) st_name)) (fun _ => rfl)))))) (pss_one (ps_ret pe_bl)) pss_nil)
    (pss_cons (ps_if (PW.pt (pw_or (pt_truK K (pe_callB (call_isinstD K) rfl T.m_isinstance boot_isinstance (pa_cons (pv 0) (pa_cons (pe_glob (v := .ref C_NoTable) rfl Z.mg_NoTable rfl) pa_nil st_name) st_name)) (fun _ => rfl)) (pw_or (pt_truK K (pe_callB (call_isinstD K) rfl T.m_isinstance boot_isinstance (pa_cons (pv 0) (pa_cons (pe_glob (v := .ref C_NoTurns) rfl Z.mg_NoTurns rfl) pa_nil st_name) st_name)) (fun _ => rfl)) (pw_or1 (pt_truK K (pe_callB (call_isinstD2 K) rfl T.m_isinstance boot_isinstance (pa_cons (pv 0) (pa_cons (pe_tup (pa_cons (pe_glob (v := .ref C_Wide) rfl Z.mg_Wide rfl) (pa_cons (pe_glob (v := .ref C_Engaged) rfl Z.mg_Engaged rfl) pa_nil st_name) st_name)) pa_nil st_tup) st_name)) (fun _ => rfl)))))) (pss_one (ps_ret pe_bl)) pss_nil)
    (pss_cons (ps_if (PW.pt (pw_or (pt_not (pt_truK K (pe_fn C__law_whole hr rfl (pa_cons (pe_xf K (pv 0)) pa_nil st_attr)) (fun _ => rfl))) (pw_or (pt_not (pt_truK K (pe_fn C__law_whole hr rfl (pa_cons (pe_xf K (pv 0)) pa_nil st_attr)) (fun _ => rfl))) (pw_or1 (pt_not (pt_truK K (pe_fn C__law_whole hr rfl (pa_cons (pe_xf K (pv 0)) pa_nil st_attr)) (fun _ => rfl))))))) (pss_one (ps_ret pe_bl)) pss_nil)
    (pss_one (ps_ret (pe_cmpR (op_eqTSK K (Room.units0 hr)) (pe_tup (pa_cons (pe_xf K (pv 0)) (pa_cons (pe_xf K (pv 0)) (pa_cons (pe_xf K (pv 0)) pa_nil st_attr) st_attr) st_attr)) (pv 1) (nomark _))))))), ?_⟩
  refine ⟨_, rfl, e, C_TooFull, some dx, _, _, true, rfl, (fun u z => z), he, Z.x_TooFull, Z.kx_TooFull_TooFull, true, rfl, iteF ?_⟩
  refine ⟨_, rfl, e, C_TooFull, some dx, _, _, true, rfl, (fun u z => z), he, Z.x_TooFull, Z.kv_TooFull, true, rfl, iteF ?_⟩
  refine ⟨_, rfl, e, C_TooFull, some dx, _, _, false, rfl, (fun u z => z), he, Z.x_TooFull, Z.kx_TooFull_NoTable, false, rfl, iteF ?_⟩
  refine ⟨_, rfl, e, C_TooFull, some dx, _, _, false, rfl, (fun u z => z), he, Z.x_TooFull, Z.kx_TooFull_NoTurns, false, rfl, iteF ?_⟩
  refine ⟨_, rfl, (by show 2 ≤ sizeLine; decide), fun p hp => ?_⟩
  have s1 := same_new hp (.tup [.ref C_Wide, .ref C_Engaged])
  have ep := upd_same (H := H) (a := p) (o := .tup [.ref C_Wide, .ref C_Engaged])
  generalize upd H p (.tup [.ref C_Wide, .ref C_Engaged]) = H1 at s1 ep ⊢
  have he1 := s1 _ _ he
  have hd1 := s1 _ _ hdx
  have ht1 := s1 _ _ ht
  refine ⟨e, C_TooFull, some dx, p, C_Wide, C_Engaged, false, false, rfl, ep, he1, Z.x_TooFull, Z.kx_TooFull_Wide, Z.kx_TooFull_Engaged, false, rfl, iteF ?_⟩
  refine ⟨_, rfl, e, C_TooFull, dx, _, .int a, rfl, he1, hd1, Z.x_TooFull, Z.n_TooFull, Z.f_TooFull_side, rfl, a, rfl, true, rfl, iteF ?_⟩
  refine ⟨_, rfl, e, C_TooFull, dx, _, .int b, rfl, he1, hd1, Z.x_TooFull, Z.n_TooFull, Z.f_TooFull_rack, rfl, b, rfl, true, rfl, iteF ?_⟩
  refine ⟨_, rfl, e, C_TooFull, dx, _, .int c, rfl, he1, hd1, Z.x_TooFull, Z.n_TooFull, Z.f_TooFull_many, rfl, c, rfl, true, rfl, iteF ?_⟩
  refine ⟨_, rfl, e, C_TooFull, dx, _, .int a, rfl, he1, hd1, Z.x_TooFull, Z.n_TooFull, Z.f_TooFull_side, rfl, ?_⟩
  refine ⟨_, rfl, e, C_TooFull, dx, _, .int b, rfl, he1, hd1, Z.x_TooFull, Z.n_TooFull, Z.f_TooFull_rack, rfl, ?_⟩
  refine ⟨_, rfl, e, C_TooFull, dx, _, .int c, rfl, he1, hd1, Z.x_TooFull, Z.n_TooFull, Z.f_TooFull_many, rfl, ?_⟩
  refine ⟨(by show 3 ≤ sizeLine; decide), fun p2 hp2 => ?_⟩
  have s2 := same_new hp2 (.tup [.int a, .int b, .int c])
  exact ⟨_, rfl, p2, t, [a, b, c], rfl, rfl, SqT.of upd_same, SqT.of (s2 _ _ ht1), q _⟩
def SeenD (kvs : List (List Key × V)) (ps : List (Int × Int)) (ns : List Int) (t : Nat) : Prop := kvs.length ≤ 2 * t ∧ ∀ (s r x : Int), s = 0 ∨ s = 1 → (valV kvs [.inl s, .inl r, .inl x]).isSome = true → ∃ i, i < t ∧ RI s ps i = r ∧ nuL ns i = x
theorem k3_inj {s r x s' r' x' : Int} (h : ([.inl s, .inl r, .inl x] : List Key) = [.inl s', .inl r', .inl x']) : s = s' ∧ r = r' ∧ x = x' := by
  injection h with h1 h2
  injection h2 with h2 h3
  injection h3 with h3 _
  exact ⟨Sum.inl.inj h1, Sum.inl.inj h2, Sum.inl.inj h3⟩
theorem sc__law_apart : FnScope ["_law_pairs_here", "_law_numbers", "_law_many", "_law_seen", "_law_pair", "_law_number"] ["_law_pairs_here", "_law_numbers", "_law_many"] (defScope (top 27)) := ⟨rfl, rfl, rfl, by decide +kernel, rfl, by decide +kernel, by decide +kernel⟩
theorem ok_apart (T : Txt K mg) (C__law_whole : Callee P w K mg base 1 "_law_whole" ["_law_found"] spWholeI) (D : Def K mg "_law_apart" (top 27) ["_law_pairs_here", "_law_numbers", "_law_many"]) : Callee P w K mg base 2 "_law_apart" ["_law_pairs_here", "_law_numbers", "_law_many"] (spApart K) := by
  refine D.ok sc__law_apart (fun vs H Q E h => ?_) (fun f cdv A outer s H vs Q E hr h => ?_)
  · obtain ⟨l, nl, as, ps, ns, W, rfl, _⟩ := h
    rfl
  obtain ⟨l, nl, as, ps, ns, W, rfl, hl, pr, few, en, ln, N, bd, q⟩ := h
  have la : as.length = ps.length := Paired.length pr
  refine ⟨_, (pss_cons (ps_if (PW.pt (pw_or (pt_not (pt_truK K (pe_callB (call_isinstK K) rfl T.m_isinstance boot_isinstance (pa_cons (pv 1) (pa_cons (pe_bltn (v := .ty "list") rfl T.m_list boot_list rfl) pa_nil st_name) st_name)) (fun _ => rfl))) (pw_or1 (pt_cmpR op_ne (pe_callB (call_lenK K) rfl T.m_len boot_len (pa_cons (pv 1) pa_nil st_name)) (pe_callB (call_lenK K) rfl T.m_len boot_len (pa_cons (pv 0) pa_nil st_name)) (nomark _))))) (pss_one (ps_ret pe_bl)) pss_nil)
    (pss_cons (ps_set (i := 3) sc__law_apart.nd rfl (Or.inl rfl) pe_dnewT)
    (pss_cons (ps_for PassesOwn.never rfl (pi_zipK false K rfl T.m_zip (pa_cons (pv 0) (pa_cons (pv 1) pa_nil st_name) st_name)) (pg2K K rfl sc__law_apart.nd (Nm.mk (i := 4) rfl (Or.inl rfl) (Or.inl rfl)) (Nm.mk (i := 5) rfl (Or.inl rfl) (Or.inl rfl)))
    (pss_cons (ps_if (PW.pt (pw_or (pt_not (pt_truK K (pe_fn C__law_whole hr rfl (pa_cons (pv 5) pa_nil st_name)) (fun _ => rfl))) (pw_or (pt_cmpR op_lt (pv 5) pe_int (nomark _)) (pw_or1 (pt_cmpR op_ge (pv 5) (pv 2) (nomark _)))))) (pss_one (ps_ret pe_bl)) pss_nil)
    (pss_cons (ps_if (PW.pt (pw_or (pt_cmp (pc_din (hu_of hr) (pe_tup (pa_cons pe_int (pa_cons (pe_ix (ix_tupK K) (pv 4) pe_int (fun _ _ => rfl)) (pa_cons (pv 5) pa_nil st_name) st_sub) st_const)) (pv 3))) (pw_or1 (pt_cmp (pc_din (hu_of hr) (pe_tup (pa_cons pe_int (pa_cons (pe_ix (ix_tupK K) (pv 4) pe_int (fun _ _ => rfl)) (pa_cons (pv 5) pa_nil st_name) st_sub) st_const)) (pv 3)))))) (pss_one (ps_ret pe_bl)) pss_nil)
    (pss_cons (ps_dput (hu_of hr) (pv 3) (pe_tup (pa_cons pe_int (pa_cons (pe_ix (ix_tupK K) (pv 4) pe_int (fun _ _ => rfl)) (pa_cons (pv 5) pa_nil st_name) st_sub) st_const)) pe_bl rfl)
    (pss_one (ps_dput (hu_of hr) (pv 3) (pe_tup (pa_cons pe_int (pa_cons (pe_ix (ix_tupK K) (pv 4) pe_int (fun _ _ => rfl)) (pa_cons (pv 5) pa_nil st_name) st_sub) st_const)) pe_bl rfl))))))
    (pss_one (ps_ret pe_bl))))), ?_⟩
  refine ⟨_, rfl, _, _, _, true, rfl, .lst en, kit_lst_lst, true, rfl, iteF ?_⟩
  refine ⟨_, rfl, nl, _, rfl, .inl (SqL.of en), _, rfl, l, _, rfl, .inl hl, rfl, _, rfl, iteN (by simp; omega) ?_⟩
  refine fun d hd => ?_
  have s1 := same_new hd (.dT [])
  have ed := upd_same (H := H) (a := d) (o := .dT [])
  generalize upd H d (.dT []) = H1 at s1 ed ⊢
  refine ⟨_, rfl, _, rfl, l, nl, _, _, rfl, s1.seq hl, SqL.of (s1 _ _ en), ?_⟩
  refine for_zip (xs := as.map V.ref) (ys := ns.map V.int) (fun i σ H' => Same H H' ∧ (∃ kvs, H' d = some (.dT kvs) ∧ SeenD kvs ps ns i) ∧ ∃ v4 v5, σ = [some (.ref l), some (.ref nl), some (.int W), some (.ref d), v4, v5]) (by rw [List.length_map, List.length_map]; omega)
    ⟨s1, ⟨[], ed, Nat.zero_le _, fun s r x _ z => nomatch z⟩, none, none, rfl⟩ (fun i σ H' _ g => ⟨g.1.seq hl, SqL.of (g.1 _ _ en)⟩) ?_ ?_
  · rintro i x y σ H' p hx hy ⟨s2, ⟨kvs, ek, few2, seen⟩, v4, v5, rfl⟩ hp
    rw [List.getElem?_map] at hx hy
    obtain ⟨a, ha, rfl⟩ := Option.map_eq_some_iff.mp hx
    obtain ⟨n, hn, rfl⟩ := Option.map_eq_some_iff.mp hy
    obtain ⟨pp, hpp, pa⟩ := paired_at pr i a ha
    have hi := (List.getElem?_eq_some_iff.mp hpp).1
    have nn : nuL ns i = n := by rw [nuL, List.getD, hn]; rfl
    have r0 : RI 0 ps i = pp.1 := RI_at hpp
    have r1 : RI 1 ps i = pp.2 := RI_at hpp
    have b := bd i hi
    rw [nn] at b
    refine ⟨p, [.ref a, .int n], rfl, SqT.of upd_same, rfl, .ref a, [.int n], rfl, .int n, [], rfl, rfl, ?_⟩
    have s3' := same_new hp (.tup [.ref a, .int n])
    have s3 := s2.trans s3'
    have ek3 := s3' _ _ ek
    generalize upd H' p (.tup [.ref a, .int n]) = H3 at s3 ek3 ⊢
    refine ⟨_, rfl, n, rfl, true, rfl, iteF ?_⟩
    refine ⟨_, rfl, _, _, rfl, rfl, _, rfl, iteN (by simp; omega) ?_⟩
    refine ⟨_, rfl, _, rfl, _, _, rfl, rfl, _, rfl, iteN (by simp; omega) ?_⟩
    have no0 : valV kvs [.inl 0, .inl pp.1, .inl n] = none := by
      cases z : valV kvs [.inl 0, .inl pp.1, .inl n] with
      | none => rfl
      | some v =>
        obtain ⟨j, j1, j2, j3⟩ := seen 0 pp.1 n (.inl rfl) (by rw [z]; rfl)
        have := N.p0 j i (by omega) hi (by rw [j3, nn]) (by rw [j2, r0])
        omega
    have no1 : valV kvs [.inl 1, .inl pp.2, .inl n] = none := by
      cases z : valV kvs [.inl 1, .inl pp.2, .inl n] with
      | none => rfl
      | some v =>
        obtain ⟨j, j1, j2, j3⟩ := seen 1 pp.2 n (.inr rfl) (by rw [z]; rfl)
        have := N.p1 j i (by omega) hi (by rw [j3, nn]) (by rw [j2, r1])
        omega
    refine ⟨_, rfl, a, _, _, _, rfl, rfl, SqT.of (s3 _ _ pa), rfl, _, rfl, (by show 3 ≤ sizeLine; decide), fun k1 hk1 => ?_⟩
    have s4' := same_new hk1 (.tup [.int 0, .int pp.1, .int n])
    have e4 := upd_same (H := H3) (a := k1) (o := .tup [.int 0, .int pp.1, .int n])
    have s4 := s3.trans s4'
    have ek4 := s4' _ _ ek3
    generalize upd H3 k1 (.tup [.int 0, .int pp.1, .int n]) = H4 at s4 e4 ek4 ⊢
    refine ⟨_, rfl, d, _, rfl, DGet.t (k := [.inl 0, .inl pp.1, .inl n]) ek4 e4, ?_⟩
    rw [no0]
    refine ⟨false, rfl, iteF ?_⟩
    refine ⟨_, rfl, a, _, _, _, rfl, rfl, SqT.of (s4 _ _ pa), rfl, _, rfl, (by show 3 ≤ sizeLine; decide), fun k2 hk2 => ?_⟩
    have s5' := same_new hk2 (.tup [.int 1, .int pp.2, .int n])
    have e5 := upd_same (H := H4) (a := k2) (o := .tup [.int 1, .int pp.2, .int n])
    have s5 := s4.trans s5'
    have ek5 := s5' _ _ ek4
    generalize upd H4 k2 (.tup [.int 1, .int pp.2, .int n]) = H5 at s5 e5 ek5 ⊢
    refine ⟨_, rfl, d, _, rfl, DGet.t (k := [.inl 1, .inl pp.2, .inl n]) ek5 e5, ?_⟩
    rw [no1]
    refine ⟨false, rfl, iteF ?_⟩
    refine ⟨_, rfl, _, rfl, a, _, _, _, rfl, rfl, SqT.of (s5 _ _ pa), rfl, _, rfl, (by show 3 ≤ sizeLine; decide), fun k3 hk3 => ?_⟩
    have s6' := same_new hk3 (.tup [.int 0, .int pp.1, .int n])
    have e6 := upd_same (H := H5) (a := k3) (o := .tup [.int 0, .int pp.1, .int n])
    have s6 := s5.trans s6'
    have ek6 := s6' _ _ ek5
    generalize upd H5 k3 (.tup [.int 0, .int pp.1, .int n]) = H6 at s6 e6 ek6 ⊢
    refine ⟨d, _, rfl, DPut.t (k := [.inl 0, .inl pp.1, .inl n]) ek6 e6 (small9 (show kvs.length ≤ 100000 by omega)), ?_⟩
    have s7 := Same.put (o := .dT (putK kvs [.inl 0, .inl pp.1, .inl n] (.bl true))) s6 hd
    have ek7 := upd_same (H := H6) (a := d) (o := .dT (putK kvs [.inl 0, .inl pp.1, .inl n] (.bl true)))
    generalize upd H6 d (.dT (putK kvs [.inl 0, .inl pp.1, .inl n] (.bl true))) = H7 at s7 ek7 ⊢
    have l7 := length_putK kvs [.inl 0, .inl pp.1, .inl n] (.bl true)
    refine ⟨_, rfl, _, rfl, a, _, _, _, rfl, rfl, SqT.of (s7 _ _ pa), rfl, _, rfl, (by show 3 ≤ sizeLine; decide), fun k4 hk4 => ?_⟩
    have s8' := same_new hk4 (.tup [.int 1, .int pp.2, .int n])
    have e8 := upd_same (H := H7) (a := k4) (o := .tup [.int 1, .int pp.2, .int n])
    have s8 := s7.trans s8'
    have ek8 := s8' _ _ ek7
    generalize upd H7 k4 (.tup [.int 1, .int pp.2, .int n]) = H8 at s8 e8 ek8 ⊢
    refine ⟨d, _, rfl, DPut.t (k := [.inl 1, .inl pp.2, .inl n]) ek8 e8 (small9 (show (putK kvs [.inl 0, .inl pp.1, .inl n] (.bl true)).length ≤ 100000 by omega)), ?_⟩
    refine ⟨Same.put s8 hd, ⟨_, upd_same, Nat.le_trans (length_putK ..) (by omega), fun sd r x hsd z => ?_⟩, _, _, rfl⟩
    rw [valV_put] at z
    by_cases z1 : ([.inl sd, .inl r, .inl x] : List Key) = [.inl 1, .inl pp.2, .inl n]
    · obtain ⟨rfl, rfl, rfl⟩ := k3_inj z1
      exact ⟨i, Nat.lt_succ_self _, r1, nn⟩
    · rw [if_neg z1, valV_put] at z
      by_cases z2 : ([.inl sd, .inl r, .inl x] : List Key) = [.inl 0, .inl pp.1, .inl n]
      · obtain ⟨rfl, rfl, rfl⟩ := k3_inj z2
        exact ⟨i, Nat.lt_succ_self _, r0, nn⟩
      · rw [if_neg z2] at z
        obtain ⟨j, j1, j2⟩ := seen sd r x hsd z
        exact ⟨j, Nat.lt_succ_of_lt j1, j2⟩
  · rintro σ H' ⟨s2, _, v4, v5, rfl⟩
    exact q _
end
theorem ite_next {b : Bool} {H0 : Hp} {tt : TS} {D : Ends} {σ : Int → L2.St} {x : Int} (hx : 0 ≤ x) (h : ∀ W, 0 ≤ W → D.nx (σ W) H0) (h1 : (∀ W, 0 ≤ W → D.nx (σ W) H0) → tt D (σ x) H0) : (fun (b : Bool) H1 => if b = true then tt D (σ x) H1 else tNext D (σ x) H1) b H0 := by
  cases b
  · exact h x hx
  · exact h1 h
section
variable {P : Program} {w : World} {K : PySem.W.Frag} {mg : Str → Option Value} {base : Heap} {C_HallError C_Engaged C_TooFull C_NoTable C_NoTurns C_Wide : Addr}
theorem sc_law : FnScope ["_law_script", "_law_pairs_here", "_law_most", "_law_side", "_law_counts_here", "_law_rack", "_law_many", "_law_handed", "_law_error", "_law_found", "e", "_law_due"] ["_law_script"] (defScope (top 28)) := ⟨rfl, rfl, rfl, by decide +kernel, rfl, by decide +kernel, by decide +kernel⟩
set_option maxHeartbeats 4000000 in
theorem ok_law (T : Txt K mg) (Z : TxtC K mg C_HallError C_Engaged C_TooFull C_NoTable C_NoTurns C_Wide) (C__law_pairs : Callee P w K mg base 3 "_law_pairs" ["_law_script", "_law_start", "_law_last"] (spPairs K)) (C__law_cell_at : Callee P w K mg base 1 "_law_cell_at" ["_law_script", "_law_k"] (spCell K)) (C__law_counts : Callee P w K mg base 1 "_law_counts" ["_law_pairs_here", "_law_side"] (spCounts K)) (C__law_too_full : Callee P w K mg base 2 "_law_too_full" ["_law_pairs_here", "_law_many"] (spFullL K)) (C__law_refused : Callee P w K mg base 2 "_law_refused" ["_law_error", "_law_due"] (spRefusedL C_TooFull)) (C__law_apart : Callee P w K mg base 2 "_law_apart" ["_law_pairs_here", "_law_numbers", "_law_many"] (spApart K)) (C_parted : CalleeF P w K mg base 4 "parted" ["pairs", "ways"] [] (spParted C_TooFull)) {f : Addr} {fd : FuncData} (F : Fun K "law" "law" (top 28) f fd) : FnOk P w K mg base CX0 5 f fd ["_law_script"] (spLaw K) := by
  refine F.ok sc_law (fun vs H Q E h => ?_) (fun cdv A outer s H vs Q E hr h => ?_)
  · obtain ⟨a, ns, rfl, _⟩ := h
    rfl
  obtain ⟨a, ns, rfl, hS, h63, q⟩ := h
  refine ⟨_, (pss_cons (ps_set (i := 1) sc_law.nd rfl (Or.inl rfl) (pe_fn C__law_pairs hr rfl (pa_cons (pv 0) (pa_cons pe_int (pa_cons pe_int pa_nil st_const) st_const) st_name)))
    (pss_cons (ps_set (i := 2) sc_law.nd rfl (Or.inl rfl) pe_int)
    (pss_cons (ps_for PassesOwn.never rfl (pi_tupK K (pe_tup (pa_cons pe_int (pa_cons pe_int pa_nil st_const) st_const))) (pg_name (i := 3) sc_law.nd rfl (Or.inl rfl))
    (pss_cons (ps_set (i := 4) sc_law.nd rfl (Or.inl rfl) (pe_fn C__law_counts hr rfl (pa_cons (pv 1) (pa_cons (pv 3) pa_nil st_name) st_name)))
    (pss_one (ps_for PassesOwn.never rfl (pi_dic (pv 4)) (pg_name (i := 5) sc_law.nd rfl (Or.inl rfl))
    (pss_one (ps_set (i := 2) sc_law.nd rfl (Or.inl rfl) (pe_callB (call_max2 rfl) rfl T.m_max boot_max (pa_cons (pv 2) (pa_cons (pe_dget (hu_of hr) (pv 4) (pv 5) (fun _ _ => rfl)) pa_nil st_sub) st_name))))))))
    (pss_cons (ps_set (i := 6) sc_law.nd rfl (Or.inl rfl) (pe_callB (call_min2 rfl) rfl T.m_min boot_min (pa_cons pe_int (pa_cons (pe_callB (call_max2 rfl) rfl T.m_max boot_max (pa_cons pe_int (pa_cons (pe_op op_sub (pe_op op_add (pv 2) (pe_op op_mod (pe_fn C__law_cell_at hr rfl (pa_cons (pv 0) (pa_cons pe_int pa_nil st_const) st_name)) pe_int)) pe_int) pa_nil st_bin) st_const)) pa_nil st_call) st_const)))
    (pss_cons (ps_if (pt_cmpR op_eq (pe_op op_mod (pe_fn C__law_cell_at hr rfl (pa_cons (pv 0) (pa_cons pe_int pa_nil st_const) st_name)) pe_int) pe_int (nomark _)) (pss_one (ps_set (i := 6) sc_law.nd rfl (Or.inl rfl) (pe_op op_mod (pe_callB call_abs rfl T.m_abs boot_abs (pa_cons (pe_fn C__law_cell_at hr rfl (pa_cons (pv 0) (pa_cons pe_int pa_nil st_const) st_name)) pa_nil st_call)) pe_int))) pss_nil)
    (pss_cons (ps_set (i := 7) sc_law.nd rfl (Or.inl rfl) (pe_callTy (call_listK K) rfl T.m_list boot_list (pa_cons (pv 1) pa_nil st_name)))
    (pss_cons (ps_set (i := 8) sc_law.nd rfl (Or.inl rfl) pe_non)
    (pss_cons (ps_set (i := 9) sc_law.nd rfl (Or.inl rfl) pe_non)
    (pss_cons (ps_tryF (c := .ref C_HallError) (i := 10) rfl Z.mg_HallError sc_law.nd rfl rfl rfl rfl rfl (fun pn E =>
    (pss_one (ps_set (i := 9) sc_law.nd rfl (Or.inl rfl) (pe_fnF 0 C_parted pass_tryF hr rfl (pa_cons (pv 7) (pa_cons (pv 6) pa_nil st_name) st_name))))) (fun ea =>
    (pss_one (ps_set (i := 8) sc_law.nd rfl (Or.inl rfl) (pv 10)))))
    (pss_cons (ps_if (pt_cmpR (op_neSameK K (Room.units0 hr)) (pv 7) (pv 1) (nomark _)) (pss_one (ps_ret pe_bl)) pss_nil)
    (pss_cons (ps_set (i := 11) sc_law.nd rfl (Or.inl rfl) (pe_fn C__law_too_full hr rfl (pa_cons (pv 1) (pa_cons (pv 6) pa_nil st_name) st_name)))
    (pss_cons (ps_if (pt_cmpR op_notN (pv 11) pe_non (nomark _)) (pss_one (ps_ret (pe_fn C__law_refused hr rfl (pa_cons (pv 8) (pa_cons (pv 11) pa_nil st_name) st_name)))) pss_nil)
    (pss_one (ps_ret (pe_and (pe_cmpR op_isN (pv 8) pe_non (nomark _)) (pe_one (pe_fn C__law_apart hr rfl (pa_cons (pv 1) (pa_cons (pv 9) (pa_cons (pv 6) pa_nil st_name) st_name) st_name)))))))))))))))))), ?_⟩
  refine ⟨_, rfl, a, ns, 3, rfl, hS, h63, by omega, fun l as ps H1 s1 hl0 el pr hin few => ?_⟩
  have ln : as.length = ps.length := Paired.length pr
  refine ⟨(by show 2 ≤ sizeLine; decide), fun t ht => ?_⟩
  have s3 := same_new ht (.tup [.int 0, .int 1])
  have et := upd_same (H := H1) (a := t) (o := .tup [.int 0, .int 1])
  generalize upd H1 t (.tup [.int 0, .int 1]) = H3 at s3 et ⊢
  refine ⟨t, rfl, ⟨_, SqT.of et⟩, ?_⟩
  refine for_tup (xs := [.int 0, .int 1]) (fun i σ H' => Same H3 H' ∧ ∃ (m : Int) (v3 v4 v5 : Option V), σ = [some (.ref a), some (.ref l), some (.int m), v3, v4, v5, none, none, none, none, none, none])
    ⟨fun b u z => z, 0, none, none, none, rfl⟩ (fun i σ H' _ g => SqT.of (g.1 _ _ et)) ?_ ?_
  · rintro i x σ H' hx ⟨s4, m, v3, v4, v5, rfl⟩
    obtain ⟨side, rfl, hside, hs⟩ := two_at i x hx
    have s34 := s3.trans s4
    refine ⟨_, rfl, _, rfl, l, as, ps, side, rfl, SqL.of (s34 _ _ el), pr.same s34, few, hs, fun d ob kvs H5 s5 hd0 ed cd => ?_⟩
    obtain ⟨nsx, nd, mem, nl, hk⟩ := id cd
    refine ⟨_, rfl, d, ob, kvs, rfl, ed, ?_⟩
    refine for_dic (kvs := kvs) (fun j σ H' => H' = H5 ∧ ∃ (m' : Int) (v5 : Option V), σ = [some (.ref a), some (.ref l), some (.int m'), some (.int side), some (.ref d), v5, none, none, none, none, none, none])
      ⟨rfl, m, _, rfl⟩ (fun j σ H' _ g => by rw [g.1]; exact ed) ?_ ?_
    · rintro j k y σ G hx ⟨rfl, m', v5, rfl⟩
      obtain ⟨r, rfl, mr⟩ : ∃ r, k = Sum.inl r ∧ r ∈ rks side ps := by
        rw [hk, List.getElem?_map] at hx
        obtain ⟨r, z1, z2⟩ := Option.map_eq_some_iff.mp hx
        cases z2
        exact ⟨r, rfl, (mem r).mp (List.mem_of_getElem? z1)⟩
      have hv := cd.val r
      rw [if_pos mr] at hv
      refine ⟨_, rfl, _, rfl, _, rfl, d, _, rfl, .inl ⟨kvs, .inl r, .inr ⟨ob, ed⟩, rfl, hv.symm⟩, _, _, rfl, ?_⟩
      exact ⟨rfl, _, _, rfl⟩
    · rintro σ G ⟨rfl, m', v5, rfl⟩
      exact ⟨s4.trans s5, m', _, _, _, rfl⟩
  · rintro σ H2 ⟨s4, m, v3, v4, v5, rfl⟩
    have s12 := s3.trans s4
    have s02 := s1.trans s12
    refine ⟨_, rfl, _, rfl, a, ns, 2, rfl, s02.seq hS, _, _, rfl, rfl, (by show (0 : Int) < 6; decide), _, _, rfl, rfl, _, _, rfl, rfl, _, _, rfl, _, _, rfl, ?_⟩
    have hW1 : (0 : Int) ≤ (if (if m + cell ns 2 % 6 - 2 > 0 then m + cell ns 2 % 6 - 2 else 0) < 64 then (if m + cell ns 2 % 6 - 2 > 0 then m + cell ns 2 % 6 - 2 else 0) else 64) := by
      split
      · split <;> omega
      · decide
    generalize (if (if m + cell ns 2 % 6 - 2 > 0 then m + cell ns 2 % 6 - 2 else 0) < 64 then (if m + cell ns 2 % 6 - 2 > 0 then m + cell ns 2 % 6 - 2 else 0) else 64) = W1 at hW1 ⊢
    refine ⟨_, rfl, a, ns, 0, rfl, s02.seq hS, _, _, rfl, rfl, (by show (0 : Int) < 2; decide), rfl, _, rfl, ?_⟩
    refine ite_next (σ := fun W => [some (.ref a), some (.ref l), some (.int m), v3, v4, v5, some (.int W), none, none, none, none, none]) hW1 (fun W hW => ?_) (fun key => ?_)
    rotate_left
    · refine ⟨_, rfl, a, ns, 2, rfl, s02.seq hS, _, rfl, _, _, rfl, rfl, (by show (0 : Int) < 65; decide), key _ (Int.emod_nonneg _ (by decide))⟩
    clear hW1 W1
    refine ⟨_, rfl, l, _, rfl, .inl (SqL.of (s12 _ _ el)), fun hd hhd => ?_⟩
    have s23 := same_new hhd (.lst (as.map V.ref))
    have eh := upd_same (H := H2) (a := hd) (o := .lst (as.map V.ref))
    generalize upd H2 hd (.lst (as.map V.ref)) = H4 at s23 eh ⊢
    have s14 := s12.trans s23
    have el4 := s14 _ _ el
    have pr4 := pr.same s14
    refine ⟨fun σ' c0 d H' => σ' = [some (.ref a), some (.ref l), some (.int m), v3, v4, v5, some (.int W), some (.ref hd), some .non, some .non, none, none] ∧ c0 = .ref C_TooFull ∧ ∃ dx side r, d = some dx ∧ Same H4 H' ∧ FirstFull ps W side r ∧ H' dx = some (XdO dx (fullF side r ((rks side ps).count r : Nat))), ?_, ?_⟩
    · refine ⟨_, rfl, _, rfl, hd, as, ps, W, rfl, hW, eh, pr4, few, fun nl nu H5 s5 hall hnl enl lnl N bd => ?_, fun side r dx H5 s5 ff hdx edx => ⟨rfl, rfl, dx, side, r, rfl, s5, ff, edx⟩⟩
      have s15 := s14.trans s5
      have el5 := s15 _ _ el
      refine ⟨_, rfl, _, rfl, hd, l, _, rfl, rfl, SqL.of (s5 _ _ eh), SqL.of el5, refs_refs as, _, rfl, iteF ?_⟩
      refine ⟨_, rfl, _, rfl, l, as, ps, W, rfl, hW, SqL.of el5, pr.same s15, few, fun H6 s6 hall' => ?_, fun side r t6 H6 s6 ff e6 => ?_⟩
      · refine ⟨_, rfl, rfl, _, rfl, iteF ?_⟩
        have s16 := s15.trans s6
        refine ⟨_, rfl, rfl, _, rfl, iteT ?_⟩
        exact ⟨_, rfl, _, rfl, _, rfl, l, nl, as, ps, nu, W, rfl, SqL.of (s16 _ _ el), pr.same s16, few, s6 _ _ enl, lnl, N, bd, q⟩
      · exfalso
        have := hall side r ff.sd
        have := ff.full
        omega
    · rintro σ' c0 d H5 ⟨rfl, rfl, dx, side, r, rfl, s5, ff, edx⟩
      refine ⟨rfl, Z.kh_TooFull, fun ea C hC hea => ?_⟩
      cases hC
      have s6' := same_new hea (ExcD ea C_TooFull (some dx))
      have eea := upd_same (H := H5) (a := ea) (o := ExcD ea C_TooFull (some dx))
      have edx6 := s6' _ _ edx
      have s6 := s5.trans s6'
      generalize upd H5 ea (ExcD ea C_TooFull (some dx)) = H6 at s6 eea edx6 ⊢
      have s16 := s14.trans s6
      have el6 := s16 _ _ el
      refine ⟨_, rfl, ?_⟩
      refine ⟨_, rfl, _, rfl, hd, l, _, rfl, rfl, SqL.of (s6 _ _ eh), SqL.of el6, refs_refs as, _, rfl, iteF ?_⟩
      refine ⟨_, rfl, _, rfl, l, as, ps, W, rfl, hW, SqL.of el6, pr.same s16, few, fun H7 s7 hall' => ?_, fun side' r' t6 H7 s7 ff' e7 => ?_⟩
      · exfalso
        have := hall' side r ff.sd
        have := ff.full
        omega
      · obtain ⟨rfl, rfl⟩ := ff.one ff'
        refine ⟨_, rfl, rfl, _, rfl, iteT ?_⟩
        exact ⟨_, rfl, _, rfl, ea, dx, t6, side, r, _, rfl, s7 _ _ eea, s7 _ _ edx6, e7, q⟩
end
section
variable {l : PySem.W.OpenLaw} {w : World} {K : PySem.W.Frag} {h : Heap} {mg : Str → Option Value}
theorem def_mk {x : Str} {st : Stmt} {ps : List Str} {f : Addr} {oc : Value} {od an : Option Addr} {sl : Array (Option Value)} {kV dc pm cd ct : Value} (X : K.In h) (G : h.Ns mainGlobals mg) (a : PySem.W.nsIn K mainGlobals x = some (some (.ref f)))
    (l : K.lookup f = some ⟨oc, od, .func (PySem.W.fnOf x x (defArgs st) (defBody st) (defScope st) .none kV dc pm an cd ct), sl⟩) (c : PySem.W.codeIn K cd x = true) (k : PySem.W.keepIn K (.ref f) = true)
    (b : ∀ us : List Value, us.length = ps.length → bindArgs (PySem.W.fnOf x x (defArgs st) (defBody st) (defScope st) .none kV dc pm an cd ct) ⟨us, []⟩ = pure (ps.zip us)) : Def K mg x st ps :=
  ⟨f, _, fun_mk l c k, .all b, PySem.W.mg_of X G a⟩
theorem all_mk {fa f1 f2 f3 f4 f5 f6 f7 f8 f9 f10 f11 f12 f13 f14 f15 f16 f17 f18 f19  C_HallError C_Engaged C_TooFull C_NoTable C_NoTurns C_Wide fm_TooFull___init__ : Addr} (X : K.In h) (G : h.Ns mainGlobals mg) (hfa : mg "law" = some (.ref fa))
    {od1 an1 od2 an2 od3 an3 od4 an4 od5 an5 od6 an6 od7 an7 od8 an8 od9 an9 od10 an10 od11 an11 od12 an12 od13 an13 od14 an14 od15 an15 od16 an16 od17 an17 od18 an18 od19 an19 : Option Addr} {sl1 sl2 sl3 sl4 sl5 sl6 sl7 sl8 sl9 sl10 sl11 sl12 sl13 sl14 sl15 sl16 sl17 sl18 sl19 : Array (Option Value)} {oc1 kV1 dc1 pm1 cd1 ct1 oc2 kV2 dc2 pm2 cd2 ct2 oc3 kV3 dc3 pm3 cd3 ct3 oc4 kV4 dc4 pm4 cd4 ct4 oc5 kV5 dc5 pm5 cd5 ct5 oc6 kV6 dc6 pm6 cd6 ct6 oc7 kV7 dc7 pm7 cd7 ct7 oc8 kV8 dc8 pm8 cd8 ct8 oc9 kV9 dc9 pm9 cd9 ct9 oc10 kV10 dc10 pm10 cd10 ct10 oc11 kV11 dc11 pm11 cd11 ct11 oc12 kV12 dc12 pm12 cd12 ct12 oc13 kV13 dc13 pm13 cd13 ct13 oc14 kV14 dc14 pm14 cd14 ct14 oc15 kV15 dc15 pm15 cd15 ct15 oc16 kV16 dc16 pm16 cd16 ct16 oc17 kV17 dc17 pm17 cd17 ct17 oc18 kV18 dc18 pm18 cd18 ct18 oc19 kV19 dc19 pm19 cd19 ct19 : Value}
    (a1 : PySem.W.nsIn K mainGlobals "side_weights" = some (some (.ref f1))) (l1 : K.lookup f1 = some ⟨oc1, od1, .func (PySem.W.fnOf "side_weights" "side_weights" (defArgs (top 8)) (defBody (top 8)) (defScope (top 8)) .none kV1 dc1 pm1 an1 cd1 ct1), sl1⟩) (c1 : PySem.W.codeIn K cd1 "side_weights" = true) (k1 : PySem.W.keepIn K (.ref f1) = true)
    (a2 : PySem.W.nsIn K mainGlobals "refuse_full" = some (some (.ref f2))) (l2 : K.lookup f2 = some ⟨oc2, od2, .func (PySem.W.fnOf "refuse_full" "refuse_full" (defArgs (top 10)) (defBody (top 10)) (defScope (top 10)) .none kV2 dc2 pm2 an2 cd2 ct2), sl2⟩) (c2 : PySem.W.codeIn K cd2 "refuse_full" = true) (k2 : PySem.W.keepIn K (.ref f2) = true)
    (a3 : PySem.W.nsIn K mainGlobals "take" = some (some (.ref f3))) (l3 : K.lookup f3 = some ⟨oc3, od3, .func (PySem.W.fnOf "take" "take" (defArgs (top 11)) (defBody (top 11)) (defScope (top 11)) .none kV3 dc3 pm3 an3 cd3 ct3), sl3⟩) (c3 : PySem.W.codeIn K cd3 "take" = true) (k3 : PySem.W.keepIn K (.ref f3) = true)
    (a4 : PySem.W.nsIn K mainGlobals "leave" = some (some (.ref f4))) (l4 : K.lookup f4 = some ⟨oc4, od4, .func (PySem.W.fnOf "leave" "leave" (defArgs (top 12)) (defBody (top 12)) (defScope (top 12)) .none kV4 dc4 pm4 an4 cd4 ct4), sl4⟩) (c4 : PySem.W.codeIn K cd4 "leave" = true) (k4 : PySem.W.keepIn K (.ref f4) = true)
    (a5 : PySem.W.nsIn K mainGlobals "first_left" = some (some (.ref f5))) (l5 : K.lookup f5 = some ⟨oc5, od5, .func (PySem.W.fnOf "first_left" "first_left" (defArgs (top 13)) (defBody (top 13)) (defScope (top 13)) .none kV5 dc5 pm5 an5 cd5 ct5), sl5⟩) (c5 : PySem.W.codeIn K cd5 "first_left" = true) (k5 : PySem.W.keepIn K (.ref f5) = true)
    (a6 : PySem.W.nsIn K mainGlobals "chain_along" = some (some (.ref f6))) (l6 : K.lookup f6 = some ⟨oc6, od6, .func (PySem.W.fnOf "chain_along" "chain_along" (defArgs (top 14)) (defBody (top 14)) (defScope (top 14)) .none kV6 dc6 pm6 an6 cd6 ct6), sl6⟩) (c6 : PySem.W.codeIn K cd6 "chain_along" = true) (k6 : PySem.W.keepIn K (.ref f6) = true)
    (a7 : PySem.W.nsIn K mainGlobals "exchange" = some (some (.ref f7))) (l7 : K.lookup f7 = some ⟨oc7, od7, .func (PySem.W.fnOf "exchange" "exchange" (defArgs (top 15)) (defBody (top 15)) (defScope (top 15)) .none kV7 dc7 pm7 an7 cd7 ct7), sl7⟩) (c7 : PySem.W.codeIn K cd7 "exchange" = true) (k7 : PySem.W.keepIn K (.ref f7) = true)
    (a8 : PySem.W.nsIn K mainGlobals "parted" = some (some (.ref f8))) (l8 : K.lookup f8 = some ⟨oc8, od8, .func (PySem.W.fnOf "parted" "parted" (defArgs (top 16)) (defBody (top 16)) (defScope (top 16)) .none kV8 dc8 pm8 an8 cd8 ct8), sl8⟩) (c8 : PySem.W.codeIn K cd8 "parted" = true) (k8 : PySem.W.keepIn K (.ref f8) = true)
    (a9 : PySem.W.nsIn K mainGlobals "_law_cell_at" = some (some (.ref f9))) (l9 : K.lookup f9 = some ⟨oc9, od9, .func (PySem.W.fnOf "_law_cell_at" "_law_cell_at" (defArgs (top 18)) (defBody (top 18)) (defScope (top 18)) .none kV9 dc9 pm9 an9 cd9 ct9), sl9⟩) (c9 : PySem.W.codeIn K cd9 "_law_cell_at" = true) (k9 : PySem.W.keepIn K (.ref f9) = true)
    (a10 : PySem.W.nsIn K mainGlobals "_law_mixed" = some (some (.ref f10))) (l10 : K.lookup f10 = some ⟨oc10, od10, .func (PySem.W.fnOf "_law_mixed" "_law_mixed" (defArgs (top 19)) (defBody (top 19)) (defScope (top 19)) .none kV10 dc10 pm10 an10 cd10 ct10), sl10⟩) (c10 : PySem.W.codeIn K cd10 "_law_mixed" = true) (k10 : PySem.W.keepIn K (.ref f10) = true)
    (a11 : PySem.W.nsIn K mainGlobals "_law_whole" = some (some (.ref f11))) (l11 : K.lookup f11 = some ⟨oc11, od11, .func (PySem.W.fnOf "_law_whole" "_law_whole" (defArgs (top 20)) (defBody (top 20)) (defScope (top 20)) .none kV11 dc11 pm11 an11 cd11 ct11), sl11⟩) (c11 : PySem.W.codeIn K cd11 "_law_whole" = true) (k11 : PySem.W.keepIn K (.ref f11) = true)
    (a12 : PySem.W.nsIn K mainGlobals "_law_digit" = some (some (.ref f12))) (l12 : K.lookup f12 = some ⟨oc12, od12, .func (PySem.W.fnOf "_law_digit" "_law_digit" (defArgs (top 21)) (defBody (top 21)) (defScope (top 21)) .none kV12 dc12 pm12 an12 cd12 ct12), sl12⟩) (c12 : PySem.W.codeIn K cd12 "_law_digit" = true) (k12 : PySem.W.keepIn K (.ref f12) = true)
    (a13 : PySem.W.nsIn K mainGlobals "_law_free_pairs" = some (some (.ref f13))) (l13 : K.lookup f13 = some ⟨oc13, od13, .func (PySem.W.fnOf "_law_free_pairs" "_law_free_pairs" (defArgs (top 22)) (defBody (top 22)) (defScope (top 22)) .none kV13 dc13 pm13 an13 cd13 ct13), sl13⟩) (c13 : PySem.W.codeIn K cd13 "_law_free_pairs" = true) (k13 : PySem.W.keepIn K (.ref f13) = true)
    (a14 : PySem.W.nsIn K mainGlobals "_law_pairs" = some (some (.ref f14))) (l14 : K.lookup f14 = some ⟨oc14, od14, .func (PySem.W.fnOf "_law_pairs" "_law_pairs" (defArgs (top 23)) (defBody (top 23)) (defScope (top 23)) .none kV14 dc14 pm14 an14 cd14 ct14), sl14⟩) (c14 : PySem.W.codeIn K cd14 "_law_pairs" = true) (k14 : PySem.W.keepIn K (.ref f14) = true)
    (a15 : PySem.W.nsIn K mainGlobals "_law_counts" = some (some (.ref f15))) (l15 : K.lookup f15 = some ⟨oc15, od15, .func (PySem.W.fnOf "_law_counts" "_law_counts" (defArgs (top 24)) (defBody (top 24)) (defScope (top 24)) .none kV15 dc15 pm15 an15 cd15 ct15), sl15⟩) (c15 : PySem.W.codeIn K cd15 "_law_counts" = true) (k15 : PySem.W.keepIn K (.ref f15) = true)
    (a16 : PySem.W.nsIn K mainGlobals "_law_too_full" = some (some (.ref f16))) (l16 : K.lookup f16 = some ⟨oc16, od16, .func (PySem.W.fnOf "_law_too_full" "_law_too_full" (defArgs (top 25)) (defBody (top 25)) (defScope (top 25)) .none kV16 dc16 pm16 an16 cd16 ct16), sl16⟩) (c16 : PySem.W.codeIn K cd16 "_law_too_full" = true) (k16 : PySem.W.keepIn K (.ref f16) = true)
    (a17 : PySem.W.nsIn K mainGlobals "_law_refused" = some (some (.ref f17))) (l17 : K.lookup f17 = some ⟨oc17, od17, .func (PySem.W.fnOf "_law_refused" "_law_refused" (defArgs (top 26)) (defBody (top 26)) (defScope (top 26)) .none kV17 dc17 pm17 an17 cd17 ct17), sl17⟩) (c17 : PySem.W.codeIn K cd17 "_law_refused" = true) (k17 : PySem.W.keepIn K (.ref f17) = true)
    (a18 : PySem.W.nsIn K mainGlobals "_law_apart" = some (some (.ref f18))) (l18 : K.lookup f18 = some ⟨oc18, od18, .func (PySem.W.fnOf "_law_apart" "_law_apart" (defArgs (top 27)) (defBody (top 27)) (defScope (top 27)) .none kV18 dc18 pm18 an18 cd18 ct18), sl18⟩) (c18 : PySem.W.codeIn K cd18 "_law_apart" = true) (k18 : PySem.W.keepIn K (.ref f18) = true)
    (a19 : PySem.W.nsIn K mainGlobals "law" = some (some (.ref f19))) (l19 : K.lookup f19 = some ⟨oc19, od19, .func (PySem.W.fnOf "law" "law" (defArgs (top 28)) (defBody (top 28)) (defScope (top 28)) .none kV19 dc19 pm19 an19 cd19 ct19), sl19⟩) (c19 : PySem.W.codeIn K cd19 "law" = true) (k19 : PySem.W.keepIn K (.ref f19) = true)
    (q_HallError_at : PySem.W.nsIn K mainGlobals "HallError" = some (some (.ref C_HallError)))
    (q_Engaged_at : PySem.W.nsIn K mainGlobals "Engaged" = some (some (.ref C_Engaged)))
    (q_TooFull_at : PySem.W.nsIn K mainGlobals "TooFull" = some (some (.ref C_TooFull)))
    (q_NoTable_at : PySem.W.nsIn K mainGlobals "NoTable" = some (some (.ref C_NoTable)))
    (q_NoTurns_at : PySem.W.nsIn K mainGlobals "NoTurns" = some (some (.ref C_NoTurns)))
    (q_Wide_at : PySem.W.nsIn K mainGlobals "Wide" = some (some (.ref C_Wide)))
    (q_HallError_ic : PySem.W.isClsIn K C_HallError = true) (q_HallError_ty : PySem.W.typeIn K (.ref C_HallError) = some (.type "type"))
    (q_Engaged_ic : PySem.W.isClsIn K C_Engaged = true) (q_Engaged_ty : PySem.W.typeIn K (.ref C_Engaged) = some (.type "type"))
    (q_TooFull_ic : PySem.W.isClsIn K C_TooFull = true) (q_TooFull_ty : PySem.W.typeIn K (.ref C_TooFull) = some (.type "type"))
    (q_NoTable_ic : PySem.W.isClsIn K C_NoTable = true) (q_NoTable_ty : PySem.W.typeIn K (.ref C_NoTable) = some (.type "type"))
    (q_NoTurns_ic : PySem.W.isClsIn K C_NoTurns = true) (q_NoTurns_ty : PySem.W.typeIn K (.ref C_NoTurns) = some (.type "type"))
    (q_Wide_ic : PySem.W.isClsIn K C_Wide = true) (q_Wide_ty : PySem.W.typeIn K (.ref C_Wide) = some (.type "type"))
    (q_hb : PySem.W.subIn K (.ref C_HallError) (.type "BaseException") = some true) (q_gt : PySem.W.specialIn K (.builtin "object.__class__") "__get__" = some (some (.builtin "getset_descriptor.__get__"))) (q_tk : PySem.W.takesIn K (.builtin "object.__class__") = some true)
    (q_TooFull_sa : PySem.W.findIn K (.ref C_TooFull) "__setattr__" = some (some (.builtin "object.__setattr__")))
    (q_TooFull_f_side : PySem.W.findIn K (.ref C_TooFull) "side" = some none)
    (q_TooFull_f_rack : PySem.W.findIn K (.ref C_TooFull) "rack" = some none)
    (q_TooFull_f_many : PySem.W.findIn K (.ref C_TooFull) "many" = some none)
    (q_TooFull_ga : PySem.W.findIn K (.ref C_TooFull) "__getattribute__" = some (some (.builtin "BaseException.__getattribute__"))) (q_TooFull_gn : PySem.W.findIn K (.ref C_TooFull) "__getattr__" = some none) (q_TooFull_cl : PySem.W.findIn K (.ref C_TooFull) "__class__" = some (some (.builtin "object.__class__"))) (q_TooFull_mo : PySem.W.mroIn K C_TooFull (.type "object") = some true) (q_TooFull_mb : PySem.W.mroIn K C_TooFull (.type "BaseException") = some true) (q_TooFull_sv : PySem.W.subIn K (.ref C_TooFull) (.type "ValueError") = some true)
    (q_TooFull_s_HallError : PySem.W.subIn K (.ref C_TooFull) (.ref C_HallError) = some true)
    (q_TooFull_s_Engaged : PySem.W.subIn K (.ref C_TooFull) (.ref C_Engaged) = some false)
    (q_TooFull_s_TooFull : PySem.W.subIn K (.ref C_TooFull) (.ref C_TooFull) = some true)
    (q_TooFull_s_NoTable : PySem.W.subIn K (.ref C_TooFull) (.ref C_NoTable) = some false)
    (q_TooFull_s_NoTurns : PySem.W.subIn K (.ref C_TooFull) (.ref C_NoTurns) = some false)
    (q_TooFull_s_Wide : PySem.W.subIn K (.ref C_TooFull) (.ref C_Wide) = some false)
    {odm_TooFull___init__ anm_TooFull___init__ : Option Addr} {slm_TooFull___init__ : Array (Option Value)} {ocm_TooFull___init__ kvm_TooFull___init__ dcm_TooFull___init__ pmm_TooFull___init__ cdm_TooFull___init__ ctm_TooFull___init__ : Value}
    (q_TooFull___init___a : PySem.W.findIn K (.ref C_TooFull) "__init__" = some (some (.ref fm_TooFull___init__))) (q_TooFull___init___i : PySem.W.isFn K (.ref fm_TooFull___init__) = true) (q_TooFull___init___l : K.lookup fm_TooFull___init__ = some ⟨ocm_TooFull___init__, odm_TooFull___init__, .func (PySem.W.fnOf "__init__" "TooFull.__init__" (defArgs (inClass (top 3) 0)) (defBody (inClass (top 3) 0)) (defScope (inClass (top 3) 0)) .none kvm_TooFull___init__ dcm_TooFull___init__ pmm_TooFull___init__ anm_TooFull___init__ cdm_TooFull___init__ ctm_TooFull___init__), slm_TooFull___init__⟩) (q_TooFull___init___c : PySem.W.codeIn K cdm_TooFull___init__ "TooFull.__init__" = true) (q_TooFull___init___k : PySem.W.keepIn K (.ref fm_TooFull___init__) = true)
    (q_TooFull_xi : excInI K C_TooFull fm_TooFull___init__ = true)
    (z_len : PySem.W.nsIn K mainGlobals "len" = some none) (z_isinstance : PySem.W.nsIn K mainGlobals "isinstance" = some none) (z_int : PySem.W.nsIn K mainGlobals "int" = some none) (z_bool : PySem.W.nsIn K mainGlobals "bool" = some none) (z_tuple : PySem.W.nsIn K mainGlobals "tuple" = some none) (z_list : PySem.W.nsIn K mainGlobals "list" = some none) (z_range : PySem.W.nsIn K mainGlobals "range" = some none) (z_abs : PySem.W.nsIn K mainGlobals "abs" = some none) (z_min : PySem.W.nsIn K mainGlobals "min" = some none) (z_max : PySem.W.nsIn K mainGlobals "max" = some none) (z_sorted : PySem.W.nsIn K mainGlobals "sorted" = some none) (z_enumerate : PySem.W.nsIn K mainGlobals "enumerate" = some none) (z_zip : PySem.W.nsIn K mainGlobals "zip" = some none) (z_ValueError : PySem.W.nsIn K mainGlobals "ValueError" = some none) :
    ∃ fd : FuncData, (∀ (s : Shared) (v : Value), BindsTo s fd ⟨[v], []⟩ [("_law_script", v)]) ∧ ∀ base : Heap, K.In base → base.Ns mainGlobals mg → FnOk l.prog w K mg base CX0 5 fa fd ["_law_script"] (spLaw K) := by
  have e := hfa.symm.trans (PySem.W.mg_of X G a19)
  cases e
  have T : Txt K mg := ⟨PySem.W.mg_none_of X G z_len, PySem.W.mg_none_of X G z_isinstance, PySem.W.mg_none_of X G z_int, PySem.W.mg_none_of X G z_bool, PySem.W.mg_none_of X G z_tuple, PySem.W.mg_none_of X G z_list, PySem.W.mg_none_of X G z_range, PySem.W.mg_none_of X G z_abs, PySem.W.mg_none_of X G z_min, PySem.W.mg_none_of X G z_max, PySem.W.mg_none_of X G z_sorted, PySem.W.mg_none_of X G z_enumerate, PySem.W.mg_none_of X G z_zip, PySem.W.mg_none_of X G z_ValueError⟩
  have Z : TxtC K mg C_HallError C_Engaged C_TooFull C_NoTable C_NoTurns C_Wide := ⟨PySem.W.mg_of X G q_HallError_at, PySem.W.mg_of X G q_Engaged_at, PySem.W.mg_of X G q_TooFull_at, PySem.W.mg_of X G q_NoTable_at, PySem.W.mg_of X G q_NoTurns_at, PySem.W.mg_of X G q_Wide_at, ⟨_, PySem.W.mg_of X G q_TooFull_at, q_TooFull_xi, q_TooFull___init___a⟩, excN_of q_TooFull_xi q_TooFull_sa, ⟨q_TooFull_ga, q_TooFull_gn, q_TooFull_cl, q_gt, q_tk, q_TooFull_mo, q_TooFull_mb, q_TooFull_ic⟩, kit_val q_TooFull_sv, exm_own q_HallError_ic q_HallError_ty q_TooFull_s_HallError q_hb, kit_own q_HallError_ic q_HallError_ty q_TooFull_s_HallError, kit_not q_Engaged_ic q_Engaged_ty q_TooFull_s_Engaged q_TooFull_s_TooFull, kit_own q_TooFull_ic q_TooFull_ty q_TooFull_s_TooFull, kit_not q_NoTable_ic q_NoTable_ty q_TooFull_s_NoTable q_TooFull_s_TooFull, kit_not q_NoTurns_ic q_NoTurns_ty q_TooFull_s_NoTurns q_TooFull_s_TooFull, kit_not q_Wide_ic q_Wide_ty q_TooFull_s_Wide q_TooFull_s_TooFull, q_TooFull_f_side, q_TooFull_f_rack, q_TooFull_f_many⟩
  have D_TooFull___init__ : DefM K C_TooFull "__init__" "TooFull.__init__" (inClass (top 3) 0) ["self", "side", "rack", "many"] [] noKw := ⟨fm_TooFull___init__, _, ⟨⟨_, _, _, _, _, _, _, _, _, _, rfl, q_TooFull___init___l, q_TooFull___init___c⟩⟩, ⟨q_TooFull___init___a, q_TooFull___init___i, q_TooFull___init___k⟩, trivial, fun m hm => match m, hm with | 0, _ => ⟨[], .nil, .all fun us hl => match us, hl with | [_, _, _, _], _ => rfl⟩ | _ + 1, h => absurd h (by simp)⟩
  have D_side_weights : Def K mg "side_weights" (top 8) ["pairs", "side"] := def_mk X G a1 l1 c1 k1 fun us hl => match us, hl with | [_, _], _ => rfl
  have D_refuse_full : Def K mg "refuse_full" (top 10) ["pairs", "ways"] := def_mk X G a2 l2 c2 k2 fun us hl => match us, hl with | [_, _], _ => rfl
  have D_take : Def K mg "take" (top 11) ["taken", "place", "pair", "number"] := def_mk X G a3 l3 c3 k3 fun us hl => match us, hl with | [_, _, _, _], _ => rfl
  have D_leave : Def K mg "leave" (top 12) ["taken", "pair", "number"] := def_mk X G a4 l4 c4 k4 fun us hl => match us, hl with | [_, _, _], _ => rfl
  have D_first_left : Def K mg "first_left" (top 13) ["places", "rack"] := def_mk X G a5 l5 c5 k5 fun us hl => match us, hl with | [_, _], _ => rfl
  have D_chain_along : Def K mg "chain_along" (top 14) ["pairs", "taken", "rack", "a", "b"] := def_mk X G a6 l6 c6 k6 fun us hl => match us, hl with | [_, _, _, _, _], _ => rfl
  have D_exchange : Def K mg "exchange" (top 15) ["pairs", "taken", "numbers", "chain", "a", "b"] := def_mk X G a7 l7 c7 k7 fun us hl => match us, hl with | [_, _, _, _, _, _], _ => rfl
  have D_parted : Def K mg "parted" (top 16) ["pairs", "ways"] := def_mk X G a8 l8 c8 k8 fun us hl => match us, hl with | [_, _], _ => rfl
  have D__law_cell_at : Def K mg "_law_cell_at" (top 18) ["_law_script", "_law_k"] := def_mk X G a9 l9 c9 k9 fun us hl => match us, hl with | [_, _], _ => rfl
  have D__law_mixed : Def K mg "_law_mixed" (top 19) ["_law_cell", "_law_k"] := def_mk X G a10 l10 c10 k10 fun us hl => match us, hl with | [_, _], _ => rfl
  have D__law_whole : Def K mg "_law_whole" (top 20) ["_law_found"] := def_mk X G a11 l11 c11 k11 fun us hl => match us, hl with | [_], _ => rfl
  have D__law_digit : Def K mg "_law_digit" (top 21) ["_law_left", "_law_many"] := def_mk X G a12 l12 c12 k12 fun us hl => match us, hl with | [_, _], _ => rfl
  have D__law_free_pairs : Def K mg "_law_free_pairs" (top 22) ["_law_left", "_law_most"] := def_mk X G a13 l13 c13 k13 fun us hl => match us, hl with | [_, _], _ => rfl
  have D__law_pairs : Def K mg "_law_pairs" (top 23) ["_law_script", "_law_start", "_law_last"] := def_mk X G a14 l14 c14 k14 fun us hl => match us, hl with | [_, _, _], _ => rfl
  have D__law_counts : Def K mg "_law_counts" (top 24) ["_law_pairs_here", "_law_side"] := def_mk X G a15 l15 c15 k15 fun us hl => match us, hl with | [_, _], _ => rfl
  have D__law_too_full : Def K mg "_law_too_full" (top 25) ["_law_pairs_here", "_law_many"] := def_mk X G a16 l16 c16 k16 fun us hl => match us, hl with | [_, _], _ => rfl
  have D__law_refused : Def K mg "_law_refused" (top 26) ["_law_error", "_law_due"] := def_mk X G a17 l17 c17 k17 fun us hl => match us, hl with | [_, _], _ => rfl
  have D__law_apart : Def K mg "_law_apart" (top 27) ["_law_pairs_here", "_law_numbers", "_law_many"] := def_mk X G a18 l18 c18 k18 fun us hl => match us, hl with | [_, _, _], _ => rfl
  have F := fun_mk (st := top 28) l19 c19 k19
  refine ⟨PySem.W.fnOf "law" "law" (defArgs (top 28)) (defBody (top 28)) (defScope (top 28)) .none kV19 dc19 pm19 an19 cd19 ct19, fun s v => .of_eq rfl, fun base _ _ => ?_⟩
  have C_cell := ok_cell (P := l.prog) (w := w) (base := base) T D__law_cell_at
  have C_free := ok_free (P := l.prog) (w := w) (base := base) T (ok_digit T D__law_digit) D__law_free_pairs
  have C_side := ok_side (P := l.prog) (w := w) (base := base) T D_side_weights
  have C_counts := ok_counts (P := l.prog) (w := w) (base := base) T D__law_counts
  have C_whole := ok_wholeI (P := l.prog) (w := w) (base := base) T D__law_whole
  have C_take := ok_take (P := l.prog) (w := w) (base := base) T D_take
  have C_init := ok_init (P := l.prog) (w := w) (base := base) T Z D_TooFull___init__
  have C_part := ok_parted T Z (ok_refuse T Z C_side C_init D_refuse_full) (ok_left T D_first_left) (ok_chain T D_chain_along) (ok_exch T C_take (ok_leave T D_leave) D_exchange) C_take D_parted
  exact ok_law T Z (ok_pairs T C_cell (ok_mixed T D__law_mixed) C_free D__law_pairs) C_cell C_counts (ok_fullL T C_counts D__law_too_full) (ok_refusedL T Z C_whole D__law_refused) (ok_apart T C_whole D__law_apart) C_part F
end
theorem walk {l : PySem.W.OpenLaw} {q : Program} {loose : List Str} {XP : (Str → Option Value) → Heap → Prop} {YP : World → Heap → Prop} {d : DefRec} {K : Params → PySem.W.Frag} (hn : l.most = some 63) (hdf : d.params.defaults = [])
    (hY : ∀ (w : World) (h : Heap), YP w h → (K w.params).In h)
    (F : ∀ (w : World) (mg : Str → Option Value) (fa : Addr) (h : Heap), (K w.params).In h → h.Ns mainGlobals mg → mg d.name = some (.ref fa) →
      ∃ fd : FuncData, (∀ (s : Shared) (u : Value), BindsTo s fd ⟨[u], []⟩ [("_law_script", u)]) ∧ ∀ base : Heap, (K w.params).In base → base.Ns mainGlobals mg → FnOk l.prog w (K w.params) mg base CX0 5 fa fd ["_law_script"] (spLaw (K w.params))) :
    PySem.W.WalkO q loose XP YP l.row.toRowW d [] (fun f vs => PySem.call f vs) :=
  L2.walk_of (n := 63) (k := 5) (x := "_law_script") (CX := fun _ => CX0) (sp := fun w => spLaw (K w.params)) hn (by decide) hdf ⟨rfl, by decide, by decide⟩ hY F (fun _ _ a ns hl _ hS => ⟨a, ns, rfl, hS, hl, fun _ => rfl⟩) fun _ _ _ _ _ z => z
end My
open PySem PySem.W PyProof.Rows
set_option maxRecDepth 100000 in
set_option maxHeartbeats 0 in
theorem PySem.Challenge.cw_crossracks_k44_parted_holds : PySem.Challenge.rw_crossracks_k44_parted.Holds := by
  w_on; o_law; k_head; (case hw => w_witness2)
  k_fill
  refine My.walk (l := PySem.Challenge.rw_crossracks_k44_parted) rfl rfl (fun w h Y => PySem.W.kIn_of Y) ?F
  case F =>
    intro w mg fa h KX G hmg
    refine' My.all_mk KX G hmg ?a1 ?l1 ?c1 ?k1 ?a2 ?l2 ?c2 ?k2 ?a3 ?l3 ?c3 ?k3 ?a4 ?l4 ?c4 ?k4 ?a5 ?l5 ?c5 ?k5 ?a6 ?l6 ?c6 ?k6 ?a7 ?l7 ?c7 ?k7 ?a8 ?l8 ?c8 ?k8 ?a9 ?l9 ?c9 ?k9 ?a10 ?l10 ?c10 ?k10 ?a11 ?l11 ?c11 ?k11 ?a12 ?l12 ?c12 ?k12 ?a13 ?l13 ?c13 ?k13 ?a14 ?l14 ?c14 ?k14 ?a15 ?l15 ?c15 ?k15 ?a16 ?l16 ?c16 ?k16 ?a17 ?l17 ?c17 ?k17 ?a18 ?l18 ?c18 ?k18 ?a19 ?l19 ?c19 ?k19   ?q_HallError_at ?q_Engaged_at ?q_TooFull_at ?q_NoTable_at ?q_NoTurns_at ?q_Wide_at ?q_HallError_ic ?q_HallError_ty ?q_Engaged_ic ?q_Engaged_ty ?q_TooFull_ic ?q_TooFull_ty ?q_NoTable_ic ?q_NoTable_ty ?q_NoTurns_ic ?q_NoTurns_ty ?q_Wide_ic ?q_Wide_ty ?q_hb ?q_gt ?q_tk ?q_TooFull_sa ?q_TooFull_f_side ?q_TooFull_f_rack ?q_TooFull_f_many ?q_TooFull_ga ?q_TooFull_gn ?q_TooFull_cl ?q_TooFull_mo ?q_TooFull_mb ?q_TooFull_sv ?q_TooFull_s_HallError ?q_TooFull_s_Engaged ?q_TooFull_s_TooFull ?q_TooFull_s_NoTable ?q_TooFull_s_NoTurns ?q_TooFull_s_Wide ?q_TooFull___init___a ?q_TooFull___init___i ?q_TooFull___init___l ?q_TooFull___init___c ?q_TooFull___init___k ?q_TooFull_xi ?z_len ?z_isinstance ?z_int ?z_bool ?z_tuple ?z_list ?z_range ?z_abs ?z_min ?z_max ?z_sorted ?z_enumerate ?z_zip ?z_ValueError
    (case a1 => k_is); (case l1 => k_is); (case c1 => k_is); (case k1 => k_is)
    (case a2 => k_is); (case l2 => k_is); (case c2 => k_is); (case k2 => k_is)
    (case a3 => k_is); (case l3 => k_is); (case c3 => k_is); (case k3 => k_is)
    (case a4 => k_is); (case l4 => k_is); (case c4 => k_is); (case k4 => k_is)
    (case a5 => k_is); (case l5 => k_is); (case c5 => k_is); (case k5 => k_is)
    (case a6 => k_is); (case l6 => k_is); (case c6 => k_is); (case k6 => k_is)
    (case a7 => k_is); (case l7 => k_is); (case c7 => k_is); (case k7 => k_is)
    (case a8 => k_is); (case l8 => k_is); (case c8 => k_is); (case k8 => k_is)
    (case a9 => k_is); (case l9 => k_is); (case c9 => k_is); (case k9 => k_is)
    (case a10 => k_is); (case l10 => k_is); (case c10 => k_is); (case k10 => k_is)
    (case a11 => k_is); (case l11 => k_is); (case c11 => k_is); (case k11 => k_is)
    (case a12 => k_is); (case l12 => k_is); (case c12 => k_is); (case k12 => k_is)
    (case a13 => k_is); (case l13 => k_is); (case c13 => k_is); (case k13 => k_is)
    (case a14 => k_is); (case l14 => k_is); (case c14 => k_is); (case k14 => k_is)
    (case a15 => k_is); (case l15 => k_is); (case c15 => k_is); (case k15 => k_is)
    (case a16 => k_is); (case l16 => k_is); (case c16 => k_is); (case k16 => k_is)
    (case a17 => k_is); (case l17 => k_is); (case c17 => k_is); (case k17 => k_is)
    (case a18 => k_is); (case l18 => k_is); (case c18 => k_is); (case k18 => k_is)
    (case a19 => k_is); (case l19 => k_is); (case c19 => k_is); (case k19 => k_is)
    (case q_HallError_at => k_is)
    (case q_Engaged_at => k_is)
    (case q_TooFull_at => k_is)
    (case q_NoTable_at => k_is)
    (case q_NoTurns_at => k_is)
    (case q_Wide_at => k_is)
    (case q_HallError_ic => k_is)
    (case q_HallError_ty => k_is)
    (case q_Engaged_ic => k_is)
    (case q_Engaged_ty => k_is)
    (case q_TooFull_ic => k_is)
    (case q_TooFull_ty => k_is)
    (case q_NoTable_ic => k_is)
    (case q_NoTable_ty => k_is)
    (case q_NoTurns_ic => k_is)
    (case q_NoTurns_ty => k_is)
    (case q_Wide_ic => k_is)
    (case q_Wide_ty => k_is)
    (case q_hb => k_is)
    (case q_gt => k_is)
    (case q_tk => k_is)
    (case q_TooFull_sa => k_is)
    (case q_TooFull_f_side => k_is)
    (case q_TooFull_f_rack => k_is)
    (case q_TooFull_f_many => k_is)
    (case q_TooFull_ga => k_is)
    (case q_TooFull_gn => k_is)
    (case q_TooFull_cl => k_is)
    (case q_TooFull_mo => k_is)
    (case q_TooFull_mb => k_is)
    (case q_TooFull_sv => k_is)
    (case q_TooFull_s_HallError => k_is)
    (case q_TooFull_s_Engaged => k_is)
    (case q_TooFull_s_TooFull => k_is)
    (case q_TooFull_s_NoTable => k_is)
    (case q_TooFull_s_NoTurns => k_is)
    (case q_TooFull_s_Wide => k_is)
    (case q_TooFull___init___a => k_is)
    (case q_TooFull___init___i => k_is)
    (case q_TooFull___init___l => k_is)
    (case q_TooFull___init___c => k_is)
    (case q_TooFull___init___k => k_is)
    (case q_TooFull_xi => kernel_rfl)
    (case z_len => k_is)
    (case z_isinstance => k_is)
    (case z_int => k_is)
    (case z_bool => k_is)
    (case z_tuple => k_is)
    (case z_list => k_is)
    (case z_range => k_is)
    (case z_abs => k_is)
    (case z_min => k_is)
    (case z_max => k_is)
    (case z_sorted => k_is)
    (case z_enumerate => k_is)
    (case z_zip => k_is)
    (case z_ValueError => k_is)
