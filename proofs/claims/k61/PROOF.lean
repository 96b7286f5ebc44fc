import PyProof.Rows.All
import Wide.All
import OpenK.AllK
import Wide.FinOn
import Lean
import PyProof.EqAt
import PyProof.EqKinds
import PyProof.TupleCall
import PySem.SetOps
import PyProof.SetKind
import PyProof.CollectWalk
import PyProof.FactsAll.set
import PyProof.ForAny
import PyProof.Rows.SortWalk
import PyProof.Rows.SetFrom
import KE.KSortAsk
import KE.KSortTup
import KE.KDictList
import KE.KMinBuiltin
import PyProof.EnumMake
import PyProof.NsDelKeeps
import PyProof.ExcInit
import PyProof.ExcClass2
import PyProof.MeetsStr
import PyProof.MeetsStr2
import PyProof.StrLawsIn
import PyProof.StrLawsOcc
import PyProof.StrLawsOccR
import PyProof.CallStr
import PyProof.SliceStr2
import KE.KIntText
import KE.IntTextLaws
import PyProof.FString4
import PyProof.StrLawsRepr
import PyProof.StrWalks
import PyProof.FString
import PyProof.TupleKey
import PyProof.IsRules
import KE.KRevIter
import PyProof.WalksMore
import PyProof.AttrMissHeap
import KE.KDictOf
import PyProof.Rows.MinMaxN
import PySem.Challenge.RW_crossracks_k61_books
set_option Elab.async false
set_option linter.all false
set_option maxRecDepth 100000
namespace L2
open PySem PySem.Spec PyProof.Rows
abbrev Key := Sum Int Str
def keyIs : Key → Value → Bool
  | .inl k, v => Value.isInt k v
  | .inr x, v => Value.isStrOf x v
def keyH (w : World) : Key → Int
  | .inl k => hashInt k
  | .inr x => hashStr w x
theorem keyIs_shape : ∀ {k : Key} {v : Value}, keyIs k v = true → (∃ i t, k = Sum.inl i ∧ v = Value.int i t) ∨ (∃ x t, k = Sum.inr x ∧ v = Value.str x t)
  | .inl i, v, h => by
    obtain ⟨t, e⟩ := Value.isInt_shape (k := i) (v := v) h
    exact .inl ⟨i, t, rfl, e⟩
  | .inr x, v, h => by
    obtain ⟨t, e⟩ := Value.isStrOf_shape (x := x) (v := v) h
    exact .inr ⟨x, t, rfl, e⟩
theorem key_ll (a b : Int) : decide ((Sum.inl a : Key) = Sum.inl b) = (a == b) := by
  by_cases e : a = b
  · subst e; simp
  · have h : ¬ (Sum.inl a : Key) = Sum.inl b := fun q => e (Sum.inl.inj q)
    rw [decide_eq_false h]
    exact (beq_eq_false_iff_ne.mpr e).symm
theorem key_rr (a b : Str) : decide ((Sum.inr a : Key) = Sum.inr b) = decide (a = b) := by
  by_cases e : a = b
  · subst e; simp
  · have h : ¬ (Sum.inr a : Key) = Sum.inr b := fun q => e (Sum.inr.inj q)
    rw [decide_eq_false h, decide_eq_false e]
theorem key_lr (a : Int) (b : Str) : decide ((Sum.inl a : Key) = Sum.inr b) = false := decide_eq_false (fun q => nomatch q)
theorem key_rl (a : Str) (b : Int) : decide ((Sum.inr a : Key) = Sum.inl b) = false := decide_eq_false (fun q => nomatch q)
def mixKind (prog : Program) (w : World) : PySem.KeyKind prog w Key where
  is := keyIs
  hash := keyH w
  inj := fun v a b ha hb => by
    rcases keyIs_shape ha with ⟨i, t, rfl, rfl⟩ | ⟨x, t, rfl, rfl⟩
    · rcases keyIs_shape hb with ⟨j, u, rfl, e⟩ | ⟨y, u, rfl, e⟩
      · injection e with e1 _; rw [e1]
      · exact nomatch e
    · rcases keyIs_shape hb with ⟨j, u, rfl, e⟩ | ⟨y, u, rfl, e⟩
      · exact nomatch e
      · injection e with e1 _; rw [e1]
  byValue := fun k v h => by
    rcases keyIs_shape h with ⟨i, t, rfl, rfl⟩ | ⟨x, t, rfl, rfl⟩ <;> rfl
  pyHash := fun hv h => by
    rcases keyIs_shape hv with ⟨i, t, rfl, rfl⟩ | ⟨x, t, rfl, rfl⟩
    · exact wpAny_pyHash_int h
    · exact wpAny_pyHash_str h
  eqBool := fun hu hv h => by
    rcases keyIs_shape hu with ⟨i, t, rfl, rfl⟩ | ⟨x, t, rfl, rfl⟩
    · rcases keyIs_shape hv with ⟨j, u, rfl, rfl⟩ | ⟨y, u, rfl, rfl⟩
      · rw [key_ll] at h; exact wpAny_eqBool_int h
      · rw [key_lr] at h; exact SeqAt.EqAt.int_str i t y u _ _ _ _ h
    · rcases keyIs_shape hv with ⟨j, u, rfl, rfl⟩ | ⟨y, u, rfl, rfl⟩
      · rw [key_rl] at h; exact SeqAt.EqAt.str_int x t j u _ _ _ _ h
      · rw [key_rr] at h; exact wpAny_eqBool_str h
  «strs» := fun k x t v h => by
    rcases keyIs_shape h with ⟨i, u, rfl, e⟩ | ⟨y, u, rfl, e⟩
    · exact nomatch e
    · injection e with e1 _
      subst e1
      cases v <;> rfl
end L2
namespace L2
open PySem PySem.Spec PyProof.Rows
inductive V where
  | non | bl (b : Bool) | int (i : Int) | str (x : Str) | byt (b : Array UInt8) | flt (b : UInt64) | ref (a : Addr) | ty (n : String)
  deriving DecidableEq
def RelV : V → Value → Prop
  | .non, u => u = Value.none
  | .bl b, u => u = Value.bool b
  | .int i, u => ∃ t, u = Value.int i t
  | .str x, u => ∃ t, u = Value.str x t
  | .byt b, u => ∃ t, u = Value.bytes b t
  | .flt b, u => ∃ t, u = Value.float b t
  | .ref a, u => u = Value.ref a
  | .ty n, u => u = Value.type n
abbrev Vals : List V → List Value → Prop := Paired RelV
theorem Vals.length {xs : List V} {us : List Value} (r : Vals xs us) : xs.length = us.length := Paired.length r
theorem Vals.get : ∀ {xs : List V} {us : List Value} {i : Nat} {x : V}, Vals xs us → xs[i]? = some x → ∃ u, us[i]? = some u ∧ RelV x u
  | _, _, _, _, .nil, e => by simp at e
  | _, _, 0, _, .cons r _, e => by simp at e; subst e; exact ⟨_, rfl, r⟩
  | _, _, i + 1, x, .cons _ t, e => by
    obtain ⟨u, h1, h2⟩ := Vals.get (i := i) (x := x) t (by simpa using e)
    exact ⟨u, by simpa using h1, h2⟩
theorem Vals.append : ∀ {xs ys : List V} {us ws : List Value}, Vals xs us → Vals ys ws → Vals (xs ++ ys) (us ++ ws)
  | _, _, _, _, .nil, s => s
  | _, _, _, _, .cons r t, s => .cons r (Vals.append t s)
theorem Vals.take : ∀ {xs : List V} {us : List Value} (n : Nat), Vals xs us → Vals (xs.take n) (us.take n)
  | _, _, 0, _ => .nil
  | _, _, _ + 1, .nil => .nil
  | _, _, n + 1, .cons r t => .cons r (Vals.take n t)
theorem Vals.drop : ∀ {xs : List V} {us : List Value} (n : Nat), Vals xs us → Vals (xs.drop n) (us.drop n)
  | _, _, 0, r => r
  | _, _, _ + 1, .nil => .nil
  | _, _, n + 1, .cons _ t => Vals.drop n t
def RelO : Option V → Option Value → Prop
  | some v, some u => RelV v u
  | none, none => True
  | _, _ => False
def KV {κ : Type} : List (κ × V) → List (κ × Value) → Prop := Paired fun (p : κ × V) (q : κ × Value) => p.1 = q.1 ∧ RelV p.2 q.2
def kV : Key → V
  | .inl i => .int i
  | .inr x => .str x
inductive HO where
  /-- a list -/
  | lst (xs : List V)
  /-- a tuple (never changes) -/
  | tup (xs : List V)
  /-- a dict whose keys are ints and texts; one whose keys are tuples of ints and texts (the empty one is both) -/
  | dK (kvs : List (Key × V)) | dT (kvs : List (List Key × V))
  /-- a set of ints: its members, its size -/
  | set (S : Int → Bool) (n : Nat)
  /-- an instance of the class at C, its dict at dx, its attributes -/
  | ins (C dx : Addr) (fs : List (Str × V))
  /-- the dict of the instance at x -/
  | own (x : Addr)
  /-- the dict of an exception -/
  | xd (fs : List (Str × V))
  /-- a bound method, f of x -/
  | met (f x : Addr)
  /-- a range object lo, lo + 1, .. below hi -/
  | rng (lo hi : Int)
  /-- a thing that is known to the object (the script; a dict while a loop walks it): read, never written while it is so -/
  | frz (o : Obj) (u : HO)
  /-- a code object's table -/
  | tbl (ps : Array Value)
  /-- any other thing, by what is true of its one object (a def of one's own: SetO a S n := HO.ext fun h => ..) -/
  | ext (φ : Heap → Prop)
abbrev Hp := Addr → Option HO
def upd (H : Hp) (a : Addr) (o : HO) : Hp := fun b => if b = a then some o else H b
theorem upd_same {H : Hp} {a : Addr} {o : HO} : upd H a o a = some o := by unfold upd; rw [if_pos rfl]
theorem upd_ne {H : Hp} {a b : Addr} {o : HO} (h : b ≠ a) : upd H a o b = H b := by unfold upd; rw [if_neg h]
theorem ne_of_none {H : Hp} {a b : Addr} {o : HO} (h : H a = some o) (h' : H b = none) : a ≠ b := by
  intro e; subst e; rw [h] at h'; cases h'
section
variable (P : Program) (w : World)
def ObjOk (H : Hp) (h : Heap) (a : Addr) : HO → Prop
  | .lst xs => xs.length ≤ sizeLine ∧ ∃ (its : List Value) (n : Nat), Vals xs its ∧ h.get? a = some { cls := .type "list", data := .seq its.toArray n }
  | .tup xs => xs.length ≤ sizeLine ∧ ∃ its : List Value, Vals xs its ∧ IsTup h a its.toArray
  | .dK kvs => kvs.length ≤ sizeLine ∧ (a == sysModules) = false ∧ ∃ vs, KV kvs vs ∧ h.DictOf (mixKind P w) a vs
  | .dT kvs => kvs.length ≤ sizeLine ∧ (a == sysModules) = false ∧ ∃ xs : List (List Key × Addr × Value),
      Paired (fun (p : List Key × V) (q : List Key × Addr × Value) => p.1 = q.1 ∧ H q.2.1 = some (.tup (p.1.map kV)) ∧ RelV p.2 q.2.2) kvs xs ∧
      ∃ o es ep, h.get? a = some o ∧ o.ExactDict ∧ o.data = .dict es ep ∧ es.toList = xs.map (entryOfKey (tupleKind (mixKind P w))) ∧ (xs.map (·.1)).Nodup
  | .set S n => h.SetOf (intKind P w) a S n
  | .ins C dx fs => H dx = some (.own a) ∧ fs.length ≤ 1000 ∧ dx ≠ a ∧ h.get? a = some (PySem.W.instObj C dx) ∧
      ∃ mA, h.Ns1 dx mA ∧ (∀ f, RelO (fs.lookup f) (mA f)) ∧ PySem.Within mA (fs.map (·.1))
  | .own _ => ∃ o, h.get? a = some o
  | .xd fs => ∃ mA, h.Ns1 a mA ∧ ∀ f, RelO (fs.lookup f) (mA f)
  | .rng lo hi => ∃ t u v, h.get? a = some { cls := .type "range", data := .fields #[.int lo t, .int hi u, .int 1 v] }
  | .frz o u => h.get? a = some o ∧ ObjOk H h a u
  | .tbl ps => h.get? a = some { cls := .none, data := .fields ps }
  | .met f x => h.get? a = some (PySem.W.methodObj (.ref f) (.ref x))
  | .ext φ => φ h ∧ (∃ o, h.get? a = some o) ∧ ∀ h1 h2 : Heap, φ h1 → (∀ o, h1.get? a = some o → h2.get? a = some o) → φ h2
def HOk (H : Hp) (h : Heap) : Prop := ∀ a o, H a = some o → ObjOk P w H h a o
end
section
variable {P : Program} {w : World} {H H' : Hp} {h h' : Heap} {a : Addr} {o : HO}
theorem ObjOk.lt (x : ObjOk P w H h a o) : a < h.objs.size := by
  cases o with
  | lst xs => obtain ⟨_, _, _, _, e⟩ := x; exact Heap.lt_size e
  | tup xs => obtain ⟨_, _, _, p⟩ := x; exact p.lt
  | dK kvs => obtain ⟨_, _, _, _, o, _, _, e, _⟩ := x; exact Heap.lt_size e
  | dT kvs => obtain ⟨_, _, _, _, o, _, _, e, _⟩ := x; exact Heap.lt_size e
  | set S n => obtain ⟨o, _, _, _, e, _⟩ := x; exact Heap.lt_size e
  | ins C dx fs => obtain ⟨_, _, _, e, _⟩ := x; exact Heap.lt_size e
  | own y => obtain ⟨_, e⟩ := x; exact Heap.lt_size e
  | xd fs => obtain ⟨_, ⟨_, _, _, e, _⟩, _⟩ := x; exact Heap.lt_size e
  | rng lo hi => obtain ⟨_, _, _, e⟩ := x; exact Heap.lt_size e
  | frz ob u => obtain ⟨e, _⟩ := x; exact Heap.lt_size e
  | tbl ps => exact Heap.lt_size (show h.get? a = some _ from x)
  | met f y => exact Heap.lt_size (show h.get? a = some _ from x)
  | ext φ => obtain ⟨_, ⟨_, e⟩, _⟩ := x; exact Heap.lt_size e
theorem Paired.mapP {α β : Type} {F G : α → β → Prop} : ∀ {l₁ : List α} {l₂ : List β}, Paired F l₁ l₂ → (∀ a b, F a b → G a b) → Paired G l₁ l₂
  | _, _, .nil, _ => .nil
  | _, _, .cons r t, f => .cons (f _ _ r) (Paired.mapP t f)
theorem ObjOk.stay (x : ObjOk P w H h a o) (k : ∀ b u, (b = a ∨ H b = some (.own a)) → h.get? b = some u → h'.get? b = some u)
    (ho : ∀ b, H b = some (.own a) → H' b = some (.own a)) (ht : ∀ b xs, H b = some (.tup xs) → H' b = some (.tup xs)) : ObjOk P w H' h' a o := by
  induction o with
  | lst xs => obtain ⟨z, its, n, r, e⟩ := x; exact ⟨z, its, n, r, k _ _ (.inl rfl) e⟩
  | tup xs => obtain ⟨z, its, r, ob, e, c⟩ := x; exact ⟨z, its, r, ob, k _ _ (.inl rfl) e, c⟩
  | dK kvs => obtain ⟨z, y, vs, r, ob, es, ep, e, c⟩ := x; exact ⟨z, y, vs, r, ob, es, ep, k _ _ (.inl rfl) e, c⟩
  | dT kvs =>
    obtain ⟨z, y, xs, r, ob, es, ep, e, c⟩ := x
    exact ⟨z, y, xs, Paired.mapP r fun p q z => ⟨z.1, ht _ _ z.2.1, z.2.2⟩, ob, es, ep, k _ _ (.inl rfl) e, c⟩
  | set S n => obtain ⟨ob, es, ep, t, e, c⟩ := x; exact ⟨ob, es, ep, t, k _ _ (.inl rfl) e, c⟩
  | ins C dx fs =>
    obtain ⟨d, z, ne, e, mA, ⟨od, es, ep, e2, c⟩, r⟩ := x
    exact ⟨ho _ d, z, ne, k _ _ (.inl rfl) e, mA, ⟨od, es, ep, k _ _ (.inr d) e2, c⟩, r⟩
  | own y => obtain ⟨ob, e⟩ := x; exact ⟨ob, k _ _ (.inl rfl) e⟩
  | xd fs => obtain ⟨mA, ⟨od, es, ep, e, c⟩, r⟩ := x; exact ⟨mA, ⟨od, es, ep, k _ _ (.inl rfl) e, c⟩, r⟩
  | rng lo hi => obtain ⟨t, u, v, e⟩ := x; exact ⟨t, u, v, k _ _ (.inl rfl) e⟩
  | frz ob u ih => obtain ⟨e, q⟩ := x; exact ⟨k _ _ (.inl rfl) e, ih q⟩
  | tbl ps =>
    have e : h.get? a = some { cls := .none, data := .fields ps } := x
    show h'.get? a = some { cls := .none, data := .fields ps }
    exact k a _ (.inl rfl) e
  | met f y =>
    have e : h.get? a = some (PySem.W.methodObj (.ref f) (.ref y)) := x
    show h'.get? a = some (PySem.W.methodObj (.ref f) (.ref y))
    exact k a _ (.inl rfl) e
  | ext φ => obtain ⟨p, ⟨o, e⟩, st⟩ := x; exact ⟨st _ _ p fun o q => k _ _ (.inl rfl) q, ⟨o, k _ _ (.inl rfl) e⟩, st⟩
theorem HOk.lt (x : HOk P w H h) (e : H a = some o) : a < h.objs.size := (x a o e).lt
theorem HOk.fresh (x : HOk P w H h) (e : h.objs.size ≤ a) : H a = none := by
  cases q : H a with
  | none => rfl
  | some u => exact absurd (Nat.lt_of_lt_of_le (x.lt q) e) (Nat.lt_irrefl _)
theorem HOk.kept (x : HOk P w H h) (k : ∀ b u, h.get? b = some u → h'.get? b = some u) : HOk P w H h' := fun a o e =>
  (x a o e).stay (fun b u _ q => k b u q) (fun _ q => q) fun _ _ q => q
theorem HOk.laid (x : HOk P w H h) (k : ∀ b u, h.get? b = some u → h'.get? b = some u) (hp : h.objs.size ≤ a) (new : ObjOk P w (upd H a o) h' a o) : HOk P w (upd H a o) h' := fun b u e => by
  have hn := x.fresh hp
  by_cases hb : b = a
  · subst hb; rw [upd_same] at e; cases e; exact new
  · rw [upd_ne hb] at e
    exact (x b u e).stay (fun c v _ q => k c v q) (fun c q => by rw [upd_ne (ne_of_none q hn)]; exact q) fun c xs q => by rw [upd_ne (ne_of_none q hn)]; exact q
end
def Rd (H : Hp) (a : Addr) (u : HO) : Prop := H a = some u ∨ ∃ o, H a = some (.frz o u)
theorem Rd.ok {P : Program} {w : World} {H : Hp} {h : Heap} {a : Addr} {u : HO} (r : Rd H a u) (x : HOk P w H h) : ObjOk P w H h a u := by
  rcases r with r | ⟨o, r⟩
  · exact x a u r
  · obtain ⟨_, q⟩ := x a _ r
    exact q
def Mut : Option HO → Prop
  | some (.lst _) => True
  | some (.dK _) => True
  | some (.dT _) => True
  | some (.set _ _) => True
  | some (.ins _ _ _) => True
  | some (.ext _) => True
  | _ => False
section
variable {P : Program} {w : World} {H : Hp} {h h' : Heap} {x e : Addr} {o' : HO}
theorem HOk.write (ok : HOk P w H h) (mu : Mut (H x)) (he : e = x ∨ H e = some (.own x)) (k : ∀ b u, b ≠ e → h.get? b = some u → h'.get? b = some u) (heo : ∃ u, h'.get? e = some u)
    (new : ObjOk P w (upd H x o') h' x o') : HOk P w (upd H x o') h' := fun b u q => by
  have nown : ∀ c y, H c = some (.own y) → c ≠ x := fun c y r z => by subst z; rw [r] at mu; exact mu
  have ntup : ∀ c xs, H c = some (.tup xs) → c ≠ x := fun c xs r z => by subst z; rw [r] at mu; exact mu
  by_cases hb : b = x
  · subst hb; rw [upd_same] at q; cases q; exact new
  · rw [upd_ne hb] at q
    by_cases hbe : b = e
    · have q' : H b = some (.own x) := by
        rcases he with z | z
        · exact absurd (hbe.trans z) hb
        · rw [hbe]; exact z
      rw [q] at q'; cases q'
      obtain ⟨v, hv⟩ := heo
      exact ⟨v, by rw [hbe]; exact hv⟩
    · refine (ok b u q).stay (fun c v hc r => k c v ?_ r) (fun c r => by rw [upd_ne (nown c b r)]; exact r) fun c xs r => by rw [upd_ne (ntup c xs r)]; exact r
      rcases hc with rfl | hc
      · exact hbe
      · rintro rfl
        rcases he with z | z
        · exact nown c b hc z
        · rw [hc] at z; cases z; exact hb rfl
end
structure Un (fs ex : List Addr) (H H' : Hp) (h h' : Heap) : Prop where
  keep : ∀ b o, h.get? b = some o → H b = none → b ∉ fs → b ∉ ex → h'.get? b = some o
  slot : ∀ b o, h.get? b = some o → H b = none → b ∈ fs → b ∉ ex → ∃ sl, h'.get? b = some { o with slots := sl }
  free : ∀ b o, h.get? b = some o → H b = none → b ∉ ex → H' b = none
  there : ∀ b o, h.get? b = some o → b ∉ ex → ∃ o', h'.get? b = some o'
  tups : ∀ b xs, H b = some (.tup xs) → H' b = some (.tup xs)
  frzs : ∀ b o u, H b = some (.frz o u) → H' b = some (.frz o u)
  tbls : ∀ b ps, H b = some (.tbl ps) → ∃ more, H' b = some (.tbl (ps ++ more))
section
variable {fs fs' ex ex' : List Addr} {H H1 H2 : Hp} {h h1 h2 h' : Heap} {a x e : Addr} {o : HO}
theorem Un.any (u : Un fs ex H H1 h h1) {b : Addr} {ob : Obj} (q : h.get? b = some ob) (n : H b = none) (hx : b ∉ ex) : ∃ sl, h1.get? b = some { ob with slots := sl } := by
  by_cases hb : b ∈ fs
  · exact u.slot b ob q n hb hx
  · exact ⟨ob.slots, u.keep b ob q n hb hx⟩
theorem Un.kept (k : ∀ b u, h.get? b = some u → h'.get? b = some u) : Un fs ex H H h h' :=
  ⟨fun b ob q _ _ _ => k b ob q, fun b ob q _ _ _ => ⟨ob.slots, k b ob q⟩, fun _ _ _ n _ => n, fun b ob q _ => ⟨ob, k b ob q⟩, fun _ _ q => q, fun _ _ _ q => q, fun _ ps q => ⟨#[], by rw [q]; simp⟩⟩
theorem Un.refl : Un fs ex H H h h := Un.kept fun _ _ q => q
theorem Un.laid (k : ∀ b u, h.get? b = some u → h'.get? b = some u) (hp : h.objs.size ≤ a) (hn : H a = none) : Un fs ex H (upd H a o) h h' where
  keep := fun b u q _ _ _ => k b u q
  slot := fun b u q _ _ _ => ⟨u.slots, k b u q⟩
  free := fun b u q n _ => by rw [upd_ne (Nat.ne_of_lt (Nat.lt_of_lt_of_le (Heap.lt_size q) hp))]; exact n
  there := fun b u q _ => ⟨u, k b u q⟩
  tups := fun b xs q => by rw [upd_ne (ne_of_none q hn)]; exact q
  frzs := fun b u xs q => by rw [upd_ne (ne_of_none q hn)]; exact q
  tbls := fun b ps q => ⟨#[], by rw [upd_ne (ne_of_none q hn), q]; simp⟩
theorem Un.write (mu : Mut (H x)) (he : e = x ∨ H e = some (.own x)) (k : ∀ b u, b ≠ e → h.get? b = some u → h'.get? b = some u) (heo : ∃ u, h'.get? e = some u) : Un fs ex H (upd H x o) h h' := by
  have hx : ∀ b, H b = none → b ≠ x := fun b n z => by subst z; rw [n] at mu; exact mu
  have hb : ∀ b, H b = none → b ≠ e := fun b n z => by
    subst z
    rcases he with r | r
    · exact hx b n r
    · rw [n] at r; cases r
  have hm : ∀ b u, H b = some u → ¬ Mut (some u) → b ≠ x := fun b u q nm z => by subst z; rw [q] at mu; exact nm mu
  refine ⟨fun b u q n _ _ => k b u (hb b n) q, fun b u q n _ _ => ⟨u.slots, k b u (hb b n) q⟩, fun b u q n _ => by rw [upd_ne (hx b n)]; exact n, fun b u q _ => ?_,
    fun b xs q => by rw [upd_ne (hm b _ q fun z => z)]; exact q, fun b u xs q => by rw [upd_ne (hm b _ q fun z => z)]; exact q, fun b ps q => ⟨#[], by rw [upd_ne (hm b _ q fun z => z), q]; simp⟩⟩
  by_cases hbe : b = e
  · subst hbe; exact heo
  · exact ⟨u, k b u hbe q⟩
end
def trk (h : Heap) (H : Hp) : List Addr := (List.range h.objs.size).filter fun a => (H a).isSome
def hidT (h : Heap) (H : Hp) : Heap := PySem.W.hideAll h (trk h H)
theorem hidT_size (h : Heap) (H : Hp) : (hidT h H).objs.size = h.objs.size := PySem.W.hideAll_size _ _
theorem hidT_get {h : Heap} {H : Hp} {b : Addr} {o : Obj} (e : h.get? b = some o) (n : H b = none) : (hidT h H).get? b = some o :=
  PySem.W.hideAll_get _ e fun hm => by
    have q : (H b).isSome = true := (List.mem_filter.mp hm).2
    rw [n] at q; simp at q
theorem of_hidT {h : Heap} {H : Hp} {b : Addr} {o : Obj} (e : (hidT h H).get? b = some o) : h.get? b = some o ∧ H b = none := by
  have e' : h.get? b = some o := PySem.W.of_hideAll (trk h H) e
  refine ⟨e', ?_⟩
  cases q : H b with
  | none => rfl
  | some x =>
    have hm : b ∈ trk h H := List.mem_filter.mpr ⟨List.mem_range.mpr (Heap.lt_size e'), by simp [q]⟩
    have z : (hidT h H).get? b = none := PySem.W.hideAll_none (trk h H) hm
    rw [z] at e; cases e
end L2
namespace L2
open PySem PySem.Spec PyProof.Rows
structure Mod (K : PySem.W.Frag) (mg : Str → Option Value) (base : Heap) : Prop where
  kin : K.In base
  glob : base.Ns mainGlobals mg
  blt : ∃ mb, base.Ns builtinsNs mb ∧ ∀ x : Str, x ≠ "__name__" → mb x = bootBuiltins x
  nolimit : base.NoLimit
structure Cx where
  prog : Program
  w : World
  K : PySem.W.Frag
  mg : Str → Option Value
  base : Heap
  A : Around
  N : List Str
  s₀ : Shared
  H₀ : Hp
  env : Env
  outer : List Env
  stack : List Env
  ex : List Addr
  fn : Str → Bool
  calm : Bool
  pn : List (Addr × Obj)
  xe : Value → Shared → Prop
def frs (l : List Env) : List Addr := l.filterMap (·.frame)
abbrev Cx.fs (X : Cx) : List Addr := frs X.outer
def Vis (sc : Scope) (x : Str) : Prop := sc.names.lookup x = some .local ∨ sc.names.lookup x = some .cell ∨ sc.names.lookup x = some .free
def Loc (sc : Scope) (x : Str) : Prop := sc.names.lookup x = some .local ∨ sc.names.lookup x = some .cell
def Look (env : Env) (h : Heap) (m : Str → Option Value) (x : Str) (u : Value) : Prop :=
  (env.kindOf x = some .local ∧ m x = some u) ∨ ((env.kindOf x = some .cell ∨ env.kindOf x = some .free) ∧ ∃ c, env.cells.lookup x = some c ∧ h.IsCell c (some u))
structure Cx.Ok (X : Cx) : Prop where
  mod : Mod X.K X.mg X.base
  kind : X.env.scope.kind = .function
  glob : X.env.globals = mainGlobals
  blt : X.env.builtins = builtinsNs
  above : X.s₀.heap.objs.size ≤ X.env.locals
  inj : ∀ x y c, X.env.cells.lookup x = some c → X.env.cells.lookup y = some c → x = y
  has : ∀ x, (X.env.kindOf x = some .cell ∨ X.env.kindOf x = some .free) → ∃ c, X.env.cells.lookup x = some c
  cab : ∀ x c, X.fn x = true → X.env.cells.lookup x = some c → X.s₀.heap.objs.size ≤ c
  hd : X.calm = true → X.A.handled = none
  frames : X.A.frames = some X.stack
  stk : X.stack = X.outer ∨ (X.stack = X.env :: X.outer ∧ X.env.frame = some X.env.locals)
  exf : ∀ b ∈ X.ex, b ≠ X.env.locals ∧ ∀ x c, X.env.cells.lookup x = some c → c ≠ b
  bs : ∀ b o, X.base.get? b = some o → X.s₀.heap.get? b = some o ∧ X.H₀ b = none
  bsz : X.base.objs.size ≤ X.s₀.heap.objs.size
  noex : ∀ b o, X.base.get? b = some o → b ∉ X.ex
  exfs : ∀ b ∈ X.ex, b ∉ X.fs
  funs : X.s₀.heap.FunFrames X.base X.outer
  frf : ∀ b ∈ X.fs, X.H₀ b = none
structure Inv (X : Cx) (pins : List (Addr × Obj)) (σ : List (Option V)) (H : Hp) (s : Shared) : Prop where
  ok : X.Ok
  os : s.os = X.s₀.os
  bare : AllBare s.gens
  base : Un X.fs X.ex X.H₀ H X.s₀.heap s.heap
  loc : ∃ m, s.heap.Ns X.env.locals m ∧ ∀ (i : Nat) (x : Str) (v : V), X.N[i]? = some x → σ[i]? = some (some v) → Vis X.env.scope x → ∃ u, RelV v u ∧ Look X.env s.heap m x u
  cell : ∀ x c, X.env.cells.lookup x = some c → ∃ v, s.heap.IsCell c v
  free : H X.env.locals = none
  freeC : ∀ x c, X.env.cells.lookup x = some c → H c = none
  pin : ∀ p ∈ X.pn ++ pins, s.heap.get? p.1 = some p.2 ∧ H p.1 = none ∧ p.1 ≠ X.env.locals ∧ p.1 ∉ X.fs ∧ ∀ v, p.2.data ≠ .cell v
  hok : HOk X.prog X.w H s.heap
  len : σ.length = X.N.length
section
variable {X : Cx} {pins : List (Addr × Obj)} {σ : List (Option V)} {H H' : Hp} {s : Shared} {h' : Heap}
theorem Cx.Ok.nofr (ok : X.Ok) {b : Addr} {o : Obj} (e : X.base.get? b = some o) : b ∉ X.fs := fun hb => by
  have := (ok.funs.mem hb).1
  rw [e] at this; cases this
theorem Inv.bs (I : Inv X pins σ H s) : ∀ b o, X.base.get? b = some o → s.heap.get? b = some o ∧ H b = none := fun b o e =>
  ⟨I.base.keep b o (I.ok.bs b o e).1 (I.ok.bs b o e).2 (I.ok.nofr e) (I.ok.noex b o e), I.base.free b o (I.ok.bs b o e).1 (I.ok.bs b o e).2 (I.ok.noex b o e)⟩
theorem Inv.bk (I : Inv X pins σ H s) : ∀ b o, X.base.get? b = some o → s.heap.get? b = some o := fun b o e => (I.bs b o e).1
theorem Inv.mod (I : Inv X pins σ H s) : Mod X.K X.mg X.base := I.ok.mod
theorem Inv.kIn (I : Inv X pins σ H s) : X.K.In s.heap := I.ok.mod.kin.keeps I.bk
theorem Inv.lt (I : Inv X pins σ H s) : X.env.locals < s.heap.objs.size := let ⟨_, hn, _⟩ := I.loc; hn.lt
theorem Inv.sz (I : Inv X pins σ H s) : X.s₀.heap.objs.size ≤ s.heap.objs.size := Nat.le_trans I.ok.above (Nat.le_of_lt I.lt)
theorem Inv.nofs (I : Inv X pins σ H s) {a : Addr} (h : s.heap.objs.size ≤ a) : a ∉ X.fs := fun hb => by
  obtain ⟨_, o, ho, _⟩ := I.ok.funs.mem hb
  exact absurd (Nat.lt_of_lt_of_le (Heap.lt_size ho) (Nat.le_trans I.sz h)) (Nat.lt_irrefl _)
theorem Inv.cne (I : Inv X pins σ H s) : ∀ x c, X.env.cells.lookup x = some c → c ≠ X.env.locals := fun x c e z => by
  obtain ⟨v, o, ho, hd⟩ := I.cell x c e
  obtain ⟨m, ⟨o', es, ep, ho', hd', _⟩, _⟩ := I.loc
  rw [z, ho'] at ho; cases ho; rw [hd'] at hd; cases hd
theorem Inv.funs (I : Inv X pins σ H s) : s.heap.FunFrames X.base X.outer := by
  have all : ∀ (l : List Env), (∀ b ∈ frs l, b ∈ X.fs) → X.s₀.heap.FunFrames X.base l → s.heap.FunFrames X.base l := by
    intro l
    induction l with
    | nil => intro _ _; trivial
    | cons env r ih =>
      intro hs hl
      obtain ⟨hk, ⟨L, o, hf, hn, ho, hd⟩, hr⟩ := hl
      have hL : L ∈ X.fs := hs L (by unfold frs; rw [List.filterMap_cons, hf]; exact List.mem_cons_self)
      obtain ⟨sl, e⟩ := I.base.slot L o ho (I.ok.frf L hL) hL fun z => I.ok.exfs L z hL
      exact ⟨hk, ⟨L, _, hf, hn, e, hd⟩, ih (fun b hb => hs b (by unfold frs; rw [List.filterMap_cons, hf]; exact List.mem_cons_of_mem _ hb)) hr⟩
  exact all X.outer (fun _ hb => hb) I.ok.funs
theorem Inv.stack (I : Inv X pins σ H s) : s.heap.FunFrames X.base X.stack := by
  rcases I.ok.stk with e | ⟨e, hf⟩
  · rw [e]; exact I.funs
  · rw [e]
    obtain ⟨m, hn, _⟩ := I.loc
    refine .cons (by rw [I.ok.kind]; decide) hf hn ?_ I.funs
    exact Heap.get?_none_of_le (Nat.le_trans I.ok.bsz I.ok.above)
theorem Inv.stkSub (I : Inv X pins σ H s) : ∀ b ∈ frs X.stack, b ∈ X.env.locals :: X.fs := fun b hb => by
  rcases I.ok.stk with e | ⟨e, hf⟩
  · rw [e] at hb; exact List.mem_cons_of_mem _ hb
  · rw [e] at hb
    unfold frs at hb
    rw [List.filterMap_cons, hf] at hb
    exact hb
theorem Inv.stkFree (I : Inv X pins σ H s) : ∀ b ∈ frs X.stack, H b = none := fun b hb => by
  rcases List.mem_cons.mp (I.stkSub b hb) with e | hb
  · rw [e]; exact I.free
  · obtain ⟨_, o, ho, _⟩ := I.ok.funs.mem hb
    exact I.base.free b o ho (I.ok.frf b hb) fun z => I.ok.exfs b z hb
theorem Inv.step {g' : Array GenState} {t' : Nat} {d' : Drawn} {ch : List Addr} (I : Inv X pins σ H s)
    (hch : ∀ b ∈ ch, (b ∈ X.ex ∨ X.s₀.heap.objs.size ≤ b) ∧ b ≠ X.env.locals ∧ (∀ x c, X.env.cells.lookup x = some c → c ≠ b) ∧ ∀ p ∈ X.pn ++ pins, p.1 ≠ b)
    (keep : ∀ b o, b ≠ X.env.locals → b ∉ X.fs → b ∉ ch → s.heap.get? b = some o → H b = none → h'.get? b = some o)
    (slot : ∀ b o, b ≠ X.env.locals → b ∈ X.fs → b ∉ ch → s.heap.get? b = some o → H b = none → ∃ sl, h'.get? b = some { o with slots := sl }) (free : ∀ b o, b ∉ ch → s.heap.get? b = some o → H b = none → H' b = none)
    (there : ∀ b o, b ∉ ch → s.heap.get? b = some o → ∃ o', h'.get? b = some o')
    (tups : ∀ b xs, H b = some (.tup xs) → H' b = some (.tup xs)) (frzs : ∀ b o u, H b = some (.frz o u) → H' b = some (.frz o u)) (tbls : ∀ b ps, H b = some (.tbl ps) → ∃ more, H' b = some (.tbl (ps ++ more)))
    (ns : ∀ m, s.heap.Ns X.env.locals m → h'.Ns X.env.locals m) (hok : HOk X.prog X.w H' h') (hg : AllBare g') :
    Inv X pins σ H' { s with heap := h', gens := g', drawn := d', toks := t' } := by
  have neL : ∀ b o, X.s₀.heap.get? b = some o → b ≠ X.env.locals := fun b o e => Nat.ne_of_lt (Nat.lt_of_lt_of_le (Heap.lt_size e) I.ok.above)
  have neC : ∀ b o, X.s₀.heap.get? b = some o → b ∉ X.ex → b ∉ ch := fun b o e hx hb => by
    rcases (hch b hb).1 with z | z
    · exact hx z
    · exact absurd (Nat.lt_of_lt_of_le (Heap.lt_size e) z) (Nat.lt_irrefl _)
  have cellK : ∀ x c, X.env.cells.lookup x = some c → ∀ v, s.heap.IsCell c v → h'.IsCell c v := fun x c e v ⟨o, ho, hd⟩ => by
    have nch : c ∉ ch := fun z => (hch c z).2.2.1 x c e rfl
    by_cases hc : c ∈ X.fs
    · obtain ⟨sl, q⟩ := slot c o (I.cne x c e) hc nch ho (I.freeC x c e)
      exact ⟨_, q, hd⟩
    · exact ⟨o, keep c o (I.cne x c e) hc nch ho (I.freeC x c e), hd⟩
  refine ⟨I.ok, I.os, hg, ⟨fun b o e n hb hx => ?_, fun b o e n hb hx => ?_, fun b o e n hx => ?_, fun b o e hx => ?_, fun b xs e => tups b xs (I.base.tups b xs e), fun b o xs e => frzs b o xs (I.base.frzs b o xs e), fun b ps e => ?_⟩, ?_, fun x c e => ?_, ?_, fun x c e => ?_, fun p hp => ?_, hok, I.len⟩
  · exact keep b o (neL b o e) hb (neC b o e hx) (I.base.keep b o e n hb hx) (I.base.free b o e n hx)
  · obtain ⟨sl, e1⟩ := I.base.slot b o e n hb hx
    obtain ⟨sl', e2⟩ := slot b _ (neL b o e) hb (neC b o e hx) e1 (I.base.free b o e n hx)
    exact ⟨sl', e2⟩
  · obtain ⟨o', e1⟩ := I.base.there b o e hx
    exact free b o' (neC b o e hx) e1 (I.base.free b o e n hx)
  · obtain ⟨o', e1⟩ := I.base.there b o e hx
    exact there b o' (neC b o e hx) e1
  · obtain ⟨m1, e1⟩ := I.base.tbls b ps e
    obtain ⟨m2, e2⟩ := tbls b _ e1
    exact ⟨m1 ++ m2, by rw [e2, Array.append_assoc]⟩
  · obtain ⟨m, hn, hl⟩ := I.loc
    refine ⟨m, ns m hn, fun i x v e1 e2 e3 => ?_⟩
    obtain ⟨u, r, l⟩ := hl i x v e1 e2 e3
    refine ⟨u, r, ?_⟩
    rcases l with l | ⟨k, c, e, z⟩
    · exact .inl l
    · exact .inr ⟨k, c, e, cellK x c e _ z⟩
  · obtain ⟨v, z⟩ := I.cell x c e
    exact ⟨v, cellK x c e v z⟩
  · obtain ⟨m, ⟨o, _, _, ho, _⟩, _⟩ := I.loc
    exact free _ o (fun z => (hch _ z).2.1 rfl) ho I.free
  · obtain ⟨v, o, ho, hd⟩ := I.cell x c e
    exact free c o (fun z => (hch c z).2.2.1 x c e rfl) ho (I.freeC x c e)
  · obtain ⟨e, n, ne, nf, d⟩ := I.pin p hp
    have nch : p.1 ∉ ch := fun z => (hch p.1 z).2.2.2 p hp rfl
    exact ⟨keep p.1 p.2 ne nf nch e n, free p.1 p.2 nch e n, ne, nf, d⟩
theorem Inv.un {t' : Nat} (I : Inv X pins σ H s) (u : Un X.fs [] H H' s.heap h') (hok : HOk X.prog X.w H' h') : Inv X pins σ H' { s with heap := h', toks := t' } := by
  obtain ⟨m, ⟨o, es, ep, ho, r⟩, _⟩ := id I.loc
  obtain ⟨sl, hL⟩ := u.any ho I.free (by simp)
  exact I.step (g' := s.gens) (d' := s.drawn) (ch := []) (fun _ z => nomatch z) (fun b o _ hb _ e n => u.keep b o e n hb (by simp)) (fun b o _ hb _ e n => u.slot b o e n hb (by simp)) (fun b o _ e n => u.free b o e n (by simp)) (fun b o _ e => u.there b o e (by simp)) u.tups u.frzs u.tbls (fun m' hm => by
    obtain ⟨o', es', ep', ho', r'⟩ := hm
    rw [ho] at ho'; cases ho'
    exact ⟨_, es', ep', hL, r'⟩) hok I.bare
theorem Inv.call {g' : Array GenState} {t' : Nat} {d' : Drawn} {ch : List Addr} (I : Inv X pins σ H s) (u : Un (frs X.stack) ch H H' s.heap h') (hok : HOk X.prog X.w H' h') (hg : AllBare g')
    (hch : ∀ b ∈ ch, (b ∈ X.ex ∨ X.s₀.heap.objs.size ≤ b) ∧ b ≠ X.env.locals ∧ (∀ x c, X.env.cells.lookup x = some c → c ≠ b) ∧ ∀ p ∈ X.pn ++ pins, p.1 ≠ b) :
    Inv X pins σ H' { s with heap := h', gens := g', drawn := d', toks := t' } := by
  obtain ⟨m, ⟨o, es, ep, ho, r⟩, _⟩ := id I.loc
  obtain ⟨sl, hL⟩ := u.any ho I.free fun z => (hch _ z).2.1 rfl
  exact I.step (ch := ch) hch (fun b o hL hb hc e n => u.keep b o e n (fun z => (List.mem_cons.mp (I.stkSub b z)).elim hL hb) hc) (fun b o _ _ hc e n => u.any e n hc) (fun b o hc e n => u.free b o e n hc) (fun b o hc e => u.there b o e hc) u.tups u.frzs u.tbls (fun m' hm => by
    obtain ⟨o', es', ep', ho', r'⟩ := hm
    rw [ho] at ho'; cases ho'
    exact ⟨_, es', ep', hL, r'⟩) hok hg
theorem Inv.turned {t' : Nat} {it : Addr} (I : Inv X pins σ H s) (k : ∀ b o, b ≠ it → s.heap.get? b = some o → h'.get? b = some o) (hn : H it = none) (hL : it ≠ X.env.locals)
    (h1 : it ∈ X.ex ∨ X.s₀.heap.objs.size ≤ it) (h2 : ∀ x c, X.env.cells.lookup x = some c → c ≠ it) (h3 : ∀ p ∈ X.pn ++ pins, p.1 ≠ it) : Inv X pins σ H { s with heap := h', toks := t' } := by
  have nit : ∀ b u, H b = some u → b ≠ it := fun b u e z => by rw [z, hn] at e; cases e
  refine I.step (g' := s.gens) (d' := s.drawn) (ch := [it]) (fun b hb => ?_) (fun b o _ _ hc e _ => k b o (fun z => hc (by simp [z])) e) (fun b o _ _ hc e _ => ⟨o.slots, k b o (fun z => hc (by simp [z])) e⟩) (fun _ _ _ _ n => n)
    (fun b o hc e => ⟨o, k b o (fun z => hc (by simp [z])) e⟩) (fun _ _ e => e) (fun _ _ _ e => e) (fun b ps e => ⟨#[], by rw [e]; simp⟩) (fun m hm => ?_) (fun b u e => ?_) I.bare
  · have e : b = it := by simpa using hb
    subst e
    exact ⟨h1, hL, h2, h3⟩
  · obtain ⟨o, es, ep, ho, r⟩ := hm
    exact ⟨o, es, ep, k _ o (Ne.symm hL) ho, r⟩
  · refine (I.hok b u e).stay (fun c v hc q => k c v ?_ q) (fun _ q => q) fun _ _ q => q
    rcases hc with z | z
    · rw [z]; exact nit b u e
    · exact nit c _ z
theorem Inv.tok (I : Inv X pins σ H s) (t : Nat) : Inv X pins σ H { s with toks := t } := I.un (h' := s.heap) (t' := t) Un.refl I.hok
theorem Inv.kept {t' : Nat} (I : Inv X pins σ H s) (k : ∀ b u, s.heap.get? b = some u → h'.get? b = some u) : Inv X pins σ H { s with heap := h', toks := t' } := I.un (Un.kept k) (I.hok.kept k)
theorem Inv.laid {a : Addr} {o : HO} {t' : Nat} (I : Inv X pins σ H s) (k : ∀ b u, s.heap.get? b = some u → h'.get? b = some u) (hp : s.heap.objs.size ≤ a) (new : ObjOk X.prog X.w (upd H a o) h' a o) :
    Inv X pins σ (upd H a o) { s with heap := h', toks := t' } := I.un (Un.laid k hp (I.hok.fresh hp)) (I.hok.laid k hp new)
theorem Inv.write {x e : Addr} {o : HO} {t' : Nat} (I : Inv X pins σ H s) (mu : Mut (H x)) (he : e = x ∨ H e = some (.own x)) (k : ∀ b u, b ≠ e → s.heap.get? b = some u → h'.get? b = some u) (heo : ∃ u, h'.get? e = some u)
    (new : ObjOk X.prog X.w (upd H x o) h' x o) : Inv X pins σ (upd H x o) { s with heap := h', toks := t' } := I.un (Un.write mu he k heo) (I.hok.write mu he k heo new)
theorem Inv.pins_of {pins' : List (Addr × Obj)} (I : Inv X pins σ H s) (h : ∀ p ∈ pins', s.heap.get? p.1 = some p.2 ∧ H p.1 = none ∧ p.1 ≠ X.env.locals ∧ p.1 ∉ X.fs ∧ ∀ v, p.2.data ≠ .cell v) : Inv X pins' σ H s :=
  ⟨I.ok, I.os, I.bare, I.base, I.loc, I.cell, I.free, I.freeC, fun p hp => (List.mem_append.mp hp).elim (fun z => I.pin p (List.mem_append_left _ z)) (h p), I.hok, I.len⟩
theorem nodup_ix {N : List Str} (hN : N.Nodup) {i j : Nat} {x : Str} (a : N[i]? = some x) (b : N[j]? = some x) : i = j := by
  obtain ⟨h1, e1⟩ := List.getElem?_eq_some_iff.mp a
  obtain ⟨h2, e2⟩ := List.getElem?_eq_some_iff.mp b
  exact (List.getElem_inj hN).mp (e1.trans e2.symm)
theorem store_ok2 {M : Model} {A : Around} {E : Value → Shared → Prop} {i : Nat} {x : Str} {v : V} {u : Value} {Q : Unit → Shared → Prop} (I : Inv X pins σ H s) (hN : X.N.Nodup) (hi : X.N[i]? = some x) (hx : Loc X.env.scope x) (r : RelV v u)
    (h : ∀ s', Inv X pins (σ.set i (some v)) H s' → (∃ a, Heap.SameBut a s.heap s'.heap ∧ (a = X.env.locals ∨ X.env.cells.lookup x = some a)) → Q () s') (hf : X.fn x = true ∨ X.env.scope.names.lookup x = some .local := by first | exact .inl rfl | exact .inr rfl | assumption) : wpAny M A (storeName X.env x u) Q E s := by
  obtain ⟨m, hn, hl⟩ := id I.loc
  have hcls : (X.env.scope.kind == .class || (X.env.scope.kind == .module && X.env.locals != X.env.globals)) = false := by rw [I.ok.kind]; rfl
  have hiσ : i < σ.length := by rw [I.len]; exact (List.getElem?_eq_some_iff.mp hi).1
  have cne := I.cne
  have tracked : ∀ {a : Addr} {h' : Heap}, (∃ o, s.heap.get? a = some o ∧ H a = none) → Heap.SameBut a s.heap h' → HOk X.prog X.w H h' := fun {a h'} ha hs b ob e => by
    obtain ⟨_, _, hfree⟩ := ha
    refine (I.hok b ob e).stay (fun c w' hc q => (hs.2 c ?_).trans q) (fun _ q => q) fun _ _ q => q
    rintro rfl
    rcases hc with rfl | hc
    · rw [hfree] at e; cases e
    · rw [hfree] at hc; cases hc
  rcases hx with hk | hk
  · refine wpAny_storeName_local hk hn (fun h' hn' hs => ?_) hcls
    obtain ⟨oL, _, _, hoL, _⟩ := id hn
    refine h _ ⟨I.ok, I.os, I.bare, ⟨fun b o e n hb hx => ?_, fun b o e n hb hx => ?_, I.base.free, fun b o e hx => ?_, I.base.tups, I.base.frzs, I.base.tbls⟩, ⟨_, hn', fun j y v' e1 e2 e3 => ?_⟩, fun y c e => ?_, I.free, I.freeC, fun p hp => ?_, tracked ⟨oL, hoL, I.free⟩ hs, by simpa using I.len⟩ ⟨_, hs, .inl rfl⟩
    · exact (hs.2 b (Nat.ne_of_lt (Nat.lt_of_lt_of_le (Heap.lt_size e) I.ok.above))).trans (I.base.keep b o e n hb hx)
    · obtain ⟨sl, e1⟩ := I.base.slot b o e n hb hx
      exact ⟨sl, (hs.2 b (Nat.ne_of_lt (Nat.lt_of_lt_of_le (Heap.lt_size e) I.ok.above))).trans e1⟩
    · obtain ⟨o', e1⟩ := I.base.there b o e hx
      exact ⟨o', (hs.2 b (Nat.ne_of_lt (Nat.lt_of_lt_of_le (Heap.lt_size e) I.ok.above))).trans e1⟩
    · by_cases hj : j = i
      · subst hj
        rw [hi] at e1; cases e1
        rw [List.getElem?_set_self hiσ] at e2
        cases e2
        exact ⟨u, r, .inl ⟨hk, by simp⟩⟩
      · rw [List.getElem?_set_ne (Ne.symm hj)] at e2
        obtain ⟨u', r', q⟩ := hl j y v' e1 e2 e3
        refine ⟨u', r', ?_⟩
        rcases q with ⟨k, e⟩ | ⟨k, c, e, z⟩
        · refine .inl ⟨k, ?_⟩
          have : y ≠ x := fun e => hj (nodup_ix hN e1 (e ▸ hi))
          simp [this, e]
        · exact .inr ⟨k, c, e, z.sameBut hs (cne y c e)⟩
    · obtain ⟨w', z⟩ := I.cell y c e
      exact ⟨w', z.sameBut hs (cne y c e)⟩
    · obtain ⟨e, n, ne, nf, d⟩ := I.pin p hp
      exact ⟨(hs.2 p.1 ne).trans e, n, ne, nf, d⟩
  · have hfn : X.fn x = true := by
      rcases hf with z | z
      · exact z
      · rw [z] at hk; cases hk
    obtain ⟨c, hc⟩ := I.ok.has x (.inl hk)
    obtain ⟨w', z⟩ := I.cell x c hc
    refine wpAny_storeName_cell I.ok.kind hk hc z (fun h' hc' hs => ?_)
    obtain ⟨oc, hoc, hocd⟩ := id z
    refine h { s with heap := h' } ⟨I.ok, I.os, I.bare, ⟨fun b o e n hb hx => ?_, fun b o e n hb hx => ?_, I.base.free, fun b o e hx => ?_, I.base.tups, I.base.frzs, I.base.tbls⟩, ⟨m, hn.sameBut hs (Ne.symm (cne x c hc)), fun j y v' e1 e2 e3 => ?_⟩, fun y c' e => ?_, I.free, I.freeC, fun p hp => ?_, tracked ⟨oc, hoc, I.freeC x c hc⟩ hs, by simpa using I.len⟩ ⟨c, hs, .inr hc⟩
    · exact (hs.2 b (Nat.ne_of_lt (Nat.lt_of_lt_of_le (Heap.lt_size e) (I.ok.cab x c hfn hc)))).trans (I.base.keep b o e n hb hx)
    · obtain ⟨sl, e1⟩ := I.base.slot b o e n hb hx
      exact ⟨sl, (hs.2 b (Nat.ne_of_lt (Nat.lt_of_lt_of_le (Heap.lt_size e) (I.ok.cab x c hfn hc)))).trans e1⟩
    · obtain ⟨o', e1⟩ := I.base.there b o e hx
      exact ⟨o', (hs.2 b (Nat.ne_of_lt (Nat.lt_of_lt_of_le (Heap.lt_size e) (I.ok.cab x c hfn hc)))).trans e1⟩
    · by_cases hj : j = i
      · subst hj
        rw [hi] at e1; cases e1
        rw [List.getElem?_set_self hiσ] at e2
        cases e2
        exact ⟨u, r, .inr ⟨.inl hk, c, hc, hc'⟩⟩
      · rw [List.getElem?_set_ne (Ne.symm hj)] at e2
        obtain ⟨u', r', q⟩ := hl j y v' e1 e2 e3
        refine ⟨u', r', ?_⟩
        rcases q with q | ⟨k, c', e, z'⟩
        · exact .inl q
        · refine .inr ⟨k, c', e, z'.sameBut hs ?_⟩
          rintro rfl
          exact hj (nodup_ix hN e1 (I.ok.inj _ _ _ e hc ▸ hi))
    · by_cases hcc : c' = c
      · subst hcc; exact ⟨_, hc'⟩
      · obtain ⟨w2, z2⟩ := I.cell y c' e
        exact ⟨w2, z2.sameBut hs hcc⟩
    · obtain ⟨e, n, ne, nf, d⟩ := I.pin p hp
      refine ⟨(hs.2 p.1 ?_).trans e, n, ne, nf, d⟩
      intro q
      rw [q, hoc] at e
      have q' : oc = p.2 := Option.some.inj e
      exact d w' (by rw [← q']; exact hocd)
theorem store_ok {M : Model} {A : Around} {E : Value → Shared → Prop} {i : Nat} {x : Str} {v : V} {u : Value} {Q : Unit → Shared → Prop} (I : Inv X pins σ H s) (hN : X.N.Nodup) (hi : X.N[i]? = some x) (hx : Loc X.env.scope x) (r : RelV v u)
    (h : ∀ s', Inv X pins (σ.set i (some v)) H s' → Q () s') (hf : X.fn x = true ∨ X.env.scope.names.lookup x = some .local := by first | exact .inl rfl | exact .inr rfl | assumption) : wpAny M A (storeName X.env x u) Q E s :=
  store_ok2 I hN hi hx r (fun s' I' _ => h s' I') hf
theorem Inv.call' {s' : Shared} {ch : List Addr} (I : Inv X pins σ H s) (ho : s'.os = s.os) (u : Un (frs X.stack) ch H H' s.heap s'.heap) (hok : HOk X.prog X.w H' s'.heap) (hg : AllBare s'.gens)
    (hch : ∀ b ∈ ch, (b ∈ X.ex ∨ X.s₀.heap.objs.size ≤ b) ∧ b ≠ X.env.locals ∧ (∀ x c, X.env.cells.lookup x = some c → c ≠ b) ∧ ∀ p ∈ X.pn ++ pins, p.1 ≠ b) : Inv X pins σ H' s' := by
  obtain ⟨h', g', d', t', o'⟩ := s'
  have e : o' = s.os := ho
  subst e
  exact I.call (g' := g') (t' := t') (d' := d') u hok hg hch
end
abbrev XK := Value → Option Addr → Hp → Prop
abbrev St := List (Option V)
abbrev VK := V → Hp → Prop
abbrev TE := St → Hp → VK → Prop
abbrev TT := St → Hp → (Bool → Hp → Prop) → Prop
abbrev TA := St → Hp → (List V → Hp → Prop) → Prop
structure Ends where
  nx : St → Hp → Prop
  rt : VK
  bk : St → Hp → Prop := fun _ _ => False
  ct : St → Hp → Prop := fun _ _ => False
abbrev TS := Ends → St → Hp → Prop
def EP (X : Cx) (pins : List (Addr × Obj)) (σ : St) (Q : VK) (u : Value) (s' : Shared) : Prop := ∃ v H', Inv X pins σ H' s' ∧ RelV v u ∧ Q v H'
def TP (X : Cx) (pins : List (Addr × Obj)) (σ : St) (Q : Bool → Hp → Prop) (b : Bool) (s' : Shared) : Prop := ∃ H', Inv X pins σ H' s' ∧ Q b H'
def AP (X : Cx) (pins : List (Addr × Obj)) (σ : St) (Q : List V → Hp → Prop) (us : List Value) (s' : Shared) : Prop := ∃ vs H', Inv X pins σ H' s' ∧ Vals vs us ∧ Q vs H'
def SP (X : Cx) (pins : List (Addr × Obj)) (D : Ends) (f : Flow) (s' : Shared) : Prop :=
  match f with
  | .next => ∃ σ' H', Inv X pins σ' H' s' ∧ D.nx σ' H'
  | .brk => ∃ σ' H', Inv X pins σ' H' s' ∧ D.bk σ' H'
  | .cont => ∃ σ' H', Inv X pins σ' H' s' ∧ D.ct σ' H'
  | .ret u => ∃ v σ' H', Inv X pins σ' H' s' ∧ RelV v u ∧ D.rt v H'
def PE (X : Cx) (e : Expr) (t : TE) : Prop :=
  ∀ (pins : List (Addr × Obj)) (s : Shared) (σ : St) (H : Hp) (Q : VK), Inv X pins σ H s → t σ H Q → wpAny (model X.prog X.w) X.A (eval e X.env) (EP X pins σ Q) X.xe s
def PT (X : Cx) (e : Expr) (t : TT) : Prop :=
  ∀ (pins : List (Addr × Obj)) (s : Shared) (σ : St) (H : Hp) (Q : Bool → Hp → Prop), Inv X pins σ H s → t σ H Q → wpAny (model X.prog X.w) X.A (isTrue e X.env (eval e X.env)) (TP X pins σ Q) X.xe s
def PW (X : Cx) (e : Expr) (t : TT) : Prop :=
  ∀ (whole : Sem Value) (pins : List (Addr × Obj)) (s : Shared) (σ : St) (H : Hp) (Q : Bool → Hp → Prop), Inv X pins σ H s → t σ H Q → wpAny (model X.prog X.w) X.A (isTrue e X.env whole) (TP X pins σ Q) X.xe s
theorem PW.pt {X : Cx} {e : Expr} {t : TT} (h : PW X e t) : PT X e t := h _
def PA (X : Cx) (es : List Expr) (t : TA) : Prop :=
  ∀ (pos : Pos) (pins : List (Addr × Obj)) (s : Shared) (σ : St) (H : Hp) (Q : List V → Hp → Prop), Inv X pins σ H s → t σ H Q → wpAny (model X.prog X.w) X.A (spliced (backTo pos (starEach es X.env))) (AP X pins σ Q) X.xe s
def PS (X : Cx) (st : Stmt) (t : TS) : Prop :=
  ∀ (pins : List (Addr × Obj)) (s : Shared) (σ : St) (H : Hp) (D : Ends), Inv X pins σ H s → t D σ H → wpAny (model X.prog X.w) X.A (exec st X.env) (SP X pins D) X.xe s
def PSs (X : Cx) (st : List Stmt) (t : TS) : Prop :=
  ∀ (pins : List (Addr × Obj)) (s : Shared) (σ : St) (H : Hp) (D : Ends), Inv X pins σ H s → t D σ H → wpAny (model X.prog X.w) X.A (execs st X.env) (SP X pins D) X.xe s
theorem thn {α : Type} {t : Sem α} {Q Q' : α → Shared → Prop} {M : Model} {A : Around} {E : Value → Shared → Prop} {s : Shared} (h : wpAny M A t Q E s) (hQ : ∀ a s, Q a s → Q' a s) : wpAny M A t Q' E s := wpAny_mono h hQ fun _ _ x => x
end L2
namespace L2
open PySem PySem.Spec PyProof.Rows
section
variable {X : Cx}
theorem bin {a b : Expr} {ta tb : TE} (ha : PE X a ta) (hb : PE X b tb) {pins : List (Addr × Obj)} {s : Shared} {σ : St} {H : Hp} {R : V → V → Hp → Prop} (I : Inv X pins σ H s) (h : ta σ H fun x H1 => tb σ H1 fun y H2 => R x y H2)
    {α : Type} {Q : α → Shared → Prop} {f : Value → Value → Sem α}
    (hf : ∀ v u s2 x y H2, Inv X pins σ H2 s2 → RelV x v → RelV y u → R x y H2 → wpAny (model X.prog X.w) X.A (f v u) Q X.xe s2) :
    wpAny (model X.prog X.w) X.A (eval a X.env) (fun v s₁ => wpAny (model X.prog X.w) X.A (eval b X.env) (fun u s₂ => wpAny (model X.prog X.w) X.A (f v u) Q X.xe s₂) X.xe s₁) X.xe s := by
  refine thn (ha pins s σ H _ I h) fun v s1 ⟨x, H1, I1, r1, q1⟩ => ?_
  refine thn (hb pins s1 σ H1 _ I1 q1) fun u s2 ⟨y, H2, I2, r2, q2⟩ => ?_
  exact hf v u s2 x y H2 I2 r1 r2 q2
def tVar (i : Nat) : TE := fun σ H Q => ∃ v, σ[i]? = some (some v) ∧ Q v H
def tC (v : V) : TE := fun _ H Q => Q v H
theorem pe_var {i : Nat} {x : Str} {pos : Pos} (hN : X.N[i]? = some x) (hv : Vis X.env.scope x) (hd : (x == ("__debug__" : Str)) = false := by decide) (hcd : (x == ("__classdict__" : Str)) = false := by decide) : PE X (.Name x pos) (tVar i) := by
  intro pins s σ H Q I h
  obtain ⟨v, e, h⟩ := h
  obtain ⟨m, hn, hl⟩ := I.loc
  obtain ⟨u, r, l⟩ := hl i x v hN e hv
  have fin : EP X pins σ Q u s := ⟨v, H, I, r, h⟩
  rcases l with ⟨hk, hm⟩ | ⟨hk, c, hc, hcell⟩
  · exact wpAny_Name (wpAny_loadName_local I.ok.kind hk hn hm fin) hd
  · rcases hk with hk | hk
    · exact wpAny_Name (wpAny_loadName_cell I.ok.kind hk hc hcell fin) hd
    · exact wpAny_Name (wpAny_loadName_free I.ok.kind hk hc hcell fin hcd) hd
theorem pe_int {i j pos} : PE X (.Constant (.int i) j pos) (tC (.int i)) := fun _ _ _ H _ I h => wpAny_Constant_int ⟨.int i, H, I.tok _, ⟨_, rfl⟩, h⟩
theorem pe_bl {b j pos} : PE X (.Constant (.bool b) j pos) (tC (.bl b)) := fun _ _ _ H _ I h => Constant_bool ⟨.bl b, H, I, rfl, h⟩
theorem pe_non {j pos} : PE X (.Constant .none j pos) (tC .non) := fun _ _ _ H _ I h => Constant_none ⟨.non, H, I, rfl, h⟩
theorem pe_str {x j pos} : PE X (.Constant (.str x) j pos) (tC (.str x)) := fun _ _ _ H _ I h => Calls.Constant_str ⟨.str x, H, I.tok _, ⟨_, rfl⟩, h⟩
def Gl (X : Cx) (x : Str) : Prop := X.env.kindOf x = some .globalImplicit
theorem ld_glob {E : Value → Shared → Prop} {pins : List (Addr × Obj)} {s : Shared} {σ : St} {H : Hp} {x : Str} {u : Value} {pos : Pos} {Q : Value → Shared → Prop} (I : Inv X pins σ H s) (hg : Gl X x) (hm : X.mg x = some u) (h : Q u s)
    (hd : (x == ("__debug__" : Str)) = false := by decide) : wpAny (model X.prog X.w) X.A (eval (.Name x pos) X.env) Q E s :=
  Calls.Name_function_global I.ok.kind hg (Calls.loadGlobal_global (by rw [I.ok.glob]; exact I.mod.glob.keeps I.bk) hm h) hd
theorem ld_blt {E : Value → Shared → Prop} {pins : List (Addr × Obj)} {s : Shared} {σ : St} {H : Hp} {x : Str} {u : Value} {pos : Pos} {Q : Value → Shared → Prop} (I : Inv X pins σ H s) (hg : Gl X x) (hm : X.mg x = none) (hv : bootBuiltins x = some u) (h : Q u s)
    (hn : x ≠ "__name__" := by decide) (hd : (x == ("__debug__" : Str)) = false := by decide) : wpAny (model X.prog X.w) X.A (eval (.Name x pos) X.env) Q E s := by
  obtain ⟨mb, h1, h2⟩ := I.mod.blt
  exact Calls.Name_function_global I.ok.kind hg (Calls.loadGlobal_builtin (by rw [I.ok.glob]; exact I.mod.glob.keeps I.bk) hm (by rw [I.ok.blt]; exact h1.keeps I.bk) ((h2 x hn).trans hv) h) hd
theorem pe_glob {x : Str} {v : V} {u : Value} {pos : Pos} (hg : Gl X x) (hm : X.mg x = some u) (r : RelV v u) (hd : (x == ("__debug__" : Str)) = false := by decide) : PE X (.Name x pos) (tC v) :=
  fun _ _ _ H _ I h => ld_glob I hg hm ⟨v, H, I, r, h⟩ hd
theorem pe_bltn {x : Str} {v : V} {u : Value} {pos : Pos} (hg : Gl X x) (hm : X.mg x = none) (hv : bootBuiltins x = some u) (r : RelV v u) (hn : x ≠ "__name__" := by decide) (hd : (x == ("__debug__" : Str)) = false := by decide) : PE X (.Name x pos) (tC v) :=
  fun _ _ _ H _ I h => ld_blt I hg hm hv ⟨v, H, I, r, h⟩ hn hd
variable {a b : Expr} {ta tb : TE} {pos : Pos}
variable {tA tB' : TT} {rest : List Expr}
def tAnd (t u : TT) : TT := fun σ H Q => t σ H fun c H1 => if c = true then u σ H1 Q else Q false H1
def tOr (t u : TT) : TT := fun σ H Q => t σ H fun c H1 => if c = true then Q true H1 else u σ H1 Q
def tNot (t : TT) : TT := fun σ H Q => t σ H fun c H1 => Q (!c) H1
theorem pw_and1 (ha : PT X a tA) : PW X (.BoolOp .And [a] pos) tA := by
  intro wh pins s σ H Q I h
  refine isTrue_and (thn (ha pins s σ H Q I h) fun c s1 e => ?_)
  cases c with
  | true => exact isTrue_and_nil e
  | false => exact e
theorem pw_or1 (ha : PT X a tA) : PW X (.BoolOp .Or [a] pos) tA := by
  intro wh pins s σ H Q I h
  refine isTrue_or (thn (ha pins s σ H Q I h) fun c s1 e => ?_)
  cases c with
  | false => exact isTrue_or_nil e
  | true => exact e
theorem pw_and (ha : PT X a tA) (hb : PW X (.BoolOp .And (b :: rest) pos) tB') : PW X (.BoolOp .And (a :: b :: rest) pos) (tAnd tA tB') := by
  intro wh pins s σ H Q I h
  refine isTrue_and (thn (ha pins s σ H _ I h) fun c s1 ⟨H1, I1, q1⟩ => ?_)
  cases c with
  | true => exact hb wh pins s1 σ H1 Q I1 q1
  | false => exact ⟨H1, I1, q1⟩
theorem pw_or (ha : PT X a tA) (hb : PW X (.BoolOp .Or (b :: rest) pos) tB') : PW X (.BoolOp .Or (a :: b :: rest) pos) (tOr tA tB') := by
  intro wh pins s σ H Q I h
  refine isTrue_or (thn (ha pins s σ H _ I h) fun c s1 ⟨H1, I1, q1⟩ => ?_)
  cases c with
  | true => exact ⟨H1, I1, q1⟩
  | false => exact hb wh pins s1 σ H1 Q I1 q1
theorem pt_not (ha : PT X a tA) : PT X (.UnaryOp .Not a pos) (tNot tA) := by
  intro pins s σ H Q I h
  exact isTrue_not (ha pins s σ H (fun c H1 => Q (!c) H1) I h)
def tAndV (ta tb : TE) : TE := fun σ H Q => ta σ H fun x H1 => ∃ c, x = .bl c ∧ if c = true then tb σ H1 Q else Q (.bl false) H1
def tNotV (ta : TE) : TE := fun σ H Q => ta σ H fun x H1 => ∃ c, x = .bl c ∧ Q (.bl (!c)) H1
theorem pe_one {op} {t : TE} (h : PE X a t) : PE X (.BoolOp op [a] pos) t := fun pins s σ H Q I hw => BoolOp_one (h pins s σ H Q I hw)
theorem pe_and (ha : PE X a ta) (hb : PE X (.BoolOp .And (b :: rest) pos) tb) : PE X (.BoolOp .And (a :: b :: rest) pos) (tAndV ta tb) := by
  intro pins s σ H Q I h
  refine BoolOp_and (thn (ha pins s σ H _ I h) fun v s1 ⟨x, H1, I1, r1, q1⟩ => ?_)
  obtain ⟨c, rfl, q1⟩ := q1
  cases r1
  refine wpAny_truthy_bool ?_
  cases c with
  | true => exact hb pins s1 σ H1 Q I1 q1
  | false => exact ⟨.bl false, H1, I1, rfl, q1⟩
theorem pe_not (ha : PE X a ta) : PE X (.UnaryOp .Not a pos) (tNotV ta) := by
  intro pins s σ H Q I h
  refine UnaryOp_ (thn (ha pins s σ H _ I h) fun v s1 ⟨x, H1, I1, r1, q1⟩ => ?_)
  obtain ⟨c, rfl, q1⟩ := q1
  cases r1
  exact not_of (wpAny_truthy_bool ⟨.bl (!c), H1, I1, rfl, q1⟩)
end
end L2
namespace L2
open PySem PySem.Spec PyProof.Rows
def SqL (K : PySem.W.Frag) (H : Hp) (a : Addr) (xs : List V) : Prop :=
  Rd H a (.lst xs) ∨
    ∃ (o : Obj) (its : Array Value) (n : Nat), K.lookup a = some o ∧ o.cls = .type "list" ∧ o.dict = none ∧ o.data = .seq its n ∧ its.size ≤ sizeLine ∧ Vals xs its.toList
def SqT (K : PySem.W.Frag) (H : Hp) (a : Addr) (xs : List V) : Prop :=
  Rd H a (.tup xs) ∨
    ∃ (o : Obj) (its : Array Value) (n : Nat), K.lookup a = some o ∧ o.cls = .type "tuple" ∧ o.data = .seq its n ∧ its.size ≤ sizeLine ∧ Vals xs its.toList
def absV : Value → Option V
  | .none => some .non
  | .bool b => some (.bl b)
  | .int i _ => some (.int i)
  | .str x _ => some (.str x)
  | .bytes b _ => some (.byt b)
  | .float b _ => some (.flt b)
  | .ref a => some (.ref a)
  | .type n => some (.ty n)
  | _ => none
theorem RelV.abs {x : V} {u : Value} (r : RelV x u) : absV u = some x := by
  cases x with
  | non => cases r; rfl
  | bl _ => cases r; rfl
  | int _ => obtain ⟨t, rfl⟩ := r; rfl
  | str _ => obtain ⟨t, rfl⟩ := r; rfl
  | byt _ => obtain ⟨t, rfl⟩ := r; rfl
  | flt _ => obtain ⟨t, rfl⟩ := r; rfl
  | ref _ => cases r; rfl
  | ty _ => cases r; rfl
theorem RelV.inj {x y : V} {u : Value} (r : RelV x u) (q : RelV y u) : x = y := Option.some.inj (r.abs.symm.trans q.abs)
theorem Vals.inj : ∀ {xs ys : List V} {us : List Value}, Vals xs us → Vals ys us → xs = ys
  | _, _, _, .nil, .nil => rfl
  | _, _, _, .cons r t, .cons r' t' => by rw [r.inj r', Vals.inj t t']
section
variable {X : Cx} {pins : List (Addr × Obj)} {σ : St} {H : Hp} {s : Shared} {a : Addr} {xs ys : List V}
theorem SqL.of {K : PySem.W.Frag} (h : H a = some (.lst xs)) : SqL K H a xs := .inl (.inl h)
theorem SqT.of {K : PySem.W.Frag} (h : H a = some (.tup xs)) : SqT K H a xs := .inl (.inl h)
theorem Inv.list (I : Inv X pins σ H s) (h : SqL X.K H a xs) : ∃ its : List Value, Vals xs its ∧ PlainL s.heap a its.toArray ∧ xs.length ≤ sizeLine := by
  rcases h with h | ⟨o, its, n, hk, hc, hd, hs, hz, r⟩
  · obtain ⟨z, its, n, r, e⟩ := h.ok I.hok
    exact ⟨its, r, ⟨_, n, e, rfl, rfl, rfl⟩, z⟩
  · refine ⟨its.toList, r, ⟨o, n, I.kIn a o hk, hc, hd, by simpa using hs⟩, ?_⟩
    have e := r.length
    simp only [Array.length_toList] at e
    omega
theorem Inv.tuple (I : Inv X pins σ H s) (h : SqT X.K H a xs) : ∃ its : List Value, Vals xs its ∧ IsTup s.heap a its.toArray ∧ xs.length ≤ sizeLine := by
  rcases h with h | ⟨o, its, n, hk, hc, hs, hz, r⟩
  · obtain ⟨z, its, r, p⟩ := h.ok I.hok
    exact ⟨its, r, p, z⟩
  · refine ⟨its.toList, r, ⟨o, I.kIn a o hk, hc, n, by simpa using hs⟩, ?_⟩
    have e := r.length
    simp only [Array.length_toList] at e
    omega
theorem Inv.list_inj (I : Inv X pins σ H s) (h : SqL X.K H a xs) (h' : SqL X.K H a ys) : xs = ys := by
  obtain ⟨its, r, ⟨o, n, e, _, _, d⟩, _⟩ := I.list h
  obtain ⟨its', r', ⟨o', n', e', _, _, d'⟩, _⟩ := I.list h'
  rw [e] at e'; cases e'
  rw [d] at d'
  injection d' with d1 _
  have : its = its' := by simpa using congrArg Array.toList d1
  subst this
  exact r.inj r'
theorem Inv.tuple_inj (I : Inv X pins σ H s) (h : SqT X.K H a xs) (h' : SqT X.K H a ys) : xs = ys := by
  obtain ⟨its, r, ⟨o, e, _, n, d⟩, _⟩ := I.tuple h
  obtain ⟨its', r', ⟨o', e', _, n', d'⟩, _⟩ := I.tuple h'
  rw [e] at e'; cases e'
  rw [d] at d'
  injection d' with d1 _
  have : its = its' := by simpa using congrArg Array.toList d1
  subst this
  exact r.inj r'
end
abbrev Cx.wish (X : Cx) (E : Value → Shared → Prop) : Cx := { X with xe := E }
abbrev Cx.nox (X : Cx) : Cx := X.wish fun _ _ => False
theorem Cx.Ok.wish {X : Cx} (ok : X.Ok) (E : Value → Shared → Prop) : (X.wish E).Ok :=
  ⟨ok.mod, ok.kind, ok.glob, ok.blt, ok.above, ok.inj, ok.has, ok.cab, ok.hd, ok.frames, ok.stk, ok.exf, ok.bs, ok.bsz, ok.noex, ok.exfs, ok.funs, ok.frf⟩
theorem Cx.Ok.unwish {X : Cx} {E : Value → Shared → Prop} (ok : (X.wish E).Ok) : X.Ok :=
  ⟨ok.mod, ok.kind, ok.glob, ok.blt, ok.above, ok.inj, ok.has, ok.cab, ok.hd, ok.frames, ok.stk, ok.exf, ok.bs, ok.bsz, ok.noex, ok.exfs, ok.funs, ok.frf⟩
section
variable {X : Cx} {pins : List (Addr × Obj)} {σ : St} {H : Hp} {s : Shared} {E : Value → Shared → Prop}
theorem Inv.wish (I : Inv X pins σ H s) (E : Value → Shared → Prop) : Inv (X.wish E) pins σ H s := ⟨I.ok.wish E, I.os, I.bare, I.base, I.loc, I.cell, I.free, I.freeC, I.pin, I.hok, I.len⟩
theorem Inv.unwish (I : Inv (X.wish E) pins σ H s) : Inv X pins σ H s := ⟨I.ok.unwish, I.os, I.bare, I.base, I.loc, I.cell, I.free, I.freeC, I.pin, I.hok, I.len⟩
theorem SP.unwish {D : Ends} {f : Flow} {s' : Shared} (h : SP (X.wish E) pins D f s') : SP X pins D f s' := by
  cases f with
  | next => obtain ⟨σ', H', I, q⟩ := h; exact ⟨σ', H', I.unwish, q⟩
  | brk => obtain ⟨σ', H', I, q⟩ := h; exact ⟨σ', H', I.unwish, q⟩
  | cont => obtain ⟨σ', H', I, q⟩ := h; exact ⟨σ', H', I.unwish, q⟩
  | ret u => obtain ⟨v, σ', H', I, r, q⟩ := h; exact ⟨v, σ', H', I.unwish, r, q⟩
theorem PSs.nox {st : List Stmt} {t : TS} (h : PSs X.nox st t) : PSs X st t := fun pins s σ H D I hw =>
  wpAny_mono (h pins s σ H D (I.wish _) hw) (fun _ _ q => q.unwish) fun _ _ z => False.elim z
end
section
variable {X : Cx} {st : Stmt} {rest : List Stmt} {t u : TS} {e : Expr} {te : TE} {pos : Pos}
def tNext : TS := fun D σ H => D.nx σ H
def tSeq (t u : TS) : TS := fun D σ H => t { D with nx := u D } σ H
theorem pss_nil : PSs X [] tNext := fun _ _ σ H _ I h => wpAny_execs_nil ⟨σ, H, I, h⟩
theorem pss_cons (h1 : PS X st t) (h2 : PSs X rest u) : PSs X (st :: rest) (tSeq t u) := by
  intro pins s σ H D I h
  refine wpAny_execs_cons (thn (h1 pins s σ H { D with nx := u D } I h) fun f s1 q => ?_)
  cases f with
  | next =>
    obtain ⟨σ', H', I', q⟩ := q
    exact h2 pins s1 σ' H' D I' q
  | ret v => exact q
  | brk => exact q
  | cont => exact q
theorem pss_one (h1 : PS X st t) : PSs X [st] t := by
  intro pins s σ H D I h
  refine wpAny_execs_cons (thn (h1 pins s σ H D I h) fun f s1 q => ?_)
  cases f with
  | next => exact wpAny_execs_nil q
  | ret v => exact q
  | brk => exact q
  | cont => exact q
theorem Inv.quiet {pins : List (Addr × Obj)} {σ : St} {H : Hp} {s : Shared} (I : Inv X pins σ H s) : interactive X.env = false := by simp [interactive, I.ok.kind]
def tDrop (te : TE) : TS := fun D σ H => te σ H fun _ H1 => D.nx σ H1
theorem ps_expr (he : PE X e te) (hs : swapsWith e none pos.line X.env = pure false := by rfl) : PS X (.Expr e pos) (tDrop te) := by
  intro pins s σ H D I h
  exact wpAny_Expr_any (thn (he pins s σ H _ I h) fun v s1 ⟨x, H1, I1, r1, q1⟩ => ⟨σ, H1, I1, q1⟩) I.quiet hs
def tRet (te : TE) : TS := fun D σ H => te σ H D.rt
theorem ps_ret (he : PE X e te) : PS X (.Return (some e) pos) (tRet te) := by
  intro pins s σ H D I h
  exact wpAny_Return_some (thn (he pins s σ H _ I h) fun v s1 ⟨x, H1, I1, r1, q1⟩ => ⟨x, σ, H1, I1, r1, q1⟩)
def tIfS (c : TT) (t u : TS) : TS := fun D σ H => c σ H fun b H1 => if b = true then t D σ H1 else u D σ H1
theorem ps_if {c : Expr} {a b : List Stmt} {tc : TT} (hc : PT X c tc) (ha : PSs X a t) (hb : PSs X b u) : PS X (.If c a b pos) (tIfS tc t u) := by
  intro pins s σ H D I h
  refine wpAny_If (thn (hc pins s σ H _ I h) fun d s1 ⟨H1, I1, q1⟩ => ?_)
  cases d with
  | true => exact ha pins s1 σ H1 D I1 q1
  | false => exact hb pins s1 σ H1 D I1 q1
end
abbrev TG := V → St → Hp → (St → Hp → Prop) → Prop
abbrev TGs := List V → St → Hp → (St → Hp → Prop) → Prop
def PG (X : Cx) (target : Expr) (t : TG) : Prop :=
  ∀ (pins : List (Addr × Obj)) (s : Shared) (σ : St) (H : Hp) (v : V) (u : Value) (Q : St → Hp → Prop), Inv X pins σ H s → RelV v u → t v σ H Q →
    wpAny (model X.prog X.w) X.A (assign target X.env u) (fun _ s' => ∃ σ' H', Inv X pins σ' H' s' ∧ Q σ' H') X.xe s
def PGs (X : Cx) (ts : List Expr) (t : TGs) : Prop :=
  ∀ (pins : List (Addr × Obj)) (s : Shared) (σ : St) (H : Hp) (vs : List V) (us : List Value) (Q : St → Hp → Prop), Inv X pins σ H s → Vals vs us → t vs σ H Q →
    wpAny (model X.prog X.w) X.A (assignInOrder ((assignEach ts X.env).map (·.2)) us) (fun _ s' => ∃ σ' H', Inv X pins σ' H' s' ∧ Q σ' H') X.xe s
section
variable {X : Cx} {pos : Pos}
def gName (i : Nat) : TG := fun v σ H Q => Q (σ.set i (some v)) H
theorem pg_name {i : Nat} {x : Str} (hN : X.N.Nodup) (hi : X.N[i]? = some x) (hx : Loc X.env.scope x) (hf : X.fn x = true ∨ X.env.scope.names.lookup x = some .local := by first | exact .inl rfl | exact .inr rfl | assumption) : PG X (.Name x pos) (gName i) := by
  intro pins s σ H v u Q I r h
  exact wpAny_assign_Name (store_ok I hN hi hx r (fun s' I' => ⟨_, H, I', h⟩) hf)
def gNil : TGs := fun vs σ H Q => vs = [] ∧ Q σ H
def gCons (t : TG) (u : TGs) : TGs := fun vs σ H Q => ∃ v r, vs = v :: r ∧ t v σ H fun σ' H' => u r σ' H' Q
theorem pgs_nil : PGs X [] gNil := by
  intro pins s σ H vs us Q I r h
  obtain ⟨e, h⟩ := h
  subst e
  cases r
  exact assignInOrder_nil ⟨σ, H, I, h⟩
theorem pgs_cons {e : Expr} {es : List Expr} {t : TG} {u : TGs} (h1 : PG X e t) (h2 : PGs X es u)
    (hs : (assignEach (e :: es) X.env).map (·.2) = assign e X.env :: (assignEach es X.env).map (·.2) := by rfl) : PGs X (e :: es) (gCons t u) := by
  intro pins s σ H vs us Q I r h
  obtain ⟨v, vr, e1, h⟩ := h
  subst e1
  cases r with
  | cons r rr =>
    rw [hs]
    refine assignInOrder_cons (thn (h1 pins s σ H _ _ _ I r h) fun _ s1 ⟨σ1, H1, I1, q1⟩ => ?_)
    exact h2 pins s1 σ1 H1 _ _ Q I1 rr q1
def gTup (K : PySem.W.Frag) (n : Nat) (t : TGs) : TG := fun v σ H Q => ∃ a xs, v = .ref a ∧ SqT K H a xs ∧ xs.length = n ∧ t xs σ H Q
theorem pg_tup {es : List Expr} {k : Nat} {t : TGs} {n : Nat} (hc : X.calm = true) (h : PGs X es t)
    (hn : (assignEach es X.env).length = n := by rfl) (hst : (assignEach es X.env).findIdx? (·.1) = none := by rfl) : PG X (.Tuple es k pos) (gTup X.K n t) := by
  intro pins s σ H v u Q I r hw
  obtain ⟨a, xs, e1, hq, hl, hw⟩ := hw
  subst e1
  cases r
  obtain ⟨its, rv, ht, hz⟩ := I.tuple hq
  refine assign_Tuple_tuple (I.ok.hd hc) ht (by simp [hn, ← hl, rv.length]) hst fun h' hx => ?_
  have I1 : Inv X pins σ H { s with heap := h' } := I.kept (t' := s.toks) fun b o e => hx b o (Nat.ne_of_lt (Heap.lt_size e)) e
  exact h pins _ σ H xs _ Q I1 (by simpa using rv) hw
def tAsg (te : TE) (g : TG) : TS := fun D σ H => te σ H fun x H1 => g x σ H1 D.nx
theorem ps_asg {tg e : Expr} {te : TE} {g : TG} (he : PE X e te) (hg : PG X tg g) (hs : swapsWithSole [tg] e pos.line X.env = pure false := by rfl) (hw : swappedStores [tg] e X.env = pure none := by rfl)
    (h1 : (assignEach [tg] X.env).map (·.2) = [assign tg X.env] := by rfl) : PS X (.Assign [tg] e pos) (tAsg te g) := by
  intro pins s σ H D I h
  refine wpAny_Assign_stores (thn (he pins s σ H _ I h) fun v s1 ⟨x, H1, I1, r1, q1⟩ => ?_) hs hw
  rw [h1]
  exact thn (hg pins s1 σ H1 x v _ I1 r1 q1) fun _ s2 q => q
theorem ps_set {i : Nat} {x : Str} {e : Expr} {te : TE} {pos' : Pos} (hN : X.N.Nodup) (hi : X.N[i]? = some x) (hx : Loc X.env.scope x) (he : PE X e te) (hs : swapsWith e (some (.Name x pos')) pos.line X.env = pure false := by rfl) (hf : X.fn x = true ∨ X.env.scope.names.lookup x = some .local := by first | exact .inl rfl | exact .inr rfl | assumption) :
    PS X (.Assign [.Name x pos'] e pos) (tAsg te (gName i)) := by
  intro pins s σ H D I h
  refine wpAny_Assign_Name (thn (he pins s σ H _ I h) fun v s1 ⟨y, H1, I1, r1, q1⟩ => ?_) hs
  exact store_ok I1 hN hi hx r1 (fun s2 I2 => ⟨_, H1, I2, q1⟩) hf
end
structure It where
  go : Nat → Hp → Prop
  yld : Nat → Hp → V → Hp → Prop
  stop : Nat → Hp → Prop
def FpOk (X : Cx) (pins : List (Addr × Obj)) (H : Hp) (b : Addr) : Prop :=
  H b = none ∧ b ≠ X.env.locals ∧ b ∉ X.fs ∧ (b ∈ X.ex ∨ X.s₀.heap.objs.size ≤ b) ∧ (∀ x c, X.env.cells.lookup x = some c → c ≠ b) ∧ ∀ p ∈ X.pn ++ pins, p.1 ≠ b
theorem Inv.fpOk {X : Cx} {pins : List (Addr × Obj)} {σ : St} {H H' : Hp} {s : Shared} {b : Addr} (I : Inv X pins σ H s) (hb : s.heap.objs.size ≤ b) (hn : H' b = none) : FpOk X pins H' b := by
  refine ⟨hn, Nat.ne_of_gt (Nat.lt_of_lt_of_le I.lt hb), I.nofs hb, .inr (Nat.le_trans I.sz hb), fun x c e z => ?_, fun p hp z => ?_⟩
  · obtain ⟨v, q⟩ := I.cell x c e
    exact absurd (Nat.lt_of_lt_of_le q.lt (by rw [z]; exact hb)) (Nat.lt_irrefl _)
  · exact absurd (Nat.lt_of_lt_of_le (Heap.lt_size (I.pin p hp).1) (by rw [z]; exact hb)) (Nat.lt_irrefl _)
structure Turn (P : Program) (w : World) (K : PySem.W.Frag) (tg : Expr) (J : It) (fp : List Addr) (it : Addr) (tn : Nat → Heap → Prop) : Prop where
  mem : it ∈ fp
  obj : ∀ i h, tn i h → ∀ b ∈ fp, ∃ o, h.get? b = some o ∧ ∀ v, o.data ≠ .cell v
  keep : ∀ i h h', tn i h → (∀ b ∈ fp, ∀ o, h.get? b = some o → h'.get? b = some o) → tn i h'
  item : ∀ (X : Cx), X.prog = P → X.w = w → X.K = K → X.calm = true → ∀ (i : Nat) (pins : List (Addr × Obj)) (s : Shared) (σ : St) (H : Hp) (E : Value → Shared → Prop), Inv X pins σ H s → (∀ b ∈ fp, FpOk X pins H b) → tn i s.heap → J.go i H →
    wpAny (model P w) X.A (pyNext (.ref it)) (fun r s1 => ∃ u, r = some u ∧
      wpAny (model P w) X.A (letOwnedTupleGo tg (.ref it) u) (fun _ s2 => ∃ x H', Inv X pins σ H' s2 ∧ RelV x u ∧ J.yld i H x H' ∧ tn (i + 1) s2.heap ∧ ∀ b ∈ fp, H' b = none) E s1) E s
  done : ∀ (X : Cx), X.prog = P → X.w = w → X.K = K → X.calm = true → ∀ (i : Nat) (pins : List (Addr × Obj)) (s : Shared) (σ : St) (H : Hp) (E : Value → Shared → Prop), Inv X pins σ H s → (∀ b ∈ fp, FpOk X pins H b) → tn i s.heap → J.stop i H →
    wpAny (model P w) X.A (pyNext (.ref it)) (fun r s1 => r = none ∧ Inv X pins σ H s1) E s
  self : ∀ (A : Around) (i : Nat) (s : Shared) (Q : Value → Shared → Prop) (E : Value → Shared → Prop), tn i s.heap → Q (.ref it) s → wpAny (model P w) A (pyIter (.ref it)) Q E s
abbrev TI := St → Hp → (It → Hp → Prop) → Prop
def PIE (X : Cx) (pins : List (Addr × Obj)) (σ : St) (tg : Expr) (R : It → Hp → Prop) (itv : Value) (s2 : Shared) : Prop :=
  ∃ (it : Addr) (fp : List Addr) (tn : Nat → Heap → Prop) (J : It) (H' : Hp), itv = .ref it ∧ Inv X pins σ H' s2 ∧ Turn X.prog X.w X.K tg J fp it tn ∧ tn 0 s2.heap ∧ (∀ b ∈ fp, FpOk X pins H' b) ∧ R J H'
def PI (X : Cx) (tg iter : Expr) (wi : TI) : Prop :=
  ∀ (pins : List (Addr × Obj)) (s : Shared) (σ : St) (H : Hp) (R : It → Hp → Prop), Inv X pins σ H s → wi σ H R →
    wpAny (model X.prog X.w) X.A (eval iter X.env) (fun v s1 => wpAny (model X.prog X.w) X.A (pyIter v) (PIE X pins σ tg R) X.xe s1) X.xe s
theorem go_of {M : Model} {A : Around} {E : Value → Shared → Prop} {s : Shared} {tg : Expr} {it : Addr} {u : Value} {o : Obj} {n : String} {vs : Array Value} {Q : Unit → Shared → Prop} (ho : s.heap.get? it = some o) (hc : o.cls = .type n) (hd : o.data = .fields vs)
    (hn : ["enumerate", "zip", "dict_itemiterator", "dict_reverseitemiterator", "odict_iterator", "itertools.zip_longest", "itertools.pairwise"].contains n = false) (hQ : Q () s) : wpAny M A (letOwnedTupleGo tg (.ref it) u) Q E s := by
  unfold letOwnedTupleGo
  cases tg <;> first
    | exact wpAny_pure hQ
    | (cases u <;> first
        | exact wpAny_pure hQ
        | (refine wpAny_bind (wpAny_load ho ?_)
           rw [hc, hd]
           show wpAny M A (if (["enumerate", "zip", "dict_itemiterator", "dict_reverseitemiterator", "odict_iterator", "itertools.zip_longest", "itertools.pairwise"].contains n && vs[0]? == some (rawInt _)) = true then _ else _) Q E s
           rw [if_neg (by intro h; rw [hn, Bool.false_and] at h; cases h)]
           exact wpAny_pure hQ))
def Itl (K : PySem.W.Frag) (a : Addr) : It :=
  ⟨fun i H => ∃ xs x, SqL K H a xs ∧ xs[i]? = some x, fun i H x H' => H' = H ∧ ∀ xs, SqL K H a xs → xs[i]? = some x, fun i H => ∃ xs, SqL K H a xs ∧ xs.length ≤ i⟩
def Itt (K : PySem.W.Frag) (a : Addr) : It :=
  ⟨fun i H => ∃ xs x, SqT K H a xs ∧ xs[i]? = some x, fun i H x H' => H' = H ∧ ∀ xs, SqT K H a xs → xs[i]? = some x, fun i H => ∃ xs, SqT K H a xs ∧ xs.length ≤ i⟩
def Itr (lo : Int) (n : Nat) : It := ⟨fun i _ => i < n, fun i H x H' => H' = H ∧ x = .int (lo + i), fun i _ => n ≤ i⟩
theorem turn_list {P : Program} {w : World} {K : PySem.W.Frag} {tg : Expr} (a it : Addr) : Turn P w K tg (Itl K a) [it] it (fun i h => h.IsListIter it a i) where
  mem := by simp
  obj := fun i h st b hb => by
    have e : b = it := by simpa using hb
    subst e
    obtain ⟨o, e, c, d⟩ := st
    exact ⟨o, e, fun v z => by rw [d] at z; cases z⟩
  keep := fun i h h' st k => st.at fun o e => k it (by simp) o e
  item := by
    intro X hP hw hK hc i pins s σ H E I hf st hg
    subst hP hw hK
    obtain ⟨xs, x, hq, hx⟩ := hg
    obtain ⟨its, rv, p, hz⟩ := I.list hq
    obtain ⟨u, hu, ru⟩ := rv.get hx
    obtain ⟨f0, f1, f2, f3, f4, f5⟩ := hf it (by simp)
    refine wpAny_pyNext_list_item st p.isList (x := u) (by simpa using hu) fun h' st' sb => ?_
    have I1 : Inv X pins σ H { s with heap := h' } := I.turned (t' := s.toks) (fun b o hb e => (sb.2 b hb).trans e) f0 f1 f3 f4 f5
    obtain ⟨o, e, c, d⟩ := id st'
    exact ⟨u, rfl, go_of (s := { s with heap := h' }) e c d (by decide) ⟨x, H, I1, ru, ⟨rfl, fun ys hy => by rw [I.list_inj hy hq]; exact hx⟩, st', fun b hb => (hf b hb).1⟩⟩
  done := by
    intro X hP hw hK hc i pins s σ H E I hf st hg
    subst hP hw hK
    obtain ⟨xs, hq, hx⟩ := hg
    obtain ⟨its, rv, p, hz⟩ := I.list hq
    obtain ⟨f0, f1, f2, f3, f4, f5⟩ := hf it (by simp)
    have hl := rv.length
    exact wpAny_pyNext_list_end (I.ok.hd hc) st p.isList (by simp; omega) fun h' eb => ⟨rfl, I.turned (t' := s.toks) (fun b o hb e => eb b o hb e) f0 f1 f3 f4 f5⟩
  self := fun _ _ _ _ _ st h => wpAny_pyIter_listiter st h
theorem turn_tuple {P : Program} {w : World} {K : PySem.W.Frag} {tg : Expr} (a it : Addr) : Turn P w K tg (Itt K a) [it] it (fun i h => h.IsTupleIter it a i) where
  mem := by simp
  obj := fun i h st b hb => by
    have e : b = it := by simpa using hb
    subst e
    obtain ⟨o, e, c, d⟩ := st
    exact ⟨o, e, fun v z => by rw [d] at z; cases z⟩
  keep := fun i h h' st k => st.at fun o e => k it (by simp) o e
  item := by
    intro X hP hw hK hc i pins s σ H E I hf st hg
    subst hP hw hK
    obtain ⟨xs, x, hq, hx⟩ := hg
    obtain ⟨its, rv, p, hz⟩ := I.tuple hq
    obtain ⟨u, hu, ru⟩ := rv.get hx
    obtain ⟨f0, f1, f2, f3, f4, f5⟩ := hf it (by simp)
    refine wpAny_pyNext_tuple_item st (show s.heap.IsTuple a its.toArray from p) (x := u) (by simpa using hu) fun h' st' sb => ?_
    have I1 : Inv X pins σ H { s with heap := h' } := I.turned (t' := s.toks) (fun b o hb e => (sb.2 b hb).trans e) f0 f1 f3 f4 f5
    obtain ⟨o, e, c, d⟩ := id st'
    exact ⟨u, rfl, go_of (s := { s with heap := h' }) e c d (by decide) ⟨x, H, I1, ru, ⟨rfl, fun ys hy => by rw [I.tuple_inj hy hq]; exact hx⟩, st', fun b hb => (hf b hb).1⟩⟩
  done := by
    intro X hP hw hK hc i pins s σ H E I hf st hg
    subst hP hw hK
    obtain ⟨xs, hq, hx⟩ := hg
    obtain ⟨its, rv, p, hz⟩ := I.tuple hq
    obtain ⟨f0, f1, f2, f3, f4, f5⟩ := hf it (by simp)
    have hl := rv.length
    exact wpAny_pyNext_tuple_end (I.ok.hd hc) st (show s.heap.IsTuple a its.toArray from p) (by simp; omega) fun h' eb => ⟨rfl, I.turned (t' := s.toks) (fun b o hb e => eb b o hb e) f0 f1 f3 f4 f5⟩
  self := fun _ _ _ _ _ st h => wpAny_pyIter_tupleiter st h
theorem turn_range {P : Program} {w : World} {K : PySem.W.Frag} {tg : Expr} (it : Addr) (lo : Int) (n : Nat) : Turn P w K tg (Itr lo n) [it] it (fun i h => IsRangeIter h it (lo + (i : Nat) * 1) ((n : Int) - (i : Nat)) 1) where
  mem := by simp
  obj := fun i h st b hb => by
    have e : b = it := by simpa using hb
    subst e
    exact ⟨_, st, fun v z => by
      have z' : Data.fields _ = Data.cell v := z
      cases z'⟩
  keep := fun i h h' st k => k it (by simp) _ st
  item := by
    intro X hP hw hK hc i pins s σ H E I hf st hg
    subst hP hw hK
    obtain ⟨f0, f1, f2, f3, f4, f5⟩ := hf it (by simp)
    have W := Walks.range (prog := X.prog) (w := X.w) (I.ok.hd hc) it lo 1 n
    refine W.item i s _ _ hg st fun v h' tk hv st' kk => ?_
    obtain ⟨t, rfl⟩ := hv
    have I1 : Inv X pins σ H { s with heap := h', toks := tk } := I.turned (fun b o hb e => kk b o (by simpa using hb) e) f0 f1 f3 f4 f5
    refine ⟨_, rfl, go_of (s := { s with heap := h', toks := tk }) (n := "range_iterator") st' rfl rfl (by decide) ⟨.int (lo + i), H, I1, ⟨t, ?_⟩, ⟨rfl, rfl⟩, st', fun b hb => (hf b hb).1⟩⟩
    rw [Int.mul_one]
  done := by
    intro X hP hw hK hc i pins s σ H E I hf st hg
    subst hP hw hK
    obtain ⟨f0, f1, f2, f3, f4, f5⟩ := hf it (by simp)
    exact wpAny_pyNext_range_end (I.ok.hd hc) st (by have : n ≤ i := hg; omega) fun h' eb => ⟨rfl, I.turned (t' := s.toks) (fun b o hb e => eb b o hb e) f0 f1 f3 f4 f5⟩
  self := fun _ _ _ _ _ st h => wpAny_pyIter_rangeiter st h
end L2
namespace L2
open PySem PySem.Spec PyProof.Rows
section
variable {X : Cx} {tg : Expr}
def iList (K : PySem.W.Frag) (tl : TE) : TI := fun σ H R => tl σ H fun x H1 => ∃ a, x = .ref a ∧ (∃ xs, SqL K H1 a xs) ∧ R (Itl K a) H1
def iTup (K : PySem.W.Frag) (tl : TE) : TI := fun σ H R => tl σ H fun x H1 => ∃ a, x = .ref a ∧ (∃ xs, SqT K H1 a xs) ∧ R (Itt K a) H1
theorem pi_list {l : Expr} {tl : TE} (hl : PE X l tl) : PI X tg l (iList X.K tl) := by
  intro pins s σ H R I h
  refine thn (hl pins s σ H _ I h) fun v s1 ⟨x, H1, I1, r1, q1⟩ => ?_
  obtain ⟨a, e, ⟨xs, hq⟩, q⟩ := q1
  subst e
  cases r1
  obtain ⟨its, rv, p, hz⟩ := I1.list hq
  refine wpAny_pyIter_list p.isList ?_
  refine ⟨s1.heap.objs.size, [s1.heap.objs.size], _, _, H1, rfl, I1.kept (t' := s1.toks) fun b o e => Heap.get?_push_of_some _ e, turn_list a _, ⟨_, Heap.get?_push_size _ rfl, rfl, rfl⟩, fun b hb => ?_, q⟩
  have e : b = s1.heap.objs.size := by simpa using hb
  subst e
  exact I1.fpOk (Nat.le_refl _) (I1.hok.fresh (Nat.le_refl _))
theorem pi_tup {l : Expr} {tl : TE} (hl : PE X l tl) : PI X tg l (iTup X.K tl) := by
  intro pins s σ H R I h
  refine thn (hl pins s σ H _ I h) fun v s1 ⟨x, H1, I1, r1, q1⟩ => ?_
  obtain ⟨a, e, ⟨xs, hq⟩, q⟩ := q1
  subst e
  cases r1
  obtain ⟨its, rv, p, hz⟩ := I1.tuple hq
  refine wpAny_pyIter_tuple (show s1.heap.IsTuple a its.toArray from p) ?_
  refine ⟨s1.heap.objs.size, [s1.heap.objs.size], _, _, H1, rfl, I1.kept (t' := s1.toks) fun b o e => Heap.get?_push_of_some _ e, turn_tuple a _, ⟨_, Heap.get?_push_size _ rfl, rfl, rfl⟩, fun b hb => ?_, q⟩
  have e : b = s1.heap.objs.size := by simpa using hb
  subst e
  exact I1.fpOk (Nat.le_refl _) (I1.hok.fresh (Nat.le_refl _))
theorem range_it {pins : List (Addr × Obj)} {σ : St} {H : Hp} {s : Shared} {R : It → Hp → Prop} {E : Value → Shared → Prop} {lo hi : Int} {t u v : Tok} {tk : Nat} (I : Inv X pins σ H s) (h1 : -(2 ^ 62) ≤ lo) (h2 : lo < 2 ^ 62) (h3 : -(2 ^ 62) ≤ hi) (h4 : hi < 2 ^ 62)
    (q : R (Itr lo (hi - lo).toNat) H) : wpAny (model X.prog X.w) X.A (pyIter (.ref s.heap.objs.size)) (PIE X pins σ tg R) E { s with heap := s.heap.push { cls := .type "range", data := .fields #[.int lo t, .int hi u, .int 1 v] }, toks := tk } := by
  refine wpAny_pyIter_range (IsRange.new ..) (small_one h1 h2 h3 h4) ?_
  have I1 : Inv X pins σ H { s with heap := s.heap.push { cls := .type "range", data := .fields #[.int lo t, .int hi u, .int 1 v] }, toks := tk } := I.kept fun b o e => Heap.get?_push_of_some _ e
  refine ⟨(s.heap.push { cls := .type "range", data := .fields #[.int lo t, .int hi u, .int 1 v] }).objs.size, [(s.heap.push { cls := .type "range", data := .fields #[.int lo t, .int hi u, .int 1 v] }).objs.size], _, _, H, rfl,
    I1.kept (t' := tk) fun b o e => Heap.get?_push_of_some _ e, turn_range _ lo (hi - lo).toNat, ?_, fun b hb => ?_, q⟩
  · have e1 : lo + ((0 : Nat) : Int) * 1 = lo := by simp
    have e2 : (((hi - lo).toNat : Nat) : Int) - ((0 : Nat) : Int) = Builtin.Range.rangeSize lo hi 1 := by rw [rangeSize_one]; split <;> omega
    show IsRangeIter _ _ (lo + ((0 : Nat) : Int) * 1) ((((hi - lo).toNat : Nat) : Int) - ((0 : Nat) : Int)) 1
    rw [e1, e2]
    exact Heap.get?_push_size _ rfl
  · have e : b = (s.heap.push { cls := .type "range", data := .fields #[.int lo t, .int hi u, .int 1 v] }).objs.size := by simpa using hb
    subst e
    exact I1.fpOk (Nat.le_refl _) (I1.hok.fresh (Nat.le_refl _))
def iRng1 (ta : TA) : TI := fun σ H R => ta σ H fun vs H1 => ∃ j : Int, vs = [.int j] ∧ -(2 ^ 62) ≤ j ∧ j < 2 ^ 62 ∧ R (Itr 0 j.toNat) H1
theorem pi_range1 {a : Expr} {ta : TA} {p pos : Pos} (hg : Gl X "range") (hm : X.mg "range" = none) (ha : PA X [a] ta) (hs : starEach [a] X.env = [(false, eval a X.env)] := by rfl) : PI X tg (.Call (.Name "range" p) [a] [] pos) (iRng1 ta) := by
  intro pins s σ H R I h
  refine Call_ (ld_blt I hg hm boot_range (PyProof.Rows.callWith_type1 (thn (ha pos pins s σ H _ I h) fun us s1 ⟨vs, H1, I1, r1, q1⟩ => ?_) hs rfl))
  obtain ⟨j, e, q1, q2, q⟩ := q1
  subst e
  cases r1 with
  | cons r rr =>
    cases rr
    obtain ⟨t, rfl⟩ := r
    exact call_range_1 (range_it I1 (by omega) (by omega) q1 q2 (by simpa using q))
def tFor (wi : TI) (g : TG) (tb : TS) : TS := fun D σ H => wi σ H fun J H1 => ∃ W : Nat → Nat → St → Hp → Prop, (∃ m, W 0 m σ H1) ∧ ∀ i m σ H, W i m σ H →
  (J.stop i H ∧ D.nx σ H) ∨ (J.go i H ∧ ∃ N : St → Hp → Prop, (∀ σ' H', N σ' H' → ∃ m', m' < m ∧ W (i + 1) m' σ' H') ∧ ∀ x H', J.yld i H x H' → g x σ H' fun σ2 H2 => tb { D with nx := N, ct := N, bk := D.nx } σ2 H2)
def pinsAt (fp : List Addr) (h : Heap) : List (Addr × Obj) := fp.filterMap fun b => (h.get? b).map fun o => (b, o)
theorem mem_pinsAt {fp : List Addr} {h : Heap} {b : Addr} {o : Obj} (hb : b ∈ fp) (e : h.get? b = some o) : (b, o) ∈ pinsAt fp h := List.mem_filterMap.mpr ⟨b, hb, by rw [e]; rfl⟩
theorem of_pinsAt {fp : List Addr} {h : Heap} {p : Addr × Obj} (hp : p ∈ pinsAt fp h) : p.1 ∈ fp ∧ h.get? p.1 = some p.2 := by
  obtain ⟨b, hb, e⟩ := List.mem_filterMap.mp hp
  cases q : h.get? b with
  | none => rw [q] at e; cases e
  | some o =>
    rw [q] at e
    have e' : (b, o) = p := Option.some.inj e
    subst e'
    exact ⟨hb, q⟩
theorem Inv.pinned {pins : List (Addr × Obj)} {σ : St} {H : Hp} {s : Shared} {fp : List Addr} (I : Inv X pins σ H s) (hf : ∀ b ∈ fp, FpOk X pins H b) (ho : ∀ b ∈ fp, ∃ o, s.heap.get? b = some o ∧ ∀ v, o.data ≠ .cell v) : Inv X (pins ++ pinsAt fp s.heap) σ H s :=
  I.pins_of fun p hp => (List.mem_append.mp hp).elim (fun z => I.pin p (List.mem_append_right _ z)) fun z => by
    obtain ⟨hb, e⟩ := of_pinsAt z
    obtain ⟨f0, f1, f2, _⟩ := hf p.1 hb
    obtain ⟨o, e', d⟩ := ho p.1 hb
    rw [e] at e'; cases e'
    exact ⟨e, f0, f1, f2, d⟩
theorem Inv.unpinned {pins pl : List (Addr × Obj)} {σ : St} {H : Hp} {s : Shared} (I : Inv X (pins ++ pl) σ H s) : Inv X pins σ H s := I.pins_of fun p hp => I.pin p (List.mem_append_right _ (List.mem_append_left _ hp))
theorem ps_for {iter : Expr} {body : List Stmt} {wi : TI} {g : TG} {tb : TS} {pos : Pos} (hp : PassesOwn (model X.prog X.w) X.A X.env X.xe) (hc : X.calm = true) (hi : PI X tg iter wi) (hg : PG X tg g) (hb : PSs X body tb)
    (hs : ∀ x, foldedSetIterable iter X.env x = pure x := by intro _; rfl) : PS X (.For tg iter body [] pos) (tFor wi g tb) := by
  intro pins s σ H D I h
  refine wpAny_For (thn (hi pins s σ H _ I h) fun v s1 h1 => thn h1 fun itv s2 h2 => ?_) hs
  obtain ⟨it, fp, tn, J, H2, e, I2, T, st2, f2, W, ⟨m0, w0⟩, turn⟩ := h2
  subst e
  have stat : ∀ {H' : Hp}, (∀ b ∈ fp, H' b = none) → ∀ b ∈ fp, FpOk X pins H' b := fun hn b hb => ⟨hn b hb, (f2 b hb).2⟩
  refine codeAny_forLoop_any (fun n s' => ∃ i σ' H', Inv X pins σ' H' s' ∧ tn i s'.heap ∧ (∀ b ∈ fp, H' b = none) ∧ W i n σ' H') ?_ m0 ⟨0, σ, H2, I2, st2, fun b hb => (f2 b hb).1, w0⟩
  rintro n s3 ⟨i, σ3, H3, I3, st3, fr3, w3⟩
  rcases turn i n σ3 H3 w3 with ⟨stop, qn⟩ | ⟨go, N, hN, step⟩
  · refine wpAny_passesOwn hp (thn (T.done X rfl rfl rfl hc i pins s3 σ3 H3 X.xe I3 (stat fr3) st3 stop) fun r s4 ⟨hr, I4⟩ => ?_)
    subst hr
    exact wpAny_execs_nil ⟨σ3, H3, I4, qn⟩
  · refine wpAny_passesOwn hp (thn (T.item X rfl rfl rfl hc i pins s3 σ3 H3 X.xe I3 (stat fr3) st3 go) fun r s4 ⟨u, hr, h4⟩ => ?_)
    subst hr
    refine wpAny_passesOwn hp (thn h4 fun _ s5 ⟨x, H5, I5, r5, y5, st5, fr5⟩ => ?_)
    have I5' := I5.pinned (stat fr5) (T.obj _ _ st5)
    refine wpAny_passesOwn hp (thn (hg _ s5 σ3 H5 x u _ I5' r5 (step x H5 y5)) fun _ s6 ⟨σ6, H6, I6, q6⟩ => ?_)
    refine wpAny_passesOwn hp (thn (hb _ s6 σ6 H6 _ I6 q6) fun f s7 q7 => ?_)
    have again : ∀ {σ7 : St} {H7 : Hp}, Inv X (pins ++ pinsAt fp s5.heap) σ7 H7 s7 → N σ7 H7 → ∃ m, m < n ∧ ∃ i σ' H', Inv X pins σ' H' s7 ∧ tn i s7.heap ∧ (∀ b ∈ fp, H' b = none) ∧ W i m σ' H' := fun {σ7 H7} I7 n7 => by
      obtain ⟨m', hm, w7⟩ := hN σ7 H7 n7
      refine ⟨m', hm, i + 1, σ7, H7, I7.unpinned, T.keep _ _ _ st5 fun b hb o e => (I7.pin (b, o) (List.mem_append_right _ (List.mem_append_right _ (mem_pinsAt hb e)))).1, fun b hb => ?_, w7⟩
      obtain ⟨o, e, d⟩ := T.obj _ _ st5 b hb
      exact (I7.pin (b, o) (List.mem_append_right _ (List.mem_append_right _ (mem_pinsAt hb e)))).2.1
    cases f with
    | next => obtain ⟨σ7, H7, I7, n7⟩ := q7; exact again I7 n7
    | cont => obtain ⟨σ7, H7, I7, n7⟩ := q7; exact again I7 n7
    | brk => obtain ⟨σ7, H7, I7, q7⟩ := q7; exact ⟨σ7, H7, I7.unpinned, q7⟩
    | ret v => obtain ⟨x7, σ7, H7, I7, r7, q7⟩ := q7; exact ⟨x7, σ7, H7, I7.unpinned, r7, q7⟩
end
theorem for_list {K : PySem.W.Frag} {a : Addr} {xs : List V} {g : TG} {tb : TS} {D : Ends} {σ : St} {H : Hp} (Pv : Nat → St → Hp → Prop) (h0 : Pv 0 σ H) (hl : ∀ i σ H, i ≤ xs.length → Pv i σ H → SqL K H a xs)
    (hs : ∀ i x σ H, xs[i]? = some x → Pv i σ H → g x σ H fun σ2 H2 => tb { D with nx := Pv (i + 1), ct := Pv (i + 1), bk := D.nx } σ2 H2) (hd : ∀ σ H, Pv xs.length σ H → D.nx σ H) :
    ∃ W : Nat → Nat → St → Hp → Prop, (∃ m, W 0 m σ H) ∧ ∀ i m σ H, W i m σ H →
      ((Itl K a).stop i H ∧ D.nx σ H) ∨ ((Itl K a).go i H ∧ ∃ N : St → Hp → Prop, (∀ σ' H', N σ' H' → ∃ m', m' < m ∧ W (i + 1) m' σ' H') ∧ ∀ x H', (Itl K a).yld i H x H' → g x σ H' fun σ2 H2 => tb { D with nx := N, ct := N, bk := D.nx } σ2 H2) := by
  refine ⟨fun i m σ H => m = xs.length - i ∧ i ≤ xs.length ∧ Pv i σ H, ⟨xs.length, by simp, Nat.zero_le _, h0⟩, ?_⟩
  rintro i m σ H ⟨rfl, hi, p⟩
  have q := hl i σ H hi p
  by_cases hlt : i < xs.length
  · refine .inr ⟨⟨xs, xs[i], q, by simp [hlt]⟩, Pv (i + 1), fun σ' H' p' => ⟨xs.length - (i + 1), by omega, rfl, hlt, p'⟩, fun x H' y => ?_⟩
    obtain ⟨e, y⟩ := y
    subst e
    exact hs i x σ _ (y xs q) p
  · have e : i = xs.length := by omega
    subst e
    exact .inl ⟨⟨xs, q, Nat.le_refl _⟩, hd σ H p⟩
theorem for_tup {K : PySem.W.Frag} {a : Addr} {xs : List V} {g : TG} {tb : TS} {D : Ends} {σ : St} {H : Hp} (Pv : Nat → St → Hp → Prop) (h0 : Pv 0 σ H) (hl : ∀ i σ H, i ≤ xs.length → Pv i σ H → SqT K H a xs)
    (hs : ∀ i x σ H, xs[i]? = some x → Pv i σ H → g x σ H fun σ2 H2 => tb { D with nx := Pv (i + 1), ct := Pv (i + 1), bk := D.nx } σ2 H2) (hd : ∀ σ H, Pv xs.length σ H → D.nx σ H) :
    ∃ W : Nat → Nat → St → Hp → Prop, (∃ m, W 0 m σ H) ∧ ∀ i m σ H, W i m σ H →
      ((Itt K a).stop i H ∧ D.nx σ H) ∨ ((Itt K a).go i H ∧ ∃ N : St → Hp → Prop, (∀ σ' H', N σ' H' → ∃ m', m' < m ∧ W (i + 1) m' σ' H') ∧ ∀ x H', (Itt K a).yld i H x H' → g x σ H' fun σ2 H2 => tb { D with nx := N, ct := N, bk := D.nx } σ2 H2) := by
  refine ⟨fun i m σ H => m = xs.length - i ∧ i ≤ xs.length ∧ Pv i σ H, ⟨xs.length, by simp, Nat.zero_le _, h0⟩, ?_⟩
  rintro i m σ H ⟨rfl, hi, p⟩
  have q := hl i σ H hi p
  by_cases hlt : i < xs.length
  · refine .inr ⟨⟨xs, xs[i], q, by simp [hlt]⟩, Pv (i + 1), fun σ' H' p' => ⟨xs.length - (i + 1), by omega, rfl, hlt, p'⟩, fun x H' y => ?_⟩
    obtain ⟨e, y⟩ := y
    subst e
    exact hs i x σ _ (y xs q) p
  · have e : i = xs.length := by omega
    subst e
    exact .inl ⟨⟨xs, q, Nat.le_refl _⟩, hd σ H p⟩
theorem for_range {lo : Int} {n : Nat} {g : TG} {tb : TS} {D : Ends} {σ : St} {H : Hp} (Pv : Nat → St → Hp → Prop) (h0 : Pv 0 σ H)
    (hs : ∀ i σ H, i < n → Pv i σ H → g (.int (lo + i)) σ H fun σ2 H2 => tb { D with nx := Pv (i + 1), ct := Pv (i + 1), bk := D.nx } σ2 H2) (hd : ∀ σ H, Pv n σ H → D.nx σ H) :
    ∃ W : Nat → Nat → St → Hp → Prop, (∃ m, W 0 m σ H) ∧ ∀ i m σ H, W i m σ H →
      ((Itr lo n).stop i H ∧ D.nx σ H) ∨ ((Itr lo n).go i H ∧ ∃ N : St → Hp → Prop, (∀ σ' H', N σ' H' → ∃ m', m' < m ∧ W (i + 1) m' σ' H') ∧ ∀ x H', (Itr lo n).yld i H x H' → g x σ H' fun σ2 H2 => tb { D with nx := N, ct := N, bk := D.nx } σ2 H2) := by
  refine ⟨fun i m σ H => m = n - i ∧ i ≤ n ∧ Pv i σ H, ⟨n, by simp, Nat.zero_le _, h0⟩, ?_⟩
  rintro i m σ H ⟨rfl, hi, p⟩
  by_cases hlt : i < n
  · refine .inr ⟨hlt, Pv (i + 1), fun σ' H' p' => ⟨n - (i + 1), by omega, rfl, hlt, p'⟩, fun x H' y => ?_⟩
    obtain ⟨e, y⟩ := y
    subst e y
    exact hs i σ _ hlt p
  · have e : i = n := by omega
    subst e
    exact .inl ⟨Nat.le_refl _, hd σ H p⟩
end L2
namespace L2
open PySem PySem.Spec PyProof.Rows
abbrev R2 := V → V → Hp → VK → Prop
def OpR (X : Cx) (f : Value → Value → Sem Value) (r : R2) : Prop :=
  ∀ (pins : List (Addr × Obj)) (s : Shared) (σ : St) (H : Hp) (x y : V) (v u : Value) (Q : VK), Inv X pins σ H s → RelV x v → RelV y u → r x y H Q →
    wpAny (model X.prog X.w) X.A (f v u) (EP X pins σ Q) X.xe s
def UnR (X : Cx) (f : Value → Sem Value) (r : V → Hp → VK → Prop) : Prop :=
  ∀ (pins : List (Addr × Obj)) (s : Shared) (σ : St) (H : Hp) (x : V) (v : Value) (Q : VK), Inv X pins σ H s → RelV x v → r x H Q →
    wpAny (model X.prog X.w) X.A (f v) (EP X pins σ Q) X.xe s
def CallR (X : Cx) (f : Value) (r : List V → Hp → VK → Prop) : Prop :=
  ∀ (pins : List (Addr × Obj)) (s : Shared) (σ : St) (H : Hp) (xs : List V) (us : List Value) (Q : VK), Inv X pins σ H s → Vals xs us → r xs H Q →
    wpAny (model X.prog X.w) X.A (call f us) (EP X pins σ Q) X.xe s
def TruR (X : Cx) (r : V → Hp → (Bool → Hp → Prop) → Prop) : Prop :=
  ∀ (pins : List (Addr × Obj)) (s : Shared) (σ : St) (H : Hp) (x : V) (v : Value) (Q : Bool → Hp → Prop), Inv X pins σ H s → RelV x v → r x H Q →
    wpAny (model X.prog X.w) X.A (truthy v) (TP X pins σ Q) X.xe s
def tOp (r : R2) (ta tb : TE) : TE := fun σ H Q => ta σ H fun x H1 => tb σ H1 fun y H2 => r x y H2 Q
def tUn (r : V → Hp → VK → Prop) (ta : TE) : TE := fun σ H Q => ta σ H fun x H1 => r x H1 Q
def rI (C : Int → Int → Prop) (g : Int → Int → V) : R2 := fun x y H Q => ∃ i j, x = .int i ∧ y = .int j ∧ C i j ∧ Q (g i j) H
def rI0 (g : Int → Int → V) : R2 := fun x y H Q => ∃ i j, x = .int i ∧ y = .int j ∧ Q (g i j) H
def rU (g : Int → V) : V → Hp → VK → Prop := fun x H Q => ∃ i, x = .int i ∧ Q (g i) H
section
variable {X : Cx} {a b c : Expr} {ta tb tc : TE} {pos : Pos}
theorem binT (ha : PE X a ta) (hb : PE X b tb) {pins : List (Addr × Obj)} {s : Shared} {σ : St} {H : Hp} {R : V → V → Hp → Prop} (I : Inv X pins σ H s)
    (h : ta σ H fun x H1 => tb σ H1 fun y H2 => R x y H2) {Q : Value → Shared → Prop} {f : Value → Value → Sem Value}
    (hf : ∀ v u s2 x y H2, Inv X pins σ H2 s2 → RelV x v → RelV y u → R x y H2 → wpAny (model X.prog X.w) X.A (f v u) Q X.xe s2) :
    wpAny (model X.prog X.w) X.A (eval a X.env) (fun v s₁ => wpAny (model X.prog X.w) X.A (eval b X.env) (fun u s₂ => wpAny (model X.prog X.w) X.A (f v u) Q X.xe s₂) X.xe s₁) X.xe s := by
  refine thn (ha pins s σ H _ I h) fun v s1 ⟨x, H1, I1, r1, q1⟩ => ?_
  refine thn (hb pins s1 σ H1 _ I1 q1) fun u s2 ⟨y, H2, I2, r2, q2⟩ => ?_
  exact hf v u s2 x y H2 I2 r1 r2 q2
theorem pe_op {op : Operator} {r : R2} (ho : OpR X (binaryOp op) r) (ha : PE X a ta) (hb : PE X b tb) : PE X (.BinOp a op b pos) (tOp r ta tb) := by
  intro pins s σ H Q I h
  exact wpAny_BinOp (binT ha hb I h fun v u s2 x y H2 I2 rx ry q => ho pins s2 σ H2 x y v u Q I2 rx ry q)
theorem pe_un {op : UnaryOp} {r : V → Hp → VK → Prop} (ho : UnR X (unaryOp op) r) (ha : PE X a ta) : PE X (.UnaryOp op a pos) (tUn r ta) := by
  intro pins s σ H Q I h
  exact UnaryOp_ (thn (ha pins s σ H _ I h) fun v s1 ⟨x, H1, I1, r1, q1⟩ => ho pins s1 σ H1 x v Q I1 r1 q1)
theorem opI {f : Value → Value → Sem Value} {C : Int → Int → Prop} {g : Int → Int → Int}
    (rule : ∀ (i j : Int) (t u : Tok) (s : Shared) (Q : Value → Shared → Prop) (E : Value → Shared → Prop), C i j → Q (.int (g i j) s.toks) { s with toks := s.toks + 1 } → wpAny (model X.prog X.w) X.A (f (.int i t) (.int j u)) Q E s) :
    OpR X f (rI C fun i j => .int (g i j)) := by
  intro pins s σ H x y v u Q I rx ry h
  obtain ⟨i, j, rfl, rfl, hc, q⟩ := h
  obtain ⟨t, rfl⟩ := rx
  obtain ⟨t', rfl⟩ := ry
  exact rule i j t t' s _ _ hc ⟨.int (g i j), H, I.tok _, ⟨_, rfl⟩, q⟩
theorem opI0 {f : Value → Value → Sem Value} {g : Int → Int → Int}
    (rule : ∀ (i j : Int) (t u : Tok) (s : Shared) (Q : Value → Shared → Prop) (E : Value → Shared → Prop), Q (.int (g i j) s.toks) { s with toks := s.toks + 1 } → wpAny (model X.prog X.w) X.A (f (.int i t) (.int j u)) Q E s) :
    OpR X f (rI0 fun i j => .int (g i j)) := by
  intro pins s σ H x y v u Q I rx ry h
  obtain ⟨i, j, rfl, rfl, q⟩ := h
  obtain ⟨t, rfl⟩ := rx
  obtain ⟨t', rfl⟩ := ry
  exact rule i j t t' s _ _ ⟨.int (g i j), H, I.tok _, ⟨_, rfl⟩, q⟩
theorem opB0 {f : Value → Value → Sem Value} {g : Int → Int → Bool}
    (rule : ∀ (i j : Int) (t u : Tok) (s : Shared) (Q : Value → Shared → Prop) (E : Value → Shared → Prop), Q (.bool (g i j)) s → wpAny (model X.prog X.w) X.A (f (.int i t) (.int j u)) Q E s) :
    OpR X f (rI0 fun i j => .bl (g i j)) := by
  intro pins s σ H x y v u Q I rx ry h
  obtain ⟨i, j, rfl, rfl, q⟩ := h
  obtain ⟨t, rfl⟩ := rx
  obtain ⟨t', rfl⟩ := ry
  exact rule i j t t' s _ _ ⟨.bl (g i j), H, I, rfl, q⟩
def CDiv (i j : Int) : Prop := 0 < j ∧ j < 1073741824
def CMul (i j : Int) : Prop := (-(2 ^ 64) < i ∧ i < 2 ^ 64) ∨ (-(2 ^ 64) < j ∧ j < 2 ^ 64)
theorem CMul.ok {i j : Int} (h : CMul i j) : IntMulOk i j := by
  rcases h with ⟨h1, h2⟩ | ⟨h1, h2⟩
  · exact .of_left (intBits_le_64 h1 h2)
  · exact .of_right (intBits_le_64 h1 h2)
theorem op_add : OpR X (binaryOp .Add) (rI0 fun i j => .int (i + j)) := opI0 fun _ _ _ _ _ _ _ q => add_int q
theorem op_sub : OpR X (binaryOp .Sub) (rI0 fun i j => .int (i - j)) := opI0 fun _ _ _ _ _ _ _ q => sub_int q
theorem op_mul : OpR X (binaryOp .Mult) (rI CMul fun i j => .int (i * j)) := opI fun _ _ _ _ _ _ _ hc q => mul_int q hc.ok
theorem op_fdiv : OpR X (binaryOp .FloorDiv) (rI CDiv fun i j => .int (i / j)) := opI fun i j _ _ _ _ _ hc q => by
  have h1 : (0 : Int) < j := hc.1
  have h2 : j < 1073741824 := hc.2
  exact floordiv_int (by omega) (by rw [Int.fdiv_eq_ediv_of_nonneg i (by omega)]; exact q) (.inl (PyProof.noPylong_small (by omega)))
theorem op_mod : OpR X (binaryOp .Mod) (rI (fun _ j => 0 < j) fun i j => .int (i % j)) := opI fun i j _ _ _ _ _ hc q => by
  have h1 : (0 : Int) < j := hc
  exact mod_int' (by omega) (by rw [Int.fmod_eq_emod_of_nonneg i (by omega)]; exact q)
theorem unI {f : Value → Sem Value} {g : Int → Int}
    (rule : ∀ (i : Int) (t : Tok) (s : Shared) (Q : Value → Shared → Prop) (E : Value → Shared → Prop), Q (.int (g i) s.toks) { s with toks := s.toks + 1 } → wpAny (model X.prog X.w) X.A (f (.int i t)) Q E s) :
    UnR X f (rU fun i => .int (g i)) := by
  intro pins s σ H x v Q I rx h
  obtain ⟨i, rfl, q⟩ := h
  obtain ⟨t, rfl⟩ := rx
  exact rule i t s _ _ ⟨.int (g i), H, I.tok _, ⟨_, rfl⟩, q⟩
theorem un_neg : UnR X (unaryOp .USub) (rU fun i => .int (-i)) := unI fun _ _ _ _ _ q => neg_int q
end
def scal : V → V → Bool
  | .non, .non => true | .non, .int _ => true | .int _, .non => true | .non, .bl _ => true | .bl _, .non => true | .non, .str _ => true | .str _, .non => true
  | .int _, .int _ => true | .bl _, .bl _ => true | .str _, .str _ => true | .byt _, .byt _ => true
  | .int _, .str _ => true | .str _, .int _ => true | .bl _, .str _ => true | .str _, .bl _ => true
  | _, _ => false
def rEq : R2 := fun x y H Q => scal x y = true ∧ Q (.bl (decide (x = y))) H
def rNe : R2 := fun x y H Q => scal x y = true ∧ Q (.bl (!decide (x = y))) H
theorem dec_int {i j : Int} : decide (V.int i = V.int j) = (i == j) := by
  rw [Bool.eq_iff_iff]
  simp
theorem dec_bl {i j : Bool} : decide (V.bl i = V.bl j) = (i == j) := by
  rw [Bool.eq_iff_iff]
  simp
theorem dec_str {i j : Str} : decide (V.str i = V.str j) = (i == j) := by
  rw [Bool.eq_iff_iff]
  simp
theorem dec_byt {i j : Array UInt8} : decide (V.byt i = V.byt j) = (i.toList == j.toList) := by
  rw [Bool.eq_iff_iff]
  cases i
  cases j
  simp
section
variable {X : Cx} {a b c : Expr} {ta tb tc : TE} {pos : Pos}
theorem fin_bl {pins : List (Addr × Obj)} {σ : St} {H : Hp} {s : Shared} {Q : VK} {k k' : Bool} (I : Inv X pins σ H s) (q : Q (.bl k) H) (e : k = k') : EP X pins σ Q (.bool k') s := by
  subst e
  exact ⟨.bl k, H, I, rfl, q⟩
theorem op_eq : OpR X (compareOp .Eq) rEq := by
  intro pins s σ H x y v u Q I rx ry h
  obtain ⟨hs, q⟩ := h
  cases x with
  | non =>
    cases rx
    cases y with
    | non => cases ry; exact PySem.EqNone.eq_none_none (fin_bl I q (by simp))
    | bl j => cases ry; exact PySem.EqNone.eq_none_bool (fin_bl I q (by simp))
    | int j => obtain ⟨t', rfl⟩ := ry; exact PySem.EqNone.eq_none_int (fin_bl I q (by simp))
    | str j => obtain ⟨t', rfl⟩ := ry; exact PySem.EqNone.eq_none_str (fin_bl I q (by simp))
    | _ => exact absurd (show false = true from hs) Bool.false_ne_true
  | bl i =>
    cases rx
    cases y with
    | non => cases ry; exact PySem.EqNone.eq_bool_none (fin_bl I q (by simp))
    | bl j => cases ry; exact eq_bool (fin_bl I q dec_bl)
    | str j => obtain ⟨t', rfl⟩ := ry; exact PySem.EqMixed.eq_bool_str (fin_bl I q (by simp))
    | _ => exact absurd (show false = true from hs) Bool.false_ne_true
  | int i =>
    obtain ⟨t, rfl⟩ := rx
    cases y with
    | non => cases ry; exact PySem.EqNone.eq_int_none (fin_bl I q (by simp))
    | int j => obtain ⟨t', rfl⟩ := ry; exact eq_int (fin_bl I q dec_int)
    | str j => obtain ⟨t', rfl⟩ := ry; exact PySem.EqMixed.eq_int_str (fin_bl I q (by simp))
    | _ => exact absurd (show false = true from hs) Bool.false_ne_true
  | str i =>
    obtain ⟨t, rfl⟩ := rx
    cases y with
    | non => cases ry; exact PySem.EqNone.eq_str_none (fin_bl I q (by simp))
    | bl j => cases ry; exact PySem.EqMixed.eq_str_bool (fin_bl I q (by simp))
    | int j => obtain ⟨t', rfl⟩ := ry; exact PySem.EqMixed.eq_str_int (fin_bl I q (by simp))
    | str j => obtain ⟨t', rfl⟩ := ry; exact eq_str (fin_bl I q dec_str)
    | _ => exact absurd (show false = true from hs) Bool.false_ne_true
  | byt i =>
    obtain ⟨t, rfl⟩ := rx
    cases y with
    | byt j => obtain ⟨t', rfl⟩ := ry; exact PySem.W.eq_bytes (fin_bl I q dec_byt)
    | _ => exact absurd (show false = true from hs) Bool.false_ne_true
  | _ => cases y <;> exact absurd (show false = true from hs) Bool.false_ne_true
theorem op_ne : OpR X (compareOp .NotEq) rNe := by
  intro pins s σ H x y v u Q I rx ry h
  obtain ⟨hs, q⟩ := h
  cases x with
  | non =>
    cases rx
    cases y with
    | non => cases ry; exact PySem.EqNone.ne_none_none (fin_bl I q (by simp))
    | bl j => cases ry; exact PySem.EqNone.ne_none_bool (fin_bl I q (by simp))
    | int j => obtain ⟨t', rfl⟩ := ry; exact PySem.EqNone.ne_none_int (fin_bl I q (by simp))
    | str j => obtain ⟨t', rfl⟩ := ry; exact PySem.EqNone.ne_none_str (fin_bl I q (by simp))
    | _ => exact absurd (show false = true from hs) Bool.false_ne_true
  | bl i =>
    cases rx
    cases y with
    | non => cases ry; exact PySem.EqNone.ne_bool_none (fin_bl I q (by simp))
    | bl j => cases ry; exact ne_bool (fin_bl I q (congrArg not dec_bl))
    | str j => obtain ⟨t', rfl⟩ := ry; exact PySem.EqMixed.ne_bool_str (fin_bl I q (by simp))
    | _ => exact absurd (show false = true from hs) Bool.false_ne_true
  | int i =>
    obtain ⟨t, rfl⟩ := rx
    cases y with
    | non => cases ry; exact PySem.EqNone.ne_int_none (fin_bl I q (by simp))
    | int j => obtain ⟨t', rfl⟩ := ry; exact ne_int (fin_bl I q (congrArg not dec_int))
    | str j => obtain ⟨t', rfl⟩ := ry; exact PySem.EqMixed.ne_int_str (fin_bl I q (by simp))
    | _ => exact absurd (show false = true from hs) Bool.false_ne_true
  | str i =>
    obtain ⟨t, rfl⟩ := rx
    cases y with
    | non => cases ry; exact PySem.EqNone.ne_str_none (fin_bl I q (by simp))
    | bl j => cases ry; exact PySem.EqMixed.ne_str_bool (fin_bl I q (by simp))
    | int j => obtain ⟨t', rfl⟩ := ry; exact PySem.EqMixed.ne_str_int (fin_bl I q (by simp))
    | str j => obtain ⟨t', rfl⟩ := ry; exact ne_str (fin_bl I q (congrArg not dec_str))
    | _ => exact absurd (show false = true from hs) Bool.false_ne_true
  | byt i =>
    obtain ⟨t, rfl⟩ := rx
    cases y with
    | byt j => obtain ⟨t', rfl⟩ := ry; exact PySem.W.ne_bytes (fin_bl I q (congrArg not dec_byt))
    | _ => exact absurd (show false = true from hs) Bool.false_ne_true
  | _ => cases y <;> exact absurd (show false = true from hs) Bool.false_ne_true
theorem op_lt : OpR X (compareOp .Lt) (rI0 fun i j => .bl (decide (i < j))) := opB0 fun _ _ _ _ _ _ _ q => lt_int q
theorem op_le : OpR X (compareOp .LtE) (rI0 fun i j => .bl (decide (i ≤ j))) := opB0 fun _ _ _ _ _ _ _ q => le_int q
theorem op_gt : OpR X (compareOp .Gt) (rI0 fun i j => .bl (decide (j < i))) := opB0 fun _ _ _ _ _ _ _ q => gt_int q
theorem op_ge : OpR X (compareOp .GtE) (rI0 fun i j => .bl (decide (j ≤ i))) := opB0 fun _ _ _ _ _ _ _ q => ge_int q
theorem op_in_str : OpR X (compareOp .In) (fun x y H Q => ∃ i j, x = .str i ∧ y = .str j ∧ Q (.bl (!(Builtin.Str.occurrences j i 0 j.length 1).isEmpty)) H) := by
  intro pins s σ H x y v u Q I rx ry h
  obtain ⟨i, j, rfl, rfl, q⟩ := h
  obtain ⟨t, rfl⟩ := rx
  obtain ⟨t', rfl⟩ := ry
  exact in_str (fin_bl I q rfl)
theorem op_notN : OpR X (compareOp .IsNot) (fun x y H Q => y = .non ∧ Q (.bl (!decide (x = .non))) H) := by
  intro pins s σ H x y v u Q I rx ry h
  obtain ⟨rfl, q⟩ := h
  cases ry
  refine isnot_none_gen (fin_bl I q ?_)
  cases x <;> first
    | (cases rx; rfl)
    | (obtain ⟨t, rfl⟩ := rx; rfl)
theorem op_notin_str : OpR X (compareOp .NotIn) (fun x y H Q => ∃ i j, x = .str i ∧ y = .str j ∧ Q (.bl (!(!(Builtin.Str.occurrences j i 0 j.length 1).isEmpty))) H) := by
  intro pins s σ H x y v u Q I rx ry h
  obtain ⟨i, j, rfl, rfl, q⟩ := h
  obtain ⟨t, rfl⟩ := rx
  obtain ⟨t', rfl⟩ := ry
  exact notIn_str (fin_bl I q rfl)
theorem nomark (b : Expr) {op : CmpOp} (h : op ≠ .In := by decide) (h2 : op ≠ .NotIn := by decide) : behindInMarks op b = false := by
  have e1 : (op == CmpOp.In) = false := by cases op <;> first | rfl | exact absurd rfl h
  have e2 : (op == CmpOp.NotIn) = false := by cases op <;> first | rfl | exact absurd rfl h2
  cases b <;> simp [behindInMarks, e1, e2]
theorem pe_cmpR {op : CmpOp} {r : R2} (ho : OpR X (compareOp op) r) (ha : PE X a ta) (hb : PE X b tb) (hm : behindInMarks op b = false) : PE X (.Compare a [op] [b] pos) (tOp r ta tb) := by
  intro pins s σ H Q I h
  exact wpAny_Compare1 (binT ha hb I h fun v u s2 x y H2 I2 rx ry q => ho pins s2 σ H2 x y v u Q I2 rx ry q) hm
def tTest (t : TE) : TT := fun σ H Q => t σ H fun x H' => ∃ k, x = .bl k ∧ Q k H'
theorem pt_cmpR {op : CmpOp} {r : R2} (ho : OpR X (compareOp op) r) (ha : PE X a ta) (hb : PE X b tb) (hm : behindInMarks op b = false) : PT X (.Compare a [op] [b] pos) (tTest (tOp r ta tb)) := by
  intro pins s σ H Q I h
  refine wpAny_isTrue_Compare1 (thn (ha pins s σ H _ I h) fun v s1 ⟨x, H1, I1, r1, q1⟩ => thn (hb pins s1 σ H1 _ I1 q1) fun u s2 ⟨y, H2, I2, r2, q2⟩ =>
    thn (ho pins s2 σ H2 x y v u _ I2 r1 r2 q2) fun c s3 ⟨z, H3, I3, r3, k, e, q3⟩ => ?_) hm
  subst e
  cases r3
  exact wpAny_truthy_bool ⟨H3, I3, q3⟩
def tChain (r r' : R2) (ta tb tc : TE) : TE := fun σ H Q => ta σ H fun x H1 => tb σ H1 fun y H2 => r x y H2 fun z H3 => ∃ k, z = .bl k ∧
  (if k = true then tc σ H3 fun w' H4 => r' y w' H4 Q else Q (.bl false) H3)
theorem pe_chain {op op' : CmpOp} {r r' : R2} (ho : OpR X (compareOp op) r) (ho' : OpR X (compareOp op') r') (ha : PE X a ta) (hb : PE X b tb) (hc : PE X c tc)
    (hm : lastMarks [op, op'] [b, c] = false := by with_unfolding_all rfl) : PE X (.Compare a [op, op'] [b, c] pos) (tChain r r' ta tb tc) := by
  intro pins s σ H Q I h
  refine Compare_chain (thn (ha pins s σ H _ I h) fun v s1 ⟨x, H1, I1, r1, q1⟩ => chain_link (thn (hb pins s1 σ H1 _ I1 q1) fun u s2 ⟨y, H2, I2, r2, q2⟩ =>
    thn (ho pins s2 σ H2 x y v u _ I2 r1 r2 q2) fun d s3 ⟨z, H3, I3, r3, k, e, q3⟩ => ?_)) hm
  subst e
  cases r3
  refine wpAny_truthy_bool ?_
  cases k with
  | false => exact ite_ff ⟨.bl false, H3, I3, rfl, q3⟩
  | true => exact ite_tt (chain_last (thn (hc pins s3 σ H3 _ I3 q3) fun w' s4 ⟨z', H4, I4, r4, q4⟩ => ho' pins s4 σ H4 y z' u w' Q I4 r2 r4 q4))
theorem pt_chain {op op' : CmpOp} {r r' : R2} (ho : OpR X (compareOp op) r) (ho' : OpR X (compareOp op') r') (ha : PE X a ta) (hb : PE X b tb) (hc : PE X c tc)
    (hm : lastMarks [op, op'] [b, c] = false := by with_unfolding_all rfl) : PT X (.Compare a [op, op'] [b, c] pos) (tTest (tChain r r' ta tb tc)) := by
  intro pins s σ H Q I h
  refine isTrue_chain (thn (ha pins s σ H _ I h) fun v s1 ⟨x, H1, I1, r1, q1⟩ => test_link (thn (hb pins s1 σ H1 _ I1 q1) fun u s2 ⟨y, H2, I2, r2, q2⟩ =>
    thn (ho pins s2 σ H2 x y v u _ I2 r1 r2 q2) fun d s3 ⟨z, H3, I3, r3, k, e, q3⟩ => ?_)) hm
  subst e
  cases r3
  refine wpAny_truthy_bool ?_
  cases k with
  | false =>
    obtain ⟨k', e', q'⟩ := q3
    cases e'
    exact ite_ff ⟨H3, I3, q'⟩
  | true =>
    refine ite_tt (test_last (thn (hc pins s3 σ H3 _ I3 q3) fun w' s4 ⟨z', H4, I4, r4, q4⟩ => thn (ho' pins s4 σ H4 y z' u w' _ I4 r2 r4 q4) fun d' s5 ⟨z2, H5, I5, r5, k2, e2, q5⟩ => ?_))
    subst e2
    cases r5
    exact wpAny_truthy_bool ⟨H5, I5, q5⟩
def TruV (K : PySem.W.Frag) (x : V) (H : Hp) (k : Bool) : Prop :=
  match x with
  | .non => k = false
  | .bl b => k = b
  | .int i => k = (i != 0)
  | .str y => y.length ≤ sizeLine ∧ k = ((y.length : Int) != 0)
  | .byt y => y.size ≤ sizeLine ∧ k = ((y.size : Int) != 0)
  | .ref p => (∃ xs, SqL K H p xs ∧ k = !xs.isEmpty) ∨ (∃ xs, SqT K H p xs ∧ k = !xs.isEmpty) ∨ ∃ kvs, H p = some (.dK kvs) ∧ k = !kvs.isEmpty
  | _ => False
theorem isEmpty_kv {κ : Type} {kvs : List (κ × V)} {vs : List (κ × Value)} (r : KV kvs vs) : (!vs.isEmpty) = !kvs.isEmpty := by
  cases r <;> rfl
theorem isEmpty_of {xs : List V} {its : List Value} (r : Vals xs its) : (!its.toArray.isEmpty) = !xs.isEmpty := by
  cases r <;> simp
theorem line63 : (sizeLine : Nat) < 2 ^ 63 := by rw [sizeLine_eq]; decide
theorem tru_ok : TruR X (fun x H Q => ∃ k, TruV X.K x H k ∧ Q k H) := by
  intro pins s σ H x v Q I rx h
  obtain ⟨k, e, q⟩ := h
  have hl := line63
  have hs : sizeLine = 16777216 := sizeLine_eq
  cases x with
  | non =>
    cases rx
    have e' : k = false := e
    subst e'
    exact truthy_none ⟨H, I, q⟩
  | bl b =>
    cases rx
    have e' : k = b := e
    subst e'
    exact wpAny_truthy_bool ⟨H, I, q⟩
  | int i =>
    obtain ⟨t, rfl⟩ := rx
    have e' : k = (i != 0) := e
    subst e'
    exact PySem.P.truthy_int ⟨H, I, q⟩
  | str y =>
    obtain ⟨t, rfl⟩ := rx
    obtain ⟨hy, e'⟩ : y.length ≤ sizeLine ∧ k = ((y.length : Int) != 0) := e
    subst e'
    exact PySem.P.truthy_str (by omega) ⟨H, I.tok _, q⟩
  | byt y =>
    obtain ⟨t, rfl⟩ := rx
    obtain ⟨hy, e'⟩ : y.size ≤ sizeLine ∧ k = ((y.size : Int) != 0) := e
    subst e'
    exact PySem.W.truthy_bytes (by omega) ⟨H, I.tok _, q⟩
  | ref p =>
    cases rx
    have e' : (∃ xs, SqL X.K H p xs ∧ k = !xs.isEmpty) ∨ (∃ xs, SqT X.K H p xs ∧ k = !xs.isEmpty) ∨ ∃ kvs, H p = some (.dK kvs) ∧ k = !kvs.isEmpty := e
    rcases e' with ⟨xs, hx, e'⟩ | ⟨xs, hx, e'⟩ | ⟨kvs, hx, e'⟩
    · subst e'
      obtain ⟨its, r, pl, hz⟩ := I.list hx
      have hlen := r.length
      exact wpAny_truthy_list pl.isList (by simp only [List.size_toArray]; omega) ⟨H, I.tok _, by rw [isEmpty_of r]; exact q⟩
    · subst e'
      obtain ⟨its, r, pl, hz⟩ := I.tuple hx
      have hlen := r.length
      exact truthy_tuple pl (by simp only [List.size_toArray]; omega) ⟨H, I.tok _, by rw [isEmpty_of r]; exact q⟩
    · subst e'
      obtain ⟨hz, hS, vs, r, m⟩ : kvs.length ≤ sizeLine ∧ (p == sysModules) = false ∧ ∃ vs, KV kvs vs ∧ s.heap.DictOf (mixKind X.prog X.w) p vs := I.hok p _ hx
      have hlen : kvs.length = vs.length := Paired.length r
      exact wpAny_truthy_dict hS m (by omega) ⟨H, I.tok _, by rw [isEmpty_kv r]; exact q⟩
  | _ => exact (show False from e).elim
theorem pt_truth (ha : PE X a ta) (he : ∀ whole, isTrue a X.env whole = (do let v ← whole; standAt a.pos; holding [v] (truthy v))) :
    PT X a (fun σ H Q => ta σ H fun x H' => ∃ k, TruV X.K x H' k ∧ Q k H') := by
  intro pins s σ H Q I h
  exact isTrue_plain (thn (ha pins s σ H _ I h) fun v s1 ⟨x, H1, I1, r1, q1⟩ => tru_ok pins s1 σ H1 x v Q I1 r1 q1) (he _)
theorem op_add_str : OpR X (binaryOp .Add) (fun x y H Q => ∃ i j, x = .str i ∧ y = .str j ∧ i.length + j.length ≤ sizeLine ∧ Q (.str (i ++ j)) H) := by
  intro pins s σ H x y v u Q I rx ry h
  obtain ⟨i, j, rfl, rfl, hz, q⟩ := h
  obtain ⟨t, rfl⟩ := rx
  obtain ⟨t', rfl⟩ := ry
  exact add_str (fun t' tk => ⟨.str (i ++ j), H, I.tok _, ⟨_, rfl⟩, q⟩) hz
theorem vals1 {x : V} {us : List Value} (r : Vals [x] us) : ∃ u, us = [u] ∧ RelV x u := by
  cases r with
  | cons r1 r2 => cases r2; exact ⟨_, rfl, r1⟩
theorem vals2 {x y : V} {us : List Value} (r : Vals [x, y] us) : ∃ u w', us = [u, w'] ∧ RelV x u ∧ RelV y w' := by
  cases r with
  | cons r1 r2 =>
    cases r2 with
    | cons r3 r4 => cases r4; exact ⟨_, _, rfl, r1, r3⟩
theorem call_abs : CallR X (.builtin "abs") (fun xs H Q => ∃ i, xs = [.int i] ∧ Q (.int (if i < 0 then -i else i)) H) := by
  intro pins s σ H xs us Q I r h
  obtain ⟨i, rfl, q⟩ := h
  obtain ⟨u, rfl, t, rfl⟩ := vals1 r
  exact call_abs_int fun u tk => ⟨.int (if i < 0 then -i else i), H, I.tok _, ⟨_, rfl⟩, q⟩
theorem call_min2 (hc : X.calm = true) : CallR X (.builtin "min") (fun xs H Q => ∃ i j, xs = [.int i, .int j] ∧ Q (.int (if j < i then j else i)) H) := by
  intro pins s σ H xs us Q I r h
  obtain ⟨i, j, rfl, q⟩ := h
  obtain ⟨u, w', rfl, ⟨t, rfl⟩, ⟨t', rfl⟩⟩ := vals2 r
  refine min_two_ints (I.ok.hd hc) fun h' tk k => ⟨_, H, I.kept k, ?_, q⟩
  by_cases hj : j < i
  · rw [if_pos hj, if_pos hj]; exact ⟨_, rfl⟩
  · rw [if_neg hj, if_neg hj]; exact ⟨_, rfl⟩
end
end L2
namespace L2
open PySem PySem.Spec PyProof.Rows
structure ObjM (h : Heap) (x dx C : Addr) (mA : Str → Option Value) : Prop where
  obj : h.get? x = some (PySem.W.instObj C dx)
  ns : h.Ns1 dx mA
  ne : dx ≠ x
theorem lookIn_ns {h : Heap} {dx : Addr} {mA : Str → Option Value} (n : h.Ns1 dx mA) : ∃ od, h.get? dx = some od ∧ ∀ name, PySem.W.lookIn name od = some (mA name) := by
  obtain ⟨o, es, ep, ho, hd, hk, _, hm⟩ := n
  refine ⟨o, ho, fun name => ?_⟩
  have e := hm name
  unfold nsFind findBy at e
  rw [← Array.find?_toList] at e
  unfold PySem.W.lookIn
  rw [hd]
  dsimp only
  split
  · rename_i y q
    rw [q] at e
    exact congrArg some e
  · rename_i q
    rw [q] at e
    have a : es.toList.any (·.refKey) = false := by
      rw [List.any_eq_false]
      intro y hy
      obtain ⟨z, t, hkey⟩ := hk y (Array.mem_toList_iff.mp hy)
      simp [DictEntry.refKey, hkey]
    have a' : ¬ es.toList.any (·.refKey) = true := by rw [a]; exact Bool.false_ne_true
    rw [if_neg a']
    exact congrArg some e
theorem ObjM.look {h : Heap} {x dx C : Addr} {mA : Str → Option Value} (I : ObjM h x dx C mA) : ∃ od, PySem.W.InstAt h x (PySem.W.instObj C dx) C (some od) ∧ ∀ name, PySem.W.lookIn name od = some (mA name) :=
  let ⟨od, ho, hl⟩ := lookIn_ns I.ns
  ⟨od, ⟨I.obj, rfl, rfl, ho⟩, hl⟩
theorem RelO.some_of {v : V} {o : Option Value} (r : RelO (some v) o) : ∃ u, o = some u ∧ RelV v u := by
  cases o with
  | none => exact (show False from r).elim
  | some u => exact ⟨u, rfl, r⟩
theorem handed_of {v : V} {u : Value} (r : RelV v u) : PySem.W.handedIn u = true := by
  cases v with
  | non => cases (show u = Value.none from r); rfl
  | bl b => cases (show u = Value.bool b from r); rfl
  | int i => obtain ⟨t, e⟩ := (show ∃ t, u = Value.int i t from r); cases e; rfl
  | str x => obtain ⟨t, e⟩ := (show ∃ t, u = Value.str x t from r); cases e; rfl
  | byt b => obtain ⟨t, e⟩ := (show ∃ t, u = Value.bytes b t from r); cases e; rfl
  | flt b => obtain ⟨t, e⟩ := (show ∃ t, u = Value.float b t from r); cases e; rfl
  | ref a => cases (show u = Value.ref a from r); rfl
  | ty n => cases (show u = Value.type n from r); rfl
section
variable {P : Program} {w : World} {H H' : Hp} {h h' : Heap} {a C dx : Addr} {fs fs' : List (Str × V)}
theorem ins_get (hok : HOk P w H h) (e : H a = some (.ins C dx fs)) : ∃ mA, ObjM h a dx C mA ∧ (∀ f, RelO (fs.lookup f) (mA f)) ∧ PySem.Within mA (fs.map (·.1)) ∧ fs.length ≤ 1000 ∧ H dx = some (.own a) := by
  obtain ⟨d, z, ne, ob, mA, n, r, q⟩ := (show ObjOk P w H h a (.ins C dx fs) from hok a _ e)
  exact ⟨mA, ⟨ob, n, ne⟩, r, q, z, d⟩
end
structure Cls (K : PySem.W.Frag) (C : Addr) : Prop where
  pg : PySem.W.plainGet K C Str.empty = true
  hd : PySem.W.hasDictIn K C = true
  po : PySem.W.plainOver K C = true
  sa : PySem.W.findIn K (.ref C) "__setattr__" = some (some (.builtin "object.__setattr__"))
theorem Cls.get {K : PySem.W.Frag} {C : Addr} (c : Cls K C) (f : Str) : PySem.W.plainGet K C f = true := c.pg
structure Meth (K : PySem.W.Frag) (C : Addr) (m : Str) (f : Addr) : Prop where
  at_ : PySem.W.findIn K (.ref C) m = some (some (.ref f))
  fn : PySem.W.isFn K (.ref f) = true
  kp : PySem.W.keepIn K (.ref f) = true
section
variable {X : Cx} {pins : List (Addr × Obj)} {σ : St} {H : Hp} {s : Shared} {a C dx : Addr} {fs : List (Str × V)} {f : Str} {v : V} {A : Around} {E : Value → Shared → Prop}
theorem attr_of {prog : Program} {w : World} {env : Env} {e : Expr} {f : Str} {pos : Pos} {s : Shared} {Q : Value → Shared → Prop} (hb : attributeBase e f env (eval e env) = eval e env)
    (h : wpAny (model prog w) A (eval e env) (fun o s₁ => wpAny (model prog w) A (getAttr o f true) Q E s₁) E s) : wpAny (model prog w) A (eval (.Attribute e f pos) env) Q E s :=
  Attribute_any_ h (by rw [arm_eval_Attribute, hb])
end
section
variable {X : Cx} {pins : List (Addr × Obj)} {σ : St} {H : Hp} {s : Shared} {A : Around} {E : Value → Shared → Prop} {Q : Value → Shared → Prop} {c : Value} {b : Bool}
inductive TyOf (K : PySem.W.Frag) (H : Hp) : V → Value → Prop where
  | non : TyOf K H .non (.type "NoneType")
  | bl (x : Bool) : TyOf K H (.bl x) (.type "bool")
  | int (i : Int) : TyOf K H (.int i) (.type "int")
  | str (x : Str) : TyOf K H (.str x) (.type "str")
  | flt (x : UInt64) : TyOf K H (.flt x) (.type "float")
  | lst {a : Addr} {xs : List V} (e : H a = some (.lst xs)) : TyOf K H (.ref a) (.type "list")
  | frz {a : Addr} {o : Obj} {xs : List V} (e : H a = some (.frz o (.lst xs))) : TyOf K H (.ref a) (.type "list")
  | tup {a : Addr} {xs : List V} (e : H a = some (.tup xs)) : TyOf K H (.ref a) (.type "tuple")
  | dK {a : Addr} {kvs : List (Key × V)} (e : H a = some (.dK kvs)) : TyOf K H (.ref a) (.type "dict")
  | dT {a : Addr} {kvs : List (List Key × V)} (e : H a = some (.dT kvs)) : TyOf K H (.ref a) (.type "dict")
  | ins {a C dx : Addr} {fs : List (Str × V)} (e : H a = some (.ins C dx fs)) (cl : Cls K C) (ha : PySem.W.findIn K (.ref C) "__class__" = some (some (.builtin "object.__class__")))
      (hn : PySem.W.specialIn K (.builtin "object.__class__") "__get__" = some (some (.builtin "getset_descriptor.__get__"))) (htk : PySem.W.takesIn K (.builtin "object.__class__") = some true)
      (hm : PySem.W.mroIn K C (.type "object") = some true) : TyOf K H (.ref a) (.ref C)
theorem isinst_ok {x : V} {u t : Value} (I : Inv X pins σ H s) (rx : RelV x u) (ty : TyOf X.K H x t) (e : PySem.W.kitOne X.K t c = some b) (h : ∀ tk, Q (.bool b) { s with toks := tk }) :
    wpAny (model X.prog X.w) A (call (.builtin "isinstance") [u, c]) Q E s := by
  cases ty with
  | non => cases (show u = Value.none from rx); exact PySem.W.kia_one PySem.W.kitx_none I.kIn True.intro e (fun z => nomatch z) h
  | bl y => cases (show u = Value.bool y from rx); exact PySem.W.kia_one PySem.W.kitx_bool I.kIn True.intro e (fun z => nomatch z) h
  | int i => obtain ⟨t, q⟩ := (show ∃ t, u = Value.int i t from rx); cases q; exact PySem.W.kia_one PySem.W.kitx_int I.kIn True.intro e (fun z => nomatch z) h
  | str y => obtain ⟨t, q⟩ := (show ∃ t, u = Value.str y t from rx); cases q; exact PySem.W.kia_one PySem.W.kitx_str I.kIn True.intro e (fun z => nomatch z) h
  | flt y => obtain ⟨t, q⟩ := (show ∃ t, u = Value.float y t from rx); cases q; exact PySem.W.kia_one PySem.W.kitx_float I.kIn True.intro e (fun z => nomatch z) h
  | @lst a xs ea =>
    cases (show u = Value.ref a from rx)
    obtain ⟨_, _, n, _, h1⟩ := (show ObjOk X.prog X.w H s.heap a (.lst xs) from I.hok a _ ea)
    exact PySem.W.kia_one PySem.W.kitx_list I.kIn ⟨_, h1, rfl⟩ e (fun z => nomatch z) h
  | @frz a ob xs ea =>
    cases (show u = Value.ref a from rx)
    obtain ⟨_, _, _, n, _, h1⟩ := (show ObjOk X.prog X.w H s.heap a (.frz ob (.lst xs)) from I.hok a _ ea)
    exact PySem.W.kia_one PySem.W.kitx_list I.kIn ⟨_, h1, rfl⟩ e (fun z => nomatch z) h
  | @tup a xs ea =>
    cases (show u = Value.ref a from rx)
    obtain ⟨_, _, _, p⟩ := (show ObjOk X.prog X.w H s.heap a (.tup xs) from I.hok a _ ea)
    obtain ⟨o, h1, h2, _⟩ := p
    exact PySem.W.kia_one PySem.W.kitx_tuple I.kIn ⟨o, h1, h2⟩ e (fun z => nomatch z) h
  | @dK a kvs ea =>
    cases (show u = Value.ref a from rx)
    obtain ⟨_, _, vs, _, p⟩ := (show ObjOk X.prog X.w H s.heap a (.dK kvs) from I.hok a _ ea)
    obtain ⟨o, es, ep, h1, h2, _⟩ := p
    exact PySem.W.kia_one PySem.W.kitx_dict I.kIn ⟨o, h1, h2.1⟩ e (fun z => nomatch z) h
  | @dT a kvs ea =>
    cases (show u = Value.ref a from rx)
    obtain ⟨_, _, xs, _, o, es, ep, h1, h2, _⟩ := (show ObjOk X.prog X.w H s.heap a (.dT kvs) from I.hok a _ ea)
    exact PySem.W.kia_one PySem.W.kitx_dict I.kIn ⟨o, h1, h2.1⟩ e (fun z => nomatch z) h
  | @ins a C dx fs ea cl ha hn htk hm =>
    cases (show u = Value.ref a from rx)
    obtain ⟨mA, O, _⟩ := ins_get I.hok ea
    obtain ⟨od, J, _⟩ := O.look
    exact PySem.W.kia_one (PySem.W.kitx_own (cl.get _) cl.hd ha hn htk hm) I.kIn J e (fun z => nomatch z) h
end
end L2
namespace L2
open PySem PySem.Spec PyProof.Rows
structure Room (k : Nat) (A : Around) : Prop where
  hd : A.handled = none
  dp : A.depth + 3 * k + 5 < recursionLimit
  un : A.units + 16 * k + 200 < cLine
theorem Room.mono {j k : Nat} {A : Around} (r : Room k A) (h : j ≤ k) : Room j A := ⟨r.hd, by have := r.dp; omega, by have := r.un; omega⟩
theorem Room.deeper {k : Nat} {A : Around} (r : Room (k + 1) A) (env : Env) : Room k (A.deeper env) :=
  ⟨r.hd, by have := r.dp; show A.depth + 1 + 3 * k + 5 < _; omega, by have := r.un; show A.units + 3 + 16 * k + 200 < _; omega⟩
theorem make_depth {A : Around} {C : Addr} {us : List Value} {kw : List (Str × Value)} : (A.under (.builtin "type.__call__" ⟨.ref C :: us, kw⟩)).depth = A.depth + 1 := by
  first | rfl | simp [Around.under, Code.weight, Code.isCreation, Code.isGuard, Code.isCaller, Code.frames, Code.isFrame, guardIds]
theorem make_units {A : Around} {C : Addr} {us : List Value} {kw : List (Str × Value)} : (A.under (.builtin "type.__call__" ⟨.ref C :: us, kw⟩)).units = A.units + 1 := by
  first | rfl | simp [Around.under, Code.cUnits, Code.frames, Code.isFrame]
theorem Room.make {k : Nat} {A : Around} (r : Room (k + 1) A) (C : Addr) (us : List Value) (kw : List (Str × Value)) : Room k (A.under (.builtin "type.__call__" ⟨.ref C :: us, kw⟩)) :=
  ⟨r.hd, by have := r.dp; rw [make_depth]; omega, by have := r.un; rw [make_units]; omega⟩
theorem Room.depth {k : Nat} {A : Around} (r : Room k A) : A.depth < recursionLimit := by have := r.dp; omega
theorem Room.units0 {k : Nat} {A : Around} (r : Room k A) : A.units < cLine := by have := r.un; omega
def tNil : TA := fun _ H Q => Q [] H
def tCons (ta : TE) (tr : TA) : TA := fun σ H Q => ta σ H fun x H1 => tr σ H1 fun xs H2 => Q (x :: xs) H2
section
variable {X : Cx} {e : Expr} {es : List Expr} {te : TE} {t : TA} {pos : Pos}
theorem pa_nil : PA X [] tNil := fun _ _ _ _ H Q I h => Calls.spliced_nil ⟨[], H, I, .nil, h⟩
theorem pa_cons (ha : PE X e te) (hr : PA X es t) (hs : starEach (e :: es) X.env = (false, eval e X.env) :: starEach es X.env := by rfl) : PA X (e :: es) (tCons te t) := by
  intro pos pins s σ H Q I h
  rw [hs]
  show wpAny _ _ (spliced ((false, eval e X.env) :: backTo pos (starEach es X.env))) _ _ s
  refine Calls.spliced_cons (thn (ha pins s σ H _ I h) fun u s1 ⟨x, H1, I1, r1, q1⟩ => ?_)
  exact thn (hr pos pins s1 σ H1 _ I1 q1) fun us s2 ⟨xs, H2, I2, r2, q2⟩ => ⟨x :: xs, H2, I2, .cons r1 r2, q2⟩
def tTup (t : TA) : TE := fun σ H Q => t σ H fun xs H1 => xs.length ≤ sizeLine ∧ ∀ p, H1 p = none → Q (.ref p) (upd H1 p (.tup xs))
def tLst (t : TA) : TE := fun σ H Q => t σ H fun xs H1 => xs.length ≤ sizeLine ∧ ∀ p, H1 p = none → Q (.ref p) (upd H1 p (.lst xs))
theorem pe_tup {x1} (h : PA X es t) : PE X (.Tuple es x1 pos) (tTup t) := by
  intro pins s σ H Q I hq
  refine wpAny_Tuple_spliced (thn (h pos pins s σ H _ I hq) fun us s1 ⟨xs, H1, I1, r, z, q⟩ => ⟨by rw [← r.length]; exact z, ?_⟩)
  have hf : H1 s1.heap.objs.size = none := I1.hok.fresh (Nat.le_refl _)
  refine ⟨.ref s1.heap.objs.size, upd H1 s1.heap.objs.size (.tup xs), I1.laid (t' := s1.toks) (fun b u e => Heap.get?_push_of_some _ e) (Nat.le_refl _) ?_, rfl, q _ hf⟩
  exact ⟨z, us, r, ⟨_, Heap.get?_push_size _ rfl, rfl, _, rfl⟩⟩
theorem pe_lst (h : PA X es t) : PE X (.List es pos) (tLst t) := by
  intro pins s σ H Q I hq
  refine wpAny_List_spliced (thn (h pos pins s σ H _ I hq) fun us s1 ⟨xs, H1, I1, r, z, q⟩ => ⟨by rw [← r.length]; exact z, ?_⟩)
  have hf : H1 s1.heap.objs.size = none := I1.hok.fresh (Nat.le_refl _)
  refine ⟨.ref s1.heap.objs.size, upd H1 s1.heap.objs.size (.lst xs), I1.laid (t' := s1.toks) (fun b u e => Heap.get?_push_of_some _ e) (Nat.le_refl _) ?_, rfl, q _ hf⟩
  exact ⟨z, us, 0, r, Heap.get?_push_size _ rfl⟩
end
abbrev Sp := List V → Hp → VK → XK → Prop
abbrev CXT := List Env → Hp → Shared → XK → Value → Shared → Prop
structure Env0 (P : Program) (w : World) (K : PySem.W.Frag) (mg : Str → Option Value) (base : Heap) (A : Around) (outer : List Env) (s : Shared) (H : Hp) : Prop where
  frames : A.frames = some outer
  mod : Mod K mg base
  bs : ∀ b o, base.get? b = some o → s.heap.get? b = some o ∧ H b = none
  bsz : base.objs.size ≤ s.heap.objs.size
  funs : s.heap.FunFrames base outer
  frf : ∀ b ∈ frs outer, H b = none
  hok : HOk P w H s.heap
  bare : AllBare s.gens
def CE (outer : List Env) (P : Program) (w : World) (H : Hp) (s : Shared) (Q : VK) (u : Value) (s' : Shared) : Prop :=
  ∃ v H', s'.os = s.os ∧ AllBare s'.gens ∧ Un (frs outer) [] H H' s.heap s'.heap ∧ HOk P w H' s'.heap ∧ RelV v u ∧ Q v H'
def CR (CX : CXT) (outer : List Env) (P : Program) (w : World) (H : Hp) (s : Shared) (Q : VK) (E : XK) (r : Result) (s' : Shared) : Prop :=
  match r with
  | .ok (.ret u) => CE outer P w H s Q u s'
  | .ok _ => False
  | .error e => CX outer H s E e s'
structure FnOk (P : Program) (w : World) (K : PySem.W.Frag) (mg : Str → Option Value) (base : Heap) (CX : CXT) (k : Nat) (f : Addr) (fd : FuncData) (ps : List Str) (sp : Sp) : Prop where
  len : ∀ vs H Q E, sp vs H Q E → vs.length = ps.length
  run : ∀ (A : Around) (outer : List Env) (s : Shared) (H : Hp) (args : Args) (us : List Value) (vs : List V) (Q : VK) (E : XK), Room k A → Env0 P w K mg base A outer s H → BindsTo s fd args (ps.zip us) → Vals vs us → sp vs H Q E →
    codeAny (model P w) A (.call (.ref f) args) (CR CX outer P w H s Q E) s
theorem Env0.make {P : Program} {w : World} {K : PySem.W.Frag} {mg : Str → Option Value} {base : Heap} {A : Around} {outer : List Env} {s : Shared} {H : Hp} (e : Env0 P w K mg base A outer s H) (C : Addr) (us : List Value) (kw : List (Str × Value)) :
    Env0 P w K mg base (A.under (.builtin "type.__call__" ⟨.ref C :: us, kw⟩)) outer s H := ⟨by first | exact e.frames | (simpa [Around.under, Code.envs, Code.isFrame, pushEnvs] using e.frames), e.mod, e.bs, e.bsz, e.funs, e.frf, e.hok, e.bare⟩
section
variable {X : Cx} {pins : List (Addr × Obj)} {σ : St} {H : Hp} {s s' : Shared}
theorem Inv.env0 (I : Inv X pins σ H s) : Env0 X.prog X.w X.K X.mg X.base X.A X.stack s H :=
  ⟨I.ok.frames, I.ok.mod, I.bs, Nat.le_trans I.ok.bsz I.sz, I.stack, I.stkFree, I.hok, I.bare⟩
theorem Inv.after {Q : VK} {u : Value} (I : Inv X pins σ H s) (h : CE X.stack X.prog X.w H s Q u s') : EP X pins σ Q u s' := by
  obtain ⟨v, H', os, bare, un, hok, r, q⟩ := h
  obtain ⟨hh, g, d, t, os'⟩ := s'
  obtain rfl : os' = s.os := os
  exact ⟨v, H', I.call (h' := hh) (g' := g) (d' := d) (t' := t) (ch := []) un hok bare (fun b z => absurd z (by simp)), r, q⟩
end
def tCall (sp : Sp) (dvs : List V) (E : XK) (t : TA) : TE := fun σ H Q => t σ H fun vs H1 => sp (vs ++ dvs) H1 Q E
def Binds (K : PySem.W.Frag) (fd : FuncData) (ps : List Str) (ds : List Value) : Prop :=
  ∀ (s : Shared) (us : List Value), K.In s.heap → (us ++ ds).length = ps.length → BindsTo s fd ⟨us, []⟩ (ps.zip (us ++ ds))
theorem Binds.all {K : PySem.W.Frag} {fd : FuncData} {ps : List Str} (h : ∀ us : List Value, us.length = ps.length → bindArgs fd ⟨us, []⟩ = pure (ps.zip us)) : Binds K fd ps [] := fun s us _ hl => by
  rw [List.append_nil] at hl ⊢
  exact .of_eq (h us hl)
def Passes (CX : CXT) (X : Cx) (E : XK) : Prop := ∀ (pins : List (Addr × Obj)) (σ : St) (H : Hp) (s : Shared) (e : Value) (s' : Shared), Inv X pins σ H s → CX X.stack H s E e s' → X.xe e s'
section
variable {X : Cx} {CX : CXT} {k : Nat} {f C : Addr} {fd : FuncData} {ps : List Str} {sp : Sp} {dvs : List V} {ds : List Value} {E : XK} {x m : Str} {p pos apos : Pos} {e o : Expr} {es : List Expr} {ta : TE} {t : TA}
theorem run_fn {pins : List (Addr × Obj)} {σ : St} {H : Hp} {s : Shared} {Q : VK} {us : List Value} {vs : List V} (F : FnOk X.prog X.w X.K X.mg X.base CX k f fd ps sp) (hr : Room k X.A) (hb : Binds X.K fd ps ds) (hd : Vals dvs ds) (hx : Passes CX X E)
    (I : Inv X pins σ H s) (r : Vals vs us) (h : sp (vs ++ dvs) H Q E) : wpAny (model X.prog X.w) X.A (call (.ref f) us) (EP X pins σ Q) X.xe s := by
  have r2 : Vals (vs ++ dvs) (us ++ ds) := r.append hd
  have hl : (us ++ ds).length = ps.length := by rw [← r2.length]; exact F.len _ _ _ _ h
  refine wpAny_call (codeAny_mono (F.run X.A X.stack s H ⟨us, []⟩ (us ++ ds) (vs ++ dvs) Q E hr I.env0 (hb s us I.kIn hl) r2 h) fun r s' hq => ?_)
  cases r with
  | error e => exact hx pins σ H s e s' I hq
  | ok fl =>
    cases fl with
    | ret u => exact I.after hq
    | next => exact False.elim hq
    | brk => exact False.elim hq
    | cont => exact False.elim hq
theorem pe_call (F : FnOk X.prog X.w X.K X.mg X.base CX k f fd ps sp) (hr : Room k X.A) (hg : Gl X x) (hm : X.mg x = some (.ref f)) (hk : PySem.W.keepIn X.K (.ref f) = true) (hb : Binds X.K fd ps ds) (hd : Vals dvs ds) (hx : Passes CX X E)
    (ha : PA X (e :: es) t) (hdb : (x == ("__debug__" : Str)) = false := by decide) (he : starEach (e :: es) X.env = (false, eval e X.env) :: starEach es X.env := by rfl) (hpl : (backTo pos (starEach es X.env)).any (·.1) = false := by rfl) :
    PE X (.Call (.Name x p) (e :: es) [] pos) (tCall sp dvs E t) := by
  intro pins s σ H Q I h
  refine wpAny_Call_Name_kw (ld_glob I hg hm ?_ hdb)
  refine PySem.W.callWith_K (h₀ := X.base) I.ok.mod.kin hk (thn (ha pos pins s σ H _ I h) fun us s1 ⟨vs, H1, I1, r, q⟩ => ⟨I1.kIn, ?_⟩) he hpl
  exact run_fn F hr hb hd hx I1 r q
end
structure FnScope (N P : List Str) (sc : Scope) : Prop where
  kind : sc.kind = .function
  co : sc.isCoroutine = false
  gen : sc.isGenerator = false
  nd : N.Nodup
  pre : N.take P.length = P
  par : ∀ x ∈ P, sc.names.lookup x = some .local ∨ sc.names.lookup x = some .cell
  nofree : ∀ y ∈ sc.names, y.2 ≠ .free
theorem bindL_out {kindOf : Str → Option NameKind} {x : Str} : ∀ {binds : List (Str × Value)} {m : Str → Option Value}, (∀ v, (x, v) ∉ binds) → bindL kindOf binds m x = m x
  | [], _, _ => rfl
  | (n, v) :: r, m, h => by
    unfold bindL
    rw [bindL_out fun w hw => h w (List.mem_cons_of_mem _ hw)]
    split
    · have : x ≠ n := by rintro rfl; exact h v List.mem_cons_self
      simp [this]
    · rfl
theorem bindC_out {kindOf : Str → Option NameKind} {x : Str} : ∀ {binds : List (Str × Value)} {m : Str → Option Value}, (∀ v, (x, v) ∉ binds) → bindC kindOf binds m x = m x
  | [], _, _ => rfl
  | (n, v) :: r, m, h => by
    unfold bindC
    rw [bindC_out fun w hw => h w (List.mem_cons_of_mem _ hw)]
    split
    · rfl
    · have : x ≠ n := by rintro rfl; exact h v List.mem_cons_self
      simp [this]
theorem bindL_get {kindOf : Str → Option NameKind} {x : Str} {v : Value} : ∀ {P : List Str} {vs : List Value} {i : Nat} {m : Str → Option Value}, P.Nodup → P[i]? = some x → vs[i]? = some v → kindOf x = some .local →
    bindL kindOf (P.zip vs) m x = some v
  | [], _, _, _, _, h, _, _ => by simp at h
  | _ :: _, [], _, _, _, _, h, _ => by simp at h
  | p :: P, w :: vs, 0, m, nd, h1, h2, hk => by
    simp at h1 h2; subst h1; subst h2
    show bindL kindOf ((p, w) :: P.zip vs) m p = _
    unfold bindL
    rw [bindL_out fun v hv => (List.nodup_cons.mp nd).1 (List.of_mem_zip hv).1, if_pos hk]
    simp
  | p :: P, w :: vs, i + 1, m, nd, h1, h2, hk => by
    show bindL kindOf ((p, w) :: P.zip vs) m x = _
    unfold bindL
    exact bindL_get (i := i) (List.nodup_cons.mp nd).2 (by simpa using h1) (by simpa using h2) hk
theorem bindC_get {kindOf : Str → Option NameKind} {x : Str} {v : Value} : ∀ {P : List Str} {vs : List Value} {i : Nat} {m : Str → Option Value}, P.Nodup → P[i]? = some x → vs[i]? = some v → kindOf x ≠ some .local →
    bindC kindOf (P.zip vs) m x = some v
  | [], _, _, _, _, h, _, _ => by simp at h
  | _ :: _, [], _, _, _, _, h, _ => by simp at h
  | p :: P, w :: vs, 0, m, nd, h1, h2, hk => by
    simp at h1 h2; subst h1; subst h2
    show bindC kindOf ((p, w) :: P.zip vs) m p = _
    unfold bindC
    rw [bindC_out fun v hv => (List.nodup_cons.mp nd).1 (List.of_mem_zip hv).1, if_neg hk]
    simp
  | p :: P, w :: vs, i + 1, m, nd, h1, h2, hk => by
    show bindC kindOf ((p, w) :: P.zip vs) m x = _
    unfold bindC
    exact bindC_get (i := i) (List.nodup_cons.mp nd).2 (by simpa using h1) (by simpa using h2) hk
def start (N : List Str) (vs : List V) : St := vs.map some ++ List.replicate (N.length - vs.length) none
def cxOf (CX : CXT) (P : Program) (w : World) (K : PySem.W.Frag) (mg : Str → Option Value) (base : Heap) (N : List Str) (qual : Str) (scope : Scope) (f : Addr) (cd : Value) (A : Around) (outer : List Env) (s : Shared) (H : Hp) (E : XK) : Cx where
  prog := P
  w := w
  K := K
  mg := mg
  base := base
  A := A.deeper (envOfC qual scope s.heap.objs.size f cd)
  N := N
  s₀ := s
  H₀ := H
  env := envOfC qual scope s.heap.objs.size f cd
  outer := outer
  stack := envOfC qual scope s.heap.objs.size f cd :: outer
  ex := []
  calm := true
  fn := fun _ => true
  pn := []
  xe := fun e s' => wpAny (model P w) (A.deeper (envOfC qual scope s.heap.objs.size f cd)) (leaving (envOfC qual scope s.heap.objs.size f cd) e) (fun _ s'' => CX outer H s E e s'') (fun e' s'' => CX outer H s E e' s'') s'
theorem cell_has {sc : Scope} {n : Nat} {x : Str} (h : sc.names.lookup x = some .cell) : ∃ c, (cellsFrom n sc.names []).lookup x = some c := by
  have q := PySem.W.cellsFrom_some sc.names n [] (.inl h)
  exact Option.isSome_iff_exists.mp q
theorem inv_start {CX : CXT} {P : Program} {w : World} {K : PySem.W.Frag} {mg : Str → Option Value} {base : Heap} {N ps : List Str} {qual : Str} {scope : Scope} {f : Addr} {cd : Value} {A : Around} {outer : List Env} {s s1 : Shared} {H : Hp} {E : XK} {us : List Value} {vs : List V}
    (S : FnScope N ps scope) (hd : A.handled = none) (e0 : Env0 P w K mg base A outer s H) (hl : vs.length = ps.length) (r : Vals vs us)
    (x : InCallC s s.heap.objs.size (bindL (envOfC qual scope s.heap.objs.size f cd).kindOf (ps.zip us) fun _ => none) (cellsFrom (s.heap.objs.size + 1) scope.names []) (bindC (envOfC qual scope s.heap.objs.size f cd).kindOf (ps.zip us) fun _ => none) s1) :
    Inv (cxOf CX P w K mg base N qual scope f cd A outer s H E) [] (start N vs) H s1 := by
  have hpl : ps.length ≤ N.length := by have := congrArg List.length S.pre; rw [List.length_take] at this; omega
  obtain ⟨h1, tk, rfl, hk⟩ := x.done
  have noA : ∀ b : Addr, b ∉ (cxOf CX P w K mg base N qual scope f cd A outer s H E).ex := fun b z => absurd (show b ∈ ([] : List Addr) from z) (by simp)
  refine ⟨⟨e0.mod, S.kind, rfl, rfl, Nat.le_refl _, fun y z c h1 h2 => ?_, fun y hy => ?_, fun y c _ h => ?_, fun _ => hd, Around.frames_deeper e0.frames, .inr ⟨rfl, rfl⟩, fun b z => absurd z (noA b), e0.bs, e0.bsz, fun b _ _ => noA b, fun b z => absurd z (noA b), e0.funs, e0.frf⟩,
    rfl, e0.bare, Un.kept hk, ⟨_, x.toInCall.ns, fun i y v h1 h2 h3 => ?_⟩, fun y c h => ⟨_, x.cell y c h⟩, e0.hok.fresh (Nat.le_refl _), fun y c h => ?_, fun p hp => absurd (show p ∈ ([] : List (Addr × Obj)) from hp) (by simp), e0.hok.kept hk, ?_⟩
  · exact name_of_addr x.apart (PySem.mem_of_lookup h1) (PySem.mem_of_lookup h2)
  · have hy : scope.names.lookup y = some .cell ∨ scope.names.lookup y = some .free := hy
    rcases hy with hy | hy
    · exact cell_has hy
    · exact absurd rfl (S.nofree _ (PySem.mem_of_lookup hy))
  · exact Nat.le_of_lt (x.above y c (PySem.mem_of_lookup h))
  · have hi : i < vs.length := by
      unfold start at h2
      by_cases hi : i < vs.length
      · exact hi
      · rw [List.getElem?_append_right (by simpa using hi)] at h2
        rw [List.getElem?_replicate] at h2
        split at h2 <;> cases h2
    have ha : vs[i]? = some v := by
      unfold start at h2
      rw [List.getElem?_append_left (by simpa using hi), List.getElem?_map] at h2
      cases e : vs[i]? with
      | none => rw [e] at h2; cases h2
      | some a => rw [e] at h2; cases h2; rfl
    obtain ⟨u, hu, rv⟩ := r.get ha
    have hp : ps[i]? = some y := by
      rw [← S.pre, List.getElem?_take_of_lt (by omega)]; exact h1
    have ndP : ps.Nodup := by rw [← S.pre]; exact S.nd.sublist (List.take_sublist _ _)
    refine ⟨u, rv, ?_⟩
    rcases S.par y (List.mem_of_getElem? hp) with k | k
    · exact .inl ⟨k, bindL_get ndP hp hu k⟩
    · obtain ⟨c, e⟩ := cell_has (n := s.heap.objs.size + 1) k
      refine .inr ⟨.inl k, c, e, ?_⟩
      have q := x.cell y c e
      rw [bindC_get ndP hp hu (by show scope.names.lookup y ≠ _; rw [k]; decide)] at q
      exact q
  · exact e0.hok.fresh (Nat.le_of_lt (x.above y c (PySem.mem_of_lookup h)))
  · unfold start
    show _ = N.length
    rw [List.length_append, List.length_map, List.length_replicate]
    omega
theorem fn_of {CX : CXT} {P : Program} {w : World} {K : PySem.W.Frag} {mg : Str → Option Value} {base : Heap} {k : Nat} {f : Addr} {name qual : Str} {params : Arguments} {body : List Stmt} {scope : Scope} {dV kV doc pm cdv ct oc : Value} {an od : Option Addr}
    {osl : Array (Option Value)} {N ps : List Str} {sp : Sp} (lk : K.lookup f = some ⟨oc, od, .func (PySem.W.fnOf name qual params body scope dV kV doc pm an cdv ct), osl⟩) (hcd : PySem.W.codeIn K cdv qual = true) (S : FnScope N ps scope)
    (len : ∀ vs H Q E, sp vs H Q E → vs.length = ps.length)
    (hbody : ∀ (A : Around) (outer : List Env) (s : Shared) (H : Hp) (vs : List V) (Q : VK) (E : XK), Room k (A.deeper (envOfC qual scope s.heap.objs.size f cdv)) → sp vs H Q E →
      ∃ t, PSs (cxOf CX P w K mg base N qual scope f cdv A outer s H E) body t ∧ t { nx := fun _ H' => Q .non H', rt := Q } (start N vs) H) :
    FnOk P w K mg base CX (k + 1) f (PySem.W.fnOf name qual params body scope dV kV doc pm an cdv ct) ps sp := by
  refine ⟨len, fun A outer s H args us vs Q E hr e0 hb r hsp => ?_⟩
  have hl := len _ _ _ _ hsp
  have KX : K.In s.heap := e0.mod.kin.keeps fun b o e => (e0.bs b o e).1
  have lim : s.heap.NoLimit := e0.mod.nolimit.keeps fun b o e => (e0.bs b o e).1
  have hkind : ∀ y ∈ ps.zip us, scope.names.lookup y.1 = some .local ∨ (scope.names.lookup y.1 = some .cell ∧ ((cellsFrom (s.heap.objs.size + 1) scope.names []).lookup y.1).isSome = true) := fun ⟨n, v⟩ hy => by
    rcases S.par n (List.of_mem_zip hy).1 with q | q
    · exact .inl q
    · exact .inr ⟨q, PySem.W.cellsFrom_some _ _ _ (.inl q)⟩
  refine codeAny_call_function hr.depth (KX _ _ lk) rfl S.co S.gen rfl (PySem.W.codeRec_of KX hcd) (hb _ _ _ _ ?_)
  refine wpAny_newFunctionEnv_cells S.kind hkind fun env he s1 x => ?_
  subst he
  refine ⟨lim.keeps x.toInCall.keep, codeAny_func ?_⟩
  obtain ⟨t, ht, hq⟩ := hbody A outer s H vs Q E (hr.deeper _) hsp
  have I : Inv (cxOf CX P w K mg base N qual scope f cdv A outer s H E) [] (start N vs) H s1 := inv_start S hr.hd e0 hl r x
  refine wpAny_mono (ht [] s1 (start N vs) H _ I hq) (fun fl s' hs => ?_) fun e s' hs => hs
  have fin : ∀ {σ' : St} {H' : Hp} {v : V} {u : Value}, Inv (cxOf CX P w K mg base N qual scope f cdv A outer s H E) [] σ' H' s' → RelV v u → Q v H' → CE outer P w H s Q u s' :=
    fun {σ' H' v u} J rv q => ⟨v, H', J.os, J.bare, J.base, J.hok, rv, q⟩
  cases fl with
  | ret u =>
    obtain ⟨v, σ', H', J, rv, q⟩ := hs
    exact fin J rv q
  | next =>
    obtain ⟨σ', H', J, q⟩ := hs
    exact fin (v := V.non) (u := Value.none) J rfl q
  | brk =>
    obtain ⟨_, _, _, q⟩ := hs
    exact False.elim q
  | cont =>
    obtain ⟨_, _, _, q⟩ := hs
    exact False.elim q
end L2
namespace L2
open PySem PySem.Spec PyProof.Rows
section
variable {X : Cx} {x : Str} {p pos : Pos} {e : Expr} {es : List Expr} {t : TA} {id T : String} {r : List V → Hp → VK → Prop}
def tCB (r : List V → Hp → VK → Prop) (t : TA) : TE := fun σ H Q => t σ H fun vs H1 => r vs H1 Q
theorem pe_callB (hc : CallR X (.builtin id) r) (hg : Gl X x) (hm : X.mg x = none) (hv : bootBuiltins x = some (.builtin id)) (ha : PA X (e :: es) t) (hn : x ≠ "__name__" := by decide) (hdb : (x == ("__debug__" : Str)) = false := by decide)
    (he : starEach (e :: es) X.env = (false, eval e X.env) :: starEach es X.env := by rfl) (hpl : (backTo pos (starEach es X.env)).any (·.1) = false := by rfl) : PE X (.Call (.Name x p) (e :: es) [] pos) (tCB r t) := by
  intro pins s σ H Q I h
  refine wpAny_Call_Name_kw (ld_blt I hg hm hv ?_ hn hdb)
  exact PyProof.Rows.callWith_builtin1 (thn (ha pos pins s σ H _ I h) fun us s1 ⟨vs, H1, I1, r1, q1⟩ => hc pins s1 σ H1 vs us Q I1 r1 q1) he hpl
theorem pe_callTy (hc : CallR X (.type T) r) (hg : Gl X x) (hm : X.mg x = none) (hv : bootBuiltins x = some (.type T)) (ha : PA X (e :: es) t) (hn : x ≠ "__name__" := by decide) (hdb : (x == ("__debug__" : Str)) = false := by decide)
    (he : starEach (e :: es) X.env = (false, eval e X.env) :: starEach es X.env := by rfl) (hpl : (backTo pos (starEach es X.env)).any (·.1) = false := by rfl) : PE X (.Call (.Name x p) (e :: es) [] pos) (tCB r t) := by
  intro pins s σ H Q I h
  refine wpAny_Call_Name_kw (ld_blt I hg hm hv ?_ hn hdb)
  exact PyProof.Rows.callWith_type1 (thn (ha pos pins s σ H _ I h) fun us s1 ⟨vs, H1, I1, r1, q1⟩ => hc pins s1 σ H1 vs us Q I1 r1 q1) he hpl
end
end L2
namespace HT
open PySem PyProof.Rows
section
variable {prog : Program} {w : World} {A : Around} {E : Value → Shared → Prop} {s : Shared}
theorem cat_tup {t b : Addr} {vs ws : List Value} {Q : Value → Shared → Prop} (ht : IsTup s.heap t vs.toArray) (hb : IsTup s.heap b ws.toArray) (hv : vs ≠ [])
    (h1 : ws = [] → Q (.ref t) s) (h2 : ws ≠ [] → Q (.ref s.heap.objs.size) { s with heap := s.heap.push { cls := .type "tuple", data := .seq (vs ++ ws).toArray } })
    (hsz : vs.length + ws.length ≤ sizeLine) : wpAny (model prog w) A (binaryOp .Add (.ref t) (.ref b)) Q E s := by
  obtain ⟨⟨cls, dd, data, sl⟩, ho, hc, n, hd⟩ := id ht
  obtain ⟨⟨cls2, dd2, data2, sl2⟩, ho2, hc2, n2, hd2⟩ := id hb
  simp only at hc hd hc2 hd2
  subst hc hd hc2 hd2
  have e : vs.toArray ++ ws.toArray = (vs ++ ws).toArray := by simp
  by_cases hw : ws = []
  · exact concat_meets ⟨_, ho, rfl⟩ ⟨_, ho2, rfl⟩ noFill_tuple_add seq_tuple_add PySem.F.slot_tuple_add PySem.F.entry_tuple_add (PySem.F.args_tuple_add_2 _ _)
      (tuple_addW1 t b vs.toArray ws.toArray n n2 dd dd2 sl sl2 (by simpa using hv) (by simp [hw])) ⟨ho, ho2, h1 hw⟩
  · refine concat_meets ⟨_, ho, rfl⟩ ⟨_, ho2, rfl⟩ noFill_tuple_add seq_tuple_add PySem.F.slot_tuple_add PySem.F.entry_tuple_add (PySem.F.args_tuple_add_2 _ _)
      (tuple_addW2 t b vs.toArray ws.toArray n n2 dd dd2 sl sl2 (by simpa using hv) (by simpa using hw) (by rw [List.size_toArray, List.size_toArray]; exact hsz)) ⟨ho, ho2, ?_⟩
    rw [e]
    exact h2 hw
def sIx (n d : Nat) : Option Int → Nat
  | none => d
  | some v => if v < 0 then (v + (n : Int)).toNat else min v.toNat n
theorem sIx_none (n d : Nat) : sIx n d none = d := rfl
theorem sIx_nat (n d k : Nat) : sIx n d (some (k : Int)) = min k n := by
  show (if (k : Int) < 0 then ((k : Int) + (n : Int)).toNat else min (k : Int).toNat n) = min k n
  rw [if_neg (by omega), Int.toNat_natCast]
theorem sIx_le (n d : Nat) (hd : d ≤ n) (o : Option Int) : sIx n d o ≤ n := by
  cases o with
  | none => exact hd
  | some v =>
    show (if v < 0 then (v + (n : Int)).toNat else min v.toNat n) ≤ n
    by_cases hv : v < 0
    · rw [if_pos hv]; omega
    · rw [if_neg hv]; exact Nat.min_le_right _ _
theorem clip_eq (v : Int) (n d : Nat) : (if v < 0 then max (v + (n : Int)) 0 else min v (n : Int)) = ((sIx n d (some v) : Nat) : Int) := by
  show (if v < 0 then max (v + (n : Int)) 0 else min v (n : Int)) = (((if v < 0 then (v + (n : Int)).toNat else min v.toNat n) : Nat) : Int)
  by_cases hv : v < 0
  · simp only [if_pos hv]; omega
  · simp only [if_neg hv]; omega
theorem adjust_gen (lo hi : Option Int) (n : Nat) : Builtin.Slice.sliceAdjust lo hi 1 (n : Int) = (((sIx n 0 lo : Nat) : Int), ((sIx n n hi : Nat) : Int)) := by
  have h1 : ¬ ((1 : Int) < 0) := by omega
  unfold Builtin.Slice.sliceAdjust
  simp only [h1, if_false]
  refine Prod.ext ?_ ?_
  · cases lo with
    | none => rfl
    | some v => exact clip_eq v n 0
  · cases hi with
    | none => rfl
    | some v => exact clip_eq v n n
theorem places_gen (i j : Nat) : Builtin.Slice.slicePlaces (i : Int) (j : Int) 1 = j - i := by
  unfold Builtin.Slice.slicePlaces
  have h1 : (1 : Int) > 0 := by omega
  simp only [h1, if_true, Int.ediv_one]
  split <;> omega
theorem slicePart_ {v : Value} {o : Option Int} {Q : Option Int → Shared → Prop} (p : IsPart v o) (h : Q o s) : wpAny (model prog w) A (Builtin.Slice.slicePartIndex v) Q E s := by
  cases p with
  | none => exact slicePart_none h
  | int i t => exact slicePart_int h
theorem sliceApplied_gen {sl : Addr} {vl vu : Value} {lo hi : Option Int} {n : Nat} {Q : Int × Int × Nat → Shared → Prop} (hs : s.heap.IsSliceOf sl vl vu .none) (pl : IsPart vl lo) (pu : IsPart vu hi)
    (h : Q (((sIx n 0 lo : Nat) : Int), 1, sIx n n hi - sIx n 0 lo) s) : wpAny (model prog w) A (Builtin.Slice.sliceApplied (.ref sl) (pure (n : Int))) Q E s := by
  obtain ⟨os, hos, hcs, hds⟩ := id hs
  unfold Builtin.Slice.sliceApplied Builtin.Slice.sliceFields
  refine wpAny_bind (wpAny_bind (wpAny_field hos hds (x := vl) rfl (wpAny_bind (wpAny_field hos hds (x := vu) rfl (wpAny_bind (wpAny_field hos hds (x := .none) rfl (wpAny_pure ?_)))))))
  refine wpAny_bind (slicePart_none ?_)
  show wpAny _ _ (if ((1 : Int) == 0) = true then _ else _) _ _ s
  rw [if_neg (by decide)]
  refine wpAny_bind (slicePart_ pl (wpAny_bind (slicePart_ pu (wpAny_bind (wpAny_pure ?_)))))
  show wpAny _ _ (match Builtin.Slice.sliceAdjust lo hi 1 (n : Int) with | (lo, hi) => pure (lo, (1 : Int), Builtin.Slice.slicePlaces lo hi 1)) _ _ s
  rw [adjust_gen lo hi n]
  show wpAny _ _ (pure (((sIx n 0 lo : Nat) : Int), (1 : Int), Builtin.Slice.slicePlaces ((sIx n 0 lo : Nat) : Int) ((sIx n n hi : Nat) : Int) 1)) _ _ s
  rw [places_gen]
  exact wpAny_pure h
theorem pick_gen (xs : Array Value) (i k : Nat) : ((List.range k).filterMap fun (m : Nat) => xs[((i : Int) + (m : Int) * 1).toNat]?).toArray = ((xs.toList.drop i).take k).toArray := by
  have e : (fun (m : Nat) => xs[((i : Int) + (m : Int) * 1).toNat]?) = fun m => xs[i + m]? := by
    funext m
    have : ((i : Int) + (m : Int) * 1).toNat = i + m := by omega
    rw [this]
  rw [e]
  have := pick_run xs i k
  rw [List.filterMap_map] at this
  have e2 : ((fun x => xs[x]?) ∘ fun x => i + x) = fun m => xs[i + m]? := rfl
  rw [e2] at this
  rw [this]
theorem getItem_tuple_cut {t sl : Addr} {items : Array Value} {vl vu : Value} {lo hi : Option Int} {Q : Value → Shared → Prop} (ht : IsTup s.heap t items) (hs : s.heap.IsSliceOf sl vl vu .none) (pl : IsPart vl lo) (pu : IsPart vu hi)
    (hw : ¬ (sIx items.size 0 lo = 0 ∧ sIx items.size items.size hi = items.size))
    (h : Q (.ref s.heap.objs.size) { s with heap := s.heap.push { cls := .type "tuple", data := .seq ((items.toList.drop (sIx items.size 0 lo)).take (sIx items.size items.size hi - sIx items.size 0 lo)).toArray } })
    (hsz : items.size ≤ sizeLine) : wpAny (model prog w) A (getItem (.ref t) (.ref sl)) Q E s := by
  have htake : sizeOk (.seq ((items.toList.drop (sIx items.size 0 lo)).take (sIx items.size items.size hi - sIx items.size 0 lo)).toArray) := by
    show ((items.toList.drop (sIx items.size 0 lo)).take (sIx items.size items.size hi - sIx items.size 0 lo)).toArray.size ≤ sizeLine
    rw [List.size_toArray, List.length_take, List.length_drop, Array.length_toList]
    omega
  have hj : sIx items.size items.size hi ≤ items.size := sIx_le _ _ (Nat.le_refl _) hi
  obtain ⟨os, hos, hcs, hds⟩ := id hs
  have hTs : s.TypeIs (.ref sl) "slice" := ⟨os, hos, hcs⟩
  unfold getItem
  try with_reducible refine wpAny_holding ?_
  first | refine wpAny_bind (wpAny_pure ?_) | skip
  refine wpAny_bind (wpAny_sequenceKey ht.typeIs (by decide) ?_)
  refine wpAny_bind (wpAny_callSpecial?_slot (name := Str.ofString "__getitem__") ht.typeIs PyProof.Rows.slot_tuple_getitem
    (wpAny_call_entry PyProof.Rows.slot_tuple_getitem ht.typeIs entry_tuple_getitem ?_ (args_tuple_getitem _ _)))
  show wpAny _ _ (Builtin.Tuple.tupleItemsOf (.ref t) >>= _) _ _ s
  refine wpAny_bind (tupleItemsOf_ ht ?_)
  refine wpAny_bind (wpAny_typeOf hTs ?_)
  rw [if_pos (by decide)]
  refine wpAny_bind (sliceApplied_gen hs pl pu ?_)
  have hno : ¬ ((((sIx items.size 0 lo : Nat) : Int) == 0 && (1 : Int) == 1 && (sIx items.size items.size hi - sIx items.size 0 lo) == items.size) = true) := by
    intro q
    rw [Bool.and_eq_true, Bool.and_eq_true] at q
    have q1 : ((sIx items.size 0 lo : Nat) : Int) = 0 := eq_of_beq q.1.1
    have q2 : sIx items.size items.size hi - sIx items.size 0 lo = items.size := eq_of_beq q.2
    exact hw ⟨by omega, by omega⟩
  show wpAny _ _ (if (((sIx items.size 0 lo : Nat) : Int) == 0 && (1 : Int) == 1 && (sIx items.size items.size hi - sIx items.size 0 lo) == items.size) = true then _ else _) _ _ s
  rw [if_neg hno, pick_gen]
  first
    | exact wpAny_bind (m := Builtin.Tuple.tupleExact _) (wpAny_newObj_type (wpAny_pure ⟨_, rfl, wpAny_pure h⟩) htake)
    | exact wpAny_bind (m := Builtin.Tuple.tupleExact _) (wpAny_newObj_type (wpAny_bind (wpAny_pure (wpAny_pure ⟨_, rfl, wpAny_pure h⟩))) htake)
    | exact wpAny_bind (wpAny_bind (m := Builtin.Tuple.tupleExact _) (wpAny_newObj_type (wpAny_pure (wpAny_pure ⟨_, rfl, wpAny_pure h⟩)) htake))
    | exact wpAny_bind (wpAny_bind (m := Builtin.Tuple.tupleExact _) (wpAny_newObj_type (wpAny_pure ⟨_, rfl, wpAny_pure h⟩) htake))
end
end HT
namespace L2
open PySem PySem.Spec PyProof.Rows
abbrev TO := St → Hp → (Option Int → Hp → Prop) → Prop
def PO (X : Cx) (e : Option Expr) (t : TO) : Prop :=
  ∀ (pins : List (Addr × Obj)) (s : Shared) (σ : St) (H : Hp) (Q : Option Int → Hp → Prop), Inv X pins σ H s → t σ H Q →
    wpAny (model X.prog X.w) X.A (evalPart e X.env) (fun u s' => ∃ o H', Inv X pins σ H' s' ∧ IsPart u o ∧ Q o H') X.xe s
def tNoPart : TO := fun _ H Q => Q none H
def tPart (t : TE) : TO := fun σ H Q => t σ H fun x H1 => ∃ i, x = .int i ∧ Q (some i) H1
theorem intsAre_of {ns : List Int} : ∀ {us : List Value}, Vals (ns.map V.int) us → IntsAre us ns := by
  induction ns with
  | nil => intro us r; rw [List.map_nil] at r; cases r; exact .nil
  | cons n ns ih =>
    intro us r
    rw [List.map_cons] at r
    cases r with
    | cons r1 r2 =>
      obtain ⟨t, e⟩ := r1
      subst e
      exact .cons n t (ih r2)
section
variable {X : Cx} {e : Expr} {te : TE} {lo hi : Option Expr} {tl th : TO} {pos p2 : Pos}
theorem po_none : PO X none tNoPart := by
  intro pins s σ H Q I h
  rw [evalPart_none]
  exact wpAny_pure ⟨none, H, I, .none, h⟩
theorem po_some (h : PE X e te) : PO X (some e) (tPart te) := by
  intro pins s σ H Q I hw
  rw [evalPart_some]
  refine thn (h pins s σ H _ I hw) fun u s1 ⟨x, H1, I1, r1, q1⟩ => ?_
  obtain ⟨i, rfl, q⟩ := q1
  obtain ⟨t, rfl⟩ := r1
  exact ⟨some i, H1, I1, .int i t, q⟩
def SlR (X : Cx) (r : V → Option Int → Option Int → Hp → VK → Prop) : Prop :=
  ∀ (pins : List (Addr × Obj)) (s : Shared) (σ : St) (H : Hp) (x : V) (v vl vu : Value) (lo hi : Option Int) (sl : Addr) (Q : VK), Inv X pins σ H s → RelV x v → s.heap.IsSliceOf sl vl vu .none → IsPart vl lo → IsPart vu hi → r x lo hi H Q →
    ∃ T id, typeLookup (.type T) "__getitem__" = pure (some (.builtin id)) ∧ s.TypeIs v T ∧ wpAny (model X.prog X.w) X.A (getItem v (.ref sl)) (EP X pins σ Q) X.xe s
def tSl (r : V → Option Int → Option Int → Hp → VK → Prop) (te : TE) (tl th : TO) : TE := fun σ H Q => te σ H fun x H1 => tl σ H1 fun l H2 => th σ H2 fun u H3 => r x l u H3 Q
theorem pe_slice {r : V → Option Int → Option Int → Hp → VK → Prop} (hr : SlR X r) (he : PE X e te) (hl : PO X lo tl) (hu : PO X hi th) : PE X (.Subscript e (.Slice lo hi none p2) pos) (tSl r te tl th) := by
  intro pins s σ H Q I h
  refine Subscript_ (thn (he pins s σ H _ I h) fun v s1 ⟨x, H1, I1, r1, q1⟩ => ?_)
  refine wpAny_Slice (thn (hl pins s1 σ H1 _ I1 q1) fun vl s2 ⟨l, H2, I2, pl, q2⟩ => thn (hu pins s2 σ H2 _ I2 q2) fun vu s3 ⟨u, H3, I3, pu, q3⟩ => ?_)
  rw [evalPart_none]
  refine wpAny_pure ?_
  have I4 : Inv X pins σ H3 { s3 with heap := s3.heap.push { cls := .type "slice", data := .fields #[vl, vu, .none] } } := I3.kept (t' := s3.toks) fun b ob q => Heap.get?_push_of_some _ q
  obtain ⟨T, id, hT, ht, hg⟩ := hr pins { s3 with heap := s3.heap.push { cls := .type "slice", data := .fields #[vl, vu, .none] } } σ H3 x v vl vu l u s3.heap.objs.size Q I4 r1 (Heap.IsSliceOf.new ..) pl pu q3
  show wpAny (model X.prog X.w) X.A (subscriptTail e (.Slice lo hi none p2) v (.ref s3.heap.objs.size)) (EP X pins σ Q) X.xe { s3 with heap := s3.heap.push { cls := .type "slice", data := .fields #[vl, vu, .none] } }
  exact tail_any (ops := [.ref s3.heap.objs.size, v]) ht hT hg (by with_unfolding_all rfl)
def cutV (xs : List V) (lo hi : Option Int) : List V := (xs.drop (HT.sIx xs.length 0 lo)).take (HT.sIx xs.length xs.length hi - HT.sIx xs.length 0 lo)
theorem cutV_length (xs : List V) (lo hi : Option Int) : (cutV xs lo hi).length ≤ xs.length := by
  unfold cutV
  rw [List.length_take, List.length_drop]
  omega
def rSlT (K : PySem.W.Frag) : V → Option Int → Option Int → Hp → VK → Prop := fun x lo hi H Q => ∃ a xs, x = .ref a ∧ SqT K H a xs ∧
  ¬ (HT.sIx xs.length 0 lo = 0 ∧ HT.sIx xs.length xs.length hi = xs.length) ∧ ∀ p, H p = none → Q (.ref p) (upd H p (.tup (cutV xs lo hi)))
theorem sl_tup : SlR X (rSlT X.K) := by
  intro pins s σ H x v vl vu lo hi sl Q I rx hs pl pu h
  obtain ⟨a, xs, rfl, hx, hw, q⟩ := h
  cases rx
  obtain ⟨its, r, ht, hz⟩ := I.tuple hx
  have hlen : its.toArray.size = xs.length := by rw [List.size_toArray]; exact r.length.symm
  refine ⟨"tuple", _, PyProof.Rows.slot_tuple_getitem.lookup, ht.typeIs, ?_⟩
  refine HT.getItem_tuple_cut ht hs pl pu (by rw [hlen]; exact hw) ?_ (by rw [hlen]; exact hz)
  rw [hlen]
  refine ⟨.ref s.heap.objs.size, _, I.laid (t' := s.toks) (o := .tup (cutV xs lo hi)) (fun b ob q => Heap.get?_push_of_some _ q) (Nat.le_refl _) ?_, rfl, q _ (I.hok.fresh (Nat.le_refl _))⟩
  exact ⟨Nat.le_trans (cutV_length xs lo hi) hz, _, (r.drop (HT.sIx xs.length 0 lo)).take (HT.sIx xs.length xs.length hi - HT.sIx xs.length 0 lo), IsTup.new _ _⟩
def rCatT (K : PySem.W.Frag) : R2 := fun x y H Q => ∃ a b xs ys, x = .ref a ∧ y = .ref b ∧ SqT K H a xs ∧ SqT K H b ys ∧ xs ≠ [] ∧ xs.length + ys.length ≤ sizeLine ∧
  (ys = [] → Q (.ref a) H) ∧ (ys ≠ [] → ∀ p, H p = none → Q (.ref p) (upd H p (.tup (xs ++ ys))))
theorem Vals.nil_iff {xs : List V} {us : List Value} (r : Vals xs us) : us = [] ↔ xs = [] := by
  cases r with
  | nil => simp
  | cons _ _ => simp
theorem op_catT : OpR X (binaryOp .Add) (rCatT X.K) := by
  intro pins s σ H x y v u Q I rx ry h
  obtain ⟨a, b, xs, ys, rfl, rfl, ha, hb, hx, hz, q1, q2⟩ := h
  cases rx
  cases ry
  obtain ⟨its, r1, p1, _⟩ := I.tuple ha
  obtain ⟨its2, r2, p2, _⟩ := I.tuple hb
  refine HT.cat_tup p1 p2 (fun z => hx (r1.nil_iff.mp z)) (fun z => ⟨.ref a, H, I, rfl, q1 (r2.nil_iff.mp z)⟩) (fun z => ?_) (by rw [← r1.length, ← r2.length]; exact hz)
  refine ⟨.ref s.heap.objs.size, _, I.laid (t' := s.toks) (o := .tup (xs ++ ys)) (fun b ob q => Heap.get?_push_of_some _ q) (Nat.le_refl _) ?_, rfl, q2 (fun w => z (r2.nil_iff.mpr w)) _ (I.hok.fresh (Nat.le_refl _))⟩
  exact ⟨by rw [List.length_append]; exact hz, _, r1.append r2, IsTup.new _ _⟩
end
end L2
namespace L2
open PySem PySem.Spec PyProof.Rows
def ixN (n : Nat) (i : Int) : Option Nat := if 0 ≤ i then (if i < n then some i.toNat else none) else if -(n : Int) ≤ i then some (i + n).toNat else none
def atI {α : Type} (xs : List α) (i : Int) : Option α := (ixN xs.length i).bind fun j => xs[j]?
theorem ixN_seq {n : Nat} {i : Int} {j : Nat} (h : ixN n i = some j) : seqIndex? i n = some j ∧ j < n ∧ -(n : Int) ≤ i ∧ i < n := by
  unfold ixN at h
  by_cases h0 : 0 ≤ i
  · rw [if_pos h0] at h
    by_cases h1 : i < n
    · rw [if_pos h1] at h
      have e : i.toNat = j := Option.some.inj h
      exact ⟨by rw [seqIndex_of h0 h1, e], by omega, by omega, h1⟩
    · rw [if_neg h1] at h; cases h
  · rw [if_neg h0] at h
    by_cases h1 : -(n : Int) ≤ i
    · rw [if_pos h1] at h
      have e : (i + n).toNat = j := Option.some.inj h
      exact ⟨by rw [seqIndex_neg (by omega) h1, e], by omega, h1, by omega⟩
    · rw [if_neg h1] at h; cases h
theorem atI_get {α : Type} {xs : List α} {i : Int} {v : α} (h : atI xs i = some v) : ∃ j, seqIndex? i xs.length = some j ∧ xs[j]? = some v ∧ j < xs.length ∧ -(xs.length : Int) ≤ i ∧ i < xs.length := by
  unfold atI at h
  cases e : ixN xs.length i with
  | none => rw [e] at h; cases h
  | some j =>
    rw [e] at h
    obtain ⟨h1, h2, h3, h4⟩ := ixN_seq e
    exact ⟨j, h1, h, h2, h3, h4⟩
theorem atI_nat {α : Type} {xs : List α} {j : Nat} {v : α} (h : xs[j]? = some v) : atI xs (j : Int) = some v := by
  have hj : j < xs.length := (List.getElem?_eq_some_iff.mp h).1
  have e : ixN xs.length (j : Int) = some j := by
    unfold ixN
    rw [if_pos (by omega), if_pos (by omega)]; simp
  unfold atI; rw [e]; exact h
def PlainIx (b : Expr) : Prop := ∀ o i, subscripted b false o i = operate [o, i] (getItem o i)
def IxR (X : Cx) (r : R2) : Prop :=
  ∀ (value slice : Expr) (pins : List (Addr × Obj)) (s : Shared) (σ : St) (H : Hp) (x y : V) (v u : Value) (Q : VK), Inv X pins σ H s → RelV x v → RelV y u → r x y H Q →
    subscripted slice false v u = operate [v, u] (getItem v u) → wpAny (model X.prog X.w) X.A (subscriptTail value slice v u) (EP X pins σ Q) X.xe s
def MtR (X : Cx) (id : String) (r : V → List V → Hp → VK → Prop) : Prop :=
  ∀ (pins : List (Addr × Obj)) (s : Shared) (σ : St) (H : Hp) (x : V) (xs : List V) (v : Value) (us : List Value) (Q : VK), Inv X pins σ H s → RelV x v → Vals xs us → r x xs H Q →
    wpAny (model X.prog X.w) X.A (call (.builtin id) (v :: us)) (EP X pins σ Q) X.xe s
section
variable {X : Cx} {a b : Expr} {ta tb : TE} {pos : Pos}
theorem pe_ix {r : R2} (hr : IxR X r) (ha : PE X a ta) (hb : PE X b tb) (hs : PlainIx b) : PE X (.Subscript a b pos) (tOp r ta tb) := by
  intro pins s σ H Q I h
  exact Subscript_ (binT ha hb I h fun v u s2 x y H2 I2 rx ry q => hr a b pins s2 σ H2 x y v u Q I2 rx ry q (hs _ _))
def rIxL (K : PySem.W.Frag) : R2 := fun x y H Q => ∃ p xs i v, x = .ref p ∧ y = .int i ∧ SqL K H p xs ∧ atI xs i = some v ∧ Q v H
def rIxT (K : PySem.W.Frag) : R2 := fun x y H Q => ∃ p xs i v, x = .ref p ∧ y = .int i ∧ SqT K H p xs ∧ atI xs i = some v ∧ Q v H
theorem ix_list : IxR X (rIxL X.K) := by
  intro value slice pins s σ H x y v u Q I rx ry h hs
  obtain ⟨p, xs, i, z, rfl, rfl, hq, he, q⟩ := h
  cases rx
  obtain ⟨t, rfl⟩ := ry
  obtain ⟨its, r, pl, hz⟩ := I.list hq
  obtain ⟨j, h1, h2, h3, h4, h5⟩ := atI_get he
  obtain ⟨w, ew, rw'⟩ := r.get h2
  have hl := r.length
  have hn := line63
  have fin : EP X pins σ Q w s := ⟨z, H, I, rw', q⟩
  by_cases h0 : 0 ≤ i
  · have hj : i.toNat = j := by
      rw [seqIndex_of h0 h5] at h1
      exact Option.some.inj h1
    exact item_listR pl.isList h0 (by omega) (by rw [hj]; simpa using ew) fin hs
  · have hj : (i + (its.toArray.size : Int)).toNat = j := by
      rw [seqIndex_neg (by omega) h4] at h1
      rw [List.size_toArray, ← hl]
      exact Option.some.inj h1
    exact subscriptTail_builtinR (x := w) pl.isList.typeIs slot_list_getitem.lookup
      (wpAny_getItem_list_neg (Q := fun r s' => r = w ∧ EP X pins σ Q r s') pl.isList (by omega) (by rw [List.size_toArray] <;> omega) (by omega) (by rw [hj]; simpa using ew) ⟨rfl, fin⟩) hs
theorem ix_tup : IxR X (rIxT X.K) := by
  intro value slice pins s σ H x y v u Q I rx ry h hs
  obtain ⟨p, xs, i, z, rfl, rfl, hq, he, q⟩ := h
  cases rx
  obtain ⟨t, rfl⟩ := ry
  obtain ⟨its, r, pl, hz⟩ := I.tuple hq
  obtain ⟨j, h1, h2, h3, h4, h5⟩ := atI_get he
  obtain ⟨w, ew, rw'⟩ := r.get h2
  have hl := r.length
  have hn := line63
  have fin : EP X pins σ Q w s := ⟨z, H, I, rw', q⟩
  exact subscriptTail_builtinR (x := w) pl.typeIs slot_tuple_getitem.lookup
    (getItem_tuple (j := j) (Q := fun r s' => r = w ∧ EP X pins σ Q r s') pl (by omega) (by omega) (by rw [List.size_toArray, ← hl]; exact h1) (by simpa using ew) ⟨rfl, fin⟩) hs
theorem slice_bounds (lo hi : Option Int) (n : Nat) : (sliceBounds lo hi none n).1 = ((HT.sIx n 0 lo : Nat) : Int) ∧ (sliceBounds lo hi none n).2.1 = ((HT.sIx n n hi : Nat) : Int) ∧ (sliceBounds lo hi none n).2.2 = 1 := by
  refine ⟨?_, ?_, rfl⟩
  · cases lo with
    | none => simp [sliceBounds, HT.sIx]
    | some i =>
      simp only [sliceBounds, HT.sIx, Option.getD_none, show (1 : Int) > 0 by decide, if_true]
      by_cases h : i < 0
      · simp only [h, if_true] <;> omega
      · simp only [h, if_false] <;> omega
  · cases hi with
    | none => simp [sliceBounds, HT.sIx]
    | some i =>
      simp only [sliceBounds, HT.sIx, Option.getD_none, show (1 : Int) > 0 by decide, if_true]
      by_cases h : i < 0
      · simp only [h, if_true] <;> omega
      · simp only [h, if_false] <;> omega
theorem slicePick_cut (its : List Value) (lo hi : Option Int) : slicePick its.toArray lo hi none = ((its.drop (HT.sIx its.length 0 lo)).take (HT.sIx its.length its.length hi - HT.sIx its.length 0 lo)).toArray := by
  obtain ⟨h1, h2, h3⟩ := slice_bounds lo hi its.toArray.size
  unfold slicePick
  rw [h1, h2, h3]
  simp only [sliceRange_one, pick_run, List.size_toArray] <;> rfl
def rSlL (K : PySem.W.Frag) : V → Option Int → Option Int → Hp → VK → Prop := fun x lo hi H Q => ∃ a xs, x = .ref a ∧ SqL K H a xs ∧ ∀ p, H p = none → Q (.ref p) (upd H p (.lst (cutV xs lo hi)))
theorem sl_list : SlR X (rSlL X.K) := by
  intro pins s σ H x v vl vu lo hi sl Q I rx hs pl pu h
  obtain ⟨a, xs, rfl, hx, q⟩ := h
  cases rx
  obtain ⟨its, r, ht, hz⟩ := I.list hx
  have hlen := r.length
  refine ⟨"list", _, slot_list_getitem.lookup, ht.isList.typeIs, ?_⟩
  refine wpAny_getItem_list_slice ht.isList hs pl pu .none (by simp) ?_ (by rw [List.size_toArray] <;> omega)
  rw [slicePick_cut, ← hlen]
  refine ⟨.ref s.heap.objs.size, _, I.laid (t' := s.toks) (o := .lst (cutV xs lo hi)) (fun b ob q => Heap.get?_push_of_some _ q) (Nat.le_refl _) ?_, rfl, q _ (I.hok.fresh (Nat.le_refl _))⟩
  exact ⟨Nat.le_trans (cutV_length xs lo hi) hz, _, 0, (r.drop (HT.sIx xs.length 0 lo)).take (HT.sIx xs.length xs.length hi - HT.sIx xs.length 0 lo), Heap.get?_push_size _ rfl⟩
def flatV : V → Bool
  | .non => true
  | .bl _ => true
  | .int _ => true
  | .str _ => true
  | _ => false
def eqV : V → V → Bool
  | .non, .non => true
  | .bl a, .bl b => a == b
  | .bl a, .int b => (if a then 1 else 0) == b
  | .int a, .bl b => a == (if b then 1 else 0)
  | .int a, .int b => a == b
  | .str a, .str b => a == b
  | _, _ => false
theorem eqAt_V {A : Around} {s : Shared} {y x : V} {u v : Value} (ry : RelV y u) (rx : RelV x v) (fy : flatV y = true) (fx : flatV x = true) : SeqAt.EqAt A s u v (eqV y x) := by
  cases y with
  | non =>
    cases ry
    cases x with
    | non => cases rx; exact SeqAt.EqAt.same _
    | bl b => cases rx; exact SeqAt.EqAt.none_bool b
    | int b => obtain ⟨t, rfl⟩ := rx; exact SeqAt.EqAt.none_int b t
    | str b => obtain ⟨t, rfl⟩ := rx; exact SeqAt.EqAt.none_str b t
    | _ => exact absurd (show false = true from fx) Bool.false_ne_true
  | bl a =>
    cases ry
    cases x with
    | non => cases rx; exact SeqAt.EqAt.bool_none a
    | bl b => cases rx; exact SeqAt.EqAt.bool_bool a b
    | int b => obtain ⟨t, rfl⟩ := rx; exact SeqAt.EqAt.bool_int a b t
    | str b => obtain ⟨t, rfl⟩ := rx; exact SeqAt.EqAt.bool_str a b t
    | _ => exact absurd (show false = true from fx) Bool.false_ne_true
  | int a =>
    obtain ⟨t', rfl⟩ := ry
    cases x with
    | non => cases rx; exact SeqAt.EqAt.int_none a t'
    | bl b => cases rx; exact SeqAt.EqAt.int_bool a t' b
    | int b => obtain ⟨t, rfl⟩ := rx; exact SeqAt.EqAt.int_int a t' b t
    | str b => obtain ⟨t, rfl⟩ := rx; exact SeqAt.EqAt.int_str a t' b t
    | _ => exact absurd (show false = true from fx) Bool.false_ne_true
  | str a =>
    obtain ⟨t', rfl⟩ := ry
    cases x with
    | non => cases rx; exact SeqAt.EqAt.str_none a t'
    | bl b => cases rx; exact SeqAt.EqAt.str_bool a t' b
    | int b => obtain ⟨t, rfl⟩ := rx; exact SeqAt.EqAt.str_int a t' b t
    | str b => obtain ⟨t, rfl⟩ := rx; exact SeqAt.EqAt.str_str a t' b t
    | _ => exact absurd (show false = true from fx) Bool.false_ne_true
  | _ => exact absurd (show false = true from fy) Bool.false_ne_true
def eqU (x : V) (u : Value) : Bool := match u with
  | .none => eqV .non x
  | .bool b => eqV (.bl b) x
  | .int i _ => eqV (.int i) x
  | .str z _ => eqV (.str z) x
  | _ => false
theorem eqU_of {x y : V} {u : Value} (r : RelV y u) (f : flatV y = true) : eqU x u = eqV y x := by
  cases y with
  | non => cases r; rfl
  | bl b => cases r; rfl
  | int i => obtain ⟨t, rfl⟩ := r; rfl
  | str z => obtain ⟨t, rfl⟩ := r; rfl
  | _ => exact absurd (show false = true from f) Bool.false_ne_true
theorem any_eqU {x : V} : ∀ {xs : List V} {us : List Value}, Vals xs us → xs.all flatV = true → us.any (eqU x) = xs.any fun y => eqV y x
  | _, _, .nil, _ => rfl
  | y :: xs, u :: us, .cons r t, f => by
    rw [List.all_cons, Bool.and_eq_true] at f
    rw [List.any_cons, List.any_cons, eqU_of r f.1, any_eqU t f.2]
theorem mem_eqAt {A : Around} {s : Shared} {x : V} {v : Value} (rx : RelV x v) (fx : flatV x = true) : ∀ {xs : List V} {us : List Value}, Vals xs us → xs.all flatV = true → ∀ u ∈ us, SeqAt.EqAt A s u v (eqU x u)
  | _, _, .nil, _ => fun u hu => by cases hu
  | y :: xs, u :: us, .cons r t, f => fun u' hu => by
    rw [List.all_cons, Bool.and_eq_true] at f
    rcases List.mem_cons.mp hu with rfl | hu
    · rw [eqU_of r f.1]; exact eqAt_V r rx f.1 fx
    · exact mem_eqAt rx fx t f.2 u' hu
def inV (x : V) (xs : List V) : Bool := xs.any fun y => eqV y x
def rIn (K : PySem.W.Frag) (neg : Bool) : R2 := fun x y H Q => ∃ p xs, y = .ref p ∧ (SqL K H p xs ∨ SqT K H p xs) ∧ flatV x = true ∧ xs.all flatV = true ∧ Q (.bl (if neg then !inV x xs else inV x xs)) H
theorem op_in_seq : OpR X (compareOp .In) (rIn X.K false) := by
  intro pins s σ H x y v u Q I rx ry h
  obtain ⟨p, xs, rfl, hq, fx, fs, q⟩ := h
  cases ry
  rcases hq with hq | hq
  · obtain ⟨its, r, pl, hz⟩ := I.list hq
    refine SeqAt.in_listAt (eqU x) pl.isList (fun w hw => mem_eqAt rx fx r fs w (by simpa using hw)) ⟨.bl _, H, I, rfl, ?_⟩
    rw [show its.toArray.any (eqU x) = its.any (eqU x) by simp, any_eqU r fs]
    exact q
  · obtain ⟨its, r, pl, hz⟩ := I.tuple hq
    refine SeqAt.in_tupleAt (eqU x) pl (fun w hw => mem_eqAt rx fx r fs w (by simpa using hw)) ⟨.bl _, H, I, rfl, ?_⟩
    rw [show its.toArray.any (eqU x) = its.any (eqU x) by simp, any_eqU r fs]
    exact q
theorem call_len_seq : CallR X (.builtin "len") (fun xs H Q => ∃ p ys, xs = [.ref p] ∧ (SqL X.K H p ys ∨ SqT X.K H p ys) ∧ Q (.int ys.length) H) := by
  intro pins s σ H xs us Q I r h
  obtain ⟨p, ys, rfl, hq, q⟩ := h
  obtain ⟨u, rfl, rx⟩ := vals1 r
  cases rx
  have hn := line63
  rcases hq with hq | hq
  · obtain ⟨its, r', pl, hz⟩ := I.list hq
    have hlen := r'.length
    exact Calls.call_len_list pl.isList (by simp only [List.size_toArray] <;> omega) ⟨.int ys.length, H, I.tok _, ⟨s.toks + 1, by rw [List.size_toArray, hlen]⟩, q⟩
  · obtain ⟨its, r', pl, hz⟩ := I.tuple hq
    have hlen := r'.length
    exact len_tuple pl (by simp only [List.size_toArray] <;> omega) ⟨.int ys.length, H, I.tok _, ⟨s.toks + 1, by rw [List.size_toArray, hlen]⟩, q⟩
theorem call_len_str : CallR X (.builtin "len") (fun xs H Q => ∃ z, xs = [.str z] ∧ z.length ≤ sizeLine ∧ Q (.int z.length) H) := by
  intro pins s σ H xs us Q I r h
  obtain ⟨z, rfl, hz, q⟩ := h
  obtain ⟨u, rfl, t, rfl⟩ := vals1 r
  have hn := line63
  exact len_str (by omega) ⟨.int z.length, H, I.tok _, ⟨_, rfl⟩, q⟩
theorem call_list_of : CallR X (.type "list") (fun xs H Q => ∃ p ys, xs = [.ref p] ∧ (SqL X.K H p ys ∨ SqT X.K H p ys) ∧ ∀ l, H l = none → Q (.ref l) (upd H l (.lst ys))) := by
  intro pins s σ H xs us Q I r h
  obtain ⟨p, ys, rfl, hq, q⟩ := h
  obtain ⟨u, rfl, rx⟩ := vals1 r
  cases rx
  have fin : ∀ (its : List Value), Vals ys its → ys.length ≤ sizeLine → ∀ (h' : Heap) (c' : Nat), (∀ b o', s.heap.get? b = some o' → h'.get? b = some o') →
      h'.get? s.heap.objs.size = some { cls := .type "list", dict := none, data := .seq its.toArray c', slots := #[] } → EP X pins σ Q (.ref s.heap.objs.size) { s with heap := h' } := fun its r' hz h' c' kp e =>
    ⟨.ref s.heap.objs.size, _, I.laid (t' := s.toks) kp (Nat.le_refl _) (show ObjOk X.prog X.w _ h' _ (.lst ys) from ⟨hz, its, c', r', e⟩), rfl, q _ (I.hok.fresh (Nat.le_refl _))⟩
  rcases hq with hq | hq
  · obtain ⟨its, r', pl, hz⟩ := I.list hq
    have hlen := r'.length
    obtain ⟨o, ho, hc, n, hd⟩ := pl.isList
    exact call_list_seq p (.inl rfl) ho hc hd (fun h' c' kp e => fin its r' hz h' c' kp e) (by simp only [List.size_toArray] <;> omega)
  · obtain ⟨its, r', pl, hz⟩ := I.tuple hq
    have hlen := r'.length
    obtain ⟨o, ho, hc, n, hd⟩ := pl
    exact call_list_seq p (.inr rfl) ho hc hd (fun h' c' kp e => fin its r' hz h' c' kp e) (by simp only [List.size_toArray] <;> omega)
theorem call_tuple_of : CallR X (.type "tuple") (fun xs H Q => ∃ p ys, xs = [.ref p] ∧ ((SqL X.K H p ys ∧ ∀ l, H l = none → Q (.ref l) (upd H l (.tup ys))) ∨ (SqT X.K H p ys ∧ Q (.ref p) H))) := by
  intro pins s σ H xs us Q I r h
  obtain ⟨p, ys, rfl, h⟩ := h
  obtain ⟨u, rfl, rx⟩ := vals1 r
  cases rx
  rcases h with ⟨hq, q⟩ | ⟨hq, q⟩
  · obtain ⟨its, r', pl, hz⟩ := I.list hq
    have hlen := r'.length
    refine call_tuple_list pl.isList (fun h' kp => ?_) (by simp only [List.size_toArray] <;> omega)
    have I1 : Inv X pins σ H { s with heap := h' } := I.kept (t' := s.toks) kp
    have I2 : Inv X pins σ (upd H h'.objs.size (.tup ys)) { s with heap := h'.push { cls := .type "tuple", data := .seq its.toArray } } :=
      I1.laid (t' := s.toks) (fun b o e => Heap.get?_push_of_some _ e) (Nat.le_refl _) (show ObjOk X.prog X.w _ _ _ (.tup ys) from ⟨hz, its, r', IsTup.new _ _⟩)
    exact ⟨.ref h'.objs.size, _, I2, rfl, q _ (I1.hok.fresh (Nat.le_refl _))⟩
  · obtain ⟨its, r', pl, hz⟩ := I.tuple hq
    exact call_tuple_same pl ⟨.ref p, H, I, rfl, q⟩
def tyV (K : PySem.W.Frag) (T : String) (x : V) (H : Hp) : Prop := match x with
  | .str _ => T = "str"
  | .int _ => T = "int"
  | .ref p => (T = "list" ∧ ∃ xs, SqL K H p xs) ∨ (T = "tuple" ∧ ∃ o, K.lookup p = some o ∧ o.cls = .type "tuple" ∧ o.dict = none) ∨
      (T = "dict" ∧ ((∃ kvs, H p = some (.dK kvs)) ∨ ∃ kvs, H p = some (.dT kvs))) ∨ (T = "set" ∧ ∃ S n, H p = some (.set S n))
  | _ => False
theorem tyV_is {pins : List (Addr × Obj)} {σ : St} {H : Hp} {s : Shared} {T : String} {x : V} {v : Value} (I : Inv X pins σ H s) (r : RelV x v) (ty : tyV X.K T x H) :
    s.TypeIs v T ∧ ∀ a, v = .ref a → ∃ ob, s.heap.get? a = some ob ∧ ob.dict = none := by
  cases x with
  | str z =>
    obtain ⟨t, rfl⟩ := r
    cases (show T = "str" from ty)
    exact ⟨typeIs_str s z t, fun _ e => nomatch e⟩
  | int i =>
    obtain ⟨t, rfl⟩ := r
    cases (show T = "int" from ty)
    exact ⟨typeIs_int s i t, fun _ e => nomatch e⟩
  | ref p =>
    cases r
    rcases ty with ⟨rfl, xs, hq⟩ | ⟨rfl, o, hk, hc, hd⟩ | ⟨rfl, hk⟩ | ⟨rfl, S, n, hk⟩
    · obtain ⟨its, _, pl, _⟩ := I.list hq
      refine ⟨pl.isList.typeIs, fun a e => ?_⟩
      cases e
      obtain ⟨o, n, e, c, hd, _⟩ := pl
      exact ⟨o, e, hd⟩
    · refine ⟨⟨o, I.kIn p o hk, hc⟩, fun a e => ?_⟩
      cases e
      exact ⟨o, I.kIn _ o hk, hd⟩
    · have z : ∃ o, s.heap.get? p = some o ∧ o.ExactDict := by
        rcases hk with ⟨kvs, hk⟩ | ⟨kvs, hk⟩
        · obtain ⟨_, _, _, _, o, _, _, e, ex, _⟩ := I.hok p _ hk
          exact ⟨o, e, ex⟩
        · obtain ⟨_, _, _, _, o, _, _, e, ex, _⟩ := I.hok p _ hk
          exact ⟨o, e, ex⟩
      obtain ⟨o, e, ex⟩ := z
      refine ⟨⟨o, e, ex.1⟩, fun a e2 => ?_⟩
      cases e2
      exact ⟨o, e, ex.2.1⟩
    · obtain ⟨o, _, _, _, e, ex, _⟩ := I.hok p _ hk
      refine ⟨⟨o, e, ex.1⟩, fun a e2 => ?_⟩
      cases e2
      exact ⟨o, e, ex.2.1⟩
  | _ => exact False.elim ty
def tBM (K : PySem.W.Frag) (T : String) (r : V → List V → Hp → VK → Prop) (to : TE) (t : TA) : TE := fun σ H Q => to σ H fun x H1 => tyV K T x H1 ∧ t σ H1 fun xs H2 => r x xs H2 Q
variable {o e : Expr} {es : List Expr} {to : TE} {t : TA} {name : Str} {apos cpos : Pos} {T id : String} {r : V → List V → Hp → VK → Prop}
theorem pe_bm (pa : PlainAttrs T) (slot : Slot T name id) (hty : typeOf (.builtin id) = pure (.type "method_descriptor")) (hm : MtR X id r) (ho : PE X o to) (ha : PA X (e :: es) t)
    (hbase : attributeBase o name X.env (eval o X.env) = eval o X.env := by rfl)
    (hfew : ((backTo cpos (starEach (e :: es) X.env)).all (fun x => !x.1) && (backToKw cpos (keywordEach [] X.env)).all (fun x => x.1.isSome)
      && decide ((e :: es).length + ([] : List Keyword).length + (if ([] : List Keyword).isEmpty then 0 else 1) < 30)) = true := by rfl)
    (hline : (apos.endLine == cpos.line) = true := by rfl) (hs : starEach (e :: es) X.env = (false, eval e X.env) :: starEach es X.env := by rfl) (hplain : (backTo cpos (starEach es X.env)).any (·.1) = false := by rfl) :
    PE X (.Call (.Attribute o name apos) (e :: es) [] cpos) (tBM X.K T r to t) := by
  intro pins s σ H Q I h
  refine wpAny_Call_method_late hbase hfew hline rfl (thn (ho pins s σ H _ I h) fun v s1 ⟨x, H1, I1, r1, ty, q1⟩ => ?_)
  obtain ⟨h1, h2⟩ := tyV_is I1 r1 ty
  refine ⟨T, id, pa, slot, hty, h1, h2, ?_⟩
  have hA := ha cpos pins s1 σ H1 _ I1 q1
  rw [hs] at hA ⊢
  refine Calls.callWith_builtin (by show (false || (backTo cpos (starEach es X.env)).any (·.1)) = false; rw [hplain] <;> rfl) (Calls.evalArgs_plain ?_)
  exact thn hA fun us s2 ⟨vs, H2, I2, r2, q2⟩ => hm pins s2 σ H2 x vs v us Q I2 r1 r2 q2
end
end L2
namespace L2
open PySem PySem.Spec PyProof.Rows
def MtM (X : Cx) (id : String) (r : V → List V → Hp → VK → Prop) : Prop :=
  ∀ (pins : List (Addr × Obj)) (s : Shared) (σ : St) (H : Hp) (x : V) (xs : List V) (v : Value) (us : List Value) (Q : VK), Inv X pins σ H s → RelV x v → Vals xs us → r x xs H Q →
    wpAny (model X.prog X.w) X.A (call (.builtin id) (v :: us)) (EP X pins σ Q) X.xe s
theorem Vals.one : ∀ {x : V} {us : List Value}, Vals [x] us → ∃ u, us = [u] ∧ RelV x u
  | _, _, .cons r .nil => ⟨_, rfl, r⟩
section
variable {X : Cx} {pins : List (Addr × Obj)} {σ : St} {H : Hp} {s : Shared} {l b : Addr} {xs ys zs : List V}
theorem Inv.lset {its its' : List Value} {n : Nat} {f : Array Value → Array Value} {t' : Nat} (I : Inv X pins σ H s) (hH : H l = some (.lst xs))
    (e : s.heap.get? l = some { cls := .type "list", data := .seq its.toArray n }) (hf : f its.toArray = its'.toArray) (hv : Vals ys its') (hz : ys.length ≤ sizeLine) :
    Inv X pins σ (upd H l (.lst ys)) { s with heap := s.heap.update l (Obj.mapSeq f), toks := t' } := by
  have q := PySem.IsL.update e f
  rw [hf] at q
  refine I.write (x := l) (e := l) (by rw [hH]; exact trivial) (.inl rfl) (fun b' u hb hu => (Heap.get?_update_other s.heap (Obj.mapSeq f) (Ne.symm hb)).trans hu) ⟨_, q⟩ ?_
  exact ⟨hz, its', _, hv, q⟩
theorem Inv.lnew {its : List Value} {t' : Nat} (I : Inv X pins σ H s) (hv : Vals ys its) (hz : ys.length ≤ sizeLine) :
    Inv X pins σ (upd H s.heap.objs.size (.lst ys)) { s with heap := s.heap.push { cls := .type "list", data := .seq its.toArray }, toks := t' } :=
  I.laid (fun _ _ q => Heap.get?_push_of_some _ q) (Nat.le_refl _) ⟨hz, its, 0, hv, Heap.get?_push_size _ rfl⟩
theorem Inv.fresh (I : Inv X pins σ H s) : H s.heap.objs.size = none := I.hok.fresh (Nat.le_refl _)
theorem Inv.lstM (I : Inv X pins σ H s) (hH : H l = some (.lst xs)) : xs.length ≤ sizeLine ∧ ∃ (its : List Value) (n : Nat), Vals xs its ∧ xs.length = its.length ∧ s.heap.get? l = some { cls := .type "list", data := .seq its.toArray n } := by
  obtain ⟨z, its, n, r, e⟩ := I.hok l _ hH
  exact ⟨z, its, n, r, r.length, e⟩
end
section
variable {X : Cx}
def rAppend : V → List V → Hp → VK → Prop := fun x vs H Q => ∃ l xs y, x = .ref l ∧ vs = [y] ∧ H l = some (.lst xs) ∧ xs.length < sizeLine ∧ Q .non (upd H l (.lst (xs ++ [y])))
theorem mt_append : MtM X "list.append" rAppend := by
  intro pins s σ H x vs v us Q I rx rv h
  obtain ⟨l, xs, y, rfl, rfl, hH, hz, q⟩ := h
  cases rx
  obtain ⟨u, rfl, ru⟩ := rv.one
  obtain ⟨z, its, n, r, hl, e⟩ := I.lstM hH
  refine call_meets F.slot_list_append ⟨_, e, rfl⟩ F.entry_list_append (F.args_list_append_2 _ _) (PySem.list_append l its.toArray n u (by rw [List.size_toArray]; omega)) ⟨e, ?_⟩
  refine ⟨.non, _, I.lset (its' := its ++ [u]) hH e (by simp) (r.append (.cons ru .nil)) ?_, rfl, q⟩
  rw [List.length_append, List.length_singleton]
  omega
def rCat : R2 := fun x y H Q => ∃ l b xs zs, x = .ref l ∧ y = .ref b ∧ H l = some (.lst xs) ∧ H b = some (.lst zs) ∧ xs.length + zs.length ≤ sizeLine ∧ ∀ p, H p = none → Q (.ref p) (upd H p (.lst (xs ++ zs)))
theorem op_cat : OpR X (binaryOp .Add) rCat := by
  intro pins s σ H x y v u Q I rx ry h
  obtain ⟨l, b, xs, zs, rfl, rfl, hH, hB, hz, q⟩ := h
  cases rx
  cases ry
  obtain ⟨z, its, n, r, hl, e⟩ := I.lstM hH
  obtain ⟨z2, its2, n2, r2, hl2, e2⟩ := I.lstM hB
  refine PySem.P.add_list e e2 ?_ (by rw [List.size_toArray, List.size_toArray]; omega)
  have ea : its.toArray ++ its2.toArray = (its ++ its2).toArray := by simp
  rw [ea]
  exact ⟨.ref _, _, I.lnew (t' := s.toks) (r.append r2) (by rw [List.length_append]; omega), rfl, q _ I.fresh⟩
end
end L2
namespace Att
open PySem PySem.W PySem.Calls PyProof.Rows
theorem ints_of_wellAll {P : Params} {h : Heap} : ∀ (ns : List Int) (vs : List Value), WellAll P h vs (ns.map WData.int) → IntsAre vs ns := by
  intro ns
  induction ns with
  | nil =>
    intro vs w
    rw [List.map_nil] at w
    cases w
    exact .nil
  | cons n ns ih =>
    intro vs w
    rw [List.map_cons] at w
    cases w with
    | cons a b =>
      cases a
      exact .cons _ _ (ih _ b)
theorem script_of {l : OpenLaw} {n : Nat} (hn : l.most = some n) {P : Params} {h : Heap} {args : List WData} {vals : List Value}
    (hpre : l.row.toRowW.claim.pre args = true) (hwl : WellAll P h vals args) :
    ∃ a vs ns, vals = [Value.ref a] ∧ args = [WData.list (ns.map WData.int)] ∧ h.get? a = some { cls := .type "list", data := .seq vs.toArray } ∧ IntsAre vs ns ∧ ns.length ≤ n := by
  have hsh : WShape.hasAll [] args [.list .int] = true := (pre_splitW hpre).1
  have hc : l.pre.holds [] { args := args } = true := (pre_splitW hpre).2
  obtain ⟨d, r, rfl, h1, h2⟩ := hasAllW_cons hsh
  obtain rfl := hasAllW_nil h2
  obtain ⟨xs, rfl, h3⟩ := hasW_list h1
  obtain ⟨ns, rfl⟩ := items_int h3
  have hlen : ns.length ≤ n := by
    unfold OpenLaw.pre at hc
    have h4 : (WTm.not (.lt (.lit (.int (n : Int))) (.len (.arg 0)))).holds [] { args := [.list (ns.map .int)] } = true := by
      have h4 := (holds_andW hc).1
      rw [hn] at h4
      exact h4
    have h5 := condW_of h4 (w_not (w_lt w_lit (w_len_list (w_arg rfl))))
    rw [List.length_map] at h5
    refine Nat.le_of_not_lt fun q => ?_
    have q' : (n : Int) < ((ns.length : Nat) : Int) := by omega
    first
      | (rw [decide_eq_true q'] at h5; exact absurd h5 (by decide))
      | (simp at h5; omega)
  cases hwl with
  | cons w1 w2 =>
    cases w2
    cases w1 with
    | list ho hall => exact ⟨_, _, ns, rfl, rfl, ho, ints_of_wellAll ns _ hall, hlen⟩
theorem post_true (l : OpenLaw) (args : List WData) : l.row.toRowW.claim.post args (.bool true) args = true :=
  postW_of (r := l.row.toRowW) (X := (true == true))
    (show WShape.has [] (.bool true) .bool = true by first | rfl | decide | simp [WShape.has, WShape.arms, WShape.armsAll])
    (show (WTm.eq .res (.lit (.bool true))).value [] { args := args, res := some (.bool true), after := args } = some (.bool (true == true)) from w_eq_bool (w_res rfl) w_lit) rfl
theorem attach_call {l : OpenLaw} {n : Nat} {q : Program} {loose : List Str} {XP : (Str → Option Value) → Heap → Prop} {YP : World → Heap → Prop} {d : DefRec}
    (hn : l.most = some n) (hdf : d.params.defaults = [])
    (call : ∀ (w : World) (s₀ s₁ : Shared) (mg mb : Str → Option Value) (fa : Addr) (o : Obj) (pm cd doc : Value) (a : Addr) (vs : List Value) (ns : List Int),
      Ground q loose [] XP w s₀ mg mb s₁.heap → YP w s₁.heap →
      s₁.heap.get? fa = some o → o.data = .func (docDef d.name d.params d.body d.scope pm cd doc) → s₁.heap.CodeRec cd d.name → mg d.name = some (.ref fa) →
      s₁.heap.get? a = some { cls := .type "list", data := .seq vs.toArray } → IntsAre vs ns → ns.length ≤ n → s₁.gens = #[] →
      codeAny (model l.prog w) callerA (.call (.ref fa) ⟨[.ref a], []⟩) (fun r s' => r = .ok (.ret (.bool true)) ∧ OldK s₁.heap s'.heap ∧ s'.os = s₁.os ∧ AllBare s'.gens) s₁) :
    WalkO q loose XP YP l.row.toRowW d [] (fun f vs => PySem.call f vs) := by
  intro w s₀ s₁ mg mb G Y fa o pm cd doc dV kV ho hd hcd hD hmg hg args vals as hpre hlay hrd hwl hlo
  obtain rfl : dV = .none := Dflts.none hD hdf
  obtain rfl : kV = .none := Dflts.noKw hD
  obtain ⟨a, vs, ns, rfl, rfl, hobj, hints, hlen⟩ := script_of hn hpre hwl
  refine enter_call (codeAny_mono (call w s₀ s₁ mg mb fa o pm cd doc a vs ns G Y ho (fd_plain hd) hcd hmg hobj hints hlen hg) fun r s' hq => ?_)
  obtain ⟨rfl, h2, h3, h4⟩ := hq
  exact ⟨.inl ⟨.bool true, .bool true, [], rfl, fun _ => rfl, .bool true, post_true l _, fun _ => ⟨List.Pairwise.nil, fun _ hm => (nomatch hm)⟩⟩, h2, h3, h4⟩
end Att
namespace L2
open PySem PySem.Spec PyProof.Rows
theorem vals_ints : ∀ {vs : List Value} {ns : List Int}, IntsAre vs ns → Vals (ns.map V.int) vs
  | _, _, .nil => .nil
  | _, _, .cons n t h => .cons ⟨t, rfl⟩ (vals_ints h)
def Only (H : Hp) : Prop := ∀ b, H b = none ∨ ∃ o xs, H b = some (.frz o (.lst xs))
theorem law_call {P : Program} {w : World} {K : PySem.W.Frag} {mg mb : Str → Option Value} {CX : CXT} {k : Nat} {fa a : Addr} {fd : FuncData} {x : Str} {sp : Sp} {s₁ : Shared} {vs : List Value} {ns : List Int}
    (KX : K.In s₁.heap) (hns : s₁.heap.Ns mainGlobals mg) (hb : s₁.heap.Ns builtinsNs mb) (hbb : ∀ x : Str, x ≠ "__name__" → mb x = bootBuiltins x) (hlim : s₁.heap.NoLimit) (hg : s₁.gens = #[])
    (ha : s₁.heap.get? a = some { cls := .type "list", data := .seq vs.toArray }) (hi : IntsAre vs ns) (hl : ns.length ≤ sizeLine) (hr : Room k callerA)
    (F : ∀ base : Heap, K.In base → base.Ns mainGlobals mg → FnOk P w K mg base CX k fa fd [x] sp) (hbind : ∀ (s : Shared) (u : Value), BindsTo s fd ⟨[u], []⟩ [(x, u)])
    (hsp : ∀ H : Hp, Only H → SqL K H a (ns.map V.int) → sp [.ref a] H (fun v _ => v = .bl true) fun _ _ _ => False)
    (hCX : ∀ H e s', CX [] H s₁ (fun _ _ _ => False) e s' → False) :
    codeAny (model P w) callerA (.call (.ref fa) ⟨[.ref a], []⟩) (fun r s' => r = .ok (.ret (.bool true)) ∧ OldK s₁.heap s'.heap ∧ s'.os = s₁.os ∧ AllBare s'.gens) s₁ := by
  have rv := vals_ints hi
  have lenV := hi.length
  have core : ∀ H : Hp, Only H → SqL K H a (ns.map V.int) → HOk P w H s₁.heap → (∀ b, H b ≠ none → b = a) → (H a ≠ none → K.lookup a = none) →
      codeAny (model P w) callerA (.call (.ref fa) ⟨[.ref a], []⟩) (fun r s' => r = .ok (.ret (.bool true)) ∧ OldK s₁.heap s'.heap ∧ s'.os = s₁.os ∧ AllBare s'.gens) s₁ := by
    intro H hO hS hok hA hK
    have base_of : ∀ {b : Addr} {o : Obj}, s₁.heap.get? b = some o → H b = none → (hidT s₁.heap H).get? b = some o := fun e n => hidT_get e n
    have noA : ∀ {b : Addr} {o : Obj} {es : Array DictEntry} {ep : Nat}, s₁.heap.get? b = some o → o.data = .dict es ep → H b = none := fun {b o es ep} e d => by
      cases q : H b with
      | none => rfl
      | some u =>
        have e' : b = a := hA b (by rw [q]; simp)
        subst e'
        rw [ha] at e; cases e
        have d' : Data.seq vs.toArray _ = Data.dict es ep := d
        cases d'
    have nsK : ∀ {b : Addr} {m : Str → Option Value}, s₁.heap.Ns b m → (hidT s₁.heap H).Ns b m := fun {b m} ⟨o, es, ep, e, d, r⟩ => ⟨o, es, ep, base_of e (noA e d), d, r⟩
    have hKb : K.In (hidT s₁.heap H) := fun b o e => base_of (KX b o e) (by
      cases q : H b with
      | none => rfl
      | some u =>
        have e' : b = a := hA b (by rw [q]; simp)
        subst e'
        rw [hK (by rw [q]; simp)] at e; cases e)
    have hM : Mod K mg (hidT s₁.heap H) := ⟨hKb, nsK hns, ⟨mb, nsK hb, hbb⟩, let ⟨mc, h1, h2⟩ := hlim; ⟨mc, nsK h1, h2⟩⟩
    have e0 : Env0 P w K mg (hidT s₁.heap H) callerA [] s₁ H := ⟨rfl, hM, fun b o e => of_hidT e, Nat.le_of_eq (hidT_size _ _), trivial, fun b hb => absurd (show b ∈ ([] : List Addr) from hb) (by simp), hok, .of_eq hg⟩
    refine codeAny_mono ((F _ hKb (nsK hns)).run callerA [] s₁ H ⟨[.ref a], []⟩ [.ref a] [.ref a] _ _ hr e0 (hbind s₁ (.ref a)) (.cons rfl .nil) (hsp H hO hS)) fun r s' h => ?_
    cases r with
    | error e => exact (hCX H e s' h).elim
    | ok fl =>
      cases fl with
      | next => exact False.elim h
      | brk => exact False.elim h
      | cont => exact False.elim h
      | ret u =>
        obtain ⟨v, H', os, bare, un, hok', r', q⟩ := h
        have q' : v = .bl true := q
        subst q'
        obtain rfl : u = Value.bool true := r'
        refine ⟨rfl, OldK.of_keep fun b o e => ?_, os, bare⟩
        cases q : H b with
        | none => exact un.keep b o e q (by intro z; exact absurd (show b ∈ ([] : List Addr) from z) (by simp)) (by simp)
        | some u =>
          rcases hO b with z | ⟨ob, xs, z⟩
          · rw [q] at z; cases z
          · have z2 := un.frzs b ob _ z
            obtain ⟨e1, _⟩ := hok b _ z
            obtain ⟨e2, _⟩ := hok' b _ z2
            rw [e] at e1; cases e1
            exact e2
  cases hk : K.lookup a with
  | some o =>
    have e := KX a o hk
    rw [ha] at e
    cases e
    refine core (fun _ => none) (fun _ => .inl rfl) (.inr ⟨_, vs.toArray, _, hk, rfl, rfl, rfl, by rw [List.size_toArray, lenV]; exact hl, by simpa using rv⟩) (fun b u z => by have z' : (none : Option HO) = some u := z; cases z') (fun b z => absurd rfl z) fun z => absurd rfl z
  | none =>
    refine core (fun b => if b = a then some (.frz { cls := .type "list", data := .seq vs.toArray } (.lst (ns.map V.int))) else none) (fun b => ?_) (.inl (.inr ⟨{ cls := .type "list", data := .seq vs.toArray }, if_pos rfl⟩)) (fun b u z => ?_) (fun b z => ?_) fun _ => hk
    · by_cases hb : b = a
      · exact .inr ⟨_, _, if_pos hb⟩
      · exact .inl (if_neg hb)
    · by_cases hb : b = a
      · have z' := (if_pos hb).symm.trans z
        cases z'
        subst hb
        exact ⟨ha, by rw [List.length_map]; exact hl, vs, _, rv, ha⟩
      · have z' := (if_neg hb).symm.trans z
        cases z'
    · by_cases hb : b = a
      · exact hb
      · exact absurd (if_neg hb) z
end L2
namespace L2
open PySem PySem.Spec PyProof.Rows
theorem walk_of {l : PySem.W.OpenLaw} {n k : Nat} {q : Program} {loose : List Str} {XP : (Str → Option Value) → Heap → Prop} {YP : World → Heap → Prop} {d : DefRec} {K : Params → PySem.W.Frag} {CX : World → CXT} {sp : World → Sp} {x : Str}
    (hn : l.most = some n) (hn2 : n ≤ sizeLine) (hdf : d.params.defaults = []) (hr : Room k callerA)
    (hY : ∀ (w : World) (h : Heap), YP w h → (K w.params).In h)
    (F : ∀ (w : World) (mg : Str → Option Value) (fa : Addr) (h : Heap), (K w.params).In h → h.Ns mainGlobals mg → mg d.name = some (.ref fa) →
      ∃ fd : FuncData, (∀ (s : Shared) (u : Value), BindsTo s fd ⟨[u], []⟩ [(x, u)]) ∧
        ∀ base : Heap, (K w.params).In base → base.Ns mainGlobals mg → FnOk l.prog w (K w.params) mg base (CX w) k fa fd [x] (sp w))
    (hsp : ∀ (w : World) (H : Hp) (a : Addr) (ns : List Int), ns.length ≤ n → Only H → SqL (K w.params) H a (ns.map V.int) → sp w [.ref a] H (fun v _ => v = .bl true) fun _ _ _ => False)
    (hCX : ∀ (w : World) (H : Hp) (s : Shared) (e : Value) (s' : Shared), CX w [] H s (fun _ _ _ => False) e s' → False) :
    PySem.W.WalkO q loose XP YP l.row.toRowW d [] (fun f vs => PySem.call f vs) := by
  refine Att.attach_call hn hdf fun w s₀ s₁ mg mb fa o pm cd doc a vs ns G Y ho hd hcd hmg hobj hints hlen hg => ?_
  have KX := hY w _ Y
  obtain ⟨fd, hb, hF⟩ := F w mg fa _ KX G.T.g hmg
  exact law_call KX G.T.g G.T.b G.T.builtins G.T.nolimit hg hobj hints (Nat.le_trans hlen hn2) hr hF hb (fun H hO hS => hsp w H a ns hlen hO hS) fun H e s' => hCX w H s₁ e s'
end L2
namespace L2
open PySem PySem.Spec PyProof.Rows
def inClass (s : Stmt) (j : Nat) : Stmt := match s with
  | .ClassDef _ _ _ body _ _ _ _ _ _ _ => body.getD j (.Pass ⟨0, 0, 0, 0⟩)
  | _ => .Pass ⟨0, 0, 0, 0⟩
def defArgs (s : Stmt) : Arguments := match s with
  | .FunctionDef _ a _ _ _ _ _ _ _ _ => a
  | _ => { posonlyargs := [], args := [], vararg := none, kwonlyargs := [], kw_defaults := [], kwarg := none, defaults := [] }
def defBody (s : Stmt) : List Stmt := match s with
  | .FunctionDef _ _ b _ _ _ _ _ _ _ => b
  | _ => []
def defScope (s : Stmt) : Scope := match s with
  | .FunctionDef _ _ _ _ _ _ sc _ _ _ => sc
  | _ => { kind := .function, names := [], isGenerator := false, isCoroutine := false }
abbrev CX0 : CXT := fun _ _ _ _ _ _ => False
abbrev E0 : XK := fun _ _ _ => False
theorem pass0 {X : Cx} : Passes CX0 X E0 := fun _ _ _ _ _ _ _ h => h.elim
structure Fun (K : PySem.W.Frag) (x qual : Str) (st : Stmt) (f : Addr) (fd : FuncData) : Prop where
  ex : ∃ (oc : Value) (od : Option Addr) (kV doc pm : Value) (an : Option Addr) (cdv ct : Value) (osl : Array (Option Value)),
    fd = PySem.W.fnOf x qual (defArgs st) (defBody st) (defScope st) .none kV doc pm an cdv ct ∧ K.lookup f = some ⟨oc, od, .func fd, osl⟩ ∧ PySem.W.codeIn K cdv qual = true
  kp : PySem.W.keepIn K (.ref f) = true
section
variable {P : Program} {w : World} {K : PySem.W.Frag} {mg : Str → Option Value} {base : Heap}
theorem Fun.ok {x qual : Str} {st : Stmt} {f : Addr} {fd : FuncData} {N ps : List Str} {k : Nat} {sp : Sp} (F : Fun K x qual st f fd) (S : FnScope N ps (defScope st)) (len : ∀ vs H Q E, sp vs H Q E → vs.length = ps.length)
    (hbody : ∀ (cdv : Value) (A : Around) (outer : List Env) (s : Shared) (H : Hp) (vs : List V) (Q : VK) (E : XK), Room k (A.deeper (envOfC qual (defScope st) s.heap.objs.size f cdv)) → sp vs H Q E →
      ∃ t, PSs (cxOf CX0 P w K mg base N qual (defScope st) f cdv A outer s H E).nox (defBody st) t ∧ t { nx := fun _ H' => Q .non H', rt := Q } (start N vs) H) : FnOk P w K mg base CX0 (k + 1) f fd ps sp := by
  obtain ⟨oc, od, kV, doc, pm, an, cdv, ct, osl, rfl, lk, hcd⟩ := F.ex
  refine fn_of lk hcd S len fun A outer s H vs Q E hr hsp => ?_
  obtain ⟨t, h, q⟩ := hbody cdv A outer s H vs Q E hr hsp
  exact ⟨t, h.nox, q⟩
theorem fun_mk {x qual : Str} {st : Stmt} {f : Addr} {oc : Value} {od an : Option Addr} {osl : Array (Option Value)} {kV doc pm cdv ct : Value} (l : K.lookup f = some ⟨oc, od, .func (PySem.W.fnOf x qual (defArgs st) (defBody st) (defScope st) .none kV doc pm an cdv ct), osl⟩)
    (c : PySem.W.codeIn K cdv qual = true) (k : PySem.W.keepIn K (.ref f) = true) : Fun K x qual st f (PySem.W.fnOf x qual (defArgs st) (defBody st) (defScope st) .none kV doc pm an cdv ct) := ⟨⟨oc, od, kV, doc, pm, an, cdv, ct, osl, rfl, l, c⟩, k⟩
end
theorem small1000 {n : Nat} (h : n ≤ 1000) : n < sizeLine := Nat.lt_of_le_of_lt h (by decide)
section
variable {X : Cx}
theorem pv (i : Nat) {x : Str} {pos : Pos} (hN : X.N[i]? = some x := by rfl) (hv : Vis X.env.scope x := by first | exact Or.inl rfl | exact Or.inr (Or.inl rfl) | exact Or.inr (Or.inr rfl)) (hd : (x == ("__debug__" : Str)) = false := by decide)
    (hcd : (x == ("__classdict__" : Str)) = false := by decide) : PE X (.Name x pos) (tVar i) := pe_var hN hv hd hcd
end
theorem iteF {A B : Prop} (h : B) : if false = true then A else B := by
  rw [if_neg Bool.false_ne_true]
  exact h
theorem iteT {A B : Prop} (h : A) : if true = true then A else B := by
  rw [if_pos rfl]
  exact h
theorem ite2 {c A B : Prop} [Decidable c] (h1 : c → A) (h2 : ¬ c → B) : if c then A else B := by
  by_cases h : c
  · rw [if_pos h]
    exact h1 h
  · rw [if_neg h]
    exact h2 h
def Same (H H' : Hp) : Prop := ∀ b o, H b = some o → H' b = some o
theorem Same.refl (H : Hp) : Same H H := fun _ _ h => h
theorem Same.trans {H H1 H2 : Hp} (a : Same H H1) (b : Same H1 H2) : Same H H2 := fun c o h => b c o (a c o h)
theorem Same.free {H H' : Hp} (e : Same H H') {l : Addr} (h : H' l = Option.none) : H l = Option.none := by
  cases q : H l with
  | none => rfl
  | some o =>
    rw [e l o q] at h
    cases h
theorem Same.seq {K : PySem.W.Frag} {H H' : Hp} {a : Addr} {xs : List V} (e : Same H H') (h : SqL K H a xs) : SqL K H' a xs := by
  rcases h with (h | ⟨o, h⟩) | h
  · exact .inl (.inl (e _ _ h))
  · exact .inl (.inr ⟨o, e _ _ h⟩)
  · exact .inr h
end L2
set_option maxHeartbeats 1000000
namespace L2
open PySem PySem.Spec PyProof.Rows
theorem closure_ok {scope : Scope} {env : Env} (h : ∀ x, (x, NameKind.free) ∈ scope.names → ∃ c, env.cells.lookup x = some c) :
    ∃ cl, closureFor scope env = pure cl ∧ (∀ x c, cl.lookup x = some c → env.cells.lookup x = some c) ∧ ∀ x, (x, NameKind.free) ∈ scope.names → ∃ c, cl.lookup x = some c := by
  have go : ∀ (names : List (Str × NameKind)) (acc : List (Str × Addr)), (∀ x, (x, NameKind.free) ∈ names → ∃ c, env.cells.lookup x = some c) → (∀ x c, acc.lookup x = some c → env.cells.lookup x = some c) →
      ∃ cl, (forIn names acc fun (p : Str × NameKind) (r : List (Str × Addr)) => if p.2 == .free then (do let a ← cellOf env p.1; pure (ForInStep.yield ((p.1, a) :: r))) else pure (ForInStep.yield r) : Sem (List (Str × Addr))) = pure cl ∧
        (∀ x c, cl.lookup x = some c → env.cells.lookup x = some c) ∧ (∀ x c, acc.lookup x = some c → ∃ c', cl.lookup x = some c') ∧ ∀ x, (x, NameKind.free) ∈ names → ∃ c, cl.lookup x = some c := by
    intro names
    induction names with
    | nil => intro acc _ ha; exact ⟨acc, rfl, ha, fun x c e => ⟨c, e⟩, fun x z => nomatch z⟩
    | cons p r ih =>
      intro acc hn ha
      obtain ⟨n, k⟩ := p
      rw [List.forIn_cons]
      cases hk : (k == NameKind.free) with
      | false =>
        obtain ⟨cl, h1, h2, h3, h4⟩ := ih acc (fun x z => hn x (List.mem_cons_of_mem _ z)) ha
        refine ⟨cl, ?_, h2, h3, fun x z => ?_⟩
        · simp only [hk, Bool.false_eq_true, if_false, pure_bind]
          exact h1
        · rcases List.mem_cons.mp z with e | z
          · injection e with e1 e2
            rw [← e2] at hk
            exact absurd hk (by decide)
          · exact h4 x z
      | true =>
        have ek : k = .free := by simpa using hk
        subst ek
        obtain ⟨c, hc⟩ := hn n List.mem_cons_self
        have hcell : cellOf env n = pure c := by unfold cellOf; rw [hc]
        obtain ⟨cl, h1, h2, h3, h4⟩ := ih ((n, c) :: acc) (fun x z => hn x (List.mem_cons_of_mem _ z)) (fun x c' e => by
          rw [List.lookup_cons] at e
          cases hx : x == n with
          | true =>
            rw [hx] at e
            have e' : c = c' := Option.some.inj e
            have ex : x = n := by simpa using hx
            rw [ex, ← e']; exact hc
          | false => rw [hx] at e; exact ha x c' e)
        refine ⟨cl, ?_, h2, fun x c' e => ?_, fun x z => ?_⟩
        · simp only [beq_self_eq_true, if_true, hcell, pure_bind]
          exact h1
        · cases hx : x == n with
          | true => exact h3 x c (by rw [List.lookup_cons, hx])
          | false => exact h3 x c' (by rw [List.lookup_cons, hx]; exact e)
        · rcases List.mem_cons.mp z with e | z
          · injection e with e1 e2
            exact h3 x c (by rw [e1, List.lookup_cons]; simp)
          · exact h4 x z
  obtain ⟨cl, h1, h2, _, h4⟩ := go scope.names [] h (fun x c e => nomatch e)
  refine ⟨cl, ?_, h2, h4⟩
  rw [← h1]
  unfold closureFor
  simp only [bind_pure]
def cxComp (X : Cx) (scope : Scope) (cl : List (Str × Addr)) (C : Addr) (N : List Str) (s : Shared) (H : Hp) (ex : List Addr) : Cx where
  prog := X.prog
  w := X.w
  K := X.K
  mg := X.mg
  base := X.base
  A := X.A
  N := N
  s₀ := s
  H₀ := H
  env := compEnvC scope cl C X.env
  outer := X.stack
  stack := X.stack
  ex := ex
  calm := X.calm
  fn := fun x => match scope.names.lookup x with | some .cell => true | _ => false
  pn := []
  xe := fun _ _ => False
theorem lookup_relabel {env : Env} : ∀ {names : List (Str × NameKind)} {x : Str} {k : NameKind},
    (names.map fun (n, k) => if (k == NameKind.free && env.scope.kind == .function && env.kindOf n == some .cell) then (n, NameKind.cell) else (n, k)).lookup x = some k →
    ∃ k', names.lookup x = some k' ∧ (k' = k ∨ (k' = .free ∧ k = .cell))
  | [], _, _, h => by simp at h
  | (n, kk) :: r, x, k, h => by
    have ih := @lookup_relabel env r x k
    have h' : List.lookup x ((if (kk == NameKind.free && env.scope.kind == .function && env.kindOf n == some .cell) = true then (n, NameKind.cell) else (n, kk)) :: r.map fun (n, k) => if (k == NameKind.free && env.scope.kind == .function && env.kindOf n == some .cell) then (n, NameKind.cell) else (n, k)) = some k := h
    cases hx : x == n with
    | true =>
      by_cases hc : (kk == NameKind.free && env.scope.kind == .function && env.kindOf n == some .cell) = true
      · rw [if_pos hc, List.lookup_cons, hx] at h'
        have e : NameKind.cell = k := Option.some.inj h'
        have hf : kk = .free := by
          rw [Bool.and_eq_true, Bool.and_eq_true] at hc
          simpa using hc.1.1
        exact ⟨kk, by rw [List.lookup_cons, hx], .inr ⟨hf, e.symm⟩⟩
      · rw [if_neg hc, List.lookup_cons, hx] at h'
        exact ⟨kk, by rw [List.lookup_cons, hx], .inl (Option.some.inj h')⟩
    | false =>
      have h2 : List.lookup x (r.map fun (n, k) => if (k == NameKind.free && env.scope.kind == .function && env.kindOf n == some .cell) then (n, NameKind.cell) else (n, k)) = some k := by
        by_cases hc : (kk == NameKind.free && env.scope.kind == .function && env.kindOf n == some .cell) = true
        · rw [if_pos hc, List.lookup_cons, hx] at h'; exact h'
        · rw [if_neg hc, List.lookup_cons, hx] at h'; exact h'
      obtain ⟨k', e1, e2⟩ := ih h2
      exact ⟨k', by rw [List.lookup_cons, hx]; exact e1, e2⟩
structure CompScope (N : List Str) (osc scope : Scope) (own : List Str) (fr : List (Nat × Str)) : Prop where
  kind : scope.kind = .function
  cells : ∀ y ∈ scope.names, y.2 = .cell → scope.names.lookup y.1 = some .cell
  locs : ∀ y ∈ scope.names, y.2 = .local → scope.names.lookup y.1 = some .local
  free : ∀ y ∈ scope.names, y.2 = .free → osc.names.lookup y.1 = some .cell ∨ osc.names.lookup y.1 = some .free
  slot : ∀ p ∈ fr, N[p.1]? = some p.2 ∧ scope.names.lookup p.2 = some .free
theorem HOk.track {P : Program} {w : World} {H : Hp} {h : Heap} {a : Addr} {o : HO} (x : HOk P w H h) (hn : H a = none) (new : ObjOk P w (upd H a o) h a o) : HOk P w (upd H a o) h := fun b u e => by
  by_cases hb : b = a
  · subst hb; rw [upd_same] at e; cases e; exact new
  · rw [upd_ne hb] at e
    exact (x b u e).stay (fun c v _ q => q) (fun c q => by rw [upd_ne (ne_of_none q hn)]; exact q) fun c xs q => by rw [upd_ne (ne_of_none q hn)]; exact q
theorem HOk.but {P : Program} {w : World} {H : Hp} {h h' : Heap} {a : Addr} (x : HOk P w H h) (hn : H a = none) (k : ∀ b o, b ≠ a → h.get? b = some o → h'.get? b = some o) : HOk P w H h' := fun b u e =>
  (x b u e).stay (fun c v hc q => k c v (by
    rintro rfl
    rcases hc with rfl | hc
    · rw [hn] at e; cases e
    · rw [hn] at hc; cases hc) q) (fun _ q => q) fun _ _ q => q
theorem Un.track {fs ex : List Addr} {H H' : Hp} {h h' : Heap} {a : Addr} {o : HO} (u : Un fs ex H H' h h') (ha : h.objs.size ≤ a) (hn : H a = none) : Un fs ex H (upd H' a o) h h' where
  keep := u.keep
  slot := u.slot
  free := fun b ob q n hx => by rw [upd_ne (Nat.ne_of_lt (Nat.lt_of_lt_of_le (Heap.lt_size q) ha))]; exact u.free b ob q n hx
  there := u.there
  tups := fun b xs q => by rw [upd_ne (ne_of_none q hn)]; exact u.tups b xs q
  frzs := fun b ob v q => by rw [upd_ne (ne_of_none q hn)]; exact u.frzs b ob v q
  tbls := fun b ps q => by rw [upd_ne (ne_of_none q hn)]; exact u.tbls b ps q
theorem Un.but {fs ex : List Addr} {H H' : Hp} {h h' h'' : Heap} {a : Addr} (u : Un fs ex H H' h h') (ha : h.objs.size ≤ a) (k : ∀ b o, b ≠ a → h'.get? b = some o → h''.get? b = some o) : Un fs ex H H' h h'' where
  keep := fun b ob q n hb hx => k b ob (Nat.ne_of_lt (Nat.lt_of_lt_of_le (Heap.lt_size q) ha)) (u.keep b ob q n hb hx)
  slot := fun b ob q n hb hx => let ⟨sl, e⟩ := u.slot b ob q n hb hx; ⟨sl, k b _ (Nat.ne_of_lt (Nat.lt_of_lt_of_le (Heap.lt_size q) ha)) e⟩
  free := u.free
  there := fun b ob q hx => let ⟨o', e⟩ := u.there b ob q hx; ⟨o', k b _ (Nat.ne_of_lt (Nat.lt_of_lt_of_le (Heap.lt_size q) ha)) e⟩
  tups := u.tups
  frzs := u.frzs
  tbls := u.tbls
structure NewCells (scope : Scope) (nw : List (Str × Addr)) (h1 : Heap) (C : Addr) : Prop where
  ok : ∀ n c, (n, c) ∈ nw → h1.IsCell c none ∧ C < c
  apart : nw.Pairwise fun x y => x.2 ≠ y.2
  has : ∀ x, scope.names.lookup x = some .cell → ∃ c, nw.lookup x = some c
  of : ∀ x c, nw.lookup x = some c → (x, NameKind.cell) ∈ scope.names
theorem cellsFrom_acc : ∀ (names : List (Str × NameKind)) (n : Nat) (acc : List (Str × Addr)), cellsFrom n names acc = cellsFrom n names [] ++ acc
  | [], _, _ => rfl
  | (x, k) :: r, n, acc => by
    unfold cellsFrom
    split
    · rw [cellsFrom_acc r (n + 1) ((x, n) :: acc), cellsFrom_acc r (n + 1) [(x, n)], List.append_assoc]
      rfl
    · exact cellsFrom_acc r n acc
theorem cellsFrom_of : ∀ (names : List (Str × NameKind)) (n : Nat) (x : Str) (c : Addr), (x, c) ∈ cellsFrom n names [] → (x, NameKind.cell) ∈ names
  | [], _, _, _, h => nomatch h
  | (y, k) :: r, n, x, c, h => by
    unfold cellsFrom at h
    split at h
    · rename_i hk
      rw [cellsFrom_acc] at h
      rcases List.mem_append.mp h with h | h
      · exact List.mem_cons_of_mem _ (cellsFrom_of r _ x c h)
      · rw [List.mem_singleton] at h
        cases h
        have : k = .cell := by simpa using hk
        rw [this]
        exact List.mem_cons_self ..
    · exact List.mem_cons_of_mem _ (cellsFrom_of r _ x c h)
theorem lookup_app {α : Type} {x : Str} {a b : List (Str × α)} {c : α} (h : (a ++ b).lookup x = some c) : a.lookup x = some c ∨ (a.lookup x = none ∧ b.lookup x = some c) := by
  induction a with
  | nil => exact .inr ⟨rfl, h⟩
  | cons p r ih =>
    rw [List.cons_append, List.lookup_cons] at h
    rw [List.lookup_cons]
    cases hx : x == p.1 with
    | true => rw [hx] at h; exact .inl h
    | false => rw [hx] at h; exact ih h
theorem lookup_app_l {α : Type} {x : Str} {a b : List (Str × α)} {c : α} (h : a.lookup x = some c) : (a ++ b).lookup x = some c := by
  induction a with
  | nil => cases h
  | cons p r ih =>
    rw [List.lookup_cons] at h
    rw [List.cons_append, List.lookup_cons]
    cases hx : x == p.1 with
    | true => rw [hx] at h; exact h
    | false => rw [hx] at h; exact ih h
theorem lookup_app_r {α : Type} {x : Str} {a b : List (Str × α)} {c : α} (h : a.lookup x = none) (h2 : b.lookup x = some c) : (a ++ b).lookup x = some c := by
  induction a with
  | nil => exact h2
  | cons p r ih =>
    rw [List.lookup_cons] at h
    rw [List.cons_append, List.lookup_cons]
    cases hx : x == p.1 with
    | true => rw [hx] at h; cases h
    | false => rw [hx] at h; exact ih h
theorem newEnv_around {M : Model} {A : Around} {E : Value → Shared → Prop} {s : Shared} {scope : Scope} {globals : Addr} {closure : List (Str × Addr)} {qual : Str} {outer : Env} {Q : Env → Shared → Prop}
    (hQ : ∀ nw h1, NewCells scope nw h1 s.heap.objs.size → h1.Ns s.heap.objs.size (fun _ => none) → (∀ b o, s.heap.get? b = some o → h1.get? b = some o) →
      Q { scope, locals := s.heap.objs.size, globals, cells := nw ++ closure, qual, func := none, code := outer.code, frame := outer.frame, builtins := outer.builtins } { s with heap := h1 }) :
    wpAny M A (newFunctionEnv scope globals closure [] qual none .none (some outer)) Q E s := by
  simp only [newFunctionEnv, Option.isSome_some, if_true]
  refine wpAny_bind (wpAny_alloc ?_)
  refine wpAny_bind (wpAny_layCells _ (fun name kind cells => by cases hkc : kind == NameKind.cell <;> simp [hkc]) _ _ _ _ ?_)
  have ok := cellsFrom_ok scope.names (s.heap.push { cls := .type "dict", data := .dict #[] }) (s.heap.objs.size + 1) [] ⟨fun _ _ hm => (nomatch hm), List.Pairwise.nil⟩ (by rw [Heap.size_push]; exact Nat.le_refl _)
  rw [Heap.size_push] at ok
  rw [show ({ s with heap := s.heap.push { cls := .type "dict", data := .dict #[] } } : Shared).heap.objs.size = s.heap.objs.size + 1 from Heap.size_push ..]
  rw [List.forIn_nil]
  refine wpAny_bind (wpAny_pure (wpAny_pure ?_))
  rw [cellsFrom_acc]
  exact hQ _ _ ⟨fun n c h => ⟨(ok.empty n c h).1, (ok.empty n c h).2⟩, ok.apart, fun x h => cell_has h, fun x c h => cellsFrom_of _ _ x c (PySem.mem_of_lookup h)⟩
    ((Heap.Ns.new s.heap (.type "dict")).keeps (pushCells_keeps _ _)) fun b o e => pushCells_keeps _ _ b o (Heap.get?_push_of_some _ e)
def PIfs (X : Cx) (ifs : List Expr) (t : TT) : Prop :=
  ∀ (pins : List (Addr × Obj)) (s : Shared) (σ : St) (H : Hp) (Q : Bool → Hp → Prop), Inv X pins σ H s → t σ H Q →
    wpAny (model X.prog X.w) X.A (forIn ifs true fun c r => if r = true then do let ok ← isTrue c X.env (eval c X.env); pure (ForInStep.yield ok) else pure (ForInStep.yield r)) (TP X pins σ Q) X.xe s
def tYes : TT := fun _ H Q => Q true H
theorem pif_nil {X : Cx} : PIfs X [] tYes := fun _ _ _ H Q I h => wpAny_tests_nil ⟨H, I, h⟩
theorem pif_one {X : Cx} {c : Expr} {t : TT} (h : PT X c t) : PIfs X [c] t := fun pins s σ H Q I q => wpAny_tests_one (h pins s σ H Q I q)
def compStart' (own : List Str) (fr : List (Nat × Str)) (σ : St) : St := own.map (fun _ => none) ++ fr.map fun p => (σ[p.1]?).join
def CompGo (J : It) (g : TG) (tt : TT) (te : TE) (Q : VK) (σ₀ : St) (H1 : Hp) : Prop :=
  ∃ W : Nat → Nat → List V → St → Hp → Prop, (∃ m, W 0 m [] σ₀ H1) ∧ ∀ i m acc σ' H', W i m acc σ' H' →
    (J.stop i H' ∧ acc.length ≤ sizeLine ∧ ∀ p, H' p = none → Q (.ref p) (upd H' p (.lst acc))) ∨
    (J.go i H' ∧ acc.length < sizeLine ∧ ∃ N : List V → St → Hp → Prop, (∀ acc σ' H', N acc σ' H' → ∃ m', m' < m ∧ W (i + 1) m' acc σ' H') ∧ ∀ x H'', J.yld i H' x H'' → g x σ' H'' fun σ2 H2 => tt σ2 H2 fun ok H3 => if ok = true then te σ2 H3 fun y H4 => N (acc ++ [y]) σ2 H4 else N acc σ2 H3)
def tComp (own : List Str) (fr : List (Nat × Str)) (wi : TI) (g : TG) (tt : TT) (te : TE) : TE := fun σ H Q => wi σ H fun J H1 => CompGo J g tt te Q (compStart' own fr σ) H1
section
variable {X : Cx} {tg iter elt : Expr} {ifs : List Expr} {scope : Scope} {own : List Str} {fr : List (Nat × Str)} {pos : Pos}
theorem inv_comp {pins : List (Addr × Obj)} {σ : St} {H : Hp} {s : Shared} {cl : List (Str × Addr)} {ex : List Addr} {h1 : Heap} {m : Str → Option Value} {C : Addr} {t' : Nat} (S : CompScope X.N X.env.scope scope own fr) (I : Inv X pins σ H s)
    (hcl : ∀ x c, cl.lookup x = some c → X.env.cells.lookup x = some c) (hcl2 : ∀ x, (x, NameKind.free) ∈ scope.names → ∃ c, cl.lookup x = some c) (hex : ∀ b ∈ ex, FpOk X pins H b ∧ b < s.heap.objs.size)
    (hC : s.heap.objs.size ≤ C) (k : ∀ b o, s.heap.get? b = some o → h1.get? b = some o) (hn : h1.Ns C m) {nw : List (Str × Addr)} (nc : NewCells scope nw h1 C) :
    Inv (cxComp X scope (nw ++ cl) C (own ++ fr.map (·.2)) s H ex) [] (compStart' own fr σ) H { s with heap := h1, toks := t' } := by
  have okX := I.ok
  have isNew : ∀ x c, nw.lookup x = some c → C < c := fun x c e => (nc.ok x c (PySem.mem_of_lookup e)).2
  have isOld : ∀ x c, cl.lookup x = some c → c < C := fun x c e => by
    obtain ⟨v, o, ho, _⟩ := I.cell x c (hcl x c e)
    exact Nat.lt_of_lt_of_le (Heap.lt_size ho) hC
  have hinj : ∀ x y c, (nw ++ cl).lookup x = some c → (nw ++ cl).lookup y = some c → x = y := fun x y c e1 e2 => by
    rcases lookup_app e1 with a | ⟨_, a⟩ <;> rcases lookup_app e2 with b | ⟨_, b⟩
    · exact name_of_addr nc.apart (PySem.mem_of_lookup a) (PySem.mem_of_lookup b)
    · exact absurd (Nat.lt_trans (isNew x c a) (isOld y c b)) (Nat.lt_irrefl _)
    · exact absurd (Nat.lt_trans (isNew y c b) (isOld x c a)) (Nat.lt_irrefl _)
    · exact okX.inj x y c (hcl x c a) (hcl y c b)
  have hasF : ∀ x, (x, NameKind.free) ∈ scope.names → ∃ c, (nw ++ cl).lookup x = some c := fun x hx => by
    obtain ⟨c, e⟩ := hcl2 x hx
    cases z : nw.lookup x with
    | none => exact ⟨c, lookup_app_r z e⟩
    | some c' => exact ⟨c', lookup_app_l z⟩
  refine ⟨⟨okX.mod, ?_, okX.glob, okX.blt, hC, hinj, fun x hx => ?_, fun x c e1 e2 => ?_, okX.hd, okX.frames, .inl rfl, fun b hb => ?_, I.bs, Nat.le_trans okX.bsz I.sz, fun b o e hb => ?_, fun b hb hf => ?_, I.stack, I.stkFree⟩,
    rfl, I.bare, Un.kept k, ⟨m, hn, fun i x v e1 e2 e3 => ?_⟩, fun x c e => ?_, I.hok.fresh hC, fun x c e => ?_, fun p hp => absurd (show p ∈ ([] : List (Addr × Obj)) from hp) (by simp), I.hok.kept k, ?_⟩
  · exact S.kind
  · -- a cell's or a free name
    have hx' : (relabel scope X.env).names.lookup x = some .cell ∨ (relabel scope X.env).names.lookup x = some .free := hx
    have hfree : scope.names.lookup x = some .cell ∨ scope.names.lookup x = some .free := by
      rcases hx' with q | q
      · obtain ⟨k', e1, e2⟩ := lookup_relabel q
        rcases e2 with e2 | ⟨e2, _⟩
        · exact .inl (by rw [e1, e2])
        · exact .inr (by rw [e1, e2])
      · obtain ⟨k', e1, e2⟩ := lookup_relabel q
        rcases e2 with e2 | ⟨e2, e3⟩
        · exact .inr (by rw [e1, e2])
        · cases e3
    rcases hfree with hfree | hfree
    · obtain ⟨c, e⟩ := nc.has x hfree
      exact ⟨c, lookup_app_l e⟩
    · exact hasF x (PySem.mem_of_lookup hfree)
  · -- an own cell is new
    have e1' : (match scope.names.lookup x with | some .cell => true | _ => false) = true := e1
    have hce : scope.names.lookup x = some .cell := by
      split at e1'
      · assumption
      · cases e1'
    obtain ⟨c', e⟩ := nc.has x hce
    have e2' : (nw ++ cl).lookup x = some c := e2
    rw [lookup_app_l e] at e2'
    cases e2'
    exact Nat.le_trans hC (Nat.le_of_lt (isNew x c e))
  · obtain ⟨⟨f0, f1, f2, f3, f4, f5⟩, f6⟩ := hex b hb
    refine ⟨Nat.ne_of_lt (Nat.lt_of_lt_of_le f6 hC), fun x c e => ?_⟩
    rcases lookup_app (show (nw ++ cl).lookup x = some c from e) with a | ⟨_, a⟩
    · exact Nat.ne_of_gt (Nat.lt_trans (Nat.lt_of_lt_of_le f6 hC) (isNew x c a))
    · exact f4 x c (hcl x c a)
  · obtain ⟨⟨f0, f1, f2, f3, f4, f5⟩, f6⟩ := hex b hb
    rcases f3 with f3 | f3
    · exact okX.noex b o e f3
    · exact absurd (Nat.lt_of_lt_of_le (Heap.lt_size e) (Nat.le_trans okX.bsz f3)) (Nat.lt_irrefl _)
  · obtain ⟨⟨f0, f1, f2, f3, f4, f5⟩, f6⟩ := hex b hb
    rcases List.mem_cons.mp (I.stkSub b hf) with z | z
    · exact f1 z
    · exact f2 z
  · -- the values of the free names
    have e1' : (own ++ fr.map (·.2))[i]? = some x := e1
    have hi : own.length ≤ i := by
      by_cases h : i < own.length
      · unfold compStart' at e2
        rw [List.getElem?_append_left (by simpa using h), List.getElem?_map] at e2
        cases q : own[i]? with
        | none => rw [q] at e2; cases e2
        | some z => rw [q] at e2; cases e2
      · omega
    unfold compStart' at e2
    rw [List.getElem?_append_right (by simpa using hi), List.getElem?_map, List.length_map] at e2
    rw [List.getElem?_append_right hi, List.getElem?_map] at e1'
    cases q : fr[i - own.length]? with
    | none => rw [q] at e2; cases e2
    | some p =>
      rw [q] at e2 e1'
      have e1' : p.2 = x := Option.some.inj e1'
      have e2' : (σ[p.1]?).join = some v := Option.some.inj e2
      obtain ⟨hs1, hs2⟩ := S.slot p (List.mem_of_getElem? q)
      rw [e1'] at hs1 hs2
      have e2'' : σ[p.1]? = some (some v) := by
        cases z : σ[p.1]? with
        | none => rw [z] at e2'; cases e2'
        | some y => rw [z] at e2'; exact congrArg some e2'
      obtain ⟨mX, hnX, hlX⟩ := I.loc
      have hfr := S.free (x, .free) (PySem.mem_of_lookup hs2) rfl
      have hvis : Vis X.env.scope x := by
        rcases hfr with z | z
        · exact .inr (.inl z)
        · exact .inr (.inr z)
      obtain ⟨u, r, l⟩ := hlX p.1 x v hs1 e2'' hvis
      refine ⟨u, r, ?_⟩
      have hkc : X.env.kindOf x = some .cell ∨ X.env.kindOf x = some .free := hfr
      rcases l with ⟨kx, _⟩ | ⟨kx, c, hc, z⟩
      · rcases hkc with w | w
        · rw [w] at kx; cases kx
        · rw [w] at kx; cases kx
      · obtain ⟨c', hc'⟩ := hcl2 x (PySem.mem_of_lookup hs2)
        have hcc := hcl x c' hc'
        rw [hc] at hcc
        cases hcc
        have e3' : (relabel scope X.env).names.lookup x = some .local ∨ (relabel scope X.env).names.lookup x = some .cell ∨ (relabel scope X.env).names.lookup x = some .free := e3
        have hnew : nw.lookup x = none := by
          cases z : nw.lookup x with
          | none => rfl
          | some c'' =>
            have := S.cells _ (nc.of x c'' z) rfl
            rw [hs2] at this
            cases this
        refine .inr ⟨?_, c, lookup_app_r hnew hc', ?_⟩
        · rcases e3' with w | w | w
          · obtain ⟨k', q1, q2⟩ := lookup_relabel w
            rw [hs2] at q1
            cases q1
            rcases q2 with q2 | ⟨_, q2⟩ <;> cases q2
          · exact .inl w
          · exact .inr w
        · obtain ⟨o, ho, hd⟩ := z
          exact ⟨o, k _ _ ho, hd⟩
  · rcases lookup_app (show (nw ++ cl).lookup x = some c from e) with a | ⟨_, a⟩
    · exact ⟨none, (nc.ok x c (PySem.mem_of_lookup a)).1⟩
    · obtain ⟨v, o, ho, hd⟩ := I.cell x c (hcl x c a)
      exact ⟨v, o, k _ _ ho, hd⟩
  · rcases lookup_app (show (nw ++ cl).lookup x = some c from e) with a | ⟨_, a⟩
    · exact I.hok.fresh (Nat.le_trans hC (Nat.le_of_lt (isNew x c a)))
    · exact I.freeC x c (hcl x c a)
  · show (compStart' own fr σ).length = (own ++ fr.map (·.2)).length
    unfold compStart'
    rw [List.length_append, List.length_append, List.length_map, List.length_map, List.length_map]
theorem comp_block {pins : List (Addr × Obj)} {σ : St} {H2 : Hp} {s2 : Shared} {cl : List (Str × Addr)} {it : Addr} {fp : List Addr} {tn : Nat → Heap → Prop} {J : It} {g : TG} {tt : TT} {te : TE} {Q : VK} {E : Value → Shared → Prop}
    {RR : Value → Addr → Result → Shared → Prop} (hc : X.calm = true) (S : CompScope X.N X.env.scope scope own fr) (I : Inv X pins σ H2 s2) (hcl : ∀ x c, cl.lookup x = some c → X.env.cells.lookup x = some c)
    (hcl2 : ∀ x, (x, NameKind.free) ∈ scope.names → ∃ c, cl.lookup x = some c) (T : Turn X.prog X.w X.K tg J fp it tn) (st : tn 0 s2.heap) (hfp : ∀ b ∈ fp, FpOk X pins H2 b)
    (hb : ∀ (cl : List (Str × Addr)) (C : Addr) (s : Shared) (H : Hp) (ex : List Addr), PG (cxComp X scope cl C (own ++ fr.map (·.2)) s H ex) tg g ∧ PIfs (cxComp X scope cl C (own ++ fr.map (·.2)) s H ex) ifs tt ∧ PE (cxComp X scope cl C (own ++ fr.map (·.2)) s H ex) elt te)
    (hq : CompGo J g tt te Q (compStart' own fr σ) H2)
    (fin : ∀ (D C : Addr) (s' : Shared) (H' : Hp), (∃ m, s'.heap.Ns C m) → s2.heap.objs.size ≤ C → C ≠ D → H' C = none → Q (.ref D) H' → (∀ h'', (∀ b o, b ≠ C → s'.heap.get? b = some o → h''.get? b = some o) → Inv X pins σ H' { s' with heap := h'' }) → RR (.ref D) C (.ok .next) s') :
    wpAny (model X.prog X.w) X.A (newList []) (fun acc s₃ => wpAny (model X.prog X.w) X.A (newFunctionEnv scope X.env.globals cl [] X.env.qual none .none (some X.env)) (fun cenv s₄ =>
      codeAny (model X.prog X.w) X.A (.compStart (.ListComp elt [⟨tg, iter, ifs, 0⟩] scope pos) 0 (.ref it) acc { cenv with scope := relabel scope X.env }) (RR acc cenv.locals) s₄) E s₃) E s2 := by
  obtain ⟨W, ⟨m0, w0⟩, turn⟩ := hq
  refine wpAny_newObj_type (newEnv_around (fun nw h₁ nc hns₁ hsb₁ => ?_))
  dsimp only at nc hns₁ hsb₁ ⊢
  generalize hH2 : s2.heap.push { cls := .type "list", dict := none, data := .seq ([] : List Value).toArray } = HH at nc hns₁ hsb₁ ⊢
  have hC : HH.objs.size = s2.heap.objs.size + 1 := by rw [← hH2, Heap.size_push]
  have hDC : s2.heap.objs.size ≠ HH.objs.size := by rw [hC]; exact Nat.ne_of_lt (Nat.lt_succ_self _)
  have hCle : s2.heap.objs.size ≤ HH.objs.size := by rw [hC]; exact Nat.le_succ _
  have old : ∀ b o, s2.heap.get? b = some o → h₁.get? b = some o := fun b o e =>
    hsb₁ b o (hH2 ▸ Heap.get?_push_of_some _ e)
  have hacc : h₁.get? s2.heap.objs.size = some { cls := .type "list", data := .seq ([] : List Value).toArray } := hsb₁ _ _ (hH2 ▸ Heap.get?_push_size _ rfl)
  have flt : ∀ b ∈ fp, b < s2.heap.objs.size := fun b hb => by
    obtain ⟨o, e, _⟩ := T.obj _ _ st b hb
    exact Heap.lt_size e
  have hlt : s2.heap.objs.size < HH.objs.size := by rw [hC]; exact Nat.lt_succ_self _
  obtain ⟨D, hD⟩ : ∃ D : Nat, D = s2.heap.objs.size := ⟨_, rfl⟩
  obtain ⟨C, hCC⟩ : ∃ C : Nat, C = HH.objs.size := ⟨_, rfl⟩
  rw [← hD] at hacc ⊢
  rw [← hCC] at nc hns₁ ⊢
  have hDlt : D < C := by rw [hD, hCC]; exact hlt
  have hDs : s2.heap.objs.size ≤ D := Nat.le_of_eq hD.symm
  have hCs : s2.heap.objs.size ≤ C := Nat.le_trans hDs (Nat.le_of_lt hDlt)
  have nDC : D ≠ C := Nat.ne_of_lt hDlt
  have nfD : ∀ b ∈ fp, b ≠ D := fun b hb => Nat.ne_of_lt (Nat.lt_of_lt_of_le (flt b hb) hDs)
  have nfC : ∀ b ∈ fp, b ≠ C := fun b hb => Nat.ne_of_lt (Nat.lt_of_lt_of_le (flt b hb) hCs)
  have I0 : Inv (cxComp X scope (nw ++ cl) C (own ++ fr.map (·.2)) s2 H2 fp) [] (compStart' own fr σ) H2 { s2 with heap := h₁, toks := s2.toks } :=
    inv_comp S I hcl hcl2 (fun b hb => ⟨hfp b hb, flt b hb⟩) hCs old hns₁ nc
  obtain ⟨pg, pt, pe⟩ := hb (nw ++ cl) C s2 H2 fp
  have Dcell : ∀ x c, (nw ++ cl).lookup x = some c → c ≠ D := fun x c e => by
    rcases lookup_app e with a | ⟨_, a⟩
    · exact Nat.ne_of_gt (Nat.lt_trans hDlt (nc.ok x c (PySem.mem_of_lookup a)).2)
    · obtain ⟨v, q⟩ := I.cell x c (hcl x c a)
      exact Nat.ne_of_lt (Nat.lt_of_lt_of_le q.lt hDs)
  have Dstk : D ∉ frs X.stack := fun hf => by
    rcases List.mem_cons.mp (I.stkSub D hf) with z | z
    · have h1 := I.lt
      rw [← z] at h1
      exact Nat.lt_irrefl _ (Nat.lt_of_lt_of_le h1 hDs)
    · exact I.nofs hDs z
  have stat : ∀ {H' : Hp} {pl : List (Addr × Obj)}, (∀ b ∈ fp, H' b = none) → (∀ p ∈ pl, p.1 = D) → ∀ b ∈ fp, FpOk (cxComp X scope (nw ++ cl) C (own ++ fr.map (·.2)) s2 H2 fp) pl H' b := fun {H' pl} hn hpl b hb => by
    obtain ⟨f0, f1, f2, f3, f4, f5⟩ := hfp b hb
    refine ⟨hn b hb, nfC b hb, fun hf => ?_, .inl hb, fun x c e => (by
      rcases lookup_app (show (nw ++ cl).lookup x = some c from e) with a | ⟨_, a⟩
      · exact Nat.ne_of_gt (Nat.lt_trans (Nat.lt_of_lt_of_le (flt b hb) hCs) (nc.ok x c (PySem.mem_of_lookup a)).2)
      · exact f4 x c (hcl x c a)), fun p hp z => ?_⟩
    · rcases List.mem_cons.mp (I.stkSub b hf) with z | z
      · exact f1 z
      · exact f2 z
    · have h1 : p.1 = D := hpl p (by simpa [cxComp] using hp)
      exact nfD b hb (z.symm.trans h1)
  have loop : ∀ s₃ : Shared, s₃ = { s2 with heap := h₁, toks := s2.toks } →
      codeAny (model X.prog X.w) X.A (.compLoop (.ListComp elt [⟨tg, iter, ifs, 0⟩] scope pos) 0 (.ref it) (.ref D) (compEnvC scope (nw ++ cl) C X.env)) (RR (.ref D) C) s₃ := by
    rintro s₃ rfl
    refine codeAny_loop rfl (fun n s' => ∃ i σ' H' acc its k, Inv (cxComp X scope (nw ++ cl) C (own ++ fr.map (·.2)) s2 H2 fp) [] σ' H' s' ∧ tn i s'.heap ∧ (∀ b ∈ fp, H' b = none) ∧ H' D = none ∧
      s'.heap.get? D = some { cls := .type "list", data := .seq its.toArray k } ∧ Vals acc its ∧ W i n acc σ' H') ?_ m0
      ⟨0, _, H2, [], [], 0, I0, T.keep _ _ _ st fun b hb o e => old b o e, fun b hb => (hfp b hb).1, I.hok.fresh hDs, hacc, .nil, w0⟩
    rintro n s' ⟨i, σ', H', acc, its, k, I1, st1, fr1, nD, gD, rv, w1⟩
    show wpAny _ X.A ((compTurn (.ListComp elt [⟨tg, iter, ifs, 0⟩] scope pos) 0 (.ref it) (.ref D) (compEnvC scope (nw ++ cl) C X.env)).onRaise (fun x => do noteFrame x (compEnvC scope (nw ++ cl) C X.env); theTreesLotGoes x)) _ _ s'
    refine wpAny_noted ?_
    rw [compTurn_list]
    have I1' : Inv (cxComp X scope (nw ++ cl) C (own ++ fr.map (·.2)) s2 H2 fp) [(D, { cls := .type "list", data := .seq its.toArray k })] σ' H' s' := I1.pins_of fun p hp => by
      have e : p = (D, { cls := .type "list", data := .seq its.toArray k }) := by simpa using hp
      subst e
      exact ⟨gD, nD, nDC, Dstk, fun v z => nomatch z⟩
    rcases turn i n acc σ' H' w1 with ⟨stop, hz, qq⟩ | ⟨go, hz, NN, hNN, step⟩
    · refine wpAny_bind (wpAny_standAt (wpAny_bind (wpAny_mono (T.done (cxComp X scope (nw ++ cl) C (own ++ fr.map (·.2)) s2 H2 fp) rfl rfl rfl hc i _ s' σ' H' (fun _ _ => False) I1' (stat fr1 (by simp)) st1 stop) (fun r s4 ⟨hr, I4⟩ => ?_) fun _ _ z => z.elim)))
      subst hr
      refine wpAny_pure ?_
      have gD4 := (I4.pin (D, _) (List.mem_append_right _ (List.mem_singleton.mpr rfl))).1
      have hC4 : H' C = none := I4.free
      have hC5 : (upd H' D (.lst acc)) C = none := by rw [upd_ne (Ne.symm nDC)]; exact hC4
      refine fin D C s4 (upd H' D (.lst acc)) ?_ hCs (Ne.symm nDC) hC5 (qq D nD) fun h'' kk => ?_
      · obtain ⟨m, hn, _⟩ := I4.loc
        exact ⟨m, hn⟩
      · have un : Un (frs X.stack) fp H2 (upd H' D (.lst acc)) s2.heap h'' := Un.but (a := C) (Un.track (o := .lst acc) I4.base hDs (I.hok.fresh hDs)) hCs kk
        have hok : HOk X.prog X.w (upd H' D (.lst acc)) s4.heap := HOk.track I4.hok nD ⟨hz, its, k, rv, gD4⟩
        exact I.call' (s' := { s4 with heap := h'' }) (ch := fp) I4.os un (HOk.but hok hC5 kk) I4.bare fun b hb => by
          obtain ⟨f0, f1, f2, f3, f4, f5⟩ := hfp b hb
          exact ⟨f3, f1, f4, f5⟩
    · refine wpAny_bind (wpAny_standAt (wpAny_bind (wpAny_mono (T.item (cxComp X scope (nw ++ cl) C (own ++ fr.map (·.2)) s2 H2 fp) rfl rfl rfl hc i _ s' σ' H' (fun _ _ => False) I1' (stat fr1 (by simp)) st1 go) (fun r s4 ⟨u, hr, h4⟩ => ?_) fun _ _ z => z.elim)))
      subst hr
      refine wpAny_bind (wpAny_mono h4 (fun _ s5 ⟨x, H5, I5, r5, y5, st5, fr5⟩ => ?_) fun _ _ z => z.elim)
      have I5' := I5.pinned (stat fr5 (by simp)) (T.obj _ _ st5)
      refine wpAny_bind (wpAny_mono (pg _ s5 σ' H5 x u _ I5' r5 (step x H5 y5)) (fun _ s6 ⟨σ6, H6, I6, q6⟩ => ?_) fun _ _ z => z.elim)
      refine wpAny_bind (wpAny_mono (pt _ s6 σ6 H6 _ I6 q6) (fun ok s7 ⟨H7, I7, q7⟩ => ?_) fun _ _ z => z.elim)
      have again : ∀ {s8 : Shared} {H8 : Hp} {acc' : List V} {its' : List Value} {k' m' : Nat}, Inv (cxComp X scope (nw ++ cl) C (own ++ fr.map (·.2)) s2 H2 fp) (pinsAt fp s5.heap) σ6 H8 s8 → H8 D = none →
          s8.heap.get? D = some { cls := .type "list", data := .seq its'.toArray k' } → Vals acc' its' → m' < n → W (i + 1) m' acc' σ6 H8 →
          ∃ m, m < n ∧ ∃ i σ' H' acc its k, Inv (cxComp X scope (nw ++ cl) C (own ++ fr.map (·.2)) s2 H2 fp) [] σ' H' s8 ∧ tn i s8.heap ∧ (∀ b ∈ fp, H' b = none) ∧ H' D = none ∧
            s8.heap.get? D = some { cls := .type "list", data := .seq its.toArray k } ∧ Vals acc its ∧ W i m acc σ' H' := fun {s8 H8 acc' its' k' m'} I8 n8 g8 rv8 hm w8 => by
        refine ⟨m', hm, i + 1, σ6, H8, acc', its', k', I8.pins_of (fun p hp => nomatch hp), T.keep _ _ _ st5 fun b hb o e => (I8.pin (b, o) (List.mem_append_right _ (mem_pinsAt hb e))).1, fun b hb => ?_, n8, g8, rv8, w8⟩
        obtain ⟨o, e, d⟩ := T.obj _ _ st5 b hb
        exact (I8.pin (b, o) (List.mem_append_right _ (mem_pinsAt hb e))).2.1
      have dropD : ∀ {s8 : Shared} {H8 : Hp}, Inv (cxComp X scope (nw ++ cl) C (own ++ fr.map (·.2)) s2 H2 fp) ([(D, { cls := .type "list", data := .seq its.toArray k })] ++ pinsAt fp s5.heap) σ6 H8 s8 →
          Inv (cxComp X scope (nw ++ cl) C (own ++ fr.map (·.2)) s2 H2 fp) (pinsAt fp s5.heap) σ6 H8 s8 := fun I8 => I8.pins_of fun p hp => I8.pin p (List.mem_append_right _ (List.mem_append_right _ hp))
      cases ok with
      | false =>
        rw [if_neg Bool.false_ne_true] at q7
        obtain ⟨m', hm, w7⟩ := hNN _ _ _ q7
        have pD := I7.pin (D, _) (List.mem_append_right _ (List.mem_append_left _ (List.mem_singleton.mpr rfl)))
        simp only [Bool.false_eq_true, if_false]
        exact wpAny_pure ⟨rfl, again (dropD I7) pD.2.1 pD.1 rv hm w7⟩
      | true =>
        rw [if_pos rfl] at q7
        simp only [if_true]
        refine wpAny_bind (wpAny_bind (wpAny_mono (pe _ s7 σ6 H7 _ I7 q7) (fun u8 s8 ⟨y, H8, I8, r8, q8⟩ => ?_) fun _ _ z => z.elim))
        obtain ⟨m', hm, w8⟩ := hNN _ _ _ q8
        have pD := I8.pin (D, _) (List.mem_append_right _ (List.mem_append_left _ (List.mem_singleton.mpr rfl)))
        obtain ⟨gD8, nD8, _⟩ := pD
        have hlen := rv.length
        refine wpAny_bind (call_meets F.slot_list_append ⟨_, gD8, rfl⟩ F.entry_list_append (F.args_list_append_2 _ _) (PySem.list_append D its.toArray k u8 (by rw [List.size_toArray]; omega)) ⟨gD8, ?_⟩)
        refine wpAny_pure (wpAny_pure ⟨rfl, ?_⟩)
        have q := PySem.IsL.update gD8 (·.push u8)
        have e9 : its.toArray.push u8 = (its ++ [u8]).toArray := by simp
        rw [e9] at q
        refine again (its' := its ++ [u8]) ((dropD I8).turned (it := D) (t' := _) (fun b o hb e => (Heap.get?_update_other s8.heap _ (Ne.symm hb)).trans e) nD8 nDC (.inr hDs) (fun x c e => Dcell x c e) fun p hp z => ?_) nD8 q (rv.append (.cons r8 .nil)) hm w8
        have hp' : p ∈ pinsAt fp s5.heap := by simpa [cxComp] using hp
        exact nfD p.1 (of_pinsAt hp').1 z
  exact codeAny_compStart_list (loop _ rfl) (T.self _ 0 _ _ _ (T.keep _ _ _ st fun b hb o e => old b o e) (loop _ rfl))
theorem pe_comp {wi : TI} {g : TG} {tt : TT} {te : TE} (hc : X.calm = true) (S : CompScope X.N X.env.scope scope own fr) (hi : PI X tg iter wi)
    (hb : ∀ (cl : List (Str × Addr)) (C : Addr) (s : Shared) (H : Hp) (ex : List Addr), PG (cxComp X scope cl C (own ++ fr.map (·.2)) s H ex) tg g ∧ PIfs (cxComp X scope cl C (own ++ fr.map (·.2)) s H ex) ifs tt ∧ PE (cxComp X scope cl C (own ++ fr.map (·.2)) s H ex) elt te)
    (hs : ∀ x, foldedSetIterable iter X.env x = pure x := by intro _; rfl) : PE X (.ListComp elt [⟨tg, iter, ifs, 0⟩] scope pos) (tComp own fr wi g tt te) := by
  intro pins s σ H Q I h
  obtain ⟨cl, hclos, hcl, hcl2⟩ := closure_ok (scope := scope) (env := X.env) fun x hx => I.ok.has x (S.free (x, .free) hx rfl)
  rw [eval_ListComp]
  refine wpAny_comprehension_free (use := none) rfl hs hclos S.kind S.locs (thn (hi pins s σ H _ I h) fun xv s₁ h₁ => thn h₁ fun itv s₂ h₂ => ?_)
  obtain ⟨it, fp, tn, J, H2, e, I2, T, st2, f2, hq⟩ := h₂
  subst e
  refine comp_block hc S I2 hcl hcl2 T st2 f2 hb hq (RR := fun acc C => compPost (model X.prog X.w) X.A X.xe none (EP X pins σ Q) acc C) fun D C s' H' hn hC1 hCD hC2 q inv => ?_
  obtain ⟨m, hn⟩ := hn
  exact ⟨m, hn, fun h'' sb => ⟨.ref D, H', inv h'' fun b o hb e => sb.extBut b o hb e, rfl, q⟩⟩
theorem ps_comp {i : Nat} {x : Str} {px spos : Pos} {wi : TI} {g : TG} {tt : TT} {te : TE} (hc : X.calm = true) (hN : X.N.Nodup) (hix : X.N[i]? = some x) (hx : X.env.scope.names.lookup x = some .local) (S : CompScope X.N X.env.scope scope own fr) (hi : PI X tg iter wi)
    (hb : ∀ (cl : List (Str × Addr)) (C : Addr) (s : Shared) (H : Hp) (ex : List Addr), PG (cxComp X scope cl C (own ++ fr.map (·.2)) s H ex) tg g ∧ PIfs (cxComp X scope cl C (own ++ fr.map (·.2)) s H ex) ifs tt ∧ PE (cxComp X scope cl C (own ++ fr.map (·.2)) s H ex) elt te)
    (hsw : swapsWith (.ListComp elt [⟨tg, iter, ifs, 0⟩] scope pos) (some (.Name x px)) spos.line X.env = pure true) (hs : ∀ x, foldedSetIterable iter X.env x = pure x := by intro _; rfl) :
    PS X (.Assign [.Name x px] (.ListComp elt [⟨tg, iter, ifs, 0⟩] scope pos) spos) (tAsg (tComp own fr wi g tt te) (gName i)) := by
  intro pins s σ H D I h
  obtain ⟨cl, hclos, hcl, hcl2⟩ := closure_ok (scope := scope) (env := X.env) fun x hx => I.ok.has x (S.free (x, .free) hx rfl)
  rw [exec_Assign_Name_used _ _ _ _ hsw]
  refine wpAny_bind (wpAny_standAt (wpAny_bind ?_))
  show wpAny _ X.A (do let _ ← comprehension (.ListComp elt [⟨tg, iter, ifs, 0⟩] scope pos) scope X.env _ (newList []) false (eval iter X.env) (some (assign (.Name x px) X.env))) _ _ s
  refine wpAny_bind (wpAny_mono (wpAny_comprehension_free (use := some (assign (.Name x px) X.env)) (Q := fun _ s' => SP X pins D .next s') rfl hs hclos S.kind S.locs (thn (hi pins s σ H _ I h) fun xv s₁ h₁ => thn h₁ fun itv s₂ h₂ => ?_)) (fun _ s' hq => wpAny_pure (wpAny_pure hq)) fun _ _ e => e)
  obtain ⟨it, fp, tn, J, H2, e, I2, T, st2, f2, hq⟩ := h₂
  subst e
  refine comp_block (Q := fun x H1 => gName i x σ H1 D.nx) hc S I2 hcl hcl2 T st2 f2 hb hq (RR := fun acc C => compPost (model X.prog X.w) X.A X.xe (some (assign (.Name x px) X.env)) (fun _ s' => SP X pins D .next s') acc C) fun Da C s' H' hn hC1 hCD hC2 q inv => ?_
  obtain ⟨m, hn⟩ := hn
  have I3 : Inv X pins σ H' { s' with heap := s'.heap } := inv s'.heap fun _ _ _ e => e
  show wpAny _ X.A (assign (.Name x px) X.env (.ref Da)) _ _ s'
  refine wpAny_assign_Name (store_ok2 I3 hN hix (.inl hx) (v := .ref Da) rfl (fun s4 I4 ⟨a, sb, ha⟩ => ?_) (.inr hx))
  have hCL : C ≠ X.env.locals := Nat.ne_of_gt (Nat.lt_of_lt_of_le I2.lt hC1)
  have hCc : ∀ y c, X.env.cells.lookup y = some c → c ≠ C := fun y c e => by
    obtain ⟨v, w⟩ := I2.cell y c e
    exact Nat.ne_of_lt (Nat.lt_of_lt_of_le w.lt hC1)
  have haC : C ≠ a := by
    rcases ha with ha | ha
    · rw [ha]; exact hCL
    · exact (hCc _ _ ha).symm
  refine ⟨m, hn.sameBut sb haC, fun h'' sb2 => ⟨_, H', I4.turned (it := C) (t' := s4.toks) (fun b o hb e => sb2.extBut b o hb e) hC2 hCL (.inr (Nat.le_trans I2.sz hC1)) hCc fun p hp z => ?_, q⟩⟩
  exact Nat.ne_of_lt (Nat.lt_of_lt_of_le (Heap.lt_size (I2.pin p hp).1) hC1) z
end
theorem comp_list {K : PySem.W.Frag} {a : Addr} {xs : List V} {g : TG} {tt : TT} {te : TE} {σ₀ : St} {H : Hp} {Q : VK} (Pv : Nat → List V → St → Hp → Prop) (h0 : Pv 0 [] σ₀ H) (hz : xs.length ≤ sizeLine) (hn : ∀ i acc σ H, Pv i acc σ H → acc.length ≤ i)
    (hl : ∀ i acc σ H, i ≤ xs.length → Pv i acc σ H → SqL K H a xs)
    (hs : ∀ i x acc σ H, xs[i]? = some x → Pv i acc σ H → g x σ H fun σ2 H2 => tt σ2 H2 fun ok H3 => if ok = true then te σ2 H3 fun y H4 => Pv (i + 1) (acc ++ [y]) σ2 H4 else Pv (i + 1) acc σ2 H3)
    (hd : ∀ acc σ H, Pv xs.length acc σ H → ∀ p, H p = none → Q (.ref p) (upd H p (.lst acc))) :
    CompGo (Itl K a) g tt te Q σ₀ H := by
  refine ⟨fun i m acc σ H => m = xs.length - i ∧ i ≤ xs.length ∧ Pv i acc σ H, ⟨xs.length, by simp, Nat.zero_le _, h0⟩, ?_⟩
  rintro i m acc σ H ⟨rfl, hi, p⟩
  have q := hl i acc σ H hi p
  have hlen := hn i acc σ H p
  by_cases hlt : i < xs.length
  · refine .inr ⟨⟨xs, xs[i], q, by simp [hlt]⟩, by omega, Pv (i + 1), fun acc' σ' H' p' => ⟨xs.length - (i + 1), by omega, rfl, hlt, p'⟩, fun x H' y => ?_⟩
    obtain ⟨e, y⟩ := y
    subst e
    exact hs i x acc σ _ (y xs q) p
  · have e : i = xs.length := by omega
    subst e
    exact .inl ⟨⟨xs, q, Nat.le_refl _⟩, by omega, hd acc σ H p⟩
theorem comp_tup {K : PySem.W.Frag} {a : Addr} {xs : List V} {g : TG} {tt : TT} {te : TE} {σ₀ : St} {H : Hp} {Q : VK} (Pv : Nat → List V → St → Hp → Prop) (h0 : Pv 0 [] σ₀ H) (hz : xs.length ≤ sizeLine) (hn : ∀ i acc σ H, Pv i acc σ H → acc.length ≤ i)
    (hl : ∀ i acc σ H, i ≤ xs.length → Pv i acc σ H → SqT K H a xs)
    (hs : ∀ i x acc σ H, xs[i]? = some x → Pv i acc σ H → g x σ H fun σ2 H2 => tt σ2 H2 fun ok H3 => if ok = true then te σ2 H3 fun y H4 => Pv (i + 1) (acc ++ [y]) σ2 H4 else Pv (i + 1) acc σ2 H3)
    (hd : ∀ acc σ H, Pv xs.length acc σ H → ∀ p, H p = none → Q (.ref p) (upd H p (.lst acc))) :
    CompGo (Itt K a) g tt te Q σ₀ H := by
  refine ⟨fun i m acc σ H => m = xs.length - i ∧ i ≤ xs.length ∧ Pv i acc σ H, ⟨xs.length, by simp, Nat.zero_le _, h0⟩, ?_⟩
  rintro i m acc σ H ⟨rfl, hi, p⟩
  have q := hl i acc σ H hi p
  have hlen := hn i acc σ H p
  by_cases hlt : i < xs.length
  · refine .inr ⟨⟨xs, xs[i], q, by simp [hlt]⟩, by omega, Pv (i + 1), fun acc' σ' H' p' => ⟨xs.length - (i + 1), by omega, rfl, hlt, p'⟩, fun x H' y => ?_⟩
    obtain ⟨e, y⟩ := y
    subst e
    exact hs i x acc σ _ (y xs q) p
  · have e : i = xs.length := by omega
    subst e
    exact .inl ⟨⟨xs, q, Nat.le_refl _⟩, by omega, hd acc σ H p⟩
theorem comp_range {lo : Int} {n : Nat} {g : TG} {tt : TT} {te : TE} {σ₀ : St} {H : Hp} {Q : VK} (Pv : Nat → List V → St → Hp → Prop) (h0 : Pv 0 [] σ₀ H) (hz : n ≤ sizeLine) (hn : ∀ i acc σ H, Pv i acc σ H → acc.length ≤ i)
    (hs : ∀ i acc σ H, i < n → Pv i acc σ H → g (.int (lo + i)) σ H fun σ2 H2 => tt σ2 H2 fun ok H3 => if ok = true then te σ2 H3 fun y H4 => Pv (i + 1) (acc ++ [y]) σ2 H4 else Pv (i + 1) acc σ2 H3)
    (hd : ∀ acc σ H, Pv n acc σ H → ∀ p, H p = none → Q (.ref p) (upd H p (.lst acc))) :
    CompGo (Itr lo n) g tt te Q σ₀ H := by
  refine ⟨fun i m acc σ H => m = n - i ∧ i ≤ n ∧ Pv i acc σ H, ⟨n, by simp, Nat.zero_le _, h0⟩, ?_⟩
  rintro i m acc σ H ⟨rfl, hi, p⟩
  have hlen := hn i acc σ H p
  by_cases hlt : i < n
  · refine .inr ⟨hlt, by omega, Pv (i + 1), fun acc' σ' H' p' => ⟨n - (i + 1), by omega, rfl, hlt, p'⟩, fun x H' y => ?_⟩
    obtain ⟨e, y⟩ := y
    subst e y
    exact hs i acc σ _ hlt p
  · have e : i = n := by omega
    subst e
    exact .inl ⟨Nat.le_refl _, by omega, hd acc σ H p⟩
end L2
namespace L2
open PySem PySem.Spec PyProof.Rows
theorem iteP {c A B : Prop} [Decidable c] (h : c) (a : A) : if c then A else B := by rw [if_pos h]; exact a
theorem iteN {c A B : Prop} [Decidable c] (h : ¬ c) (b : B) : if c then A else B := by rw [if_neg h]; exact b
structure Callee (P : Program) (w : World) (K : PySem.W.Frag) (mg : Str → Option Value) (base : Heap) (k : Nat) (x : Str) (ps : List Str) (sp : Sp) : Prop where
  ex : ∃ (f : Addr) (fd : FuncData), FnOk P w K mg base CX0 k f fd ps sp ∧ Binds K fd ps [] ∧ PySem.W.keepIn K (.ref f) = true ∧ mg x = some (.ref f)
structure Def (K : PySem.W.Frag) (mg : Str → Option Value) (x : Str) (st : Stmt) (ps : List Str) : Prop where
  ex : ∃ (f : Addr) (fd : FuncData), Fun K x x st f fd ∧ Binds K fd ps [] ∧ mg x = some (.ref f)
section
variable {P : Program} {w : World} {K : PySem.W.Frag} {mg : Str → Option Value} {base : Heap}
theorem Def.ok {x : Str} {st : Stmt} {N ps : List Str} {k : Nat} {sp : Sp} (D : Def K mg x st ps) (S : FnScope N ps (defScope st)) (len : ∀ vs H Q E, sp vs H Q E → vs.length = ps.length)
    (hbody : ∀ (f : Addr) (cdv : Value) (A : Around) (outer : List Env) (s : Shared) (H : Hp) (vs : List V) (Q : VK) (E : XK), Room k (A.deeper (envOfC x (defScope st) s.heap.objs.size f cdv)) → sp vs H Q E →
      ∃ t, PSs (cxOf CX0 P w K mg base N x (defScope st) f cdv A outer s H E).nox (defBody st) t ∧ t { nx := fun _ H' => Q .non H', rt := Q } (start N vs) H) : Callee P w K mg base (k + 1) x ps sp := by
  obtain ⟨f, fd, F, b, m⟩ := D.ex
  exact ⟨f, fd, F.ok S len fun cdv A outer s H vs Q E hr h => hbody f cdv A outer s H vs Q E hr h, b, F.kp, m⟩
end
section
variable {X : Cx} {k n : Nat} {ps : List Str} {sp : Sp} {x : Str} {p pos : Pos} {e : Expr} {es : List Expr} {t : TA}
theorem pe_fn (C : Callee X.prog X.w X.K X.mg X.base k x ps sp) (hr : Room n X.A) (hg : Gl X x) (ha : PA X (e :: es) t) (hk : k ≤ n := by decide) (hdb : (x == ("__debug__" : Str)) = false := by decide)
    (he : starEach (e :: es) X.env = (false, eval e X.env) :: starEach es X.env := by rfl) (hpl : (backTo pos (starEach es X.env)).any (·.1) = false := by rfl) :
    PE X (.Call (.Name x p) (e :: es) [] pos) (tCall sp [] E0 t) := by
  obtain ⟨f, fd, F, b, kp, m⟩ := C.ex
  exact pe_call F (hr.mono hk) hg m kp b .nil pass0 ha hdb he hpl
theorem call_isinst : CallR X (.builtin "isinstance") (fun xs H Q => ∃ v T t b, xs = [v, .ty T] ∧ TyOf X.K H v t ∧ PySem.W.kitOne X.K t (.type T) = some b ∧ Q (.bl b) H) := by
  intro pins s σ H xs us Q I r h
  obtain ⟨v, T, t, b, rfl, ty, e, q⟩ := h
  obtain ⟨u, u', rfl, r1, r2⟩ := vals2 r
  cases r2
  exact isinst_ok I r1 ty e fun tk => ⟨.bl b, H, I.tok _, rfl, q⟩
def kitB (S T : String) : Option Bool := if (Value.type S == Value.type T) = true then some true else if PySem.W.kitMeta T = true then (fastBuiltinMro S).map (·.contains (.type T)) else none
theorem kit_of {K : PySem.W.Frag} {S T : String} {b : Bool} (h : kitB S T = some b) : PySem.W.kitOne K (.type S) (.type T) = some b := h
section
variable {K : PySem.W.Frag}
theorem kit_int_int : PySem.W.kitOne K (.type "int") (.type "int") = some true := kit_of (by decide +kernel)
theorem kit_int_bool : PySem.W.kitOne K (.type "int") (.type "bool") = some false := kit_of (by decide +kernel)
theorem kit_bool_int : PySem.W.kitOne K (.type "bool") (.type "int") = some true := kit_of (by decide +kernel)
theorem kit_bool_bool : PySem.W.kitOne K (.type "bool") (.type "bool") = some true := kit_of (by decide +kernel)
theorem kit_non_int : PySem.W.kitOne K (.type "NoneType") (.type "int") = some false := kit_of (by decide +kernel)
theorem kit_str_int : PySem.W.kitOne K (.type "str") (.type "int") = some false := kit_of (by decide +kernel)
end
theorem bools_at {bs : List Bool} : ∀ {us : List Value}, Vals (bs.map V.bl) us → ∀ (i : Nat) (v : Value), us[i]? = some v → v = .bool (bs.getD i false) := by
  induction bs with
  | nil => intro us r i v e; rw [List.map_nil] at r; cases r; simp at e
  | cons b bs ih =>
    intro us r i v e
    rw [List.map_cons] at r
    cases r with
    | cons r1 r2 =>
      cases i with
      | zero =>
        have e' := Option.some.inj e
        rw [← e']
        exact r1
      | succ i => exact ih r2 i v (by simpa using e)
theorem all_range (bs : List Bool) : (List.range bs.length).all (fun i => bs.getD i false) = bs.all id := by
  rw [Bool.eq_iff_iff, List.all_eq_true, List.all_eq_true]
  constructor
  · intro h b hb
    obtain ⟨i, hi, e⟩ := List.getElem_of_mem hb
    have := h i (by simpa using hi)
    simpa [List.getD, hi, e] using this
  · intro h i hi
    have hi' : i < bs.length := by simpa using hi
    have := h bs[i] (List.getElem_mem hi')
    simpa [List.getD, hi'] using this
theorem any_range (bs : List Bool) : (List.range bs.length).any (fun i => bs.getD i false) = bs.any id := by
  rw [Bool.eq_iff_iff, List.any_eq_true, List.any_eq_true]
  constructor
  · rintro ⟨i, hi, e⟩
    have hi' : i < bs.length := by simpa using hi
    exact ⟨bs[i], List.getElem_mem hi', by simpa [List.getD, hi'] using e⟩
  · rintro ⟨b, hb, e⟩
    obtain ⟨i, hi, z⟩ := List.getElem_of_mem hb
    exact ⟨i, by simpa using hi, by simpa [List.getD, hi, z] using e⟩
theorem call_all_bools (hc : X.calm = true) : CallR X (.builtin "all") (fun xs H Q => ∃ (p : Addr) (bs : List Bool), xs = [.ref p] ∧ SqL X.K H p (bs.map V.bl) ∧ Q (.bl (bs.all id)) H) := by
  intro pins s σ H xs us Q I r h
  obtain ⟨p, bs, rfl, hq, q⟩ := h
  obtain ⟨u, rfl, rx⟩ := vals1 r
  cases rx
  obtain ⟨its, r', pl, hz⟩ := I.list hq
  have hlen : its.length = bs.length := by rw [← r'.length, List.length_map]
  obtain ⟨o, n, ho, _⟩ := id pl
  have hne : p ≠ s.heap.objs.size := Nat.ne_of_lt (Heap.lt_size ho)
  refine call_all_walk (wpAny_pyIter_list pl.isList ?_)
  refine ⟨s.heap.objs.size, _, _, its.toArray.size, _, _, fun i => bs.getD i false, rfl, Walks.list (A := X.A.in1) (I.ok.hd hc) s.heap.objs.size p hne its.toArray, ⟨⟨_, Heap.get?_push_size _ rfl, rfl, rfl⟩, pl.isList.at fun o e => Heap.get?_push_of_some _ e⟩, fun i v s' Q' E' e hQ => ?_, fun h' tk kk => ?_⟩
  · rw [bools_at r' i v (by simpa using e)]
    exact wpAny_truthy_bool hQ
  · have kp : ∀ b o, s.heap.get? b = some o → h'.get? b = some o := fun b o e => kk b o (by simpa using Nat.ne_of_lt (Heap.lt_size e)) (Heap.get?_push_of_some _ e)
    rw [List.size_toArray, hlen, all_range]
    exact ⟨.bl (bs.all id), H, I.kept kp, rfl, q⟩
theorem call_any_bools (hc : X.calm = true) : CallR X (.builtin "any") (fun xs H Q => ∃ (p : Addr) (bs : List Bool), xs = [.ref p] ∧ SqL X.K H p (bs.map V.bl) ∧ Q (.bl (bs.any id)) H) := by
  intro pins s σ H xs us Q I r h
  obtain ⟨p, bs, rfl, hq, q⟩ := h
  obtain ⟨u, rfl, rx⟩ := vals1 r
  cases rx
  obtain ⟨its, r', pl, hz⟩ := I.list hq
  have hlen : its.length = bs.length := by rw [← r'.length, List.length_map]
  obtain ⟨o, n, ho, _⟩ := id pl
  have hne : p ≠ s.heap.objs.size := Nat.ne_of_lt (Heap.lt_size ho)
  refine call_any_walk (wpAny_pyIter_list pl.isList ?_)
  refine ⟨s.heap.objs.size, _, _, its.toArray.size, _, _, fun i => bs.getD i false, rfl, Walks.list (A := X.A.in1) (I.ok.hd hc) s.heap.objs.size p hne its.toArray, ⟨⟨_, Heap.get?_push_size _ rfl, rfl, rfl⟩, pl.isList.at fun o e => Heap.get?_push_of_some _ e⟩, fun i v s' Q' E' e hQ => ?_, fun h' tk kk => ?_⟩
  · rw [bools_at r' i v (by simpa using e)]
    exact wpAny_truthy_bool hQ
  · have kp : ∀ b o, s.heap.get? b = some o → h'.get? b = some o := fun b o e => kk b o (by simpa using Nat.ne_of_lt (Heap.lt_size e)) (Heap.get?_push_of_some _ e)
    rw [List.size_toArray, hlen, any_range]
    exact ⟨.bl (bs.any id), H, I.kept kp, rfl, q⟩
end
end L2
namespace L2
open PySem PySem.Spec PyProof.Rows
def RowAt (b : Bool) (h : Heap) (l : Addr) (xs : Array Value) : Prop := match b with
  | true => h.IsTuple l xs
  | false => h.IsList l xs
def Sq (b : Bool) (K : PySem.W.Frag) (H : Hp) (a : Addr) (xs : List V) : Prop := match b with
  | true => SqT K H a xs
  | false => SqL K H a xs
section
variable {X : Cx} {pins : List (Addr × Obj)} {σ : St} {H : Hp} {s : Shared} {b : Bool} {a : Addr} {xs ys : List V}
theorem Inv.row_inj (I : Inv X pins σ H s) (h : Sq b X.K H a xs) (h' : Sq b X.K H a ys) : xs = ys := by
  cases b with
  | true => exact I.tuple_inj h h'
  | false => exact I.list_inj h h'
end
end L2
namespace L2
open PySem PySem.Spec PyProof.Rows
section
variable {K : PySem.W.Frag}
theorem kit_non_bool : PySem.W.kitOne K (.type "NoneType") (.type "bool") = some false := kit_of (by decide +kernel)
theorem kit_str_bool : PySem.W.kitOne K (.type "str") (.type "bool") = some false := kit_of (by decide +kernel)
end
end L2
namespace L2
open PySem
theorem below_go (xs : Array Nat) (j : Nat) (mono : xs.toList.Pairwise (· < ·)) : ∀ fuel lo hi, hi - lo ≤ fuel → lo ≤ hi → hi ≤ xs.size → (∀ i, i < lo → xs.getD i j < j) → (∀ i, hi ≤ i → i < xs.size → j ≤ xs.getD i j) →
    SetTable.below.go xs j fuel lo hi ≤ xs.size ∧ (∀ i, i < SetTable.below.go xs j fuel lo hi → xs.getD i j < j) ∧ ∀ i, SetTable.below.go xs j fuel lo hi ≤ i → i < xs.size → j ≤ xs.getD i j := by
  have le : ∀ a b, a ≤ b → b < xs.size → xs.getD a j ≤ xs.getD b j := fun a b h hb => by
    rcases Nat.lt_or_eq_of_le h with h | h
    · have := List.pairwise_iff_getElem.mp mono a b (by simp; omega) (by simpa using hb) h
      simp only [Array.getElem_toList] at this
      simp only [Array.getD_eq_getD_getElem?, Array.getElem?_eq_getElem hb, Array.getElem?_eq_getElem (show a < xs.size by omega), Option.getD_some]
      omega
    · rw [h]; exact Nat.le_refl _
  intro fuel
  induction fuel with
  | zero =>
    intro lo hi h1 h2 h3 h4 h5
    have e : lo = hi := by omega
    subst e
    exact ⟨h3, h4, h5⟩
  | succ fuel ih =>
    intro lo hi h1 h2 h3 h4 h5
    unfold SetTable.below.go
    by_cases hl : lo < hi
    · rw [if_pos hl]
      dsimp only
      by_cases hm : xs.getD ((lo + hi) / 2) j < j
      · rw [if_pos hm]
        refine ih _ _ (by omega) (by omega) h3 (fun i hi' => ?_) h5
        exact Nat.lt_of_le_of_lt (le i ((lo + hi) / 2) (by omega) (by omega)) hm
      · rw [if_neg hm]
        refine ih _ _ (by omega) (by omega) (by omega) h4 (fun i hi' hs => ?_)
        exact Nat.le_trans (by omega) (le ((lo + hi) / 2) i hi' hs)
    · rw [if_neg hl]
      have e : lo = hi := by omega
      subst e
      exact ⟨h3, h4, h5⟩
theorem below_spec (xs : Array Nat) (j : Nat) (mono : xs.toList.Pairwise (· < ·)) : SetTable.below xs j ≤ xs.size ∧ (∀ i, i < SetTable.below xs j → xs.getD i j < j) ∧ ∀ i, SetTable.below xs j ≤ i → i < xs.size → j ≤ xs.getD i j :=
  below_go xs j mono xs.size 0 xs.size (by omega) (by omega) (Nat.le_refl _) (fun i h => absurd h (by omega)) (fun i h h' => absurd h' (by omega))
theorem insert_rises (xs : Array Nat) (j : Nat) (mono : xs.toList.Pairwise (· < ·)) (hn : xs[SetTable.below xs j]? ≠ some j) : (SetTable.insertAt xs (SetTable.below xs j) j).toList.Pairwise (· < ·) := by
  obtain ⟨h1, h2, h3⟩ := below_spec xs j mono
  have e : (SetTable.insertAt xs (SetTable.below xs j) j).toList = xs.toList.take (SetTable.below xs j) ++ j :: xs.toList.drop (SetTable.below xs j) := by
    simp [SetTable.insertAt, List.extract_eq_take_drop, List.take_of_length_le]
  rw [e]
  generalize hp : SetTable.below xs j = p at *
  have gt : ∀ i, p ≤ i → (h : i < xs.size) → j < xs[i] := fun i hi h => by
    have q := h3 i hi h
    rw [Array.getD_eq_getD_getElem?, Array.getElem?_eq_getElem h, Option.getD_some] at q
    rcases Nat.lt_or_eq_of_le q with q | q
    · exact q
    · exfalso
      have hps : p < xs.size := by omega
      have q2 := h3 p (Nat.le_refl _) hps
      rw [Array.getD_eq_getD_getElem?, Array.getElem?_eq_getElem hps, Option.getD_some] at q2
      rcases Nat.lt_or_eq_of_le hi with z | z
      · have := List.pairwise_iff_getElem.mp mono p i (by simpa using hps) (by simpa using h) z
        simp only [Array.getElem_toList] at this
        omega
      · subst z
        exact hn (by rw [Array.getElem?_eq_getElem h, ← q])
  rw [List.pairwise_append, List.pairwise_cons]
  refine ⟨mono.sublist (List.take_sublist _ _), ⟨fun a ha => ?_, mono.sublist (List.drop_sublist _ _)⟩, fun a ha b hb => ?_⟩
  · obtain ⟨i, hi, rfl⟩ := List.getElem_of_mem ha
    rw [List.getElem_drop]
    rw [List.length_drop, Array.length_toList] at hi
    have := gt (p + i) (by omega) (by omega)
    simpa using this
  · obtain ⟨i, hi, rfl⟩ := List.getElem_of_mem ha
    rw [List.length_take, Array.length_toList] at hi
    have q := h2 i (by omega)
    rw [Array.getD_eq_getD_getElem?, Array.getElem?_eq_getElem (by omega), Option.getD_some] at q
    rw [List.getElem_take]
    rw [Array.getElem_toList]
    rcases List.mem_cons.mp hb with rfl | hb
    · exact q
    · obtain ⟨k, hk, rfl⟩ := List.getElem_of_mem hb
      rw [List.getElem_drop]
      rw [List.length_drop, Array.length_toList] at hk
      have := gt (p + k) (by omega) (by omega)
      rw [Array.getElem_toList]
      omega
structure JT (L : Bool) (t : SetTable) : Prop where
  led : t.led = L
  dum : t.dummies = #[]
  mono : t.place.toList.Pairwise (· < ·)
theorem has_nil (j : Nat) : SetTable.has #[] j = false := by simp [SetTable.has]
theorem slot_cases (t : SetTable) (j : Nat) (h : t.dummies = #[]) : (t.slot j = .empty ∧ t.place[SetTable.below t.place j]? ≠ some j) ∨ ∃ i, t.slot j = .live i := by
  unfold SetTable.slot
  rw [h, has_nil]
  dsimp only
  by_cases e : (t.place[SetTable.below t.place j]? == some j) = true
  · rw [if_pos e]; exact .inr ⟨_, rfl⟩
  · rw [if_neg e]
    refine .inl ⟨by simp, fun q => e ?_⟩
    rw [q]; simp
theorem probe_empty (t : SetTable) (hd : t.dummies = #[]) (f : Nat → Int) (h : Int) : ∀ (fuel : Nat) (p : SetTable.Probe) (j : Nat) (d : Option Nat), p.dummy = none → SetTable.probe.go t f h fuel p = some (.empty j d) →
    d = none ∧ t.place[SetTable.below t.place j]? ≠ some j := by
  intro fuel
  induction fuel with
  | zero => intro p j d _ e; simp [SetTable.probe.go] at e
  | succ fuel ih =>
    intro p j d hp e
    unfold SetTable.probe.go at e
    rcases slot_cases t p.j hd with ⟨q, q2⟩ | ⟨i, q⟩
    · rw [q] at e
      injection e with e
      injection e with e1 e2
      subst e1
      exact ⟨e2 ▸ hp, q2⟩
    · rw [q] at e
      dsimp only at e
      have ha : (t.advance p).dummy = none := by
        unfold SetTable.advance
        split
        · exact hp
        · exact hp
      split at e
      · cases e
      · exact ih _ j d ha e
theorem standIn_JT {L : Bool} {t : SetTable} (n : Nat) (h : JT L t) : JT L (t.standIn n) where
  led := h.led
  dum := rfl
  mono := by
    show (Array.range n).toList.Pairwise (· < ·)
    rw [Array.toList_range]
    exact List.pairwise_lt_range
theorem layNew_JT {L : Bool} {t : SetTable} (es : Array (Int × Value)) (h : Int) (x : Value) (J : JT L t) : JT L (layNew t es h x).2.1 := by
  unfold layNew
  cases q : t.freeSlot h with
  | none => exact standIn_JT _ J
  | some r =>
    obtain ⟨slot, wasDummy⟩ := r
    dsimp only
    have hs : t.place[SetTable.below t.place slot]? ≠ some slot := by
      unfold SetTable.freeSlot at q
      cases e : t.probe (fun _ => h + 1) h (t.probeStart h) with
      | none => rw [e] at q; cases q
      | some m =>
        rw [e] at q
        cases m with
        | candidate _ _ _ => cases q
        | empty j d =>
          obtain ⟨rfl, z⟩ := probe_empty t J.dum _ h _ _ j d rfl e
          have q1 := Option.some.inj q
          injection q1 with q2 _
          subst q2
          exact z
    have Jp : JT L (t.put slot).1 := by
      refine ⟨J.led, ?_, insert_rises t.place slot J.mono hs⟩
      show (if SetTable.has t.dummies slot = true then _ else t.dummies) = #[]
      rw [J.dum, has_nil]
      rfl
    unfold SetTable.orStandIn
    split
    · exact Jp
    · exact standIn_JT _ Jp
theorem laid_JT {L : Bool} {mask finger moves : Nat} {plain : Bool} {hs : Array Int} {t : SetTable} {o : Array Nat} (h : SetTable.laid mask finger moves L plain hs = some (t, o)) : JT L t := by
  unfold SetTable.laid at h
  cases q : SetTable.layClean mask hs with
  | none => rw [q] at h; cases h
  | some owner =>
    rw [q] at h
    have e := Option.some.inj h
    injection e with e1 _
    subst e1
    refine ⟨rfl, rfl, ?_⟩
    show (List.map (fun x => x.1) ((List.range (mask + 1)).filterMap fun j => (owner.getD j none).map (j, ·))).toArray.toList.Pairwise (· < ·)
    have : ∀ l : List Nat, List.Sublist (List.map (fun x : Nat × Nat => x.1) (l.filterMap fun j => (owner.getD j none).map (j, ·))) l := by
      intro l
      induction l with
      | nil => exact List.Sublist.refl _
      | cons a r ih =>
        rw [List.filterMap_cons]
        cases (owner.getD a none) with
        | none => exact ih.cons _
        | some k => exact ih.cons₂ _
    exact (List.pairwise_lt_range (n := mask + 1)).sublist (by simpa using this (List.range (mask + 1)))
theorem relayAll_JT {L : Bool} {t : SetTable} (es : Array (Int × Value)) (wanted : Nat) (J : JT L t) : JT L (relayAll t es wanted).2.1 := by
  unfold relayAll
  cases q : t.relaid (es.map (·.1)) wanted with
  | none => exact standIn_JT _ J
  | some r =>
    obtain ⟨t', order⟩ := r
    dsimp only
    split
    · unfold SetTable.relaid at q
      rw [J.led] at q
      exact laid_JT q
    · exact standIn_JT _ J
theorem plain_off_JT {L : Bool} {t : SetTable} (J : JT L t) : JT L { t with plain := false } := ⟨J.led, J.dum, J.mono⟩
end L2
namespace L2
open PySem
section
variable {prog : Program} {w : World} {κ : Type} [DecidableEq κ]
def SetX (knd : KeyKind prog w κ) (h : Heap) (a : Addr) (S : κ → Bool) (n : Nat) : Prop :=
  ∃ o es ep t, h.get? a = some o ∧ o.ExactSet ∧ o.data = .set es ep t ∧ (ElemsOf knd es.toList ∧ (∀ k, S k = true ↔ ∃ e ∈ es.toList, knd.is k e.2 = true) ∧ es.size < scanBound ∧ t.fits es.size = true ∧ es.size = n) ∧ JT (!w.params.followText "set-order") t
variable {knd : KeyKind prog w κ} {A : Around} {E : Value → Shared → Prop} {s : Shared}
theorem SetX.of_get {h h' : Heap} {a : Addr} {S : κ → Bool} {n : Nat} (x : SetX knd h a S n) (k : ∀ o, h.get? a = some o → h'.get? a = some o) : SetX knd h' a S n := by
  obtain ⟨o, es, ep, t, e, r⟩ := x
  exact ⟨o, es, ep, t, k o e, r⟩
theorem SetX.congr {h : Heap} {a : Addr} {S S' : κ → Bool} {n n' : Nat} (x : SetX knd h a S n) (e : ∀ k, S k = S' k) (en : n = n') : SetX knd h a S' n' := by
  obtain rfl : S = S' := funext e
  subst en
  exact x
theorem SetX.new (h : Heap) {l : Bool} (hl : l = !w.params.followText "set-order") : SetX knd (h.push { cls := .type "set", dict := none, data := .set #[] 0 (.fresh 0 0 l) }) h.objs.size (fun _ => false) 0 := by
  refine ⟨_, #[], 0, _, Heap.get?_push_size _ rfl, ⟨rfl, rfl, rfl⟩, rfl, ⟨fun e he => absurd he (by simp), fun k => by simp, by decide, by simp [SetTable.fits, SetTable.fresh, SetTable.fill], rfl⟩, hl, rfl, ?_⟩
  exact List.Pairwise.nil
theorem SetX.store {h : Heap} {a : Addr} {o : Obj} {es es' : Array (Int × Value)} {ep : Nat} {t t' : SetTable} {S : κ → Bool} (ho : h.get? a = some o) (hx : o.ExactSet) (hd : o.data = .set es ep t)
    (el : ElemsOf knd es'.toList) (mem : ∀ k, S k = true ↔ ∃ e ∈ es'.toList, knd.is k e.2 = true) (hb : es'.size < scanBound) (hf : t'.fits es'.size = true) (J : JT (!w.params.followText "set-order") t') :
    (h.update a (Obj.putSet es' t')).get? a = some { o with data := .set es' (ep + 1) t' } ∧ SetX knd (h.update a (Obj.putSet es' t')) a S es'.size := by
  have g : (h.update a (Obj.putSet es' t')).get? a = some { o with data := .set es' (ep + 1) t' } := (SetOf_store (knd := knd) (S' := S) ho hx hd el mem hb hf).1
  exact ⟨g, _, es', ep + 1, t', g, hx, rfl, ⟨el, mem, hb, hf, rfl⟩, J⟩
theorem addTailX {g : Bool → Sem Unit} (hg : ∀ (b : Bool) (s₁ : Shared) (Q' : Unit → Shared → Prop), Q' () s₁ → wpAny (model prog w) A (g b) Q' E s₁)
    {a : Addr} {o : Obj} {es es1 : Array (Int × Value)} {ep : Nat} {t t2 : SetTable} {S : κ → Bool} {wd : Bool} {R : Option Bool → Shared → Prop} (ho : s.heap.get? a = some o) (hx : o.ExactSet) (hd : o.data = .set es ep t)
    (el : ElemsOf knd es1.toList) (mem : ∀ k, S k = true ↔ ∃ e ∈ es1.toList, knd.is k e.2 = true) (hb : es1.size < scanBound) (hf : t2.fits es1.size = true) (J : JT (!w.params.followText "set-order") t2)
    (fin : ∀ h', Heap.SameBut a s.heap h' → SetX knd h' a S es1.size → R (some true) { s with heap := h' }) :
    wpAny (model prog w) A (do
        storeSet a es1 t2
        if (!wd && t2.tooFull) = true then do
            g (relayAll t2 es1 (SetTable.grown es1.size)).2.2
            storeSet a (relayAll t2 es1 (SetTable.grown es1.size)).1 (relayAll t2 es1 (SetTable.grown es1.size)).2.1
            pure (some true)
          else pure (some true)) R E s := by
  obtain ⟨g1, x1⟩ := SetX.store (knd := knd) ho hx hd el mem hb hf J
  have sb1 := Heap.SameBut.update s.heap a (Obj.putSet es1 t2)
  refine wpAny_bind (wpAny_storeSet_of ho hd ?_ (fits_of_scanBound hb))
  by_cases c : (!wd && t2.tooFull) = true
  · rw [if_pos c]
    have pm := relayAll_perm t2 es1 (SetTable.grown es1.size)
    have ft := relayAll_fits t2 es1 (SetTable.grown es1.size)
    have J2 := relayAll_JT (t := t2) es1 (SetTable.grown es1.size) J
    generalize relayAll t2 es1 (SetTable.grown es1.size) = r at pm ft J2 ⊢
    obtain ⟨es2, t3, gave⟩ := r
    dsimp only at pm ft J2 ⊢
    have sz : es2.size = es1.size := by simpa using pm.length_eq
    refine wpAny_bind (hg _ _ _ (wpAny_bind (wpAny_storeSet_of g1 rfl ?_ (by rw [sz]; exact fits_of_scanBound hb))))
    obtain ⟨_, x2⟩ := SetX.store (knd := knd) (S := S) g1 hx rfl (el.perm pm) (fun k => (mem k).trans ⟨fun ⟨e, he, q⟩ => ⟨e, pm.mem_iff.mpr he, q⟩, fun ⟨e, he, q⟩ => ⟨e, pm.mem_iff.mp he, q⟩⟩) (by rw [sz]; exact hb) ft J2
    rw [sz] at x2
    exact wpAny_pure (fin _ (sb1.trans (Heap.SameBut.update _ a _)) x2)
  · rw [if_neg c]
    exact wpAny_pure (fin _ sb1 x1)
theorem addX {a : Addr} {S : κ → Bool} {n : Nat} {k : κ} {x : Value} {Q : Bool → Shared → Prop} (hk : knd.is k x = true) (hsc : x.scannable = true) (hS : SetX knd s.heap a S n) (room : n + 1 < scanBound)
    (fin : ∀ h', Heap.SameBut a s.heap h' → SetX knd h' a (fun k' => S k' || decide (k' = k)) (if S k then n else n + 1) → Q (!S k) { s with heap := h' }) :
    wpAny (model prog w) A (setAddHashed a x (knd.hash k)) Q E s := by
  obtain ⟨o, es, ep, t, ho, hx, hd, ⟨el, mem, hb, hf, hn⟩, J⟩ := hS
  have quiet : ∀ (b : Bool) (s₁ : Shared) (Q' : Unit → Shared → Prop), Q' () s₁ → wpAny (model prog w) A (match b with | true => rule "set.scan.the-table-gave-way" | false => pure ()) Q' E s₁ := fun b s₁ Q' z => by
    cases b
    · exact wpAny_pure z
    · exact wpAny_rule z
  unfold setAddHashed setAddHashedIn
  refine wpAny_holding (wpAny_bind (wpAny_setState_of ho hd hf ?_))
  dsimp only
  rw [if_pos (byScan_of hsc hb el)]
  unfold setAddByScan
  refine wpAny_bind (wpAny_bind (wpAny_rule (wpAny_bind (wpAny_setScan_of hk ho hd hf el ?_))))
  cases found : List.findIdx? (fun e => knd.is k e.2) es.toList with
  | some j =>
    obtain ⟨hj, pj, _⟩ := List.findIdx?_eq_some_iff_getElem.mp found
    have there : S k = true := (mem k).mpr ⟨_, List.getElem_mem hj, pj⟩
    dsimp only
    refine wpAny_pure (wpAny_pure ?_)
    have z := fin s.heap (Heap.SameBut.refl a s.heap) ⟨o, es, ep, t, ho, hx, hd, ⟨el, fun k' => ?_, hb, hf, by rw [there]; exact hn⟩, J⟩
    · rw [there] at z
      exact z
    · rw [← mem k', Bool.or_eq_true, decide_eq_true_eq]
      exact ⟨fun q => q.elim id fun e => by rw [e]; exact there, .inl⟩
  | none =>
    have away : S k = false := by
      cases q : S k with
      | false => rfl
      | true =>
        obtain ⟨e, he, pe⟩ := (mem k).mp q
        exact absurd pe (by simpa using List.findIdx?_eq_none_iff.mp found e he)
    dsimp only
    have pm := layNew_perm t es (knd.hash k) x
    have ft := layNew_fits t es (knd.hash k) x
    have J1 := layNew_JT es (knd.hash k) x J
    generalize layNew t es (knd.hash k) x = r at pm ft J1 ⊢
    obtain ⟨es1, t1, wd, gave⟩ := r
    dsimp only at pm ft J1 ⊢
    rw [Array.toList_push] at pm
    have sz : es1.size = n + 1 := by
      have := pm.length_eq
      rw [List.length_append] at this
      simp at this
      omega
    have last : ∀ h', Heap.SameBut a s.heap h' → SetX knd h' a (fun k' => S k' || decide (k' = k)) es1.size → Q true { s with heap := h' } := fun h' sb q => by
      have z := fin h' sb
      rw [away] at z
      rw [sz] at q
      exact z q
    have go : ∀ t2 : SetTable, t2.fits es1.size = true → JT (!w.params.followText "set-order") t2 → ∀ (R : Option Bool → Shared → Prop), (∀ h', Heap.SameBut a s.heap h' → SetX knd h' a (fun k' => S k' || decide (k' = k)) es1.size → R (some true) { s with heap := h' }) → wpAny (model prog w) A (do
        storeSet a es1 t2
        if (!wd && t2.tooFull) = true then do
            (match (relayAll t2 es1 (SetTable.grown es1.size)).2.2 with | true => rule "set.scan.the-table-gave-way" | false => pure ())
            storeSet a (relayAll t2 es1 (SetTable.grown es1.size)).1 (relayAll t2 es1 (SetTable.grown es1.size)).2.1
            pure (some true)
          else pure (some true)) R E s := fun t2 f2 J2 R hR =>
      addTailX quiet ho hx hd ((el.push hk hsc).perm pm) (mem_push_iff hk mem pm) (by rw [sz]; exact room) f2 J2 hR
    refine wpAny_bind (quiet _ _ _ ?_)
    by_cases c : t1.plain = true
    · rw [if_pos c]
      refine wpAny_bind ?_
      rw [hashByValue_scannable 8 hsc]
      refine wpAny_pure ?_
      refine go _ ?_ ?_ _ fun h' sb q => wpAny_pure (last h' sb q)
      · split
        · exact ft
        · exact SetTable.fits_plain_off ft
      · split
        · exact J1
        · exact plain_off_JT J1
    · rw [if_neg c]
      refine wpAny_bind (wpAny_pure ?_)
      rw [if_pos rfl]
      exact go _ ft J1 _ fun h' sb q => wpAny_pure (last h' sb q)
end
end L2
namespace L2
open PySem PyProof.Rows
section
variable {prog : Program} {w : World} {A : Around} {R : Result → Shared → Prop} {I : Addr} {fp wr : List Addr} {G : Array GenState → Array GenState → Prop} {n : Nat} {P : Nat → Value → Prop} {St : Nat → Shared → Prop}
abbrev metSet (prog : Program) (w : World) (val : Nat → Int) (i : Nat) (h : Heap) (S : Addr) : Prop := SetX (intKind prog w) h S (fun k => (firstMet val i).any (· == k)) (firstMet val i).length
theorem updLoopX (W : WalksS prog w A.in1 I fp wr G n P St) (S : Addr) (hSf : S ∉ fp) (val : Nat → Int) (hval : ∀ i v, P i v → ∃ t, v = .int (val i) t) (hb : n + 1 < scanBound) :
    ∀ (k i : Nat) (s : Shared), n - i = k → i ≤ n → St i s → metSet prog w val i s.heap S → (∀ s', Moved (S :: wr) G s s' → metSet prog w val n s'.heap S → R (.ok (.ret .none)) s') →
      codeAny (model prog w) A (.builtin "set.update.loop" ⟨[.ref S, .ref I], []⟩) R s := by
  have hSw : S ∉ wr := fun z => hSf (W.sub _ z)
  have sub : ∀ b ∈ wr, b ∈ S :: wr := fun b q => List.mem_cons_of_mem _ q
  intro k
  induction k with
  | zero =>
    intro i s hk hi st x fin
    obtain rfl : i = n := by omega
    refine codeAny_builtin PyProof.Rows.F.entry_set_update_loop ?_
    rw [Around.under_plainId PyProof.Rows.F.plain_set_update_loop _]
    show wpAny _ A.in1 (pyNext (.ref I) >>= _) _ _ s
    refine wpAny_bind (W.done s _ _ st fun s' m => ?_)
    show wpAny _ A.in1 (ret Value.none) _ _ s'
    exact wpAny_pure (fin s' (m.mono sub) (x.of_get fun o e => m.heap S _ hSw e))
  | succ k ih =>
    intro i s hk hi st x fin
    have lt : i < n := by omega
    refine codeAny_builtin PyProof.Rows.F.entry_set_update_loop ?_
    rw [Around.under_plainId PyProof.Rows.F.plain_set_update_loop _]
    show wpAny _ A.in1 (pyNext (.ref I) >>= _) _ _ s
    refine wpAny_bind (W.item i s _ _ lt st fun v s' pv st' m => ?_)
    obtain ⟨t, rfl⟩ := hval i v pv
    have x' : metSet prog w val i s'.heap S := x.of_get fun o e => m.heap S _ hSw e
    show wpAny _ A.in1 (holding [Value.int (val i) t] (setAdd S (.int (val i) t)) >>= _) _ _ s'
    refine wpAny_bind (wpAny_holding ?_)
    unfold setAdd
    refine wpAny_holding (wpAny_bind ((intKind prog w).pyHash (k := val i) (intKind_is _ _ _ _) ?_))
    have room : (firstMet val i).length + 1 < scanBound := by have := firstMet_length_le val i; omega
    refine addX (knd := intKind prog w) (s := { s' with toks := s'.toks + 1 }) (intKind_is _ _ _ _) rfl x' room fun h' sb x2 => ?_
    have x3 : metSet prog w val (i + 1) h' S := x2.congr (fun k' => by rw [firstMet_succ, step_any]) (by rw [firstMet_succ, step_length])
    refine wpAny_pure ⟨plainId_quiet PyProof.Rows.F.plain_set_update_loop _, ih (i + 1) _ (by omega) lt (W.frame _ s' _ _ st' (Nat.le_succ _) fun b hb o e => ?_) x3 fun s'' m2 x4 => ?_⟩
    · rw [sb.2 b (fun z : b = S => hSf (z ▸ hb))]; exact e
    · refine fin s'' (Moved.trans W.gtrans ((m.mono sub).then_heap (Nat.le_succ _) fun b o hb e => ?_) m2) x4
      rw [sb.2 b (fun z : b = S => hb (z ▸ List.mem_cons_self))]; exact e
end
section
variable {prog : Program} {w : World} {A : Around} {E : Value → Shared → Prop} {s : Shared}
abbrev noSet (w : World) : Obj := { cls := .type "set", dict := none, data := .set #[] 0 (.fresh 0 0 (!w.params.followText "set-order")) }
theorem set_new_led (a : Value) {Q : Value → Shared → Prop} (h : Q (.ref s.heap.objs.size) { s with heap := s.heap.push (noSet w) }) :
    codeAny (model prog w) A (.call (.builtin "set.__new__") ⟨[.type "set", a], []⟩) (wants Q E) s := by
  refine codeAny_of_tree ?_
  show wpAny _ A.in1 (do checkBuiltinCall "set.__new__" ⟨[.type "set", a], []⟩; again (.builtin "set.__new__" ⟨[.type "set", a], []⟩)) _ _ s
  refine wpAny_bind (wpAny_of_eq (PySem.F.newCall_set_1 a) (wpAny_pure ⟨plainId_quiet PySem.F.plain_set_new _, codeAny_builtin PySem.F.entry_set_new ?_⟩))
  rw [Around.under_plainId PySem.F.plain_set_new _]
  unfold Builtin.«set.__new__» Builtin.Frozenset.newClass
  have hsub := sub_set_self
  obtain ⟨hp, g, d, tk, os⟩ := s
  dsimp only
  wp_walk
  refine wpAny_askSetting (wpAny_pure ?_)
  dsimp only
  simp only [newObj]
  exact wpAny_bind (wpAny_alloc (wpAny_pure (wpAny_pure h)))
end
end L2
namespace L2
open PySem PySem.Spec PyProof.Rows
def insU (x : Int) : List Int → List Int
  | [] => [x]
  | y :: r => if x < y then x :: y :: r else if x = y then y :: r else y :: insU x r
def sortU (ns : List Int) : List Int := ns.foldr insU []
theorem mem_insU (x k : Int) : ∀ l : List Int, k ∈ insU x l ↔ k = x ∨ k ∈ l
  | [] => by simp [insU]
  | y :: r => by
    unfold insU
    split
    · simp
    · split
      · rename_i h; subst h; simp
      · rw [List.mem_cons, mem_insU x k r, List.mem_cons]
        constructor
        · rintro (h | h | h)
          · exact .inr (.inl h)
          · exact .inl h
          · exact .inr (.inr h)
        · rintro (h | h | h)
          · exact .inr (.inl h)
          · exact .inl h
          · exact .inr (.inr h)
theorem rise_insU (x : Int) : ∀ l : List Int, l.Pairwise (· < ·) → (insU x l).Pairwise (· < ·)
  | [], _ => by simp [insU]
  | y :: r, h => by
    rw [List.pairwise_cons] at h
    unfold insU
    split
    · rename_i hlt
      rw [List.pairwise_cons, List.pairwise_cons]
      refine ⟨fun a ha => ?_, h⟩
      rcases List.mem_cons.mp ha with rfl | ha
      · exact hlt
      · exact Int.lt_trans hlt (h.1 a ha)
    · split
      · rw [List.pairwise_cons]; exact h
      · rename_i h1 h2
        rw [List.pairwise_cons]
        refine ⟨fun a ha => ?_, rise_insU x r h.2⟩
        rcases (mem_insU x a r).mp ha with rfl | ha
        · omega
        · exact h.1 a ha
theorem mem_sortU (k : Int) : ∀ ns : List Int, k ∈ sortU ns ↔ k ∈ ns
  | [] => Iff.rfl
  | x :: r => by
    show k ∈ insU x (sortU r) ↔ _
    rw [mem_insU, mem_sortU k r, List.mem_cons]
theorem rise_sortU : ∀ ns : List Int, (sortU ns).Pairwise (· < ·)
  | [] => List.Pairwise.nil
  | x :: r => rise_insU x _ (rise_sortU r)
theorem nodup_of_rise {l : List Int} (h : l.Pairwise (· < ·)) : l.Nodup := h.imp fun {a b} q e => by rw [e] at q; exact Int.lt_irrefl _ q
theorem perm_of_sub : ∀ (l1 l2 : List Int), l1.Nodup → (∀ x ∈ l1, x ∈ l2) → l2.length ≤ l1.length → l1.Perm l2
  | [], l2, _, _, h => by
    have : l2 = [] := List.eq_nil_of_length_eq_zero (by simpa using h)
    subst this; exact List.Perm.refl _
  | a :: r, l2, hn, hs, hl => by
    rw [List.nodup_cons] at hn
    have ha := hs a List.mem_cons_self
    have p := List.perm_cons_erase ha
    refine ((perm_of_sub r (l2.erase a) hn.2 (fun x hx => ?_) ?_).cons a).trans p.symm
    · have hne : x ≠ a := fun e => hn.1 (e ▸ hx)
      exact (List.mem_erase_of_ne hne).mpr (hs x (List.mem_cons_of_mem _ hx))
    · have := p.length_eq
      rw [List.length_cons] at this hl
      omega
theorem firstMet_mem (ns : List Int) (k : Int) : (firstMet (fun i => ns.getD i 0) ns.length).any (· == k) = decide (k ∈ ns) := by
  rw [firstMet_any]
  have e : (List.range ns.length).map (fun i => ns.getD i 0) = ns := by
    apply List.ext_getElem
    · simp
    · intro i h1 h2
      simp [List.getD, h2]
  rw [e, Bool.eq_iff_iff, List.any_eq_true, decide_eq_true_iff]
  constructor
  · rintro ⟨x, hx, q⟩
    rw [← eq_of_beq q]; exact hx
  · intro h
    exact ⟨k, h, beq_self_eq_true k⟩
theorem firstMet_nodup (val : Nat → Int) : ∀ i, (firstMet val i).Nodup
  | 0 => List.nodup_nil
  | i + 1 => by
    rw [firstMet_succ]
    unfold step_dedup
    have ih := firstMet_nodup val i
    by_cases h : (firstMet val i).any (· == val i) = true
    · rw [if_pos h]; exact ih
    · rw [if_neg h, List.nodup_append]
      refine ⟨ih, by simp, fun a ha b hb e => h ?_⟩
      rw [List.mem_singleton] at hb
      rw [List.any_eq_true]
      exact ⟨a, ha, by rw [e, hb]; exact beq_self_eq_true _⟩
theorem firstMet_len (ns : List Int) : (firstMet (fun i => ns.getD i 0) ns.length).length = (sortU ns).length := by
  have m : ∀ k, k ∈ firstMet (fun i => ns.getD i 0) ns.length ↔ k ∈ ns := fun k => by
    have := firstMet_mem ns k
    rw [Bool.eq_iff_iff, List.any_eq_true, decide_eq_true_iff] at this
    rw [← this]
    exact ⟨fun h => ⟨k, h, beq_self_eq_true k⟩, fun ⟨x, hx, q⟩ => by rw [← eq_of_beq q]; exact hx⟩
  have n1 := firstMet_nodup (fun i => ns.getD i 0) ns.length
  have n2 := nodup_of_rise (rise_sortU ns)
  rcases Nat.le_total (firstMet (fun i => ns.getD i 0) ns.length).length (sortU ns).length with h | h
  · exact (perm_of_sub (sortU ns) _ n2 (fun x hx => (m x).mpr ((mem_sortU x ns).mp hx)) h).length_eq.symm
  · exact (perm_of_sub _ (sortU ns) n1 (fun x hx => (mem_sortU x ns).mpr ((m x).mp hx)) h).length_eq
section
variable {X : Cx}
def SetO (X : Cx) (l : Addr) (ns : List Int) : HO := .ext fun h => SetX (intKind X.prog X.w) h l (fun k => decide (k ∈ ns)) (sortU ns).length
theorem setO_at {pins : List (Addr × Obj)} {σ : St} {H : Hp} {s : Shared} {p : Addr} {ns : List Int} (I : Inv X pins σ H s) (e : H p = some (SetO X p ns)) : SetX (intKind X.prog X.w) s.heap p (fun k => decide (k ∈ ns)) (sortU ns).length :=
  (show ObjOk X.prog X.w H s.heap p (SetO X p ns) from I.hok p _ e).1
theorem call_len_set : CallR X (.builtin "len") (fun xs H Q => ∃ (p : Addr) (ns : List Int), xs = [.ref p] ∧ H p = some (SetO X p ns) ∧ Q (.int (sortU ns).length) H) := by
  intro pins s σ H xs us Q I r h
  obtain ⟨p, ns, rfl, he, q⟩ := h
  obtain ⟨u, rfl, rx⟩ := vals1 r
  cases rx
  obtain ⟨o, es, ep, t, ho, hx, hd, ⟨el, mem, hb, hf, hn⟩, J⟩ := setO_at I he
  refine PySem.call_len_set ho hx hd hf (by have h4 : es.size < 4096 := hb; omega) ?_
  rw [hn]
  exact ⟨.int (sortU ns).length, H, I.tok _, ⟨_, rfl⟩, q⟩
end
section
variable {X : Cx}
variable {δ : Type} [DecidableEq δ] {n : Nat} {R : Hp → V → δ → Prop}
theorem paired_at {α β : Type} {Rl : α → β → Prop} : ∀ {xs : List α} {ds : List β}, Paired Rl xs ds → ∀ (i : Nat) (x : α), xs[i]? = some x → ∃ d, ds[i]? = some d ∧ Rl x d
  | _, _, .nil, i, x, h => by simp at h
  | _, _, .cons r t, 0, x, h => by simp at h; subst h; exact ⟨_, rfl, r⟩
  | _, _, .cons r t, i + 1, x, h => by
    obtain ⟨d, e, q⟩ := paired_at t i x (by simpa using h)
    exact ⟨d, by simpa using e, q⟩
end
end L2
namespace L2
open PySem PySem.Spec PyProof.Rows
section
variable {X : Cx} {x y z w : Str} {i j k l n : Nat} {px py pz pw pt : Pos}
structure Nm (X : Cx) (i : Nat) (x : Str) : Prop where
  at_ : X.N[i]? = some x
  loc : Loc X.env.scope x
  fn : X.fn x = true ∨ X.env.scope.names.lookup x = some .local
theorem Nm.pg (h : Nm X i x) (nd : X.N.Nodup) : PG X (.Name x px) (gName i) := pg_name nd h.at_ h.loc h.fn
theorem pg2 (hc : X.calm = true) (nd : X.N.Nodup) (a : Nm X i x) (b : Nm X j y) : PG X (.Tuple [.Name x px, .Name y py] n pt) (gTup X.K 2 (gCons (gName i) (gCons (gName j) gNil))) :=
  pg_tup (X := X) (n := 2) hc (pgs_cons (X := X) (a.pg nd) (pgs_cons (X := X) (b.pg nd) pgs_nil))
end
end L2
namespace L2
open PySem PySem.Spec PyProof.Rows
section
variable {es : List Expr} {env : Env} {c : Const} {i : Nat} {p : Pos}
theorem st_const : starEach (.Constant c i p :: es) env = (false, eval (.Constant c i p) env) :: starEach es env := by rw [starEach]; intro a b h; cases h
theorem st_name {x : Str} : starEach (.Name x p :: es) env = (false, eval (.Name x p) env) :: starEach es env := by rw [starEach]; intro a b h; cases h
theorem st_call {f : Expr} {as : List Expr} {ks : List Keyword} : starEach (.Call f as ks p :: es) env = (false, eval (.Call f as ks p) env) :: starEach es env := by rw [starEach]; intro a b h; cases h
theorem st_bin {a b : Expr} {o : Operator} : starEach (.BinOp a o b p :: es) env = (false, eval (.BinOp a o b p) env) :: starEach es env := by rw [starEach]; intro a b h; cases h
theorem st_sub {a b : Expr} : starEach (.Subscript a b p :: es) env = (false, eval (.Subscript a b p) env) :: starEach es env := by rw [starEach]; intro a b h; cases h
theorem st_tup {a : List Expr} : starEach (.Tuple a i p :: es) env = (false, eval (.Tuple a i p) env) :: starEach es env := by rw [starEach]; intro a b h; cases h
theorem st_list {a : List Expr} : starEach (.List a p :: es) env = (false, eval (.List a p) env) :: starEach es env := by rw [starEach]; intro a b h; cases h
theorem st_comp {a : Expr} {g : List Comprehension} {s : Scope} : starEach (.ListComp a g s p :: es) env = (false, eval (.ListComp a g s p) env) :: starEach es env := by rw [starEach]; intro a b h; cases h
theorem st_attr {a : Expr} {x : Str} : starEach (.Attribute a x p :: es) env = (false, eval (.Attribute a x p) env) :: starEach es env := by rw [starEach]; intro a b h; cases h
end
section
variable {X : Cx}
theorem ix_listK (K : PySem.W.Frag) (h : X.K = K := by rfl) : IxR X (rIxL K) := h ▸ ix_list
theorem ix_tupK (K : PySem.W.Frag) (h : X.K = K := by rfl) : IxR X (rIxT K) := h ▸ ix_tup
theorem sl_listK (K : PySem.W.Frag) (h : X.K = K := by rfl) : SlR X (rSlL K) := h ▸ sl_list
theorem op_inK (K : PySem.W.Frag) (h : X.K = K := by rfl) : OpR X (compareOp .In) (rIn K false) := h ▸ op_in_seq
def rLenSeq (K : PySem.W.Frag) : List V → Hp → VK → Prop := fun xs H Q => ∃ p ys, xs = [.ref p] ∧ (SqL K H p ys ∨ SqT K H p ys) ∧ Q (.int ys.length) H
theorem call_lenK (K : PySem.W.Frag) (h : X.K = K := by rfl) : CallR X (.builtin "len") (rLenSeq K) := h ▸ call_len_seq
def rListOf (K : PySem.W.Frag) : List V → Hp → VK → Prop := fun xs H Q => ∃ p ys, xs = [.ref p] ∧ (SqL K H p ys ∨ SqT K H p ys) ∧ ∀ l, H l = none → Q (.ref l) (upd H l (.lst ys))
theorem call_listK (K : PySem.W.Frag) (h : X.K = K := by rfl) : CallR X (.type "list") (rListOf K) := h ▸ call_list_of
def rTupleOf (K : PySem.W.Frag) : List V → Hp → VK → Prop := fun xs H Q => ∃ p ys, xs = [.ref p] ∧ ((SqL K H p ys ∧ ∀ l, H l = none → Q (.ref l) (upd H l (.tup ys))) ∨ (SqT K H p ys ∧ Q (.ref p) H))
theorem call_tupleK (K : PySem.W.Frag) (h : X.K = K := by rfl) : CallR X (.type "tuple") (rTupleOf K) := h ▸ call_tuple_of
def rIsinst (K : PySem.W.Frag) : List V → Hp → VK → Prop := fun xs H Q => ∃ v T t b, xs = [v, .ty T] ∧ TyOf K H v t ∧ PySem.W.kitOne K t (.type T) = some b ∧ Q (.bl b) H
theorem call_isinstK (K : PySem.W.Frag) (h : X.K = K := by rfl) : CallR X (.builtin "isinstance") (rIsinst K) := h ▸ call_isinst
def rAllB (K : PySem.W.Frag) : List V → Hp → VK → Prop := fun xs H Q => ∃ (p : Addr) (bs : List Bool), xs = [.ref p] ∧ SqL K H p (bs.map V.bl) ∧ Q (.bl (bs.all id)) H
theorem call_allK (K : PySem.W.Frag) (hc : X.calm = true) (h : X.K = K := by rfl) : CallR X (.builtin "all") (rAllB K) := h ▸ call_all_bools hc
def rAnyB (K : PySem.W.Frag) : List V → Hp → VK → Prop := fun xs H Q => ∃ (p : Addr) (bs : List Bool), xs = [.ref p] ∧ SqL K H p (bs.map V.bl) ∧ Q (.bl (bs.any id)) H
theorem call_anyK (K : PySem.W.Frag) (hc : X.calm = true) (h : X.K = K := by rfl) : CallR X (.builtin "any") (rAnyB K) := h ▸ call_any_bools hc
def SetP (P : Program) (w : World) (l : Addr) (ns : List Int) : HO := .ext fun h => SetX (intKind P w) h l (fun k => decide (k ∈ ns)) (sortU ns).length
def rLenS (P : Program) (w : World) : List V → Hp → VK → Prop := fun xs H Q => ∃ (p : Addr) (ns : List Int), xs = [.ref p] ∧ H p = some (SetP P w p ns) ∧ Q (.int (sortU ns).length) H
theorem call_lenSK (P : Program) (w : World) (hP : X.prog = P := by rfl) (hw : X.w = w := by rfl) : CallR X (.builtin "len") (rLenS P w) := by
  subst hP hw
  exact call_len_set
def tTru (K : PySem.W.Frag) (ta : TE) : TT := fun σ H Q => ta σ H fun x H' => ∃ k, TruV K x H' k ∧ Q k H'
theorem pt_truK (K : PySem.W.Frag) {a : Expr} {ta : TE} (ha : PE X a ta) (he : ∀ whole, isTrue a X.env whole = (do let v ← whole; standAt a.pos; holding [v] (truthy v))) (h : X.K = K := by rfl) : PT X a (tTru K ta) := h ▸ pt_truth ha he
theorem pi_listK (K : PySem.W.Frag) {tg l : Expr} {tl : TE} (hl : PE X l tl) (h : X.K = K := by rfl) : PI X tg l (iList K tl) := h ▸ pi_list hl
theorem pi_tupK (K : PySem.W.Frag) {tg l : Expr} {tl : TE} (hl : PE X l tl) (h : X.K = K := by rfl) : PI X tg l (iTup K tl) := h ▸ pi_tup hl
variable {x y z w : Str} {i j k l n : Nat} {px py pz pw pt : Pos}
theorem pg2K (K : PySem.W.Frag) (hc : X.calm = true) (nd : X.N.Nodup) (a : Nm X i x) (b : Nm X j y) (h : X.K = K := by rfl) : PG X (.Tuple [.Name x px, .Name y py] n pt) (gTup K 2 (gCons (gName i) (gCons (gName j) gNil))) := h ▸ pg2 hc nd a b
end
section
variable {X : Cx} {o e : Expr} {es : List Expr} {to : TE} {t : TA} {name : Str} {apos cpos : Pos} {T id : String} {r : V → List V → Hp → VK → Prop}
theorem pe_bmK (K : PySem.W.Frag) (pa : PlainAttrs T) (slot : Slot T name id) (hty : typeOf (.builtin id) = pure (.type "method_descriptor")) (hm : MtR X id r) (ho : PE X o to) (ha : PA X (e :: es) t) (h : X.K = K := by rfl)
    (hbase : attributeBase o name X.env (eval o X.env) = eval o X.env := by rfl)
    (hfew : ((backTo cpos (starEach (e :: es) X.env)).all (fun x => !x.1) && (backToKw cpos (keywordEach [] X.env)).all (fun x => x.1.isSome)
      && decide ((e :: es).length + ([] : List Keyword).length + (if ([] : List Keyword).isEmpty then 0 else 1) < 30)) = true := by rfl)
    (hline : (apos.endLine == cpos.line) = true := by rfl) (hs : starEach (e :: es) X.env = (false, eval e X.env) :: starEach es X.env := by rfl) (hplain : (backTo cpos (starEach es X.env)).any (·.1) = false := by rfl) :
    PE X (.Call (.Attribute o name apos) (e :: es) [] cpos) (tBM K T r to t) := h ▸ pe_bm pa slot hty hm ho ha hbase hfew hline hs hplain
end
end L2
namespace HT
open PySem PySem.Spec PyProof.Rows
section
variable {prog : Program} {w : World} {A : Around} {E : Value → Shared → Prop} {s : Shared}
theorem cat_tup0 {t b : Addr} {vs ws : List Value} {Q : Value → Shared → Prop} (ht : IsTup s.heap t vs.toArray) (hb : IsTup s.heap b ws.toArray) (hv : vs = []) (h : Q (.ref b) s) : wpAny (model prog w) A (binaryOp .Add (.ref t) (.ref b)) Q E s := by
  obtain ⟨⟨cls, dd, data, sl⟩, ho, hc, n, hd⟩ := id ht
  obtain ⟨⟨cls2, dd2, data2, sl2⟩, ho2, hc2, n2, hd2⟩ := id hb
  simp only at hc hd hc2 hd2
  subst hc hd hc2 hd2
  exact concat_meets ⟨_, ho, rfl⟩ ⟨_, ho2, rfl⟩ noFill_tuple_add seq_tuple_add PySem.F.slot_tuple_add PySem.F.entry_tuple_add (PySem.F.args_tuple_add_2 _ _)
    (tuple_addW0 t b vs.toArray ws.toArray n n2 dd dd2 sl sl2 (by simp [hv])) ⟨ho, ho2, h⟩
theorem getItem_tuple_whole {t sl : Addr} {items : Array Value} {vl vu : Value} {lo hi : Option Int} {Q : Value → Shared → Prop} (ht : IsTup s.heap t items) (hs : s.heap.IsSliceOf sl vl vu .none) (pl : IsPart vl lo) (pu : IsPart vu hi)
    (hw : sIx items.size 0 lo = 0 ∧ sIx items.size items.size hi = items.size) (h : Q (.ref t) s) : wpAny (model prog w) A (getItem (.ref t) (.ref sl)) Q E s := by
  obtain ⟨os, hos, hcs, hds⟩ := id hs
  have hTs : s.TypeIs (.ref sl) "slice" := ⟨os, hos, hcs⟩
  unfold getItem
  try with_reducible refine wpAny_holding ?_
  first | refine wpAny_bind (wpAny_pure ?_) | skip
  refine wpAny_bind (wpAny_sequenceKey ht.typeIs (by decide) ?_)
  refine wpAny_bind (wpAny_callSpecial?_slot (name := Str.ofString "__getitem__") ht.typeIs PyProof.Rows.slot_tuple_getitem
    (wpAny_call_entry PyProof.Rows.slot_tuple_getitem ht.typeIs entry_tuple_getitem ?_ (args_tuple_getitem _ _)))
  show wpAny _ _ (Builtin.Tuple.tupleItemsOf (.ref t) >>= _) _ _ s
  refine wpAny_bind (tupleItemsOf_ ht ?_)
  refine wpAny_bind (wpAny_typeOf hTs ?_)
  rw [if_pos (by decide)]
  refine wpAny_bind (sliceApplied_gen hs pl pu ?_)
  have hyes : ((((sIx items.size 0 lo : Nat) : Int) == 0 && (1 : Int) == 1 && (sIx items.size items.size hi - sIx items.size 0 lo) == items.size) = true) := by
    rw [hw.1, hw.2, Nat.sub_zero]
    simp
  show wpAny _ _ (if (((sIx items.size 0 lo : Nat) : Int) == 0 && (1 : Int) == 1 && (sIx items.size items.size hi - sIx items.size 0 lo) == items.size) = true then _ else _) _ _ s
  rw [if_pos hyes]
  have hT := ht.typeIs
  unfold Builtin.Tuple.tupleIsExact
  refine wpAny_bind (wpAny_bind (wpAny_typeOf hT (wpAny_pure ?_)))
  rw [if_pos (by decide)]
  first
    | exact wpAny_bind (wpAny_rule (wpAny_pure ⟨_, rfl, wpAny_pure h⟩))
    | exact wpAny_pure ⟨_, rfl, wpAny_pure h⟩
    | exact wpAny_bind (wpAny_pure (wpAny_pure ⟨_, rfl, wpAny_pure h⟩))
end
end HT
namespace L2
open PySem PySem.Spec PyProof.Rows
section
variable {X : Cx}
def rCatW : R2 := fun x y H Q => ∃ a b xs ys, x = .ref a ∧ y = .ref b ∧ H a = some (.tup xs) ∧ H b = some (.tup ys) ∧ xs.length + ys.length ≤ sizeLine ∧ ∀ (p : Addr) (H' : Hp), Same H H' → H' p = some (.tup (xs ++ ys)) → Q (.ref p) H'
theorem op_catW : OpR X (binaryOp .Add) rCatW := by
  intro pins s σ H x y v u Q I rx ry h
  obtain ⟨a, b, xs, ys, rfl, rfl, ha, hb, hz, q⟩ := h
  by_cases hx : xs = []
  · cases rx
    cases ry
    obtain ⟨its, r1, p1, _⟩ := I.tuple (SqT.of ha)
    obtain ⟨its2, r2, p2, _⟩ := I.tuple (SqT.of hb)
    exact HT.cat_tup0 p1 p2 (r1.nil_iff.mpr hx) ⟨.ref b, H, I, rfl, q _ _ (Same.refl H) (by rw [hx, List.nil_append]; exact hb)⟩
  · exact op_catT pins s σ H _ _ v u Q I rx ry ⟨a, b, xs, ys, rfl, rfl, SqT.of ha, SqT.of hb, hx, hz, fun hy => q _ _ (Same.refl H) (by rw [hy, List.append_nil]; exact ha), fun _ p hp => q _ _ (fun b u q => by rw [upd_ne (ne_of_none q hp)]; exact q) upd_same⟩
def rSlW : V → Option Int → Option Int → Hp → VK → Prop := fun x lo hi H Q => ∃ a xs, x = .ref a ∧ H a = some (.tup xs) ∧ ∀ (p : Addr) (H' : Hp), Same H H' → H' p = some (.tup (cutV xs lo hi)) → Q (.ref p) H'
theorem sl_tupW : SlR X rSlW := by
  intro pins s σ H x v vl vu lo hi sl Q I rx hs pl pu h
  obtain ⟨a, xs, rfl, hx, q⟩ := h
  by_cases hw : HT.sIx xs.length 0 lo = 0 ∧ HT.sIx xs.length xs.length hi = xs.length
  · cases rx
    obtain ⟨its, r, ht, hz⟩ := I.tuple (SqT.of hx)
    have hlen : its.toArray.size = xs.length := by rw [List.size_toArray]; exact r.length.symm
    refine ⟨"tuple", _, PyProof.Rows.slot_tuple_getitem.lookup, ht.typeIs, ?_⟩
    refine HT.getItem_tuple_whole ht hs pl pu (by rw [hlen]; exact hw) ⟨.ref a, H, I, rfl, q _ _ (Same.refl H) ?_⟩
    rw [hx]
    unfold cutV
    rw [hw.1, hw.2, Nat.sub_zero, List.drop_zero, List.take_length]
  · exact sl_tup pins s σ H _ v vl vu lo hi sl Q I rx hs pl pu ⟨a, xs, rfl, SqT.of hx, hw, fun p hp => q _ _ (fun b u q => by rw [upd_ne (ne_of_none q hp)]; exact q) upd_same⟩
end
end L2
namespace L2
open PySem PySem.Spec PyProof.Rows
theorem mt_appendR {X : Cx} : MtR X "list.append" rAppend := mt_append
end L2
namespace L2
open PySem PySem.Spec PyProof.Rows
section
variable {X : Cx}
def rNeNil (K : PySem.W.Frag) : R2 := fun x y H Q => ∃ (a b : Addr) (xs : List V), x = .ref a ∧ y = .ref b ∧ SqL K H a xs ∧ SqL K H b [] ∧ Q (.bl (!decide (xs = []))) H
theorem op_neNilK (K : PySem.W.Frag) (hu : X.A.units < cLine) (h : X.K = K := by rfl) : OpR X (compareOp .NotEq) (rNeNil K) := by
  subst h
  intro pins s σ H x y v u Q I rx ry h
  obtain ⟨a, b, xs, rfl, rfl, ha, hb, q⟩ := h
  cases rx
  cases ry
  obtain ⟨us, r1, p1, _⟩ := I.list ha
  obtain ⟨vs, r2, p2, _⟩ := I.list hb
  cases r2
  have l1 := r1.length
  cases xs with
  | nil =>
    cases r1
    refine SeqAt.RcNeAt.lists (e := fun j => true) p1.isList p2.isList rfl (by omega) (fun j h1 h2 => absurd h1 (by simp)) X.prog X.w X.xe _ ?_
    exact ⟨.bl false, H, I, rfl, q⟩
  | cons x t =>
    refine SeqAt.RcNeAt.lists_lengths p1.isList p2.isList (by simp only [List.size_toArray]; rw [← l1]; simp) (by omega) X.prog X.w X.xe _ ?_
    exact ⟨.bl true, H, I, rfl, q⟩
def rEqNil (K : PySem.W.Frag) : R2 := fun x y H Q => ∃ (a b : Addr) (xs : List V), x = .ref a ∧ y = .ref b ∧ SqL K H a xs ∧ SqL K H b [] ∧ Q (.bl (decide (xs = []))) H
theorem op_eqNilK (K : PySem.W.Frag) (hu : X.A.units < cLine) (h : X.K = K := by rfl) : OpR X (compareOp .Eq) (rEqNil K) := by
  subst h
  intro pins s σ H x y v u Q I rx ry h
  obtain ⟨a, b, xs, rfl, rfl, ha, hb, q⟩ := h
  cases rx
  cases ry
  obtain ⟨us, r1, p1, _⟩ := I.list ha
  obtain ⟨vs, r2, p2, _⟩ := I.list hb
  cases r2
  have l1 := r1.length
  cases xs with
  | nil =>
    cases r1
    refine SeqAt.RcAt.lists (e := fun j => true) p1.isList p2.isList rfl (by omega) (fun j h1 h2 => absurd h1 (by simp)) X.prog X.w X.xe _ ?_
    exact ⟨.bl true, H, I, rfl, q⟩
  | cons x t =>
    refine SeqAt.RcAt.lists_lengths p1.isList p2.isList (by simp only [List.size_toArray]; rw [← l1]; simp) (by omega) X.prog X.w X.xe _ ?_
    exact ⟨.bl false, H, I, rfl, q⟩
end
theorem seq_cut {A u : TS} {D : Ends} {σ : St} {H : Hp} (S : St → Hp → Prop) (h1 : ∀ R : St → Hp → Prop, (∀ σ' H', S σ' H' → R σ' H') → A { D with nx := R } σ H) (h2 : ∀ σ' H', S σ' H' → u D σ' H') : tSeq A u D σ H := h1 (u D) h2
end L2
namespace L2
open PySem PySem.Spec PyProof.Rows
def Ite (K : PySem.W.Frag) (l : Addr) : It :=
  ⟨fun i H => ∃ xs x, SqL K H l xs ∧ xs[i]? = some x,
   fun i H v H' => ∃ p x, H p = none ∧ v = .ref p ∧ H' = upd H p (.tup [.int (i : Nat), x]) ∧ ∀ xs, SqL K H l xs → xs[i]? = some x,
   fun i H => ∃ xs, SqL K H l xs ∧ xs.length ≤ i⟩
theorem turn_enum {P : Program} {w : World} {K : PySem.W.Frag} {es : List Expr} {kk : Nat} {pos : Pos} {e it l : Addr} (hei : e ≠ it) (hle : l ≠ e) (hli : l ≠ it) :
    Turn P w K (.Tuple es kk pos) (Ite K l) [e, it] e (fun n h => (∃ old, IsEnum h e it (n : Int) old) ∧ h.IsListIter it l n) where
  mem := by simp
  obj := fun n h ⟨⟨old, he⟩, hi⟩ a ha => by
    simp only [List.mem_cons, List.not_mem_nil, or_false] at ha
    rcases ha with rfl | rfl
    · exact ⟨_, he, fun v q => nomatch q⟩
    · obtain ⟨o, e1, _, d⟩ := hi
      exact ⟨o, e1, fun v z => by rw [d] at z; cases z⟩
  keep := fun n h h' ⟨⟨old, he⟩, hi⟩ k => ⟨⟨old, k e (by simp) _ he⟩, hi.at fun o x => k it (by simp) o x⟩
  item := by
    intro X hP hw hK hc n pins s σ H E I hf ⟨⟨old, he⟩, hi⟩ hg
    subst hP hw hK
    obtain ⟨xs, x, hl, hx⟩ := hg
    obtain ⟨us, ru, hl', hzl⟩ := I.list hl
    obtain ⟨u, hu, r1⟩ := ru.get hx
    refine wpAny_pyNext_enum_item he hi hl'.isList (x := u) (by simpa using hu) hei fun h' ho hit hT hsz kp => ⟨_, rfl, ?_⟩
    refine wpAny_letOwnedTupleGo_enum (s := { s with heap := h', toks := s.toks + 1 }) ho fun h'' he'' sb => ?_
    replace sb : Heap.SameBut e h' h'' := sb
    have fresh : H s.heap.objs.size = none := I.hok.fresh (Nat.le_refl _)
    have kp2 : ∀ a q, a ≠ e → a ≠ it → s.heap.get? a = some q → h''.get? a = some q := fun a q a1 a2 z => sb.extBut _ _ a1 (kp a q a1 a2 z)
    have hTe : s.heap.objs.size ≠ e := Nat.ne_of_gt (Heap.lt_size he)
    have pT : h''.get? s.heap.objs.size = some { cls := .type "tuple", data := .seq #[.int n s.toks, u] } := sb.extBut _ _ hTe hT
    have notin : ∀ a, a ∉ [e, it] → a ≠ e ∧ a ≠ it := fun a ha => by simpa using ha
    have trk : ∀ a q, H a = some q → a ∉ [e, it] := fun a q z ha => by rw [(hf a ha).1] at z; cases z
    have hok : HOk X.prog X.w (upd H s.heap.objs.size (.tup [.int (n : Nat), x])) h'' := fun a q z => by
      by_cases ha : a = s.heap.objs.size
      · subst ha
        rw [upd_same] at z
        cases z
        exact ⟨by show 2 ≤ sizeLine; decide, [.int n s.toks, u], .cons ⟨_, rfl⟩ (.cons r1 .nil), ⟨_, pT, rfl, _, rfl⟩⟩
      · rw [upd_ne ha] at z
        refine (I.hok a q z).stay (fun a' q' h1 h2 => ?_) (fun a' q' => by rw [upd_ne (ne_of_none q' fresh)]; exact q') fun a' xs' q' => by rw [upd_ne (ne_of_none q' fresh)]; exact q'
        have ni : a' ∉ [e, it] := by
          rcases h1 with rfl | h1
          · exact trk _ _ z
          · exact trk _ _ h1
        obtain ⟨n1, n2⟩ := notin a' ni
        exact kp2 a' q' n1 n2 h2
    have J : Inv X pins σ (upd H s.heap.objs.size (.tup [.int (n : Nat), x])) { s with heap := h'', toks := s.toks + 1 } := by
      refine I.step (g' := s.gens) (d' := s.drawn) (t' := s.toks + 1) (ch := [e, it]) (fun a ha => ?_) (fun a q _ _ hc' z _ => ?_) (fun a q _ _ hc' z _ => ?_) (fun a q _ z n2 => ?_) (fun a q hc' z => ?_) (fun a xs' z => ?_) (fun a q u' z => ?_) (fun a ps z => ?_) (fun m' hm'' => ?_) hok I.bare
      · obtain ⟨_, f1, _, f3, f4, f5⟩ := hf a ha
        exact ⟨f3, f1, f4, f5⟩
      · obtain ⟨n1, n2⟩ := notin a hc'
        exact kp2 a q n1 n2 z
      · obtain ⟨n1, n2⟩ := notin a hc'
        exact ⟨q.slots, kp2 a q n1 n2 z⟩
      · rw [upd_ne (Nat.ne_of_lt (Heap.lt_size z))]
        exact n2
      · obtain ⟨n1, n2⟩ := notin a hc'
        exact ⟨q, kp2 a q n1 n2 z⟩
      · rw [upd_ne (ne_of_none z fresh)]
        exact z
      · rw [upd_ne (ne_of_none z fresh)]
        exact z
      · exact ⟨#[], by rw [upd_ne (ne_of_none z fresh), z]; simp⟩
      · obtain ⟨ob, es', ep, e1, r⟩ := hm''
        have f1 : ∀ a' ∈ [e, it], a' ≠ X.env.locals := fun a' ha' => (hf a' ha').2.1
        exact ⟨ob, es', ep, kp2 _ _ (Ne.symm (f1 e (by simp))) (Ne.symm (f1 it (by simp))) e1, r⟩
    have hi2 : h''.IsListIter it l (n + 1) := hit.at fun o z => sb.extBut _ _ (Ne.symm hei) z
    refine ⟨.ref s.heap.objs.size, _, J, rfl, ⟨s.heap.objs.size, x, fresh, rfl, rfl, fun xs' q => ?_⟩, ⟨⟨_, by have := he''; rw [show ((n : Nat) : Int) + 1 = ((n + 1 : Nat) : Int) by omega] at this; exact this⟩, hi2⟩, fun a ha => ?_⟩
    · have e2 := I.row_inj (b := false) (show Sq false X.K H l xs' from q) (show Sq false X.K H l xs from hl)
      rw [e2]
      exact hx
    · have : a ≠ s.heap.objs.size := by
        simp only [List.mem_cons, List.not_mem_nil, or_false] at ha
        rcases ha with rfl | rfl
        · exact Ne.symm hTe
        · obtain ⟨q, z, _⟩ := hi; exact Nat.ne_of_lt (Heap.lt_size z)
      rw [upd_ne this]
      exact (hf a ha).1
  done := by
    intro X hP hw hK hc n pins s σ H E I hf ⟨⟨old, he⟩, hi⟩ hg
    subst hP hw hK
    obtain ⟨xs, hl, hend⟩ := hg
    obtain ⟨us, ru, hl', hzl⟩ := I.list hl
    have e1 := ru.length
    refine wpAny_pyNext_enum_end (I.ok.hd hc) he hi hl'.isList (by simp; omega) fun h' kp => ⟨rfl, ?_⟩
    obtain ⟨f0, f1, f2, f3, f4, f5⟩ := hf it (by simp)
    exact I.turned (t' := s.toks) (fun b o hb z => kp b o hb z) f0 f1 f3 f4 f5
  self := fun _ _ _ _ _ ⟨⟨old, he⟩, _⟩ h => wpAny_pyIter_enum he h
section
variable {X : Cx}
def iEnum (K : PySem.W.Frag) (ta : TA) : TI := fun σ H R => ta σ H fun vs H1 => ∃ l xs, vs = [.ref l] ∧ SqL K H1 l xs ∧ R (Ite K l) H1
theorem pi_enum (K : PySem.W.Frag) {es : List Expr} {kk : Nat} {tpos : Pos} {e1 : Expr} {ta : TA} {p pos : Pos} (hg : Gl X "enumerate") (hm : X.mg "enumerate" = none) (ha : PA X [e1] ta) (hK : X.K = K := by rfl) (hs : starEach [e1] X.env = [(false, eval e1 X.env)] := by rfl) (hs0 : starEach [] X.env = [] := by rfl) :
    PI X (.Tuple es kk tpos) (.Call (.Name "enumerate" p) [e1] [] pos) (iEnum K ta) := by
  subst hK
  intro pins s σ H R I h
  refine Call_ (ld_blt I hg hm boot_enumerate (PyProof.Rows.callWith_type1 (thn (ha pos pins s σ H _ I h) fun us s1 ⟨vs, H1, I1, r1, q1⟩ => ?_) (by rw [hs, hs0]) (by rw [hs0]; rfl)))
  obtain ⟨l, xs, e, hl, q⟩ := q1
  subst e
  obtain ⟨u, rfl, ru⟩ := vals1 r1
  cases ru
  obtain ⟨its, rv, hl', _⟩ := I1.list hl
  refine call_enumerate_list hl'.isList fun h' he hi hz kp => wpAny_pyIter_enum he ?_
  obtain ⟨ol, gl, _⟩ := id hl'.isList
  have ll : l < s1.heap.objs.size := Heap.lt_size gl
  have fr : ∀ n, FpOk X pins H1 (s1.heap.objs.size + n) := fun n => I1.fpOk (Nat.le_add_right _ n) (I1.hok.fresh (Nat.le_add_right _ n))
  refine ⟨s1.heap.objs.size + 1, [s1.heap.objs.size + 1, s1.heap.objs.size], _, _, H1, rfl, I1.kept (t' := s1.toks) kp, turn_enum (Nat.succ_ne_self _) (Nat.ne_of_lt (Nat.lt_succ_of_lt ll)) (Nat.ne_of_lt ll), ⟨⟨_, he⟩, hi⟩, fun a ha => ?_, q⟩
  simp only [List.mem_cons, List.not_mem_nil, or_false] at ha
  rcases ha with rfl | rfl
  · exact fr 1
  · exact fr 0
end
theorem for_enum {K : PySem.W.Frag} {l : Addr} {xs : List V} {g : TG} {tb : TS} {D : Ends} {σ : St} {H : Hp} (Pv : Nat → St → Hp → Prop) (h0 : Pv 0 σ H) (hl : ∀ i σ H, i ≤ xs.length → Pv i σ H → SqL K H l xs)
    (hs : ∀ i x σ H p, xs[i]? = some x → Pv i σ H → H p = none → g (.ref p) σ (upd H p (.tup [.int (i : Nat), x])) fun σ2 H2 => tb { D with nx := Pv (i + 1), ct := Pv (i + 1), bk := D.nx } σ2 H2) (hd : ∀ σ H, Pv xs.length σ H → D.nx σ H) :
    ∃ W : Nat → Nat → St → Hp → Prop, (∃ m, W 0 m σ H) ∧ ∀ i m σ H, W i m σ H →
      ((Ite K l).stop i H ∧ D.nx σ H) ∨ ((Ite K l).go i H ∧ ∃ N : St → Hp → Prop, (∀ σ' H', N σ' H' → ∃ m', m' < m ∧ W (i + 1) m' σ' H') ∧ ∀ x H', (Ite K l).yld i H x H' → g x σ H' fun σ2 H2 => tb { D with nx := N, ct := N, bk := D.nx } σ2 H2) := by
  refine ⟨fun i m σ H => m = xs.length - i ∧ i ≤ xs.length ∧ Pv i σ H, ⟨xs.length, by simp, Nat.zero_le _, h0⟩, ?_⟩
  rintro i m σ H ⟨rfl, hi, p⟩
  have hq := hl i σ H hi p
  by_cases hlt : i < xs.length
  · refine .inr ⟨⟨xs, xs[i], hq, by simp [hlt]⟩, Pv (i + 1), fun σ' H' p' => ⟨xs.length - (i + 1), by omega, rfl, hlt, p'⟩, fun x H' y => ?_⟩
    obtain ⟨a, v, fr, rfl, rfl, k⟩ := y
    exact hs i v σ H a (k xs hq) p fr
  · have e : i = xs.length := by omega
    subst e
    exact .inl ⟨⟨xs, hq, Nat.le_refl _⟩, hd σ H p⟩
end L2
namespace L2
open PySem PySem.Spec PyProof.Rows
structure FnQ (K : PySem.W.Frag) (x qual : Str) (st : Stmt) (f : Addr) (fd : FuncData) : Prop where
  ex : ∃ (oc : Value) (od : Option Addr) (dV kV doc pm : Value) (an : Option Addr) (cdv ct : Value) (osl : Array (Option Value)),
    fd = PySem.W.fnOf x qual (defArgs st) (defBody st) (defScope st) dV kV doc pm an cdv ct ∧ K.lookup f = some ⟨oc, od, .func fd, osl⟩ ∧ PySem.W.codeIn K cdv qual = true
structure DefM (K : PySem.W.Frag) (C : Addr) (m qual : Str) (st : Stmt) (ps : List Str) (dvs : List V) (kb : FuncData → Prop) : Prop where
  ex : ∃ (f : Addr) (fd : FuncData), FnQ K m qual st f fd ∧ Meth K C m f ∧ kb fd ∧ ∀ j, j ≤ dvs.length → ∃ ds, Vals (dvs.drop j) ds ∧ Binds K fd ps ds
structure CalleeM (P : Program) (w : World) (K : PySem.W.Frag) (mg : Str → Option Value) (base : Heap) (k : Nat) (C : Addr) (m : Str) (ps : List Str) (dvs : List V) (kb : FuncData → Prop) (sp : Sp) : Prop where
  ex : ∃ (f : Addr) (fd : FuncData), FnOk P w K mg base CX0 k f fd ps sp ∧ Meth K C m f ∧ kb fd ∧ ∀ j, j ≤ dvs.length → ∃ ds, Vals (dvs.drop j) ds ∧ Binds K fd ps ds
abbrev noKw : FuncData → Prop := fun _ => True
section
variable {P : Program} {w : World} {K : PySem.W.Frag} {mg : Str → Option Value} {base : Heap}
theorem DefM.ok {C : Addr} {m qual : Str} {st : Stmt} {N ps : List Str} {k : Nat} {dvs : List V} {kb : FuncData → Prop} {sp : Sp} (D : DefM K C m qual st ps dvs kb) (S : FnScope N ps (defScope st)) (len : ∀ vs H Q E, sp vs H Q E → vs.length = ps.length)
    (hbody : ∀ (f : Addr) (cdv : Value) (A : Around) (outer : List Env) (s : Shared) (H : Hp) (vs : List V) (Q : VK) (E : XK), Room k (A.deeper (envOfC qual (defScope st) s.heap.objs.size f cdv)) → sp vs H Q E →
      ∃ t, PSs (cxOf CX0 P w K mg base N qual (defScope st) f cdv A outer s H E).nox (defBody st) t ∧ t { nx := fun _ H' => Q .non H', rt := Q } (start N vs) H) : CalleeM P w K mg base (k + 1) C m ps dvs kb sp := by
  obtain ⟨f, fd, ⟨oc, od, dV, kV, doc, pm, an, cdv, ct, osl, rfl, lk, hcd⟩, mt, hkb, b⟩ := D.ex
  refine ⟨f, _, fn_of lk hcd S len fun A outer s H vs Q E hr hsp => ?_, mt, hkb, b⟩
  obtain ⟨t, h, q⟩ := hbody f cdv A outer s H vs Q E hr hsp
  exact ⟨t, h.nox, q⟩
end
section
variable {X : Cx} {k n : Nat} {C : Addr} {ps : List Str} {dvs : List V} {kb : FuncData → Prop} {sp : Sp} {x m : Str} {p pos apos kpos : Pos} {e o : Expr} {es : List Expr} {ta te : TE} {t : TA}
theorem kit_own {K : PySem.W.Frag} {C D : Addr} (hc : PySem.W.isClsIn K D = true) (ht : PySem.W.typeIn K (.ref D) = some (.type "type")) (hs : PySem.W.subIn K (.ref C) (.ref D) = some true) : PySem.W.kitOne K (.ref C) (.ref D) = some true := by
  unfold PySem.W.kitOne
  split
  · rfl
  · show (if ((PySem.W.clsIn K D).isSome && PySem.W.typeIn K (.ref D) == some (.type "type")) = true then PySem.W.subIn K (.ref C) (.ref D) else none) = some true
    rw [if_pos (by rw [show (PySem.W.clsIn K D).isSome = true from hc, ht]; rfl), hs]
end
end L2
namespace L2
open PySem PySem.Spec PyProof.Rows
theorem ObjOk.at_ {P : Program} {w : World} {H : Hp} {h : Heap} {a : Addr} {o : HO} (x : ObjOk P w H h a o) : ∃ u, h.get? a = some u := by
  cases o with
  | lst xs => obtain ⟨_, _, _, _, e⟩ := x; exact ⟨_, e⟩
  | tup xs => obtain ⟨_, _, _, p⟩ := x; exact ⟨_, p.choose_spec.1⟩
  | dK kvs => obtain ⟨_, _, _, _, o, _, _, e, _⟩ := x; exact ⟨_, e⟩
  | dT kvs => obtain ⟨_, _, _, _, o, _, _, e, _⟩ := x; exact ⟨_, e⟩
  | set S n => obtain ⟨o, _, _, _, e, _⟩ := x; exact ⟨_, e⟩
  | ins C dx fs => obtain ⟨_, _, _, e, _⟩ := x; exact ⟨_, e⟩
  | own y => obtain ⟨_, e⟩ := x; exact ⟨_, e⟩
  | xd fs => obtain ⟨_, ⟨_, _, _, e, _⟩, _⟩ := x; exact ⟨_, e⟩
  | rng lo hi => obtain ⟨_, _, _, e⟩ := x; exact ⟨_, e⟩
  | frz ob u => obtain ⟨e, _⟩ := x; exact ⟨_, e⟩
  | tbl ps => exact ⟨_, (show h.get? a = some _ from x)⟩
  | met f y => exact ⟨_, (show h.get? a = some _ from x)⟩
  | ext φ => obtain ⟨_, e, _⟩ := x; exact e
structure Fly (fs : List Addr) (H1 H2 : Hp) (h1 B h2 : Heap) : Prop where
  kp : ∀ b o, h1.get? b = some o → b ∉ fs → (∃ o', B.get? b = some o') ∧ (H1 b = none → B.get? b = some o)
  sl : ∀ b o, h1.get? b = some o → b ∈ fs → ∃ sl, h2.get? b = some { o with slots := sl }
  free : ∀ b o, h1.get? b = some o → H1 b = none → H2 b = none
  tups : ∀ b xs, H1 b = some (.tup xs) → H2 b = some (.tup xs)
  frzs : ∀ b o u, H1 b = some (.frz o u) → H2 b = some (.frz o u)
  tbls : ∀ b ps, H1 b = some (.tbl ps) → ∃ more, H2 b = some (.tbl (ps ++ more))
theorem Fly.un {fs : List Addr} {H1 H2 : Hp} {h1 B h2 : Heap} (f : Fly fs H1 H2 h1 B h2) (st : B.StaysIn h2) : Un fs [] H1 H2 h1 h2 where
  keep := fun b o e n hb _ => st b o ((f.kp b o e hb).2 n)
  slot := fun b o e _ hb _ => f.sl b o e hb
  free := fun b o e n _ => f.free b o e n
  there := fun b o e _ => by
    by_cases hb : b ∈ fs
    · obtain ⟨sl, q⟩ := f.sl b o e hb; exact ⟨_, q⟩
    · obtain ⟨⟨o', q⟩, _⟩ := f.kp b o e hb; exact ⟨o', st _ _ q⟩
  tups := f.tups
  frzs := f.frzs
  tbls := f.tbls
theorem Fly.up {fs : List Addr} {H1 H2 : Hp} {h1 B h2 h3 : Heap} (f : Fly fs H1 H2 h1 B h2) (up : ∀ b ∈ fs, ∀ o, h2.get? b = some o → ∃ sl, h3.get? b = some { o with slots := sl }) : Fly fs H1 H2 h1 B h3 :=
  ⟨f.kp, fun b o e hb => by
    obtain ⟨s1, q1⟩ := f.sl b o e hb
    obtain ⟨s2, q2⟩ := up b hb _ q1
    exact ⟨s2, q2⟩, f.free, f.tups, f.frzs, f.tbls⟩
section
variable {P : Program} {w : World} {K : PySem.W.Frag} {mg : Str → Option Value} {base : Heap} {N : List Str} {qual : Str} {scope : Scope} {f : Addr} {cd : Value} {A : Around} {outer : List Env} {s : Shared} {H : Hp} {E : XK}
theorem frs_cons {env : Env} {L : Addr} {l : List Env} (h : env.frame = some L) : frs (env :: l) = L :: frs l := by unfold frs; rw [List.filterMap_cons, h]
end
end L2
namespace L2
open PySem PySem.Spec PyProof.Rows
def tCallS (sp : Sp) (dvs : List V) (E : St → XK) (t : TA) : TE := fun σ H Q => t σ H fun vs H1 => sp (vs ++ dvs) H1 Q (E σ)
def vErr : List Value := [.type "ValueError", .type "Exception", .type "BaseException", .type "object"]
end L2
namespace L2
open PySem PySem.Spec PyProof.Rows
abbrev Cx.pinned (X : Cx) (pn : List (Addr × Obj)) : Cx := { X with pn := pn }
abbrev hcx (X : Cx) (ea : Addr) : Cx := { X with A := X.A.mark (some (.ref ea)), calm := false, xe := fun _ _ => False }
section
variable {X : Cx} {pins : List (Addr × Obj)} {σ : St} {H : Hp} {s : Shared}
theorem Inv.toPinned (I : Inv X pins σ H s) : Inv (X.pinned (X.pn ++ pins)) [] σ H s :=
  ⟨⟨I.ok.mod, I.ok.kind, I.ok.glob, I.ok.blt, I.ok.above, I.ok.inj, I.ok.has, I.ok.cab, I.ok.hd, I.ok.frames, I.ok.stk, I.ok.exf, I.ok.bs, I.ok.bsz, I.ok.noex, I.ok.exfs, I.ok.funs, I.ok.frf⟩, I.os, I.bare, I.base, I.loc, I.cell, I.free, I.freeC, fun p hp => I.pin p (by rw [List.append_nil] at hp; exact hp), I.hok, I.len⟩
theorem Inv.ofPinned {ps : List (Addr × Obj)} (I : Inv (X.pinned (X.pn ++ pins)) ps σ H s) : Inv X pins σ H s :=
  ⟨⟨I.ok.mod, I.ok.kind, I.ok.glob, I.ok.blt, I.ok.above, I.ok.inj, I.ok.has, I.ok.cab, I.ok.hd, I.ok.frames, I.ok.stk, I.ok.exf, I.ok.bs, I.ok.bsz, I.ok.noex, I.ok.exfs, I.ok.funs, I.ok.frf⟩, I.os, I.bare, I.base, I.loc, I.cell, I.free, I.freeC, fun p hp => I.pin p (List.mem_append_left _ hp), I.hok, I.len⟩
theorem Inv.toH (I : Inv X pins σ H s) (ea : Addr) : Inv (hcx X ea) pins σ H s :=
  ⟨⟨I.ok.mod, I.ok.kind, I.ok.glob, I.ok.blt, I.ok.above, I.ok.inj, I.ok.has, I.ok.cab, (fun z => nomatch z), I.ok.frames, I.ok.stk, I.ok.exf, I.ok.bs, I.ok.bsz, I.ok.noex, I.ok.exfs, I.ok.funs, I.ok.frf⟩, I.os, I.bare, I.base, I.loc, I.cell, I.free, I.freeC, I.pin, I.hok, I.len⟩
theorem Inv.ofH {ea : Addr} (ok : X.Ok) (I : Inv (hcx X ea) pins σ H s) : Inv X pins σ H s :=
  ⟨ok, I.os, I.bare, I.base, I.loc, I.cell, I.free, I.freeC, I.pin, I.hok, I.len⟩
theorem goes_ok {M : Model} {A : Around} {E : Value → Shared → Prop} {i : Nat} {n : Str} {pos : Pos} {Q : Unit → Shared → Prop} (I : Inv X pins σ H s) (hN : X.N.Nodup) (hi : X.N[i]? = some n) (hl : X.env.scope.names.lookup n = some .local)
    (h : ∀ s', Inv X pins (σ.set i none) H s' → Q () s') : wpAny M A (do bindName X.env n .none; unbindBehindTheSuite X.env n pos) Q E s := by
  obtain ⟨m, hn, hlm⟩ := id I.loc
  have hcls : (X.env.scope.kind == .class || (X.env.scope.kind == .module && X.env.locals != X.env.globals)) = false := by rw [I.ok.kind]; rfl
  have cne := I.cne
  obtain ⟨oL, _, _, hoL, _⟩ := id hn
  have iσ : i < σ.length := by rw [I.len]; exact (List.getElem?_eq_some_iff.mp hi).1
  refine wpAny_nameGoes_keeps hl hn hcls fun h' v hn' hs => ?_
  refine h _ ⟨I.ok, I.os, I.bare, ⟨fun b o e n hb hx => ?_, fun b o e n hb hx => ?_, I.base.free, fun b o e hx => ?_, I.base.tups, I.base.frzs, I.base.tbls⟩, ⟨_, hn', fun j y v' e1 e2 e3 => ?_⟩, fun y c e => ?_, I.free, I.freeC, fun p hp => ?_, fun b ob e => ?_, by simpa using I.len⟩
  · exact (hs.2 b (Nat.ne_of_lt (Nat.lt_of_lt_of_le (Heap.lt_size e) I.ok.above))).trans (I.base.keep b o e n hb hx)
  · obtain ⟨sl, e1⟩ := I.base.slot b o e n hb hx
    exact ⟨sl, (hs.2 b (Nat.ne_of_lt (Nat.lt_of_lt_of_le (Heap.lt_size e) I.ok.above))).trans e1⟩
  · obtain ⟨o', e1⟩ := I.base.there b o e hx
    exact ⟨o', (hs.2 b (Nat.ne_of_lt (Nat.lt_of_lt_of_le (Heap.lt_size e) I.ok.above))).trans e1⟩
  · by_cases hj : j = i
    · subst hj
      rw [List.getElem?_set_self iσ] at e2
      cases e2
    · rw [List.getElem?_set_ne (Ne.symm hj)] at e2
      obtain ⟨u', r', q⟩ := hlm j y v' e1 e2 e3
      refine ⟨u', r', ?_⟩
      rcases q with ⟨k, e⟩ | ⟨k, c, e, z⟩
      · refine .inl ⟨k, ?_⟩
        have : y ≠ n := fun e => hj (nodup_ix hN e1 (e ▸ hi))
        simp [this, e]
      · exact .inr ⟨k, c, e, z.sameBut hs (cne y c e)⟩
  · obtain ⟨w', z⟩ := I.cell y c e
    exact ⟨w', z.sameBut hs (cne y c e)⟩
  · obtain ⟨e, n, ne, nf, d⟩ := I.pin p hp
    exact ⟨(hs.2 p.1 ne).trans e, n, ne, nf, d⟩
  · refine (I.hok b ob e).stay (fun c w' hc q => (hs.2 c ?_).trans q) (fun _ q => q) fun _ _ q => q
    rintro rfl
    have fr := I.free
    rcases hc with rfl | hc
    · rw [fr] at e; cases e
    · rw [fr] at hc; cases hc
end
section
variable {X : Cx}
def Ends.gone (D : Ends) (i : Nat) : Ends := { nx := fun σ H => D.nx (σ.set i none) H, rt := D.rt, bk := fun σ H => D.bk (σ.set i none) H, ct := fun σ H => D.ct (σ.set i none) H }
end
end L2
namespace L2
open PySem PySem.Spec PyProof.Rows
open PySem.W (Looks)
open PySem.Builtin PySem.Builtin.ObjectAttr PySem.Builtin.Getset_descriptor
structure ExcX (K : PySem.W.Frag) (C : Addr) : Prop where
  ga : PySem.W.findIn K (.ref C) "__getattribute__" = some (some (.builtin "BaseException.__getattribute__"))
  gn : PySem.W.findIn K (.ref C) "__getattr__" = some none
  cl : PySem.W.findIn K (.ref C) "__class__" = some (some (.builtin "object.__class__"))
  gt : PySem.W.specialIn K (.builtin "object.__class__") "__get__" = some (some (.builtin "getset_descriptor.__get__"))
  tk : PySem.W.takesIn K (.builtin "object.__class__") = some true
  mo : PySem.W.mroIn K C (.type "object") = some true
  mb : PySem.W.mroIn K C (.type "BaseException") = some true
  cs : (PySem.W.clsIn K C).isSome = true
section
variable {prog : Program} {w : World} {A : Around} {E : Value → Shared → Prop} {s : Shared} {K : PySem.W.Frag} {x C : Addr}
theorem exc_find {M : Model} {h : Heap} (X : K.In h) (Z : ExcX K C) : Looks M h (find (.ref x) (.ref C) "__class__") (.bind (.builtin "getset_descriptor.__get__") (.builtin "object.__class__")) := by
  have L1 := PySem.W.looks_findIn (M := M) X Z.cl
  have L2 : Looks M h (getOf (some (.builtin "object.__class__"))) (some (.builtin "getset_descriptor.__get__")) := PySem.W.looks_specialIn X Z.gt
  have L3 := PySem.W.looks_takesIn (M := M) X Z.tk
  exact L1.andThen (L2.andThen ((show Looks M h (dataDescriptor? (some (.builtin "object.__class__")) (some (.builtin "getset_descriptor.__get__"))) (some (.builtin "getset_descriptor.__get__", .builtin "object.__class__")) from L3.andThen .now).andThen (Looks.tag .now)))
theorem exc_get {R : Result → Shared → Prop} {tp : Value} {o : Obj} (X : K.In s.heap) (Z : ExcX K C) (ho : s.heap.get? x = some o) (hc : o.cls = .ref C) (h : R (.ok (.ret (.ref C))) s) :
    codeAny (model prog w) A (.call (.builtin "getset_descriptor.__get__") ⟨[.builtin "object.__class__", .ref x, tp], []⟩) R s := by
  obtain ⟨hh, g, dr, t, os⟩ := s
  have L0 : Looks (model prog w) hh (typeOf (.ref x)) (.ref C) := hc ▸ (Looks.ld ho).andThen .now
  have L1 := PySem.W.looks_mroIn (M := model prog w) X Z.mo
  refine codeAny_call_builtin PySem.W.KF.slot_gs.plain PySem.W.KF.entry_gs (PySem.W.KF.slot_gs.check _ _ _ _ _ _ _ _ PySem.W.KF.type_class (PySem.W.KF.args_gs _ _ _) ?_)
  unfold Builtin.«getset_descriptor.__get__» descrGet
  rw [PySem.W.dga_obj]
  refine wpAny_bind (wpAny_pure ?_)
  unfold descrGetter descrCheckInstance descrNameAndClass isInstance
  simp only [PySem.W.KF.owner_class]
  repeat lk
  refine ⟨Code.quiet_builtin _ (by decide +kernel), codeAny_builtin PySem.W.KF.entry_class ?_⟩
  unfold Builtin.«object.__class__» shownTypeOf
  repeat lk
  exact h
theorem exc_class {Q : Option Value → Shared → Prop} {o : Obj} (X : K.In s.heap) (Z : ExcX K C) (ho : s.heap.get? x = some o) (hc : o.cls = .ref C) (h : Q (some (.ref C)) { s with toks := s.toks + 1 }) :
    wpAny (model prog w) A (getAttr? (.ref x) "__class__") Q E s := by
  obtain ⟨hh, g, dr, t, os⟩ := s
  have L0 : Looks (model prog w) hh (typeOf (.ref x)) (.ref C) := hc ▸ (Looks.ld ho).andThen .now
  have L1 := PySem.W.looks_findIn (M := model prog w) X Z.ga
  have L2 := PySem.W.looks_findIn (M := model prog w) X Z.gn
  have L3 := exc_find (M := model prog w) (x := x) X Z
  have L4 := PySem.W.looks_mroIn (M := model prog w) X Z.mb
  have f3 := PySem.F.attr_ValueError.ga.bind (.ref x)
  have hk : builtinKind "BaseException.__getattribute__" = some .slot := by decide +kernel
  have hsplit : splitId "BaseException.__getattribute__" = some ("BaseException", "__getattribute__") := by decide +kernel
  unfold getAttr? getAttrBy? getAttrBy
  refine wpAny_bind (wpAny_mkText (wpAny_bind (wpAny_attempt (wpAny_holding (wpAny_bind (L0.at (wpAny_bind (L1.at ?_))))))))
  show wpAny _ _ (getAttrByItsOwn _ _ _ _ _ _) _ _ _
  unfold getAttrByItsOwn
  refine wpAny_bind ?_
  show wpAny _ _ (typeLookup _ _) _ _ _
  refine L2.at ?_
  refine wpAny_bind (wpAny_attempt (wpAny_holding ?_))
  show wpAny _ _ (boundAndCalled _ _ _) _ _ _
  unfold boundAndCalled
  refine wpAny_bind ?_
  rw [f3]
  refine wpAny_pure ?_
  refine wpAny_call (codeAny_call_builtin PySem.F.attr_ValueError.ga.plain PySem.F.entry_bexc_ga ?_)
  have ha := PySem.F.args_bexc_ga (.ref x) (.str "__class__" t)
  simp only [checkBuiltinCall, hk, hsplit]
  refine wpAny_bind ?_
  unfold isInstance
  refine wpAny_bind (L0.at (L4.at ?_))
  simp only [Bool.not_true, Bool.false_eq_true, if_false]
  repeat (any_goals (first | assumption | wp_step))
  rw [hc]
  have La := PySem.W.looks_findIn (M := model prog w) X Z.cl
  have Lb : Looks (model prog w) hh (getOf (some (.builtin "object.__class__"))) (some (.builtin "getset_descriptor.__get__")) := PySem.W.looks_specialIn X Z.gt
  have Lc : Looks (model prog w) hh (dataDescriptor? (some (.builtin "object.__class__")) (some (.builtin "getset_descriptor.__get__"))) (some (.builtin "getset_descriptor.__get__", .builtin "object.__class__")) := (PySem.W.looks_takesIn (M := model prog w) X Z.tk).andThen .now
  refine La.at (wpAny_bind (Lb.at (wpAny_bind (Lc.at (wpAny_bind (wpAny_rule (wpAny_pure ?_)))))))
  unfold bindTo
  refine wpAny_bind (wpAny_holding (wpAny_call (exc_get (s := ⟨hh, g, dr, t + 1, os⟩) X Z ho hc ?_)))
  show wpAny _ _ (ret (.ref C)) _ _ _
  refine wpAny_pure ?_
  show wpAny _ _ (handedOut (.ref C)) _ _ _
  exact PySem.W.handed_on rfl (wpAny_pure h)
theorem kitx_exc (Z : ExcX K C) : PySem.W.KitX K (.ref x) (.ref C) (fun h => ∃ o, h.get? x = some o ∧ o.cls = .ref C) where
  ty := fun _ _ _ ⟨o, ho, hc⟩ => hc ▸ (Looks.ld ho).andThen .now
  it := fun _ _ X _ => by
    have z0 := Z.cs
    unfold PySem.W.clsIn at z0
    split at z0
    · rename_i c' d' cd' sl' ho
      intro A' Q' E' s' k q
      unfold isType loadHead
      exact wpAny_bind (wpAny_loadPart (k _ _ (X _ _ ho)) (wpAny_pure q))
    · cases z0
  ne := fun h tp dd its n sl X htp => by
    have z0 := Z.cs
    refine Bool.eq_false_iff.mpr fun q => ?_
    have e : C = tp := Value.ref.inj (beq_iff_eq.mp q)
    subst e
    unfold PySem.W.clsIn at z0
    split at z0
    · rename_i c' d' cd' sl' ho
      have z := (X _ _ ho).symm.trans htp
      cases z
    · cases z0
  ca := fun X ⟨o, ho, hc⟩ k => exc_class X Z ho hc k
end
end L2
namespace L2
open PySem PySem.Spec PyProof.Rows PySem.SeqAt
section
variable {K : PySem.W.Frag} {C D : Addr}
theorem kit_not (hc : PySem.W.isClsIn K D = true) (ht : PySem.W.typeIn K (.ref D) = some (.type "type")) (hs : PySem.W.subIn K (.ref C) (.ref D) = some false) (h1 : PySem.W.subIn K (.ref C) (.ref C) = some true) : PySem.W.kitOne K (.ref C) (.ref D) = some false := by
  unfold PySem.W.kitOne
  split
  · rename_i z
    have e : C = D := Value.ref.inj (beq_iff_eq.mp z)
    rw [← e, h1] at hs
    cases hs
  · show (if ((PySem.W.clsIn K D).isSome && PySem.W.typeIn K (.ref D) == some (.type "type")) = true then PySem.W.subIn K (.ref C) (.ref D) else none) = some false
    rw [if_pos (by rw [show (PySem.W.clsIn K D).isSome = true from hc, ht]; rfl), hs]
theorem kit_val (hs : PySem.W.subIn K (.ref C) (.type "ValueError") = some true) : PySem.W.kitOne K (.ref C) (.type "ValueError") = some true := by
  unfold PySem.W.kitOne
  split
  · rfl
  · show (if PySem.W.kitMeta "ValueError" = true then PySem.W.subIn K (.ref C) (.type "ValueError") else none) = some true
    rw [if_pos (by decide +kernel), hs]
theorem exm_own (hc : PySem.W.isClsIn K D = true) (ht : PySem.W.typeIn K (.ref D) = some (.type "type")) (hs : PySem.W.subIn K (.ref C) (.ref D) = some true) (hb : PySem.W.subIn K (.ref D) (.type "BaseException") = some true) : PySem.W.exmOne K (.ref C) (.ref D) = some true := by
  unfold PySem.W.exmOne
  rw [if_pos (by rw [hb]; rfl)]
  show (if ((PySem.W.clsIn K D).isSome && PySem.W.typeIn K (.ref D) == some (.type "type")) = true then PySem.W.subIn K (.ref C) (.ref D) else none) = some true
  rw [if_pos (by rw [show (PySem.W.clsIn K D).isSome = true from hc, ht]; rfl), hs]
end
theorem boot_ValueError : bootBuiltins "ValueError" = some (.type "ValueError") := by first | rfl | decide +kernel
end L2
namespace L2
open PySem
def DictIs (h : Heap) (e : Addr) (od : Option Addr) : Prop := ∃ o, h.get? e = some o ∧ o.dict = od
theorem dict_fields (f : Array Value → Array Value) (o : Obj) : (Obj.mapFields f o).dict = o.dict := by
  obtain ⟨c, d, dt, sl⟩ := o
  cases dt <;> rfl
section
variable {M : Model} {A : Around} {E : Value → Shared → Prop} {s : Shared} {B : Heap} {env : Env} {up : List Env} {L x : Addr} {k : Value} {a0 : Value} {od : Option Addr} {Q : Unit → Shared → Prop}
abbrev tbOf (hd : Value) (L : Addr) (pl : List Value) : Obj := { cls := .type "traceback", dict := none, data := .fields ([hd, .ref L, .none, rawInt L, .none] ++ (if pl.isEmpty then List.replicate 6 Value.none else pl)).toArray }
theorem note_entry {ob : Obj} {fs : Array Value} {hd : Value} {hn : Bool} (a1 : A.frames = some (env :: up)) (a2 : s.heap.FunFrames B (env :: up)) (a3 : env.frame = some L) (b1 : s.heap.get? x = some ob) (b2 : B.StaysIn s.heap) (b3 : B.get? x = none)
    (b4 : ob.data = .fields fs) (b5 : 1 < fs.size) (b6 : fs[0]? = some a0) (q : ∀ g, Heap.NotedW B (env :: up) x ob.cls a0 (rawInt L) s.heap g → DictIs g x ob.dict → Q () { s with heap := g }) :
    wpAny M A (do let a ← frameOf env; let pl ← entryPlaceOf L hn; let b ← EntryCells.newEntry hd a .none (rawInt L) .none pl; setField (.ref x) 1 b) Q E s := by
  have out : x ∉ (env :: up).filterMap (·.frame) := fun m => by
    obtain ⟨_, o, e1, e2⟩ := a2.mem m
    rw [b1] at e1
    cases e1
    exact e2 fs b4
  refine wpAny_bind (wpAny_frameOf_fun a1 a2 a3 fun g1 k1 => wpAny_bind (wpAny_entryPlaceOf fun pl hpl => ?_))
  unfold EntryCells.newEntry newFields
  refine wpAny_bind (wpAny_newObj_type ?_ (hpl.sizeOk5 _ _ _ _ _))
  have x1 : g1.get? x = some ob := (k1.2.1 x out).trans b1
  have st1 : B.StaysIn g1 := fun b o e => (k1.2.1 b fun m => by rw [(a2.mem m).1] at e; cases e).trans (b2 b o e)
  have x2 := Heap.get?_push_of_some (h := g1) (tbOf hd L pl) x1
  refine wpAny_setField x2 b4 b5 ?_
  have nT : g1.objs.size ≠ x := Nat.ne_of_gt (Heap.lt_size x1)
  have d3 := Obj.data_mapFields b4 (·.setIfInBounds 1 (Value.ref g1.objs.size))
  have x3 := Heap.get?_update_self (Obj.mapFields (·.setIfInBounds 1 (Value.ref g1.objs.size))) x2 (Obj.isFreed_of_fields d3)
  have t3 := (Heap.get?_update_other (g1.push (tbOf hd L pl)) (Obj.mapFields (·.setIfInBounds 1 (Value.ref g1.objs.size))) (Ne.symm nT)).trans (Heap.get?_push_size g1 rfl)
  have kp : ∀ b o, b ≠ x → g1.get? b = some o → ((g1.push (tbOf hd L pl)).update x (Obj.mapFields (·.setIfInBounds 1 (Value.ref g1.objs.size)))).get? b = some o := fun b o n e => by
    rw [Heap.get?_update_other _ _ (Ne.symm n)]
    exact Heap.get?_push_of_some _ e
  have no : ∀ b o, s.heap.get? b = some o → (∀ vs, o.data ≠ .fields vs) → b ≠ x := fun b o e n z => by
    rw [z, b1] at e
    cases e
    exact n fs b4
  refine q _ ⟨fun b o e => kp b o (fun z => by rw [z, b3] at e; cases e) (st1 b o e), a2.of_keeps fun b o e n => ?_, ?_, fun b o e n => ?_⟩ ⟨_, x3, dict_fields _ _⟩
  · obtain ⟨sl, z⟩ := k1.2.2 b o e
    exact ⟨_, kp b _ (no b o e n) z, rfl⟩
  · refine ⟨_, _, g1.objs.size, _, _, x3, ⟨Obj.cls_mapFields _ _, ?_⟩, d3, by simp [b5], st1.fresh, nT, t3, rfl, ?_⟩
    · rw [Array.getElem?_setIfInBounds_ne (by decide)]
      exact b6
    · first | (simp; done) | (rcases hpl with rfl | ⟨_, _, _, _, _, _, _, rfl⟩ <;> simp)
  · obtain ⟨sl, z⟩ := k1.2.2 b o e
    exact ⟨sl, kp b _ (no b o e n) z⟩
theorem note_next (a1 : A.frames = some (env :: up)) (a2 : s.heap.FunFrames B (env :: up)) (a3 : env.frame = some L) (tr : s.heap.TracedW B x k a0) (dx : DictIs s.heap x od) (b2 : B.StaysIn s.heap) (b3 : B.get? x = none)
    (q : ∀ g, Heap.NotedW B (env :: up) x k a0 (rawInt L) s.heap g → DictIs g x od → Q () { s with heap := g }) : wpAny M A (noteFrame (.ref x) env) Q E s := by
  obtain ⟨ob, fs, T, oT, ts, e1, ⟨e2, e3⟩, e4, e5, e6, e7, e8, e9, e10⟩ := tr
  subst e2
  obtain ⟨o2, f1, f2⟩ := dx
  rw [e1] at f1
  cases f1
  subst f2
  unfold noteFrame
  simp only [a3]
  refine wpAny_bind (wpAny_field e1 e4 e5 ?_)
  rw [if_pos (show (Value.ref T != Value.none) = true by simp)]
  refine wpAny_bind (wpAny_field e8 e9 e10 ?_)
  rw [if_neg (show ¬ (Value.none == rawInt L) = true by simp [rawInt])]
  refine wpAny_bind (wpAny_setField e8 e9 (Array.getElem?_eq_some_iff.mp e10).1 ?_)
  have oth : ∀ b, b ≠ T → (s.heap.update T (Obj.mapFields (·.setIfInBounds 3 Value.none))).get? b = s.heap.get? b := fun b n => Heap.get?_update_other _ _ (Ne.symm n)
  have no : ∀ b o, s.heap.get? b = some o → (∀ vs, o.data ≠ .fields vs) → b ≠ T := fun b o e n z => by
    rw [z, e8] at e
    cases e
    exact n ts e9
  refine note_entry a1 (a2.of_keeps fun b o e n => ⟨o, (oth b (no b o e n)).trans e, rfl⟩) a3 ((oth x (Ne.symm e7)).trans e1) (fun b o e => (oth b fun z => by rw [z, e6] at e; cases e).trans (b2 b o e)) b3 e4 (Array.getElem?_eq_some_iff.mp e5).1 e3 fun g z dz => ?_
  obtain ⟨z1, z2, z3, z4⟩ := z
  exact q g ⟨z1, z2, z3, fun b o e n => z4 b o ((oth b (no b o e n)).trans e) n⟩ dz
theorem flight_none {l : List Env} {fl : Value} (b2 : B.StaysIn s.heap) (a2 : s.heap.FunFrames B l) (tr : s.heap.TracedAtW B x k a0 fl) (dx : DictIs s.heap x od)
    (q : ∀ g, B.StaysIn g → g.FunFrames B l → g.TracedW B x k a0 → s.heap.UpToSlots g → DictIs g x od → Q () { s with heap := g }) : wpAny M A (setFlight (.ref x) none) Q E s := by
  obtain ⟨ob, fs, T, oT, ts, e1, e2, e4, e5, e6, e7, e8, e9, e10⟩ := tr
  obtain ⟨o2, f1, f2⟩ := dx
  have l3 : 3 < ts.size := (Array.getElem?_eq_some_iff.mp e10).1
  have oth : ∀ b, b ≠ T → (s.heap.update T (Obj.mapFields (·.setIfInBounds 3 ((none : Option Addr).elim Value.none fun f => rawInt f)))).get? b = s.heap.get? b := fun b n => Heap.get?_update_other _ _ (Ne.symm n)
  have no : ∀ b o, s.heap.get? b = some o → (∀ vs, o.data ≠ .fields vs) → b ≠ T := fun b o e n z => by
    rw [z, e8] at e
    cases e
    exact n ts e9
  unfold setFlight
  refine wpAny_bind (wpAny_field e1 e4 e5 ?_)
  rw [if_pos (show (Value.ref T != Value.none) = true by simp)]
  refine wpAny_setField e8 e9 l3 (q _ (fun b o e => (oth b fun z => by rw [z, e6] at e; cases e).trans (b2 b o e)) (a2.of_keeps fun b o e n => ⟨o, (oth b (no b o e n)).trans e, rfl⟩) ?_ (fun b o e n => ⟨o.slots, (oth b (no b o e n)).trans e⟩) ⟨o2, (oth x (Ne.symm e7)).trans f1, f2⟩)
  exact ⟨ob, fs, T, _, _, (oth x (Ne.symm e7)).trans e1, e2, e4, e5, e6, e7, Heap.get?_update_self _ e8 (Obj.isFreed_of_fields (Obj.data_mapFields e9 _)), Obj.data_mapFields e9 _, by simp [l3]⟩
theorem looks_onD (a1 : A.frames = some (env :: up)) (a3 : env.frame = some L) (fl : Heap.FlyingW B (env :: up) x k a0 s.heap) (dx : DictIs s.heap x od)
    (q : ∀ g, Heap.HeldW B (env :: up) x k a0 L g → s.heap.UpToSlots g → DictIs g x od → Q () { s with heap := g }) : wpAny M A (noteFrame (.ref x) env) Q E s := by
  obtain ⟨f1, f2, f3, f4⟩ := fl
  refine note_next a1 f3 a3 f4 dx f1 f2 fun g1 z1 d1 => ?_
  obtain ⟨z1, z2, z3, z4⟩ := z1
  exact q g1 ⟨z1, f2, z2, z3⟩ z4 d1
theorem landsD {l : List Env} (hh : Heap.HeldW B l x k a0 L s.heap) (dx : DictIs s.heap x od) (q : ∀ g, Heap.FlyingW B l x k a0 g → s.heap.UpToSlots g → DictIs g x od → Q () { s with heap := g }) : wpAny M A (setFlight (.ref x) none) Q E s := by
  obtain ⟨f1, f2, f3, f4⟩ := hh
  exact flight_none f1 f3 f4 dx fun g y1 y2 y3 y4 d => q g ⟨y1, f2, y2, y3⟩ y4 d
theorem lands_againD {l : List Env} (hh : Heap.FlyingW B l x k a0 s.heap) (dx : DictIs s.heap x od) (q : ∀ g, Heap.FlyingW B l x k a0 g → s.heap.UpToSlots g → DictIs g x od → Q () { s with heap := g }) : wpAny M A (setFlight (.ref x) none) Q E s := by
  obtain ⟨f1, f2, f3, f4⟩ := hh
  exact flight_none f1 f3 f4.at dx fun g y1 y2 y3 y4 d => q g ⟨y1, f2, y2, y3⟩ y4 d
theorem leaves_firstD {ob : Obj} {fs : Array Value} (a1 : A.frames = some (env :: up)) (a2 : s.heap.FunFrames B (env :: up)) (a3 : env.frame = some L) (b1 : s.heap.get? x = some ob) (b2 : B.StaysIn s.heap) (b3 : B.get? x = none)
    (b4 : ob.data = .fields fs) (b5 : fs[1]? = some .none) (b6 : fs[0]? = some a0) (q : ∀ g, Heap.FlyingW B up x ob.cls a0 g → s.heap.UpToSlots g → DictIs g x ob.dict → Q () { s with heap := g }) : wpAny M A (leaving env (.ref x)) Q E s := by
  unfold leaving noteFrame
  simp only [a3]
  refine wpAny_bind (wpAny_bind (wpAny_field b1 b4 b5 ?_))
  rw [if_neg (by decide)]
  refine note_entry a1 a2 a3 b1 b2 b3 b4 (Array.getElem?_eq_some_iff.mp b5).1 b6 fun g1 z1 d1 => ?_
  obtain ⟨z1, z2, z3, z4⟩ := z1
  refine flight_none (s := { s with heap := g1 }) z1 z2 z3 d1 fun g2 y1 y2 y3 y4 d2 => ?_
  obtain ⟨_, _, y2'⟩ := y2
  exact q g2 ⟨y1, b3, y2', y3⟩ (Heap.UpToSlots.trans (fun b o e n => z4 b o e n) y4) d2
end
end L2
namespace L2
open PySem PySem.Spec PyProof.Rows
def refsThen : List Value → Bool
  | .ref _ :: r => refsThen r
  | l => l == vErr
def excInI (K : PySem.W.Frag) (C fI : Addr) : Bool := match K.lookup C with
  | some ⟨.type "type", _, .cls cd, sl⟩ => (match cd.mro, sl.toList with
    | .ref C' :: bm, [_, _, _, _, some (.builtin n), _] => C' == C && n == "ValueError.__new__" && !cd.hasDel && cd.hasDict && PySem.W.tailIn K vErr bm && PySem.W.nsOkIn K cd.ns && PySem.W.nsIn K cd.ns "__init__" == some (some (.ref fI)) && refsThen bm
    | _, _ => false)
  | _ => false
theorem ns_some {K : PySem.W.Frag} {h : Heap} {N : Addr} {m : Str → Option Value} {n : Str} {v : Value} (X : K.In h) (G : h.Ns N m) (e : PySem.W.nsIn K N n = some (some v)) : m n = some v := by
  obtain ⟨o, es, ep, ho, hd, _, hf⟩ := G
  unfold PySem.W.nsIn at e
  split at e
  · rename_i c d es' n' sl q
    have z := X _ _ q
    rw [ho] at z
    cases z
    cases hd
    split at e
    · rename_i en he
      cases e
      rw [← hf]
      unfold nsFind findBy
      rw [← Array.find?_toList, he]
      rfl
    · split at e <;> cases e
  · cases e
structure ClsI (C fI : Addr) (h : Heap) : Prop where
  obj : ∃ bm N nm q bs sn sub ab col dd k0 k1 k2 k3 k5 mN, h.get? C = some (excClassObj nm q C N bs bm true sn sub ab col dd k0 k1 k2 k3 k5 "ValueError.__new__") ∧ h.Ns N mN ∧ mN "__init__" = some (.ref fI) ∧ OwnTail h vErr bm ∧ refsThen bm = true
theorem clsI_of {K : PySem.W.Frag} {C fI : Addr} {h : Heap} (X : K.In h) (q : excInI K C fI = true) : ClsI C fI h := by
  unfold excInI at q
  split at q
  · rename_i dd cd sl ho
    split at q
    · rename_i C' bm k0 k1 k2 k3 n k5 hm hs
      simp only [Bool.and_eq_true, beq_iff_eq, Bool.not_eq_true'] at q
      obtain ⟨⟨⟨⟨⟨⟨⟨rfl, rfl⟩, hdel⟩, hdc⟩, ht⟩, hok⟩, hni⟩, hrf⟩ := q
      obtain ⟨nm, bs, mro, ns, qn, hd, sn, sub, ab, col, del⟩ := cd
      dsimp only at hm hdel hdc hok hni
      subst hm hdel hdc
      have hsl : sl = #[k0, k1, k2, k3, some (.builtin "ValueError.__new__"), k5] := by
        obtain ⟨l⟩ := sl
        simp only at hs
        rw [hs]
      subst hsl
      have N1 : h.Ns ns _ := .of_isNs (PySem.W.isNs_of_in X hok)
      exact ⟨bm, ns, nm, qn, bs, sn, sub, ab, col, dd, k0, k1, k2, k3, k5, _, X _ _ ho, N1, ns_some X N1 hni, PySem.W.tail_of_in X ht, hrf⟩
    · cases q
  · cases q
end L2
namespace L2
open PySem
abbrev excObj (C t : Addr) (od : Option Addr) : Obj := { cls := .ref C, dict := od, data := .fields #[.ref t, .none, .none, .none, .bool false, .none] }
section
variable {prog : Program} {w : World} {A : Around} {E : Value → Shared → Prop} {h : Heap} {g : Array GenState} {d : Drawn} {t : Nat} {os : OsState}
variable {nm q : Str} {C N fI : Addr} {bs bm : List Value} {hdct : Bool} {sn : List Str} {sub : List Value} {ab : Bool} {col : Option Bool} {dd : Option Addr} {k0 k1 k2 k3 k5 : Option Value}
set_option maxHeartbeats 4000000 in
theorem tcall_init (T : OwnTail h vErr bm) {mN : Str → Option Value} {rest : List Value} {oI : Obj} {Q : Fin → Shared → Prop}
    (hC : h.get? C = some (excClassObj nm q C N bs bm hdct sn sub ab col dd k0 k1 k2 k3 k5 "ValueError.__new__")) (hn : h.Ns N mN) (hi : mN "__init__" = some (.ref fI)) (hfI : h.get? fI = some oI) (hfc : oI.cls = .type "function")
    (hq : ∀ h' e, (∀ b o, h.get? b = some o → h'.get? b = some o) → h.objs.size ≤ e → (∃ tt, h'.get? e = some (excObj C tt none)) →
      wpAny (model prog w) A (call (.ref fI) (.ref e :: rest)) (fun r s' => r = .none ∧ Q (.done (.ret (.ref e))) s') E ⟨h', g, d, t, os⟩) (hrest : rest.length ≤ sizeLine) :
    wpAny (model prog w) A (Builtin.«type.__call__» ⟨.ref C :: rest, []⟩) Q E ⟨h, g, d, t, os⟩ := by
  have F := PySem.F.excBase_ValueError
  repeat (first | with_reducible refine wpAny_loadPart_at hC ?_ | with_reducible refine wpAny_madeBy_exc hC ?_ | wp_step)
  refine codeAny_call_builtin_code (Code.quiet_builtin _ F.quiet) (wpAny_check_new_subT F T hC ?_)
  refine codeAny_exc_new_subT F T hC ?_ hrest
  show wpAny _ _ _ _ _ _
  let tp : Obj := { cls := .type "tuple", data := .seq rest.toArray }
  let eo : Obj := { cls := .ref C, data := .fields #[.ref h.objs.size, .none, .none, .none, .bool false, .none] }
  have kp : ∀ b o, h.get? b = some o → ((h.push tp).push eo).get? b = some o := fun b o z => Heap.get?_push_of_some _ (Heap.get?_push_of_some _ z)
  have C1 := kp _ _ hC
  have I1 := kp _ _ hfI
  have N1 : ((h.push tp).push eo).Ns N mN := let ⟨o, es, ep, z, r⟩ := hn; ⟨o, es, ep, kp _ _ z, r⟩
  have G1 : ((h.push tp).push eo).get? (h.objs.size + 1) = some eo := by
    show ((h.push { cls := .type "tuple", data := .seq rest.toArray }).push _).get? (h.objs.size + 1) = some _
    heap_get
  have c1 : (Value.ref C :: bm).contains (.ref C) = true := by simp
  have T1 := T.keeps kp
  unfold isInstance
  repeat (first | with_reducible refine wpAny_loadPart_at G1 ?_ | (with_reducible refine wpAny_isSubtype_exc C1 ?_; rw [c1]) | wp_step)
  show wpAny _ _ (typeLookup (.ref C) _) _ _ _
  refine wpAny_typeLookup_tail C1 N1 T1 F.mroIs F.init.lookup ?_
  rw [hi]
  refine wpAny_holding (wpAny_bind ?_)
  unfold bindSpecial
  refine wpAny_bind (wpAny_typeOf (T := "function") ⟨_, I1, hfc⟩ ?_)
  rw [if_pos (by decide)]
  refine wpAny_pure (wpAny_bind (wpAny_mono (hq _ (h.objs.size + 1) kp (Nat.le_succ _) ⟨_, G1⟩) (fun r s' hr => ?_) fun _ _ z => z))
  obtain ⟨rfl, hQ⟩ := hr
  wp_walk
  exact hQ
theorem call_init (T : OwnTail h vErr bm) {mN : Str → Option Value} {rest : List Value} {oI : Obj} {Q : Value → Shared → Prop}
    (hC : h.get? C = some (excClassObj nm q C N bs bm hdct sn sub ab col dd k0 k1 k2 k3 k5 "ValueError.__new__")) (hn : h.Ns N mN) (hi : mN "__init__" = some (.ref fI)) (hfI : h.get? fI = some oI) (hfc : oI.cls = .type "function")
    (hq : ∀ h' e, (∀ b o, h.get? b = some o → h'.get? b = some o) → h.objs.size ≤ e → (∃ tt, h'.get? e = some (excObj C tt none)) →
      wpAny (model prog w) (A.under (.builtin "type.__call__" ⟨.ref C :: rest, []⟩)) (call (.ref fI) (.ref e :: rest)) (fun r s' => r = .none ∧ Q (.ref e) s') E ⟨h', g, d, t, os⟩) (hrest : rest.length ≤ sizeLine) :
    wpAny (model prog w) A (call (.ref C) rest) Q E ⟨h, g, d, t, os⟩ := by
  have f1 := tc_lookup
  have f2 := tc_bind (.ref C)
  have hT : (⟨h, g, d, t, os⟩ : Shared).TypeIs (.ref C) "type" := ⟨_, hC, rfl⟩
  refine wpAny_call (codeAny_of_tree ?_)
  show wpAny _ _ (callAny (.ref C) _) _ _ _
  repeat (any_goals (first | assumption | with_reducible refine wpAny_loadPart_at hC ?_ | wp_step))
  refine ⟨rfl, ?_⟩
  refine codeAny_call_builtin_at (Code.quiet_builtin _ (by decide +kernel)) entry_typeCall (wpAny_check_type_call_sub hC (tcall_init T hC hn hi hfI hfc (fun h' e a1 a2 a3 => ?_) hrest))
  exact hq h' e a1 a2 a3
end
section
variable {M : Model} {A : Around} {E : Value → Shared → Prop} {s : Shared} {env : Env} {C : Addr}
theorem raise_of {x : Sem Value} {Q : Flow → Shared → Prop} (hh : A.handled = none)
    (h : wpAny M A x (fun v s1 => ∃ e t od fI, v = .ref e ∧ ClsI C fI s1.heap ∧ s1.heap.get? e = some (excObj C t od) ∧ E (.ref e) s1) E s) :
    wpAny M A (raiseStmt env (some x) none) Q E s := by
  unfold raiseStmt
  refine wpAny_bind (wpAny_mono h (fun v s1 z => ?_) fun _ _ y => y)
  obtain ⟨e, t, od, fI, rfl, Z, he, hE⟩ := z
  obtain ⟨bm, N, nm, q, bs, sn, sub, ab, col, dd, k0, k1, k2, k3, k5, mN, hC, _, _, T, _⟩ := Z.obj
  have hcB : (Value.ref C :: bm).contains (.type "BaseException") = true := by rw [List.contains_cons, T.hasType PySem.F.excBase_ValueError.hasBase, Bool.or_true]
  obtain ⟨hp, g, d, tk, os⟩ := s1
  repeat (first | with_reducible refine wpAny_loadPart_at he ?_ | with_reducible refine wpAny_loadPart_at hC ?_ | (with_reducible refine wpAny_isSubtype_exc hC ?_; rw [hcB]) | wp_step)
  exact wpAny_raiseNew_none hh hE
end
section
variable {prog : Program} {w : World} {A : Around} {E : Value → Shared → Prop} {s : Shared} {env : Env} {C fI : Addr}
theorem raise_init {x : Str} {np cpos pos : Pos} {args : List Expr} {Q : Flow → Shared → Prop} (hh : A.handled = none) (hplain : (backTo cpos (starEach args env)).any (·.1) = false)
    (h : wpAny (model prog w) A (eval (.Name x np) env) (fun f s1 => f = .ref C ∧ wpAny (model prog w) A (evalArgs (.ref C) true (backTo cpos (starEach args env)) [])
      (fun a s2 => a.kw = [] ∧ a.pos.length ≤ sizeLine ∧ ClsI C fI s2.heap ∧ (∃ oI, s2.heap.get? fI = some oI ∧ oI.cls = .type "function") ∧
        ∀ h' e, (∀ b o, s2.heap.get? b = some o → h'.get? b = some o) → s2.heap.objs.size ≤ e → (∃ tt, h'.get? e = some (excObj C tt none)) →
          wpAny (model prog w) (A.under (.builtin "type.__call__" ⟨.ref C :: a.pos, []⟩)) (call (.ref fI) (.ref e :: a.pos)) (fun r s' => r = .none ∧ ClsI C fI s'.heap ∧ (∃ t od, s'.heap.get? e = some (excObj C t od)) ∧ E (.ref e) s') E { s2 with heap := h' }) E s1) E s) :
    wpAny (model prog w) A (exec (.Raise (some (.Call (.Name x np) args [] cpos)) none pos) env) Q E s := by
  rw [arm_exec_Raise]
  first
    | refine wpAny_bind (wpAny_standAt (raise_of (C := C) hh (wpAny_bind (wpAny_mono (wpAny_Call_ofName (wpAny_mono h (fun f s1 z => ?_) fun _ _ y => y)) (fun v s3 y3 => wpAny_bind (wpAny_standAt (wpAny_pure y3))) fun _ _ y => y))))
    | (simp only [evalOpt, Option.map]; refine wpAny_bind (wpAny_standAt (raise_of (C := C) hh (wpAny_bind (wpAny_mono (wpAny_Call_ofName (wpAny_mono h (fun f s1 z => ?_) fun _ _ y => y)) (fun v s3 y3 => wpAny_bind (wpAny_standAt (wpAny_pure y3))) fun _ _ y => y)))))
    | (refine wpAny_bind (wpAny_standAt (raise_of (C := C) hh ?_)); refine wpAny_bind (wpAny_mono (wpAny_Call_ofName (wpAny_mono h (fun f s1 z => ?_) fun _ _ y => y)) (fun v s3 y3 => wpAny_bind (wpAny_standAt (wpAny_pure y3))) fun _ _ y => y))
  obtain ⟨rfl, z⟩ := z
  unfold callWith
  refine wpAny_bind (wpAny_holding (wpAny_mono z (fun a s2 y => wpAny_bind (wpAny_standAt ?_)) fun _ _ y => y))
  obtain ⟨apos, akw⟩ := a
  obtain ⟨hkw, hlen, Z, ⟨oI, hfI, hfc⟩, y⟩ := y
  obtain rfl : akw = [] := hkw
  obtain ⟨bm, N, nm, q, bs, sn, sub, ab, col, dd, k0, k1, k2, k3, k5, mN, hC, hn, hi, T, _⟩ := Z.obj
  obtain ⟨hp, g, d, tk, os⟩ := s2
  simp only [hplain]
  refine wpAny_bind (wpAny_keeperOf_exc hC ?_)
  refine wpAny_bind (call_init T hC hn hi hfI hfc (fun h' e a1 a2 a3 => ?_) hlen)
  refine wpAny_mono (y h' e a1 a2 a3) (fun r s' u => ?_) fun _ _ u => u
  obtain ⟨rfl, u1, ⟨t, od, u2⟩, u3⟩ := u
  exact ⟨rfl, wpAny_bind (wpAny_holding (wpAny_point (wpAny_pure ⟨e, t, od, fI, rfl, u1, u2, u3⟩)))⟩
end
end L2
namespace L2
open PySem PySem.Spec PyProof.Rows
open PySem.W (Looks InstAt)
open PySem.Builtin PySem.Builtin.ObjectAttr
theorem refuse_v (self : Value) : ∀ {l : List Value}, refsThen l = true → refuseLoop self "__setattr__" l = pure ()
  | .ref c :: r, e => by rw [refuseLoop_ref]; exact refuse_v self (l := r) e
  | [], e => by cases e
  | .none :: _, e => by cases e
  | .bool _ :: _, e => by cases e
  | .int _ _ :: _, e => by cases e
  | .str _ _ :: _, e => by cases e
  | .bytes _ _ :: _, e => by cases e
  | .float _ _ :: _, e => by cases e
  | .builtin _ :: _, e => by cases e
  | .type n :: r, e => by
    rw [show (Value.type n :: r) = vErr from beq_iff_eq.mp e]
    exact PySem.F.store_ValueError.passes self
structure ExcN (K : PySem.W.Frag) (C : Addr) : Prop where
  cd : ∃ cd, PySem.W.clsIn K C = some cd ∧ refsThen cd.mro = true ∧ cd.hasDict = true
  sa : PySem.W.findIn K (.ref C) "__setattr__" = some (some (.builtin "object.__setattr__"))
  hd : PySem.W.hasDictIn K C = true
section
variable {prog : Program} {w : World} {A : Around} {E : Value → Shared → Prop} {s : Shared} {K : PySem.W.Frag} {x C : Addr} {R : Result → Shared → Prop}
theorem xosa_open {ox : Obj} {od : Option Obj} {name : Str} {tk : Tok} {v : Value} (X : K.In s.heap) (I : InstAt s.heap x ox C od) (Z : ExcN K C) (mo : PySem.W.mroIn K C (.type "object") = some true) (ht : PySem.W.findIn K (.ref C) name = some none)
    (h : ∀ b, wpAny (model prog w) A.in1 (storeInOwnDict (.ref x) (.ref C) (.str name tk) name v b)
      (fun fin s' => match fin with | .done f => R (.ok f) s' | .again c' => c'.quiet = true ∧ codeAny (model prog w) A c' R s') (fun e s' => R (.error e) s') s) :
    codeAny (model prog w) A (.call (.builtin "object.__setattr__") ⟨[.ref x, .str name tk, v], []⟩) R s := by
  have SF := PySem.F.store_object
  obtain ⟨cd, hc, ho, _⟩ := Z.cd
  have sub : Looks (model prog w) s.heap (isInstance (.ref x) (.type "object")) true := I.type.andThen (PySem.W.looks_mroIn X mo)
  refine codeAny_call_builtin SF.slot.plain SF.entry (@PySem.W.check_slot (model prog w) _ _ s "object.__setattr__" "object" "__setattr__" (.ref x) [.str name tk, v] [] _ SF.kind SF.split sub (SF.args (.ref x) (.str name tk) v) ?_)
  have hm : Looks (model prog w) s.heap (mroOf (.ref C)) cd.mro := (PySem.W.looks_clsIn X hc).andThen .now
  rw [PySem.W.osa_eq, refuse_eq]
  refine wpAny_bind (wpAny_bind (I.type.here (wpAny_bind (hm.here ?_))))
  rw [refuse_v _ ho]
  refine wpAny_pure (wpAny_bind (I.type.here (wpAny_bind ((PySem.W.looks_findIn X ht).here (wpAny_bind (wpAny_pure ?_))))))
  exact h _
theorem xset_none {t : Addr} {name : Str} {v : Value} {Q : Unit → Shared → Prop} (X : K.In s.heap) (hx : s.heap.get? x = some (excObj C t none)) (Z : ExcN K C) (mo : PySem.W.mroIn K C (.type "object") = some true) (ht : PySem.W.findIn K (.ref C) name = some none)
    (h : ∀ h', h'.get? x = some (excObj C t (some s.heap.objs.size)) → h'.Ns1 s.heap.objs.size (fun y => if y = name then some v else none) → (∀ b o, b ≠ x → s.heap.get? b = some o → h'.get? b = some o) → Q () { s with heap := h', toks := s.toks + 2 }) :
    wpAny (model prog w) A (setAttr (.ref x) name v) Q E s := by
  have J : InstAt s.heap x (excObj C t none) C none := ⟨hx, rfl, rfl, trivial⟩
  refine PySem.W.set_plain X J Z.sa (xosa_open (s := { s with toks := s.toks + 1 }) X J Z mo ht fun b => ?_)
  obtain ⟨cd, hc, _, hd'⟩ := Z.cd
  refine wpAny_bind (wpAny_pure (wpAny_bind (wpAny_bind (wpAny_loadPart hx (wpAny_bind (Looks.here (s := { s with toks := s.toks + 1 }) (PySem.W.looks_clsIn X hc) ?_))))))
  rw [hd']
  have x1 : (s.heap.push { cls := .type "dict", data := .dict #[] }).get? x = some (excObj C t none) := Heap.get?_push_of_some _ hx
  have nx : x ≠ s.heap.objs.size := Nat.ne_of_lt (Heap.lt_size hx)
  show wpAny _ _ ((if (!true || !typeHasDict (Value.ref C)) = true then _ else _)) _ _ _
  rw [if_neg (by simp [typeHasDict])]
  refine wpAny_bind (wpAny_alloc' ?_)
  refine wpAny_bind (wpAny_update' x1 ?_)
  refine wpAny_pure ?_
  show wpAny _ _ (storeInDict s.heap.objs.size (.str name s.toks) name v) _ _ _
  have gx : ((s.heap.push { cls := .type "dict", data := .dict #[] }).update x fun o => { cls := o.cls, dict := some s.heap.objs.size, data := o.data, slots := o.slots }).get? x = some (excObj C t (some s.heap.objs.size)) := Heap.get?_update_self _ x1 rfl
  have gd : ((s.heap.push { cls := .type "dict", data := .dict #[] }).update x fun o => { cls := o.cls, dict := some s.heap.objs.size, data := o.data, slots := o.slots }).get? s.heap.objs.size = some { cls := .type "dict", data := .dict #[] } :=
    (Heap.get?_update_ne _ _ _ _ nx.symm).trans (Heap.get?_push_at rfl rfl)
  have ko : ∀ b o, b ≠ x → s.heap.get? b = some o → ((s.heap.push { cls := .type "dict", data := .dict #[] }).update x fun o => { cls := o.cls, dict := some s.heap.objs.size, data := o.data, slots := o.slots }).get? b = some o := fun b o n e => (Heap.get?_update_ne _ _ _ _ n).trans (Heap.get?_push_of_some _ e)
  generalize ((s.heap.push { cls := .type "dict", data := .dict #[] }).update x fun o => { cls := o.cls, dict := some s.heap.objs.size, data := o.data, slots := o.slots }) = g1 at gx gd ko ⊢
  have nd : g1.Ns s.heap.objs.size (fun _ => none) := ⟨_, #[], _, gd, rfl, fun e he => absurd he (by simp), fun _ => rfl⟩
  unfold storeInDict newKeyGuard
  refine wpAny_bind (wpAny_pure (wpAny_bind (wpAny_nsSet1 (Heap.Ns1.of_empty nd) fun h' hn' hs => ?_)))
  obtain ⟨oD, esD, epD, hoD, hdD, hcD⟩ := hn'.count (PySem.Within.cons name v PySem.Within.nil)
  refine wpAny_bind (wpAny_lookBehind hoD (by rw [hdD]; exact pastItsLine_dict (Nat.le_trans hcD (by rw [List.length_cons, List.length_nil, sizeLine_eq]; omega))) ?_)
  exact wpAny_pure (h h' ((hs.2 x nx).trans gx) hn' fun b o n e => (hs.2 b (Nat.ne_of_lt (Heap.lt_size e))).trans (ko b o n e))
theorem xget {o : Obj} {dx : Addr} {mA : Str → Option Value} {name : Str} {v : Value} {expr : Bool} {Q : Value → Shared → Prop} (X : K.In s.heap) (Z : ExcX K C) (N : ExcN K C) (hx : s.heap.get? x = some o) (hc : o.cls = .ref C) (hf : ∃ fs, o.data = .fields fs) (hd : o.dict = some dx) (hn : s.heap.Ns1 dx mA)
    (ht : PySem.W.findIn K (.ref C) name = some none) (hv : mA name = some v) (hh : PySem.W.handedIn v = true) (h : Q v { s with toks := s.toks + 1 }) :
    wpAny (model prog w) A (getAttr (.ref x) name expr) Q E s := by
  obtain ⟨od, ho, hl⟩ := lookIn_ns hn
  obtain ⟨fs, hfs⟩ := hf
  have J : InstAt s.heap x o C (some od) := ⟨hx, hc, by obtain ⟨a, b, c, d⟩ := o; cases hfs; rfl, by rw [hd]; exact ho⟩
  have Lf := PySem.W.looks_find (M := model prog w) X J (PySem.W.findObj_own N.hd ht rfl (by rw [hl, hv]))
  obtain ⟨hh0, g, dr, t, os⟩ := s
  have L0 : Looks (model prog w) hh0 (typeOf (.ref x)) (.ref C) := hc ▸ (Looks.ld hx).andThen .now
  have L1 := PySem.W.looks_findIn (M := model prog w) X Z.ga
  have L2 := PySem.W.looks_findIn (M := model prog w) X Z.gn
  have L4 := PySem.W.looks_mroIn (M := model prog w) X Z.mb
  have f3 := PySem.F.attr_ValueError.ga.bind (.ref x)
  have hk : builtinKind "BaseException.__getattribute__" = some .slot := by decide +kernel
  have hsplit : splitId "BaseException.__getattribute__" = some ("BaseException", "__getattribute__") := by decide +kernel
  unfold getAttr getAttrBy
  refine wpAny_bind (wpAny_mkText (wpAny_holding (wpAny_bind (L0.at (wpAny_bind (L1.at ?_))))))
  show wpAny _ _ (getAttrByItsOwn _ _ _ _ _ _) _ _ _
  unfold getAttrByItsOwn
  refine wpAny_bind ?_
  show wpAny _ _ (typeLookup _ _) _ _ _
  refine L2.at ?_
  refine wpAny_bind (wpAny_attempt (wpAny_holding ?_))
  unfold callGetattribute
  rw [if_neg (by simp [onTheHeap])]
  unfold boundAndCalled
  refine wpAny_bind ?_
  rw [f3]
  refine wpAny_pure ?_
  refine wpAny_call (codeAny_call_builtin PySem.F.attr_ValueError.ga.plain PySem.F.entry_bexc_ga ?_)
  have ha := PySem.F.args_bexc_ga (.ref x) (.str name t)
  simp only [checkBuiltinCall, hk, hsplit]
  refine wpAny_bind ?_
  unfold isInstance
  refine wpAny_bind (L0.at (L4.at ?_))
  simp only [Bool.not_true, Bool.false_eq_true, if_false]
  refine wpAny_mono (Q := fun _ s1 => s1 = ⟨hh0, g, dr, t + 1, os⟩) (E := fun _ _ => False) ?_ (fun _ s1 z => ?_) fun _ _ z => z.elim
  · cases hs : Manifest.signature? "BaseException.__getattribute__" with
    | none => exact wpAny_pure rfl
    | some sig =>
      simp only [argsOk, hs] at ha
      have h2 : Bind.checkArgs "BaseException.__getattribute__" sig ⟨[.ref x, .str name t], []⟩ = pure () := ha
      show wpAny _ _ (Bind.checkArgs "BaseException.__getattribute__" sig ⟨[.ref x, .str name t], []⟩) _ _ _
      rw [h2]
      exact wpAny_pure rfl
  subst z
  unfold Builtin.«object.__getattribute__»
  refine wpAny_bind (wpAny_pure (wpAny_bind (wpAny_pure (wpAny_bind (L0.at (wpAny_bind (Lf.at (wpAny_pure ?_))))))))
  show wpAny _ _ (handedOut v) _ _ _
  rw [PySem.W.handedOut_of hh]
  exact wpAny_pure h
end
end L2
namespace L2
open PySem PySem.Spec PyProof.Rows
def ExcF (e C : Addr) (od : Option Addr) : HO := .ext fun h => ∃ t, h.get? e = some (excObj C t od)
def XdO (dx : Addr) (fs : List (Str × V)) : HO := .ext fun h => ∃ mA, h.Ns1 dx mA ∧ (∀ f, RelO (fs.lookup f) (mA f)) ∧ PySem.Within mA (fs.map (·.1))
def ExcD (e C : Addr) (od : Option Addr) : HO := .ext fun h => ∃ o vs, h.get? e = some o ∧ o.cls = .ref C ∧ o.data = .fields vs ∧ o.dict = od
theorem excF_ok {P : Program} {w : World} {H : Hp} {h : Heap} {e C t : Addr} {od : Option Addr} (g : h.get? e = some (excObj C t od)) : ObjOk P w H h e (ExcF e C od) := ⟨⟨t, g⟩, ⟨_, g⟩, fun h1 h2 ⟨t', g'⟩ k => ⟨t', k _ g'⟩⟩
theorem ns1_at {h1 h2 : Heap} {d : Addr} {m : Str → Option Value} (n : h1.Ns1 d m) (k : ∀ o, h1.get? d = some o → h2.get? d = some o) : h2.Ns1 d m := by
  obtain ⟨o, es, ep, e, r⟩ := n
  exact ⟨o, es, ep, k _ e, r⟩
theorem xdO_ok {P : Program} {w : World} {H : Hp} {h : Heap} {dx : Addr} {fs : List (Str × V)} {mA : Str → Option Value} (n : h.Ns1 dx mA) (r : ∀ f, RelO (fs.lookup f) (mA f)) (wi : PySem.Within mA (fs.map (·.1))) : ObjOk P w H h dx (XdO dx fs) := by
  obtain ⟨o, es, ep, e, r'⟩ := id n
  exact ⟨⟨mA, n, r, wi⟩, ⟨_, e⟩, fun h1 h2 ⟨m, n1, r1, w1⟩ k => ⟨m, ns1_at n1 k, r1, w1⟩⟩
section
variable {X : Cx} {o value : Expr} {ta tv : TE} {f : Str} {pos pos' : Pos}
def sX0 (K : PySem.W.Frag) (ta tv : TE) (f : Str) : TS := fun D σ H => tv σ H fun y H1 => ta σ H1 fun x H2 => ∃ a C, x = .ref a ∧ H2 a = some (ExcF a C none) ∧ ExcN K C ∧ PySem.W.mroIn K C (.type "object") = some true ∧ PySem.W.findIn K (.ref C) f = some none ∧
  ∀ dx, H2 dx = none → D.nx σ (upd (upd H2 a (ExcF a C (some dx))) dx (XdO dx [(f, y)]))
theorem ps_x0 (K : PySem.W.Frag) (ha : PE X o ta) (hv : PE X value tv) (hs : swapsWith value (some (.Attribute o f pos')) pos.line X.env = pure false) (hK : X.K = K := by rfl) : PS X (.Assign [.Attribute o f pos'] value pos) (sX0 K ta tv f) := by
  subst hK
  intro pins s σ H D I h
  refine plainObj_wpAny_Assign_Attribute (thn (hv pins s σ H _ I h) fun u s1 ⟨y, H1, I1, ry, q⟩ => thn (ha pins s1 σ H1 _ I1 q) fun ov s2 ⟨x, H2, I2, rx, a, C, ex, ea, Z, mo, nf, q2⟩ => ?_) hs
  subst ex
  obtain rfl : ov = Value.ref a := rx
  obtain ⟨⟨t, g⟩, _, _⟩ := (show ObjOk X.prog X.w H2 s2.heap a (ExcF a C none) from I2.hok a _ ea)
  refine xset_none I2.kIn g Z mo nf fun h' g' n' kp => ?_
  have fr : H2 s2.heap.objs.size = none := I2.hok.fresh (Nat.le_refl _)
  have na : s2.heap.objs.size ≠ a := Nat.ne_of_gt (Heap.lt_size g)
  have mu : Mut (H2 a) := by rw [ea]; exact True.intro
  have new1 : ObjOk X.prog X.w (upd H2 a (ExcF a C (some s2.heap.objs.size))) h' a (ExcF a C (some s2.heap.objs.size)) := excF_ok g'
  have ok1 := I2.hok.write (e := a) mu (.inl rfl) (fun b u hb z => kp b u hb z) ⟨_, g'⟩ new1
  have fr1 : upd H2 a (ExcF a C (some s2.heap.objs.size)) s2.heap.objs.size = none := by rw [upd_ne na]; exact fr
  refine ⟨σ, _, I2.call' (s' := { s2 with heap := h', toks := s2.toks + 2 }) (ch := []) rfl (Un.track (Un.write (e := a) mu (.inl rfl) (fun b u hb z => kp b u hb z) ⟨_, g'⟩) (Nat.le_refl _) fr) (HOk.track ok1 fr1 (xdO_ok (fs := [(f, y)]) n' (fun g => ?_) ?_)) I2.bare (fun b z => nomatch z), q2 _ fr⟩
  · by_cases z : g = f
    · subst z
      simp only [List.lookup, beq_self_eq_true, if_true]
      exact ry
    · have z' : (g == f) = false := beq_eq_false_iff_ne.mpr z
      simp only [List.lookup, z', if_neg z]
      exact True.intro
  · exact PySem.Within.cons f u PySem.Within.nil
def tXf (K : PySem.W.Frag) (ta : TE) (f : Str) : TE := fun σ H Q => ta σ H fun x H1 => ∃ a C dx fs v, x = .ref a ∧ H1 a = some (ExcD a C (some dx)) ∧ H1 dx = some (XdO dx fs) ∧ ExcX K C ∧ ExcN K C ∧ PySem.W.findIn K (.ref C) f = some none ∧ fs.lookup f = some v ∧ Q v H1
theorem pe_xf (K : PySem.W.Frag) (he : PE X o ta) (hK : X.K = K := by rfl) (hb : attributeBase o f X.env (eval o X.env) = eval o X.env := by rfl) : PE X (.Attribute o f pos) (tXf K ta f) := by
  subst hK
  intro pins s σ H Q I h
  refine attr_of hb (thn (he pins s σ H _ I h) fun u s1 ⟨x, H1, I1, rx, a, C, dx, fs, v, ex, ea, ed, Z, N, nf, l, q⟩ => ?_)
  subst ex
  obtain rfl : u = Value.ref a := rx
  obtain ⟨⟨o, vs, g, hc, hd, hdd⟩, _, _⟩ := (show ObjOk X.prog X.w H1 s1.heap a (ExcD a C (some dx)) from I1.hok a _ ea)
  obtain ⟨⟨mA, n, r, wi⟩, _, _⟩ := (show ObjOk X.prog X.w H1 s1.heap dx (XdO dx fs) from I1.hok dx _ ed)
  obtain ⟨u', hu, ru⟩ := RelO.some_of (v := v) (o := mA f) (by rw [← l]; exact r f)
  exact xget I1.kIn Z N g hc ⟨vs, hd⟩ hdd n nf hu (handed_of ru) ⟨v, H1, I1.tok _, ru, q⟩
def rIsinstD (K : PySem.W.Frag) : List V → Hp → VK → Prop := fun xs H Q => ∃ ea C od d c b, xs = [.ref ea, d] ∧ (∀ u, RelV d u → u = c) ∧ H ea = some (ExcD ea C od) ∧ ExcX K C ∧ PySem.W.kitOne K (.ref C) c = some b ∧ Q (.bl b) H
theorem call_isinstD (K : PySem.W.Frag) (h : X.K = K := by rfl) : CallR X (.builtin "isinstance") (rIsinstD K) := by
  subst h
  intro pins s σ H xs us Q I r h
  obtain ⟨ea, C, od, d, c, b, rfl, hd, he, Z, e, q⟩ := h
  obtain ⟨u, u', rfl, r1, r2⟩ := vals2 r
  cases (show u = Value.ref ea from r1)
  cases hd u' r2
  obtain ⟨⟨o, vs, ho, hc, _⟩, _⟩ := (show ObjOk X.prog X.w H s.heap ea (ExcD ea C od) from I.hok ea _ he)
  exact PySem.W.kia_one (kitx_exc Z) I.kIn ⟨o, ho, hc⟩ e (fun z => nomatch z) fun tk => ⟨.bl b, H, I.tok _, rfl, q⟩
end
end L2
namespace L2
open PySem PySem.Spec PyProof.Rows
def untr (H : Hp) (e : Addr) : Hp := fun b => if b = e then none else H b
theorem untr_same {H : Hp} {e : Addr} : untr H e e = none := if_pos rfl
theorem untr_ne {H : Hp} {e b : Addr} (h : b ≠ e) : untr H e b = H b := if_neg h
def CXF (P : Program) (w : World) : CXT := fun outer H s E e s' => ∃ (ea C : Addr) (a0 : Value) (B : Heap) (H' : Hp) (od : Option Addr),
  e = .ref ea ∧ s'.os = s.os ∧ AllBare s'.gens ∧ Heap.FlyingW B outer ea (.ref C) a0 s'.heap ∧ DictIs s'.heap ea od ∧ Fly (frs outer) H H' s.heap B s'.heap ∧ HOk P w H' B ∧ E (.ref C) od H'
def PassF (X : Cx) (E : St → XK) : Prop := ∀ (pins : List (Addr × Obj)) (σ : St) (H : Hp) (s : Shared) (e : Value) (s' : Shared), Inv X pins σ H s → CXF X.prog X.w X.stack H s (E σ) e s' → X.xe e s'
def LetsF (X : Cx) (E : XK) : Prop := ∀ (pins : List (Addr × Obj)) (σ : St) (H : Hp) (s : Shared) (e C : Addr) (od : Option Addr), Inv X pins σ H s → H e = some (ExcF e C od) → X.s₀.heap.get? e = none → E (.ref C) od (untr H e) → X.xe (.ref e) s
section
variable {P : Program} {w : World} {K : PySem.W.Frag} {mg : Str → Option Value} {base : Heap} {N : List Str} {qual : Str} {scope : Scope} {f : Addr} {cd : Value} {A : Around} {outer : List Env} {s : Shared} {H : Hp} {E : XK}
theorem letsF_cx : LetsF (cxOf (CXF P w) P w K mg base N qual scope f cd A outer s H E) E := by
  intro pins σ H1 s1 e C od I he h0 hE
  show wpAny _ _ (leaving _ (.ref e)) _ _ _
  have fr : frs (cxOf (CXF P w) P w K mg base N qual scope f cd A outer s H E).stack = s.heap.objs.size :: frs outer := frs_cons rfl
  have hin : ∀ env ∈ (cxOf (CXF P w) P w K mg base N qual scope f cd A outer s H E).stack, ∀ a, env.frame = some a → a ∈ e :: frs (cxOf (CXF P w) P w K mg base N qual scope f cd A outer s H E).stack := fun env hm b hb => List.mem_cons_of_mem _ (List.mem_filterMap.mpr ⟨env, hm, hb⟩)
  have frees := I.stkFree
  have stk := I.stack
  obtain ⟨⟨t, g⟩, _, _⟩ := (show ObjOk P w H1 s1.heap e (ExcF e C od) from I.hok e _ he)
  refine leaves_firstD (B := PySem.W.hideAll s1.heap (e :: frs (cxOf (CXF P w) P w K mg base N qual scope f cd A outer s H E).stack)) I.ok.frames (PySem.W.funFrames_hide stk hin) rfl g (fun b o q => PySem.W.of_hideAll _ q) (PySem.W.hideAll_none _ (List.mem_cons_self ..)) rfl rfl rfl fun h'' fl up dz => ?_
  have ne : ∀ b, b ∈ frs (cxOf (CXF P w) P w K mg base N qual scope f cd A outer s H E).stack → b ≠ e := fun b hb z => by
    have := frees b hb
    rw [z, he] at this
    cases this
  have keepB : ∀ b o, s1.heap.get? b = some o → b ≠ e → b ∉ frs (cxOf (CXF P w) P w K mg base N qual scope f cd A outer s H E).stack → (PySem.W.hideAll s1.heap (e :: frs (cxOf (CXF P w) P w K mg base N qual scope f cd A outer s H E).stack)).get? b = some o := fun b o q n1 n2 => PySem.W.hideAll_get _ q fun z => (List.mem_cons.mp z).elim n1 n2
  have n0 : ∀ b o, s.heap.get? b = some o → b ≠ e := fun b o q z => by
    have h0' : s.heap.get? e = none := h0
    rw [z, h0'] at q
    cases q
  have nL : ∀ b o, s.heap.get? b = some o → b ∉ frs outer → b ∉ frs (cxOf (CXF P w) P w K mg base N qual scope f cd A outer s H E).stack := fun b o q hb z => by
    rw [fr] at z
    rcases List.mem_cons.mp z with y | y
    · exact absurd (Heap.lt_size q) (by rw [y]; exact Nat.lt_irrefl _)
    · exact hb y
  have fly : Fly (frs outer) H (untr H1 e) s.heap (PySem.W.hideAll s1.heap (e :: frs (cxOf (CXF P w) P w K mg base N qual scope f cd A outer s H E).stack)) h'' := by
    refine ⟨fun b o q hb => ?_, fun b o q hb => ?_, fun b o q n => ?_, fun b xs q => ?_, fun b o u q => ?_, fun b ps q => ?_⟩
    · obtain ⟨o1, e1⟩ := I.base.there b o q (show _ ∉ ([] : List Addr) by simp)
      refine ⟨⟨o1, keepB b o1 e1 (n0 b o q) (nL b o q hb)⟩, fun n => ?_⟩
      exact keepB b o (I.base.keep b o q n hb (show _ ∉ ([] : List Addr) by simp)) (n0 b o q) (nL b o q hb)
    · obtain ⟨s1', q1⟩ := I.base.slot b o q (I.ok.frf b hb) hb (show _ ∉ ([] : List Addr) by simp)
      have hb' : b ∈ frs (cxOf (CXF P w) P w K mg base N qual scope f cd A outer s H E).stack := by rw [fr]; exact List.mem_cons_of_mem _ hb
      obtain ⟨s2', q2⟩ := up b _ q1 (by
        obtain ⟨_, o', q', d⟩ := stk.mem hb'
        rw [q1] at q'
        cases q'
        exact d)
      exact ⟨s2', q2⟩
    · rw [untr_ne (n0 b o q)]
      exact I.base.free b o q n (show _ ∉ ([] : List Addr) by simp)
    · have z := I.base.tups b xs q
      rw [untr_ne (fun y => by rw [y, he] at z; cases z)]
      exact z
    · have z := I.base.frzs b o u q
      rw [untr_ne (fun y => by rw [y, he] at z; cases z)]
      exact z
    · obtain ⟨m, z⟩ := I.base.tbls b ps q
      exact ⟨m, by rw [untr_ne (fun y => by rw [y, he] at z; cases z)]; exact z⟩
  refine ⟨e, C, _, _, untr H1 e, od, rfl, I.os, I.bare, fl, dz, fly, fun b u e1 => ?_, hE⟩
  have nb : b ≠ e := fun z => by rw [z, untr_same] at e1; cases e1
  rw [untr_ne nb] at e1
  refine (I.hok b u e1).stay (fun c v hc q => keepB c v q ?_ fun hm => ?_) (fun c q => ?_) fun c xs q => ?_
  · rintro rfl
    rcases hc with z | z
    · exact nb z.symm
    · rw [he] at z; cases z
  · have hn := frees c hm
    rcases hc with z | z
    · rw [z] at hn; rw [e1] at hn; cases hn
    · rw [z] at hn; cases hn
  · rw [untr_ne (fun y => by rw [y, he] at q; cases q)]; exact q
  · rw [untr_ne (fun y => by rw [y, he] at q; cases q)]; exact q
end
structure CalleeF (P : Program) (w : World) (K : PySem.W.Frag) (mg : Str → Option Value) (base : Heap) (k : Nat) (x : Str) (ps : List Str) (dvs : List V) (sp : Sp) : Prop where
  ex : ∃ (f : Addr) (fd : FuncData), FnOk P w K mg base (CXF P w) k f fd ps sp ∧ (∀ m, m ≤ dvs.length → ∃ ds, Vals (dvs.drop m) ds ∧ Binds K fd ps ds) ∧ PySem.W.keepIn K (.ref f) = true ∧ mg x = some (.ref f)
section
variable {P : Program} {w : World} {K : PySem.W.Frag} {mg : Str → Option Value} {base : Heap}
theorem Def.okF {x : Str} {st : Stmt} {N ps : List Str} {k : Nat} {sp : Sp} (D : Def K mg x st ps) (S : FnScope N ps (defScope st)) (len : ∀ vs H Q E, sp vs H Q E → vs.length = ps.length)
    (hbody : ∀ (f : Addr) (cdv : Value) (A : Around) (outer : List Env) (s : Shared) (H : Hp) (vs : List V) (Q : VK) (E : XK), Room k (A.deeper (envOfC x (defScope st) s.heap.objs.size f cdv)) → sp vs H Q E →
      ∃ t, PSs (cxOf (CXF P w) P w K mg base N x (defScope st) f cdv A outer s H E) (defBody st) t ∧ t { nx := fun _ H' => Q .non H', rt := Q } (start N vs) H) : CalleeF P w K mg base (k + 1) x ps [] sp := by
  obtain ⟨f, fd, ⟨⟨oc, od, kV, doc, pm, an, cdv, ct, osl, rfl, lk, hcd⟩, kp⟩, b, m⟩ := D.ex
  refine ⟨f, _, fn_of lk hcd S len fun A outer s H vs Q E hr hsp => hbody f cdv A outer s H vs Q E hr hsp, fun j hj => ⟨[], ?_, b⟩, kp, m⟩
  rw [List.drop_nil]; exact .nil
end
section
variable {X : Cx} {k n : Nat} {ps : List Str} {dvs : List V} {sp : Sp} {x : Str} {p pos : Pos} {e : Expr} {es : List Expr} {t : TA} {E : St → XK}
theorem run_fnF {f : Addr} {fd : FuncData} {ds : List Value} {pins : List (Addr × Obj)} {σ : St} {H : Hp} {s : Shared} {Q : VK} {us : List Value} {vs : List V} (F : FnOk X.prog X.w X.K X.mg X.base (CXF X.prog X.w) k f fd ps sp) (hr : Room k X.A) (hb : Binds X.K fd ps ds) (hd : Vals dvs ds) (hx : PassF X E)
    (I : Inv X pins σ H s) (r : Vals vs us) (h : sp (vs ++ dvs) H Q (E σ)) : wpAny (model X.prog X.w) X.A (call (.ref f) us) (EP X pins σ Q) X.xe s := by
  have r2 : Vals (vs ++ dvs) (us ++ ds) := r.append hd
  have hl : (us ++ ds).length = ps.length := by rw [← r2.length]; exact F.len _ _ _ _ h
  refine wpAny_call (codeAny_mono (F.run X.A X.stack s H ⟨us, []⟩ (us ++ ds) (vs ++ dvs) Q (E σ) hr I.env0 (hb s us I.kIn hl) r2 h) fun r s' hq => ?_)
  cases r with
  | error e => exact hx pins σ H s e s' I hq
  | ok fl =>
    cases fl with
    | ret u => exact I.after hq
    | next => exact False.elim hq
    | brk => exact False.elim hq
    | cont => exact False.elim hq
theorem pe_fnF (m : Nat) (C : CalleeF X.prog X.w X.K X.mg X.base k x ps dvs sp) (hx : PassF X E) (hr : Room n X.A) (hg : Gl X x) (ha : PA X (e :: es) t) (hm : m ≤ dvs.length := by decide) (hk : k ≤ n := by decide) (hdb : (x == ("__debug__" : Str)) = false := by decide)
    (he : starEach (e :: es) X.env = (false, eval e X.env) :: starEach es X.env := by rfl) (hpl : (backTo pos (starEach es X.env)).any (·.1) = false := by rfl) :
    PE X (.Call (.Name x p) (e :: es) [] pos) (tCallS sp (dvs.drop m) E t) := by
  obtain ⟨f, fd, F, b, kp, mm⟩ := C.ex
  obtain ⟨ds, hv, hb⟩ := b m hm
  intro pins s σ H Q I h
  refine wpAny_Call_Name_kw (ld_glob I hg mm ?_ hdb)
  refine PySem.W.callWith_K (h₀ := X.base) I.ok.mod.kin kp (thn (ha pos pins s σ H _ I h) fun us s1 ⟨vs, H1, I1, r, q⟩ => ⟨I1.kIn, ?_⟩) he hpl
  exact run_fnF F (hr.mono hk) hb hv hx I1 r q
end
end L2
namespace L2
open PySem PySem.Spec PyProof.Rows
structure ExcI (K : PySem.W.Frag) (mg : Str → Option Value) (x : Str) (C fI : Addr) : Prop where
  mg : mg x = some (.ref C)
  exc : excInI K C fI = true
  at_ : PySem.W.findIn K (.ref C) "__init__" = some (some (.ref fI))
section
variable {X : Cx} {C : Addr} {x : Str} {E : XK} {np cpos pos : Pos} {e : Expr} {es : List Expr} {t : TA} {k n : Nat} {ps : List Str} {kb : FuncData → Prop} {sp : Sp}
def tRaiseI (C : Addr) (sp : Sp) (E : XK) (t : TA) : TS := fun _ σ H => t σ H fun vs H1 => vs.length ≤ 1000 ∧ ∀ ea, H1 ea = none → sp (.ref ea :: vs) (upd H1 ea (ExcF ea C none)) (fun r H2 => r = .non ∧ ∃ od, H2 ea = some (ExcF ea C od) ∧ E (.ref C) od (untr H2 ea)) E0
theorem ps_raiseI (hl : LetsF X E) (M : ∃ fI, ExcI X.K X.mg x C fI) (Z : CalleeM X.prog X.w X.K X.mg X.base k C "__init__" ps [] kb sp) (hr : Room n X.A) (hh : X.A.handled = none) (hg : Gl X x) (ha : PA X (e :: es) t) (hk : k + 1 ≤ n := by decide) (hdb : (x == ("__debug__" : Str)) = false := by decide) (hx0 : X.ex = [] := by rfl)
    (hst : starEach (e :: es) X.env = (false, eval e X.env) :: starEach es X.env := by rfl) (hpl : (backTo cpos (starEach es X.env)).any (·.1) = false := by rfl) : PS X (.Raise (some (.Call (.Name x np) (e :: es) [] cpos)) none pos) (tRaiseI C sp E t) := by
  obtain ⟨fI, M⟩ := M
  obtain ⟨f, fd, F, mt, hkb, b⟩ := Z.ex
  have ef : f = fI := by
    have z := mt.at_
    rw [M.at_] at z
    cases z
    rfl
  subst ef
  obtain ⟨ds, hv, hb⟩ := b 0 (Nat.zero_le _)
  rw [List.drop_zero] at hv
  cases hv
  intro pins s σ H D I h
  have hpl' : (backTo cpos (starEach (e :: es) X.env)).any (·.1) = false := by rw [hst]; exact hpl
  refine raise_init (C := C) (fI := f) hh hpl' (ld_glob I hg M.mg ⟨rfl, ?_⟩ hdb)
  have hA := ha cpos pins s σ H _ I h
  rw [hst] at hA ⊢
  refine Calls.evalArgs_plain ?_
  refine thn hA fun us s2 ⟨vs, H2, I2, r2, hlen, q2⟩ => ?_
  have hfn : ∃ oI, s2.heap.get? f = some oI ∧ oI.cls = .type "function" := by
    have z : PySem.W.typeIn X.K (.ref f) = some (.type "function") := beq_iff_eq.mp mt.fn
    obtain ⟨oI, h1, h2⟩ := Option.map_eq_some_iff.mp (show (X.K.lookup f).map (·.cls) = _ from z)
    exact ⟨oI, I2.kIn _ _ h1, h2⟩
  refine ⟨rfl, by rw [← r2.length]; exact Nat.le_of_lt (small1000 hlen), clsI_of I2.kIn M.exc, hfn, fun h' ea kp hsz ⟨tt, ge⟩ => ?_⟩
  have fr := I2.hok.fresh hsz
  have I3 : Inv X pins σ (upd H2 ea (ExcF ea C none)) { s2 with heap := h' } := I2.laid (t' := s2.toks) kp hsz (excF_ok ge)
  have hq := q2 ea fr
  have rr : Vals (V.ref ea :: vs) (Value.ref ea :: us) := .cons rfl r2
  have hll : (Value.ref ea :: us).length = ps.length := by rw [← rr.length]; exact F.len _ _ _ _ hq
  have s0n : X.s₀.heap.get? ea = none := by
    cases z : X.s₀.heap.get? ea with
    | none => rfl
    | some o =>
      obtain ⟨o', e'⟩ := I2.base.there ea o z (by rw [hx0]; simp)
      exact absurd (Heap.lt_size e') (Nat.not_lt.mpr hsz)
  refine wpAny_call (codeAny_mono (F.run _ X.stack _ _ ⟨.ref ea :: us, []⟩ (.ref ea :: us) _ _ E0 ((hr.mono hk).make C us []) (I3.env0.make C us []) (by have := hb _ (.ref ea :: us) I3.kIn (by rw [List.append_nil]; exact hll); rw [List.append_nil] at this; exact this) rr hq) fun r s' hq' => ?_)
  cases r with
  | error e => exact (pass0 (X := X)) pins σ _ _ e s' I3 hq'
  | ok fl =>
    cases fl with
    | ret u =>
      obtain ⟨v, H', I4, rv, ev, od, eH, hE⟩ := I3.after hq'
      subst ev
      cases (show u = Value.none from rv)
      obtain ⟨⟨t', g'⟩, _, _⟩ := (show ObjOk X.prog X.w H' s'.heap ea (ExcF ea C od) from I4.hok ea _ eH)
      exact ⟨rfl, clsI_of I4.kIn M.exc, ⟨t', od, g'⟩, hl pins σ H' s' ea C od I4 eH s0n hE⟩
    | next => exact False.elim hq'
    | brk => exact False.elim hq'
    | cont => exact False.elim hq'
end
def xeF (X : Cx) (pn : List (Addr × Obj)) (E : St → XK) : Value → Shared → Prop := fun e s' => ∃ (pins : List (Addr × Obj)) (σ : St) (H : Hp) (s1 : Shared), Inv (X.pinned pn) pins σ H s1 ∧ CXF X.prog X.w X.stack H s1 (E σ) e s'
abbrev tcxF (X : Cx) (pn : List (Addr × Obj)) (E : St → XK) : Cx := (X.pinned pn).wish (xeF X pn E)
section
variable {X : Cx} {pins : List (Addr × Obj)} {σ : St} {H : Hp} {s : Shared}
theorem pass_tryF {pn : List (Addr × Obj)} {E : St → XK} : PassF (tcxF X pn E) E := fun pins σ H s _ _ I c => ⟨pins, σ, H, s, I.unwish, c⟩
end
section
variable {X : Cx}
def tTryF (K : PySem.W.Frag) (c : Value) (i : Nat) (tb : (St → XK) → TS) (th : TS) : TS := fun D σ H => ∃ E : St → XK, tb E D σ H ∧ ∀ σ' c0 d H', E σ' c0 d H' → σ'.length = σ.length ∧ PySem.W.exmOne K c0 c = some true ∧
  ∀ (ea C : Addr), c0 = .ref C → H' ea = none → th (D.gone i) (σ'.set i (some (.ref ea))) (upd H' ea (ExcD ea C d))
theorem ps_tryF {x n : Str} {c : Value} {i : Nat} {body : List Stmt} {b₀ : Stmt} {suite : List Stmt} {np hpos pos : Pos} {tb : (St → XK) → TS} {th : TS} (hg : Gl X x) (hm : X.mg x = some c) (hN : X.N.Nodup) (hi : X.N[i]? = some n)
    (hl : X.env.scope.names.lookup n = some .local) (hst : X.stack = X.env :: X.outer) (hf : X.env.frame = some X.env.locals) (hx0 : X.ex = [])
    (hb : ∀ (pn : List (Addr × Obj)) (E : St → XK), PSs (tcxF X pn E) body (tb E)) (hs : ∀ ea, PSs (hcx X ea) (b₀ :: suite) th) (hdb : (x == ("__debug__" : Str)) = false := by decide) :
    PS X (.Try body [.ExceptHandler (some (.Name x np)) (some n) (b₀ :: suite) hpos] [] [] pos) (tTryF X.K c i tb th) := by
  intro pins s σ H D I h
  obtain ⟨E, h1, h2⟩ := h
  have lenσ := I.len
  refine wpAny_Try_except ?_
  refine wpAny_mono (hb (X.pn ++ pins) E [] s σ H D (I.toPinned.wish _) h1) (fun fl s1 q => ?_) (fun e s1 q => ?_)
  · cases fl with
    | next => obtain ⟨σ', H', J, q⟩ := q; exact wpAny_execs_nil ⟨σ', H', J.unwish.ofPinned, q⟩
    | brk => obtain ⟨σ', H', J, q⟩ := q; exact ⟨σ', H', J.unwish.ofPinned, q⟩
    | cont => obtain ⟨σ', H', J, q⟩ := q; exact ⟨σ', H', J.unwish.ofPinned, q⟩
    | ret u => obtain ⟨v, σ', H', J, r, q⟩ := q; exact ⟨v, σ', H', J.unwish.ofPinned, r, q⟩
  · obtain ⟨ps, σ1, H1, s0, J0, ea, C, a0, B, H2, od, rfl, os, bare, fl, dz0, fy, hok, hE⟩ := q
    have J1 : Inv X pins σ1 H1 s0 := J0.ofPinned
    obtain ⟨lσ, hex, hth⟩ := h2 σ1 _ _ H2 hE
    have he2 : H2 ea = none := by
      cases q : H2 ea with
      | none => rfl
      | some o => obtain ⟨u, e⟩ := (hok ea o q).at_; rw [fl.2.1] at e; cases e
    have hframes : X.A.frames = some (X.env :: X.outer) := hst ▸ I.ok.frames
    have flup : ∀ {h3 : Heap}, s1.heap.UpToSlots h3 → Fly (frs X.stack) H1 H2 s0.heap B h3 := fun {h3} up => fy.up fun b hb o e1 => up b o e1 (by
      obtain ⟨_, o', q, d⟩ := fl.2.2.1.mem hb
      rw [e1] at q; cases q; exact d)
    have inv : ∀ {h3 : Heap} {t : Nat}, s1.heap.UpToSlots h3 → B.StaysIn h3 → Inv X pins σ1 H2 { s1 with heap := h3, toks := t } := fun {h3 t} up st =>
      J1.call' (s' := { s1 with heap := h3, toks := t }) (ch := []) os ((flup up).un st) (hok.kept st) bare (fun _ z => nomatch z)
    refine looks_onD hframes hf (hst ▸ fl) dz0 fun h4 held up4 dz4 => ?_
    refine landsD held dz4 fun h5 fl5 up5 dz5 => ?_
    have up45 := up4.trans up5
    have I5 : Inv X pins σ1 H2 { s1 with heap := h5 } := inv (t := s1.toks) up45 fl5.1
    obtain ⟨ob, hob, hobc⟩ := fl5.there
    refine wpAny_handleBy_cons (codeAny_handlers_test (ld_glob (X := hcx X ea) (I5.toH ea) hg hm ?_ hdb)) (by intro q; cases q)
    have LT : PySem.W.Looks (model X.prog X.w) h5 (typeOf (.ref ea)) (.ref C) := hobc ▸ (PySem.W.Looks.ld hob).andThen .now
    refine (PySem.W.exm_one (M := model X.prog X.w) (K := X.K) (h := h5) I5.kIn LT hex).here ?_
    refine codeAny_handlers_suite_as ?_
    refine lands_againD fl5 dz5 fun h6 fl6 up6 dz6 => ?_
    have I6 : Inv X pins σ1 H2 { s1 with heap := h6 } := inv (t := s1.toks) (up45.trans up6) fl6.1
    obtain ⟨oe, ws, hoe, hoec, hoed, _⟩ := fl6.first
    have hodd : oe.dict = od := by
      obtain ⟨o2, z1, z2⟩ := dz6
      rw [hoe] at z1
      cases z1
      exact z2
    have new : ObjOk X.prog X.w (upd H2 ea (ExcD ea C od)) h6 ea (ExcD ea C od) := ⟨⟨oe, ws, hoe, hoec, hoed, hodd⟩, ⟨oe, hoe⟩, fun g1 g2 ⟨o, vs, e1, e2, e3, e4⟩ k => ⟨o, vs, k _ e1, e2, e3, e4⟩⟩
    have none0 : X.s₀.heap.get? ea = none := by
      cases q : X.s₀.heap.get? ea with
      | none => rfl
      | some o =>
        exfalso
        have hx : ea ∉ X.ex := by rw [hx0]; simp
        obtain ⟨o1, e1⟩ := J1.base.there ea o q hx
        by_cases hb : ea ∈ frs X.stack
        · obtain ⟨_, o', q', d⟩ := fl6.2.2.1.mem (hst ▸ hb)
          rw [hoe] at q'; cases q'; exact d _ hoed
        · obtain ⟨⟨o', q'⟩, _⟩ := fy.kp ea o1 e1 hb
          rw [fl.2.1] at q'; cases q'
    have ne : ∀ {b : Addr} {u : HO}, H2 b = some u → b ≠ ea := fun {b u} e z => by rw [z, he2] at e; cases e
    have nL : X.env.locals ≠ ea := fun z => by
      obtain ⟨m, ⟨o, es, ep, ho, hd, _⟩, _⟩ := I6.loc
      rw [z] at ho
      have ho2 : h6.get? ea = some o := ho
      rw [hoe] at ho2; cases ho2; rw [hoed] at hd; cases hd
    have I7 : Inv X pins σ1 (upd H2 ea (ExcD ea C od)) { s1 with heap := h6 } := by
      refine ⟨I6.ok, I6.os, I6.bare, ⟨I6.base.keep, I6.base.slot, fun b o e n hx => ?_, I6.base.there, fun b xs e => ?_, fun b o u e => ?_, fun b ps e => ?_⟩, I6.loc, I6.cell, ?_, fun y c e => ?_, fun p hp => ?_, fun b u e => ?_, I6.len⟩
      · rw [upd_ne (fun z => by rw [z, none0] at e; cases e)]; exact I6.base.free b o e n hx
      · have q := I6.base.tups b xs e; rw [upd_ne (ne q)]; exact q
      · have q := I6.base.frzs b o u e; rw [upd_ne (ne q)]; exact q
      · obtain ⟨m, q⟩ := I6.base.tbls b ps e; exact ⟨m, by rw [upd_ne (ne q)]; exact q⟩
      · rw [upd_ne nL]; exact I6.free
      · have nC : c ≠ ea := fun z => by
          obtain ⟨v, o, ho, hd⟩ := I6.cell y c e
          rw [z] at ho
          have ho2 : h6.get? ea = some o := ho
          rw [hoe] at ho2; cases ho2; rw [hoed] at hd; cases hd
        rw [upd_ne nC]; exact I6.freeC y c e
      · obtain ⟨e, n, ne1, nf, d⟩ := I6.pin p hp
        obtain ⟨e0, n0, _, _, _⟩ := J1.pin p hp
        have np : p.1 ≠ ea := fun z => by
          have hb : p.1 ∉ frs X.stack := fun hm => (List.mem_cons.mp (J1.stkSub _ hm)).elim ne1 nf
          have q := (fy.kp p.1 p.2 e0 hb).2 n0
          rw [z, fl.2.1] at q; cases q
        exact ⟨e, by rw [upd_ne np]; exact n, ne1, nf, d⟩
      · by_cases hb : b = ea
        · subst hb; rw [upd_same] at e; cases e; exact new
        · rw [upd_ne hb] at e
          exact (I6.hok b u e).stay (fun c v _ q => q) (fun c q => by rw [upd_ne (ne q)]; exact q) fun c xs q => by rw [upd_ne (ne q)]; exact q
    refine store_ok (X := hcx X ea) (I7.toH ea) hN hi (.inl hl) (v := .ref ea) rfl (fun s7 I8 => ?_) (.inr hl)
    refine wpAny_mono (hs ea pins s7 _ _ (D.gone i) I8 (hth ea C rfl he2)) (fun fl8 s8 q8 => ?_) fun _ _ z => z.elim
    cases fl8 with
    | next =>
      obtain ⟨σ', H', J, q⟩ := q8
      exact goes_ok (J.ofH I.ok) hN hi hl fun s9 J9 => ⟨_, H', J9, q⟩
    | brk =>
      obtain ⟨σ', H', J, q⟩ := q8
      exact goes_ok (J.ofH I.ok) hN hi hl fun s9 J9 => ⟨_, H', J9, q⟩
    | cont =>
      obtain ⟨σ', H', J, q⟩ := q8
      exact goes_ok (J.ofH I.ok) hN hi hl fun s9 J9 => ⟨_, H', J9, q⟩
    | ret u =>
      obtain ⟨v, σ', H', J, r, q⟩ := q8
      exact goes_ok (J.ofH I.ok) hN hi hl fun s9 J9 => ⟨v, _, H', J9, r, q⟩
end
end L2
namespace L2
open PySem PySem.Spec PyProof.Rows
theorem excN_of {K : PySem.W.Frag} {C fI : Addr} (q : excInI K C fI = true) (sa : PySem.W.findIn K (.ref C) "__setattr__" = some (some (.builtin "object.__setattr__"))) : ExcN K C := by
  have key : ∃ cd, PySem.W.clsIn K C = some cd ∧ refsThen cd.mro = true ∧ cd.hasDict = true := by
    unfold excInI at q
    split at q
    · rename_i dd cd sl ho
      split at q
      · rename_i C' bm k0 k1 k2 k3 n k5 hm hs
        simp only [Bool.and_eq_true, beq_iff_eq, Bool.not_eq_true'] at q
        obtain ⟨⟨⟨⟨⟨⟨⟨rfl, rfl⟩, hdel⟩, hdc⟩, ht⟩, hok⟩, hni⟩, hrf⟩ := q
        refine ⟨cd, ?_, ?_, hdc⟩
        · unfold PySem.W.clsIn
          rw [ho]
        · rw [hm]
          exact hrf
      · cases q
    · cases q
  refine ⟨key, sa, ?_⟩
  obtain ⟨cd, h1, _, h2⟩ := key
  unfold PySem.W.hasDictIn
  rw [h1]
  exact h2
end L2
namespace L2
open PySem PySem.Spec PyProof.Rows PyProof
section
variable {X : Cx}
theorem call_strI : CallR X (.type "str") (fun xs H Q => ∃ i : Int, xs = [.int i] ∧ i.natAbs.log2 < 1920 ∧ Q (.str (toString i)) H) := by
  intro pins s σ H xs us Q I r h
  obtain ⟨i, rfl, hi, q⟩ := h
  obtain ⟨u, rfl, t, rfl⟩ := vals1 r
  exact PySem.P.str_of_int hi ⟨.str _, H, I.tok _, ⟨_, rfl⟩, q⟩
def cutS (z : Str) (lo hi : Option Int) : Str := ⟨((z.cps.toList.drop (HT.sIx z.length 0 lo)).take (HT.sIx z.length z.length hi - HT.sIx z.length 0 lo)).toArray⟩
theorem run_pick {α : Type} (xs : List α) (a : Nat) : ∀ n, (((List.range n).map fun k => a + k).filterMap fun i => xs[i]?) = (xs.drop a).take n
  | 0 => by simp
  | n + 1 => by
    rw [List.range_succ, List.map_append, List.filterMap_append, run_pick xs a n, List.take_succ, List.getElem?_drop]
    congr 1
theorem str_cut_len (z : Str) (lo hi : Option Int) : (Builtin.Str.strSliceIndices lo hi 1 z.length).length = HT.sIx z.length z.length hi - HT.sIx z.length 0 lo := by
  obtain ⟨h1, h2, h3⟩ := slice_bounds lo hi z.length
  have e : Builtin.Str.strSliceIndices lo hi 1 z.length = sliceRange ((HT.sIx z.length 0 lo : Nat) : Int) ((HT.sIx z.length z.length hi : Nat) : Int) 1 := by
    rw [← h1, ← h2]
    rfl
  rw [e]
  unfold sliceRange
  simp only [show ((1 : Int) > 0) by decide, if_true, Int.ediv_one, List.length_map, List.length_range]
  split <;> omega
theorem str_cut (z : Str) (lo hi : Option Int) : (Builtin.Str.strSliceIndices lo hi 1 z.length).filterMap (fun i => z.cps[i]?) = (z.cps.toList.drop (HT.sIx z.length 0 lo)).take (HT.sIx z.length z.length hi - HT.sIx z.length 0 lo) := by
  obtain ⟨h1, h2, h3⟩ := slice_bounds lo hi z.length
  have e : Builtin.Str.strSliceIndices lo hi 1 z.length = sliceRange ((HT.sIx z.length 0 lo : Nat) : Int) ((HT.sIx z.length z.length hi : Nat) : Int) 1 := by
    rw [← h1, ← h2]
    rfl
  rw [e]
  unfold sliceRange
  simp only [show ((1 : Int) > 0) by decide, if_true, Int.ediv_one]
  have e2 : ∀ k : Nat, (((HT.sIx z.length 0 lo : Nat) : Int) + 1 * (k : Int)).toNat = HT.sIx z.length 0 lo + k := fun k => by omega
  have e3 : (if ((HT.sIx z.length 0 lo : Nat) : Int) < ((HT.sIx z.length z.length hi : Nat) : Int) then ((HT.sIx z.length z.length hi : Nat) : Int) - ((HT.sIx z.length 0 lo : Nat) : Int) + 1 - 1 else 0).toNat = HT.sIx z.length z.length hi - HT.sIx z.length 0 lo := by
    split <;> omega
  rw [e3]
  have := run_pick z.cps.toList (HT.sIx z.length 0 lo) (HT.sIx z.length z.length hi - HT.sIx z.length 0 lo)
  rw [← this, List.filterMap_map, List.filterMap_map]
  congr 1
  funext k
  show z.cps[(((HT.sIx z.length 0 lo : Nat) : Int) + 1 * (k : Int)).toNat]? = z.cps.toList[HT.sIx z.length 0 lo + k]?
  rw [e2, Array.getElem?_toList]
theorem slice_le (o : Option Int) (n d : Nat) (hd : d ≤ n) : HT.sIx n d o ≤ n := HT.sIx_le n d hd o
theorem cutS_len (z : Str) (lo hi : Option Int) : (cutS z lo hi).length ≤ z.length := by
  show ((z.cps.toList.drop (HT.sIx z.length 0 lo)).take (HT.sIx z.length z.length hi - HT.sIx z.length 0 lo)).toArray.size ≤ z.cps.size
  rw [List.size_toArray, List.length_take, List.length_drop, Array.length_toList]
  omega
def rSlS : V → Option Int → Option Int → Hp → VK → Prop := fun x lo hi H Q => ∃ z : Str, x = .str z ∧ z.length ≤ sizeLine ∧ Q (.str (cutS z lo hi)) H
theorem part_of {v : Value} {o : Option Int} (h : IsPart v o) : ∃ q : Option (Int × Tok), v = partValue q ∧ o = q.map (·.1) := by
  cases h with
  | none => exact ⟨none, rfl, rfl⟩
  | int i t => exact ⟨some (i, t), rfl, rfl⟩
theorem sl_strS : SlR X rSlS := by
  intro pins s σ H x v vl vu lo hi sl Q I rx hs pl pu h
  obtain ⟨z, rfl, hz, q⟩ := h
  obtain ⟨t, rfl⟩ := rx
  obtain ⟨l, rfl, rfl⟩ := part_of pl
  obtain ⟨u, rfl, rfl⟩ := part_of pu
  refine ⟨"str", _, PySem.F.slot_str_getitem.lookup, typeIs_str s z t, ?_⟩
  refine wpAny_getItem_str_slice (l := l) (u := u) (st := none) hs (by decide) ?_
  have e : (slicePicked z l u none).filterMap (fun i => z.cps[i]?) = (cutS z (l.map (fun p => p.1)) (u.map (fun p => p.1))).cps.toList := by
    refine (str_cut z (l.map fun p => p.1) (u.map fun p => p.1)).trans ?_
    unfold cutS
    rfl
  have e2 : (⟨((slicePicked z l u none).filterMap (fun i => z.cps[i]?)).toArray⟩ : Str) = cutS z (l.map (fun p => p.1)) (u.map (fun p => p.1)) := by
    rw [e]
  unfold sliceMade
  by_cases c : ((((none : Option (Int × Tok)).map (fun p => p.1)).getD 1 == 1) && ((slicePicked z l u none).length == z.length)) = true
  · rw [if_pos c]
    have hl : (slicePicked z l u none).length = z.length := by
      rw [Bool.and_eq_true] at c
      simpa using c.2
    have hl2 := str_cut_len z (l.map fun p => p.1) (u.map fun p => p.1)
    have hl3 : (Builtin.Str.strSliceIndices (l.map fun p => p.1) (u.map fun p => p.1) 1 z.length).length = z.length := hl
    have ew : cutS z (l.map fun p => p.1) (u.map fun p => p.1) = z := by
      have le := slice_le (u.map fun p => p.1) z.length z.length (Nat.le_refl _)
      have le2 := slice_le (l.map fun p => p.1) z.length 0 (Nat.zero_le _)
      have hn : z.length = z.cps.toList.length := rfl
      have a0 : HT.sIx z.length 0 (l.map fun p => p.1) = 0 := by omega
      have b0 : HT.sIx z.length z.length (u.map fun p => p.1) = z.length := by omega
      unfold cutS
      rw [a0, b0, List.drop_zero, Nat.sub_zero, hn, List.take_length]
    rw [ew] at q
    exact ⟨.str _, H, I, ⟨_, rfl⟩, q⟩
  · rw [if_neg c]
    refine ⟨?_, .str _, H, I.tok _, ⟨_, rfl⟩, by rw [e2]; exact q⟩
    rw [e2]
    exact Nat.le_trans (cutS_len ..) hz
end
end L2
namespace L2
open PySem PySem.Spec PyProof.Rows PyProof
def Its (z : Str) : It := ⟨fun i _ => i < z.length, fun i H x H' => H' = H ∧ ∃ c, z.cps[i]? = some c ∧ x = .str ⟨#[c]⟩, fun i _ => z.length ≤ i⟩
theorem turn_str {P : Program} {w : World} {K : PySem.W.Frag} {tg : Expr} (it : Addr) (z : Str) (t0 : Tok) : Turn P w K tg (Its z) [it] it (fun i h => h.IsStrIter it "str_ascii_iterator" z t0 i) where
  mem := by simp
  obj := fun i h st b hb => by
    have e : b = it := by simpa using hb
    subst e
    obtain ⟨o, e, c, d⟩ := st
    exact ⟨o, e, fun v z => by rw [d] at z; cases z⟩
  keep := fun i h h' st k => by
    obtain ⟨o, e, c, d⟩ := st
    exact ⟨o, k it (by simp) o e, c, d⟩
  item := by
    intro X hP hw hK hc i pins s σ H E I hf st hg
    subst hP hw hK
    obtain ⟨f0, f1, f2, f3, f4, f5⟩ := hf it (by simp)
    have W := Walks.strAscii (prog := X.prog) (w := X.w) (I.ok.hd hc) it z t0
    refine W.item i s _ _ hg st fun v h' tk hv st' kk => ?_
    obtain ⟨c, u, hc2, rfl⟩ := hv
    have I1 : Inv X pins σ H { s with heap := h', toks := tk } := I.turned (fun b o hb e => kk b o (by simpa using hb) e) f0 f1 f3 f4 f5
    obtain ⟨o, e, cl, d⟩ := id st'
    exact ⟨_, rfl, go_of (s := { s with heap := h', toks := tk }) e cl d (by decide) ⟨.str ⟨#[c]⟩, H, I1, ⟨u, rfl⟩, ⟨rfl, c, hc2, rfl⟩, st', fun b hb => (hf b hb).1⟩⟩
  done := by
    intro X hP hw hK hc i pins s σ H E I hf st hg
    subst hP hw hK
    obtain ⟨f0, f1, f2, f3, f4, f5⟩ := hf it (by simp)
    exact wpAny_pyNext_ascii_end (I.ok.hd hc) st (Array.getElem?_eq_none hg) fun h' eb => ⟨rfl, I.turned (t' := s.toks) (fun b o hb e => eb b o hb e) f0 f1 f3 f4 f5⟩
  self := fun _ _ _ _ _ st h => wpAny_pyIter_striter_ascii st h
section
variable {X : Cx} {tg : Expr}
def iStr (tl : TE) : TI := fun σ H R => tl σ H fun x H1 => ∃ z : Str, x = .str z ∧ z.cps.all (· < 128) = true ∧ R (Its z) H1
theorem pi_str {l : Expr} {tl : TE} (hl : PE X l tl) : PI X tg l (iStr tl) := by
  intro pins s σ H R I h
  refine thn (hl pins s σ H _ I h) fun v s1 ⟨x, H1, I1, r1, q1⟩ => ?_
  obtain ⟨z, rfl, ha, q⟩ := q1
  obtain ⟨t, rfl⟩ := r1
  refine wpAny_pyIter_ascii ha ?_
  refine ⟨s1.heap.objs.size, [s1.heap.objs.size], _, _, H1, rfl, I1.kept (t' := s1.toks) fun b o e => Heap.get?_push_of_some _ e, turn_str _ z t, ⟨_, Heap.get?_push_size _ rfl, rfl, rfl⟩, fun b hb => ?_, q⟩
  have e : b = s1.heap.objs.size := by simpa using hb
  subst e
  exact I1.fpOk (Nat.le_refl _) (I1.hok.fresh (Nat.le_refl _))
theorem comp_str {z : Str} {g : TG} {tt : TT} {te : TE} {σ₀ : St} {H : Hp} {Q : VK} (Pv : Nat → List V → St → Hp → Prop) (h0 : Pv 0 [] σ₀ H) (hz : z.length ≤ sizeLine) (hn : ∀ i acc σ H, Pv i acc σ H → acc.length ≤ i)
    (hs : ∀ i c acc σ H, z.cps[i]? = some c → Pv i acc σ H → g (.str ⟨#[c]⟩) σ H fun σ2 H2 => tt σ2 H2 fun ok H3 => if ok = true then te σ2 H3 fun y H4 => Pv (i + 1) (acc ++ [y]) σ2 H4 else Pv (i + 1) acc σ2 H3)
    (hd : ∀ acc σ H, Pv z.length acc σ H → ∀ p, H p = none → Q (.ref p) (upd H p (.lst acc))) :
    CompGo (Its z) g tt te Q σ₀ H := by
  refine ⟨fun i m acc σ H => m = z.length - i ∧ i ≤ z.length ∧ Pv i acc σ H, ⟨z.length, by simp, Nat.zero_le _, h0⟩, ?_⟩
  rintro i m acc σ H ⟨rfl, hi, p⟩
  have hlen := hn i acc σ H p
  by_cases hlt : i < z.length
  · refine .inr ⟨hlt, by omega, Pv (i + 1), fun acc' σ' H' p' => ⟨z.length - (i + 1), by omega, rfl, hlt, p'⟩, fun x H' y => ?_⟩
    obtain ⟨e, c, hc, rfl⟩ := y
    subst e
    exact hs i c acc σ _ hc p
  · have e : i = z.length := by omega
    subst e
    exact .inl ⟨Nat.le_refl _, by omega, hd acc σ H p⟩
end
end L2
namespace L2
open PySem PySem.Spec PyProof.Rows
section
variable {X : Cx}
theorem vals_rev : ∀ {xs : List V} {us : List Value}, Vals xs us → Vals xs.reverse us.reverse
  | _, _, .nil => .nil
  | _, _, .cons r t => by
    rw [List.reverse_cons, List.reverse_cons]
    exact (vals_rev t).append (.cons r .nil)
end
end L2
namespace L2
open PySem PySem.Spec PyProof.Rows PyProof
section
variable {X : Cx}
theorem range_get {α : Type} : ∀ l : List α, (List.range l.length).filterMap (fun k => l[k]?) = l
  | [] => rfl
  | a :: t => by
    rw [List.length_cons, List.range_succ_eq_map, List.filterMap_cons, List.getElem?_cons_zero, List.filterMap_map]
    show a :: List.filterMap (fun k => (a :: t)[k + 1]?) (List.range t.length) = a :: t
    have : (fun k => (a :: t)[k + 1]?) = fun k => t[k]? := funext fun k => List.getElem?_cons_succ
    rw [this, range_get t]
theorem filterMap_same {α β : Type} {f g : α → Option β} : ∀ {l : List α}, (∀ x ∈ l, f x = g x) → l.filterMap f = l.filterMap g
  | [], _ => rfl
  | x :: t, h => by rw [List.filterMap_cons, List.filterMap_cons, h x (List.mem_cons_self ..), filterMap_same fun y hy => h y (List.mem_cons_of_mem _ hy)]
end
end L2
namespace L2
open PySem PyProof.Rows
section
variable {prog : Program} {w : World} {A : Around} {E : Value → Shared → Prop} {s : Shared}
set_option maxHeartbeats 3200000 in
theorem set_of_tuple {l : Addr} {items : Array Value} {ns : List Int} {Q : Value → Shared → Prop} (hh : A.handled = none) (hl : s.heap.IsTuple l items) (hi : IntsAre items.toList ns) (hb : items.size + 1 < scanBound)
    (h : ∀ (h' : Heap) (tk : Nat), metSet prog w (fun i => ns.getD i 0) items.size h' s.heap.objs.size → (∀ b o, b < s.heap.objs.size → s.heap.get? b = some o → h'.get? b = some o) → Q (.ref s.heap.objs.size) { s with heap := h', toks := tk }) :
    wpAny (model prog w) A (call (.type "set") [.ref l]) Q E s := by
  obtain ⟨c, tl, hmro⟩ := PySem.F.called_set.mro
  have hmade := PySem.F.called_set.made
  have hsub := PySem.F.called_set.sub
  refine wpAny_call (codeAny_of_tree ?_)
  show wpAny _ _ (callAny (.type "set") _) _ _ _
  refine wpAny_pure ⟨Code.quiet_builtin _ (by decide +kernel), codeAny_builtin PySem.F.entry_type_call ?_⟩
  rw [Around.under_plain (weight_type_call_type "set" [.ref l] []) rfl]
  have h1 := PySem.F.called_set.notType
  have h2 := PySem.F.called_set.canCreate
  have hct := PySem.F.typeCall_set_1 (.ref l)
  repeat (any_goals (first | assumption | wp_step))
  refine codeAny_mono (set_new_led (.ref l) (E := E) (Q := fun obj s₁ => obj = .ref s.heap.objs.size ∧ s₁ = { s with heap := s.heap.push (noSet w) }) ⟨rfl, rfl⟩) fun r s₁ hr => ?_
  cases r with
  | error e => exact hr
  | ok fl =>
    cases fl with
    | ret obj =>
      obtain ⟨rfl, rfl⟩ := hr
      have hS : (s.heap.push (noSet w)).get? s.heap.objs.size = some (noSet w) := Heap.get?_push_size _ rfl
      have hT : Shared.TypeIs { s with heap := s.heap.push (noSet w) } (.ref s.heap.objs.size) "set" := ⟨_, hS, rfl⟩
      have hli := PySem.F.called_set.init.lookup
      have hbi := PySem.F.called_set.init.bind (.ref s.heap.objs.size)
      repeat (any_goals (first | assumption | wp_step))
      refine codeAny_mono (codeAny_call_builtin (R := wants (fun r s₂ => r = .none ∧ ∃ h' tk, s₂ = { s with heap := h', toks := tk } ∧ metSet prog w (fun i => ns.getD i 0) items.size h' s.heap.objs.size ∧
          (∀ b o, b < s.heap.objs.size → s.heap.get? b = some o → h'.get? b = some o)) E) PySem.F.called_set.init.plain PySem.F.entry_set_init (check_set_init_1 hT ?_)) fun r₂ s₂ hr₂ => ?_
      · obtain ⟨ol, hol, hcl, nl, hdl⟩ := id hl
        have hol' : (s.heap.push (noSet w)).get? l = some ol := Heap.get?_push_of_some _ hol
        have hTl : Shared.TypeIs { s with heap := s.heap.push (noSet w) } (.ref l) "tuple" := ⟨ol, hol', hcl⟩
        have hsls := PySem.F.sub_tuple_set
        have hslf := PySem.F.sub_tuple_frozenset
        have hne : (Value.type "tuple" == Value.type "dict") = false := by decide
        have hl1 : (s.heap.push (noSet w)).IsTuple l items := hl.at fun o e => Heap.get?_push_of_some _ e
        unfold Builtin.«set.__init__» noKeywords Builtin.Frozenset.updateFrom
        generalize hPI : pyIter = PI
        wp_walk
        subst hPI
        refine wpAny_pyIter_tuple hl1 (wpAny_bind (wpAny_runValue ?_))
        have hlS : l < s.heap.objs.size := Heap.lt_size hol
        have hneI : l ≠ (s.heap.push (noSet w)).objs.size := by rw [Heap.size_push]; exact Nat.ne_of_lt (Nat.lt_succ_of_lt hlS)
        have hSf : s.heap.objs.size ∉ [(s.heap.push (noSet w)).objs.size, l] := by
          rw [Heap.size_push]
          simp only [List.mem_cons, List.not_mem_nil, or_false, not_or]
          exact ⟨Nat.ne_of_lt (Nat.lt_succ_self _), Nat.ne_of_gt hlS⟩
        refine updLoopX ((Walks.tuple (by simpa using hh) _ l hneI items).toS) s.heap.objs.size hSf (fun i => ns.getD i 0) (fun i v hv => PyProof.Rows.IntsAre.int_at hi i v (by rw [Array.getElem?_toList]; exact hv)) hb (items.size - 0) 0 _ (by omega) (Nat.zero_le _)
          ⟨⟨_, Heap.get?_push_size _ rfl, rfl, rfl⟩, (hl1.at fun o e => Heap.get?_push_of_some _ e)⟩ ?hS0 ?hR
        case hS0 =>
          exact ((SetX.new (knd := intKind prog w) s.heap rfl).congr (fun _ => rfl) rfl).of_get fun o e => Heap.get?_push_of_some _ e
        case hR =>
          intro s' m x
          obtain ⟨h', g', d', tk', os'⟩ := s'
          have eg : g' = s.gens := m.gens
          have ed : d' = s.drawn := m.drawn
          have eo : os' = s.os := m.os
          subst eg ed eo
          show wpAny _ _ _ _ _ _
          refine wpAny_pure ?_
          show wpAny _ _ (ret Value.none) _ _ _
          refine wpAny_pure ⟨rfl, h', tk', rfl, x, fun b o q e => ?_⟩
          refine m.heap b o ?_ (Heap.get?_push_of_some _ (Heap.get?_push_of_some _ e))
          simp only [List.mem_cons, List.not_mem_nil, or_false, not_or]
          refine ⟨Nat.ne_of_lt q, ?_⟩
          rw [Heap.size_push]
          exact Nat.ne_of_lt (Nat.lt_succ_of_lt q)
      · cases r₂ with
        | error e => exact hr₂
        | ok fl₂ =>
          cases fl₂ with
          | ret r =>
            obtain ⟨rfl, h', tk, rfl, x, kp⟩ := hr₂
            repeat (any_goals (first | assumption | wp_step))
            exact h _ _ x kp
          | _ => exact hr₂.elim
    | _ => exact hr.elim
end
end L2
namespace L2
open PySem PySem.Spec PyProof.Rows
section
variable {X : Cx}
def rSetT (K : PySem.W.Frag) (P : Program) (w : World) : List V → Hp → VK → Prop := fun xs H Q => ∃ (p : Addr) (ns : List Int), xs = [.ref p] ∧ SqT K H p (ns.map V.int) ∧ ns.length < 4000 ∧ ∀ l, H l = none → Q (.ref l) (upd H l (SetP P w l ns))
theorem call_setTK (K : PySem.W.Frag) (P : Program) (w : World) (hc : X.calm = true) (h : X.K = K := by rfl) (hP : X.prog = P := by rfl) (hw : X.w = w := by rfl) : CallR X (.type "set") (rSetT K P w) := by
  subst h hP hw
  intro pins s σ H xs us Q I r h
  obtain ⟨p, ns, rfl, hq, hlt, q⟩ := h
  obtain ⟨u, rfl, rx⟩ := vals1 r
  cases rx
  obtain ⟨its, r', pl, hz⟩ := I.tuple hq
  have hi : IntsAre its ns := intsAre_of r'
  have hlen : its.length = ns.length := hi.length
  refine set_of_tuple (I.ok.hd hc) (show s.heap.IsTuple p its.toArray from pl) (ns := ns) (by simpa using hi) (by show its.toArray.size + 1 < 4096; rw [List.size_toArray]; omega) fun h' tk x kp => ?_
  have x' : SetX (intKind X.prog X.w) h' s.heap.objs.size (fun k => decide (k ∈ ns)) (sortU ns).length := x.congr (fun k => by
    rw [List.size_toArray, hlen]; exact firstMet_mem ns k) (by rw [List.size_toArray, hlen]; exact firstMet_len ns)
  have he : ∃ o, h'.get? s.heap.objs.size = some o := let ⟨o, _, _, _, e, _⟩ := x'; ⟨o, e⟩
  exact ⟨.ref s.heap.objs.size, _, I.laid (t' := tk) (o := SetO X s.heap.objs.size ns) (fun b o e => kp b o (Heap.lt_size e) e) (Nat.le_refl _) ⟨x', he, fun h1 h2 y k => y.of_get k⟩, rfl, q _ (I.hok.fresh (Nat.le_refl _))⟩
theorem ty_kit {pins : List (Addr × Obj)} {σ : St} {H : Hp} {s : Shared} {x : V} {u t : Value} (I : Inv X pins σ H s) (rx : RelV x u) (ty : TyOf X.K H x t) : ∃ Hh : Heap → Prop, PySem.W.KitX X.K u t Hh ∧ Hh s.heap ∧ u ≠ .builtin "__main__.__loader__#opaque" := by
  cases ty with
  | non => cases (show u = Value.none from rx); exact ⟨_, PySem.W.kitx_none, True.intro, fun z => nomatch z⟩
  | bl y => cases (show u = Value.bool y from rx); exact ⟨_, PySem.W.kitx_bool, True.intro, fun z => nomatch z⟩
  | int i => obtain ⟨t, q⟩ := (show ∃ t, u = Value.int i t from rx); cases q; exact ⟨_, PySem.W.kitx_int, True.intro, fun z => nomatch z⟩
  | str y => obtain ⟨t, q⟩ := (show ∃ t, u = Value.str y t from rx); cases q; exact ⟨_, PySem.W.kitx_str, True.intro, fun z => nomatch z⟩
  | flt y => obtain ⟨t, q⟩ := (show ∃ t, u = Value.float y t from rx); cases q; exact ⟨_, PySem.W.kitx_float, True.intro, fun z => nomatch z⟩
  | @lst a xs ea =>
    cases (show u = Value.ref a from rx)
    obtain ⟨_, _, n, _, h1⟩ := (show ObjOk X.prog X.w H s.heap a (.lst xs) from I.hok a _ ea)
    exact ⟨_, PySem.W.kitx_list, ⟨_, h1, rfl⟩, fun z => nomatch z⟩
  | @frz a ob xs ea =>
    cases (show u = Value.ref a from rx)
    obtain ⟨_, _, _, n, _, h1⟩ := (show ObjOk X.prog X.w H s.heap a (.frz ob (.lst xs)) from I.hok a _ ea)
    exact ⟨_, PySem.W.kitx_list, ⟨_, h1, rfl⟩, fun z => nomatch z⟩
  | @tup a xs ea =>
    cases (show u = Value.ref a from rx)
    obtain ⟨_, _, _, p⟩ := (show ObjOk X.prog X.w H s.heap a (.tup xs) from I.hok a _ ea)
    obtain ⟨o, h1, h2, _⟩ := p
    exact ⟨_, PySem.W.kitx_tuple, ⟨o, h1, h2⟩, fun z => nomatch z⟩
  | @dK a kvs ea =>
    cases (show u = Value.ref a from rx)
    obtain ⟨_, _, vs, _, p⟩ := (show ObjOk X.prog X.w H s.heap a (.dK kvs) from I.hok a _ ea)
    obtain ⟨o, es, ep, h1, h2, _⟩ := p
    exact ⟨_, PySem.W.kitx_dict, ⟨o, h1, h2.1⟩, fun z => nomatch z⟩
  | @dT a kvs ea =>
    cases (show u = Value.ref a from rx)
    obtain ⟨_, _, xs, _, o, es, ep, h1, h2, _⟩ := (show ObjOk X.prog X.w H s.heap a (.dT kvs) from I.hok a _ ea)
    exact ⟨_, PySem.W.kitx_dict, ⟨o, h1, h2.1⟩, fun z => nomatch z⟩
  | @ins a C dx fs ea cl ha hn htk hm =>
    cases (show u = Value.ref a from rx)
    obtain ⟨mA, O, _⟩ := ins_get I.hok ea
    obtain ⟨od, J, _⟩ := O.look
    exact ⟨_, PySem.W.kitx_own (cl.get _) cl.hd ha hn htk hm, J, fun z => nomatch z⟩
def rIsinstT (K : PySem.W.Frag) : List V → Hp → VK → Prop := fun xs H Q => ∃ v p t T1 T2 b1 b2, xs = [v, .ref p] ∧ H p = some (.tup [.ty T1, .ty T2]) ∧ TyOf K H v t ∧ PySem.W.kitOne K t (.type T1) = some b1 ∧ PySem.W.kitOne K t (.type T2) = some b2 ∧ Q (.bl (b1 || b2)) H
theorem call_isinstTK (K : PySem.W.Frag) (h : X.K = K := by rfl) : CallR X (.builtin "isinstance") (rIsinstT K) := by
  subst h
  intro pins s σ H xs us Q I r h
  obtain ⟨v, p, t, T1, T2, b1, b2, rfl, hp, ty, e1, e2, q⟩ := h
  obtain ⟨u, u', rfl, r1, r2⟩ := vals2 r
  cases r2
  obtain ⟨Hh, Z, zh, hx⟩ := ty_kit I r1 ty
  obtain ⟨_, its, rv, pl⟩ := (show ObjOk X.prog X.w H s.heap p (.tup [.ty T1, .ty T2]) from I.hok p _ hp)
  obtain ⟨w1, w2, rfl, q1, q2⟩ := vals2 rv
  cases q1
  cases q2
  obtain ⟨⟨oc, od, dat, sl⟩, g1, g2, n, g3⟩ := pl
  simp only at g2 g3
  subst g2 g3
  have ka : PySem.W.kitAny X.K t [.type T1, .type T2] = some (b1 || b2) := by
    unfold PySem.W.kitAny
    rw [e1]
    cases b1 with
    | true => rfl
    | false =>
      show PySem.W.kitAny X.K t [.type T2] = some b2
      unfold PySem.W.kitAny
      rw [e2]
      cases b2 <;> rfl
  exact PySem.W.kia_tup Z I.kIn zh g1 ka hx fun tk => ⟨.bl (b1 || b2), H, I.tok _, rfl, q⟩
def selfV : V → Bool
  | .int _ | .bl _ | .non | .ref _ => true
  | _ => false
theorem self_eq {A : Around} {s : Shared} {x : V} {u v : Value} (h : selfV x = true) (ru : RelV x u) (rv : RelV x v) : SeqAt.EqAt A s u v true := by
  cases x with
  | int i =>
    obtain ⟨t, rfl⟩ := ru
    obtain ⟨t', rfl⟩ := rv
    have := SeqAt.EqAt.int_int (A := A) (s := s) i t i t'
    rwa [beq_self_eq_true] at this
  | bl b => cases ru; cases rv; exact SeqAt.EqAt.same _
  | non => cases ru; cases rv; exact SeqAt.EqAt.same _
  | ref a => cases ru; cases rv; exact SeqAt.EqAt.same _
  | _ => cases h
end
end L2
open PySem
namespace L2
variable {X : Cx}
end L2
namespace L2
open PySem PySem.Spec PyProof.Rows PyProof
section
variable {X : Cx}
def startsB (z y : Str) : Bool := decide (0 + y.length ≤ z.length) && Builtin.Str.subAt z y 0
def rStartsS : V → List V → Hp → VK → Prop := fun x vs H Q => ∃ z y : Str, x = .str z ∧ vs = [.str y] ∧ Q (.bl (startsB z y)) H
theorem mt_startsS : MtR X "str.startswith" rStartsS := by
  intro pins s σ H x vs v us Q I rx rv h
  obtain ⟨z, y, rfl, rfl, q⟩ := h
  obtain ⟨t, rfl⟩ := rx
  obtain ⟨u, rfl, ru⟩ := rv.one
  obtain ⟨t2, rfl⟩ := ru
  exact call_gives PySem.F.slot_str_startswith rfl PySem.F.entry_str_startswith (PySem.F.args_str_startswith_2 _ _) (gives_str_startswith z y t t2) ⟨.bl _, H, I.tok _, rfl, q⟩
end
end L2
namespace L2
open PySem PySem.Spec PyProof.Rows PyProof
section
variable {X : Cx} {k n : Nat} {C : Addr} {ps : List Str} {dvs : List V} {kb : FuncData → Prop} {sp : Sp} {x m : Str} {p pos apos kpos : Pos} {e o : Expr} {es : List Expr} {ta te : TE} {t : TA} {E : St → XK}
theorem flat_eq {A : Around} {s : Shared} {x : V} {u v : Value} (h : flatV x = true) (ru : RelV x u) (rv : RelV x v) : SeqAt.EqAt A s u v true := by
  cases x with
  | int i => exact self_eq rfl ru rv
  | bl b => exact self_eq rfl ru rv
  | non => exact self_eq rfl ru rv
  | str z =>
    obtain ⟨t, rfl⟩ := ru
    obtain ⟨t', rfl⟩ := rv
    have := SeqAt.EqAt.str_str (A := A) (s := s) z t z t'
    rwa [beq_self_eq_true] at this
  | _ => cases h
end
end L2
namespace HT
open PySem PySem.Spec PyProof.Rows PyProof
section
variable {prog : Program} {w : World} {A : Around} {E : Value → Shared → Prop} {s : Shared}
theorem applied_rev {sl : Addr} {t : Tok} {n : Nat} {Q : Int × Int × Nat → Shared → Prop} (hs : s.heap.IsSliceOf sl .none .none (.int (-1) t))
    (h : Q (((n : Nat) : Int) - 1, -1, n) s) : wpAny (model prog w) A (Builtin.Slice.sliceApplied (.ref sl) (pure (n : Int))) Q E s := by
  obtain ⟨os, hos, hcs, hds⟩ := id hs
  unfold Builtin.Slice.sliceApplied Builtin.Slice.sliceFields
  refine wpAny_bind (wpAny_bind (wpAny_field hos hds (x := .none) rfl (wpAny_bind (wpAny_field hos hds (x := .none) rfl (wpAny_bind (wpAny_field hos hds (x := .int (-1) t) rfl (wpAny_pure ?_)))))))
  refine wpAny_bind (slicePart_ (.int (-1) t) ?_)
  show wpAny _ _ (if ((-1 : Int) == 0) = true then _ else _) _ _ s
  rw [if_neg (by decide)]
  refine wpAny_bind (slicePart_ .none (wpAny_bind (slicePart_ .none (wpAny_bind (wpAny_pure ?_)))))
  show wpAny _ _ (match Builtin.Slice.sliceAdjust none none (-1) (n : Int) with | (lo, hi) => pure (lo, (-1 : Int), Builtin.Slice.slicePlaces lo hi (-1))) _ _ s
  have e : Builtin.Slice.sliceAdjust none none (-1) (n : Int) = ((n : Int) - 1, -1) := rfl
  rw [e]
  show wpAny _ _ (pure ((n : Int) - 1, (-1 : Int), Builtin.Slice.slicePlaces ((n : Int) - 1) (-1) (-1))) _ _ s
  have e2 : Builtin.Slice.slicePlaces ((n : Int) - 1) (-1) (-1) = n := by
    unfold Builtin.Slice.slicePlaces
    rw [if_neg (by decide)]
    split
    · rw [show (- -1 : Int) = 1 by decide, Int.ediv_one]
      omega
    · omega
  rw [e2]
  exact wpAny_pure h
theorem pick_back (xs : Array Value) : ((List.range xs.size).filterMap fun (m : Nat) => xs[(((xs.size : Nat) : Int) - 1 + (m : Int) * -1).toNat]?).toArray = xs.toList.reverse.toArray := by
  congr 1
  have := L2.range_get xs.toList.reverse
  rw [List.length_reverse, Array.length_toList] at this
  rw [← this]
  refine L2.filterMap_same fun k hk => ?_
  have hk' := List.mem_range.mp hk
  rw [List.getElem?_reverse (by rw [Array.length_toList]; exact hk'), Array.length_toList, show (((xs.size : Nat) : Int) - 1 + (k : Int) * -1).toNat = xs.size - 1 - k by omega]
  simp
theorem getItem_tuple_rev {t sl : Addr} {items : Array Value} {tk : Tok} {Q : Value → Shared → Prop} (ht : IsTup s.heap t items) (hs : s.heap.IsSliceOf sl .none .none (.int (-1) tk))
    (h : Q (.ref s.heap.objs.size) { s with heap := s.heap.push { cls := .type "tuple", data := .seq items.toList.reverse.toArray } })
    (hsz : items.size ≤ sizeLine) : wpAny (model prog w) A (getItem (.ref t) (.ref sl)) Q E s := by
  have htake : sizeOk (.seq items.toList.reverse.toArray) := by
    show items.toList.reverse.toArray.size ≤ sizeLine
    rw [List.size_toArray, List.length_reverse, Array.length_toList]
    exact hsz
  obtain ⟨os, hos, hcs, hds⟩ := id hs
  have hTs : s.TypeIs (.ref sl) "slice" := ⟨os, hos, hcs⟩
  unfold getItem
  try with_reducible refine wpAny_holding ?_
  first | refine wpAny_bind (wpAny_pure ?_) | skip
  refine wpAny_bind (wpAny_sequenceKey ht.typeIs (by decide) ?_)
  refine wpAny_bind (wpAny_callSpecial?_slot (name := Str.ofString "__getitem__") ht.typeIs PyProof.Rows.slot_tuple_getitem
    (wpAny_call_entry PyProof.Rows.slot_tuple_getitem ht.typeIs entry_tuple_getitem ?_ (args_tuple_getitem _ _)))
  show wpAny _ _ (Builtin.Tuple.tupleItemsOf (.ref t) >>= _) _ _ s
  refine wpAny_bind (tupleItemsOf_ ht ?_)
  refine wpAny_bind (wpAny_typeOf hTs ?_)
  rw [if_pos (by decide)]
  refine wpAny_bind (applied_rev hs ?_)
  show wpAny _ _ (if ((((items.size : Nat) : Int) - 1) == 0 && (-1 : Int) == 1 && items.size == items.size) = true then _ else _) _ _ s
  rw [if_neg (by simp), pick_back]
  first
    | exact wpAny_bind (m := Builtin.Tuple.tupleExact _) (wpAny_newObj_type (wpAny_pure ⟨_, rfl, wpAny_pure h⟩) htake)
    | exact wpAny_bind (m := Builtin.Tuple.tupleExact _) (wpAny_newObj_type (wpAny_bind (wpAny_pure (wpAny_pure ⟨_, rfl, wpAny_pure h⟩))) htake)
    | exact wpAny_bind (wpAny_bind (m := Builtin.Tuple.tupleExact _) (wpAny_newObj_type (wpAny_pure (wpAny_pure ⟨_, rfl, wpAny_pure h⟩)) htake))
    | exact wpAny_bind (wpAny_bind (m := Builtin.Tuple.tupleExact _) (wpAny_newObj_type (wpAny_pure ⟨_, rfl, wpAny_pure h⟩) htake))
theorem min_intTup {l : Addr} {xs : Array (Int × Tok)} {Q : Value → Shared → Prop} (hh : A.handled = none) (hl : s.heap.IsTuple l (intItems xs)) (hne : 0 < xs.size)
    (h : ∀ v h' tk, (intItems xs)[argBest (fun i j => decide (numAt xs i < numAt xs j)) (xs.size - 1)]? = some v → (∀ b o, s.heap.get? b = some o → h'.get? b = some o) → Q v { s with heap := h', toks := tk }) :
    wpAny (model prog w) A (call (.builtin "min") [.ref l]) Q E s := by
  have hlt : l < s.heap.objs.size := by obtain ⟨_, e, _⟩ := hl; exact Heap.lt_size e
  refine call_min_walk (wpAny_pyIter_tuple hl ?_)
  refine ⟨_, [_, l], [_], _, _, _, _, rfl, Walks.tuple (A := A.in1) hh _ l (Nat.ne_of_lt hlt) (intItems xs), ⟨⟨_, Heap.get?_push_size _ rfl, rfl, rfl⟩, hl.push _⟩, fun c hc => ?_, by simpa [intItems] using hne, CmpOf.ints_lt (numAt xs) (fun _ _ => intItems_at), fun v h' tk hP hk => ?_⟩
  · show c < (s.heap.push _).objs.size
    rw [Heap.size_push]
    rcases List.mem_cons.mp hc with rfl | hc
    · exact Nat.lt_succ_self _
    · rcases List.mem_cons.mp hc with rfl | hc
      · exact Nat.lt_succ_of_lt hlt
      · cases hc
  · refine h v h' tk (by simpa [intItems] using hP) fun b o e => ?_
    refine hk b o (fun hm => ?_) (Heap.get?_push_of_some _ e)
    rcases List.mem_cons.mp hm with e1 | hm
    · exact absurd (e1 ▸ Heap.lt_size e) (Nat.lt_irrefl _)
    · cases hm
end
end HT
namespace L2
open PySem PySem.Spec PyProof.Rows PyProof
section
variable {X : Cx}
def tRevT (K : PySem.W.Frag) (te ts : TE) : TE := fun σ H Q => te σ H fun x H1 => ts σ H1 fun y H2 => ∃ a xs, y = .int (-1) ∧ x = .ref a ∧ SqT K H2 a xs ∧ ∀ p, H2 p = none → Q (.ref p) (upd H2 p (.tup xs.reverse))
theorem pe_revT {e st : Expr} {te ts : TE} {pos p2 : Pos} (K : PySem.W.Frag) (he : PE X e te) (hs : PE X st ts) (h : X.K = K := by rfl) : PE X (.Subscript e (.Slice none none (some st) p2) pos) (tRevT K te ts) := by
  subst h
  intro pins s σ H Q I h
  refine Subscript_ (thn (he pins s σ H _ I h) fun v s1 ⟨x, H1, I1, r1, q1⟩ => ?_)
  refine wpAny_Slice ?_
  rw [evalPart_none]
  refine wpAny_pure (wpAny_pure ?_)
  rw [evalPart_some]
  refine thn (hs pins s1 σ H1 _ I1 q1) fun u s2 ⟨y, H2, I2, r2, q2⟩ => ?_
  obtain ⟨a, xs, rfl, rfl, hx, q⟩ := q2
  obtain ⟨t, rfl⟩ := r2
  cases r1
  have I3 : Inv X pins σ H2 { s2 with heap := s2.heap.push { cls := .type "slice", data := .fields #[.none, .none, .int (-1) t] } } := I2.kept (t' := s2.toks) fun b ob q => Heap.get?_push_of_some _ q
  obtain ⟨its, r, ht, hz⟩ := I3.tuple hx
  have hlen := r.length
  show wpAny (model X.prog X.w) X.A (subscriptTail e (.Slice none none (some st) p2) (.ref a) (.ref s2.heap.objs.size)) (EP X pins σ Q) X.xe { s2 with heap := s2.heap.push { cls := .type "slice", data := .fields #[.none, .none, .int (-1) t] } }
  refine tail_any (ops := [.ref a, .ref s2.heap.objs.size]) ht.typeIs PyProof.Rows.slot_tuple_getitem.lookup ?_ (by with_unfolding_all rfl)
  refine HT.getItem_tuple_rev ht (Heap.IsSliceOf.new ..) ?_ (by rw [List.size_toArray] <;> omega)
  refine ⟨.ref _, _, I3.laid (t' := s2.toks) (o := .tup xs.reverse) (fun b ob q => Heap.get?_push_of_some _ q) (Nat.le_refl _) ?_, rfl, q _ (I3.hok.fresh (Nat.le_refl _))⟩
  exact ⟨by rw [List.length_reverse]; exact hz, _, vals_rev r, IsTup.new _ _⟩
def sameV : V → Bool
  | .int _ | .bl _ | .non | .ref _ | .str _ => true
  | _ => false
theorem same_eq {A : Around} {s : Shared} {x : V} {u v : Value} (h : sameV x = true) (ru : RelV x u) (rv : RelV x v) : SeqAt.EqAt A s u v true := by
  cases x with
  | int i => exact self_eq rfl ru rv
  | bl b => exact self_eq rfl ru rv
  | non => exact self_eq rfl ru rv
  | ref a => exact self_eq rfl ru rv
  | str z => exact flat_eq rfl ru rv
  | _ => cases h
def rSame (K : PySem.W.Frag) (b : Bool) : R2 := fun x y H Q => ∃ (a c : Addr) (xs : List V), x = .ref a ∧ y = .ref c ∧ SqL K H a xs ∧ SqL K H c xs ∧ xs.all sameV = true ∧ Q (.bl b) H
theorem op_neSamK (K : PySem.W.Frag) (hu : X.A.units < cLine) (h : X.K = K := by rfl) : OpR X (compareOp .NotEq) (rSame K false) := by
  subst h
  intro pins s σ H x y v u Q I rx ry h
  obtain ⟨a, b, xs, rfl, rfl, ha, hb, hr, q⟩ := h
  cases rx
  cases ry
  obtain ⟨us, r1, p1, _⟩ := I.list ha
  obtain ⟨vs, r2, p2, _⟩ := I.list hb
  have l1 := r1.length
  have l2 := r2.length
  refine SeqAt.RcNeAt.lists (e := fun j => true) p1.isList p2.isList (by simp only [List.size_toArray]; omega) (by omega) (fun j h1 h2 => ?_) X.prog X.w X.xe _ ?_
  · rw [List.size_toArray] at h1 h2
    have e1 : xs[j]? = some (xs[j]'(by omega)) := List.getElem?_eq_getElem _
    obtain ⟨u, w1, s1⟩ := r1.get e1
    obtain ⟨v, w2, s2⟩ := r2.get e1
    have z1 : us.toArray[j] = u := by rw [List.getElem?_eq_getElem h1] at w1; simpa using w1
    have z2 : vs.toArray[j] = v := by rw [List.getElem?_eq_getElem h2] at w2; simpa using w2
    rw [z1, z2]
    exact same_eq (List.all_eq_true.mp hr _ (List.getElem_mem _)) s1 s2
  · have : ((List.range us.toArray.size).all fun _ => true) = true := by simp
    rw [this]
    exact ⟨.bl false, H, I, rfl, q⟩
theorem op_eqSamK (K : PySem.W.Frag) (hu : X.A.units < cLine) (h : X.K = K := by rfl) : OpR X (compareOp .Eq) (rSame K true) := by
  subst h
  intro pins s σ H x y v u Q I rx ry h
  obtain ⟨a, b, xs, rfl, rfl, ha, hb, hr, q⟩ := h
  cases rx
  cases ry
  obtain ⟨us, r1, p1, _⟩ := I.list ha
  obtain ⟨vs, r2, p2, _⟩ := I.list hb
  have l1 := r1.length
  have l2 := r2.length
  refine SeqAt.RcAt.lists (e := fun j => true) p1.isList p2.isList (by simp only [List.size_toArray]; omega) (by omega) (fun j h1 h2 => ?_) X.prog X.w X.xe _ ?_
  · rw [List.size_toArray] at h1 h2
    have e1 : xs[j]? = some (xs[j]'(by omega)) := List.getElem?_eq_getElem _
    obtain ⟨u, w1, s1⟩ := r1.get e1
    obtain ⟨v, w2, s2⟩ := r2.get e1
    have z1 : us.toArray[j] = u := by rw [List.getElem?_eq_getElem h1] at w1; simpa using w1
    have z2 : vs.toArray[j] = v := by rw [List.getElem?_eq_getElem h2] at w2; simpa using w2
    rw [z1, z2]
    exact same_eq (List.all_eq_true.mp hr _ (List.getElem_mem _)) s1 s2
  · have : ((List.range us.toArray.size).all fun _ => true) = true := by simp
    rw [this]
    exact ⟨.bl true, H, I, rfl, q⟩
def rMinT (K : PySem.W.Frag) : List V → Hp → VK → Prop := fun xs H Q => ∃ (l : Addr) (ns : List Int), xs = [.ref l] ∧ SqT K H l (ns.map V.int) ∧ ns ≠ [] ∧ ∀ M, M ∈ ns → (∀ a ∈ ns, M ≤ a) → Q (.int M) H
theorem call_minTK (K : PySem.W.Frag) (hc : X.calm = true) (h : X.K = K := by rfl) : CallR X (.builtin "min") (rMinT K) := by
  subst h
  intro pins s σ H xs us Q I r h
  obtain ⟨l, ns, rfl, hq, hne, q⟩ := h
  obtain ⟨u, rfl, rx⟩ := vals1 r
  cases rx
  obtain ⟨its, r', pl, hz⟩ := I.tuple hq
  have hi : IntsAre its ns := intsAre_of r'
  obtain ⟨xs, e⟩ := hi.allInts.items
  have hns : ns = xs.toList.map (·.1) := by rw [← hi.numsOf, ← nums_intItems, ← e]
  have hsz : 0 < xs.size := by
    have h3 := List.length_pos_iff.mpr hne
    rw [hns, List.length_map, Array.length_toList] at h3; exact h3
  have hl : s.heap.IsTuple l its.toArray := pl
  rw [e] at hl
  refine HT.min_intTup (I.ok.hd hc) hl hsz fun v h' tk hv hk => ?_
  obtain ⟨t, rfl⟩ := intItems_at hv
  obtain ⟨h1, h2⟩ := argBest_lt (numAt xs) (xs.size - 1)
  refine ⟨.int _, H, I.kept hk, ⟨t, rfl⟩, q _ ?_ fun a ha => ?_⟩
  · rw [hns, numAt_eq]; exact getD_mem (by rw [List.length_map, Array.length_toList]; omega)
  · rw [hns] at ha
    obtain ⟨j, hj, rfl⟩ := mem_getD ha
    rw [List.length_map, Array.length_toList] at hj
    rw [← numAt_eq]; exact h2 j (by omega)
end
end L2
namespace My
open PySem L2 PyProof.Rows
seal PE PT PW PA PS PSs PG PGs PI PIfs PO OpR UnR CallR TruR IxR SlR MtR MtM
def top (i : Nat) : Stmt := PySem.Challenge.pw_crossracks_k61_books.main.body.getD i (.Pass ⟨0, 0, 0, 0⟩)
structure Txt (K : PySem.W.Frag) (mg : Str → Option Value) : Prop where
  m_len : mg "len" = none
  m_isinstance : mg "isinstance" = none
  m_int : mg "int" = none
  m_bool : mg "bool" = none
  m_tuple : mg "tuple" = none
  m_list : mg "list" = none
  m_str : mg "str" = none
  m_range : mg "range" = none
  m_abs : mg "abs" = none
  m_min : mg "min" = none
  m_set : mg "set" = none
  m_all : mg "all" = none
  m_any : mg "any" = none
  m_enumerate : mg "enumerate" = none
  m_ValueError : mg "ValueError" = none
  s_FIGURES : ∃ t : Tok, mg "FIGURES" = some (.str "0123456789" t)
  s_MOST_ROWS : ∃ t : Tok, mg "MOST_ROWS" = some (.int 40 t)
  s_MOST_FIGURES : ∃ t : Tok, mg "MOST_FIGURES" = some (.int 8 t)
  s_MOST_ENDS : ∃ t : Tok, mg "MOST_ENDS" = some (.int 8 t)
structure TxtC (K : PySem.W.Frag) (mg : Str → Option Value) (C_HallError : Addr) (C_NoLine : Addr) (C_NoBook : Addr) (C_NoFigure : Addr) (C_NoTurn : Addr) (C_NoKind : Addr) (C_NoRank : Addr) (C_Out : Addr) (C_NoDeed : Addr) : Prop where
  mg_HallError : mg "HallError" = some (.ref C_HallError)
  mg_NoLine : mg "NoLine" = some (.ref C_NoLine)
  mg_NoBook : mg "NoBook" = some (.ref C_NoBook)
  mg_NoFigure : mg "NoFigure" = some (.ref C_NoFigure)
  mg_NoTurn : mg "NoTurn" = some (.ref C_NoTurn)
  mg_NoKind : mg "NoKind" = some (.ref C_NoKind)
  mg_NoRank : mg "NoRank" = some (.ref C_NoRank)
  mg_Out : mg "Out" = some (.ref C_Out)
  mg_NoDeed : mg "NoDeed" = some (.ref C_NoDeed)
  i_NoBook : ∃ fI, ExcI K mg "NoBook" C_NoBook fI
  n_NoBook : ExcN K C_NoBook
  x_NoBook : ExcX K C_NoBook
  kv_NoBook : PySem.W.kitOne K (.ref C_NoBook) (.type "ValueError") = some true
  kh_NoBook : PySem.W.exmOne K (.ref C_NoBook) (.ref C_HallError) = some true
  kx_NoBook_HallError : PySem.W.kitOne K (.ref C_NoBook) (.ref C_HallError) = some true
  kx_NoBook_NoLine : PySem.W.kitOne K (.ref C_NoBook) (.ref C_NoLine) = some false
  kx_NoBook_NoBook : PySem.W.kitOne K (.ref C_NoBook) (.ref C_NoBook) = some true
  kx_NoBook_NoFigure : PySem.W.kitOne K (.ref C_NoBook) (.ref C_NoFigure) = some false
  kx_NoBook_NoTurn : PySem.W.kitOne K (.ref C_NoBook) (.ref C_NoTurn) = some false
  kx_NoBook_NoKind : PySem.W.kitOne K (.ref C_NoBook) (.ref C_NoKind) = some false
  kx_NoBook_NoRank : PySem.W.kitOne K (.ref C_NoBook) (.ref C_NoRank) = some false
  kx_NoBook_Out : PySem.W.kitOne K (.ref C_NoBook) (.ref C_Out) = some false
  kx_NoBook_NoDeed : PySem.W.kitOne K (.ref C_NoBook) (.ref C_NoDeed) = some false
  f_NoBook_row : PySem.W.findIn K (.ref C_NoBook) "row" = some none
theorem same_new {H : Hp} {p : Addr} (h : H p = none) (o : HO) : Same H (upd H p o) := fun b u q => by rw [upd_ne (ne_of_none q h)]; exact q
def digs (z : Str) : Prop := ∀ c ∈ z.cps.toList, 48 ≤ c ∧ c ≤ 57
def pre (f z : Str) : Bool := decide (cutS z none (some (f.length : Int)) = f)
theorem cut_take (z : Str) (n : Nat) : cutS z none (some (n : Int)) = ⟨(z.cps.toList.take n).toArray⟩ := by
  unfold cutS
  rw [HT.sIx_none, HT.sIx_nat, List.drop_zero, Nat.sub_zero]
  congr 2
  by_cases h : n ≤ z.length
  · rw [Nat.min_eq_left h]
  · rw [Nat.min_eq_right (by omega), List.take_of_length_le (by show z.length ≤ z.length; omega), List.take_of_length_le (by show z.length ≤ n; omega)]
theorem str_ext {a b : Str} (h : a.cps.toList = b.cps.toList) : a = b := by
  cases a
  cases b
  simp only [Str.mk.injEq] at *
  exact Array.toList_inj.mp h
theorem pre_iff {f z : Str} : pre f z = true ↔ f.cps.toList <+: z.cps.toList := by
  unfold pre
  rw [decide_eq_true_iff, cut_take, List.prefix_iff_eq_take]
  constructor
  · intro h
    have := congrArg (fun s : Str => s.cps.toList) h
    exact this.symm
  · intro h
    exact str_ext h.symm
theorem starts_pre (z f : Str) : startsB z f = pre f z := by
  rw [Bool.eq_iff_iff, pre_iff, List.prefix_iff_eq_take]
  unfold startsB
  rw [Bool.and_eq_true, decide_eq_true_iff, StrLaws.subAt_eq, List.drop_zero, beq_iff_eq]
  constructor
  · exact fun h => h.2.symm
  · intro h
    refine ⟨?_, h.symm⟩
    have := congrArg List.length h
    rw [List.length_take] at this
    have e1 : f.cps.toList.length = f.length := rfl
    have e2 : z.cps.toList.length = z.length := rfl
    omega
theorem fig_at : ∀ d : Fin 10, Str.ofString (toString ((d.val : Nat) : Int)) = ⟨#[48 + d.val]⟩ := by decide +kernel
theorem fig_of (v : Int) : ∃ c, 48 ≤ c ∧ c ≤ 57 ∧ Str.ofString (toString (v % 10)) = ⟨#[c]⟩ := by
  obtain ⟨d, hd⟩ : ∃ d : Nat, v % 10 = (d : Int) := ⟨(v % 10).toNat, by omega⟩
  have h10 : d < 10 := by omega
  refine ⟨48 + d, by omega, by omega, ?_⟩
  rw [hd]
  exact fig_at ⟨d, h10⟩
def midS (x : Nat) : Str := ⟨#[48 + x / 10, 48 + x % 10]⟩
theorem mid_at : ∀ d : Fin 100, cutS (Str.ofString (toString (100 + ((d.val : Nat) : Int)))) (some 1) none = midS d.val := by decide +kernel
theorem mid_of (v : Int) : ∃ d : Nat, v % 100 = (d : Int) ∧ d < 100 ∧ cutS (Str.ofString (toString (100 + v % 100))) (some 1) none = midS d := by
  obtain ⟨d, hd⟩ : ∃ d : Nat, v % 100 = (d : Int) := ⟨(v % 100).toNat, by omega⟩
  have h10 : d < 100 := by omega
  refine ⟨d, hd, h10, ?_⟩
  rw [hd]
  exact mid_at ⟨d, h10⟩
theorem mid_len : ∀ d : Fin 100, (Str.ofString (toString (100 + ((d.val : Nat) : Int)))).length = 3 := by decide +kernel
theorem mid_size (v : Int) : (Str.ofString (toString (100 + v % 100))).length ≤ sizeLine := by
  obtain ⟨d, hd⟩ : ∃ d : Nat, v % 100 = (d : Int) := ⟨(v % 100).toNat, by omega⟩
  rw [hd, mid_len ⟨d, by omega⟩]
  exact Nat.le_of_lt (small1000 (by omega))
theorem log_small {i : Int} (h : 0 ≤ i ∧ i < 256) : i.natAbs.log2 < 1920 := by
  by_cases z : i.natAbs = 0
  · rw [z]
    decide
  · exact (Nat.log2_lt z).mpr (Nat.lt_of_lt_of_le (show i.natAbs < 256 by omega) (by decide +kernel))
theorem len_app (a b : Str) : (a ++ b).length = a.length + b.length := by
  show (a.cps ++ b.cps).size = _
  rw [Array.size_append]
  rfl
theorem app_list (a b : Str) : (a ++ b).cps.toList = a.cps.toList ++ b.cps.toList := by
  show (a.cps ++ b.cps).toList = _
  rw [Array.toList_append]
theorem digs_app {a b : Str} (ha : digs a) (hb : digs b) : digs (a ++ b) := fun c hc => by
  rw [app_list] at hc
  rcases List.mem_append.mp hc with z | z
  · exact ha c z
  · exact hb c z
theorem digs_one {c : Nat} (h1 : 48 ≤ c) (h2 : c ≤ 57) : digs ⟨#[c]⟩ := fun d hd => by
  have : d = c := by simpa using hd
  omega
theorem digs_mid {d : Nat} (h : d < 100) : digs (midS d) := fun e he => by
  have : e = 48 + d / 10 ∨ e = 48 + d % 10 := by simpa [midS] using he
  omega
theorem digs_cut {z : Str} (lo hi : Option Int) (h : digs z) : digs (cutS z lo hi) := fun c hc => h c (by
  have hc : c ∈ ((z.cps.toList.drop (HT.sIx z.length 0 lo)).take (HT.sIx z.length z.length hi - HT.sIx z.length 0 lo)) := hc
  exact List.mem_of_mem_drop (List.mem_of_mem_take hc))
def spFigBy : Sp := fun vs H Q _ => ∃ n : Int, vs = [.int n] ∧ ∀ (p : Addr) (z : Str) (m : Int), H p = none → digs z → z.length ≤ 8 → Q (.ref p) (upd H p (.tup [.str z, .int m]))
section
variable {P : Program} {w : World} {K : PySem.W.Frag} {mg : Str → Option Value} {base : Heap}
theorem sc__law_figures_by : FnScope ["_law_left", "_law_found", "_law_many", "_law_k"] ["_law_left"] (defScope (top 40)) := ⟨rfl, rfl, rfl, by decide +kernel, rfl, by decide +kernel, by decide +kernel⟩
theorem ok_figby (T : Txt K mg) (D : Def K mg "_law_figures_by" (top 40) ["_law_left"]) : Callee P w K mg base 1 "_law_figures_by" ["_law_left"] spFigBy := by
  refine D.ok sc__law_figures_by (fun vs H Q E h => ?_) (fun f cdv A outer s H vs Q E hr h => ?_)
  · obtain ⟨n, rfl, _⟩ := h
    rfl
  obtain ⟨n, rfl, q⟩ := h
  refine ⟨_, (pss_cons (ps_set (i := 1) sc__law_figures_by.nd rfl (Or.inl rfl) pe_str)
    (pss_cons (ps_set (i := 2) sc__law_figures_by.nd rfl (Or.inl rfl) (pe_op op_add pe_int (pe_op op_mod (pv 0) pe_int)))
    (pss_cons (ps_set (i := 0) sc__law_figures_by.nd rfl (Or.inl rfl) (pe_op op_fdiv (pv 0) pe_int))
    (pss_cons (ps_for PassesOwn.never rfl (pi_range1 rfl T.m_range (pa_cons (pv 2) pa_nil st_name)) (pg_name (i := 3) sc__law_figures_by.nd rfl (Or.inl rfl))
    (pss_cons (ps_set (i := 1) sc__law_figures_by.nd rfl (Or.inl rfl) (pe_op op_add_str (pv 1) (pe_callTy call_strI rfl T.m_str boot_str (pa_cons (pe_op op_mod (pv 0) pe_int) pa_nil st_bin))))
    (pss_one (ps_set (i := 0) sc__law_figures_by.nd rfl (Or.inl rfl) (pe_op op_fdiv (pv 0) pe_int)))))
    (pss_one (ps_ret (pe_tup (pa_cons (pv 1) (pa_cons (pv 0) pa_nil st_name) st_name)))))))), ?_⟩
  refine ⟨_, rfl, _, _, rfl, rfl, (by show (0 : Int) < 8; decide), _, _, rfl, rfl, ?_⟩
  refine ⟨_, rfl, _, _, rfl, rfl, ⟨by decide, by decide⟩, ?_⟩
  refine ⟨_, rfl, _, rfl, by omega, by omega, ?_⟩
  refine for_range (lo := 0) (fun i σ G => G = H ∧ ∃ (m : Int) (z : Str) (v : Option V), digs z ∧ z.length = i ∧ σ = [some (.int m), some (.str z), some (.int (1 + n % 8)), v])
    ⟨rfl, _, "", none, (fun c hc => nomatch hc), rfl, rfl⟩ ?_ ?_
  · rintro i σ G hi ⟨rfl, m, z, v, hz, hl, rfl⟩
    obtain ⟨c, c1, c2, ec⟩ := fig_of m
    refine ⟨_, rfl, _, rfl, _, _, rfl, rfl, (by show (0 : Int) < 10; decide), _, rfl, log_small (by omega), ?_⟩
    rw [ec]
    have l1 : (⟨#[c]⟩ : Str).length = 1 := rfl
    refine ⟨_, _, rfl, rfl, Nat.le_of_lt (small1000 (by omega)), ?_⟩
    refine ⟨_, rfl, _, _, rfl, rfl, ⟨by decide, by decide⟩, ?_⟩
    exact ⟨rfl, _, _, _, digs_app hz (digs_one c1 c2), by rw [len_app]; omega, rfl⟩
  · rintro σ G ⟨rfl, m, z, v, hz, hl, rfl⟩
    refine ⟨_, rfl, _, rfl, (by show 2 ≤ sizeLine; decide), fun p hp => ?_⟩
    exact q p z m hp hz (by omega)
end
structure Hall where
  i : Int
  c : Int
  m : Int
  o : Int
  e : Int
def Hall.row (h : Hall) : List Int := [h.i, h.c, h.m, h.o, h.e]
structure Hall.Ok (h : Hall) : Prop where
  i : 1 ≤ h.i ∧ h.i ≤ 12
  c : 1 ≤ h.c ∧ h.c ≤ 12
  m : 1 ≤ h.m ∧ h.m ≤ 24
  o : 1 ≤ h.o ∧ h.o ≤ 12
  e : 1 ≤ h.e ∧ h.e ≤ 12
theorem mul_in {a b : Int} (ha : 1 ≤ a ∧ a ≤ 12) (hb : 1 ≤ b ∧ b ≤ 12) : 1 ≤ a * b ∧ a * b ≤ 144 := by
  have h1 : 1 * 1 ≤ a * b := Int.mul_le_mul ha.1 hb.1 (by decide) (by omega)
  have h2 : a * b ≤ 12 * 12 := Int.mul_le_mul ha.2 hb.2 (by omega) (by decide)
  omega
inductive PartIs (K : PySem.W.Frag) (H : Hp) : V → Prop where
  | int (i : Int) : PartIs K H (.int i)
  | odd {x : V} {t : Value} {b1 b2 : Bool} (ni : ∀ i, x ≠ .int i) (ty : TyOf K H x t) (h1 : PySem.W.kitOne K t (.type "int") = some b1) (h2 : PySem.W.kitOne K t (.type "bool") = some b2) (hb : b1 = false ∨ b2 = true) : PartIs K H x
theorem TyOf.same {K : PySem.W.Frag} {H H' : Hp} {x : V} {t : Value} (s : Same H H') (h : TyOf K H x t) : TyOf K H' x t := by
  cases h with
  | non => exact .non
  | bl b => exact .bl b
  | int i => exact .int i
  | str y => exact .str y
  | flt y => exact .flt y
  | lst e => exact .lst (s _ _ e)
  | frz e => exact .frz (s _ _ e)
  | tup e => exact .tup (s _ _ e)
  | dK e => exact .dK (s _ _ e)
  | dT e => exact .dT (s _ _ e)
  | ins e a b c d f => exact .ins (s _ _ e) a b c d f
theorem PartIs.same {K : PySem.W.Frag} {H H' : Hp} {x : V} (s : Same H H') (h : PartIs K H x) : PartIs K H' x := by
  cases h with
  | int i => exact .int i
  | odd ni ty h1 h2 hb => exact .odd ni (TyOf.same s ty) h1 h2 hb
def wholeIn (x : V) (lo hi : Int) : Bool := match x with
  | .int i => decide (lo ≤ i) && decide (i ≤ hi)
  | _ => false
def isInt : V → Bool
  | .int _ => true
  | _ => false
def spIsWhole (K : PySem.W.Frag) : Sp := fun vs H Q _ => ∃ (x : V) (lo hi : Int), vs = [x, .int lo, .int hi] ∧ PartIs K H x ∧ Q (.bl (wholeIn x lo hi)) H
def spWhole (K : PySem.W.Frag) : Sp := fun vs H Q _ => ∃ x : V, vs = [x] ∧ PartIs K H x ∧ Q (.bl (isInt x)) H
section
variable {P : Program} {w : World} {K : PySem.W.Frag} {mg : Str → Option Value} {base : Heap}
theorem sc_is_number : FnScope ["thing"] ["thing"] (defScope (top 12)) := ⟨rfl, rfl, rfl, by decide +kernel, rfl, by decide +kernel, by decide +kernel⟩
theorem ok_is_number (T : Txt K mg) (D : Def K mg "is_number" (top 12) ["thing"]) : Callee P w K mg base 1 "is_number" ["thing"] (spWhole K) := by
  refine D.ok sc_is_number (fun vs H Q E h => ?_) (fun f cdv A outer s H vs Q E hr h => ?_)
  · obtain ⟨x, rfl, _⟩ := h
    rfl
  obtain ⟨x, rfl, hp, q⟩ := h
  refine ⟨_, (pss_one (ps_ret (pe_and (pe_callB (call_isinstK K) rfl T.m_isinstance boot_isinstance (pa_cons (pv 0) (pa_cons (pe_bltn (v := .ty "int") rfl T.m_int boot_int rfl) pa_nil st_name) st_name)) (pe_one (pe_not (pe_callB (call_isinstK K) rfl T.m_isinstance boot_isinstance (pa_cons (pv 0) (pa_cons (pe_bltn (v := .ty "bool") rfl T.m_bool boot_bool rfl) pa_nil st_name) st_name))))))), ?_⟩
  cases hp with
  | int i =>
    refine ⟨_, rfl, _, _, _, true, rfl, .int i, kit_int_int, _, rfl, iteT ?_⟩
    exact ⟨_, rfl, _, _, _, false, rfl, .int i, kit_int_bool, _, rfl, q⟩
  | @odd _ t b1 b2 ni ty h1 h2 hb =>
    have e : isInt x = false := by
      cases x with
      | int i => exact absurd rfl (ni i)
      | _ => rfl
    rw [e] at q
    refine ⟨_, rfl, _, _, _, b1, rfl, ty, h1, _, rfl, ?_⟩
    cases b1 with
    | false => exact iteF q
    | true =>
      have hb2 : b2 = true := hb.elim (fun z => nomatch z) id
      subst hb2
      exact iteT ⟨_, rfl, _, _, _, true, rfl, ty, h2, _, rfl, q⟩
theorem sc_is_whole : FnScope ["thing", "least", "most"] ["thing", "least", "most"] (defScope (top 13)) := ⟨rfl, rfl, rfl, by decide +kernel, rfl, by decide +kernel, by decide +kernel⟩
theorem ok_is_whole (T : Txt K mg) (C_is_number : Callee P w K mg base 1 "is_number" ["thing"] (spWhole K)) (D : Def K mg "is_whole" (top 13) ["thing", "least", "most"]) : Callee P w K mg base 2 "is_whole" ["thing", "least", "most"] (spIsWhole K) := by
  refine D.ok sc_is_whole (fun vs H Q E h => ?_) (fun f cdv A outer s H vs Q E hr h => ?_)
  · obtain ⟨x, lo, hi, rfl, _⟩ := h
    rfl
  obtain ⟨x, lo, hi, rfl, hp, q⟩ := h
  refine ⟨_, (pss_one (ps_ret (pe_and (pe_fn C_is_number hr rfl (pa_cons (pv 0) pa_nil st_name)) (pe_one (pe_chain op_le op_le (pv 1) (pv 0) (pv 2)))))), ?_⟩
  refine ⟨_, rfl, x, rfl, hp, _, rfl, ?_⟩
  cases hp with
  | int i =>
    refine iteT ?_
    refine ⟨_, rfl, _, rfl, _, _, rfl, rfl, _, rfl, ?_⟩
    refine ite2 (fun c => ?_) (fun c => ?_)
    · refine ⟨_, rfl, _, _, rfl, rfl, ?_⟩
      have e : wholeIn (.int i) lo hi = decide (i ≤ hi) := by show (decide (lo ≤ i) && decide (i ≤ hi)) = _; rw [c, Bool.true_and]
      rw [e] at q
      exact q
    · have e : wholeIn (.int i) lo hi = false := by show (decide (lo ≤ i) && decide (i ≤ hi)) = _; rw [Bool.eq_false_iff.mpr c, Bool.false_and]
      rw [e] at q
      exact q
  | @odd _ t b1 b2 ni ty h1 h2 hb =>
    have e0 : isInt x = false := by
      cases x with
      | int i => exact absurd rfl (ni i)
      | _ => rfl
    have e : wholeIn x lo hi = false := by
      cases x with
      | int i => exact absurd rfl (ni i)
      | _ => rfl
    rw [e] at q
    rw [e0]
    exact iteF q
end
theorem kit_str_str {K : PySem.W.Frag} : PySem.W.kitOne K (.type "str") (.type "str") = some true := kit_of (by decide +kernel)
theorem kit_int_str {K : PySem.W.Frag} : PySem.W.kitOne K (.type "int") (.type "str") = some false := kit_of (by decide +kernel)
theorem kit_lst_lst {K : PySem.W.Frag} : PySem.W.kitOne K (.type "list") (.type "list") = some true := kit_of (by decide +kernel)
theorem kit_tup_tup {K : PySem.W.Frag} : PySem.W.kitOne K (.type "tuple") (.type "tuple") = some true := kit_of (by decide +kernel)
theorem kit_tup_lst {K : PySem.W.Frag} : PySem.W.kitOne K (.type "tuple") (.type "list") = some false := kit_of (by decide +kernel)
theorem kit_lst_tup {K : PySem.W.Frag} : PySem.W.kitOne K (.type "list") (.type "tuple") = some false := kit_of (by decide +kernel)
theorem kit_int_tup {K : PySem.W.Frag} : PySem.W.kitOne K (.type "int") (.type "tuple") = some false := kit_of (by decide +kernel)
theorem kit_non_tup {K : PySem.W.Frag} : PySem.W.kitOne K (.type "NoneType") (.type "tuple") = some false := kit_of (by decide +kernel)
theorem kit_str_tup {K : PySem.W.Frag} : PySem.W.kitOne K (.type "str") (.type "tuple") = some false := kit_of (by decide +kernel)
def vints (xs : List V) : List Int := xs.filterMap fun x => match x with | .int i => some i | _ => none
theorem vints_map (ns : List Int) : vints (ns.map V.int) = ns := by
  unfold vints
  induction ns with
  | nil => rfl
  | cons i t ih => rw [List.map_cons, List.filterMap_cons]; exact congrArg (i :: ·) ih
def unlikeB (xs : List V) : Bool := decide ((sortU (vints xs)).length = xs.length)
theorem wholeIn_int {x : V} {lo hi : Int} (h : wholeIn x lo hi = true) : ∃ i : Int, x = .int i ∧ lo ≤ i ∧ i ≤ hi := by
  cases x with
  | int i =>
    have h' : (decide (lo ≤ i) && decide (i ≤ hi)) = true := h
    rw [Bool.and_eq_true] at h'
    exact ⟨i, rfl, of_decide_eq_true h'.1, of_decide_eq_true h'.2⟩
  | _ => cases h
theorem wholes {lo hi : Int} : ∀ {xs : List V}, xs.all (fun x => wholeIn x lo hi) = true → ∃ ns : List Int, xs = ns.map V.int
  | [], _ => ⟨[], rfl⟩
  | x :: t, h => by
    rw [List.all_cons, Bool.and_eq_true] at h
    obtain ⟨i, rfl, _⟩ := wholeIn_int h.1
    obtain ⟨ns, rfl⟩ := wholes h.2
    exact ⟨i :: ns, rfl⟩
def figB (z : Str) : Bool := z.cps.toList.all fun c => decide (48 ≤ c ∧ c ≤ 57)
structure NumS (z : Str) : Prop where
  len : z.length ≤ 100
  asc : z.cps.all (· < 128) = true
inductive NumTh : V → Option Str → Prop
  | str (z : Str) (h : NumS z) : NumTh (.str z) (some z)
  | int (i : Int) : NumTh (.int i) none
structure Parts (K : PySem.W.Frag) (H : Hp) (xs : List V) : Prop where
  p : ∀ x ∈ xs, PartIs K H x
  few : xs.length ≤ 16
theorem Parts.same {K : PySem.W.Frag} {H H' : Hp} {xs : List V} (s : Same H H') (h : Parts K H xs) : Parts K H' xs := ⟨fun x hx => (h.p x hx).same s, h.few⟩
theorem parts_ints {K : PySem.W.Frag} {H : Hp} {ns : List Int} (h : ns.length ≤ 16) : Parts K H (ns.map V.int) := ⟨fun x hx => by
  obtain ⟨i, _, rfl⟩ := List.mem_map.mp hx
  exact .int i, by rw [List.length_map]; exact h⟩
inductive GrpTh (K : PySem.W.Frag) (H : Hp) : V → Option (List V) → Prop
  | tup {a : Addr} {xs : List V} (e : H a = some (.tup xs)) (h : Parts K H xs) : GrpTh K H (.ref a) (some xs)
  | no {x : V} {t : Value} (ty : TyOf K H x t) (h : PySem.W.kitOne K t (.type "tuple") = some false) : GrpTh K H x none
theorem GrpTh.same {K : PySem.W.Frag} {H H' : Hp} {x : V} {o : Option (List V)} (s : Same H H') (h : GrpTh K H x o) : GrpTh K H' x o := by
  cases h with
  | tup e q => exact .tup (s _ _ e) (q.same s)
  | no ty q => exact .no (TyOf.same s ty) q
abbrev RO := Option (Option Str × Option (List V))
inductive RowTh (K : PySem.W.Frag) (H : Hp) : V → RO → Prop
  | two {a : Addr} {n g : V} {on : Option Str} {og : Option (List V)} (e : H a = some (.tup [n, g])) (hn : NumTh n on) (hg : GrpTh K H g og) : RowTh K H (.ref a) (some (on, og))
  | oth {a : Addr} {xs : List V} (e : H a = some (.tup xs)) (h : xs.length ≠ 2) : RowTh K H (.ref a) none
  | no {x : V} {t : Value} (ty : TyOf K H x t) (h : PySem.W.kitOne K t (.type "tuple") = some false) : RowTh K H x none
theorem RowTh.same {K : PySem.W.Frag} {H H' : Hp} {x : V} {o : RO} (s : Same H H') (h : RowTh K H x o) : RowTh K H' x o := by
  cases h with
  | two e hn hg => exact .two (s _ _ e) hn (hg.same s)
  | oth e q => exact .oth (s _ _ e) q
  | no ty q => exact .no (TyOf.same s ty) q
def RowsAt (K : PySem.W.Frag) (H : Hp) (xs : List V) (os : List RO) : Prop := Paired (RowTh K H) xs os
theorem RowsAt.same {K : PySem.W.Frag} {H H' : Hp} {xs : List V} {os : List RO} (s : Same H H') (h : RowsAt K H xs os) : RowsAt K H' xs os := Paired.mapP h fun a d z => z.same s
def numB : Option Str → Bool
  | none => false
  | some z => decide (1 ≤ z.length ∧ z.length ≤ 8) && figB z
def grpB (T : Int) : Option (List V) → Bool
  | none => false
  | some xs => decide (xs.length ≤ 8) && (!xs.isEmpty && (xs.all (fun x => wholeIn x 0 (T - 1)) && unlikeB xs))
def rowB (T : Int) : RO → Bool
  | none => false
  | some (on, og) => numB on && grpB T og
def dat : RO → Str × List Int
  | some (some z, some xs) => (z, vints xs)
  | _ => ("", [])
def clashB (d d' : Str × List Int) : Bool := (pre d'.1 d.1 || pre d.1 d'.1) || d.2.any fun e => decide (e ∈ d'.2)
structure GoodAt (H : Hp) (a g : Addr) (d : Str × List Int) : Prop where
  t : H a = some (.tup [.str d.1, .ref g])
  e : H g = some (.tup (d.2.map V.int))
  len : d.1.length ≤ 8
  few : d.2.length ≤ 8
theorem GoodAt.same {H H' : Hp} {a g : Addr} {d : Str × List Int} (s : Same H H') (h : GoodAt H a g d) : GoodAt H' a g d := ⟨s _ _ h.t, s _ _ h.e, h.len, h.few⟩
theorem RowTh.good {K : PySem.W.Frag} {H : Hp} {x : V} {o : RO} {T : Int} (h : RowTh K H x o) (b : rowB T o = true) : ∃ a g, x = .ref a ∧ GoodAt H a g (dat o) := by
  cases h with
  | two e hn hg =>
    have b : (numB _ && grpB T _) = true := b
    rw [Bool.and_eq_true] at b
    obtain ⟨b1, b2⟩ := b
    cases hn with
    | int i => cases b1
    | str z hz =>
      cases hg with
      | no ty q => cases b2
      | tup e2 q =>
        have b1 : (decide (1 ≤ z.length ∧ z.length ≤ 8) && figB z) = true := b1
        have b2 : (decide (_ ≤ 8) && (!_ && (_ && _))) = true := b2
        rw [Bool.and_eq_true] at b1 b2
        have l1 := of_decide_eq_true b1.1
        have l2 := of_decide_eq_true b2.1
        have b3 := b2.2
        rw [Bool.and_eq_true, Bool.and_eq_true] at b3
        obtain ⟨ns, rfl⟩ := wholes b3.2.1
        rw [List.length_map] at l2
        refine ⟨_, _, rfl, e, ?_, l1.2, ?_⟩
        · show H _ = some (.tup ((vints (ns.map V.int)).map V.int))
          rw [vints_map]
          exact e2
        · show (vints (ns.map V.int)).length ≤ 8
          rw [vints_map]
          exact l2
  | oth e q => cases b
  | no ty q => cases b
def badAt (T : Int) (os : List RO) (i : Nat) : Bool := match os[i]? with
  | none => false
  | some o => decide (40 ≤ i) || (!rowB T o || (os.take i).any fun o' => clashB (dat o) (dat o'))
def NoBad (T : Int) (os : List RO) (n : Nat) : Prop := ∀ j < n, badAt T os j = false
inductive FaultIs (T : Int) (os : List RO) : Option Nat → Prop
  | at_ (i : Nat) (h : i < os.length) (b : badAt T os i = true) (n : NoBad T os i) : FaultIs T os (some i)
  | empty (h : os = []) : FaultIs T os (some 0)
  | none (h : os ≠ []) (n : NoBad T os os.length) : FaultIs T os none
theorem FaultIs.one {T : Int} {os : List RO} {r r' : Option Nat} (h : FaultIs T os r) (h' : FaultIs T os r') : r = r' := by
  cases h with
  | at_ i hi b n =>
    cases h' with
    | at_ j hj b' n' =>
      rcases Nat.lt_trichotomy i j with z | z | z
      · rw [n' i z] at b; cases b
      · rw [z]
      · rw [n j z] at b'; cases b'
    | empty e => rw [e] at hi; exact absurd hi (by simp)
    | none e n' => rw [n' i hi] at b; cases b
  | empty e =>
    cases h' with
    | at_ j hj b' n' => rw [e] at hj; exact absurd hj (by simp)
    | empty e => rfl
    | none e' n' => exact absurd e e'
  | none e n =>
    cases h' with
    | at_ j hj b' n' => rw [n j hj] at b'; cases b'
    | empty e' => exact absurd e' e
    | none e' n' => rfl
theorem NoBad.good {T : Int} {os : List RO} {i j : Nat} {o : RO} (n : NoBad T os i) (h : j < i) (ho : os[j]? = some o) : rowB T o = true := by
  have := n j h
  unfold badAt at this
  rw [ho] at this
  have this : (decide (40 ≤ j) || (!rowB T o || _)) = false := this
  rw [Bool.or_eq_false_iff, Bool.or_eq_false_iff] at this
  simpa using this.2.1
theorem NoBad.lt40 {T : Int} {os : List RO} {i : Nat} (n : NoBad T os i) (h : i ≤ os.length) : i ≤ 40 := by
  cases i with
  | zero => omega
  | succ k =>
    have := n k (by omega)
    unfold badAt at this
    rw [List.getElem?_eq_getElem (show k < os.length by omega)] at this
    have this : (decide (40 ≤ k) || _) = false := this
    rw [Bool.or_eq_false_iff] at this
    have := of_decide_eq_false this.1
    omega
theorem NoBad.next {T : Int} {os : List RO} {i : Nat} (n : NoBad T os i) (h : badAt T os i = false) : NoBad T os (i + 1) := fun j hj => by
  by_cases e : j = i
  · rw [e]; exact h
  · exact n j (by omega)
theorem NoBad.rows {K : PySem.W.Frag} {H : Hp} {T : Int} {xs : List V} {os : List RO} {i j : Nat} {x : V} (n : NoBad T os i) (hR : RowsAt K H xs os) (h : j < i) (hx : xs[j]? = some x) : ∃ o a g, os[j]? = some o ∧ x = .ref a ∧ GoodAt H a g (dat o) := by
  obtain ⟨o, ho, hr⟩ := paired_at hR j x hx
  obtain ⟨a, g, rfl, hg⟩ := hr.good (n.good h ho)
  exact ⟨o, a, g, ho, rfl, hg⟩
def spAreEnds (K : PySem.W.Frag) : Sp := fun vs H Q _ => ∃ (a p : Addr) (h : Hall) (xs : List V), vs = [.ref a, .ref p] ∧ SqT K H a (h.row.map V.int) ∧ h.Ok ∧ SqT K H p xs ∧ Parts K H xs ∧ ∀ H', Same H H' → Q (.bl (xs.all fun x => wholeIn x 0 (h.o * h.e - 1))) H'
def spUnlike (K : PySem.W.Frag) : Sp := fun vs H Q _ => ∃ (p : Addr) (ns : List Int), vs = [.ref p] ∧ SqT K H p (ns.map V.int) ∧ ns.length ≤ 64 ∧ ∀ H', Same H H' → Q (.bl (decide ((sortU ns).length = ns.length))) H'
def endsB (T : Int) (xs : List V) : Bool := !xs.isEmpty && (xs.all (fun x => wholeIn x 0 (T - 1)) && unlikeB xs)
def spIsEnds (K : PySem.W.Frag) : Sp := fun vs H Q _ => ∃ (a p : Addr) (h : Hall) (xs : List V), vs = [.ref a, .ref p] ∧ SqT K H a (h.row.map V.int) ∧ h.Ok ∧ H p = some (.tup xs) ∧ Parts K H xs ∧ ∀ H', Same H H' → Q (.bl (endsB (h.o * h.e) xs)) H'
def spFigC : Sp := fun vs H Q _ => ∃ c : Nat, vs = [.str ⟨#[c]⟩] ∧ Q (.bl (decide (48 ≤ c ∧ c ≤ 57))) H
def spDialled : Sp := fun vs H Q _ => ∃ (x : V) (o : Option Str), vs = [x] ∧ NumTh x o ∧ ∀ H', Same H H' → Q (.bl (numB o)) H'
def spIsGroup (K : PySem.W.Frag) : Sp := fun vs H Q _ => ∃ (a : Addr) (h : Hall) (x : V) (o : Option (List V)), vs = [.ref a, x] ∧ SqT K H a (h.row.map V.int) ∧ h.Ok ∧ GrpTh K H x o ∧ ∀ H', Same H H' → Q (.bl (grpB (h.o * h.e) o)) H'
def spIsRow (K : PySem.W.Frag) : Sp := fun vs H Q _ => ∃ (a : Addr) (h : Hall) (x : V) (o : RO), vs = [.ref a, x] ∧ SqT K H a (h.row.map V.int) ∧ h.Ok ∧ RowTh K H x o ∧ ∀ H', Same H H' → Q (.bl (rowB (h.o * h.e) o)) H'
def spClash : Sp := fun vs H Q _ => ∃ (a g a' g' : Addr) (d d' : Str × List Int), vs = [.ref a, .ref a'] ∧ GoodAt H a g d ∧ GoodAt H a' g' d' ∧ ∀ H', Same H H' → Q (.bl (clashB d d')) H'
theorem Same.seqT {K : PySem.W.Frag} {H H' : Hp} {a : Addr} {xs : List V} (e : Same H H') (h : SqT K H a xs) : SqT K H' a xs := by
  rcases h with (h | ⟨o, h⟩) | h
  · exact .inl (.inl (e _ _ h))
  · exact .inl (.inr ⟨o, e _ _ h⟩)
  · exact .inr h
theorem fig_inB (c : Nat) : (!(Builtin.Str.occurrences (Str.ofString "0123456789") ⟨#[c]⟩ 0 (Str.ofString "0123456789").length 1).isEmpty) = decide (48 ≤ c ∧ c ≤ 57) := by
  rw [StrLaws.found_one, show (Str.ofString "0123456789").cps.toList = List.range' 48 10 from by decide +kernel, decide_eq_decide, List.mem_range'_1]
  omega
theorem int_flat (es : List Int) : (es.map V.int).all flatV = true := by
  rw [List.all_eq_true]
  intro x hx
  obtain ⟨p, _, rfl⟩ := List.mem_map.mp hx
  rfl
theorem int_in (e : Int) (es : List Int) : inV (.int e) (es.map V.int) = decide (e ∈ es) := by
  unfold inV
  rw [List.any_map]
  rw [Bool.eq_iff_iff, List.any_eq_true, decide_eq_true_iff]
  constructor
  · rintro ⟨q, hq, e'⟩
    have e' : (q == e) = true := e'
    exact eq_of_beq e' ▸ hq
  · intro h
    exact ⟨e, h, beq_self_eq_true e⟩
section
variable {P : Program} {w : World} {K : PySem.W.Frag} {mg : Str → Option Value} {base : Heap}
theorem sc_are_ends : FnScope ["hall", "things", "last"] ["hall", "things"] (defScope (top 14)) := ⟨rfl, rfl, rfl, by decide +kernel, rfl, by decide +kernel, by decide +kernel⟩
theorem ok_are_ends (T : Txt K mg) (C_is_whole : Callee P w K mg base 2 "is_whole" ["thing", "least", "most"] (spIsWhole K)) (D : Def K mg "are_ends" (top 14) ["hall", "things"]) : Callee P w K mg base 3 "are_ends" ["hall", "things"] (spAreEnds K) := by
  refine D.ok sc_are_ends (fun vs H Q E h => ?_) (fun f cdv A outer s H vs Q E hr h => ?_)
  · obtain ⟨a, p, h, xs, rfl, _⟩ := h
    rfl
  obtain ⟨a, p, h, xs, rfl, hH, ok, hS, hx, q⟩ := h
  have o1 := ok.o
  have few := hx.few
  refine ⟨_, (pss_cons (ps_set (i := 2) sc_are_ends.nd rfl (Or.inr rfl) (pe_op op_sub (pe_op op_mul (pe_ix (ix_tupK K) (pv 0) pe_int (fun _ _ => rfl)) (pe_ix (ix_tupK K) (pv 0) pe_int (fun _ _ => rfl))) pe_int))
    (pss_one (ps_ret (pe_callB (call_allK K rfl) rfl T.m_all boot_all (pa_cons (pe_comp (own := ["thing"]) (fr := [(2, "last")]) rfl (show CompScope ["hall", "things", "last"] (defScope (top 14)) _ _ _ from ⟨rfl, by decide +kernel, by decide +kernel, by decide +kernel, by decide +kernel⟩) (pi_tupK K (pv 1)) (fun cl C s H ex => ⟨(pg_name (i := 0) (show (["thing", "last"] : List Str).Nodup from by decide +kernel) rfl (Or.inl rfl) (Or.inr rfl)), pif_nil, (pe_fn C_is_whole hr rfl (pa_cons (pv 0) (pa_cons pe_int (pa_cons (pv 1) pa_nil st_name) st_const) st_name))⟩)) pa_nil st_comp))))), ?_⟩
  refine ⟨_, rfl, a, _, _, _, rfl, rfl, hH, rfl, _, rfl, a, _, _, _, rfl, rfl, hH, rfl, _, _, rfl, rfl, .inl ⟨by omega, by omega⟩, _, _, rfl, rfl, ?_⟩
  refine ⟨_, rfl, p, rfl, ⟨_, hS⟩, ?_⟩
  refine comp_tup (xs := xs) (fun i acc σ H' => H' = H ∧ acc = ((xs.take i).map fun x => wholeIn x 0 (h.o * h.e - 1)).map V.bl ∧ ∃ v, σ = [v, some (.int (h.o * h.e - 1))])
    ⟨rfl, rfl, none, rfl⟩ (Nat.le_of_lt (small1000 (by omega))) (fun i acc σ H' g => ?_) (fun i acc σ H' _ g => by rw [g.1]; exact hS) ?_ ?_
  · obtain ⟨_, rfl, _⟩ := g
    rw [List.length_map, List.length_map, List.length_take]
    omega
  · rintro i y acc σ H' hy ⟨rfl, rfl, v, rfl⟩
    refine ⟨_, rfl, _, rfl, y, _, _, rfl, hx.p y (List.mem_of_getElem? hy), rfl, ?_, _, rfl⟩
    rw [List.take_succ, hy, List.map_append, List.map_append]
    rfl
  · rintro acc σ H' ⟨rfl, rfl, v, rfl⟩ l hl
    rw [List.take_length]
    refine ⟨l, _, rfl, SqL.of upd_same, ?_⟩
    have := q _ (same_new hl (.lst ((xs.map fun x => wholeIn x 0 (h.o * h.e - 1)).map V.bl)))
    rw [List.all_map]
    exact this
theorem sc_are_unlike : FnScope ["some"] ["some"] (defScope (top 16)) := ⟨rfl, rfl, rfl, by decide +kernel, rfl, by decide +kernel, by decide +kernel⟩
theorem ok_unlike (T : Txt K mg) (D : Def K mg "are_unlike" (top 16) ["some"]) : Callee P w K mg base 1 "are_unlike" ["some"] (spUnlike K) := by
  refine D.ok sc_are_unlike (fun vs H Q E h => ?_) (fun f cdv A outer s H vs Q E hr h => ?_)
  · obtain ⟨p, ns, rfl, _⟩ := h
    rfl
  obtain ⟨p, ns, rfl, hS, h64, q⟩ := h
  have ln : (ns.map V.int).length = ns.length := List.length_map _
  refine ⟨_, (pss_one (ps_ret (pe_cmpR op_eq (pe_callB (call_lenSK P w) rfl T.m_len boot_len (pa_cons (pe_callTy (call_setTK K P w rfl) rfl T.m_set boot_set (pa_cons (pv 0) pa_nil st_name)) pa_nil st_call)) (pe_callB (call_lenK K) rfl T.m_len boot_len (pa_cons (pv 0) pa_nil st_name)) (nomark _)))), ?_⟩
  refine ⟨_, rfl, p, ns, rfl, hS, by omega, fun l hl => ?_⟩
  have s1 := same_new hl (SetP P w l ns)
  refine ⟨l, ns, rfl, upd_same, _, rfl, p, _, rfl, .inr (Same.seqT s1 hS), rfl, ?_⟩
  have := q _ s1
  rw [ln]
  have e : decide (V.int (((sortU ns).length : Nat) : Int) = V.int ((ns.length : Nat) : Int)) = decide ((sortU ns).length = ns.length) := by
    rw [Bool.eq_iff_iff, decide_eq_true_iff, decide_eq_true_iff]
    constructor
    · intro z
      have := V.int.inj z
      omega
    · intro z
      rw [z]
  rw [e]
  exact this
theorem sc_is_ends : FnScope ["hall", "thing"] ["hall", "thing"] (defScope (top 18)) := ⟨rfl, rfl, rfl, by decide +kernel, rfl, by decide +kernel, by decide +kernel⟩
theorem ok_is_ends (T : Txt K mg) (C_are_ends : Callee P w K mg base 3 "are_ends" ["hall", "things"] (spAreEnds K)) (C_are_unlike : Callee P w K mg base 1 "are_unlike" ["some"] (spUnlike K)) (D : Def K mg "is_ends" (top 18) ["hall", "thing"]) : Callee P w K mg base 4 "is_ends" ["hall", "thing"] (spIsEnds K) := by
  refine D.ok sc_is_ends (fun vs H Q E h => ?_) (fun f cdv A outer s H vs Q E hr h => ?_)
  · obtain ⟨a, p, h, xs, rfl, _⟩ := h
    rfl
  obtain ⟨a, p, h, xs, rfl, hH, ok, e0, hx, q⟩ := h
  refine ⟨_, (pss_cons (ps_if (PW.pt (pw_or (pt_not (pt_truK K (pe_callB (call_isinstTK K) rfl T.m_isinstance boot_isinstance (pa_cons (pv 1) (pa_cons (pe_tup (pa_cons (pe_bltn (v := .ty "list") rfl T.m_list boot_list rfl) (pa_cons (pe_bltn (v := .ty "tuple") rfl T.m_tuple boot_tuple rfl) pa_nil st_name) st_name)) pa_nil st_tup) st_name)) (fun _ => rfl))) (pw_or1 (pt_cmpR op_eq (pe_callB (call_lenK K) rfl T.m_len boot_len (pa_cons (pv 1) pa_nil st_name)) pe_int (nomark _))))) (pss_one (ps_ret pe_bl)) pss_nil)
    (pss_one (ps_ret (pe_and (pe_fn C_are_ends hr rfl (pa_cons (pv 0) (pa_cons (pv 1) pa_nil st_name) st_name)) (pe_one (pe_fn C_are_unlike hr rfl (pa_cons (pv 1) pa_nil st_name))))))), ?_⟩
  refine ⟨_, rfl, (by show 2 ≤ sizeLine; decide), fun tp htp => ?_⟩
  have etp := upd_same (H := H) (a := tp) (o := .tup [.ty "list", .ty "tuple"])
  have s1 := same_new htp (.tup [.ty "list", .ty "tuple"])
  generalize upd H tp (.tup [.ty "list", .ty "tuple"]) = H1 at etp s1 ⊢
  have e := s1 _ _ e0
  have few := hx.few
  refine ⟨_, tp, _, _, _, _, _, rfl, etp, .tup e, kit_tup_lst, kit_tup_tup, _, rfl, iteF ?_⟩
  refine ⟨_, rfl, p, xs, rfl, .inr (SqT.of e), rfl, _, rfl, ?_⟩
  refine ite2 (fun c => ?_) (fun c => ?_)
  · have c' : xs = [] := by
      have : ((xs.length : Nat) : Int) = 0 := by simpa using c
      exact List.length_eq_zero_iff.mp (by omega)
    have := q _ s1
    rw [c'] at this
    exact this
  · have c' : xs ≠ [] := fun z => c (by rw [z]; rfl)
    have ne : (!xs.isEmpty) = true := by cases xs with
      | nil => exact absurd rfl c'
      | cons _ _ => rfl
    refine ⟨_, rfl, _, rfl, a, p, h, xs, rfl, Same.seqT s1 hH, ok, SqT.of e, hx.same s1, fun H2 s2 => ⟨_, rfl, ?_⟩⟩
    refine ite2 (fun d => ?_) (fun d => ?_)
    · obtain ⟨ns, rfl⟩ := wholes d
      have e2 := s2 _ _ e
      refine ⟨_, rfl, p, ns, rfl, SqT.of e2, by rw [List.length_map] at few; omega, fun H3 s3 => ?_⟩
      have := q _ ((s1.trans s2).trans s3)
      rw [show endsB (h.o * h.e) (ns.map V.int) = decide ((sortU ns).length = ns.length) by
        show (!(ns.map V.int).isEmpty && ((ns.map V.int).all (fun x => wholeIn x 0 (h.o * h.e - 1)) && unlikeB (ns.map V.int))) = _
        rw [ne, d, Bool.true_and, Bool.true_and]
        unfold unlikeB
        rw [vints_map, List.length_map]] at this
      exact this
    · have := q _ (s1.trans s2)
      rw [show endsB (h.o * h.e) xs = false by
        show (!xs.isEmpty && (xs.all (fun x => wholeIn x 0 (h.o * h.e - 1)) && unlikeB xs)) = _
        rw [Bool.eq_false_iff.mpr d, Bool.false_and, Bool.and_false]] at this
      exact this
theorem sc_is_figure : FnScope ["thing"] ["thing"] (defScope (top 23)) := ⟨rfl, rfl, rfl, by decide +kernel, rfl, by decide +kernel, by decide +kernel⟩
theorem ok_figC (T : Txt K mg) (D : Def K mg "is_figure" (top 23) ["thing"]) : Callee P w K mg base 1 "is_figure" ["thing"] spFigC := by
  refine D.ok sc_is_figure (fun vs H Q E h => ?_) (fun f cdv A outer s H vs Q E hr h => ?_)
  · obtain ⟨c, rfl, _⟩ := h
    rfl
  obtain ⟨c, rfl, q⟩ := h
  obtain ⟨t_FIGURES, m_FIGURES⟩ := T.s_FIGURES
  refine ⟨_, (pss_one (ps_ret (pe_and (pe_callB (call_isinstK K) rfl T.m_isinstance boot_isinstance (pa_cons (pv 0) (pa_cons (pe_bltn (v := .ty "str") rfl T.m_str boot_str rfl) pa_nil st_name) st_name)) (pe_and (pe_cmpR op_eq (pe_callB call_len_str rfl T.m_len boot_len (pa_cons (pv 0) pa_nil st_name)) pe_int (nomark _)) (pe_one (pe_cmpR op_in_str (pv 0) (pe_glob (v := .str "0123456789") rfl m_FIGURES ⟨_, rfl⟩) (by with_unfolding_all rfl))))))), ?_⟩
  refine ⟨_, rfl, _, _, _, true, rfl, .str _, kit_str_str, _, rfl, iteT ?_⟩
  refine ⟨_, rfl, _, rfl, Nat.le_of_lt (small1000 (by show 1 ≤ 1000; decide)), rfl, _, rfl, iteP (decide_eq_true rfl) ?_⟩
  refine ⟨_, rfl, _, _, rfl, rfl, ?_⟩
  rw [fig_inB]
  exact q
theorem sc_is_dialled : FnScope ["thing"] ["thing"] (defScope (top 24)) := ⟨rfl, rfl, rfl, by decide +kernel, rfl, by decide +kernel, by decide +kernel⟩
theorem ok_dialled (T : Txt K mg) (C_is_figure : Callee P w K mg base 1 "is_figure" ["thing"] spFigC) (D : Def K mg "is_dialled" (top 24) ["thing"]) : Callee P w K mg base 2 "is_dialled" ["thing"] spDialled := by
  refine D.ok sc_is_dialled (fun vs H Q E h => ?_) (fun f cdv A outer s H vs Q E hr h => ?_)
  · obtain ⟨x, o, rfl, _⟩ := h
    rfl
  obtain ⟨x, o, rfl, hN, q⟩ := h
  obtain ⟨t8, m_MOST_FIGURES⟩ := T.s_MOST_FIGURES
  refine ⟨_, (pss_cons (ps_if (PW.pt (pw_or (pt_not (pt_truK K (pe_callB (call_isinstK K) rfl T.m_isinstance boot_isinstance (pa_cons (pv 0) (pa_cons (pe_bltn (v := .ty "str") rfl T.m_str boot_str rfl) pa_nil st_name) st_name)) (fun _ => rfl))) (pw_or (pt_cmpR op_lt (pe_callB call_len_str rfl T.m_len boot_len (pa_cons (pv 0) pa_nil st_name)) pe_int (nomark _)) (pw_or1 (pt_cmpR op_gt (pe_callB call_len_str rfl T.m_len boot_len (pa_cons (pv 0) pa_nil st_name)) (pe_glob (v := .int 8) rfl m_MOST_FIGURES ⟨_, rfl⟩) (nomark _)))))) (pss_one (ps_ret pe_bl)) pss_nil)
    (pss_one (ps_ret (pe_callB (call_allK K rfl) rfl T.m_all boot_all (pa_cons (pe_comp (own := ["sign"]) (fr := []) rfl (show CompScope ["thing"] (defScope (top 24)) _ _ _ from ⟨rfl, by decide +kernel, by decide +kernel, by decide +kernel, by decide +kernel⟩) (pi_str (pv 0)) (fun cl C s H ex => ⟨(pg_name (i := 0) (show (["sign"] : List Str).Nodup from by decide +kernel) rfl (Or.inl rfl) (Or.inr rfl)), pif_nil, (pe_fn C_is_figure hr rfl (pa_cons (pv 0) pa_nil st_name))⟩)) pa_nil st_comp))))), ?_⟩
  cases hN with
  | int i => exact ⟨_, rfl, _, _, _, false, rfl, .int i, kit_int_str, _, rfl, iteT (q H (Same.refl H))⟩
  | str z hz =>
    replace q : ∀ H', Same H H' → Q (.bl (decide (1 ≤ z.length ∧ z.length ≤ 8) && figB z)) H' := q
    have hsz : z.length ≤ sizeLine := Nat.le_of_lt (small1000 (by have := hz.len; omega))
    have hll : z.cps.toList.length = z.length := rfl
    have no : ∀ H', Same H H' → ¬ (1 ≤ z.length ∧ z.length ≤ 8) → Q (.bl false) H' := fun H' s' c => by
      have := q H' s'
      rw [decide_eq_false c, Bool.false_and] at this
      exact this
    refine ⟨_, rfl, _, _, _, true, rfl, .str z, kit_str_str, _, rfl, iteF ?_⟩
    refine ⟨_, rfl, z, rfl, hsz, _, _, rfl, rfl, _, rfl, ?_⟩
    refine ite2 (fun c => ?_) (fun c => ?_)
    · have c' : ((z.length : Nat) : Int) < 1 := of_decide_eq_true c
      exact iteT (no H (Same.refl H) (by omega))
    have c1 : ¬ ((z.length : Nat) : Int) < 1 := fun y => c (decide_eq_true y)
    refine ⟨_, rfl, z, rfl, hsz, _, _, rfl, rfl, _, rfl, ?_⟩
    refine ite2 (fun c => ?_) (fun c => ?_)
    · have c' : (8 : Int) < ((z.length : Nat) : Int) := of_decide_eq_true c
      exact no H (Same.refl H) (by omega)
    have c2 : ¬ (8 : Int) < ((z.length : Nat) : Int) := fun y => c (decide_eq_true y)
    refine ⟨_, rfl, z, rfl, hz.asc, ?_⟩
    refine comp_str (fun i acc σ H' => H' = H ∧ acc = ((z.cps.toList.take i).map fun c => decide (48 ≤ c ∧ c ≤ 57)).map V.bl ∧ ∃ v, σ = [v])
      ⟨rfl, rfl, none, rfl⟩ hsz (fun i acc σ H' g => ?_) ?_ ?_
    · obtain ⟨_, rfl, _⟩ := g
      rw [List.length_map, List.length_map, List.length_take]
      omega
    · rintro i c acc σ H' hc ⟨rfl, rfl, v, rfl⟩
      refine ⟨_, rfl, c, rfl, rfl, ?_, _, rfl⟩
      have hc' : z.cps.toList[i]? = some c := by rw [Array.getElem?_toList]; exact hc
      rw [List.take_succ, hc', List.map_append, List.map_append]
      rfl
    · rintro acc σ H' ⟨rfl, rfl, v, rfl⟩ p hp
      refine ⟨p, _, rfl, SqL.of upd_same, ?_⟩
      have := q _ (same_new hp (.lst (((z.cps.toList.take z.length).map fun c => decide (48 ≤ c ∧ c ≤ 57)).map V.bl)))
      rw [decide_eq_true (show 1 ≤ z.length ∧ z.length ≤ 8 by omega), Bool.true_and] at this
      unfold figB at this
      rw [List.all_map, List.take_of_length_le (by rw [hll]; exact Nat.le_refl _)] at *
      exact this
theorem sc_is_group : FnScope ["hall", "thing"] ["hall", "thing"] (defScope (top 25)) := ⟨rfl, rfl, rfl, by decide +kernel, rfl, by decide +kernel, by decide +kernel⟩
theorem ok_is_group (T : Txt K mg) (C_is_ends : Callee P w K mg base 4 "is_ends" ["hall", "thing"] (spIsEnds K)) (D : Def K mg "is_group" (top 25) ["hall", "thing"]) : Callee P w K mg base 5 "is_group" ["hall", "thing"] (spIsGroup K) := by
  refine D.ok sc_is_group (fun vs H Q E h => ?_) (fun f cdv A outer s H vs Q E hr h => ?_)
  · obtain ⟨a, h, x, o, rfl, _⟩ := h
    rfl
  obtain ⟨a, h, x, o, rfl, hH, ok, hg, q⟩ := h
  obtain ⟨t8, m_MOST_ENDS⟩ := T.s_MOST_ENDS
  refine ⟨_, (pss_one (ps_ret (pe_and (pe_callB (call_isinstK K) rfl T.m_isinstance boot_isinstance (pa_cons (pv 1) (pa_cons (pe_bltn (v := .ty "tuple") rfl T.m_tuple boot_tuple rfl) pa_nil st_name) st_name)) (pe_and (pe_cmpR op_le (pe_callB (call_lenK K) rfl T.m_len boot_len (pa_cons (pv 1) pa_nil st_name)) (pe_glob (v := .int 8) rfl m_MOST_ENDS ⟨_, rfl⟩) (nomark _)) (pe_one (pe_fn C_is_ends hr rfl (pa_cons (pv 0) (pa_cons (pv 1) pa_nil st_name) st_name))))))), ?_⟩
  cases hg with
  | no ty hk => exact ⟨_, rfl, _, _, _, false, rfl, ty, hk, _, rfl, iteF (q H (Same.refl H))⟩
  | @tup g xs e hp =>
    refine ⟨_, rfl, _, _, _, true, rfl, .tup e, kit_tup_tup, _, rfl, iteT ?_⟩
    refine ⟨_, rfl, g, _, rfl, .inr (SqT.of e), _, _, rfl, rfl, _, rfl, ?_⟩
    have q' : ∀ H', Same H H' → Q (.bl (decide (xs.length ≤ 8) && endsB (h.o * h.e) xs)) H' := q
    refine ite2 (fun c => ?_) (fun c => ?_)
    · have c' : ((xs.length : Nat) : Int) ≤ 8 := of_decide_eq_true c
      refine ⟨_, rfl, _, rfl, a, g, h, xs, rfl, hH, ok, e, hp, fun H1 s1 => ?_⟩
      have := q' H1 s1
      rw [decide_eq_true (show xs.length ≤ 8 by omega), Bool.true_and] at this
      exact this
    · have c' : ¬ ((xs.length : Nat) : Int) ≤ 8 := fun y => c (decide_eq_true y)
      have := q' H (Same.refl H)
      rw [decide_eq_false (show ¬ xs.length ≤ 8 by omega), Bool.false_and] at this
      exact this
theorem sc_is_row : FnScope ["hall", "thing"] ["hall", "thing"] (defScope (top 26)) := ⟨rfl, rfl, rfl, by decide +kernel, rfl, by decide +kernel, by decide +kernel⟩
theorem ok_is_row (T : Txt K mg) (C_is_dialled : Callee P w K mg base 2 "is_dialled" ["thing"] spDialled) (C_is_group : Callee P w K mg base 5 "is_group" ["hall", "thing"] (spIsGroup K)) (D : Def K mg "is_row" (top 26) ["hall", "thing"]) : Callee P w K mg base 6 "is_row" ["hall", "thing"] (spIsRow K) := by
  refine D.ok sc_is_row (fun vs H Q E h => ?_) (fun f cdv A outer s H vs Q E hr h => ?_)
  · obtain ⟨a, h, x, o, rfl, _⟩ := h
    rfl
  obtain ⟨a, h, x, o, rfl, hH, ok, hg, q⟩ := h
  refine ⟨_, (pss_cons (ps_if (PW.pt (pw_or (pt_not (pt_truK K (pe_callB (call_isinstK K) rfl T.m_isinstance boot_isinstance (pa_cons (pv 1) (pa_cons (pe_bltn (v := .ty "tuple") rfl T.m_tuple boot_tuple rfl) pa_nil st_name) st_name)) (fun _ => rfl))) (pw_or1 (pt_cmpR op_ne (pe_callB (call_lenK K) rfl T.m_len boot_len (pa_cons (pv 1) pa_nil st_name)) pe_int (nomark _))))) (pss_one (ps_ret pe_bl)) pss_nil)
    (pss_one (ps_ret (pe_and (pe_fn C_is_dialled hr rfl (pa_cons (pe_ix (ix_tupK K) (pv 1) pe_int (fun _ _ => rfl)) pa_nil st_sub)) (pe_one (pe_fn C_is_group hr rfl (pa_cons (pv 0) (pa_cons (pe_ix (ix_tupK K) (pv 1) pe_int (fun _ _ => rfl)) pa_nil st_sub) st_name))))))), ?_⟩
  cases hg with
  | no ty hk => exact ⟨_, rfl, _, _, _, false, rfl, ty, hk, _, rfl, iteT (q H (Same.refl H))⟩
  | @oth b xs e hl =>
    refine ⟨_, rfl, _, _, _, true, rfl, .tup e, kit_tup_tup, _, rfl, iteF ?_⟩
    refine ⟨_, rfl, b, _, rfl, .inr (SqT.of e), rfl, _, rfl, iteP ?_ (q H (Same.refl H))⟩
    have : decide (V.int ((xs.length : Nat) : Int) = V.int 2) = false := decide_eq_false fun y => hl (by have := V.int.inj y; omega)
    show (!decide (V.int ((xs.length : Nat) : Int) = V.int 2)) = true
    rw [this]
    rfl
  | @two b n g on og e hn hg =>
    refine ⟨_, rfl, _, _, _, true, rfl, .tup e, kit_tup_tup, _, rfl, iteF ?_⟩
    refine ⟨_, rfl, b, _, rfl, .inr (SqT.of e), rfl, _, rfl, iteN (show ¬ (!decide (V.int ((2 : Nat) : Int) = V.int 2)) = true by decide) ?_⟩
    have q' : ∀ H', Same H H' → Q (.bl (numB on && grpB (h.o * h.e) og)) H' := q
    refine ⟨_, rfl, b, _, _, _, rfl, rfl, SqT.of e, rfl, n, on, rfl, hn, fun H1 s1 => ⟨_, rfl, ?_⟩⟩
    cases hb : numB on with
    | false =>
      have := q' H1 s1
      rw [hb, Bool.false_and] at this
      exact iteF this
    | true =>
      refine iteT ⟨_, rfl, _, rfl, b, _, _, _, rfl, rfl, SqT.of (s1 _ _ e), rfl, a, h, g, og, rfl, Same.seqT s1 hH, ok, hg.same s1, fun H2 s2 => ?_⟩
      have := q' H2 (s1.trans s2)
      rw [hb, Bool.true_and] at this
      exact this
theorem sc_clash : FnScope ["one", "other"] ["one", "other"] (defScope (top 27)) := ⟨rfl, rfl, rfl, by decide +kernel, rfl, by decide +kernel, by decide +kernel⟩
theorem ok_clash (T : Txt K mg) (D : Def K mg "clash" (top 27) ["one", "other"]) : Callee P w K mg base 1 "clash" ["one", "other"] spClash := by
  refine D.ok sc_clash (fun vs H Q E h => ?_) (fun f cdv A outer s H vs Q E hr h => ?_)
  · obtain ⟨a, g, a', g', d, d', rfl, _⟩ := h
    rfl
  obtain ⟨a, g, a', g', d, d', rfl, h1, h2, q⟩ := h
  refine ⟨_, (pss_cons (ps_if (PW.pt (pw_or (pt_truK K (pe_bmK K PySem.F.plainAttrs_str PySem.F.slot_str_startswith PySem.F.type_str_startswith mt_startsS (pe_ix (ix_tupK K) (pv 0) pe_int (fun _ _ => rfl)) (pa_cons (pe_ix (ix_tupK K) (pv 1) pe_int (fun _ _ => rfl)) pa_nil st_sub)) (fun _ => rfl)) (pw_or1 (pt_truK K (pe_bmK K PySem.F.plainAttrs_str PySem.F.slot_str_startswith PySem.F.type_str_startswith mt_startsS (pe_ix (ix_tupK K) (pv 1) pe_int (fun _ _ => rfl)) (pa_cons (pe_ix (ix_tupK K) (pv 0) pe_int (fun _ _ => rfl)) pa_nil st_sub)) (fun _ => rfl))))) (pss_one (ps_ret pe_bl)) pss_nil)
    (pss_one (ps_ret (pe_callB (call_anyK K rfl) rfl T.m_any boot_any (pa_cons (pe_comp (own := ["end"]) (fr := [(1, "other")]) rfl (show CompScope ["one", "other"] (defScope (top 27)) _ _ _ from ⟨rfl, by decide +kernel, by decide +kernel, by decide +kernel, by decide +kernel⟩) (pi_tupK K (pe_ix (ix_tupK K) (pv 0) pe_int (fun _ _ => rfl))) (fun cl C s H ex => ⟨(pg_name (i := 0) (show (["end", "other"] : List Str).Nodup from by decide +kernel) rfl (Or.inl rfl) (Or.inr rfl)), pif_nil, (pe_cmpR (op_inK K) (pv 0) (pe_ix (ix_tupK K) (pv 1) pe_int (fun _ _ => rfl)) (by with_unfolding_all rfl))⟩)) pa_nil st_comp))))), ?_⟩
  have q1 := q H (Same.refl H)
  refine ⟨_, rfl, a, _, _, _, rfl, rfl, SqT.of h1.t, rfl, rfl, _, rfl, a', _, _, _, rfl, rfl, SqT.of h2.t, rfl, _, _, rfl, rfl, _, rfl, ?_⟩
  rw [starts_pre]
  unfold clashB at q1 q
  refine ite2 (fun c => ?_) (fun c => ?_)
  · rw [c, Bool.true_or, Bool.true_or] at q1
    exact iteT q1
  rw [Bool.eq_false_iff.mpr c, Bool.false_or] at q1 q
  refine ⟨_, rfl, a', _, _, _, rfl, rfl, SqT.of h2.t, rfl, rfl, _, rfl, a, _, _, _, rfl, rfl, SqT.of h1.t, rfl, _, _, rfl, rfl, _, rfl, ?_⟩
  rw [starts_pre]
  refine ite2 (fun c => ?_) (fun c => ?_)
  · rw [c, Bool.true_or] at q1
    exact q1
  rw [Bool.eq_false_iff.mpr c, Bool.false_or] at q
  have few := h1.few
  refine ⟨_, rfl, a, _, _, _, rfl, rfl, SqT.of h1.t, rfl, g, rfl, ⟨_, SqT.of h1.e⟩, ?_⟩
  refine comp_tup (xs := d.2.map V.int) (fun i acc σ H' => H' = H ∧ acc = ((d.2.take i).map fun e => decide (e ∈ d'.2)).map V.bl ∧ ∃ v, σ = [v, some (.ref a')])
    ⟨rfl, rfl, none, rfl⟩ (Nat.le_of_lt (small1000 (by rw [List.length_map]; omega))) (fun i acc σ H' g => ?_) (fun i acc σ H' _ g => g.1 ▸ SqT.of h1.e) ?_ ?_
  · obtain ⟨_, rfl, _⟩ := g
    rw [List.length_map, List.length_map, List.length_take]
    omega
  · rintro i y acc σ H' hy ⟨rfl, rfl, v, rfl⟩
    rw [List.getElem?_map] at hy
    obtain ⟨e, he, rfl⟩ := Option.map_eq_some_iff.mp hy
    refine ⟨_, rfl, _, rfl, a', _, _, _, rfl, rfl, SqT.of h2.t, rfl, g', _, rfl, .inr (SqT.of h2.e), rfl, int_flat _, rfl, ?_, _, rfl⟩
    rw [List.take_succ, he, List.map_append, List.map_append, int_in]
    rfl
  · rintro acc σ H' ⟨rfl, rfl, v, rfl⟩ p hp
    refine ⟨p, _, rfl, SqL.of upd_same, ?_⟩
    have := q _ (same_new hp (.lst (((d.2.take (d.2.map V.int).length).map fun e => decide (e ∈ d'.2)).map V.bl)))
    rw [List.any_map]
    rw [List.length_map, List.take_length] at *
    exact this
end
def rowF (i : Nat) : List (Str × V) := [("row", .int (i : Nat))]
def spNoBkI (C : Addr) : Sp := fun vs H Q _ => ∃ (e : Addr) (v : V), vs = [.ref e, v] ∧ H e = some (ExcF e C none) ∧ ∀ (dx : Addr) (H' : Hp), H dx = none → dx ≠ e → (∀ b, b ≠ e → b ≠ dx → H' b = H b) → H' e = some (ExcF e C (some dx)) → H' dx = some (XdO dx [("row", v)]) → Q .non H'
def spBookOf (K : PySem.W.Frag) (C : Addr) : Sp := fun vs H Q E => ∃ (p l : Addr) (h : Hall) (xs : List V) (os : List RO), vs = [.ref p, .ref l] ∧ SqT K H p (h.row.map V.int) ∧ h.Ok ∧ SqL K H l xs ∧ RowsAt K H xs os ∧ xs.length ≤ 64 ∧
  (FaultIs (h.o * h.e) os none → ∀ (r : Addr) (H' : Hp), Same H H' → H r = none → H' r = some (.lst xs) → Q (.ref r) H') ∧ ∀ (i : Nat) (dx : Addr) (H' : Hp), FaultIs (h.o * h.e) os (some i) → Same H H' → H' dx = some (XdO dx (rowF i)) → E (.ref C) (some dx) H'
theorem cutV_take (xs : List V) (i : Nat) : cutV xs none (some (i : Int)) = xs.take i := by
  unfold cutV
  rw [HT.sIx_none, HT.sIx_nat, List.drop_zero, Nat.sub_zero]
  by_cases h : i ≤ xs.length
  · rw [Nat.min_eq_left h]
  · rw [Nat.min_eq_right (by omega), List.take_length, List.take_of_length_le (by omega)]
theorem bad_is {T : Int} {os : List RO} {i : Nat} {o : RO} (h : os[i]? = some o) : badAt T os i = (decide (40 ≤ i) || (!rowB T o || (os.take i).any fun o' => clashB (dat o) (dat o'))) := by
  unfold badAt
  rw [h]
section
variable {P : Program} {w : World} {K : PySem.W.Frag} {mg : Str → Option Value} {base : Heap} {C_HallError C_NoLine C_NoBook C_NoFigure C_NoTurn C_NoKind C_NoRank C_Out C_NoDeed : Addr}
theorem sc_NoBook___init__ : FnScope ["self", "row"] ["self", "row"] (defScope (inClass (top 3) 0)) := ⟨rfl, rfl, rfl, by decide +kernel, rfl, by decide +kernel, by decide +kernel⟩
theorem ok_noBkI (T : Txt K mg) (Z : TxtC K mg C_HallError C_NoLine C_NoBook C_NoFigure C_NoTurn C_NoKind C_NoRank C_Out C_NoDeed) (D : DefM K C_NoBook "__init__" "NoBook.__init__" (inClass (top 3) 0) ["self", "row"] [] noKw) : CalleeM P w K mg base 1 C_NoBook "__init__" ["self", "row"] [] noKw (spNoBkI C_NoBook) := by
  refine D.ok sc_NoBook___init__ (fun vs H Q E h => ?_) (fun f cdv A outer s H vs Q E hr h => ?_)
  · obtain ⟨e, v, rfl, _⟩ := h
    rfl
  obtain ⟨e, v, rfl, he, q⟩ := h
  refine ⟨_, (pss_one (ps_x0 K (pv 0) (pv 1) rfl)), ?_⟩
  refine ⟨_, rfl, _, rfl, e, C_NoBook, rfl, he, Z.n_NoBook, Z.x_NoBook.mo, Z.f_NoBook_row, fun dx hdx => ?_⟩
  have ne : dx ≠ e := fun z => by rw [z, he] at hdx; cases hdx
  exact q dx _ hdx ne (fun b n1 n2 => by rw [upd_ne n2, upd_ne n1]) (by rw [upd_ne (Ne.symm ne), upd_same]) upd_same
theorem sc_book_of : FnScope ["hall", "rows", "place", "row"] ["hall", "rows"] (defScope (top 28)) := ⟨rfl, rfl, rfl, by decide +kernel, rfl, by decide +kernel, by decide +kernel⟩
set_option maxHeartbeats 2000000 in
theorem ok_book_of (T : Txt K mg) (Z : TxtC K mg C_HallError C_NoLine C_NoBook C_NoFigure C_NoTurn C_NoKind C_NoRank C_Out C_NoDeed) (C_is_row : Callee P w K mg base 6 "is_row" ["hall", "thing"] (spIsRow K)) (C_clash : Callee P w K mg base 1 "clash" ["one", "other"] spClash) (C_NoBook___init__ : CalleeM P w K mg base 1 C_NoBook "__init__" ["self", "row"] [] noKw (spNoBkI C_NoBook)) (D : Def K mg "book_of" (top 28) ["hall", "rows"]) : CalleeF P w K mg base 7 "book_of" ["hall", "rows"] [] (spBookOf K C_NoBook) := by
  refine D.okF sc_book_of (fun vs H Q E h => ?_) (fun f cdv A outer s H vs Q E hr h => ?_)
  · obtain ⟨p, l, h, xs, os, rfl, _⟩ := h
    rfl
  obtain ⟨p, l, h, xs, os, rfl, hH, ok, hl, hR, few, q, qE⟩ := h
  have lx : xs.length = os.length := Paired.length hR
  obtain ⟨t40, m_MOST_ROWS⟩ := T.s_MOST_ROWS
  refine ⟨_, (pss_cons (ps_if (pt_cmpR op_eq (pe_callB (call_lenK K) rfl T.m_len boot_len (pa_cons (pv 1) pa_nil st_name)) pe_int (nomark _)) (pss_one (ps_raiseI letsF_cx Z.i_NoBook C_NoBook___init__ hr hr.hd rfl (pa_cons pe_int pa_nil st_const))) pss_nil)
    (pss_cons (ps_for PassesOwn.leaving rfl (pi_enum K rfl T.m_enumerate (pa_cons (pv 1) pa_nil st_name)) (pg2K K rfl sc_book_of.nd (Nm.mk (i := 2) rfl (Or.inl rfl) (Or.inl rfl)) (Nm.mk (i := 3) rfl (Or.inr rfl) (Or.inl rfl)))
    (pss_one (ps_if (PW.pt (pw_or (pt_cmpR op_ge (pv 2) (pe_glob (v := .int 40) rfl m_MOST_ROWS ⟨_, rfl⟩) (nomark _)) (pw_or (pt_not (pt_truK K (pe_fn C_is_row hr rfl (pa_cons (pv 0) (pa_cons (pv 3) pa_nil st_name) st_name)) (fun _ => rfl))) (pw_or1 (pt_truK K (pe_callB (call_anyK K rfl) rfl T.m_any boot_any (pa_cons (pe_comp (own := ["ahead"]) (fr := [(3, "row")]) rfl (show CompScope ["hall", "rows", "place", "row"] (defScope (top 28)) _ _ _ from ⟨rfl, by decide +kernel, by decide +kernel, by decide +kernel, by decide +kernel⟩) (pi_listK K (pe_slice (sl_listK K) (pv 1) po_none (po_some (pv 2)))) (fun cl C s H ex => ⟨(pg_name (i := 0) (show (["ahead", "row"] : List Str).Nodup from by decide +kernel) rfl (Or.inl rfl) (Or.inr rfl)), pif_nil, (pe_fn C_clash hr rfl (pa_cons (pv 1) (pa_cons (pv 0) pa_nil st_name) st_name))⟩)) pa_nil st_comp)) (fun _ => rfl)))))) (pss_one (ps_raiseI letsF_cx Z.i_NoBook C_NoBook___init__ hr hr.hd rfl (pa_cons (pv 2) pa_nil st_name))) pss_nil)))
    (pss_one (ps_ret (pe_callTy (call_listK K) rfl T.m_list boot_list (pa_cons (pv 1) pa_nil st_name)))))), ?_⟩
  have rais : ∀ (i : Nat) (H1 : Hp), Same H H1 → FaultIs (h.o * h.e) os (some i) → ∀ ea, H1 ea = none → ∀ (dx : Addr) (H4 : Hp), upd H1 ea (ExcF ea C_NoBook none) dx = none → dx ≠ ea → (∀ b, b ≠ ea → b ≠ dx → H4 b = upd H1 ea (ExcF ea C_NoBook none) b) → H4 ea = some (ExcF ea C_NoBook (some dx)) → H4 dx = some (XdO dx [("row", .int (i : Nat))]) → E (.ref C_NoBook) (some dx) (untr H4 ea) := by
    intro i H1 s1 fi ea hea dx H4 hdx ne oth e1 e2
    rw [upd_ne ne] at hdx
    refine qE i dx _ fi (s1.trans fun b u z => ?_) (by rw [untr_ne ne]; exact e2)
    have nb : b ≠ ea := fun y => by rw [y, hea] at z; cases z
    have nd' : b ≠ dx := fun y => by rw [y, hdx] at z; cases z
    rw [untr_ne nb, oth b nb nd', upd_ne nb]
    exact z
  refine ⟨_, rfl, l, _, rfl, .inl hl, rfl, _, rfl, ?_⟩
  refine ite2 (fun c => ?_) (fun c => ?_)
  · have c' : xs.length = 0 := by have := V.int.inj (of_decide_eq_true c); omega
    have eo : os = [] := List.length_eq_zero_iff.mp (by omega)
    refine ⟨(by show 1 ≤ 1000; decide), fun ea hea => ?_⟩
    exact ⟨ea, .int (0 : Nat), rfl, upd_same, fun dx H4 hdx ne oth e1 e2 => ⟨rfl, some dx, e1, rais 0 H (Same.refl H) (.empty eo) ea hea dx H4 hdx ne oth e1 e2⟩⟩
  have ne0 : os ≠ [] := fun z => c (by rw [z] at lx; rw [show xs.length = 0 from lx]; rfl)
  refine ⟨_, rfl, l, xs, rfl, hl, ?_⟩
  refine for_enum (xs := xs) (fun i σ G => Same H G ∧ NoBad (h.o * h.e) os i ∧ ∃ (v2 v3 : Option V), σ = [some (.ref p), some (.ref l), v2, v3])
    ⟨Same.refl H, (fun j hj => absurd hj (by omega)), none, none, rfl⟩ (fun i σ G _ g => g.1.seq hl) ?_ ?_
  · rintro i x σ G tp hx ⟨sG, nb, v2, v3, rfl⟩ htp
    obtain ⟨o, ho, hth⟩ := paired_at hR i x hx
    have hi := (List.getElem?_eq_some_iff.mp hx).1
    have sG1 := sG.trans (same_new htp (.tup [.int (i : Nat), x]))
    have ep := upd_same (H := G) (a := tp) (o := .tup [.int (i : Nat), x])
    generalize upd G tp (.tup [.int (i : Nat), x]) = G1 at ep sG1 ⊢
    have i40 := nb.lt40 (by omega)
    have bi := bad_is (T := h.o * h.e) ho
    refine ⟨tp, [.int (i : Nat), x], rfl, SqT.of ep, rfl, .int (i : Nat), [x], rfl, x, [], rfl, rfl, ?_⟩
    refine ⟨_, rfl, _, _, rfl, rfl, _, rfl, ?_⟩
    refine ite2 (fun c1 => ?_) (fun c1 => ?_)
    · have c1' : (40 : Int) ≤ (i : Int) := of_decide_eq_true c1
      rw [decide_eq_true (show 40 ≤ i by omega), Bool.true_or] at bi
      refine iteT ⟨_, rfl, (by show 1 ≤ 1000; decide), fun ea hea => ?_⟩
      exact ⟨ea, .int (i : Nat), rfl, upd_same, fun dx H4 hdx ne oth e1 e2 => ⟨rfl, some dx, e1, rais i G1 sG1 (.at_ i (by omega) bi nb) ea hea dx H4 hdx ne oth e1 e2⟩⟩
    have c1' : ¬ (40 : Int) ≤ (i : Int) := fun y => c1 (decide_eq_true y)
    rw [decide_eq_false (show ¬ 40 ≤ i by omega), Bool.false_or] at bi
    refine ⟨_, rfl, _, rfl, p, h, x, o, rfl, Same.seqT sG1 hH, ok, hth.same sG1, fun G2 s2 => ⟨_, rfl, ?_⟩⟩
    have sG2 := sG1.trans s2
    cases hb : rowB (h.o * h.e) o with
    | false =>
      rw [hb, Bool.not_false, Bool.true_or] at bi
      refine iteT (iteT ⟨_, rfl, (by show 1 ≤ 1000; decide), fun ea hea => ?_⟩)
      exact ⟨ea, .int (i : Nat), rfl, upd_same, fun dx H4 hdx ne oth e1 e2 => ⟨rfl, some dx, e1, rais i G2 sG2 (.at_ i (by omega) bi nb) ea hea dx H4 hdx ne oth e1 e2⟩⟩
    | true =>
      rw [hb, Bool.not_true, Bool.false_or] at bi
      refine iteF ?_
      obtain ⟨xa, xg, rfl, hxg⟩ := (hth.same sG2).good hb
      refine ⟨_, rfl, _, rfl, _, rfl, l, _, rfl, sG2.seq hl, fun sl hsl => ?_⟩
      rw [cutV_take]
      have s3 := same_new hsl (.lst (xs.take i))
      have e3 := upd_same (H := G2) (a := sl) (o := .lst (xs.take i))
      generalize upd G2 sl (.lst (xs.take i)) = G3 at s3 e3 ⊢
      have sG3 := sG2.trans s3
      refine ⟨sl, rfl, ⟨_, SqL.of e3⟩, ?_⟩
      have lt : (xs.take i).length = i := by rw [List.length_take]; omega
      refine comp_list (xs := xs.take i) (fun k acc σ H' => Same G3 H' ∧ acc = ((os.take k).map fun o' => clashB (dat o) (dat o')).map V.bl ∧ k ≤ i ∧ ∃ v, σ = [v, some (.ref xa)])
        ⟨Same.refl _, rfl, Nat.zero_le _, none, rfl⟩ (Nat.le_of_lt (small1000 (by omega))) (fun k acc σ H' g => ?_) (fun k acc σ H' _ g => SqL.of (g.1 _ _ e3)) ?_ ?_
      · obtain ⟨_, rfl, _⟩ := g
        rw [List.length_map, List.length_map, List.length_take]
        omega
      · rintro k y acc σ H' hy ⟨s4, rfl, _, v, rfl⟩
        have hk : k < i := by
          have := (List.getElem?_eq_some_iff.mp hy).1
          omega
        rw [List.getElem?_take_of_lt hk] at hy
        obtain ⟨o', a', g', ho', rfl, hg'⟩ := nb.rows hR hk hy
        refine ⟨_, rfl, _, rfl, xa, xg, a', g', dat o, dat o', rfl, (hxg.same s3).same s4, (hg'.same sG3).same s4, fun H5 s5 => ?_⟩
        refine ⟨s4.trans s5, ?_, by omega, _, rfl⟩
        rw [List.take_succ, ho', List.map_append, List.map_append]
        rfl
      · rintro acc σ H' ⟨s4, rfl, _, v, rfl⟩ r hr0
        have s5 := s4.trans (same_new hr0 (.lst (((os.take (xs.take i).length).map fun o' => clashB (dat o) (dat o')).map V.bl)))
        have e5 := upd_same (H := H') (a := r) (o := .lst (((os.take (xs.take i).length).map fun o' => clashB (dat o) (dat o')).map V.bl))
        generalize upd H' r _ = G5 at s5 e5 ⊢
        refine ⟨r, _, rfl, SqL.of e5, _, rfl, ?_⟩
        rw [lt, List.any_map]
        have sG5 := sG3.trans s5
        refine ite2 (fun c3 => ?_) (fun c3 => ?_)
        · refine ⟨_, rfl, (by show 1 ≤ 1000; decide), fun ea hea => ?_⟩
          have bt : badAt (h.o * h.e) os i = true := by rw [bi]; exact c3
          exact ⟨ea, .int (i : Nat), rfl, upd_same, fun dx H4 hdx ne oth e1 e2 => ⟨rfl, some dx, e1, rais i G5 sG5 (.at_ i (by omega) bt nb) ea hea dx H4 hdx ne oth e1 e2⟩⟩
        · have bf : badAt (h.o * h.e) os i = false := by rw [bi]; exact Bool.eq_false_iff.mpr c3
          exact ⟨sG5, nb.next bf, _, _, rfl⟩
  · rintro σ G ⟨sG, nb, v2, v3, rfl⟩
    rw [lx] at nb
    refine ⟨_, rfl, l, _, rfl, .inl (sG.seq hl), fun r hr0 => ?_⟩
    exact q (.none ne0 nb) r _ (sG.trans (same_new hr0 _)) (sG.free hr0) upd_same
end
theorem asc_iff {z : Str} : z.cps.all (· < 128) = true ↔ ∀ c ∈ z.cps.toList, c < 128 := by
  rw [← Array.all_toList, List.all_eq_true]
  constructor
  · exact fun h c hc => of_decide_eq_true (h c hc)
  · exact fun h c hc => decide_eq_true (h c hc)
theorem asc_app {a b : Str} (ha : ∀ c ∈ a.cps.toList, c < 128) (hb : ∀ c ∈ b.cps.toList, c < 128) : ∀ c ∈ (a ++ b).cps.toList, c < 128 := fun c hc => by
  rw [app_list] at hc
  rcases List.mem_append.mp hc with z | z
  · exact ha c z
  · exact hb c z
theorem asc_cut {z : Str} (lo hi : Option Int) (h : ∀ c ∈ z.cps.toList, c < 128) : ∀ c ∈ (cutS z lo hi).cps.toList, c < 128 := fun c hc => h c (by
  have hc : c ∈ ((z.cps.toList.drop (HT.sIx z.length 0 lo)).take (HT.sIx z.length z.length hi - HT.sIx z.length 0 lo)) := hc
  exact List.mem_of_mem_drop (List.mem_of_mem_take hc))
theorem asc_digs {z : Str} (h : digs z) : ∀ c ∈ z.cps.toList, c < 128 := fun c hc => by have := h c hc; omega
def RowLe (n : Nat) : RO → Prop
  | some (some z, _) => z.length ≤ n
  | _ => True
def OkV (K : PySem.W.Frag) (H : Hp) (n : Nat) (v : V) : Prop := ∃ o, RowTh K H v o ∧ RowLe n o ∧ sameV v = true
theorem OkV.same {K : PySem.W.Frag} {H H' : Hp} {n : Nat} {v : V} (s : Same H H') (h : OkV K H n v) : OkV K H' n v := by
  obtain ⟨o, h1, h2, h3⟩ := h
  exact ⟨o, h1.same s, h2, h3⟩
theorem RowLe.mono {n m : Nat} {o : RO} (h : n ≤ m) (r : RowLe n o) : RowLe m o := by
  match o, r with
  | some (some z, _), r => exact Nat.le_trans r h
  | some (none, _), _ => trivial
  | none, _ => trivial
theorem OkV.mono {K : PySem.W.Frag} {H : Hp} {n m : Nat} {v : V} (l : n ≤ m) (h : OkV K H n v) : OkV K H m v := by
  obtain ⟨o, h1, h2, h3⟩ := h
  exact ⟨o, h1, h2.mono l, h3⟩
theorem okTwo {K : PySem.W.Frag} {H : Hp} {n : Nat} {a : Addr} {z : Str} {g : V} {og : Option (List V)} (e : H a = some (.tup [.str z, g])) (hz : ∀ c ∈ z.cps.toList, c < 128) (l : z.length ≤ n) (ln : n ≤ 100) (hg : GrpTh K H g og) : OkV K H n (.ref a) :=
  ⟨_, .two e (.str z ⟨by omega, asc_iff.mpr hz⟩) hg, l, rfl⟩
theorem okSeven {K : PySem.W.Frag} {H : Hp} {n : Nat} {a : Addr} {i : Int} {g : V} {og : Option (List V)} (e : H a = some (.tup [.int i, g])) (hg : GrpTh K H g og) : OkV K H n (.ref a) := ⟨_, .two e (.int i) hg, trivial, rfl⟩
theorem okNo {K : PySem.W.Frag} {H : Hp} {n : Nat} {v : V} {t : Value} (ty : TyOf K H v t) (h : PySem.W.kitOne K t (.type "tuple") = some false) (s : sameV v = true) : OkV K H n v := ⟨_, .no ty h, trivial, s⟩
theorem okOth {K : PySem.W.Frag} {H : Hp} {n : Nat} {a : Addr} {xs : List V} (e : H a = some (.tup xs)) (h : xs.length ≠ 2) : OkV K H n (.ref a) := ⟨_, .oth e h, trivial, rfl⟩
theorem part_bl {K : PySem.W.Frag} {H : Hp} (b : Bool) : PartIs K H (.bl b) := .odd (fun _ z => nomatch z) (.bl b) kit_bool_int kit_bool_bool (.inr rfl)
theorem part_non {K : PySem.W.Frag} {H : Hp} : PartIs K H .non := .odd (fun _ z => nomatch z) .non kit_non_int kit_non_bool (.inl rfl)
theorem part_str {K : PySem.W.Frag} {H : Hp} (x : Str) : PartIs K H (.str x) := .odd (fun _ z => nomatch z) (.str x) kit_str_int kit_str_bool (.inl rfl)
theorem parts_one {K : PySem.W.Frag} {H : Hp} {x : V} (h : PartIs K H x) : Parts K H [x] := ⟨fun y hy => by rw [List.mem_singleton.mp hy]; exact h, by show 1 ≤ 16; decide⟩
theorem parts_app {K : PySem.W.Frag} {H : Hp} {xs ys : List V} (h1 : Parts K H xs) (h2 : Parts K H ys) (l : xs.length + ys.length ≤ 16) : Parts K H (xs ++ ys) := ⟨fun y hy => by
  rcases List.mem_append.mp hy with z | z
  · exact h1.p y z
  · exact h2.p y z, by rw [List.length_append]; exact l⟩
theorem parts_cut {K : PySem.W.Frag} {H : Hp} {xs : List V} (lo hi : Option Int) (h : Parts K H xs) : Parts K H (cutV xs lo hi) := ⟨fun y hy => h.p y (by
  unfold cutV at hy
  exact List.mem_of_mem_drop (List.mem_of_mem_take hy)), Nat.le_trans (cutV_length xs lo hi) h.few⟩
def AllOk (K : PySem.W.Frag) (H : Hp) (n : Nat) (xs : List V) : Prop := ∀ v ∈ xs, OkV K H n v
theorem AllOk.same {K : PySem.W.Frag} {H H' : Hp} {n : Nat} {xs : List V} (s : Same H H') (h : AllOk K H n xs) : AllOk K H' n xs := fun v hv => (h v hv).same s
theorem allOk_nil {K : PySem.W.Frag} {H : Hp} {n : Nat} : AllOk K H n [] := fun v hv => nomatch hv
theorem allOk_snoc {K : PySem.W.Frag} {H : Hp} {n : Nat} {x : V} {xs : List V} (t : AllOk K H n xs) (h : OkV K H n x) : AllOk K H n (xs ++ [x]) := fun v hv => by
  rcases List.mem_append.mp hv with z | z
  · exact t v z
  · rw [List.mem_singleton.mp z]; exact h
theorem allOk_app {K : PySem.W.Frag} {H : Hp} {n : Nat} {xs ys : List V} (h : AllOk K H n xs) (t : AllOk K H n ys) : AllOk K H n (xs ++ ys) := fun v hv => by
  rcases List.mem_append.mp hv with z | z
  · exact h v z
  · exact t v z
def spOddR (K : PySem.W.Frag) : Sp := fun vs H Q _ => ∃ (z : Str) (g : Addr) (ns : List Int) (T c : Int), vs = [.str z, .ref g, .int T, .int c] ∧ (∀ c ∈ z.cps.toList, c < 128) ∧ z.length ≤ 9 ∧ H g = some (.tup (ns.map V.int)) ∧ ns ≠ [] ∧ ns.length ≤ 8 ∧ ∀ (v : V) (H' : Hp), Same H H' → OkV K H' 20 v → Q v H'
section
variable {P : Program} {w : World} {K : PySem.W.Frag} {mg : Str → Option Value} {base : Heap}
theorem sc__law_odd : FnScope ["_law_number", "_law_group", "_law_total", "_law_cell", "_law_some", "_law_nine"] ["_law_number", "_law_group", "_law_total", "_law_cell"] (defScope (top 33)) := ⟨rfl, rfl, rfl, by decide +kernel, rfl, by decide +kernel, by decide +kernel⟩
set_option maxHeartbeats 4000000 in
theorem ok_odd (T : Txt K mg) (D : Def K mg "_law_odd" (top 33) ["_law_number", "_law_group", "_law_total", "_law_cell"]) : Callee P w K mg base 1 "_law_odd" ["_law_number", "_law_group", "_law_total", "_law_cell"] (spOddR K) := by
  refine D.ok sc__law_odd (fun vs H Q E h => ?_) (fun f cdv A outer s H vs Q E hr h => ?_)
  · obtain ⟨z, g, ns, T, c, rfl, _⟩ := h
    rfl
  obtain ⟨z, g, ns, tt, c, rfl, hz, l9, eg, hne, n8, q⟩ := h
  refine ⟨_, (pss_cons (ps_set (i := 4) sc__law_odd.nd rfl (Or.inl rfl) (pe_lst (pa_cons pe_non (pa_cons pe_int (pa_cons (pv 0) (pa_cons (pe_lst (pa_cons (pv 0) (pa_cons (pv 1) pa_nil st_name) st_name)) (pa_cons (pe_tup (pa_cons (pv 0) pa_nil st_name)) (pa_cons (pe_tup (pa_cons (pv 0) (pa_cons (pv 1) (pa_cons pe_int pa_nil st_const) st_name) st_name)) (pa_cons (pe_tup (pa_cons (pv 0) (pa_cons (pe_callTy (call_listK K) rfl T.m_list boot_list (pa_cons (pv 1) pa_nil st_name)) pa_nil st_call) st_name)) (pa_cons (pe_tup (pa_cons (pv 0) (pa_cons (pe_tup pa_nil) pa_nil st_tup) st_name)) pa_nil st_tup) st_tup) st_tup) st_tup) st_list) st_name) st_const) st_const)))
    (pss_cons (ps_set (i := 4) sc__law_odd.nd rfl (Or.inl rfl) (pe_op op_cat (pv 4) (pe_lst (pa_cons (pe_tup (pa_cons pe_str (pa_cons (pv 1) pa_nil st_name) st_const)) (pa_cons (pe_tup (pa_cons (pe_op op_add_str (pv 0) pe_str) (pa_cons (pv 1) pa_nil st_name) st_bin)) (pa_cons (pe_tup (pa_cons (pe_op op_add_str (pe_slice sl_strS (pv 0) po_none (po_some (pe_un un_neg pe_int))) pe_str) (pa_cons (pv 1) pa_nil st_name) st_bin)) (pa_cons (pe_tup (pa_cons pe_int (pa_cons (pv 1) pa_nil st_name) st_const)) pa_nil st_tup) st_tup) st_tup) st_tup))))
    (pss_cons (ps_set (i := 4) sc__law_odd.nd rfl (Or.inl rfl) (pe_op op_cat (pv 4) (pe_lst (pa_cons (pe_tup (pa_cons (pv 0) (pa_cons (pe_op op_catW (pv 1) (pe_slice sl_tupW (pv 1) po_none (po_some pe_int))) pa_nil st_bin) st_name)) (pa_cons (pe_tup (pa_cons (pv 0) (pa_cons (pe_tup (pa_cons (pe_op op_sub pe_int pe_int) pa_nil st_bin)) pa_nil st_tup) st_name)) (pa_cons (pe_tup (pa_cons (pv 0) (pa_cons (pe_tup (pa_cons (pv 2) pa_nil st_name)) pa_nil st_tup) st_name)) (pa_cons (pe_tup (pa_cons (pv 0) (pa_cons (pe_tup (pa_cons pe_bl pa_nil st_const)) pa_nil st_tup) st_name)) pa_nil st_tup) st_tup) st_tup) st_tup))))
    (pss_cons (ps_set (i := 4) sc__law_odd.nd rfl (Or.inl rfl) (pe_op op_cat (pv 4) (pe_lst (pa_cons (pe_tup (pa_cons (pv 0) (pa_cons (pe_tup (pa_cons pe_non pa_nil st_const)) pa_nil st_tup) st_name)) (pa_cons (pe_tup (pa_cons (pe_op op_add_str pe_str (pe_slice sl_strS (pv 0) (po_some pe_int) po_none)) (pa_cons (pv 1) pa_nil st_name) st_bin)) (pa_cons (pe_tup (pa_cons (pv 0) (pa_cons pe_int pa_nil st_const) st_name)) (pa_cons (pe_tup (pa_cons (pv 0) (pa_cons (pe_tup (pa_cons pe_str pa_nil st_const)) pa_nil st_tup) st_name)) pa_nil st_tup) st_tup) st_tup) st_tup))))
    (pss_cons (ps_set (i := 5) sc__law_odd.nd rfl (Or.inl rfl) (pe_callTy (call_tupleK K) rfl T.m_tuple boot_tuple (pa_cons (pe_comp (own := ["_law_k"]) (fr := [(1, "_law_group")]) rfl (show CompScope ["_law_number", "_law_group", "_law_total", "_law_cell", "_law_some", "_law_nine"] (defScope (top 33)) _ _ _ from ⟨rfl, by decide +kernel, by decide +kernel, by decide +kernel, by decide +kernel⟩) (pi_range1 rfl T.m_range (pa_cons pe_int pa_nil st_const)) (fun cl C s H ex => ⟨(pg_name (i := 0) (show (["_law_k", "_law_group"] : List Str).Nodup from by decide +kernel) rfl (Or.inl rfl) (Or.inr rfl)), pif_nil, (pe_op op_add (pe_callB (call_minTK K rfl) rfl T.m_min boot_min (pa_cons (pv 1) pa_nil st_name)) (pv 0))⟩)) pa_nil st_comp)))
    (pss_cons (ps_set (i := 4) sc__law_odd.nd rfl (Or.inl rfl) (pe_op op_cat (pv 4) (pe_lst (pa_cons (pe_tup (pa_cons (pv 0) (pa_cons (pv 5) pa_nil st_name) st_name)) (pa_cons (pe_tup (pa_cons (pe_slice sl_strS (pe_op op_add_str (pv 0) pe_str) po_none (po_some pe_int)) (pa_cons (pv 1) pa_nil st_name) st_sub)) pa_nil st_tup) st_tup))))
    (pss_one (ps_ret (pe_ix (ix_listK K) (pv 4) (pe_op op_mod (pv 3) pe_int) (fun _ _ => rfl)))))))))), ?_⟩
  have ln : (ns.map V.int).length = ns.length := List.length_map ..
  have pn : ∀ {G : Hp}, Parts K G (ns.map V.int) := fun {G} => parts_ints (by omega)
  have as : ∀ x : Str, (x.cps.toList.all fun c => decide (c < 128)) = true → ∀ c ∈ x.cps.toList, c < 128 := fun x hx c hc => of_decide_eq_true (List.all_eq_true.mp hx c hc)
  have lz9 : ∀ x : Str, x.length ≤ 30 → x.length ≤ sizeLine := fun x hx => Nat.le_of_lt (small1000 (by omega))
  have cl : ∀ lo hi, (cutS z lo hi).length ≤ 9 := fun lo hi => Nat.le_trans (cutS_len _ _ _) l9
  have hzs := lz9 z (by omega)
  have hE : ∀ c ∈ (Str.ofString "").cps.toList, c < 128 := as _ (by decide +kernel)
  have lE : (Str.ofString "").length ≤ 20 := by decide +kernel
  have h9 : (Str.ofString "123456789").length = 9 := by decide +kernel
  have lA : z.length + (Str.ofString "123456789").length ≤ sizeLine := Nat.le_of_lt (small1000 (by omega))
  have hA9 : ∀ c ∈ (z ++ Str.ofString "123456789").cps.toList, c < 128 := asc_app hz (as _ (by decide +kernel))
  have lA9 : (z ++ Str.ofString "123456789").length ≤ 20 := by rw [len_app]; omega
  have ha1 : (Str.ofString "a").length = 1 := by decide +kernel
  have lB : (cutS z none (some (-1))).length + (Str.ofString "a").length ≤ sizeLine := Nat.le_of_lt (small1000 (by have := cl none (some (-1)); omega))
  have hB : ∀ c ∈ (cutS z none (some (-1)) ++ Str.ofString "a").cps.toList, c < 128 := asc_app (asc_cut _ _ hz) (as _ (by decide +kernel))
  have lB9 : (cutS z none (some (-1)) ++ Str.ofString "a").length ≤ 20 := by rw [len_app]; have := cl none (some (-1)); omega
  have hs1 : (Str.ofString " ").length = 1 := by decide +kernel
  have lC : (Str.ofString " ").length + (cutS z (some 1) none).length ≤ sizeLine := Nat.le_of_lt (small1000 (by have := cl (some 1) none; omega))
  have hC : ∀ c ∈ (Str.ofString " " ++ cutS z (some 1) none).cps.toList, c < 128 := asc_app (as _ (by decide +kernel)) (asc_cut _ _ hz)
  have lC9 : (Str.ofString " " ++ cutS z (some 1) none).length ≤ 20 := by rw [len_app]; have := cl (some 1) none; omega
  have S : Same H H := Same.refl H
  have A : AllOk K H 20 [] := allOk_nil
  replace A := allOk_snoc A (okNo .non kit_non_tup rfl : OkV K H 20 .non)
  replace A := allOk_snoc A (okNo (.int 7) kit_int_tup rfl : OkV K H 20 (.int 7))
  replace A := allOk_snoc A (okNo (.str z) kit_str_tup rfl : OkV K H 20 (.str z))
  refine ⟨_, rfl, _, rfl, _, rfl, (by show 2 ≤ sizeLine; decide), fun a1 h1 => ?_⟩
  have s1 := same_new h1 (.lst ([.str z, .ref g]))
  have e_a1 := upd_same (H := H) (a := a1) (o := .lst ([.str z, .ref g]))
  generalize upd H a1 (.lst ([.str z, .ref g])) = H1 at s1 e_a1 ⊢
  replace S := S.trans s1
  replace eg := s1 _ _ eg
  replace A := A.same s1
  clear s1 h1
  replace A := allOk_snoc A (okNo (.lst e_a1) kit_lst_tup rfl : OkV K H1 20 (.ref a1))
  clear e_a1
  refine ⟨_, rfl, (by show 1 ≤ sizeLine; decide), fun a2 h2 => ?_⟩
  have s2 := same_new h2 (.tup ([.str z]))
  have e_a2 := upd_same (H := H1) (a := a2) (o := .tup ([.str z]))
  generalize upd H1 a2 (.tup ([.str z])) = H2 at s2 e_a2 ⊢
  replace S := S.trans s2
  replace eg := s2 _ _ eg
  replace A := A.same s2
  clear s2 h2
  replace A := allOk_snoc A (okOth e_a2 (by simp) : OkV K H2 20 (.ref a2))
  clear e_a2
  refine ⟨_, rfl, _, rfl, (by show 3 ≤ sizeLine; decide), fun a3 h3 => ?_⟩
  have s3 := same_new h3 (.tup ([.str z, .ref g, .int 0]))
  have e_a3 := upd_same (H := H2) (a := a3) (o := .tup ([.str z, .ref g, .int 0]))
  generalize upd H2 a3 (.tup ([.str z, .ref g, .int 0])) = H3 at s3 e_a3 ⊢
  replace S := S.trans s3
  replace eg := s3 _ _ eg
  replace A := A.same s3
  clear s3 h3
  replace A := allOk_snoc A (okOth e_a3 (by simp) : OkV K H3 20 (.ref a3))
  clear e_a3
  refine ⟨_, rfl, _, rfl, g, _, rfl, .inr (SqT.of eg), fun a4 h4 => ?_⟩
  have s4 := same_new h4 (.lst (ns.map V.int))
  have e_a4 := upd_same (H := H3) (a := a4) (o := .lst (ns.map V.int))
  generalize upd H3 a4 (.lst (ns.map V.int)) = H4 at s4 e_a4 ⊢
  replace S := S.trans s4
  replace eg := s4 _ _ eg
  replace A := A.same s4
  clear s4 h4
  refine ⟨(by show 2 ≤ sizeLine; decide), fun a5 h5 => ?_⟩
  have s5 := same_new h5 (.tup ([.str z, .ref a4]))
  have e_a5 := upd_same (H := H4) (a := a5) (o := .tup ([.str z, .ref a4]))
  generalize upd H4 a5 (.tup ([.str z, .ref a4])) = H5 at s5 e_a5 ⊢
  replace S := S.trans s5
  replace eg := s5 _ _ eg
  replace A := A.same s5
  replace e_a4 := s5 _ _ e_a4
  clear s5 h5
  replace A := allOk_snoc A (okTwo e_a5 hz (by omega) (by omega) (.no (.lst e_a4) kit_lst_tup) : OkV K H5 20 (.ref a5))
  clear e_a5 e_a4
  refine ⟨_, rfl, (by show 0 ≤ sizeLine; decide), fun a6 h6 => ?_⟩
  have s6 := same_new h6 (.tup ([]))
  have e_a6 := upd_same (H := H5) (a := a6) (o := .tup ([]))
  generalize upd H5 a6 (.tup ([])) = H6 at s6 e_a6 ⊢
  replace S := S.trans s6
  replace eg := s6 _ _ eg
  replace A := A.same s6
  clear s6 h6
  refine ⟨(by show 2 ≤ sizeLine; decide), fun a7 h7 => ?_⟩
  have s7 := same_new h7 (.tup ([.str z, .ref a6]))
  have e_a7 := upd_same (H := H6) (a := a7) (o := .tup ([.str z, .ref a6]))
  generalize upd H6 a7 (.tup ([.str z, .ref a6])) = H7 at s7 e_a7 ⊢
  replace S := S.trans s7
  replace eg := s7 _ _ eg
  replace A := A.same s7
  replace e_a6 := s7 _ _ e_a6
  clear s7 h7
  replace A := allOk_snoc A (okTwo e_a7 hz (by omega) (by omega) (.tup e_a6 ⟨(fun x hx => nomatch hx), Nat.zero_le _⟩) : OkV K H7 20 (.ref a7))
  clear e_a7 e_a6
  refine ⟨(by show 8 ≤ sizeLine; decide), fun L0 h8 => ?_⟩
  have s8 := same_new h8 (.lst ([.non, .int 7, .str z, .ref a1, .ref a2, .ref a3, .ref a5, .ref a7]))
  have e_L0 := upd_same (H := H7) (a := L0) (o := .lst ([.non, .int 7, .str z, .ref a1, .ref a2, .ref a3, .ref a5, .ref a7]))
  generalize upd H7 L0 (.lst ([.non, .int 7, .str z, .ref a1, .ref a2, .ref a3, .ref a5, .ref a7])) = H8 at s8 e_L0 ⊢
  replace S := S.trans s8
  replace eg := s8 _ _ eg
  replace A := A.same s8
  clear s8 h8
  have lX : ([.non, .int 7, .str z, .ref a1, .ref a2, .ref a3, .ref a5, .ref a7] : List V).length = 8 := rfl
  change AllOk K H8 20 [.non, .int 7, .str z, .ref a1, .ref a2, .ref a3, .ref a5, .ref a7] at A
  dsimp only [gName]
  generalize ([.non, .int 7, .str z, .ref a1, .ref a2, .ref a3, .ref a5, .ref a7] : List V) = X0 at e_L0 A lX ⊢
  have B := A
  clear A
  have A : AllOk K H8 20 [] := allOk_nil
  refine ⟨_, rfl, _, rfl, (by show 2 ≤ sizeLine; decide), fun a9 h9 => ?_⟩
  have s9 := same_new h9 (.tup ([.str "", .ref g]))
  have e_a9 := upd_same (H := H8) (a := a9) (o := .tup ([.str "", .ref g]))
  generalize upd H8 a9 (.tup ([.str "", .ref g])) = H9 at s9 e_a9 ⊢
  replace S := S.trans s9
  replace eg := s9 _ _ eg
  replace e_L0 := s9 _ _ e_L0
  replace B := B.same s9
  replace A := A.same s9
  clear s9 h9
  replace A := allOk_snoc A (okTwo e_a9 hE lE (by omega) (.tup eg pn) : OkV K H9 20 (.ref a9))
  clear e_a9
  refine ⟨_, rfl, _, _, rfl, rfl, lA, _, rfl, (by show 2 ≤ sizeLine; decide), fun a10 h10 => ?_⟩
  have s10 := same_new h10 (.tup ([.str (z ++ "123456789"), .ref g]))
  have e_a10 := upd_same (H := H9) (a := a10) (o := .tup ([.str (z ++ "123456789"), .ref g]))
  generalize upd H9 a10 (.tup ([.str (z ++ "123456789"), .ref g])) = H10 at s10 e_a10 ⊢
  replace S := S.trans s10
  replace eg := s10 _ _ eg
  replace e_L0 := s10 _ _ e_L0
  replace B := B.same s10
  replace A := A.same s10
  clear s10 h10
  replace A := allOk_snoc A (okTwo e_a10 hA9 lA9 (by omega) (.tup eg pn) : OkV K H10 20 (.ref a10))
  clear e_a10
  refine ⟨_, rfl, _, rfl, _, rfl, z, rfl, hzs, _, _, rfl, rfl, lB, _, rfl, (by show 2 ≤ sizeLine; decide), fun a11 h11 => ?_⟩
  have s11 := same_new h11 (.tup ([.str (cutS z none (some (-1)) ++ "a"), .ref g]))
  have e_a11 := upd_same (H := H10) (a := a11) (o := .tup ([.str (cutS z none (some (-1)) ++ "a"), .ref g]))
  generalize upd H10 a11 (.tup ([.str (cutS z none (some (-1)) ++ "a"), .ref g])) = H11 at s11 e_a11 ⊢
  replace S := S.trans s11
  replace eg := s11 _ _ eg
  replace e_L0 := s11 _ _ e_L0
  replace B := B.same s11
  replace A := A.same s11
  clear s11 h11
  replace A := allOk_snoc A (okTwo e_a11 hB lB9 (by omega) (.tup eg pn) : OkV K H11 20 (.ref a11))
  clear e_a11
  refine ⟨_, rfl, (by show 2 ≤ sizeLine; decide), fun a12 h12 => ?_⟩
  have s12 := same_new h12 (.tup ([.int 7, .ref g]))
  have e_a12 := upd_same (H := H11) (a := a12) (o := .tup ([.int 7, .ref g]))
  generalize upd H11 a12 (.tup ([.int 7, .ref g])) = H12 at s12 e_a12 ⊢
  replace S := S.trans s12
  replace eg := s12 _ _ eg
  replace e_L0 := s12 _ _ e_L0
  replace B := B.same s12
  replace A := A.same s12
  clear s12 h12
  replace A := allOk_snoc A (okSeven e_a12 (.tup eg pn) : OkV K H12 20 (.ref a12))
  clear e_a12
  refine ⟨(by show 4 ≤ sizeLine; decide), fun M1 h13 => ?_⟩
  have s13 := same_new h13 (.lst ([.ref a9, .ref a10, .ref a11, .ref a12]))
  have e_M1 := upd_same (H := H12) (a := M1) (o := .lst ([.ref a9, .ref a10, .ref a11, .ref a12]))
  generalize upd H12 M1 (.lst ([.ref a9, .ref a10, .ref a11, .ref a12])) = H13 at s13 e_M1 ⊢
  replace S := S.trans s13
  replace eg := s13 _ _ eg
  replace e_L0 := s13 _ _ e_L0
  replace B := B.same s13
  replace A := A.same s13
  clear s13 h13
  change AllOk K H13 20 [.ref a9, .ref a10, .ref a11, .ref a12] at A
  have lY : ([.ref a9, .ref a10, .ref a11, .ref a12] : List V).length = 4 := rfl
  generalize ([.ref a9, .ref a10, .ref a11, .ref a12] : List V) = Y1 at e_M1 A lY ⊢
  refine ⟨L0, M1, _, _, rfl, rfl, e_L0, e_M1, Nat.le_of_lt (small1000 (by omega)), fun L1 h14 => ?_⟩
  have s14 := same_new h14 (.lst (X0 ++ Y1))
  have e_L1 := upd_same (H := H13) (a := L1) (o := .lst (X0 ++ Y1))
  generalize upd H13 L1 (.lst (X0 ++ Y1)) = H14 at s14 e_L1 ⊢
  clear e_M1
  replace S := S.trans s14
  replace eg := s14 _ _ eg
  replace e_L0 := s14 _ _ e_L0
  replace B := B.same s14
  replace A := A.same s14
  clear s14 h14
  clear e_L0
  have lZ : (X0 ++ Y1).length = 12 := by rw [List.length_append, lX, lY]
  replace B := allOk_app B A
  clear A lX lY
  have lX := lZ
  clear lZ
  dsimp only [gName]
  generalize X0 ++ Y1 = X1 at e_L1 B lX ⊢
  have A : AllOk K H14 20 [] := allOk_nil
  have fp := eg
  refine ⟨_, rfl, _, rfl, _, rfl, _, rfl, _, rfl, g, _, rfl, eg, fun c1 G1 s1 ec1 => ?_⟩
  replace s1 : Same _ G1 := s1
  replace S := S.trans s1
  replace eg := s1 _ _ eg
  replace B := B.same s1
  replace e_L1 := s1 _ _ e_L1
  replace A := A.same s1
  clear s1 fp
  refine ⟨g, c1, _, _, rfl, rfl, eg, ec1, Nat.le_of_lt (small1000 (by have := cutV_length (ns.map V.int) none (some 1); omega)), fun c2 G2 s2 ec2 => ?_⟩
  have p2 : ∀ {G : Hp}, Parts K G (ns.map V.int ++ cutV (ns.map V.int) none (some 1)) := fun {G} => parts_app pn (parts_cut _ _ pn) (by have := cutV_length (ns.map V.int) none (some 1); omega)
  replace S := S.trans s2
  replace eg := s2 _ _ eg
  replace B := B.same s2
  replace e_L1 := s2 _ _ e_L1
  replace A := A.same s2
  replace ec1 := s2 _ _ ec1
  clear s2
  clear ec1
  refine ⟨(by show 2 ≤ sizeLine; decide), fun a16 h16 => ?_⟩
  have s16 := same_new h16 (.tup ([.str z, .ref c2]))
  have e_a16 := upd_same (H := G2) (a := a16) (o := .tup ([.str z, .ref c2]))
  generalize upd G2 a16 (.tup ([.str z, .ref c2])) = H16 at s16 e_a16 ⊢
  replace S := S.trans s16
  replace eg := s16 _ _ eg
  replace B := B.same s16
  replace e_L1 := s16 _ _ e_L1
  replace A := A.same s16
  replace ec2 := s16 _ _ ec2
  clear s16 h16
  replace A := allOk_snoc A (okTwo e_a16 hz (by omega) (by omega) (.tup ec2 p2) : OkV K H16 20 (.ref a16))
  clear e_a16 ec2
  clear p2
  refine ⟨_, rfl, _, _, rfl, rfl, (by show 1 ≤ sizeLine; decide), fun a17 h17 => ?_⟩
  have s17 := same_new h17 (.tup ([.int (0 - 1)]))
  have e_a17 := upd_same (H := H16) (a := a17) (o := .tup ([.int (0 - 1)]))
  generalize upd H16 a17 (.tup ([.int (0 - 1)])) = H17 at s17 e_a17 ⊢
  replace S := S.trans s17
  replace eg := s17 _ _ eg
  replace B := B.same s17
  replace e_L1 := s17 _ _ e_L1
  replace A := A.same s17
  clear s17 h17
  refine ⟨(by show 2 ≤ sizeLine; decide), fun a18 h18 => ?_⟩
  have s18 := same_new h18 (.tup ([.str z, .ref a17]))
  have e_a18 := upd_same (H := H17) (a := a18) (o := .tup ([.str z, .ref a17]))
  generalize upd H17 a18 (.tup ([.str z, .ref a17])) = H18 at s18 e_a18 ⊢
  replace S := S.trans s18
  replace eg := s18 _ _ eg
  replace B := B.same s18
  replace e_L1 := s18 _ _ e_L1
  replace A := A.same s18
  replace e_a17 := s18 _ _ e_a17
  clear s18 h18
  replace A := allOk_snoc A (okTwo e_a18 hz (by omega) (by omega) (.tup e_a17 (parts_one (.int _))) : OkV K H18 20 (.ref a18))
  clear e_a18 e_a17
  refine ⟨_, rfl, _, rfl, (by show 1 ≤ sizeLine; decide), fun a19 h19 => ?_⟩
  have s19 := same_new h19 (.tup ([.int tt]))
  have e_a19 := upd_same (H := H18) (a := a19) (o := .tup ([.int tt]))
  generalize upd H18 a19 (.tup ([.int tt])) = H19 at s19 e_a19 ⊢
  replace S := S.trans s19
  replace eg := s19 _ _ eg
  replace B := B.same s19
  replace e_L1 := s19 _ _ e_L1
  replace A := A.same s19
  clear s19 h19
  refine ⟨(by show 2 ≤ sizeLine; decide), fun a20 h20 => ?_⟩
  have s20 := same_new h20 (.tup ([.str z, .ref a19]))
  have e_a20 := upd_same (H := H19) (a := a20) (o := .tup ([.str z, .ref a19]))
  generalize upd H19 a20 (.tup ([.str z, .ref a19])) = H20 at s20 e_a20 ⊢
  replace S := S.trans s20
  replace eg := s20 _ _ eg
  replace B := B.same s20
  replace e_L1 := s20 _ _ e_L1
  replace A := A.same s20
  replace e_a19 := s20 _ _ e_a19
  clear s20 h20
  replace A := allOk_snoc A (okTwo e_a20 hz (by omega) (by omega) (.tup e_a19 (parts_one (.int _))) : OkV K H20 20 (.ref a20))
  clear e_a20 e_a19
  refine ⟨_, rfl, (by show 1 ≤ sizeLine; decide), fun a21 h21 => ?_⟩
  have s21 := same_new h21 (.tup ([.bl true]))
  have e_a21 := upd_same (H := H20) (a := a21) (o := .tup ([.bl true]))
  generalize upd H20 a21 (.tup ([.bl true])) = H21 at s21 e_a21 ⊢
  replace S := S.trans s21
  replace eg := s21 _ _ eg
  replace B := B.same s21
  replace e_L1 := s21 _ _ e_L1
  replace A := A.same s21
  clear s21 h21
  refine ⟨(by show 2 ≤ sizeLine; decide), fun a22 h22 => ?_⟩
  have s22 := same_new h22 (.tup ([.str z, .ref a21]))
  have e_a22 := upd_same (H := H21) (a := a22) (o := .tup ([.str z, .ref a21]))
  generalize upd H21 a22 (.tup ([.str z, .ref a21])) = H22 at s22 e_a22 ⊢
  replace S := S.trans s22
  replace eg := s22 _ _ eg
  replace B := B.same s22
  replace e_L1 := s22 _ _ e_L1
  replace A := A.same s22
  replace e_a21 := s22 _ _ e_a21
  clear s22 h22
  replace A := allOk_snoc A (okTwo e_a22 hz (by omega) (by omega) (.tup e_a21 (parts_one (part_bl _))) : OkV K H22 20 (.ref a22))
  clear e_a22 e_a21
  refine ⟨(by show 4 ≤ sizeLine; decide), fun M2 h23 => ?_⟩
  have s23 := same_new h23 (.lst ([.ref a16, .ref a18, .ref a20, .ref a22]))
  have e_M2 := upd_same (H := H22) (a := M2) (o := .lst ([.ref a16, .ref a18, .ref a20, .ref a22]))
  generalize upd H22 M2 (.lst ([.ref a16, .ref a18, .ref a20, .ref a22])) = H23 at s23 e_M2 ⊢
  replace S := S.trans s23
  replace eg := s23 _ _ eg
  replace B := B.same s23
  replace e_L1 := s23 _ _ e_L1
  replace A := A.same s23
  clear s23 h23
  change AllOk K H23 20 [.ref a16, .ref a18, .ref a20, .ref a22] at A
  have lY : ([.ref a16, .ref a18, .ref a20, .ref a22] : List V).length = 4 := rfl
  generalize ([.ref a16, .ref a18, .ref a20, .ref a22] : List V) = Y2 at e_M2 A lY ⊢
  refine ⟨L1, M2, _, _, rfl, rfl, e_L1, e_M2, Nat.le_of_lt (small1000 (by omega)), fun L2 h24 => ?_⟩
  have s24 := same_new h24 (.lst (X1 ++ Y2))
  have e_L2 := upd_same (H := H23) (a := L2) (o := .lst (X1 ++ Y2))
  generalize upd H23 L2 (.lst (X1 ++ Y2)) = H24 at s24 e_L2 ⊢
  clear e_M2
  replace S := S.trans s24
  replace eg := s24 _ _ eg
  replace B := B.same s24
  replace e_L1 := s24 _ _ e_L1
  replace A := A.same s24
  clear s24 h24
  clear e_L1
  have lZ : (X1 ++ Y2).length = 16 := by rw [List.length_append, lX, lY]
  replace B := allOk_app B A
  clear A lX lY
  have lX := lZ
  clear lZ
  dsimp only [gName]
  generalize X1 ++ Y2 = X2 at e_L2 B lX ⊢
  have A : AllOk K H24 20 [] := allOk_nil
  refine ⟨_, rfl, _, rfl, (by show 1 ≤ sizeLine; decide), fun a25 h25 => ?_⟩
  have s25 := same_new h25 (.tup ([.non]))
  have e_a25 := upd_same (H := H24) (a := a25) (o := .tup ([.non]))
  generalize upd H24 a25 (.tup ([.non])) = H25 at s25 e_a25 ⊢
  replace S := S.trans s25
  replace eg := s25 _ _ eg
  replace B := B.same s25
  replace e_L2 := s25 _ _ e_L2
  replace A := A.same s25
  clear s25 h25
  refine ⟨(by show 2 ≤ sizeLine; decide), fun a26 h26 => ?_⟩
  have s26 := same_new h26 (.tup ([.str z, .ref a25]))
  have e_a26 := upd_same (H := H25) (a := a26) (o := .tup ([.str z, .ref a25]))
  generalize upd H25 a26 (.tup ([.str z, .ref a25])) = H26 at s26 e_a26 ⊢
  replace S := S.trans s26
  replace eg := s26 _ _ eg
  replace B := B.same s26
  replace e_L2 := s26 _ _ e_L2
  replace A := A.same s26
  replace e_a25 := s26 _ _ e_a25
  clear s26 h26
  replace A := allOk_snoc A (okTwo e_a26 hz (by omega) (by omega) (.tup e_a25 (parts_one part_non)) : OkV K H26 20 (.ref a26))
  clear e_a26 e_a25
  refine ⟨_, rfl, _, rfl, z, rfl, hzs, _, _, rfl, rfl, lC, _, rfl, (by show 2 ≤ sizeLine; decide), fun a27 h27 => ?_⟩
  have s27 := same_new h27 (.tup ([.str (" " ++ cutS z (some 1) none), .ref g]))
  have e_a27 := upd_same (H := H26) (a := a27) (o := .tup ([.str (" " ++ cutS z (some 1) none), .ref g]))
  generalize upd H26 a27 (.tup ([.str (" " ++ cutS z (some 1) none), .ref g])) = H27 at s27 e_a27 ⊢
  replace S := S.trans s27
  replace eg := s27 _ _ eg
  replace B := B.same s27
  replace e_L2 := s27 _ _ e_L2
  replace A := A.same s27
  clear s27 h27
  replace A := allOk_snoc A (okTwo e_a27 hC lC9 (by omega) (.tup eg pn) : OkV K H27 20 (.ref a27))
  clear e_a27
  refine ⟨_, rfl, (by show 2 ≤ sizeLine; decide), fun a28 h28 => ?_⟩
  have s28 := same_new h28 (.tup ([.str z, .int 0]))
  have e_a28 := upd_same (H := H27) (a := a28) (o := .tup ([.str z, .int 0]))
  generalize upd H27 a28 (.tup ([.str z, .int 0])) = H28 at s28 e_a28 ⊢
  replace S := S.trans s28
  replace eg := s28 _ _ eg
  replace B := B.same s28
  replace e_L2 := s28 _ _ e_L2
  replace A := A.same s28
  clear s28 h28
  replace A := allOk_snoc A (okTwo e_a28 hz (by omega) (by omega) (.no (.int 0) kit_int_tup) : OkV K H28 20 (.ref a28))
  clear e_a28
  refine ⟨_, rfl, (by show 1 ≤ sizeLine; decide), fun a29 h29 => ?_⟩
  have s29 := same_new h29 (.tup ([.str "0"]))
  have e_a29 := upd_same (H := H28) (a := a29) (o := .tup ([.str "0"]))
  generalize upd H28 a29 (.tup ([.str "0"])) = H29 at s29 e_a29 ⊢
  replace S := S.trans s29
  replace eg := s29 _ _ eg
  replace B := B.same s29
  replace e_L2 := s29 _ _ e_L2
  replace A := A.same s29
  clear s29 h29
  refine ⟨(by show 2 ≤ sizeLine; decide), fun a30 h30 => ?_⟩
  have s30 := same_new h30 (.tup ([.str z, .ref a29]))
  have e_a30 := upd_same (H := H29) (a := a30) (o := .tup ([.str z, .ref a29]))
  generalize upd H29 a30 (.tup ([.str z, .ref a29])) = H30 at s30 e_a30 ⊢
  replace S := S.trans s30
  replace eg := s30 _ _ eg
  replace B := B.same s30
  replace e_L2 := s30 _ _ e_L2
  replace A := A.same s30
  replace e_a29 := s30 _ _ e_a29
  clear s30 h30
  replace A := allOk_snoc A (okTwo e_a30 hz (by omega) (by omega) (.tup e_a29 (parts_one (part_str _))) : OkV K H30 20 (.ref a30))
  clear e_a30 e_a29
  refine ⟨(by show 4 ≤ sizeLine; decide), fun M3 h31 => ?_⟩
  have s31 := same_new h31 (.lst ([.ref a26, .ref a27, .ref a28, .ref a30]))
  have e_M3 := upd_same (H := H30) (a := M3) (o := .lst ([.ref a26, .ref a27, .ref a28, .ref a30]))
  generalize upd H30 M3 (.lst ([.ref a26, .ref a27, .ref a28, .ref a30])) = H31 at s31 e_M3 ⊢
  replace S := S.trans s31
  replace eg := s31 _ _ eg
  replace B := B.same s31
  replace e_L2 := s31 _ _ e_L2
  replace A := A.same s31
  clear s31 h31
  change AllOk K H31 20 [.ref a26, .ref a27, .ref a28, .ref a30] at A
  have lY : ([.ref a26, .ref a27, .ref a28, .ref a30] : List V).length = 4 := rfl
  generalize ([.ref a26, .ref a27, .ref a28, .ref a30] : List V) = Y3 at e_M3 A lY ⊢
  refine ⟨L2, M3, _, _, rfl, rfl, e_L2, e_M3, Nat.le_of_lt (small1000 (by omega)), fun L3 h32 => ?_⟩
  have s32 := same_new h32 (.lst (X2 ++ Y3))
  have e_L3 := upd_same (H := H31) (a := L3) (o := .lst (X2 ++ Y3))
  generalize upd H31 L3 (.lst (X2 ++ Y3)) = H32 at s32 e_L3 ⊢
  clear e_M3
  replace S := S.trans s32
  replace eg := s32 _ _ eg
  replace B := B.same s32
  replace e_L2 := s32 _ _ e_L2
  replace A := A.same s32
  clear s32 h32
  clear e_L2
  have lZ : (X2 ++ Y3).length = 20 := by rw [List.length_append, lX, lY]
  replace B := allOk_app B A
  clear A lX lY
  have lX := lZ
  clear lZ
  dsimp only [gName]
  generalize X2 ++ Y3 = X3 at e_L3 B lX ⊢
  have hS := S
  refine ⟨_, rfl, by decide, by decide, ?_⟩
  refine comp_range (lo := 0) (n := 9) (fun i acc σ G => G = H32 ∧ (∃ ms : List Int, acc = ms.map V.int ∧ ms.length = i) ∧ ∃ v, σ = [v, some (.ref g)])
    ⟨rfl, ⟨[], rfl, rfl⟩, none, rfl⟩ (Nat.le_of_lt (small1000 (by decide))) (fun i acc σ G gg => ?_) ?_ ?_
  · obtain ⟨_, ⟨ms, rfl, lm⟩, _⟩ := gg
    rw [List.length_map]
    exact Nat.le_of_eq lm
  · rintro i acc σ G hi ⟨rfl, ⟨ms, rfl, lm⟩, v, rfl⟩
    refine ⟨_, rfl, g, ns, rfl, SqT.of eg, hne, fun M _ _ => ⟨_, rfl, _, _, rfl, rfl, rfl, ⟨ms ++ [M + (0 + (i : Int))], by rw [List.map_append]; rfl, by rw [List.length_append]; show _ + 1 = _; omega⟩, _, rfl⟩⟩
  rintro acc σ G ⟨rfl, ⟨ms, rfl, lm⟩, v, rfl⟩ ml hml
  have sm := same_new hml (.lst (ms.map V.int))
  have em := upd_same (H := G) (a := ml) (o := .lst (ms.map V.int))
  generalize upd G ml (.lst (ms.map V.int)) = G3 at sm em ⊢
  replace S := S.trans sm
  replace eg := sm _ _ eg
  replace B := B.same sm
  replace e_L3 := sm _ _ e_L3
  clear sm hS
  refine ⟨ml, _, rfl, .inl ⟨SqL.of em, fun nt hnt => ?_⟩⟩
  have sn := same_new hnt (.tup (ms.map V.int))
  have en := upd_same (H := G3) (a := nt) (o := .tup (ms.map V.int))
  generalize upd G3 nt (.tup (ms.map V.int)) = G4 at sn en ⊢
  replace S := S.trans sn
  replace eg := sn _ _ eg
  replace B := B.same sn
  replace e_L3 := sn _ _ e_L3
  clear sn em
  dsimp only [gName]
  have A : AllOk K G4 20 [] := allOk_nil
  refine ⟨_, rfl, _, rfl, _, rfl, (by show 2 ≤ sizeLine; decide), fun a35 h35 => ?_⟩
  have s35 := same_new h35 (.tup ([.str z, .ref nt]))
  have e_a35 := upd_same (H := G4) (a := a35) (o := .tup ([.str z, .ref nt]))
  generalize upd G4 a35 (.tup ([.str z, .ref nt])) = H35 at s35 e_a35 ⊢
  replace S := S.trans s35
  replace eg := s35 _ _ eg
  replace B := B.same s35
  replace e_L3 := s35 _ _ e_L3
  replace en := s35 _ _ en
  replace A := A.same s35
  clear s35 h35
  replace A := allOk_snoc A (okTwo e_a35 hz (by omega) (by omega) (.tup en (parts_ints (by omega))) : OkV K H35 20 (.ref a35))
  clear e_a35
  refine ⟨_, rfl, _, _, rfl, rfl, lA, _, rfl, _, rfl, lz9 _ (by omega), _, rfl, (by show 2 ≤ sizeLine; decide), fun a36 h36 => ?_⟩
  have s36 := same_new h36 (.tup ([.str (cutS (z ++ "123456789") none (some 9)), .ref g]))
  have e_a36 := upd_same (H := H35) (a := a36) (o := .tup ([.str (cutS (z ++ "123456789") none (some 9)), .ref g]))
  generalize upd H35 a36 (.tup ([.str (cutS (z ++ "123456789") none (some 9)), .ref g])) = H36 at s36 e_a36 ⊢
  replace S := S.trans s36
  replace eg := s36 _ _ eg
  replace B := B.same s36
  replace e_L3 := s36 _ _ e_L3
  replace en := s36 _ _ en
  replace A := A.same s36
  clear s36 h36
  replace A := allOk_snoc A (okTwo e_a36 (asc_cut _ _ hA9) (Nat.le_trans (cutS_len _ _ _) lA9) (by omega) (.tup eg pn) : OkV K H36 20 (.ref a36))
  clear e_a36
  refine ⟨(by show 2 ≤ sizeLine; decide), fun M4 h37 => ?_⟩
  have s37 := same_new h37 (.lst ([.ref a35, .ref a36]))
  have e_M4 := upd_same (H := H36) (a := M4) (o := .lst ([.ref a35, .ref a36]))
  generalize upd H36 M4 (.lst ([.ref a35, .ref a36])) = H37 at s37 e_M4 ⊢
  replace S := S.trans s37
  replace eg := s37 _ _ eg
  replace B := B.same s37
  replace e_L3 := s37 _ _ e_L3
  replace en := s37 _ _ en
  replace A := A.same s37
  clear s37 h37
  change AllOk K H37 20 [.ref a35, .ref a36] at A
  have lY : ([.ref a35, .ref a36] : List V).length = 2 := rfl
  generalize ([.ref a35, .ref a36] : List V) = Y4 at e_M4 A lY ⊢
  refine ⟨L3, M4, _, _, rfl, rfl, e_L3, e_M4, Nat.le_of_lt (small1000 (by omega)), fun L4 h38 => ?_⟩
  have s38 := same_new h38 (.lst (X3 ++ Y4))
  have e_L4 := upd_same (H := H37) (a := L4) (o := .lst (X3 ++ Y4))
  generalize upd H37 L4 (.lst (X3 ++ Y4)) = H38 at s38 e_L4 ⊢
  clear e_M4
  replace S := S.trans s38
  replace eg := s38 _ _ eg
  replace B := B.same s38
  replace e_L3 := s38 _ _ e_L3
  replace en := s38 _ _ en
  replace A := A.same s38
  clear s38 h38
  clear e_L3
  have lZ : (X3 ++ Y4).length = 22 := by rw [List.length_append, lX, lY]
  replace B := allOk_app B A
  clear A lX lY
  have lX := lZ
  clear lZ
  dsimp only [gName]
  generalize X3 ++ Y4 = X4 at e_L4 B lX ⊢
  obtain ⟨j, hj⟩ : ∃ j : Nat, c % 22 = (j : Int) := ⟨(c % 22).toNat, by omega⟩
  have hj22 : j < X4.length := by omega
  have hat : atI X4 (c % 22) = some (X4[j]'hj22) := by rw [hj]; exact atI_nat (List.getElem?_eq_getElem hj22)
  exact ⟨_, rfl, _, rfl, _, _, rfl, rfl, (by show (0 : Int) < 22; decide), L4, _, _, _, rfl, rfl, SqL.of e_L4, hat, q _ _ S (B _ (List.getElem_mem _))⟩
end
def KeptV (K : PySem.W.Frag) (H : Hp) (n : Nat) (v : V) : Prop := ∃ (a : Addr) (z : Str) (g : V) (og : Option (List V)), v = .ref a ∧ H a = some (.tup [.str z, g]) ∧ (∀ c ∈ z.cps.toList, c < 128) ∧ z.length ≤ n ∧ GrpTh K H g og
theorem KeptV.same {K : PySem.W.Frag} {H H' : Hp} {n : Nat} {v : V} (s : Same H H') (h : KeptV K H n v) : KeptV K H' n v := by
  obtain ⟨a, z, g, og, h1, h2, h3, h4, h5⟩ := h
  exact ⟨a, z, g, og, h1, s _ _ h2, h3, h4, h5.same s⟩
theorem pick_v {xs : List V} (hne : xs ≠ []) (m : Int) : ∃ v ∈ xs, atI xs (m % (xs.length : Int)) = some v := by
  have hl : 0 < xs.length := List.length_pos_iff.mpr hne
  have h1 : 0 ≤ m % (xs.length : Int) := Int.emod_nonneg _ (by omega)
  have h2 : m % (xs.length : Int) < (xs.length : Int) := Int.emod_lt_of_pos _ (by omega)
  obtain ⟨j, hj⟩ : ∃ j : Nat, m % (xs.length : Int) = (j : Int) := ⟨(m % (xs.length : Int)).toNat, by omega⟩
  have hjl : j < xs.length := by omega
  exact ⟨xs[j]'hjl, List.getElem_mem _, by rw [hj]; exact atI_nat (List.getElem?_eq_getElem hjl)⟩
theorem cut_last (ys : List V) : (cutV ys (some (-1)) none).length ≤ 1 := by
  unfold cutV
  rw [List.length_take, HT.sIx_none, show HT.sIx ys.length 0 (some (-1)) = (-1 + (ys.length : Int)).toNat from rfl]
  omega
def spSpoilR (K : PySem.W.Frag) : Sp := fun vs H Q _ => ∃ (rl : Addr) (z : Str) (g : Addr) (ns : List Int) (T c : Int) (xs : List V) (n : Nat), vs = [.ref rl, .str z, .ref g, .int T, .int c] ∧ H rl = some (.lst xs) ∧ AllOk K H n xs ∧ xs.length ≤ 64 ∧ 20 ≤ n ∧ n ≤ 90 ∧ (∀ c ∈ z.cps.toList, c < 128) ∧ z.length ≤ 9 ∧ H g = some (.tup (ns.map V.int)) ∧ ns ≠ [] ∧ ns.length ≤ 8 ∧
  ∀ (v : V) (H' : Hp), Same H H' → OkV K H' (n + 1) v → Q v H'
section
variable {P : Program} {w : World} {K : PySem.W.Frag} {mg : Str → Option Value} {base : Heap}
theorem sc__law_spoiled : FnScope ["_law_rows_here", "_law_number", "_law_group", "_law_total", "_law_cell", "_law_kept", "_law_way", "_law_other"] ["_law_rows_here", "_law_number", "_law_group", "_law_total", "_law_cell"] (defScope (top 34)) := ⟨rfl, rfl, rfl, by decide +kernel, rfl, by decide +kernel, by decide +kernel⟩
set_option maxHeartbeats 4000000 in
theorem ok_spoiled (T : Txt K mg) (C__law_odd : Callee P w K mg base 1 "_law_odd" ["_law_number", "_law_group", "_law_total", "_law_cell"] (spOddR K)) (D : Def K mg "_law_spoiled" (top 34) ["_law_rows_here", "_law_number", "_law_group", "_law_total", "_law_cell"]) : Callee P w K mg base 2 "_law_spoiled" ["_law_rows_here", "_law_number", "_law_group", "_law_total", "_law_cell"] (spSpoilR K) := by
  refine D.ok sc__law_spoiled (fun vs H Q E h => ?_) (fun f cdv A outer s H vs Q E hr h => ?_)
  · obtain ⟨rl, z, g, ns, T, c, xs, n, rfl, _⟩ := h
    rfl
  obtain ⟨rl, z, g, ns, tt, c, xs, n, rfl, er, hA, l64, n20, n90, hz, l9, eg, hne, n8, q⟩ := h
  refine ⟨_, (pss_cons (ps_comp (i := 5) (own := ["_law_row"]) (fr := []) rfl sc__law_spoiled.nd rfl rfl (show CompScope ["_law_rows_here", "_law_number", "_law_group", "_law_total", "_law_cell", "_law_kept", "_law_way", "_law_other"] (defScope (top 34)) _ _ _ from ⟨rfl, by decide +kernel, by decide +kernel, by decide +kernel, by decide +kernel⟩) (pi_listK K (pv 0)) (fun cl C s H ex => ⟨(pg_name (i := 0) (show (["_law_row"] : List Str).Nodup from by decide +kernel) rfl (Or.inl rfl) (Or.inr rfl)), (pif_one (PW.pt (pw_and (pt_truK K (pe_callB (call_isinstK K) rfl T.m_isinstance boot_isinstance (pa_cons (pv 0) (pa_cons (pe_bltn (v := .ty "tuple") rfl T.m_tuple boot_tuple rfl) pa_nil st_name) st_name)) (fun _ => rfl)) (pw_and (pt_cmpR op_eq (pe_callB (call_lenK K) rfl T.m_len boot_len (pa_cons (pv 0) pa_nil st_name)) pe_int (nomark _)) (pw_and1 (pt_truK K (pe_callB (call_isinstK K) rfl T.m_isinstance boot_isinstance (pa_cons (pe_ix (ix_tupK K) (pv 0) pe_int (fun _ _ => rfl)) (pa_cons (pe_bltn (v := .ty "str") rfl T.m_str boot_str rfl) pa_nil st_name) st_sub)) (fun _ => rfl))))))), (pv 0)⟩) rfl)
    (pss_cons (ps_set (i := 6) sc__law_spoiled.nd rfl (Or.inl rfl) (pe_op op_mod (pv 4) pe_int))
    (pss_cons (ps_if (PW.pt (pw_and (pt_cmpR op_eq (pv 6) pe_int (nomark _)) (pw_and1 (pt_cmpR op_gt (pe_callB call_len_str rfl T.m_len boot_len (pa_cons (pv 1) pa_nil st_name)) pe_int (nomark _))))) (pss_one (ps_ret (pe_tup (pa_cons (pe_slice sl_strS (pv 1) po_none (po_some (pe_un un_neg pe_int))) (pa_cons (pv 2) pa_nil st_name) st_sub)))) pss_nil)
    (pss_cons (ps_if (PW.pt (pw_and (pt_cmpR op_eq (pv 6) pe_int (nomark _)) (pw_and1 (pt_cmpR (op_neNilK K (Room.units0 hr)) (pv 5) (pe_lst pa_nil) (nomark _))))) (pss_one (ps_ret (pe_tup (pa_cons (pe_ix (ix_tupK K) (pe_ix (ix_listK K) (pv 5) (pe_op op_mod (pe_op op_fdiv (pv 4) pe_int) (pe_callB (call_lenK K) rfl T.m_len boot_len (pa_cons (pv 5) pa_nil st_name))) (fun _ _ => rfl)) pe_int (fun _ _ => rfl)) (pa_cons (pv 2) pa_nil st_name) st_sub)))) pss_nil)
    (pss_cons (ps_if (PW.pt (pw_and (pt_cmpR op_eq (pv 6) pe_int (nomark _)) (pw_and1 (pt_cmpR (op_neNilK K (Room.units0 hr)) (pv 5) (pe_lst pa_nil) (nomark _))))) (pss_one (ps_ret (pe_tup (pa_cons (pe_op op_add_str (pe_ix (ix_tupK K) (pe_ix (ix_listK K) (pv 5) (pe_op op_mod (pe_op op_fdiv (pv 4) pe_int) (pe_callB (call_lenK K) rfl T.m_len boot_len (pa_cons (pv 5) pa_nil st_name))) (fun _ _ => rfl)) pe_int (fun _ _ => rfl)) pe_str) (pa_cons (pv 2) pa_nil st_name) st_bin)))) pss_nil)
    (pss_cons (ps_if (PW.pt (pw_and (pt_cmpR op_eq (pv 6) pe_int (nomark _)) (pw_and1 (pt_cmpR (op_neNilK K (Room.units0 hr)) (pv 5) (pe_lst pa_nil) (nomark _))))) (pss_cons (ps_set (i := 7) sc__law_spoiled.nd rfl (Or.inl rfl) (pe_ix (ix_tupK K) (pe_ix (ix_listK K) (pv 5) (pe_op op_mod (pe_op op_fdiv (pv 4) pe_int) (pe_callB (call_lenK K) rfl T.m_len boot_len (pa_cons (pv 5) pa_nil st_name))) (fun _ _ => rfl)) pe_int (fun _ _ => rfl)))
    (pss_one (ps_if (pt_truK K (pe_callB (call_isinstK K) rfl T.m_isinstance boot_isinstance (pa_cons (pv 7) (pa_cons (pe_bltn (v := .ty "tuple") rfl T.m_tuple boot_tuple rfl) pa_nil st_name) st_name)) (fun _ => rfl)) (pss_one (ps_ret (pe_tup (pa_cons (pv 1) (pa_cons (pe_op op_catW (pe_slice sl_tupW (pv 2) (po_some pe_int) po_none) (pe_slice sl_tupW (pv 7) (po_some (pe_un un_neg pe_int)) po_none)) pa_nil st_bin) st_name)))) pss_nil))) pss_nil)
    (pss_one (ps_ret (pe_fn C__law_odd hr rfl (pa_cons (pv 1) (pa_cons (pv 2) (pa_cons (pv 3) (pa_cons (pe_op op_fdiv (pv 4) pe_int) pa_nil st_bin) st_name) st_name) st_name)))))))))), ?_⟩
  have hzs : z.length ≤ sizeLine := Nat.le_of_lt (small1000 (by omega))
  have ln : (ns.map V.int).length = ns.length := List.length_map ..
  have pn : ∀ {G : Hp}, Parts K G (ns.map V.int) := fun {G} => parts_ints (by omega)
  refine ⟨_, rfl, rl, rfl, ⟨_, SqL.of er⟩, ?_⟩
  refine comp_list (xs := xs) (fun i acc σ H' => H' = H ∧ acc.length ≤ i ∧ (∀ v ∈ acc, KeptV K H n v) ∧ ∃ v, σ = [v])
    ⟨rfl, Nat.le_refl _, (fun v hv => nomatch hv), none, rfl⟩ (Nat.le_of_lt (small1000 (by omega))) (fun i acc σ H' g => g.2.1) (fun i acc σ H' _ g => g.1 ▸ SqL.of er) ?_ ?_
  · rintro i y acc σ H' hy ⟨rfl, la, hk, v, rfl⟩
    obtain ⟨o, hth, hle, _⟩ := hA y (List.mem_of_getElem? hy)
    cases hth with
    | no ty hk' => exact ⟨_, rfl, _, _, _, false, rfl, ty, hk', _, rfl, iteF ⟨rfl, by omega, hk, _, rfl⟩⟩
    | @oth b ys e hl =>
      refine ⟨_, rfl, _, _, _, true, rfl, .tup e, kit_tup_tup, _, rfl, iteT ?_⟩
      refine ⟨_, rfl, b, _, rfl, .inr (SqT.of e), rfl, _, rfl, ?_⟩
      exact iteN (fun z => hl (by have := V.int.inj (of_decide_eq_true z); omega)) (iteF ⟨rfl, by omega, hk, _, rfl⟩)
    | @two b nn gg on og e hn hg =>
      refine ⟨_, rfl, _, _, _, true, rfl, .tup e, kit_tup_tup, _, rfl, iteT ?_⟩
      refine ⟨_, rfl, b, _, rfl, .inr (SqT.of e), rfl, _, rfl, iteP (decide_eq_true rfl) ?_⟩
      cases hn with
      | int i => exact ⟨_, rfl, b, _, _, _, rfl, rfl, SqT.of e, rfl, _, _, _, false, rfl, .int i, kit_int_str, _, rfl, iteF ⟨rfl, by omega, hk, _, rfl⟩⟩
      | str zz hzz =>
        refine ⟨_, rfl, b, _, _, _, rfl, rfl, SqT.of e, rfl, _, _, _, true, rfl, .str zz, kit_str_str, _, rfl, iteT ⟨_, rfl, rfl, by rw [List.length_append]; show _ + 1 ≤ _; omega, fun v hv => ?_, _, rfl⟩⟩
        rcases List.mem_append.mp hv with y | y
        · exact hk v y
        · rw [List.mem_singleton.mp y]
          exact ⟨b, zz, gg, og, rfl, e, asc_iff.mp hzz.asc, hle, hg⟩
  rintro ks σ H' ⟨rfl, lk, hk, v, rfl⟩ kl hkl
  have s1 := same_new hkl (.lst ks)
  have e1 := upd_same (H := H') (a := kl) (o := .lst ks)
  generalize upd H' kl (.lst ks) = H1 at s1 e1 ⊢
  refine ⟨_, rfl, _, _, rfl, rfl, (by show (0 : Int) < 8; decide), ?_⟩
  dsimp only [gName]
  generalize c % 8 = wy
  have pick : ks ≠ [] → ∀ G, Same H1 G → ∃ (a : Addr) (z' : Str) (gg : V) (og : Option (List V)), atI ks (c / 8 % (ks.length : Int)) = some (.ref a) ∧ G a = some (.tup [.str z', gg]) ∧ (∀ c ∈ z'.cps.toList, c < 128) ∧ z'.length ≤ n ∧ GrpTh K G gg og := fun hn G sg => by
    obtain ⟨v, hv, ha⟩ := pick_v hn (c / 8)
    obtain ⟨a, z', gg, og, rfl, h2, h3, h4, h5⟩ := ((hk v hv).same s1).same sg
    exact ⟨a, z', gg, og, ha, h2, h3, h4, h5⟩
  refine seq_cut (fun σ' G => Same H1 G ∧ σ' = [some (.ref rl), some (.str z), some (.ref g), some (.int tt), some (.int c), some (.ref kl), some (.int wy), none]) (fun R rest => ?_) ?_
  · have no := rest _ H1 ⟨Same.refl _, rfl⟩
    refine ⟨_, rfl, rfl, _, rfl, ?_⟩
    refine ite2 (fun _ => ?_) (fun _ => iteF no)
    refine ⟨_, rfl, z, rfl, hzs, _, _, rfl, rfl, _, rfl, ?_⟩
    refine ite2 (fun _ => ?_) (fun _ => no)
    refine ⟨_, rfl, _, rfl, _, rfl, z, rfl, hzs, _, rfl, (by show 2 ≤ sizeLine; decide), fun t ht => ?_⟩
    have st := s1.trans (same_new ht (.tup [.str (cutS z none (some (-1))), .ref g]))
    exact q _ _ st (okTwo upd_same (asc_cut _ _ hz) (Nat.le_trans (cutS_len _ _ _) (by omega)) (by omega) (.tup (st _ _ eg) pn))
  rintro σ' H2 ⟨s2, rfl⟩
  refine seq_cut (fun σ' G => Same H1 G ∧ σ' = [some (.ref rl), some (.str z), some (.ref g), some (.int tt), some (.int c), some (.ref kl), some (.int wy), none]) (fun R rest => ?_) ?_
  · refine ⟨_, rfl, rfl, _, rfl, ?_⟩
    refine ite2 (fun _ => ?_) (fun _ => iteF (rest _ H2 ⟨s2, rfl⟩))
    refine ⟨_, rfl, (by show 0 ≤ sizeLine; decide), fun o ho => ?_⟩
    have s3 := s2.trans (same_new ho (.lst []))
    have e3 := upd_same (H := H2) (a := o) (o := .lst [])
    generalize upd H2 o (.lst []) = H3 at s3 e3 ⊢
    refine ⟨kl, o, _, rfl, rfl, SqL.of (s3 _ _ e1), SqL.of e3, _, rfl, ?_⟩
    refine ite2 (fun cc => ?_) (fun _ => rest _ H3 ⟨s3, rfl⟩)
    have hn : ks ≠ [] := fun y => by rw [y] at cc; exact absurd cc (by decide)
    obtain ⟨a, z', gg, og, ha, h2, h3, h4, h5⟩ := pick hn H3 s3
    refine ⟨_, rfl, _, rfl, _, _, rfl, rfl, ⟨by decide, by decide⟩, _, rfl, kl, _, rfl, .inl (SqL.of (s3 _ _ e1)), _, _, rfl, rfl, (show (0 : Int) < (ks.length : Int) by have := List.length_pos_iff.mpr hn; omega), kl, _, _, _, rfl, rfl, SqL.of (s3 _ _ e1), ha, a, _, _, _, rfl, rfl, SqT.of h2, rfl, _, rfl, (by show 2 ≤ sizeLine; decide), fun t ht => ?_⟩
    have st := (s1.trans s3).trans (same_new ht (.tup [.str z', .ref g]))
    exact q _ _ st (okTwo upd_same h3 (by omega) (by omega) (.tup (st _ _ eg) pn))
  rintro σ' H2 ⟨s2, rfl⟩
  refine seq_cut (fun σ' G => Same H1 G ∧ σ' = [some (.ref rl), some (.str z), some (.ref g), some (.int tt), some (.int c), some (.ref kl), some (.int wy), none]) (fun R rest => ?_) ?_
  · refine ⟨_, rfl, rfl, _, rfl, ?_⟩
    refine ite2 (fun _ => ?_) (fun _ => iteF (rest _ H2 ⟨s2, rfl⟩))
    refine ⟨_, rfl, (by show 0 ≤ sizeLine; decide), fun o ho => ?_⟩
    have s3 := s2.trans (same_new ho (.lst []))
    have e3 := upd_same (H := H2) (a := o) (o := .lst [])
    generalize upd H2 o (.lst []) = H3 at s3 e3 ⊢
    refine ⟨kl, o, _, rfl, rfl, SqL.of (s3 _ _ e1), SqL.of e3, _, rfl, ?_⟩
    refine ite2 (fun cc => ?_) (fun _ => rest _ H3 ⟨s3, rfl⟩)
    have hn : ks ≠ [] := fun y => by rw [y] at cc; exact absurd cc (by decide)
    obtain ⟨a, z', gg, og, ha, h2, h3, h4, h5⟩ := pick hn H3 s3
    have l7 : (Str.ofString "7").length = 1 := by decide +kernel
    refine ⟨_, rfl, _, rfl, _, _, rfl, rfl, ⟨by decide, by decide⟩, _, rfl, kl, _, rfl, .inl (SqL.of (s3 _ _ e1)), _, _, rfl, rfl, (show (0 : Int) < (ks.length : Int) by have := List.length_pos_iff.mpr hn; omega), kl, _, _, _, rfl, rfl, SqL.of (s3 _ _ e1), ha, a, _, _, _, rfl, rfl, SqT.of h2, rfl, _, _, rfl, rfl, Nat.le_of_lt (small1000 (by omega)), _, rfl, (by show 2 ≤ sizeLine; decide), fun t ht => ?_⟩
    have st := (s1.trans s3).trans (same_new ht (.tup [.str (z' ++ Str.ofString "7"), .ref g]))
    exact q _ _ st (okTwo upd_same (asc_app h3 (fun c hc => of_decide_eq_true (List.all_eq_true.mp (show (Str.ofString "7").cps.toList.all (fun c => decide (c < 128)) = true by decide +kernel) c hc))) (by rw [len_app]; omega) (by omega) (.tup (st _ _ eg) pn))
  rintro σ' H2 ⟨s2, rfl⟩
  refine seq_cut (fun σ' G => Same H1 G ∧ ∃ v7, σ' = [some (.ref rl), some (.str z), some (.ref g), some (.int tt), some (.int c), some (.ref kl), some (.int wy), v7]) (fun R rest => ?_) ?_
  · refine ⟨_, rfl, rfl, _, rfl, ?_⟩
    refine ite2 (fun _ => ?_) (fun _ => iteF (rest _ H2 ⟨s2, _, rfl⟩))
    refine ⟨_, rfl, (by show 0 ≤ sizeLine; decide), fun o ho => ?_⟩
    have s3 := s2.trans (same_new ho (.lst []))
    have e3 := upd_same (H := H2) (a := o) (o := .lst [])
    generalize upd H2 o (.lst []) = H3 at s3 e3 ⊢
    refine ⟨kl, o, _, rfl, rfl, SqL.of (s3 _ _ e1), SqL.of e3, _, rfl, ?_⟩
    refine ite2 (fun cc => ?_) (fun _ => rest _ H3 ⟨s3, _, rfl⟩)
    have hn : ks ≠ [] := fun y => by rw [y] at cc; exact absurd cc (by decide)
    obtain ⟨a, z', gg, og, ha, h2, h3, h4, h5⟩ := pick hn H3 s3
    refine ⟨_, rfl, _, rfl, _, _, rfl, rfl, ⟨by decide, by decide⟩, _, rfl, kl, _, rfl, .inl (SqL.of (s3 _ _ e1)), _, _, rfl, rfl, (show (0 : Int) < (ks.length : Int) by have := List.length_pos_iff.mpr hn; omega), kl, _, _, _, rfl, rfl, SqL.of (s3 _ _ e1), ha, a, _, _, _, rfl, rfl, SqT.of h2, rfl, ?_⟩
    cases h5 with
    | no ty hk' => exact ⟨_, rfl, _, _, _, false, rfl, ty, hk', _, rfl, iteF (rest _ _ ⟨s3, _, rfl⟩)⟩
    | @tup ga ys e5 hp =>
      refine ⟨_, rfl, _, _, _, true, rfl, .tup e5, kit_tup_tup, _, rfl, iteT ?_⟩
      have eg3 := s3 _ _ (s1 _ _ eg)
      refine ⟨_, rfl, _, rfl, _, rfl, g, _, rfl, eg3, fun c1 G1 t1 ec1 => ?_⟩
      refine ⟨_, rfl, _, rfl, _, rfl, ga, _, rfl, t1 _ _ e5, fun c2 G2 t2 ec2 => ?_⟩
      have lc1 := cutV_length (ns.map V.int) (some 1) none
      have lc2 := cut_last ys
      refine ⟨c1, c2, _, _, rfl, rfl, t2 _ _ ec1, ec2, Nat.le_of_lt (small1000 (by omega)), fun c3 G3 t3 ec3 => ⟨(by show 2 ≤ sizeLine; decide), fun t ht => ?_⟩⟩
      have st := ((s1.trans s3).trans (t1.trans (t2.trans t3))).trans (same_new ht (.tup [.str z, .ref c3]))
      have s3' := (t1.trans (t2.trans t3)).trans (same_new ht (.tup [.str z, .ref c3]))
      exact q _ _ st (okTwo upd_same hz (by omega) (by omega) (.tup (same_new ht (.tup [.str z, .ref c3]) _ _ ec3) (parts_app (parts_cut _ _ pn) ((parts_cut _ _ hp).same s3') (by omega))))
  rintro σ' H2 ⟨s2, v7, rfl⟩
  have s02 := s1.trans s2
  refine ⟨_, rfl, _, rfl, _, rfl, _, rfl, _, _, rfl, rfl, ⟨by decide, by decide⟩, z, g, ns, tt, _, rfl, hz, l9, s02 _ _ eg, hne, n8, fun v G sG hv => ?_⟩
  exact q v G (s02.trans sG) (hv.mono (by omega))
end
theorem TyOf.put {K : PySem.W.Frag} {H : Hp} {r : Addr} {xs ys : List V} {y : V} {t : Value} (e : H r = some (.lst xs)) (h : TyOf K H y t) : TyOf K (upd H r (.lst ys)) y t := by
  have other : ∀ {b : Addr} {u : HO}, H b = some u → (∀ zs, u ≠ .lst zs) → upd H r (.lst ys) b = some u := fun {b u} z n => by
    rw [upd_ne (fun y => by rw [y, e] at z; exact n _ (Option.some.inj z).symm)]
    exact z
  cases h with
  | non => exact .non
  | bl b => exact .bl b
  | int i => exact .int i
  | str y => exact .str y
  | flt y => exact .flt y
  | @lst b zs e' =>
    by_cases z : b = r
    · subst z
      exact .lst upd_same
    · exact .lst (by rw [upd_ne z]; exact e')
  | frz e' => exact .frz (other e' fun _ z => nomatch z)
  | tup e' => exact .tup (other e' fun _ z => nomatch z)
  | dK e' => exact .dK (other e' fun _ z => nomatch z)
  | dT e' => exact .dT (other e' fun _ z => nomatch z)
  | ins e' a b c d f => exact .ins (other e' fun _ z => nomatch z) a b c d f
theorem PartIs.put {K : PySem.W.Frag} {H : Hp} {r : Addr} {xs ys : List V} {y : V} (e : H r = some (.lst xs)) (h : PartIs K H y) : PartIs K (upd H r (.lst ys)) y := by
  cases h with
  | int i => exact .int i
  | odd ni ty h1 h2 hb => exact .odd ni (TyOf.put e ty) h1 h2 hb
theorem RowTh.put {K : PySem.W.Frag} {H : Hp} {r : Addr} {xs ys : List V} {y : V} {o : RO} (e : H r = some (.lst xs)) (h : RowTh K H y o) : RowTh K (upd H r (.lst ys)) y o := by
  have tp : ∀ {b : Addr} {zs : List V}, H b = some (.tup zs) → upd H r (.lst ys) b = some (.tup zs) := fun {b zs} z => by
    rw [upd_ne (fun y => by rw [y, e] at z; cases z)]
    exact z
  cases h with
  | two e' hn hg =>
    refine .two (tp e') hn ?_
    cases hg with
    | tup e2 q => exact .tup (tp e2) ⟨fun x hx => (q.p x hx).put e, q.few⟩
    | no ty q => exact .no (TyOf.put e ty) q
  | oth e' q => exact .oth (tp e') q
  | no ty q => exact .no (TyOf.put e ty) q
theorem OkV.put {K : PySem.W.Frag} {H : Hp} {r : Addr} {xs ys : List V} {n : Nat} {v : V} (e : H r = some (.lst xs)) (h : OkV K H n v) : OkV K (upd H r (.lst ys)) n v := by
  obtain ⟨o, h1, h2, h3⟩ := h
  exact ⟨o, h1.put e, h2, h3⟩
theorem AllOk.rows {K : PySem.W.Frag} {H : Hp} {n : Nat} : ∀ {xs : List V}, AllOk K H n xs → ∃ os, RowsAt K H xs os ∧ xs.all sameV = true
  | [], _ => ⟨[], .nil, rfl⟩
  | x :: t, h => by
    obtain ⟨o, h1, _, h3⟩ := h x (List.mem_cons_self ..)
    obtain ⟨os, r, s⟩ := AllOk.rows (xs := t) fun v hv => h v (List.mem_cons_of_mem _ hv)
    exact ⟨o :: os, .cons h1 r, by rw [List.all_cons, h3, s]; rfl⟩
def cell (ns : List Int) (k : Nat) : Int := ns.getD k 0
theorem at_nat {ns : List Int} {k : Nat} (h : k < ns.length) : atI (ns.map V.int) (k : Int) = some (.int (cell ns k)) := atI_nat (by
  rw [List.getElem?_map, List.getElem?_eq_getElem h]
  simp [cell, List.getD, h])
def spCell (K : PySem.W.Frag) : Sp := fun vs H Q _ => ∃ (a : Addr) (ns : List Int) (k : Int), vs = [.ref a, .int k] ∧ 0 ≤ k ∧ SqL K H a (ns.map V.int) ∧ Q (.int (cell ns k.toNat)) H
def spMixed : Sp := fun vs H Q _ => ∃ (c k : Int), vs = [.int c, .int k] ∧ 0 ≤ k ∧ k ≤ 100 ∧ ∀ v : Int, Q (.int v) H
def spRows (K : PySem.W.Frag) : Sp := fun vs H Q _ => ∃ (cl : Addr) (cs : List Int) (sd T : Int), vs = [.ref cl, .int sd, .int T] ∧ SqL K H cl (cs.map V.int) ∧ cs.length ≤ 46 ∧ ∀ (r : Addr) (xs : List V) (H' : Hp), Same H H' → H' r = some (.lst xs) → AllOk K H' 90 xs → xs.length ≤ 46 → Q (.ref r) H'
def spRowsBy (K : PySem.W.Frag) : Sp := fun vs H Q _ => ∃ (cl : Addr) (cs : List Int) (T : Int), vs = [.ref cl, .int T] ∧ 0 < T ∧ T < 1000 ∧ SqL K H cl (cs.map V.int) ∧ cs.length ≤ 46 ∧ ∀ (r : Addr) (xs : List V) (H' : Hp), Same H H' → H' r = some (.lst xs) → AllOk K H' 90 xs → xs.length ≤ 46 → Q (.ref r) H'
section
variable {P : Program} {w : World} {K : PySem.W.Frag} {mg : Str → Option Value} {base : Heap}
theorem sc__law_cell_at : FnScope ["_law_script", "_law_k"] ["_law_script", "_law_k"] (defScope (top 30)) := ⟨rfl, rfl, rfl, by decide +kernel, rfl, by decide +kernel, by decide +kernel⟩
theorem ok_cell (T : Txt K mg) (D : Def K mg "_law_cell_at" (top 30) ["_law_script", "_law_k"]) : Callee P w K mg base 1 "_law_cell_at" ["_law_script", "_law_k"] (spCell K) := by
  refine D.ok sc__law_cell_at (fun vs H Q E h => ?_) (fun f cdv A outer s H vs Q E hr h => ?_)
  · obtain ⟨a, ns, k, rfl, _⟩ := h
    rfl
  obtain ⟨a, ns, k, rfl, k0, hS, q⟩ := h
  obtain ⟨j, rfl⟩ := Int.eq_ofNat_of_zero_le k0
  rw [Int.toNat_natCast] at q
  refine ⟨_, (pss_cons (ps_if (pt_cmpR op_lt (pv 1) (pe_callB (call_lenK K) rfl T.m_len boot_len (pa_cons (pv 0) pa_nil st_name)) (nomark _)) (pss_one (ps_ret (pe_ix (ix_listK K) (pv 0) (pv 1) (fun _ _ => rfl)))) pss_nil)
    (pss_one (ps_ret pe_int))), ?_⟩
  refine ⟨_, rfl, _, rfl, a, _, rfl, .inl hS, _, _, rfl, rfl, _, rfl, ?_⟩
  refine ite2 (fun c => ?_) (fun c => ?_)
  · have c' : (j : Int) < (((ns.map V.int).length : Nat) : Int) := of_decide_eq_true c
    rw [List.length_map] at c'
    exact ⟨_, rfl, _, rfl, a, _, _, _, rfl, rfl, hS, at_nat (by omega), q⟩
  · have c' : ¬ (j : Int) < (((ns.map V.int).length : Nat) : Int) := of_decide_eq_false (Bool.eq_false_iff.mpr c)
    rw [List.length_map] at c'
    have e : cell ns j = 0 := by simp [cell, List.getD, List.getElem?_eq_none (show ns.length ≤ j by omega)]
    rw [e] at q
    exact q
theorem sc__law_mixed : FnScope ["_law_cell", "_law_k"] ["_law_cell", "_law_k"] (defScope (top 32)) := ⟨rfl, rfl, rfl, by decide +kernel, rfl, by decide +kernel, by decide +kernel⟩
theorem ok_mixed (T : Txt K mg) (D : Def K mg "_law_mixed" (top 32) ["_law_cell", "_law_k"]) : Callee P w K mg base 1 "_law_mixed" ["_law_cell", "_law_k"] spMixed := by
  refine D.ok sc__law_mixed (fun vs H Q E h => ?_) (fun f cdv A outer s H vs Q E hr h => ?_)
  · obtain ⟨c, k, rfl, _⟩ := h
    rfl
  obtain ⟨c, k, rfl, k0, k1, q⟩ := h
  refine ⟨_, (pss_one (ps_ret (pe_op op_mod (pe_op op_mul (pe_op op_add (pe_op op_mod (pv 0) pe_int) pe_int) (pe_op op_add pe_int (pe_op op_mul (pe_op op_mul pe_int (pv 1)) (pv 1)))) pe_int))), ?_⟩
  exact ⟨_, rfl, _, _, rfl, rfl, (by show (0 : Int) < 2147483647; decide), _, _, rfl, rfl, _, rfl, _, _, rfl, rfl, .inl ⟨by decide, by decide⟩, _, rfl, _, _, rfl, rfl, .inl ⟨by omega, by omega⟩, _, _, rfl, rfl, _, _, rfl, rfl, .inl ⟨by omega, by omega⟩, _, _, rfl, rfl, (by show (0 : Int) < 2147483629; decide), q _⟩
theorem sc__law_rows : FnScope ["_law_cells", "_law_seed", "_law_total", "_law_head", "_law_rows_here", "_law_at", "_law_k", "_law_cell", "_law_size", "_law_group", "_law_number", "_law_row", "_law_way", "_law_spot"] ["_law_cells", "_law_seed", "_law_total"] (defScope (top 35)) := ⟨rfl, rfl, rfl, by decide +kernel, rfl, by decide +kernel, by decide +kernel⟩
set_option maxHeartbeats 8000000 in
theorem ok_rows (T : Txt K mg) (C__law_mixed : Callee P w K mg base 1 "_law_mixed" ["_law_cell", "_law_k"] spMixed) (C__law_spoiled : Callee P w K mg base 2 "_law_spoiled" ["_law_rows_here", "_law_number", "_law_group", "_law_total", "_law_cell"] (spSpoilR K)) (D : Def K mg "_law_rows" (top 35) ["_law_cells", "_law_seed", "_law_total"]) : Callee P w K mg base 3 "_law_rows" ["_law_cells", "_law_seed", "_law_total"] (spRows K) := by
  refine D.ok sc__law_rows (fun vs H Q E h => ?_) (fun f cdv A outer s H vs Q E hr h => ?_)
  · obtain ⟨cl, cs, sd, T, rfl, _⟩ := h
    rfl
  obtain ⟨cl, cs, sd, tt, rfl, hS, l46, q⟩ := h
  refine ⟨_, (pss_cons (ps_set (i := 3) sc__law_rows.nd rfl (Or.inl rfl) (pe_slice sl_strS pe_str po_none (po_some (pe_op op_mod (pe_op op_fdiv (pv 1) pe_int) pe_int))))
    (pss_cons (ps_set (i := 4) sc__law_rows.nd rfl (Or.inl rfl) (pe_lst pa_nil))
    (pss_cons (ps_set (i := 5) sc__law_rows.nd rfl (Or.inr rfl) pe_int)
    (pss_cons (ps_for PassesOwn.never rfl (pi_range1 rfl T.m_range (pa_cons (pe_callB (call_lenK K) rfl T.m_len boot_len (pa_cons (pv 0) pa_nil st_name)) pa_nil st_call)) (pg_name (i := 6) sc__law_rows.nd rfl (Or.inl rfl))
    (pss_cons (ps_set (i := 7) sc__law_rows.nd rfl (Or.inl rfl) (pe_fn C__law_mixed hr rfl (pa_cons (pe_ix (ix_listK K) (pv 0) (pv 6) (fun _ _ => rfl)) (pa_cons (pv 6) pa_nil st_name) st_sub)))
    (pss_cons (ps_set (i := 8) sc__law_rows.nd rfl (Or.inl rfl) (pe_op op_add pe_int (pe_op op_mod (pv 7) pe_int)))
    (pss_cons (ps_if (pt_cmpR op_eq (pe_op op_mod (pv 7) pe_int) pe_int (nomark _)) (pss_one (ps_set (i := 8) sc__law_rows.nd rfl (Or.inl rfl) pe_int)) pss_nil)
    (pss_cons (ps_set (i := 9) sc__law_rows.nd rfl (Or.inl rfl) (pe_callTy (call_tupleK K) rfl T.m_tuple boot_tuple (pa_cons (pe_comp (own := ["_law_place"]) (fr := [(5, "_law_at")]) rfl (show CompScope ["_law_cells", "_law_seed", "_law_total", "_law_head", "_law_rows_here", "_law_at", "_law_k", "_law_cell", "_law_size", "_law_group", "_law_number", "_law_row", "_law_way", "_law_spot"] (defScope (top 35)) _ _ _ from ⟨rfl, by decide +kernel, by decide +kernel, by decide +kernel, by decide +kernel⟩) (pi_range1 rfl T.m_range (pa_cons (pv 8) pa_nil st_name)) (fun cl C s H ex => ⟨(pg_name (i := 0) (show (["_law_place", "_law_at"] : List Str).Nodup from by decide +kernel) rfl (Or.inl rfl) (Or.inr rfl)), pif_nil, (pe_op op_add (pv 1) (pv 0))⟩)) pa_nil st_comp)))
    (pss_cons (ps_set (i := 5) sc__law_rows.nd rfl (Or.inr rfl) (pe_op op_add (pv 5) (pv 8)))
    (pss_cons (ps_if (pt_cmpR op_eq (pe_op op_mod (pe_op op_fdiv (pv 7) pe_int) pe_int) pe_int (nomark _)) (pss_one (ps_set (i := 9) sc__law_rows.nd rfl (Or.inl rfl) (pe_revT K (pv 9) (pe_un un_neg pe_int)))) pss_nil)
    (pss_cons (ps_set (i := 10) sc__law_rows.nd rfl (Or.inl rfl) (pe_op op_add_str (pe_op op_add_str (pv 3) (pe_slice sl_strS (pe_callTy call_strI rfl T.m_str boot_str (pa_cons (pe_op op_add pe_int (pe_op op_mod (pe_op op_add (pe_op op_mul (pv 6) pe_int) (pv 1)) pe_int)) pa_nil st_bin)) (po_some pe_int) po_none)) (pe_slice sl_strS pe_str po_none (po_some (pe_op op_mod (pe_op op_fdiv (pv 7) pe_int) pe_int)))))
    (pss_cons (ps_set (i := 11) sc__law_rows.nd rfl (Or.inl rfl) (pe_tup (pa_cons (pv 10) (pa_cons (pv 9) pa_nil st_name) st_name)))
    (pss_cons (ps_set (i := 12) sc__law_rows.nd rfl (Or.inl rfl) (pe_op op_mod (pe_op op_fdiv (pv 1) pe_int) pe_int))
    (pss_cons (ps_set (i := 13) sc__law_rows.nd rfl (Or.inl rfl) (pe_op op_mod (pe_op op_mod (pe_op op_fdiv (pv 1) pe_int) pe_int) (pe_op op_add pe_int (pe_op op_mul (pe_op op_mod (pe_op op_fdiv (pv 1) pe_int) pe_int) pe_int))))
    (pss_cons (ps_if (PW.pt (pw_or (PW.pt (pw_and (pt_cmpR op_eq (pv 12) pe_int (nomark _)) (pw_and1 (pt_cmpR op_eq (pv 6) (pv 13) (nomark _))))) (pw_or1 (PW.pt (pw_and (pt_cmpR op_eq (pv 12) pe_int (nomark _)) (pw_and1 (pt_cmpR op_eq (pe_op op_mod (pe_op op_fdiv (pv 7) pe_int) pe_int) pe_int (nomark _)))))))) (pss_one (ps_set (i := 11) sc__law_rows.nd rfl (Or.inl rfl) (pe_fn C__law_spoiled hr rfl (pa_cons (pv 4) (pa_cons (pv 10) (pa_cons (pv 9) (pa_cons (pv 2) (pa_cons (pe_op op_fdiv (pv 7) pe_int) pa_nil st_bin) st_name) st_name) st_name) st_name)))) pss_nil)
    (pss_one (ps_expr (pe_bmK K PySem.F.plainAttrs_list PySem.F.slot_list_append PySem.F.type_list_append mt_appendR (pv 4) (pa_cons (pv 11) pa_nil st_name))))))))))))))))
    (pss_one (ps_ret (pv 4))))))), ?_⟩
  have lc : (cs.map V.int).length = cs.length := List.length_map ..
  refine ⟨_, rfl, _, _, rfl, rfl, ⟨by decide, by decide⟩, _, _, rfl, rfl, (by show (0 : Int) < 5; decide), _, rfl, _, rfl, Nat.le_of_lt (small1000 (by decide)), ?_⟩
  have dh : digs (cutS (Str.ofString "30417") none (some (sd / 7 % 5))) := digs_cut _ _ (fun c hc => by revert c; decide +kernel)
  have lh : (cutS (Str.ofString "30417") none (some (sd / 7 % 5))).length ≤ 4 := by
    obtain ⟨j, hj⟩ : ∃ j : Nat, sd / 7 % 5 = (j : Int) := ⟨(sd / 7 % 5).toNat, by omega⟩
    rw [hj, cut_take]
    show (List.take j (Str.ofString "30417").cps.toList).toArray.size ≤ 4
    rw [List.size_toArray, List.length_take]
    omega
  dsimp only [gName]
  generalize cutS (Str.ofString "30417") none (some (sd / 7 % 5)) = hd at dh lh ⊢
  refine ⟨(by show 0 ≤ sizeLine; decide), fun rl hrl => ?_⟩
  have s1 := same_new hrl (.lst [])
  have e1 := upd_same (H := H) (a := rl) (o := .lst [])
  generalize upd H rl (.lst []) = H1 at s1 e1 ⊢
  refine ⟨_, rfl, cl, _, rfl, .inl (s1.seq hS), _, rfl, by rw [lc]; omega, by rw [lc]; omega, ?_⟩
  rw [lc]
  refine for_range (lo := 0) (fun i σ G => Same H G ∧ ∃ (xs : List V) (at_ : Int) (v6 v7 v8 v9 v10 v11 v12 v13 : Option V), G rl = some (.lst xs) ∧ xs.length = i ∧ AllOk K G (20 + i) xs ∧
      σ = [some (.ref cl), some (.int sd), some (.int tt), some (.str hd), some (.ref rl), some (.int at_), v6, v7, v8, v9, v10, v11, v12, v13])
    ⟨s1, [], 0, none, none, none, none, none, none, none, none, e1, rfl, allOk_nil, rfl⟩ ?_ ?_
  · rintro i σ G hi ⟨sG, xs, at_, v6, v7, v8, v9, v10, v11, v12, v13, er, lx, hA, rfl⟩
    have i46 : i < cs.length := by omega
    have hat : atI (cs.map V.int) (0 + (i : Int)) = some (.int (cell cs i)) := by rw [Int.zero_add]; exact at_nat i46
    refine ⟨_, rfl, _, rfl, cl, _, _, _, rfl, rfl, sG.seq hS, hat, _, rfl, _, _, rfl, by omega, by omega, fun cv => ?_⟩
    refine ⟨_, rfl, _, _, rfl, rfl, (by show (0 : Int) < 2; decide), _, _, rfl, rfl, ?_⟩
    dsimp only [gName]
    refine seq_cut (fun σ' G' => G = G' ∧ ∃ sz : Int, 1 ≤ sz ∧ sz ≤ 8 ∧ σ' = [some (.ref cl), some (.int sd), some (.int tt), some (.str hd), some (.ref rl), some (.int at_), some (.int (0 + (i : Int))), some (.int cv), some (.int sz), v9, v10, v11, v12, v13]) (fun R rest => ?_) ?_
    · refine ⟨_, rfl, _, _, rfl, rfl, (by show (0 : Int) < 17; decide), rfl, _, rfl, ?_⟩
      exact ite2 (fun _ => rest _ _ ⟨rfl, 8, by decide, by decide, rfl⟩) (fun _ => rest _ _ ⟨rfl, _, by omega, by omega, rfl⟩)
    rintro σ' _ ⟨rfl, sz, sz1, sz8, rfl⟩
    refine ⟨_, rfl, _, rfl, by omega, by omega, ?_⟩
    refine comp_range (lo := 0) (n := sz.toNat) (fun k acc σ G' => G' = G ∧ (∃ ms : List Int, acc = ms.map V.int ∧ ms.length = k) ∧ ∃ v, σ = [v, some (.int at_)])
      ⟨rfl, ⟨[], rfl, rfl⟩, none, rfl⟩ (Nat.le_of_lt (small1000 (by omega))) (fun k acc σ G gg => ?_) ?_ ?_
    · obtain ⟨_, ⟨ms, rfl, lm⟩, _⟩ := gg
      rw [List.length_map]
      exact Nat.le_of_eq lm
    · rintro k acc σ G' hk ⟨rfl, ⟨ms, rfl, lm⟩, v, rfl⟩
      exact ⟨_, rfl, _, rfl, _, _, rfl, rfl, rfl, ⟨ms ++ [at_ + (0 + (k : Int))], by rw [List.map_append]; rfl, by rw [List.length_append]; show _ + 1 = _; omega⟩, _, rfl⟩
    rintro acc σ G' ⟨rfl, ⟨ms, rfl, lm⟩, v, rfl⟩ ml hml
    have t1 := same_new hml (.lst (ms.map V.int))
    have em := upd_same (H := G') (a := ml) (o := .lst (ms.map V.int))
    generalize upd G' ml (.lst (ms.map V.int)) = G1 at t1 em ⊢
    refine ⟨ml, _, rfl, .inl ⟨SqL.of em, fun gt hgt => ?_⟩⟩
    have t2 := t1.trans (same_new hgt (.tup (ms.map V.int)))
    have egt := upd_same (H := G1) (a := gt) (o := .tup (ms.map V.int))
    generalize upd G1 gt (.tup (ms.map V.int)) = G2 at t2 egt ⊢
    refine ⟨_, rfl, _, rfl, _, _, rfl, rfl, ?_⟩
    dsimp only [gName]
    generalize at_ + sz = at2
    refine seq_cut (fun σ' G3 => Same G2 G3 ∧ ∃ (g : Addr) (ns : List Int), G3 g = some (.tup (ns.map V.int)) ∧ ns ≠ [] ∧ ns.length ≤ 8 ∧ σ' = [some (.ref cl), some (.int sd), some (.int tt), some (.str hd), some (.ref rl), some (.int at2), some (.int (0 + (i : Int))), some (.int cv), some (.int sz), some (.ref g), v10, v11, v12, v13]) (fun R rest => ?_) ?_
    · have hms : ms ≠ [] := fun y => by rw [y] at lm; exact absurd lm (by show ¬ 0 = _; omega)
      refine ⟨_, rfl, _, _, rfl, rfl, ⟨by decide, by decide⟩, _, _, rfl, rfl, (by show (0 : Int) < 3; decide), rfl, _, rfl, ?_⟩
      refine ite2 (fun _ => ?_) (fun _ => rest _ _ ⟨Same.refl _, gt, ms, egt, hms, by omega, rfl⟩)
      refine ⟨_, rfl, _, rfl, gt, _, rfl, rfl, SqT.of egt, fun g2 hg2 => ?_⟩
      have t3 := same_new hg2 (.tup (ms.map V.int).reverse)
      have e3 : upd G2 g2 (.tup (ms.map V.int).reverse) g2 = some (.tup (ms.reverse.map V.int)) := by rw [upd_same, List.map_reverse]
      exact rest _ _ ⟨t3, g2, ms.reverse, e3, by simpa using hms, by rw [List.length_reverse]; omega, rfl⟩
    rintro σ' G3 ⟨t3', g, ns, eg, hns, n8, rfl⟩
    have t3 := t2.trans t3'
    refine ⟨_, rfl, _, rfl, _, _, rfl, rfl, .inr ⟨by decide, by decide⟩, _, rfl, _, _, rfl, rfl, _, _, rfl, rfl, (by show (0 : Int) < 100; decide), _, _, rfl, rfl, _, rfl, log_small (by omega), _, rfl, _, rfl, mid_size _, ?_⟩
    obtain ⟨d, hd1, hd2, ed⟩ := mid_of ((0 + (i : Int)) * 37 + sd)
    rw [ed]
    have lm2 : (midS d).length = 2 := rfl
    refine ⟨_, _, rfl, rfl, Nat.le_of_lt (small1000 (by omega)), _, rfl, _, _, rfl, rfl, ⟨by decide, by decide⟩, _, _, rfl, rfl, (by show (0 : Int) < 3; decide), _, rfl, _, rfl, Nat.le_of_lt (small1000 (by decide)), ?_⟩
    have dt : ∀ m, digs (cutS (Str.ofString "58") none (some m)) := fun m => digs_cut _ _ (fun c hc => by revert c; decide +kernel)
    have lt : ∀ m, (cutS (Str.ofString "58") none (some m)).length ≤ 2 := fun m => cutS_len _ _ _
    generalize hT : cutS (Str.ofString "58") none _ = tl
    have dtl : digs tl := by rw [← hT]; exact dt _
    have ltl : tl.length ≤ 2 := by rw [← hT]; exact lt _
    clear hT dt lt
    refine ⟨_, _, rfl, rfl, Nat.le_of_lt (small1000 (by rw [len_app]; omega)), ?_⟩
    have dz : ∀ c ∈ (hd ++ midS d ++ tl).cps.toList, c < 128 := asc_digs (digs_app (digs_app dh (digs_mid hd2)) dtl)
    have lz : (hd ++ midS d ++ tl).length ≤ 9 := by rw [len_app, len_app]; omega
    dsimp only [gName]
    generalize hd ++ midS d ++ tl = z at dz lz ⊢
    refine ⟨_, rfl, _, rfl, (by show 2 ≤ sizeLine; decide), fun ro hro => ?_⟩
    have t4 := t3.trans (same_new hro (.tup [.str z, .ref g]))
    have ero := upd_same (H := G3) (a := ro) (o := .tup [.str z, .ref g])
    have eg4 := same_new hro (.tup [.str z, .ref g]) _ _ eg
    generalize upd G3 ro (.tup [.str z, .ref g]) = G4 at t4 ero eg4 ⊢
    refine ⟨_, rfl, _, _, rfl, rfl, ⟨by decide, by decide⟩, _, _, rfl, rfl, (by show (0 : Int) < 3; decide), ?_⟩
    refine ⟨_, rfl, _, _, rfl, rfl, ⟨by decide, by decide⟩, _, _, rfl, rfl, (by show (0 : Int) < 46; decide), _, rfl, _, _, rfl, rfl, ⟨by decide, by decide⟩, _, _, rfl, rfl, (by show (0 : Int) < 2; decide), _, _, rfl, rfl, .inr ⟨by decide, by decide⟩, _, _, rfl, rfl, _, _, rfl, rfl, (by show (0 : Int) < 2 + sd / 11 % 2 * 44; omega), ?_⟩
    dsimp only [gName]
    generalize sd / 35 % 3 = wy
    generalize sd / 105 % 46 % (2 + sd / 11 % 2 * 44) = sp
    have plain : OkV K G4 (20 + i + 1) (.ref ro) := okTwo ero dz (by omega) (by omega) (.tup eg4 (parts_ints (by omega)))
    refine seq_cut (fun σ' G5 => Same G4 G5 ∧ ∃ v : V, OkV K G5 (20 + i + 1) v ∧ σ' = [some (.ref cl), some (.int sd), some (.int tt), some (.str hd), some (.ref rl), some (.int at2), some (.int (0 + (i : Int))), some (.int cv), some (.int sz), some (.ref g), some (.str z), some v, some (.int wy), some (.int sp)]) (fun R rest => ?_) ?_
    · have no := rest _ G4 ⟨Same.refl _, _, plain, rfl⟩
      refine ⟨_, rfl, rfl, _, rfl, ite2 (fun _ => ⟨_, rfl, _, rfl, rfl, _, rfl, ite2 (fun _ => iteT ?s) (fun _ => ?c1)⟩) (fun _ => iteF ?c2)⟩
      case s => exact ⟨_, rfl, _, rfl, _, rfl, _, rfl, _, rfl, _, _, rfl, rfl, ⟨by decide, by decide⟩, rl, z, g, ns, tt, _, xs, 20 + i, rfl, t4 _ _ er, hA.same t4, by omega, by omega, by omega, dz, lz, eg4, hns, n8, fun v G5 s5 hv => rest _ _ ⟨s5, v, hv, rfl⟩⟩
      all_goals
        refine ⟨_, rfl, rfl, _, rfl, ite2 (fun _ => ⟨_, rfl, _, _, rfl, rfl, ⟨by decide, by decide⟩, _, _, rfl, rfl, (by show (0 : Int) < 3; decide), rfl, _, rfl, ite2 (fun _ => ?_) (fun _ => no)⟩) (fun _ => iteF no)⟩
        exact ⟨_, rfl, _, rfl, _, rfl, _, rfl, _, rfl, _, _, rfl, rfl, ⟨by decide, by decide⟩, rl, z, g, ns, tt, _, xs, 20 + i, rfl, t4 _ _ er, hA.same t4, by omega, by omega, by omega, dz, lz, eg4, hns, n8, fun v G5 s5 hv => rest _ _ ⟨s5, v, hv, rfl⟩⟩
    rintro σ' G5 ⟨t5', v, hv, rfl⟩
    have t5 := t4.trans t5'
    have er5 := t5 _ _ er
    refine ⟨_, rfl, .inl ⟨rfl, _, SqL.of er5⟩, _, rfl, rl, _, _, rfl, rfl, er5, small1000 (by omega), ?_⟩
    refine ⟨fun b u y => ?_, xs ++ [v], at2, _, _, _, _, _, _, _, _, upd_same, by rw [List.length_append]; show _ + 1 = _; omega, allOk_snoc (fun v' hv' => (((hA v' hv').same t5).put er5).mono (by omega)) (hv.put er5), rfl⟩
    rw [upd_ne (ne_of_none y hrl)]
    exact t5 _ _ (sG _ _ y)
  · rintro σ G ⟨sG, xs, at_, v6, v7, v8, v9, v10, v11, v12, v13, er, lx, hA, rfl⟩
    exact ⟨_, rfl, q rl xs G sG er (fun v hv => (hA v hv).mono (by omega)) (by omega)⟩
theorem sc__law_rows_by : FnScope ["_law_cells", "_law_total", "_law_rows_here", "_law_cell", "_law_number", "_law_left", "_law_group", "_law_size", "_law_turn"] ["_law_cells", "_law_total"] (defScope (top 41)) := ⟨rfl, rfl, rfl, by decide +kernel, rfl, by decide +kernel, by decide +kernel⟩
set_option maxHeartbeats 4000000 in
theorem ok_rowsby (T : Txt K mg) (C__law_figures_by : Callee P w K mg base 1 "_law_figures_by" ["_law_left"] spFigBy) (D : Def K mg "_law_rows_by" (top 41) ["_law_cells", "_law_total"]) : Callee P w K mg base 2 "_law_rows_by" ["_law_cells", "_law_total"] (spRowsBy K) := by
  refine D.ok sc__law_rows_by (fun vs H Q E h => ?_) (fun f cdv A outer s H vs Q E hr h => ?_)
  · obtain ⟨cl, cs, T, rfl, _⟩ := h
    rfl
  obtain ⟨cl, cs, tt, rfl, t0, t1000, hS, l46, q⟩ := h
  refine ⟨_, (pss_cons (ps_set (i := 2) sc__law_rows_by.nd rfl (Or.inl rfl) (pe_lst pa_nil))
    (pss_cons (ps_for PassesOwn.never rfl (pi_listK K (pv 0)) (pg_name (i := 3) sc__law_rows_by.nd rfl (Or.inl rfl))
    (pss_cons (ps_asg (pe_fn C__law_figures_by hr rfl (pa_cons (pe_callB call_abs rfl T.m_abs boot_abs (pa_cons (pv 3) pa_nil st_name)) pa_nil st_call)) (pg2K K rfl sc__law_rows_by.nd (Nm.mk (i := 4) rfl (Or.inl rfl) (Or.inl rfl)) (Nm.mk (i := 5) rfl (Or.inl rfl) (Or.inl rfl))))
    (pss_cons (ps_set (i := 6) sc__law_rows_by.nd rfl (Or.inl rfl) (pe_lst pa_nil))
    (pss_cons (ps_set (i := 7) sc__law_rows_by.nd rfl (Or.inl rfl) (pe_op op_add pe_int (pe_op op_mod (pv 5) pe_int)))
    (pss_cons (ps_set (i := 5) sc__law_rows_by.nd rfl (Or.inl rfl) (pe_op op_fdiv (pv 5) pe_int))
    (pss_cons (ps_for PassesOwn.never rfl (pi_range1 rfl T.m_range (pa_cons (pv 7) pa_nil st_name)) (pg_name (i := 8) sc__law_rows_by.nd rfl (Or.inl rfl))
    (pss_cons (ps_expr (pe_bmK K PySem.F.plainAttrs_list PySem.F.slot_list_append PySem.F.type_list_append mt_appendR (pv 6) (pa_cons (pe_op op_mod (pv 5) (pv 1)) pa_nil st_bin)))
    (pss_one (ps_set (i := 5) sc__law_rows_by.nd rfl (Or.inl rfl) (pe_op op_fdiv (pv 5) (pv 1))))))
    (pss_one (ps_expr (pe_bmK K PySem.F.plainAttrs_list PySem.F.slot_list_append PySem.F.type_list_append mt_appendR (pv 2) (pa_cons (pe_tup (pa_cons (pv 4) (pa_cons (pe_callTy (call_tupleK K) rfl T.m_tuple boot_tuple (pa_cons (pv 6) pa_nil st_name)) pa_nil st_call) st_name)) pa_nil st_tup))))))))))
    (pss_one (ps_ret (pv 2))))), ?_⟩
  have lc : (cs.map V.int).length = cs.length := List.length_map ..
  refine ⟨(by show 0 ≤ sizeLine; decide), fun rl hrl => ?_⟩
  have s1 := same_new hrl (.lst [])
  have e1 := upd_same (H := H) (a := rl) (o := .lst [])
  generalize upd H rl (.lst []) = H1 at s1 e1 ⊢
  refine ⟨_, rfl, cl, rfl, ⟨_, s1.seq hS⟩, ?_⟩
  refine for_list (xs := cs.map V.int) (fun i σ G => Same H G ∧ ∃ (xs : List V) (v3 v4 v5 v6 v7 v8 : Option V), G rl = some (.lst xs) ∧ xs.length = i ∧ i ≤ 46 ∧ AllOk K G 90 xs ∧
      σ = [some (.ref cl), some (.int tt), some (.ref rl), v3, v4, v5, v6, v7, v8])
    ⟨s1, [], none, none, none, none, none, none, e1, rfl, by omega, allOk_nil, rfl⟩ (fun i σ G _ g => g.1.seq hS) ?_ ?_
  · rintro i x σ G hx ⟨sG, xs, v3, v4, v5, v6, v7, v8, er, lx, _, hA, rfl⟩
    have hi := (List.getElem?_eq_some_iff.mp hx).1
    rw [List.getElem?_map] at hx
    obtain ⟨cv, hcv, rfl⟩ := Option.map_eq_some_iff.mp hx
    refine ⟨_, rfl, _, rfl, _, rfl, fun tp z m htp hz hl8 => ?_⟩
    have t1 := same_new htp (.tup [.str z, .int m])
    have et := upd_same (H := G) (a := tp) (o := .tup [.str z, .int m])
    generalize upd G tp (.tup [.str z, .int m]) = G1 at t1 et ⊢
    refine ⟨tp, _, rfl, SqT.of et, rfl, _, _, rfl, _, _, rfl, rfl, ?_⟩
    refine ⟨(by show 0 ≤ sizeLine; decide), fun gr hgr => ?_⟩
    have t2 := t1.trans (same_new hgr (.lst []))
    have eg := upd_same (H := G1) (a := gr) (o := .lst [])
    generalize upd G1 gr (.lst []) = G2 at t2 eg ⊢
    have hgr0 := t1.free hgr
    dsimp only [gName]
    refine ⟨_, rfl, _, _, rfl, rfl, (by show (0 : Int) < 8; decide), _, _, rfl, rfl, ?_⟩
    refine ⟨_, rfl, _, _, rfl, rfl, ⟨by decide, by decide⟩, ?_⟩
    refine ⟨_, rfl, _, rfl, by omega, by omega, ?_⟩
    refine for_range (lo := 0) (n := (1 + m % 8).toNat) (fun j σ G' => (∀ c u, c ≠ gr → G2 c = some u → G' c = some u) ∧ ∃ (gs : List Int) (m' : Int) (v8 : Option V), G' gr = some (.lst (gs.map V.int)) ∧ gs.length = j ∧
        σ = [some (.ref cl), some (.int tt), some (.ref rl), some (.int cv), some (.str z), some (.int m'), some (.ref gr), some (.int (1 + m % 8)), v8])
      ⟨(fun c u _ y => y), [], _, v8, eg, rfl, rfl⟩ ?_ ?_
    · rintro j σ G' hj ⟨sx, gs, m', v8', eG', lG', rfl⟩
      refine ⟨_, rfl, .inl ⟨rfl, _, SqL.of eG'⟩, _, rfl, _, rfl, _, _, rfl, rfl, t0, gr, _, _, rfl, rfl, eG', small1000 (by rw [List.length_map]; omega), ?_⟩
      refine ⟨_, rfl, _, rfl, _, _, rfl, rfl, ⟨t0, by omega⟩, ?_⟩
      refine ⟨fun c u nc y => by rw [upd_ne nc]; exact sx c u nc y, gs ++ [m' % tt], _, _, by rw [upd_same, List.map_append]; rfl, by rw [List.length_append]; show _ + 1 = _; omega, rfl⟩
    rintro σ G3 ⟨sx, gs, m', v8', eG', lG', rfl⟩
    have s3 : Same G G3 := fun c u y => sx _ _ (ne_of_none y hgr0) (t2 _ _ y)
    refine ⟨_, rfl, .inl ⟨rfl, _, SqL.of (s3 _ _ er)⟩, _, rfl, _, rfl, gr, _, rfl, .inl ⟨SqL.of eG', fun g hg => ?_⟩⟩
    have s4 := s3.trans (same_new hg (.tup (gs.map V.int)))
    have e4 := upd_same (H := G3) (a := g) (o := .tup (gs.map V.int))
    generalize upd G3 g (.tup (gs.map V.int)) = G4 at s4 e4 ⊢
    refine ⟨(by show 2 ≤ sizeLine; decide), fun ro hro => ?_⟩
    have s5 := s4.trans (same_new hro (.tup [.str z, .ref g]))
    have e5 := upd_same (H := G4) (a := ro) (o := .tup [.str z, .ref g])
    have e45 := same_new hro (.tup [.str z, .ref g]) _ _ e4
    generalize upd G4 ro (.tup [.str z, .ref g]) = G5 at s5 e5 e45 ⊢
    have er5 := s5 _ _ er
    have hv : OkV K G5 90 (.ref ro) := okTwo e5 (asc_digs hz) (by omega) (by omega) (.tup e45 (parts_ints (by omega)))
    refine ⟨rl, _, _, rfl, rfl, er5, small1000 (by omega), ?_⟩
    refine ⟨fun b u y => ?_, xs ++ [.ref ro], _, _, _, _, _, _, upd_same, by rw [List.length_append]; show _ + 1 = _; omega, by omega, allOk_snoc (fun v' hv' => ((hA v' hv').same s5).put er5) (hv.put er5), rfl⟩
    rw [upd_ne (ne_of_none y hrl)]
    exact s5 _ _ (sG _ _ y)
  · rintro σ G ⟨sG, xs, v3, v4, v5, v6, v7, v8, er, lx, _, hA, rfl⟩
    exact ⟨_, rfl, q rl xs G sG er hA (by omega)⟩
end
def spGoodR (K : PySem.W.Frag) : Sp := fun vs H Q _ => ∃ (x : V) (T : Int) (o : RO), vs = [x, .int T] ∧ RowTh K H x o ∧ ∀ H', Same H H' → Q (.bl (rowB T o)) H'
def spApart (K : PySem.W.Frag) : Sp := fun vs H Q _ => ∃ (a g l : Addr) (d : Str × List Int) (xs : List V) (ds : List (Str × List Int)), vs = [.ref a, .ref l] ∧ GoodAt H a g d ∧ H l = some (.lst xs) ∧ Paired (fun x d => ∃ a g, x = .ref a ∧ GoodAt H a g d) xs ds ∧ xs.length ≤ 64 ∧ ∀ H', Same H H' → Q (.bl (!ds.any fun d' => clashB d d')) H'
def badS (z : Str) : List Nat := z.cps.toList.filter fun c => !decide (48 ≤ c ∧ c ≤ 57)
theorem badS_nil {z : Str} : badS z = [] ↔ figB z = true := by
  unfold badS figB
  rw [List.filter_eq_nil_iff, List.all_eq_true]
  constructor
  · intro h c hc
    have := h c hc
    simpa using this
  · intro h c hc
    have := h c hc
    simp only [decide_eq_true_eq] at this
    simp [this]
theorem pre_min (a b : Str) (n : Nat) (hn : n = min a.length b.length) : decide (V.str (cutS a none (some (n : Int))) = V.str (cutS b none (some (n : Int)))) = (pre b a || pre a b) := by
  rw [Bool.eq_iff_iff, decide_eq_true_iff, Bool.or_eq_true, pre_iff, pre_iff, cut_take, cut_take]
  have la : a.cps.toList.length = a.length := rfl
  have lb : b.cps.toList.length = b.length := rfl
  constructor
  · intro h
    have h2 := congrArg (fun v => match v with | V.str s => s.cps.toList | _ => []) h
    have h2 : a.cps.toList.take n = b.cps.toList.take n := h2
    by_cases c : a.length ≤ b.length
    · right
      rw [List.take_of_length_le (by omega)] at h2
      rw [h2]
      exact List.take_prefix _ _
    · left
      rw [List.take_of_length_le (l := b.cps.toList) (by omega)] at h2
      rw [← h2]
      exact List.take_prefix _ _
  · intro h
    congr 3
    rcases h with h | h
    · have l := h.length_le
      rw [show n = b.length by omega]
      rw [List.take_of_length_le (l := b.cps.toList) (by omega)]
      have := List.prefix_iff_eq_take.mp h
      rw [lb] at this
      exact this.symm
    · have l := h.length_le
      rw [show n = a.length by omega]
      rw [List.take_of_length_le (l := a.cps.toList) (by omega)]
      have := List.prefix_iff_eq_take.mp h
      rw [la] at this
      exact this
section
variable {P : Program} {w : World} {K : PySem.W.Frag} {mg : Str → Option Value} {base : Heap}
theorem sc__law_whole : FnScope ["_law_found"] ["_law_found"] (defScope (top 31)) := ⟨rfl, rfl, rfl, by decide +kernel, rfl, by decide +kernel, by decide +kernel⟩
theorem ok_lwhole (T : Txt K mg) (D : Def K mg "_law_whole" (top 31) ["_law_found"]) : Callee P w K mg base 1 "_law_whole" ["_law_found"] (spWhole K) := by
  refine D.ok sc__law_whole (fun vs H Q E h => ?_) (fun f cdv A outer s H vs Q E hr h => ?_)
  · obtain ⟨x, rfl, _⟩ := h
    rfl
  obtain ⟨x, rfl, hp, q⟩ := h
  refine ⟨_, (pss_one (ps_ret (pe_and (pe_callB (call_isinstK K) rfl T.m_isinstance boot_isinstance (pa_cons (pv 0) (pa_cons (pe_bltn (v := .ty "int") rfl T.m_int boot_int rfl) pa_nil st_name) st_name)) (pe_one (pe_not (pe_callB (call_isinstK K) rfl T.m_isinstance boot_isinstance (pa_cons (pv 0) (pa_cons (pe_bltn (v := .ty "bool") rfl T.m_bool boot_bool rfl) pa_nil st_name) st_name))))))), ?_⟩
  cases hp with
  | int i =>
    refine ⟨_, rfl, _, _, _, true, rfl, .int i, kit_int_int, _, rfl, iteT ?_⟩
    exact ⟨_, rfl, _, _, _, false, rfl, .int i, kit_int_bool, _, rfl, q⟩
  | @odd _ t b1 b2 ni ty h1 h2 hb =>
    have e : isInt x = false := by
      cases x with
      | int i => exact absurd rfl (ni i)
      | _ => rfl
    rw [e] at q
    refine ⟨_, rfl, _, _, _, b1, rfl, ty, h1, _, rfl, ?_⟩
    cases b1 with
    | false => exact iteF q
    | true =>
      have hb2 : b2 = true := hb.elim (fun z => nomatch z) id
      subst hb2
      exact iteT ⟨_, rfl, _, _, _, true, rfl, ty, h2, _, rfl, q⟩
theorem sc__law_good : FnScope ["_law_row", "_law_total", "_law_number", "_law_group", "_law_end"] ["_law_row", "_law_total"] (defScope (top 36)) := ⟨rfl, rfl, rfl, by decide +kernel, rfl, by decide +kernel, by decide +kernel⟩
set_option maxHeartbeats 4000000 in
theorem ok_good (T : Txt K mg) (C__law_whole : Callee P w K mg base 1 "_law_whole" ["_law_found"] (spWhole K)) (D : Def K mg "_law_good" (top 36) ["_law_row", "_law_total"]) : Callee P w K mg base 2 "_law_good" ["_law_row", "_law_total"] (spGoodR K) := by
  refine D.ok sc__law_good (fun vs H Q E h => ?_) (fun f cdv A outer s H vs Q E hr h => ?_)
  · obtain ⟨x, T, o, rfl, _⟩ := h
    rfl
  obtain ⟨x, tt, o, rfl, hR, q⟩ := h
  refine ⟨_, (pss_cons (ps_if (PW.pt (pw_or (pt_not (pt_truK K (pe_callB (call_isinstK K) rfl T.m_isinstance boot_isinstance (pa_cons (pv 0) (pa_cons (pe_bltn (v := .ty "tuple") rfl T.m_tuple boot_tuple rfl) pa_nil st_name) st_name)) (fun _ => rfl))) (pw_or1 (pt_cmpR op_ne (pe_callB (call_lenK K) rfl T.m_len boot_len (pa_cons (pv 0) pa_nil st_name)) pe_int (nomark _))))) (pss_one (ps_ret pe_bl)) pss_nil)
    (pss_cons (ps_asg (pv 0) (pg2K K rfl sc__law_good.nd (Nm.mk (i := 2) rfl (Or.inl rfl) (Or.inl rfl)) (Nm.mk (i := 3) rfl (Or.inl rfl) (Or.inl rfl))))
    (pss_cons (ps_if (PW.pt (pw_or (pt_not (pt_truK K (pe_callB (call_isinstK K) rfl T.m_isinstance boot_isinstance (pa_cons (pv 2) (pa_cons (pe_bltn (v := .ty "str") rfl T.m_str boot_str rfl) pa_nil st_name) st_name)) (fun _ => rfl))) (pw_or1 (pt_not (pt_truK K (pe_callB (call_isinstK K) rfl T.m_isinstance boot_isinstance (pa_cons (pv 3) (pa_cons (pe_bltn (v := .ty "tuple") rfl T.m_tuple boot_tuple rfl) pa_nil st_name) st_name)) (fun _ => rfl)))))) (pss_one (ps_ret pe_bl)) pss_nil)
    (pss_cons (ps_if (PW.pt (pw_or (pt_not (pt_chain op_le op_le pe_int (pe_callB call_len_str rfl T.m_len boot_len (pa_cons (pv 2) pa_nil st_name)) pe_int)) (pw_or1 (pt_not (pt_chain op_le op_le pe_int (pe_callB (call_lenK K) rfl T.m_len boot_len (pa_cons (pv 3) pa_nil st_name)) pe_int))))) (pss_one (ps_ret pe_bl)) pss_nil)
    (pss_cons (ps_if (pt_cmpR (op_neNilK K (Room.units0 hr)) (pe_comp (own := ["_law_sign"]) (fr := []) rfl (show CompScope ["_law_row", "_law_total", "_law_number", "_law_group", "_law_end"] (defScope (top 36)) _ _ _ from ⟨rfl, by decide +kernel, by decide +kernel, by decide +kernel, by decide +kernel⟩) (pi_str (pv 2)) (fun cl C s H ex => ⟨(pg_name (i := 0) (show (["_law_sign"] : List Str).Nodup from by decide +kernel) rfl (Or.inl rfl) (Or.inr rfl)), (pif_one (pt_cmpR op_notin_str (pv 0) pe_str (by with_unfolding_all rfl))), (pv 0)⟩)) (pe_lst pa_nil) (nomark _)) (pss_one (ps_ret pe_bl)) pss_nil)
    (pss_cons (ps_for PassesOwn.never rfl (pi_tupK K (pv 3)) (pg_name (i := 4) sc__law_good.nd rfl (Or.inl rfl))
    (pss_one (ps_if (PW.pt (pw_or (pt_not (pt_truK K (pe_fn C__law_whole hr rfl (pa_cons (pv 4) pa_nil st_name)) (fun _ => rfl))) (pw_or1 (pt_not (pt_chain op_le op_lt pe_int (pv 4) (pv 1)))))) (pss_one (ps_ret pe_bl)) pss_nil)))
    (pss_one (ps_ret (pe_cmpR op_eq (pe_callB (call_lenSK P w) rfl T.m_len boot_len (pa_cons (pe_callTy (call_setTK K P w rfl) rfl T.m_set boot_set (pa_cons (pv 3) pa_nil st_name)) pa_nil st_call)) (pe_callB (call_lenK K) rfl T.m_len boot_len (pa_cons (pv 3) pa_nil st_name)) (nomark _)))))))))), ?_⟩
  have q0 := q H (Same.refl H)
  cases hR with
  | no ty hk => exact ⟨_, rfl, _, _, _, false, rfl, ty, hk, _, rfl, iteT (iteT q0)⟩
  | @oth b xs e hl =>
    refine ⟨_, rfl, _, _, _, true, rfl, .tup e, kit_tup_tup, _, rfl, iteF ?_⟩
    refine ⟨_, rfl, b, _, rfl, .inr (SqT.of e), rfl, _, rfl, iteP ?_ q0⟩
    have : decide (V.int ((xs.length : Nat) : Int) = V.int 2) = false := decide_eq_false fun y => hl (by have := V.int.inj y; omega)
    show (!decide (V.int ((xs.length : Nat) : Int) = V.int 2)) = true
    rw [this]
    rfl
  | @two b n g on og e hn hg =>
    refine ⟨_, rfl, _, _, _, true, rfl, .tup e, kit_tup_tup, _, rfl, iteF ?_⟩
    refine ⟨_, rfl, b, _, rfl, .inr (SqT.of e), rfl, _, rfl, iteN (show ¬ (!decide (V.int ((2 : Nat) : Int) = V.int 2)) = true by decide) ?_⟩
    refine ⟨_, rfl, b, _, rfl, SqT.of e, rfl, _, _, rfl, _, _, rfl, rfl, ?_⟩
    cases hn with
    | int i => exact ⟨_, rfl, _, _, _, false, rfl, .int i, kit_int_str, _, rfl, iteT (iteT q0)⟩
    | str z hz =>
    refine ⟨_, rfl, _, _, _, true, rfl, .str z, kit_str_str, _, rfl, iteF ?_⟩
    cases hg with
    | no ty hk =>
      rw [show rowB tt (some (some z, none)) = false from Bool.and_false _] at q0
      exact ⟨_, rfl, _, _, _, false, rfl, ty, hk, _, rfl, iteT q0⟩
    | @tup ga xs eg hp =>
    refine ⟨_, rfl, _, _, _, true, rfl, .tup eg, kit_tup_tup, _, rfl, iteF ?_⟩
    replace q : ∀ H', Same H H' → Q (.bl ((decide (1 ≤ z.length ∧ z.length ≤ 8) && figB z) && (decide (xs.length ≤ 8) && (!xs.isEmpty && (xs.all (fun x => wholeIn x 0 (tt - 1)) && unlikeB xs))))) H' := q
    have hsz : z.length ≤ sizeLine := Nat.le_of_lt (small1000 (by have := hz.len; omega))
    have no1 : ¬ (1 ≤ z.length ∧ z.length ≤ 8) → Q (.bl false) H := fun c => by
      have := q H (Same.refl H)
      rw [decide_eq_false c, Bool.false_and, Bool.false_and] at this
      exact this
    refine ⟨_, rfl, z, rfl, hsz, _, _, rfl, rfl, _, rfl, ?_⟩
    refine ite2 (fun c1 => ?_) (fun c1 => ?_)
    rotate_left
    · have c1' : ¬ (1 : Int) ≤ ((z.length : Nat) : Int) := fun y => c1 (decide_eq_true y)
      exact ⟨_, rfl, iteT (iteT (no1 (by omega)))⟩
    have c1' : (1 : Int) ≤ ((z.length : Nat) : Int) := of_decide_eq_true c1
    refine ⟨_, _, rfl, rfl, _, rfl, ?_⟩
    by_cases c2 : ((z.length : Nat) : Int) ≤ 8
    rotate_left
    · rw [decide_eq_false c2]
      exact iteT (iteT (no1 (by omega)))
    rw [decide_eq_true c2]
    refine iteF ?_
    rw [decide_eq_true (show 1 ≤ z.length ∧ z.length ≤ 8 by omega), Bool.true_and] at q
    have no2 : ¬ (xs.length ≤ 8 ∧ xs ≠ []) → Q (.bl false) H := fun c => by
      have := q H (Same.refl H)
      by_cases c3 : xs.length ≤ 8
      · have : xs = [] := Classical.byContradiction fun y => c ⟨c3, y⟩
        subst this
        rw [show (decide (([] : List V).length ≤ 8) && (!([] : List V).isEmpty && (([] : List V).all (fun x => wholeIn x 0 (tt - 1)) && unlikeB []))) = false from rfl, Bool.and_false] at this
        exact this
      · rw [decide_eq_false c3, Bool.false_and, Bool.and_false] at this
        exact this
    refine ⟨_, rfl, ga, _, rfl, .inr (SqT.of eg), _, _, rfl, rfl, _, rfl, ?_⟩
    refine ite2 (fun c3 => ?_) (fun c3 => ?_)
    rotate_left
    · have c3' : ¬ (1 : Int) ≤ ((xs.length : Nat) : Int) := fun y => c3 (decide_eq_true y)
      exact ⟨_, rfl, iteT (no2 fun y => c3' (by have := List.length_pos_iff.mpr y.2; omega))⟩
    have c3' : (1 : Int) ≤ ((xs.length : Nat) : Int) := of_decide_eq_true c3
    refine ⟨_, _, rfl, rfl, _, rfl, ?_⟩
    by_cases c4 : ((xs.length : Nat) : Int) ≤ 8
    rotate_left
    · rw [decide_eq_false c4]
      exact iteT (no2 fun y => c4 (by omega))
    rw [decide_eq_true c4]
    refine iteF ?_
    have hne : (!xs.isEmpty) = true := by cases xs with
      | nil => exact absurd c3' (by decide)
      | cons _ _ => rfl
    rw [decide_eq_true (show xs.length ≤ 8 by omega), hne, Bool.true_and, Bool.true_and] at q
    refine ⟨_, rfl, z, rfl, hz.asc, ?_⟩
    refine comp_str (fun i acc σ H' => H' = H ∧ acc = ((z.cps.toList.take i).filter fun c => !decide (48 ≤ c ∧ c ≤ 57)).map (fun c => V.str ⟨#[c]⟩) ∧ ∃ v, σ = [v])
      ⟨rfl, rfl, none, rfl⟩ hsz (fun i acc σ H' g => ?_) ?_ ?_
    · obtain ⟨_, rfl, _⟩ := g
      rw [List.length_map]
      exact Nat.le_trans (List.length_filter_le _ _) (by rw [List.length_take]; omega)
    · rintro i c acc σ H' hc ⟨rfl, rfl, v, rfl⟩
      have hc' : z.cps.toList[i]? = some c := by rw [Array.getElem?_toList]; exact hc
      have st : ((z.cps.toList.take (i + 1)).filter fun c => !decide (48 ≤ c ∧ c ≤ 57)).map (fun c => V.str ⟨#[c]⟩) = ((z.cps.toList.take i).filter fun c => !decide (48 ≤ c ∧ c ≤ 57)).map (fun c => V.str ⟨#[c]⟩) ++ (if (!decide (48 ≤ c ∧ c ≤ 57)) = true then [V.str ⟨#[c]⟩] else []) := by
        rw [List.take_succ, hc', List.filter_append, List.map_append]
        congr 1
        show List.map _ (List.filter _ [c]) = _
        rw [List.filter_cons]
        by_cases y : (!decide (48 ≤ c ∧ c ≤ 57)) = true
        · rw [if_pos y, if_pos y]; rfl
        · rw [if_neg y, if_neg y]; rfl
      refine ⟨_, rfl, _, _, rfl, rfl, _, rfl, ?_⟩
      rw [fig_inB]
      refine ite2 (fun y => ?_) (fun y => ?_)
      · rw [if_pos y] at st
        exact ⟨_, rfl, rfl, st.symm, _, rfl⟩
      · rw [if_neg y, List.append_nil] at st
        exact ⟨rfl, st.symm, _, rfl⟩
    rintro acc σ H' ⟨rfl, rfl, v, rfl⟩ sl hsl
    have hfull : z.cps.toList.take z.length = z.cps.toList := List.take_of_length_le (Nat.le_refl _)
    rw [hfull]
    have s1 := same_new hsl (.lst ((badS z).map fun c => V.str ⟨#[c]⟩))
    have e1 := upd_same (H := H') (a := sl) (o := .lst ((badS z).map fun c => V.str ⟨#[c]⟩))
    unfold badS at s1 e1
    generalize upd H' sl _ = H1 at s1 e1 ⊢
    change H1 sl = some (.lst ((badS z).map fun c => V.str ⟨#[c]⟩)) at e1
    refine ⟨(by show 0 ≤ sizeLine; decide), fun o1 ho1 => ?_⟩
    have s2 := s1.trans (same_new ho1 (.lst []))
    have e2 := upd_same (H := H1) (a := o1) (o := .lst [])
    have e12 := same_new ho1 (.lst []) _ _ e1
    generalize upd H1 o1 (.lst []) = H2 at s2 e2 e12 ⊢
    refine ⟨sl, o1, _, rfl, rfl, SqL.of e12, SqL.of e2, _, rfl, ?_⟩
    cases hb : badS z with
    | cons c0 ct =>
      have hf : figB z = false := Bool.eq_false_iff.mpr fun y => by rw [badS_nil.mpr y] at hb; cases hb
      refine iteT ?_
      have := q H2 s2
      rw [hf, Bool.false_and] at this
      exact this
    | nil =>
      have hf : figB z = true := badS_nil.mp hb
      refine iteF ?_
      rw [hf, Bool.true_and] at q
      have eg2 := s2 _ _ eg
      dsimp only [tNext]
      refine ⟨_, rfl, ga, rfl, ⟨_, SqT.of eg2⟩, ?_⟩
      refine for_tup (xs := xs) (fun i σ G => G = H2 ∧ (xs.take i).all (fun x => wholeIn x 0 (tt - 1)) = true ∧ ∃ v4, σ = [some (.ref b), some (.int tt), some (.str z), some (.ref ga), v4])
        ⟨rfl, rfl, none, rfl⟩ (fun i σ G _ g => g.1 ▸ SqT.of eg2) ?_ ?_
      · rintro i x σ G hx ⟨rfl, ha, v4, rfl⟩
        have hm := List.mem_of_getElem? hx
        have hpx := (hp.p x hm).same s2
        have bad : wholeIn x 0 (tt - 1) = false → Q (.bl false) G := fun y => by
          have := q G s2
          have hall : xs.all (fun x => wholeIn x 0 (tt - 1)) = false := Bool.eq_false_iff.mpr fun w' => by
            rw [List.all_eq_true.mp w' x hm] at y; cases y
          rw [hall, Bool.false_and] at this
          exact this
        have okn : wholeIn x 0 (tt - 1) = true → (xs.take (i + 1)).all (fun x => wholeIn x 0 (tt - 1)) = true := fun y => by
          rw [List.take_succ, hx, List.all_append, ha]
          show (true && (wholeIn x 0 (tt - 1) && true)) = true
          rw [y]
          rfl
        refine ⟨_, rfl, x, rfl, hpx, _, rfl, ?_⟩
        cases hpx with
        | @odd _ t b1 b2 ni ty h1 h2 hb =>
          have e0 : isInt x = false := by
            cases x with
            | int i => exact absurd rfl (ni i)
            | _ => rfl
          have e1 : wholeIn x 0 (tt - 1) = false := by
            cases x with
            | int i => exact absurd rfl (ni i)
            | _ => rfl
          rw [e0]
          exact iteT (iteT (bad e1))
        | int k =>
          refine iteF ?_
          refine ⟨_, rfl, _, _, rfl, rfl, _, rfl, ?_⟩
          refine ite2 (fun c5 => ?_) (fun c5 => ?_)
          rotate_left
          · refine ⟨_, rfl, iteT (bad ?_)⟩
            show (decide (0 ≤ k) && _) = false
            rw [Bool.eq_false_iff.mpr c5, Bool.false_and]
          have c5' : (0 : Int) ≤ k := of_decide_eq_true c5
          refine ⟨_, rfl, _, _, rfl, rfl, _, rfl, ?_⟩
          by_cases c6 : k < tt
          · rw [decide_eq_true c6]
            refine iteF ⟨rfl, okn ?_, _, rfl⟩
            show (decide (0 ≤ k) && decide (k ≤ tt - 1)) = true
            rw [c5, decide_eq_true (show k ≤ tt - 1 by omega)]
            rfl
          · rw [decide_eq_false c6]
            refine iteT (bad ?_)
            show (decide (0 ≤ k) && decide (k ≤ tt - 1)) = false
            rw [decide_eq_false (show ¬ k ≤ tt - 1 by omega), Bool.and_false]
      · rintro σ G ⟨rfl, ha, v4, rfl⟩
        rw [List.take_length] at ha
        obtain ⟨ns, rfl⟩ := wholes ha
        rw [ha, Bool.true_and] at q
        have few := hp.few
        rw [List.length_map] at few
        refine ⟨_, rfl, ga, ns, rfl, SqT.of eg2, by omega, fun l hl => ?_⟩
        have s3 := same_new hl (SetP P w l ns)
        refine ⟨l, ns, rfl, upd_same, _, rfl, ga, _, rfl, .inr (SqT.of (s3 _ _ eg2)), rfl, ?_⟩
        have := q _ (s2.trans s3)
        unfold unlikeB at this
        rw [vints_map, List.length_map] at this
        rw [List.length_map]
        have e : decide (V.int (((sortU ns).length : Nat) : Int) = V.int ((ns.length : Nat) : Int)) = decide ((sortU ns).length = ns.length) := by
          rw [Bool.eq_iff_iff, decide_eq_true_iff, decide_eq_true_iff]
          constructor
          · intro z
            have := V.int.inj z
            omega
          · intro z
            rw [z]
        rw [e]
        exact this
end
def commonL (ns ms : List Int) : List Int := ns.filter fun e => decide (e ∈ ms)
theorem common_nil {ns ms : List Int} : commonL ns ms = [] ↔ (ns.any fun e => decide (e ∈ ms)) = false := by
  unfold commonL
  rw [List.filter_eq_nil_iff, Bool.eq_false_iff]
  constructor
  · intro h y
    obtain ⟨e, he, z⟩ := List.any_eq_true.mp y
    exact h e he z
  · intro h e he z
    exact h (List.any_eq_true.mpr ⟨e, he, z⟩)
theorem common_snoc {ns ms : List Int} {i : Nat} {e : Int} (h : ns[i]? = some e) : (commonL (ns.take (i + 1)) ms).map V.int = (commonL (ns.take i) ms).map V.int ++ (if decide (e ∈ ms) = true then [.int e] else []) := by
  unfold commonL
  rw [List.take_succ, h, List.filter_append, List.map_append]
  congr 1
  show List.map _ (List.filter _ [e]) = _
  rw [List.filter_cons]
  by_cases c : decide (e ∈ ms) = true
  · rw [if_pos c, if_pos c]
    rfl
  · rw [if_neg c, if_neg c]
    rfl
theorem paired_snoc {α β : Type} {F : α → β → Prop} {a : α} {b : β} : ∀ {as : List α} {bs : List β}, Paired F as bs → F a b → Paired F (as ++ [a]) (bs ++ [b])
  | _, _, .nil, h => .cons h .nil
  | _, _, .cons r t, h => .cons r (paired_snoc t h)
def oN : Option Nat → V
  | none => .non
  | some n => .int (n : Nat)
def spFault (K : PySem.W.Frag) : Sp := fun vs H Q _ => ∃ (l : Addr) (T : Int) (xs : List V) (os : List RO), vs = [.ref l, .int T] ∧ H l = some (.lst xs) ∧ RowsAt K H xs os ∧ xs.length ≤ 64 ∧ ∀ (r : Option Nat) (H' : Hp), FaultIs T os r → Same H H' → Q (oN r) H'
def spRefd (C : Addr) : Sp := fun vs H Q _ => ∃ (ea dx : Addr) (i : Nat), vs = [.ref ea, .int (i : Nat)] ∧ H ea = some (ExcD ea C (some dx)) ∧ H dx = some (XdO dx (rowF i)) ∧ Q (.bl true) H
section
variable {P : Program} {w : World} {K : PySem.W.Frag} {mg : Str → Option Value} {base : Heap} {C_HallError C_NoLine C_NoBook C_NoFigure C_NoTurn C_NoKind C_NoRank C_Out C_NoDeed : Addr}
theorem sc__law_apart : FnScope ["_law_row", "_law_others", "_law_other", "_law_size"] ["_law_row", "_law_others"] (defScope (top 37)) := ⟨rfl, rfl, rfl, by decide +kernel, rfl, by decide +kernel, by decide +kernel⟩
set_option maxHeartbeats 4000000 in
theorem ok_apart (T : Txt K mg) (D : Def K mg "_law_apart" (top 37) ["_law_row", "_law_others"]) : Callee P w K mg base 1 "_law_apart" ["_law_row", "_law_others"] (spApart K) := by
  refine D.ok sc__law_apart (fun vs H Q E h => ?_) (fun f cdv A outer s H vs Q E hr h => ?_)
  · obtain ⟨a, g, l, d, xs, ds, rfl, _⟩ := h
    rfl
  obtain ⟨a, g, l, d, xs, ds, rfl, hd, hl, hp, l64, q⟩ := h
  refine ⟨_, (pss_cons (ps_for PassesOwn.never rfl (pi_listK K (pv 1)) (pg_name (i := 2) sc__law_apart.nd rfl (Or.inr rfl))
    (pss_cons (ps_set (i := 3) sc__law_apart.nd rfl (Or.inl rfl) (pe_callB (call_min2 rfl) rfl T.m_min boot_min (pa_cons (pe_callB call_len_str rfl T.m_len boot_len (pa_cons (pe_ix (ix_tupK K) (pv 0) pe_int (fun _ _ => rfl)) pa_nil st_sub)) (pa_cons (pe_callB call_len_str rfl T.m_len boot_len (pa_cons (pe_ix (ix_tupK K) (pv 2) pe_int (fun _ _ => rfl)) pa_nil st_sub)) pa_nil st_call) st_call)))
    (pss_cons (ps_if (pt_cmpR op_eq (pe_slice sl_strS (pe_ix (ix_tupK K) (pv 0) pe_int (fun _ _ => rfl)) po_none (po_some (pv 3))) (pe_slice sl_strS (pe_ix (ix_tupK K) (pv 2) pe_int (fun _ _ => rfl)) po_none (po_some (pv 3))) (nomark _)) (pss_one (ps_ret pe_bl)) pss_nil)
    (pss_one (ps_if (pt_cmpR (op_neNilK K (Room.units0 hr)) (pe_comp (own := ["_law_end"]) (fr := [(2, "_law_other")]) rfl (show CompScope ["_law_row", "_law_others", "_law_other", "_law_size"] (defScope (top 37)) _ _ _ from ⟨rfl, by decide +kernel, by decide +kernel, by decide +kernel, by decide +kernel⟩) (pi_tupK K (pe_ix (ix_tupK K) (pv 0) pe_int (fun _ _ => rfl))) (fun cl C s H ex => ⟨(pg_name (i := 0) (show (["_law_end", "_law_other"] : List Str).Nodup from by decide +kernel) rfl (Or.inl rfl) (Or.inr rfl)), (pif_one (pt_cmpR (op_inK K) (pv 0) (pe_ix (ix_tupK K) (pv 1) pe_int (fun _ _ => rfl)) (by with_unfolding_all rfl))), (pv 0)⟩)) (pe_lst pa_nil) (nomark _)) (pss_one (ps_ret pe_bl)) pss_nil)))))
    (pss_one (ps_ret pe_bl))), ?_⟩
  have lx : xs.length = ds.length := Paired.length hp
  have l8 := hd.len
  have f8 := hd.few
  have szz : ∀ z : Str, z.length ≤ 8 → z.length ≤ sizeLine := fun z hz => Nat.le_of_lt (small1000 (by omega))
  refine ⟨_, rfl, l, rfl, ⟨_, SqL.of hl⟩, ?_⟩
  refine for_list (xs := xs) (fun i σ G => Same H G ∧ ((ds.take i).any fun d' => clashB d d') = false ∧ ∃ v2 v3, σ = [some (.ref a), some (.ref l), v2, v3])
    ⟨Same.refl H, rfl, none, none, rfl⟩ (fun i σ G _ g => SqL.of (g.1 _ _ hl)) ?_ ?_
  · rintro i x σ G hx ⟨sG, hn, v2, v3, rfl⟩
    obtain ⟨d', hd', a', g', rfl, h'⟩ := paired_at hp i x hx
    have bad : clashB d d' = true → ∀ G', Same G G' → Q (.bl false) G' := fun y G' s' => by
      have := q G' (sG.trans s')
      have ht : (ds.any fun d' => clashB d d') = true := List.any_eq_true.mpr ⟨d', List.mem_of_getElem? hd', y⟩
      rw [ht] at this
      exact this
    have good : clashB d d' = false → ((ds.take (i + 1)).any fun d' => clashB d d') = false := fun y => by
      rw [List.take_succ, hd', List.any_append, hn]
      show (false || (clashB d d' || false)) = false
      rw [y]
      rfl
    have hd1 := hd.same sG
    have h1 := h'.same sG
    have l8' := h1.len
    have f8' := h1.few
    refine ⟨_, rfl, a, _, _, _, rfl, rfl, SqT.of hd1.t, rfl, d.1, rfl, szz _ l8, _, rfl, a', _, _, _, rfl, rfl, SqT.of h1.t, rfl, d'.1, rfl, szz _ l8', _, _, rfl, ?_⟩
    dsimp only [gName]
    obtain ⟨m, hm, em⟩ : ∃ m : Nat, m = min d.1.length d'.1.length ∧ (if ((d'.1.length : Nat) : Int) < ((d.1.length : Nat) : Int) then ((d'.1.length : Nat) : Int) else ((d.1.length : Nat) : Int)) = (m : Int) := by
      refine ⟨min d.1.length d'.1.length, rfl, ?_⟩
      split <;> omega
    rw [em]
    refine ⟨_, rfl, a, _, _, _, rfl, rfl, SqT.of hd1.t, rfl, _, rfl, _, rfl, d.1, rfl, szz _ l8, _, rfl, a', _, _, _, rfl, rfl, SqT.of h1.t, rfl, _, rfl, _, rfl, d'.1, rfl, szz _ l8', rfl, _, rfl, ?_⟩
    rw [pre_min _ _ _ hm]
    have cb : clashB d d' = ((pre d'.1 d.1 || pre d.1 d'.1) || d.2.any fun e => decide (e ∈ d'.2)) := rfl
    refine ite2 (fun c1 => ?_) (fun c1 => ?_)
    · rw [c1, Bool.true_or] at cb
      exact bad cb G (Same.refl G)
    rw [Bool.eq_false_iff.mpr c1, Bool.false_or] at cb
    refine ⟨_, rfl, a, _, _, _, rfl, rfl, SqT.of hd1.t, rfl, g, rfl, ⟨_, SqT.of hd1.e⟩, ?_⟩
    refine comp_tup (xs := d.2.map V.int) (fun k acc σ H' => H' = G ∧ acc = (commonL (d.2.take k) d'.2).map V.int ∧ ∃ v, σ = [v, some (.ref a')])
      ⟨rfl, rfl, none, rfl⟩ (Nat.le_of_lt (small1000 (by rw [List.length_map]; omega))) (fun k acc σ H' g => ?_) (fun k acc σ H' _ g => g.1 ▸ SqT.of hd1.e) ?_ ?_
    · obtain ⟨_, rfl, _⟩ := g
      rw [List.length_map]
      exact Nat.le_trans (List.length_filter_le _ _) (by rw [List.length_take]; omega)
    · rintro k y acc σ H' hy ⟨rfl, rfl, v, rfl⟩
      rw [List.getElem?_map] at hy
      obtain ⟨e, he, rfl⟩ := Option.map_eq_some_iff.mp hy
      refine ⟨_, rfl, _, rfl, a', _, _, _, rfl, rfl, SqT.of h1.t, rfl, g', _, rfl, .inr (SqT.of h1.e), rfl, int_flat _, _, rfl, ?_⟩
      rw [int_in]
      have st := common_snoc (ms := d'.2) he
      refine ite2 (fun cc => ?_) (fun cc => ?_)
      · have cc' : decide (e ∈ d'.2) = true := cc
        rw [if_pos cc'] at st
        exact ⟨_, rfl, rfl, st.symm, _, rfl⟩
      · have cc' : ¬ decide (e ∈ d'.2) = true := cc
        rw [if_neg cc', List.append_nil] at st
        exact ⟨rfl, st.symm, _, rfl⟩
    rintro acc σ H' ⟨rfl, rfl, v, rfl⟩ cl hcl
    rw [List.length_map, List.take_length]
    have t1 := same_new hcl (.lst ((commonL d.2 d'.2).map V.int))
    have e1 := upd_same (H := H') (a := cl) (o := .lst ((commonL d.2 d'.2).map V.int))
    generalize upd H' cl (.lst ((commonL d.2 d'.2).map V.int)) = G1 at t1 e1 ⊢
    refine ⟨(by show 0 ≤ sizeLine; decide), fun o1 ho1 => ?_⟩
    have t2 := t1.trans (same_new ho1 (.lst []))
    have e2 := upd_same (H := G1) (a := o1) (o := .lst [])
    have e12 := same_new ho1 (.lst []) _ _ e1
    generalize upd G1 o1 (.lst []) = G2 at t2 e2 e12 ⊢
    refine ⟨cl, o1, _, rfl, rfl, SqL.of e12, SqL.of e2, _, rfl, ?_⟩
    cases hc : commonL d.2 d'.2 with
    | cons c0 ct =>
      have hf : (d.2.any fun e => decide (e ∈ d'.2)) = true := by
        cases y : (d.2.any fun e => decide (e ∈ d'.2)) with
        | true => rfl
        | false => rw [common_nil.mpr y] at hc; cases hc
      rw [hf] at cb
      exact iteT (bad cb G2 t2)
    | nil =>
      rw [common_nil.mp hc] at cb
      exact iteF ⟨sG.trans t2, good cb, _, _, rfl⟩
  · rintro σ G ⟨sG, hn, v2, v3, rfl⟩
    rw [lx, List.take_length] at hn
    have := q G sG
    rw [hn] at this
    exact this
theorem sc__law_fault : FnScope ["_law_rows_here", "_law_total", "_law_place"] ["_law_rows_here", "_law_total"] (defScope (top 38)) := ⟨rfl, rfl, rfl, by decide +kernel, rfl, by decide +kernel, by decide +kernel⟩
set_option maxHeartbeats 4000000 in
theorem ok_fault (T : Txt K mg) (C__law_good : Callee P w K mg base 2 "_law_good" ["_law_row", "_law_total"] (spGoodR K)) (C__law_apart : Callee P w K mg base 1 "_law_apart" ["_law_row", "_law_others"] (spApart K)) (D : Def K mg "_law_fault" (top 38) ["_law_rows_here", "_law_total"]) : Callee P w K mg base 3 "_law_fault" ["_law_rows_here", "_law_total"] (spFault K) := by
  refine D.ok sc__law_fault (fun vs H Q E h => ?_) (fun f cdv A outer s H vs Q E hr h => ?_)
  · obtain ⟨l, T, xs, os, rfl, _⟩ := h
    rfl
  obtain ⟨l, tt, xs, os, rfl, hl, hR, l64, q⟩ := h
  refine ⟨_, (pss_cons (ps_for PassesOwn.never rfl (pi_range1 rfl T.m_range (pa_cons (pe_callB (call_lenK K) rfl T.m_len boot_len (pa_cons (pv 0) pa_nil st_name)) pa_nil st_call)) (pg_name (i := 2) sc__law_fault.nd rfl (Or.inl rfl))
    (pss_one (ps_if (PW.pt (pw_or (pt_cmpR op_eq (pv 2) pe_int (nomark _)) (pw_or (pt_not (pt_truK K (pe_fn C__law_good hr rfl (pa_cons (pe_ix (ix_listK K) (pv 0) (pv 2) (fun _ _ => rfl)) (pa_cons (pv 1) pa_nil st_name) st_sub)) (fun _ => rfl))) (pw_or1 (pt_not (pt_truK K (pe_fn C__law_apart hr rfl (pa_cons (pe_ix (ix_listK K) (pv 0) (pv 2) (fun _ _ => rfl)) (pa_cons (pe_slice (sl_listK K) (pv 0) po_none (po_some (pv 2))) pa_nil st_sub) st_sub)) (fun _ => rfl))))))) (pss_one (ps_ret (pv 2))) pss_nil)))
    (pss_cons (ps_if (pt_cmpR (op_eqNilK K (Room.units0 hr)) (pv 0) (pe_lst pa_nil) (nomark _)) (pss_one (ps_ret pe_int)) pss_nil)
    (pss_one (ps_ret pe_non)))), ?_⟩
  have lx : xs.length = os.length := Paired.length hR
  refine ⟨_, rfl, l, _, rfl, .inl (SqL.of hl), _, rfl, by omega, by omega, ?_⟩
  refine for_range (lo := 0) (fun i σ G => Same H G ∧ NoBad tt os i ∧ ∃ v2, σ = [some (.ref l), some (.int tt), v2])
    ⟨Same.refl H, (fun j hj => absurd hj (by omega)), none, rfl⟩ ?_ ?_
  · rintro i σ G hi ⟨sG, nb, v2, rfl⟩
    have hix : i < xs.length := by omega
    have hx : xs[i]? = some (xs[i]'hix) := List.getElem?_eq_getElem _
    obtain ⟨o, ho, hth⟩ := paired_at hR i _ hx
    have i40 := nb.lt40 (by omega)
    have bi := bad_is (T := tt) ho
    have hat : atI xs (0 + (i : Int)) = some (xs[i]'hix) := by rw [Int.zero_add]; exact atI_nat hx
    have out : badAt tt os i = true → ∀ G', Same G G' → Q (.int (0 + (i : Int))) G' := fun y G' s' => by
      rw [Int.zero_add]
      exact q (some i) G' (.at_ i (by omega) y nb) (sG.trans s')
    have eG := sG _ _ hl
    refine ⟨_, rfl, rfl, _, rfl, ?_⟩
    refine ite2 (fun c1 => ?_) (fun c1 => ?_)
    · have c1' : (0 + (i : Int)) = 40 := V.int.inj (of_decide_eq_true c1)
      rw [decide_eq_true (show 40 ≤ i by omega), Bool.true_or] at bi
      exact iteT ⟨_, rfl, out bi G (Same.refl G)⟩
    have c1' : ¬ 40 ≤ i := fun y => c1 (decide_eq_true (by rw [show (0 + (i : Int)) = 40 by omega]))
    rw [decide_eq_false c1', Bool.false_or] at bi
    refine ⟨_, rfl, _, rfl, l, _, _, _, rfl, rfl, SqL.of eG, hat, _, rfl, _, _, o, rfl, hth.same sG, fun G1 s1 => ⟨_, rfl, ?_⟩⟩
    cases hb : rowB tt o with
    | false =>
      rw [hb, Bool.not_false, Bool.true_or] at bi
      exact iteT (iteT ⟨_, rfl, out bi G1 s1⟩)
    | true =>
      rw [hb, Bool.not_true, Bool.false_or] at bi
      refine iteF ?_
      have sG1 := sG.trans s1
      obtain ⟨xa, xg, ex, hxg⟩ := (hth.same sG1).good hb
      have eG1 := s1 _ _ eG
      refine ⟨_, rfl, _, rfl, l, _, _, _, rfl, rfl, SqL.of eG1, hat, _, rfl, _, rfl, _, rfl, l, _, rfl, SqL.of eG1, fun sl hsl => ?_⟩
      rw [Int.zero_add, cutV_take, ex]
      have t2 := same_new hsl (.lst (xs.take i))
      have e2 := upd_same (H := G1) (a := sl) (o := .lst (xs.take i))
      generalize upd G1 sl (.lst (xs.take i)) = G2 at t2 e2 ⊢
      have sG2 := sG1.trans t2
      have hpr : ∀ k, k ≤ i → Paired (fun x d => ∃ a g, x = .ref a ∧ GoodAt G2 a g d) (xs.take k) ((os.take k).map dat) := by
        intro k
        induction k with
        | zero => intro _; exact .nil
        | succ k ih =>
          intro hk
          have hxk : xs[k]? = some (xs[k]'(by omega)) := List.getElem?_eq_getElem _
          obtain ⟨o', a', g', ho', e', hg'⟩ := nb.rows hR (show k < i by omega) hxk
          rw [List.take_succ, List.take_succ, hxk, ho', List.map_append]
          exact paired_snoc (ih (by omega)) ⟨a', g', e', hg'.same sG2⟩
      refine ⟨xa, xg, sl, dat o, _, _, rfl, hxg.same t2, e2, hpr i (Nat.le_refl _), by rw [List.length_take]; omega, fun G3 s3 => ⟨_, rfl, ?_⟩⟩
      rw [List.any_map]
      have s13 := s1.trans (t2.trans s3)
      cases hc : (os.take i).any (fun o' => clashB (dat o) (dat o')) with
      | true =>
        rw [hc] at bi
        rw [show ((os.take i).any ((fun d' => clashB (dat o) d') ∘ dat)) = true from hc]
        refine iteT ⟨_, rfl, ?_⟩
        have := out bi G3 s13
        rw [Int.zero_add] at this
        exact this
      | false =>
        rw [hc] at bi
        rw [show ((os.take i).any ((fun d' => clashB (dat o) d') ∘ dat)) = false from hc]
        exact iteF ⟨sG.trans s13, nb.next bi, _, rfl⟩
  · rintro σ G ⟨sG, nb, v2, rfl⟩
    have nb' : NoBad tt os os.length := by rw [← lx]; exact nb
    refine ⟨_, rfl, (by show 0 ≤ sizeLine; decide), fun o1 ho1 => ?_⟩
    have t2 := sG.trans (same_new ho1 (.lst []))
    have e2 := upd_same (H := G) (a := o1) (o := .lst [])
    generalize upd G o1 (.lst []) = G2 at t2 e2 ⊢
    refine ⟨l, o1, _, rfl, rfl, SqL.of (t2 _ _ hl), SqL.of e2, _, rfl, ?_⟩
    cases hxs : xs with
    | nil =>
      have eo : os = [] := List.length_eq_zero_iff.mp (by rw [← lx, hxs]; rfl)
      exact iteT (q (some 0) G2 (.empty eo) t2)
    | cons x t =>
      have eo : os ≠ [] := fun y => by rw [y, hxs] at lx; cases lx
      exact iteF (q none G2 (.none eo nb') t2)
theorem sc__law_refused : FnScope ["_law_e", "_law_place"] ["_law_e", "_law_place"] (defScope (top 39)) := ⟨rfl, rfl, rfl, by decide +kernel, rfl, by decide +kernel, by decide +kernel⟩
theorem ok_refd (T : Txt K mg) (Z : TxtC K mg C_HallError C_NoLine C_NoBook C_NoFigure C_NoTurn C_NoKind C_NoRank C_Out C_NoDeed) (C__law_whole : Callee P w K mg base 1 "_law_whole" ["_law_found"] (spWhole K)) (D : Def K mg "_law_refused" (top 39) ["_law_e", "_law_place"]) : Callee P w K mg base 2 "_law_refused" ["_law_e", "_law_place"] (spRefd C_NoBook) := by
  refine D.ok sc__law_refused (fun vs H Q E h => ?_) (fun f cdv A outer s H vs Q E hr h => ?_)
  · obtain ⟨ea, dx, i, rfl, _⟩ := h
    rfl
  obtain ⟨ea, dx, i, rfl, he, hd, q⟩ := h
  refine ⟨_, (pss_cons (ps_if (PW.pt (pw_or (pt_truK K (pe_callB (call_isinstD K) rfl T.m_isinstance boot_isinstance (pa_cons (pv 0) (pa_cons (pe_glob (v := .ref C_NoFigure) rfl Z.mg_NoFigure rfl) pa_nil st_name) st_name)) (fun _ => rfl)) (pw_or (pt_truK K (pe_callB (call_isinstD K) rfl T.m_isinstance boot_isinstance (pa_cons (pv 0) (pa_cons (pe_glob (v := .ref C_NoTurn) rfl Z.mg_NoTurn rfl) pa_nil st_name) st_name)) (fun _ => rfl)) (pw_or (pt_truK K (pe_callB (call_isinstD K) rfl T.m_isinstance boot_isinstance (pa_cons (pv 0) (pa_cons (pe_glob (v := .ref C_NoKind) rfl Z.mg_NoKind rfl) pa_nil st_name) st_name)) (fun _ => rfl)) (pw_or1 (pt_truK K (pe_callB (call_isinstD K) rfl T.m_isinstance boot_isinstance (pa_cons (pv 0) (pa_cons (pe_glob (v := .ref C_NoRank) rfl Z.mg_NoRank rfl) pa_nil st_name) st_name)) (fun _ => rfl))))))) (pss_one (ps_ret pe_bl)) pss_nil)
    (pss_cons (ps_if (PW.pt (pw_or (pt_truK K (pe_callB (call_isinstD K) rfl T.m_isinstance boot_isinstance (pa_cons (pv 0) (pa_cons (pe_glob (v := .ref C_Out) rfl Z.mg_Out rfl) pa_nil st_name) st_name)) (fun _ => rfl)) (pw_or (pt_truK K (pe_callB (call_isinstD K) rfl T.m_isinstance boot_isinstance (pa_cons (pv 0) (pa_cons (pe_glob (v := .ref C_NoLine) rfl Z.mg_NoLine rfl) pa_nil st_name) st_name)) (fun _ => rfl)) (pw_or (pt_truK K (pe_callB (call_isinstD K) rfl T.m_isinstance boot_isinstance (pa_cons (pv 0) (pa_cons (pe_glob (v := .ref C_NoDeed) rfl Z.mg_NoDeed rfl) pa_nil st_name) st_name)) (fun _ => rfl)) (pw_or1 (pt_not (pt_truK K (pe_callB (call_isinstD K) rfl T.m_isinstance boot_isinstance (pa_cons (pv 0) (pa_cons (pe_glob (v := .ref C_NoBook) rfl Z.mg_NoBook rfl) pa_nil st_name) st_name)) (fun _ => rfl)))))))) (pss_one (ps_ret pe_bl)) pss_nil)
    (pss_one (ps_ret (pe_and (pe_callB (call_isinstD K) rfl T.m_isinstance boot_isinstance (pa_cons (pv 0) (pa_cons (pe_bltn (v := .ty "ValueError") rfl T.m_ValueError boot_ValueError rfl) pa_nil st_name) st_name)) (pe_and (pe_fn C__law_whole hr rfl (pa_cons (pe_xf K (pv 0)) pa_nil st_attr)) (pe_one (pe_cmpR op_eq (pe_xf K (pv 0)) (pv 1) (nomark _))))))))), ?_⟩
  have rr : ∀ (D : Addr) (u : Value), RelV (.ref D) u → u = .ref D := fun D u h => h
  refine ⟨_, rfl, ea, C_NoBook, some dx, _, _, false, rfl, rr _, he, Z.x_NoBook, Z.kx_NoBook_NoFigure, _, rfl, iteF ?_⟩
  refine ⟨_, rfl, ea, C_NoBook, some dx, _, _, false, rfl, rr _, he, Z.x_NoBook, Z.kx_NoBook_NoTurn, _, rfl, iteF ?_⟩
  refine ⟨_, rfl, ea, C_NoBook, some dx, _, _, false, rfl, rr _, he, Z.x_NoBook, Z.kx_NoBook_NoKind, _, rfl, iteF ?_⟩
  refine ⟨_, rfl, ea, C_NoBook, some dx, _, _, false, rfl, rr _, he, Z.x_NoBook, Z.kx_NoBook_NoRank, _, rfl, iteF ?_⟩
  refine ⟨_, rfl, ea, C_NoBook, some dx, _, _, false, rfl, rr _, he, Z.x_NoBook, Z.kx_NoBook_Out, _, rfl, iteF ?_⟩
  refine ⟨_, rfl, ea, C_NoBook, some dx, _, _, false, rfl, rr _, he, Z.x_NoBook, Z.kx_NoBook_NoLine, _, rfl, iteF ?_⟩
  refine ⟨_, rfl, ea, C_NoBook, some dx, _, _, false, rfl, rr _, he, Z.x_NoBook, Z.kx_NoBook_NoDeed, _, rfl, iteF ?_⟩
  refine ⟨_, rfl, ea, C_NoBook, some dx, _, _, true, rfl, rr _, he, Z.x_NoBook, Z.kx_NoBook_NoBook, _, rfl, iteF ?_⟩
  refine ⟨_, rfl, ea, C_NoBook, some dx, _, _, true, rfl, (fun u h => h), he, Z.x_NoBook, Z.kv_NoBook, _, rfl, iteT ?_⟩
  refine ⟨_, rfl, ea, C_NoBook, dx, _, .int (i : Nat), rfl, he, hd, Z.x_NoBook, Z.n_NoBook, Z.f_NoBook_row, rfl, .int (i : Nat), rfl, .int _, _, rfl, iteT ?_⟩
  refine ⟨_, rfl, ea, C_NoBook, dx, _, .int (i : Nat), rfl, he, hd, Z.x_NoBook, Z.n_NoBook, Z.f_NoBook_row, rfl, _, rfl, rfl, ?_⟩
  rw [decide_eq_true rfl]
  exact q
end
def spLaw (K : PySem.W.Frag) : Sp := fun vs H Q _ => ∃ (a : Addr) (ns : List Int), vs = [.ref a] ∧ SqL K H a (ns.map V.int) ∧ ns.length ≤ 63 ∧ ∀ H', Q (.bl true) H'
theorem cutV_ints (ns : List Int) (lo hi : Option Int) : ∃ ms : List Int, cutV (ns.map V.int) lo hi = ms.map V.int := by
  unfold cutV
  exact ⟨_, by rw [← List.map_drop, ← List.map_take]⟩
section
variable {P : Program} {w : World} {K : PySem.W.Frag} {mg : Str → Option Value} {base : Heap} {C_HallError C_NoLine C_NoBook C_NoFigure C_NoTurn C_NoKind C_NoRank C_Out C_NoDeed : Addr}
theorem sc_law : FnScope ["_law_script", "_law_by_digits", "_law_seed", "_law_outs", "_law_ends", "_law_cells", "_law_hall", "_law_rows_here", "_law_place", "_law_handed", "_law_found", "_law_refused_here", "_law_e"] ["_law_script"] (defScope (top 42)) := ⟨rfl, rfl, rfl, by decide +kernel, rfl, by decide +kernel, by decide +kernel⟩
set_option maxHeartbeats 8000000 in
theorem ok_law (T : Txt K mg) (Z : TxtC K mg C_HallError C_NoLine C_NoBook C_NoFigure C_NoTurn C_NoKind C_NoRank C_Out C_NoDeed) (C__law_cell_at : Callee P w K mg base 1 "_law_cell_at" ["_law_script", "_law_k"] (spCell K)) (C__law_mixed : Callee P w K mg base 1 "_law_mixed" ["_law_cell", "_law_k"] spMixed) (C__law_rows : Callee P w K mg base 3 "_law_rows" ["_law_cells", "_law_seed", "_law_total"] (spRows K)) (C__law_rows_by : Callee P w K mg base 2 "_law_rows_by" ["_law_cells", "_law_total"] (spRowsBy K)) (C__law_fault : Callee P w K mg base 3 "_law_fault" ["_law_rows_here", "_law_total"] (spFault K)) (C_book_of : CalleeF P w K mg base 7 "book_of" ["hall", "rows"] [] (spBookOf K C_NoBook)) (C__law_refused : Callee P w K mg base 2 "_law_refused" ["_law_e", "_law_place"] (spRefd C_NoBook))
    {f : Addr} {fd : FuncData} (F : Fun K "law" "law" (top 42) f fd) : FnOk P w K mg base CX0 8 f fd ["_law_script"] (spLaw K) := by
  refine F.ok sc_law (fun vs H Q E h => ?_) (fun cdv A outer s H vs Q E hr h => ?_)
  · obtain ⟨a, ns, rfl, _⟩ := h
    rfl
  obtain ⟨a, ns, rfl, hS, h63, q⟩ := h
  refine ⟨_, (pss_cons (ps_set (i := 1) sc_law.nd rfl (Or.inl rfl) (pe_cmpR op_eq (pe_op op_mod (pe_fn C__law_cell_at hr rfl (pa_cons (pv 0) (pa_cons pe_int pa_nil st_const) st_name)) pe_int) pe_int (nomark _)))
    (pss_cons (ps_set (i := 2) sc_law.nd rfl (Or.inl rfl) (pe_fn C__law_mixed hr rfl (pa_cons (pe_fn C__law_cell_at hr rfl (pa_cons (pv 0) (pa_cons pe_int pa_nil st_const) st_name)) (pa_cons pe_int pa_nil st_const) st_call)))
    (pss_cons (ps_set (i := 3) sc_law.nd rfl (Or.inl rfl) (pe_op op_add pe_int (pe_op op_mod (pv 2) pe_int)))
    (pss_cons (ps_set (i := 4) sc_law.nd rfl (Or.inl rfl) (pe_op op_add pe_int (pe_op op_mod (pe_op op_fdiv (pv 2) pe_int) pe_int)))
    (pss_cons (ps_set (i := 5) sc_law.nd rfl (Or.inl rfl) (pe_slice (sl_listK K) (pv 0) (po_some pe_int) (po_some pe_int)))
    (pss_cons (ps_if (pt_cmpR op_eq (pe_op op_mod (pe_op op_fdiv (pv 2) pe_int) pe_int) pe_int (nomark _)) (pss_cons (ps_set (i := 3) sc_law.nd rfl (Or.inl rfl) pe_int)
    (pss_cons (ps_set (i := 4) sc_law.nd rfl (Or.inl rfl) pe_int)
    (pss_one (ps_comp (i := 5) (own := ["_law_k"]) (fr := [(0, "_law_script")]) rfl sc_law.nd rfl rfl (show CompScope ["_law_script", "_law_by_digits", "_law_seed", "_law_outs", "_law_ends", "_law_cells", "_law_hall", "_law_rows_here", "_law_place", "_law_handed", "_law_found", "_law_refused_here", "_law_e"] (defScope (top 42)) _ _ _ from ⟨rfl, by decide +kernel, by decide +kernel, by decide +kernel, by decide +kernel⟩) (pi_range1 rfl T.m_range (pa_cons (pe_op op_add pe_int (pe_op op_mod (pe_op op_fdiv (pv 2) pe_int) pe_int)) pa_nil st_bin)) (fun cl C s H ex => ⟨(pg_name (i := 0) (show (["_law_k", "_law_script"] : List Str).Nodup from by decide +kernel) rfl (Or.inl rfl) (Or.inr rfl)), pif_nil, (pe_op op_add (pe_fn C__law_cell_at hr rfl (pa_cons (pv 1) (pa_cons (pe_op op_add pe_int (pe_op op_mod (pv 0) pe_int)) pa_nil st_bin) st_name)) (pv 0))⟩) rfl)))) pss_nil)
    (pss_cons (ps_set (i := 6) sc_law.nd rfl (Or.inl rfl) (pe_tup (pa_cons (pe_op op_add pe_int (pe_op op_mod (pe_op op_fdiv (pv 2) pe_int) pe_int)) (pa_cons (pe_op op_add pe_int (pe_op op_mod (pe_op op_fdiv (pv 2) pe_int) pe_int)) (pa_cons (pe_op op_add pe_int (pe_op op_mod (pe_op op_fdiv (pv 2) pe_int) pe_int)) (pa_cons (pv 3) (pa_cons (pv 4) pa_nil st_name) st_name) st_bin) st_bin) st_bin)))
    (pss_cons (ps_set (i := 7) sc_law.nd rfl (Or.inl rfl) (pe_fn C__law_rows hr rfl (pa_cons (pv 5) (pa_cons (pe_op op_fdiv (pv 2) pe_int) (pa_cons (pe_op op_mul (pv 3) (pv 4)) pa_nil st_bin) st_bin) st_name)))
    (pss_cons (ps_if (pt_truK K (pv 1) (fun _ => rfl)) (pss_one (ps_set (i := 7) sc_law.nd rfl (Or.inl rfl) (pe_fn C__law_rows_by hr rfl (pa_cons (pv 5) (pa_cons (pe_op op_mul (pv 3) (pv 4)) pa_nil st_bin) st_name)))) pss_nil)
    (pss_cons (ps_set (i := 8) sc_law.nd rfl (Or.inl rfl) (pe_fn C__law_fault hr rfl (pa_cons (pv 7) (pa_cons (pe_op op_mul (pv 3) (pv 4)) pa_nil st_bin) st_name)))
    (pss_cons (ps_set (i := 9) sc_law.nd rfl (Or.inl rfl) (pe_callTy (call_listK K) rfl T.m_list boot_list (pa_cons (pv 7) pa_nil st_name)))
    (pss_cons (ps_set (i := 10) sc_law.nd rfl (Or.inl rfl) pe_non)
    (pss_cons (ps_set (i := 11) sc_law.nd rfl (Or.inl rfl) pe_non)
    (pss_cons (ps_tryF (c := .ref C_HallError) (i := 12) rfl Z.mg_HallError sc_law.nd rfl rfl rfl rfl rfl (fun pn E =>
    (pss_one (ps_set (i := 10) sc_law.nd rfl (Or.inl rfl) (pe_fnF 0 C_book_of pass_tryF hr rfl (pa_cons (pv 6) (pa_cons (pv 9) pa_nil st_name) st_name))))) (fun ea =>
    (pss_one (ps_set (i := 11) sc_law.nd rfl (Or.inl rfl) (pv 12)))))
    (pss_cons (ps_if (pt_cmpR (op_neSamK K (Room.units0 hr)) (pv 9) (pv 7) (nomark _)) (pss_one (ps_ret pe_bl)) pss_nil)
    (pss_cons (ps_if (pt_cmpR op_notN (pv 8) pe_non (nomark _)) (pss_one (ps_ret (pe_and (pe_cmpR op_notN (pv 11) pe_non (nomark _)) (pe_one (pe_fn C__law_refused hr rfl (pa_cons (pv 11) (pa_cons (pv 8) pa_nil st_name) st_name)))))) pss_nil)
    (pss_cons (ps_if (PW.pt (pw_or (pt_cmpR op_notN (pv 11) pe_non (nomark _)) (pw_or (pt_not (pt_truK K (pe_callB (call_isinstK K) rfl T.m_isinstance boot_isinstance (pa_cons (pv 10) (pa_cons (pe_bltn (v := .ty "list") rfl T.m_list boot_list rfl) pa_nil st_name) st_name)) (fun _ => rfl))) (pw_or1 (pt_cmpR (op_neSamK K (Room.units0 hr)) (pv 10) (pv 7) (nomark _)))))) (pss_one (ps_ret pe_bl)) pss_nil)
    (pss_cons (ps_expr (pe_bmK K PySem.F.plainAttrs_list PySem.F.slot_list_append PySem.F.type_list_append mt_appendR (pv 10) (pa_cons pe_non pa_nil st_const)))
    (pss_one (ps_ret (pe_cmpR (op_eqSamK K (Room.units0 hr)) (pv 9) (pv 7) (nomark _)))))))))))))))))))))), ?_⟩
  refine ⟨_, rfl, a, ns, 0, rfl, by decide, hS, _, _, rfl, rfl, (by show (0 : Int) < 2; decide), rfl, ?_⟩
  refine ⟨_, rfl, a, ns, 0, rfl, by decide, hS, _, 0, rfl, by decide, by decide, fun sd => ?_⟩
  refine ⟨_, rfl, _, _, rfl, rfl, (by show (0 : Int) < 12; decide), _, _, rfl, rfl, ?_⟩
  refine ⟨_, rfl, _, _, rfl, rfl, ⟨by decide, by decide⟩, _, _, rfl, rfl, (by show (0 : Int) < 12; decide), _, _, rfl, rfl, ?_⟩
  refine ⟨_, rfl, _, rfl, _, rfl, a, _, rfl, hS, fun cl0 hcl0 => ?_⟩
  have s1 := same_new hcl0 (.lst (cutV (ns.map V.int) (some 1) (some 47)))
  have e1 := upd_same (H := H) (a := cl0) (o := .lst (cutV (ns.map V.int) (some 1) (some 47)))
  generalize upd H cl0 (.lst (cutV (ns.map V.int) (some 1) (some 47))) = H1 at s1 e1 ⊢
  have l46 : (cutV (ns.map V.int) (some 1) (some 47)).length ≤ 46 := by
    unfold cutV
    rw [List.length_take, show HT.sIx (ns.map V.int).length 0 (some 1) = min 1 (ns.map V.int).length from HT.sIx_nat _ 0 1, show HT.sIx (ns.map V.int).length (ns.map V.int).length (some 47) = min 47 (ns.map V.int).length from HT.sIx_nat _ _ 47, List.length_drop]
    omega
  obtain ⟨cs0, ecs0⟩ := cutV_ints ns (some 1) (some 47)
  rw [ecs0] at e1 l46
  rw [List.length_map] at l46
  dsimp only [gName]
  generalize decide (V.int (cell ns (0 : Int).toNat % 2) = V.int 0) = bd
  refine seq_cut (fun σ' G => Same H G ∧ ∃ (o e : Int) (cl : Addr) (cs : List Int), 1 ≤ o ∧ o ≤ 12 ∧ 1 ≤ e ∧ e ≤ 12 ∧ G cl = some (.lst (cs.map V.int)) ∧ cs.length ≤ 46 ∧
    σ' = [some (.ref a), some (.bl bd), some (.int sd), some (.int o), some (.int e), some (.ref cl), none, none, none, none, none, none, none]) (fun R rest => ?_) ?_
  · refine ⟨_, rfl, _, _, rfl, rfl, ⟨by decide, by decide⟩, _, _, rfl, rfl, (by show (0 : Int) < 6; decide), rfl, _, rfl, ?_⟩
    refine ite2 (fun _ => ?_) (fun _ => rest _ _ ⟨s1, _, _, cl0, cs0, by omega, by omega, by omega, by omega, e1, l46, rfl⟩)
    refine ⟨_, rfl, _, _, rfl, rfl, ⟨by decide, by decide⟩, _, _, rfl, rfl, (by show (0 : Int) < 8; decide), _, _, rfl, rfl, _, rfl, by omega, by omega, ?_⟩
    refine comp_range (lo := 0) (n := (37 + sd / 864 % 8).toNat) (fun k acc σ G' => G' = H1 ∧ (∃ ms : List Int, acc = ms.map V.int ∧ ms.length = k) ∧ ∃ v, σ = [v, some (.ref a)])
      ⟨rfl, ⟨[], rfl, rfl⟩, none, rfl⟩ (Nat.le_of_lt (small1000 (by omega))) (fun k acc σ G gg => ?_) ?_ ?_
    · obtain ⟨_, ⟨ms, rfl, lm⟩, _⟩ := gg
      rw [List.length_map]
      exact Nat.le_of_eq lm
    · rintro k acc σ G' hk ⟨rfl, ⟨ms, rfl, lm⟩, v, rfl⟩
      refine ⟨_, rfl, _, rfl, _, _, rfl, rfl, (by show (0 : Int) < 9; decide), _, _, rfl, rfl, a, ns, _, rfl, by omega, s1.seq hS, _, rfl, _, _, rfl, rfl, rfl, ⟨ms ++ [_], by rw [List.map_append]; rfl, by rw [List.length_append]; show _ + 1 = _; omega⟩, _, rfl⟩
    rintro acc σ G' ⟨rfl, ⟨ms, rfl, lm⟩, v, rfl⟩ cl hcl
    exact rest _ _ ⟨s1.trans (same_new hcl _), 12, 12, cl, ms, by decide, by decide, by decide, by decide, upd_same, by omega, rfl⟩
  clear l46 e1 ecs0 cs0 s1 hcl0
  rintro σ H2 ⟨s2, o, e, cl, cs, o1, o2, en1, en2, ecl, lcs, rfl⟩
  have oe := mul_in ⟨o1, o2⟩ ⟨en1, en2⟩
  refine ⟨_, rfl, _, _, rfl, rfl, ⟨by decide, by decide⟩, _, _, rfl, rfl, (by show (0 : Int) < 4; decide), _, _, rfl, rfl, _, rfl, _, _, rfl, rfl, ⟨by decide, by decide⟩, _, _, rfl, rfl, (by show (0 : Int) < 4; decide), _, _, rfl, rfl, _, rfl, _, _, rfl, rfl, ⟨by decide, by decide⟩, _, _, rfl, rfl, (by show (0 : Int) < 9; decide), _, _, rfl, rfl, _, rfl, _, rfl, (by show 5 ≤ sizeLine; decide), fun hl hhl => ?_⟩
  have hall : ∃ h : Hall, h.Ok ∧ h.o * h.e = o * e ∧ upd H2 hl (.tup [.int (1 + sd / 3 % 4), .int (1 + sd / 5 % 4), .int (1 + sd / 11 % 9), .int o, .int e]) hl = some (.tup (h.row.map V.int)) :=
    ⟨⟨1 + sd / 3 % 4, 1 + sd / 5 % 4, 1 + sd / 11 % 9, o, e⟩, ⟨⟨by show 1 ≤ 1 + sd / 3 % 4; omega, by show 1 + sd / 3 % 4 ≤ 12; omega⟩, ⟨by show 1 ≤ 1 + sd / 5 % 4; omega, by show 1 + sd / 5 % 4 ≤ 12; omega⟩, ⟨by show 1 ≤ 1 + sd / 11 % 9; omega, by show 1 + sd / 11 % 9 ≤ 24; omega⟩, ⟨o1, o2⟩, ⟨en1, en2⟩⟩, rfl, upd_same⟩
  obtain ⟨h, ok, hoe, eh⟩ := hall
  have t3 := same_new hhl (.tup [.int (1 + sd / 3 % 4), .int (1 + sd / 5 % 4), .int (1 + sd / 11 % 9), .int o, .int e])
  generalize upd H2 hl (.tup [.int (1 + sd / 3 % 4), .int (1 + sd / 5 % 4), .int (1 + sd / 11 % 9), .int o, .int e]) = H3 at t3 eh ⊢
  have s3 := s2.trans t3
  refine ⟨_, rfl, _, rfl, _, _, rfl, rfl, ⟨by decide, by decide⟩, _, rfl, _, rfl, _, _, rfl, rfl, .inl ⟨by omega, by omega⟩, cl, cs, _, _, rfl, SqL.of (t3 _ _ ecl), lcs, fun r0 xs0 H4 t4 er0 hA0 lx0 => ?_⟩
  dsimp only [gName]
  refine seq_cut (fun σ' G => Same H3 G ∧ ∃ (r : Addr) (xs : List V), G r = some (.lst xs) ∧ AllOk K G 90 xs ∧ xs.length ≤ 46 ∧
    σ' = [some (.ref a), some (.bl bd), some (.int sd), some (.int o), some (.int e), some (.ref cl), some (.ref hl), some (.ref r), none, none, none, none, none]) (fun R rest => ?_) ?_
  · refine ⟨_, rfl, _, rfl, ?_⟩
    cases bd with
    | false => exact iteF (rest _ _ ⟨t4, r0, xs0, er0, hA0, lx0, rfl⟩)
    | true =>
      refine iteT ⟨_, rfl, _, rfl, _, rfl, _, _, rfl, rfl, .inl ⟨by omega, by omega⟩, cl, cs, _, rfl, by omega, by omega, SqL.of (t4 _ _ (t3 _ _ ecl)), lcs, fun r xs G t5 er hA lx => ?_⟩
      exact rest _ _ ⟨t4.trans t5, r, xs, er, hA, lx, rfl⟩
  clear hA0 er0 lx0 t4
  rintro σ H5 ⟨t5, r, xs, er, hA, lx, rfl⟩
  obtain ⟨os, hR, hsm⟩ := hA.rows
  refine ⟨_, rfl, _, rfl, _, rfl, _, _, rfl, rfl, .inl ⟨by omega, by omega⟩, r, _, xs, os, rfl, er, hR, by omega, fun pl H6 hfl t6 => ?_⟩
  rw [← hoe] at hfl
  have er6 := t6 _ _ er
  have hR6 := hR.same t6
  have eh6 := t6 _ _ (t5 _ _ eh)
  refine ⟨_, rfl, r, _, rfl, .inl (SqL.of er6), fun hd hhd => ?_⟩
  have t7 := same_new hhd (.lst xs)
  have ehd := upd_same (H := H6) (a := hd) (o := .lst xs)
  generalize upd H6 hd (.lst xs) = H7 at t7 ehd ⊢
  have er7 := t7 _ _ er6
  have hR7 := hR6.same t7
  have eh7 := t7 _ _ eh6
  cases hpl : pl with
  | some i =>
    rw [hpl] at hfl
    refine ⟨fun σ' c0 d H' => σ' = [some (.ref a), some (.bl bd), some (.int sd), some (.int o), some (.int e), some (.ref cl), some (.ref hl), some (.ref r), some (.int (i : Nat)), some (.ref hd), some .non, some .non, none] ∧ c0 = .ref C_NoBook ∧ ∃ dx, d = some dx ∧ Same H7 H' ∧ H' dx = some (XdO dx (rowF i)), ?_, ?_⟩
    · refine ⟨_, rfl, _, rfl, hl, hd, h, xs, os, rfl, SqT.of eh7, ok, SqL.of ehd, hR7, by omega, (fun z => nomatch (hfl.one z)), fun j dx H' z s' ed => ?_⟩
      cases hfl.one z
      exact ⟨rfl, rfl, dx, rfl, s', ed⟩
    rintro σ' c0 d H8 ⟨rfl, rfl, dx, rfl, t8, ed⟩
    refine ⟨rfl, Z.kh_NoBook, fun ea C hc hea => ?_⟩
    cases hc
    have t9 := same_new hea (ExcD ea C_NoBook (some dx))
    have eea := upd_same (H := H8) (a := ea) (o := ExcD ea C_NoBook (some dx))
    generalize upd H8 ea (ExcD ea C_NoBook (some dx)) = H9 at t9 eea ⊢
    have t79 := t8.trans t9
    refine ⟨_, rfl, ?_⟩
    refine ⟨_, rfl, _, rfl, hd, r, xs, rfl, rfl, SqL.of (t79 _ _ ehd), SqL.of (t79 _ _ er7), hsm, _, rfl, iteF ?_⟩
    refine ⟨_, rfl, rfl, _, rfl, iteT ?_⟩
    exact ⟨_, rfl, rfl, _, rfl, iteT ⟨_, rfl, _, rfl, ea, dx, i, rfl, eea, t9 _ _ ed, q _⟩⟩
  | none =>
    rw [hpl] at hfl
    refine ⟨fun _ _ _ _ => False, ?_, fun _ _ _ _ z => z.elim⟩
    refine ⟨_, rfl, _, rfl, hl, hd, h, xs, os, rfl, SqT.of eh7, ok, SqL.of ehd, hR7, by omega, (fun _ fo H8 t8 hfo efo => ?_), (fun j dx H' z s' ed => nomatch (hfl.one z))⟩
    refine ⟨_, rfl, _, rfl, hd, r, xs, rfl, rfl, SqL.of (t8 _ _ ehd), SqL.of (t8 _ _ er7), hsm, _, rfl, iteF ?_⟩
    refine ⟨_, rfl, rfl, _, rfl, iteF ?_⟩
    refine ⟨_, rfl, rfl, _, rfl, iteF ?_⟩
    refine ⟨_, rfl, _, _, _, true, rfl, .lst efo, kit_lst_lst, _, rfl, iteF ?_⟩
    refine ⟨_, rfl, _, rfl, fo, r, xs, rfl, rfl, SqL.of efo, SqL.of (t8 _ _ er7), hsm, _, rfl, iteF ?_⟩
    refine ⟨_, rfl, .inl ⟨rfl, _, SqL.of efo⟩, fo, _, _, rfl, rfl, efo, small1000 (by omega), ?_⟩
    have nf : ∀ {c : Addr} {u : HO}, H7 c = some u → c ≠ fo := fun {c u} z => ne_of_none z hfo
    refine ⟨_, rfl, _, rfl, hd, r, xs, rfl, rfl, SqL.of ?_, SqL.of ?_, hsm, q _⟩
    · rw [upd_ne (nf ehd)]
      exact t8 _ _ ehd
    · rw [upd_ne (nf er7)]
      exact t8 _ _ er7
end
section
variable {l : PySem.W.OpenLaw} {w : World} {K : PySem.W.Frag} {h : Heap} {mg : Str → Option Value}
theorem def_mk {x : Str} {st : Stmt} {ps : List Str} {f : Addr} {oc : Value} {od an : Option Addr} {sl : Array (Option Value)} {kV dc pm cd ct : Value} (X : K.In h) (G : h.Ns mainGlobals mg) (a : PySem.W.nsIn K mainGlobals x = some (some (.ref f)))
    (l : K.lookup f = some ⟨oc, od, .func (PySem.W.fnOf x x (defArgs st) (defBody st) (defScope st) .none kV dc pm an cd ct), sl⟩) (c : PySem.W.codeIn K cd x = true) (k : PySem.W.keepIn K (.ref f) = true)
    (b : ∀ us : List Value, us.length = ps.length → bindArgs (PySem.W.fnOf x x (defArgs st) (defBody st) (defScope st) .none kV dc pm an cd ct) ⟨us, []⟩ = pure (ps.zip us)) : Def K mg x st ps :=
  ⟨f, _, fun_mk l c k, .all b, PySem.W.mg_of X G a⟩
theorem all_mk {fa f1 f2 f3 f4 f5 f6 f7 f8 f9 f10 f11 f12 f13 f14 f15 f16 f17 f18 f19 f20 f21 f22 f23 f24  C_HallError C_NoLine C_NoBook C_NoFigure C_NoTurn C_NoKind C_NoRank C_Out C_NoDeed fm_NoBook___init__ : Addr} (X : K.In h) (G : h.Ns mainGlobals mg) (hfa : mg "law" = some (.ref fa))
    {od1 an1 od2 an2 od3 an3 od4 an4 od5 an5 od6 an6 od7 an7 od8 an8 od9 an9 od10 an10 od11 an11 od12 an12 od13 an13 od14 an14 od15 an15 od16 an16 od17 an17 od18 an18 od19 an19 od20 an20 od21 an21 od22 an22 od23 an23 od24 an24 : Option Addr} {sl1 sl2 sl3 sl4 sl5 sl6 sl7 sl8 sl9 sl10 sl11 sl12 sl13 sl14 sl15 sl16 sl17 sl18 sl19 sl20 sl21 sl22 sl23 sl24 : Array (Option Value)} {oc1 kV1 dc1 pm1 cd1 ct1 oc2 kV2 dc2 pm2 cd2 ct2 oc3 kV3 dc3 pm3 cd3 ct3 oc4 kV4 dc4 pm4 cd4 ct4 oc5 kV5 dc5 pm5 cd5 ct5 oc6 kV6 dc6 pm6 cd6 ct6 oc7 kV7 dc7 pm7 cd7 ct7 oc8 kV8 dc8 pm8 cd8 ct8 oc9 kV9 dc9 pm9 cd9 ct9 oc10 kV10 dc10 pm10 cd10 ct10 oc11 kV11 dc11 pm11 cd11 ct11 oc12 kV12 dc12 pm12 cd12 ct12 oc13 kV13 dc13 pm13 cd13 ct13 oc14 kV14 dc14 pm14 cd14 ct14 oc15 kV15 dc15 pm15 cd15 ct15 oc16 kV16 dc16 pm16 cd16 ct16 oc17 kV17 dc17 pm17 cd17 ct17 oc18 kV18 dc18 pm18 cd18 ct18 oc19 kV19 dc19 pm19 cd19 ct19 oc20 kV20 dc20 pm20 cd20 ct20 oc21 kV21 dc21 pm21 cd21 ct21 oc22 kV22 dc22 pm22 cd22 ct22 oc23 kV23 dc23 pm23 cd23 ct23 oc24 kV24 dc24 pm24 cd24 ct24 : Value}
    {ts_FIGURES : Tok}
    {ts_MOST_ROWS : Tok}
    {ts_MOST_FIGURES : Tok}
    {ts_MOST_ENDS : Tok}
    (a1 : PySem.W.nsIn K mainGlobals "is_number" = some (some (.ref f1))) (l1 : K.lookup f1 = some ⟨oc1, od1, .func (PySem.W.fnOf "is_number" "is_number" (defArgs (top 12)) (defBody (top 12)) (defScope (top 12)) .none kV1 dc1 pm1 an1 cd1 ct1), sl1⟩) (c1 : PySem.W.codeIn K cd1 "is_number" = true) (k1 : PySem.W.keepIn K (.ref f1) = true)
    (a2 : PySem.W.nsIn K mainGlobals "is_whole" = some (some (.ref f2))) (l2 : K.lookup f2 = some ⟨oc2, od2, .func (PySem.W.fnOf "is_whole" "is_whole" (defArgs (top 13)) (defBody (top 13)) (defScope (top 13)) .none kV2 dc2 pm2 an2 cd2 ct2), sl2⟩) (c2 : PySem.W.codeIn K cd2 "is_whole" = true) (k2 : PySem.W.keepIn K (.ref f2) = true)
    (a3 : PySem.W.nsIn K mainGlobals "are_ends" = some (some (.ref f3))) (l3 : K.lookup f3 = some ⟨oc3, od3, .func (PySem.W.fnOf "are_ends" "are_ends" (defArgs (top 14)) (defBody (top 14)) (defScope (top 14)) .none kV3 dc3 pm3 an3 cd3 ct3), sl3⟩) (c3 : PySem.W.codeIn K cd3 "are_ends" = true) (k3 : PySem.W.keepIn K (.ref f3) = true)
    (a4 : PySem.W.nsIn K mainGlobals "are_unlike" = some (some (.ref f4))) (l4 : K.lookup f4 = some ⟨oc4, od4, .func (PySem.W.fnOf "are_unlike" "are_unlike" (defArgs (top 16)) (defBody (top 16)) (defScope (top 16)) .none kV4 dc4 pm4 an4 cd4 ct4), sl4⟩) (c4 : PySem.W.codeIn K cd4 "are_unlike" = true) (k4 : PySem.W.keepIn K (.ref f4) = true)
    (a5 : PySem.W.nsIn K mainGlobals "is_ends" = some (some (.ref f5))) (l5 : K.lookup f5 = some ⟨oc5, od5, .func (PySem.W.fnOf "is_ends" "is_ends" (defArgs (top 18)) (defBody (top 18)) (defScope (top 18)) .none kV5 dc5 pm5 an5 cd5 ct5), sl5⟩) (c5 : PySem.W.codeIn K cd5 "is_ends" = true) (k5 : PySem.W.keepIn K (.ref f5) = true)
    (a6 : PySem.W.nsIn K mainGlobals "is_figure" = some (some (.ref f6))) (l6 : K.lookup f6 = some ⟨oc6, od6, .func (PySem.W.fnOf "is_figure" "is_figure" (defArgs (top 23)) (defBody (top 23)) (defScope (top 23)) .none kV6 dc6 pm6 an6 cd6 ct6), sl6⟩) (c6 : PySem.W.codeIn K cd6 "is_figure" = true) (k6 : PySem.W.keepIn K (.ref f6) = true)
    (a7 : PySem.W.nsIn K mainGlobals "is_dialled" = some (some (.ref f7))) (l7 : K.lookup f7 = some ⟨oc7, od7, .func (PySem.W.fnOf "is_dialled" "is_dialled" (defArgs (top 24)) (defBody (top 24)) (defScope (top 24)) .none kV7 dc7 pm7 an7 cd7 ct7), sl7⟩) (c7 : PySem.W.codeIn K cd7 "is_dialled" = true) (k7 : PySem.W.keepIn K (.ref f7) = true)
    (a8 : PySem.W.nsIn K mainGlobals "is_group" = some (some (.ref f8))) (l8 : K.lookup f8 = some ⟨oc8, od8, .func (PySem.W.fnOf "is_group" "is_group" (defArgs (top 25)) (defBody (top 25)) (defScope (top 25)) .none kV8 dc8 pm8 an8 cd8 ct8), sl8⟩) (c8 : PySem.W.codeIn K cd8 "is_group" = true) (k8 : PySem.W.keepIn K (.ref f8) = true)
    (a9 : PySem.W.nsIn K mainGlobals "is_row" = some (some (.ref f9))) (l9 : K.lookup f9 = some ⟨oc9, od9, .func (PySem.W.fnOf "is_row" "is_row" (defArgs (top 26)) (defBody (top 26)) (defScope (top 26)) .none kV9 dc9 pm9 an9 cd9 ct9), sl9⟩) (c9 : PySem.W.codeIn K cd9 "is_row" = true) (k9 : PySem.W.keepIn K (.ref f9) = true)
    (a10 : PySem.W.nsIn K mainGlobals "clash" = some (some (.ref f10))) (l10 : K.lookup f10 = some ⟨oc10, od10, .func (PySem.W.fnOf "clash" "clash" (defArgs (top 27)) (defBody (top 27)) (defScope (top 27)) .none kV10 dc10 pm10 an10 cd10 ct10), sl10⟩) (c10 : PySem.W.codeIn K cd10 "clash" = true) (k10 : PySem.W.keepIn K (.ref f10) = true)
    (a11 : PySem.W.nsIn K mainGlobals "book_of" = some (some (.ref f11))) (l11 : K.lookup f11 = some ⟨oc11, od11, .func (PySem.W.fnOf "book_of" "book_of" (defArgs (top 28)) (defBody (top 28)) (defScope (top 28)) .none kV11 dc11 pm11 an11 cd11 ct11), sl11⟩) (c11 : PySem.W.codeIn K cd11 "book_of" = true) (k11 : PySem.W.keepIn K (.ref f11) = true)
    (a12 : PySem.W.nsIn K mainGlobals "_law_cell_at" = some (some (.ref f12))) (l12 : K.lookup f12 = some ⟨oc12, od12, .func (PySem.W.fnOf "_law_cell_at" "_law_cell_at" (defArgs (top 30)) (defBody (top 30)) (defScope (top 30)) .none kV12 dc12 pm12 an12 cd12 ct12), sl12⟩) (c12 : PySem.W.codeIn K cd12 "_law_cell_at" = true) (k12 : PySem.W.keepIn K (.ref f12) = true)
    (a13 : PySem.W.nsIn K mainGlobals "_law_whole" = some (some (.ref f13))) (l13 : K.lookup f13 = some ⟨oc13, od13, .func (PySem.W.fnOf "_law_whole" "_law_whole" (defArgs (top 31)) (defBody (top 31)) (defScope (top 31)) .none kV13 dc13 pm13 an13 cd13 ct13), sl13⟩) (c13 : PySem.W.codeIn K cd13 "_law_whole" = true) (k13 : PySem.W.keepIn K (.ref f13) = true)
    (a14 : PySem.W.nsIn K mainGlobals "_law_mixed" = some (some (.ref f14))) (l14 : K.lookup f14 = some ⟨oc14, od14, .func (PySem.W.fnOf "_law_mixed" "_law_mixed" (defArgs (top 32)) (defBody (top 32)) (defScope (top 32)) .none kV14 dc14 pm14 an14 cd14 ct14), sl14⟩) (c14 : PySem.W.codeIn K cd14 "_law_mixed" = true) (k14 : PySem.W.keepIn K (.ref f14) = true)
    (a15 : PySem.W.nsIn K mainGlobals "_law_odd" = some (some (.ref f15))) (l15 : K.lookup f15 = some ⟨oc15, od15, .func (PySem.W.fnOf "_law_odd" "_law_odd" (defArgs (top 33)) (defBody (top 33)) (defScope (top 33)) .none kV15 dc15 pm15 an15 cd15 ct15), sl15⟩) (c15 : PySem.W.codeIn K cd15 "_law_odd" = true) (k15 : PySem.W.keepIn K (.ref f15) = true)
    (a16 : PySem.W.nsIn K mainGlobals "_law_spoiled" = some (some (.ref f16))) (l16 : K.lookup f16 = some ⟨oc16, od16, .func (PySem.W.fnOf "_law_spoiled" "_law_spoiled" (defArgs (top 34)) (defBody (top 34)) (defScope (top 34)) .none kV16 dc16 pm16 an16 cd16 ct16), sl16⟩) (c16 : PySem.W.codeIn K cd16 "_law_spoiled" = true) (k16 : PySem.W.keepIn K (.ref f16) = true)
    (a17 : PySem.W.nsIn K mainGlobals "_law_rows" = some (some (.ref f17))) (l17 : K.lookup f17 = some ⟨oc17, od17, .func (PySem.W.fnOf "_law_rows" "_law_rows" (defArgs (top 35)) (defBody (top 35)) (defScope (top 35)) .none kV17 dc17 pm17 an17 cd17 ct17), sl17⟩) (c17 : PySem.W.codeIn K cd17 "_law_rows" = true) (k17 : PySem.W.keepIn K (.ref f17) = true)
    (a18 : PySem.W.nsIn K mainGlobals "_law_good" = some (some (.ref f18))) (l18 : K.lookup f18 = some ⟨oc18, od18, .func (PySem.W.fnOf "_law_good" "_law_good" (defArgs (top 36)) (defBody (top 36)) (defScope (top 36)) .none kV18 dc18 pm18 an18 cd18 ct18), sl18⟩) (c18 : PySem.W.codeIn K cd18 "_law_good" = true) (k18 : PySem.W.keepIn K (.ref f18) = true)
    (a19 : PySem.W.nsIn K mainGlobals "_law_apart" = some (some (.ref f19))) (l19 : K.lookup f19 = some ⟨oc19, od19, .func (PySem.W.fnOf "_law_apart" "_law_apart" (defArgs (top 37)) (defBody (top 37)) (defScope (top 37)) .none kV19 dc19 pm19 an19 cd19 ct19), sl19⟩) (c19 : PySem.W.codeIn K cd19 "_law_apart" = true) (k19 : PySem.W.keepIn K (.ref f19) = true)
    (a20 : PySem.W.nsIn K mainGlobals "_law_fault" = some (some (.ref f20))) (l20 : K.lookup f20 = some ⟨oc20, od20, .func (PySem.W.fnOf "_law_fault" "_law_fault" (defArgs (top 38)) (defBody (top 38)) (defScope (top 38)) .none kV20 dc20 pm20 an20 cd20 ct20), sl20⟩) (c20 : PySem.W.codeIn K cd20 "_law_fault" = true) (k20 : PySem.W.keepIn K (.ref f20) = true)
    (a21 : PySem.W.nsIn K mainGlobals "_law_refused" = some (some (.ref f21))) (l21 : K.lookup f21 = some ⟨oc21, od21, .func (PySem.W.fnOf "_law_refused" "_law_refused" (defArgs (top 39)) (defBody (top 39)) (defScope (top 39)) .none kV21 dc21 pm21 an21 cd21 ct21), sl21⟩) (c21 : PySem.W.codeIn K cd21 "_law_refused" = true) (k21 : PySem.W.keepIn K (.ref f21) = true)
    (a22 : PySem.W.nsIn K mainGlobals "_law_figures_by" = some (some (.ref f22))) (l22 : K.lookup f22 = some ⟨oc22, od22, .func (PySem.W.fnOf "_law_figures_by" "_law_figures_by" (defArgs (top 40)) (defBody (top 40)) (defScope (top 40)) .none kV22 dc22 pm22 an22 cd22 ct22), sl22⟩) (c22 : PySem.W.codeIn K cd22 "_law_figures_by" = true) (k22 : PySem.W.keepIn K (.ref f22) = true)
    (a23 : PySem.W.nsIn K mainGlobals "_law_rows_by" = some (some (.ref f23))) (l23 : K.lookup f23 = some ⟨oc23, od23, .func (PySem.W.fnOf "_law_rows_by" "_law_rows_by" (defArgs (top 41)) (defBody (top 41)) (defScope (top 41)) .none kV23 dc23 pm23 an23 cd23 ct23), sl23⟩) (c23 : PySem.W.codeIn K cd23 "_law_rows_by" = true) (k23 : PySem.W.keepIn K (.ref f23) = true)
    (a24 : PySem.W.nsIn K mainGlobals "law" = some (some (.ref f24))) (l24 : K.lookup f24 = some ⟨oc24, od24, .func (PySem.W.fnOf "law" "law" (defArgs (top 42)) (defBody (top 42)) (defScope (top 42)) .none kV24 dc24 pm24 an24 cd24 ct24), sl24⟩) (c24 : PySem.W.codeIn K cd24 "law" = true) (k24 : PySem.W.keepIn K (.ref f24) = true)
    (sa_FIGURES : PySem.W.nsIn K mainGlobals "FIGURES" = some (some (.str "0123456789" ts_FIGURES)))
    (sa_MOST_ROWS : PySem.W.nsIn K mainGlobals "MOST_ROWS" = some (some (.int 40 ts_MOST_ROWS)))
    (sa_MOST_FIGURES : PySem.W.nsIn K mainGlobals "MOST_FIGURES" = some (some (.int 8 ts_MOST_FIGURES)))
    (sa_MOST_ENDS : PySem.W.nsIn K mainGlobals "MOST_ENDS" = some (some (.int 8 ts_MOST_ENDS)))
    (q_HallError_at : PySem.W.nsIn K mainGlobals "HallError" = some (some (.ref C_HallError)))
    (q_NoLine_at : PySem.W.nsIn K mainGlobals "NoLine" = some (some (.ref C_NoLine)))
    (q_NoBook_at : PySem.W.nsIn K mainGlobals "NoBook" = some (some (.ref C_NoBook)))
    (q_NoFigure_at : PySem.W.nsIn K mainGlobals "NoFigure" = some (some (.ref C_NoFigure)))
    (q_NoTurn_at : PySem.W.nsIn K mainGlobals "NoTurn" = some (some (.ref C_NoTurn)))
    (q_NoKind_at : PySem.W.nsIn K mainGlobals "NoKind" = some (some (.ref C_NoKind)))
    (q_NoRank_at : PySem.W.nsIn K mainGlobals "NoRank" = some (some (.ref C_NoRank)))
    (q_Out_at : PySem.W.nsIn K mainGlobals "Out" = some (some (.ref C_Out)))
    (q_NoDeed_at : PySem.W.nsIn K mainGlobals "NoDeed" = some (some (.ref C_NoDeed)))
    (q_HallError_ic : PySem.W.isClsIn K C_HallError = true) (q_HallError_ty : PySem.W.typeIn K (.ref C_HallError) = some (.type "type"))
    (q_NoLine_ic : PySem.W.isClsIn K C_NoLine = true) (q_NoLine_ty : PySem.W.typeIn K (.ref C_NoLine) = some (.type "type"))
    (q_NoBook_ic : PySem.W.isClsIn K C_NoBook = true) (q_NoBook_ty : PySem.W.typeIn K (.ref C_NoBook) = some (.type "type"))
    (q_NoFigure_ic : PySem.W.isClsIn K C_NoFigure = true) (q_NoFigure_ty : PySem.W.typeIn K (.ref C_NoFigure) = some (.type "type"))
    (q_NoTurn_ic : PySem.W.isClsIn K C_NoTurn = true) (q_NoTurn_ty : PySem.W.typeIn K (.ref C_NoTurn) = some (.type "type"))
    (q_NoKind_ic : PySem.W.isClsIn K C_NoKind = true) (q_NoKind_ty : PySem.W.typeIn K (.ref C_NoKind) = some (.type "type"))
    (q_NoRank_ic : PySem.W.isClsIn K C_NoRank = true) (q_NoRank_ty : PySem.W.typeIn K (.ref C_NoRank) = some (.type "type"))
    (q_Out_ic : PySem.W.isClsIn K C_Out = true) (q_Out_ty : PySem.W.typeIn K (.ref C_Out) = some (.type "type"))
    (q_NoDeed_ic : PySem.W.isClsIn K C_NoDeed = true) (q_NoDeed_ty : PySem.W.typeIn K (.ref C_NoDeed) = some (.type "type"))
    (q_hb : PySem.W.subIn K (.ref C_HallError) (.type "BaseException") = some true) (q_gt : PySem.W.specialIn K (.builtin "object.__class__") "__get__" = some (some (.builtin "getset_descriptor.__get__"))) (q_tk : PySem.W.takesIn K (.builtin "object.__class__") = some true)
    (q_NoBook_sa : PySem.W.findIn K (.ref C_NoBook) "__setattr__" = some (some (.builtin "object.__setattr__")))
    (q_NoBook_f_row : PySem.W.findIn K (.ref C_NoBook) "row" = some none)
    (q_NoBook_ga : PySem.W.findIn K (.ref C_NoBook) "__getattribute__" = some (some (.builtin "BaseException.__getattribute__"))) (q_NoBook_gn : PySem.W.findIn K (.ref C_NoBook) "__getattr__" = some none) (q_NoBook_cl : PySem.W.findIn K (.ref C_NoBook) "__class__" = some (some (.builtin "object.__class__"))) (q_NoBook_mo : PySem.W.mroIn K C_NoBook (.type "object") = some true) (q_NoBook_mb : PySem.W.mroIn K C_NoBook (.type "BaseException") = some true) (q_NoBook_sv : PySem.W.subIn K (.ref C_NoBook) (.type "ValueError") = some true)
    (q_NoBook_s_HallError : PySem.W.subIn K (.ref C_NoBook) (.ref C_HallError) = some true)
    (q_NoBook_s_NoLine : PySem.W.subIn K (.ref C_NoBook) (.ref C_NoLine) = some false)
    (q_NoBook_s_NoBook : PySem.W.subIn K (.ref C_NoBook) (.ref C_NoBook) = some true)
    (q_NoBook_s_NoFigure : PySem.W.subIn K (.ref C_NoBook) (.ref C_NoFigure) = some false)
    (q_NoBook_s_NoTurn : PySem.W.subIn K (.ref C_NoBook) (.ref C_NoTurn) = some false)
    (q_NoBook_s_NoKind : PySem.W.subIn K (.ref C_NoBook) (.ref C_NoKind) = some false)
    (q_NoBook_s_NoRank : PySem.W.subIn K (.ref C_NoBook) (.ref C_NoRank) = some false)
    (q_NoBook_s_Out : PySem.W.subIn K (.ref C_NoBook) (.ref C_Out) = some false)
    (q_NoBook_s_NoDeed : PySem.W.subIn K (.ref C_NoBook) (.ref C_NoDeed) = some false)
    {odm_NoBook___init__ anm_NoBook___init__ : Option Addr} {slm_NoBook___init__ : Array (Option Value)} {ocm_NoBook___init__ kvm_NoBook___init__ dcm_NoBook___init__ pmm_NoBook___init__ ctm_NoBook___init__ cdm_NoBook___init__ : Value}
    (q_NoBook___init___a : PySem.W.findIn K (.ref C_NoBook) "__init__" = some (some (.ref fm_NoBook___init__))) (q_NoBook___init___i : PySem.W.isFn K (.ref fm_NoBook___init__) = true) (q_NoBook___init___l : K.lookup fm_NoBook___init__ = some ⟨ocm_NoBook___init__, odm_NoBook___init__, .func (PySem.W.fnOf "__init__" "NoBook.__init__" (defArgs (inClass (top 3) 0)) (defBody (inClass (top 3) 0)) (defScope (inClass (top 3) 0)) .none kvm_NoBook___init__ dcm_NoBook___init__ pmm_NoBook___init__ anm_NoBook___init__ cdm_NoBook___init__ ctm_NoBook___init__), slm_NoBook___init__⟩) (q_NoBook___init___c : PySem.W.codeIn K cdm_NoBook___init__ "NoBook.__init__" = true) (q_NoBook___init___k : PySem.W.keepIn K (.ref fm_NoBook___init__) = true)
    (q_NoBook_xi : excInI K C_NoBook fm_NoBook___init__ = true)
    (z_len : PySem.W.nsIn K mainGlobals "len" = some none) (z_isinstance : PySem.W.nsIn K mainGlobals "isinstance" = some none) (z_int : PySem.W.nsIn K mainGlobals "int" = some none) (z_bool : PySem.W.nsIn K mainGlobals "bool" = some none) (z_tuple : PySem.W.nsIn K mainGlobals "tuple" = some none) (z_list : PySem.W.nsIn K mainGlobals "list" = some none) (z_str : PySem.W.nsIn K mainGlobals "str" = some none) (z_range : PySem.W.nsIn K mainGlobals "range" = some none) (z_abs : PySem.W.nsIn K mainGlobals "abs" = some none) (z_min : PySem.W.nsIn K mainGlobals "min" = some none) (z_set : PySem.W.nsIn K mainGlobals "set" = some none) (z_all : PySem.W.nsIn K mainGlobals "all" = some none) (z_any : PySem.W.nsIn K mainGlobals "any" = some none) (z_enumerate : PySem.W.nsIn K mainGlobals "enumerate" = some none) (z_ValueError : PySem.W.nsIn K mainGlobals "ValueError" = some none) :
    ∃ fd : FuncData, (∀ (s : Shared) (v : Value), BindsTo s fd ⟨[v], []⟩ [("_law_script", v)]) ∧ ∀ base : Heap, K.In base → base.Ns mainGlobals mg → FnOk l.prog w K mg base CX0 8 fa fd ["_law_script"] (spLaw K) := by
  have e := hfa.symm.trans (PySem.W.mg_of X G a24)
  cases e
  have T : Txt K mg := ⟨PySem.W.mg_none_of X G z_len, PySem.W.mg_none_of X G z_isinstance, PySem.W.mg_none_of X G z_int, PySem.W.mg_none_of X G z_bool, PySem.W.mg_none_of X G z_tuple, PySem.W.mg_none_of X G z_list, PySem.W.mg_none_of X G z_str, PySem.W.mg_none_of X G z_range, PySem.W.mg_none_of X G z_abs, PySem.W.mg_none_of X G z_min, PySem.W.mg_none_of X G z_set, PySem.W.mg_none_of X G z_all, PySem.W.mg_none_of X G z_any, PySem.W.mg_none_of X G z_enumerate, PySem.W.mg_none_of X G z_ValueError, ⟨ts_FIGURES, PySem.W.mg_of X G sa_FIGURES⟩, ⟨ts_MOST_ROWS, PySem.W.mg_of X G sa_MOST_ROWS⟩, ⟨ts_MOST_FIGURES, PySem.W.mg_of X G sa_MOST_FIGURES⟩, ⟨ts_MOST_ENDS, PySem.W.mg_of X G sa_MOST_ENDS⟩⟩
  have Z : TxtC K mg C_HallError C_NoLine C_NoBook C_NoFigure C_NoTurn C_NoKind C_NoRank C_Out C_NoDeed := ⟨PySem.W.mg_of X G q_HallError_at, PySem.W.mg_of X G q_NoLine_at, PySem.W.mg_of X G q_NoBook_at, PySem.W.mg_of X G q_NoFigure_at, PySem.W.mg_of X G q_NoTurn_at, PySem.W.mg_of X G q_NoKind_at, PySem.W.mg_of X G q_NoRank_at, PySem.W.mg_of X G q_Out_at, PySem.W.mg_of X G q_NoDeed_at, ⟨_, PySem.W.mg_of X G q_NoBook_at, q_NoBook_xi, q_NoBook___init___a⟩, excN_of q_NoBook_xi q_NoBook_sa, ⟨q_NoBook_ga, q_NoBook_gn, q_NoBook_cl, q_gt, q_tk, q_NoBook_mo, q_NoBook_mb, q_NoBook_ic⟩, kit_val q_NoBook_sv, exm_own q_HallError_ic q_HallError_ty q_NoBook_s_HallError q_hb, kit_own q_HallError_ic q_HallError_ty q_NoBook_s_HallError, kit_not q_NoLine_ic q_NoLine_ty q_NoBook_s_NoLine q_NoBook_s_NoBook, kit_own q_NoBook_ic q_NoBook_ty q_NoBook_s_NoBook, kit_not q_NoFigure_ic q_NoFigure_ty q_NoBook_s_NoFigure q_NoBook_s_NoBook, kit_not q_NoTurn_ic q_NoTurn_ty q_NoBook_s_NoTurn q_NoBook_s_NoBook, kit_not q_NoKind_ic q_NoKind_ty q_NoBook_s_NoKind q_NoBook_s_NoBook, kit_not q_NoRank_ic q_NoRank_ty q_NoBook_s_NoRank q_NoBook_s_NoBook, kit_not q_Out_ic q_Out_ty q_NoBook_s_Out q_NoBook_s_NoBook, kit_not q_NoDeed_ic q_NoDeed_ty q_NoBook_s_NoDeed q_NoBook_s_NoBook, q_NoBook_f_row⟩
  have D_NoBook___init__ : DefM K C_NoBook "__init__" "NoBook.__init__" (inClass (top 3) 0) ["self", "row"] [] noKw := ⟨fm_NoBook___init__, _, ⟨⟨_, _, _, _, _, _, _, _, _, _, rfl, q_NoBook___init___l, q_NoBook___init___c⟩⟩, ⟨q_NoBook___init___a, q_NoBook___init___i, q_NoBook___init___k⟩, trivial, fun m hm => match m, hm with | 0, _ => ⟨[], .nil, .all fun us hl => match us, hl with | [_, _], _ => rfl⟩ | _ + 1, h => absurd h (by simp)⟩
  have D_is_number : Def K mg "is_number" (top 12) ["thing"] := def_mk X G a1 l1 c1 k1 fun us hl => match us, hl with | [_], _ => rfl
  have D_is_whole : Def K mg "is_whole" (top 13) ["thing", "least", "most"] := def_mk X G a2 l2 c2 k2 fun us hl => match us, hl with | [_, _, _], _ => rfl
  have D_are_ends : Def K mg "are_ends" (top 14) ["hall", "things"] := def_mk X G a3 l3 c3 k3 fun us hl => match us, hl with | [_, _], _ => rfl
  have D_are_unlike : Def K mg "are_unlike" (top 16) ["some"] := def_mk X G a4 l4 c4 k4 fun us hl => match us, hl with | [_], _ => rfl
  have D_is_ends : Def K mg "is_ends" (top 18) ["hall", "thing"] := def_mk X G a5 l5 c5 k5 fun us hl => match us, hl with | [_, _], _ => rfl
  have D_is_figure : Def K mg "is_figure" (top 23) ["thing"] := def_mk X G a6 l6 c6 k6 fun us hl => match us, hl with | [_], _ => rfl
  have D_is_dialled : Def K mg "is_dialled" (top 24) ["thing"] := def_mk X G a7 l7 c7 k7 fun us hl => match us, hl with | [_], _ => rfl
  have D_is_group : Def K mg "is_group" (top 25) ["hall", "thing"] := def_mk X G a8 l8 c8 k8 fun us hl => match us, hl with | [_, _], _ => rfl
  have D_is_row : Def K mg "is_row" (top 26) ["hall", "thing"] := def_mk X G a9 l9 c9 k9 fun us hl => match us, hl with | [_, _], _ => rfl
  have D_clash : Def K mg "clash" (top 27) ["one", "other"] := def_mk X G a10 l10 c10 k10 fun us hl => match us, hl with | [_, _], _ => rfl
  have D_book_of : Def K mg "book_of" (top 28) ["hall", "rows"] := def_mk X G a11 l11 c11 k11 fun us hl => match us, hl with | [_, _], _ => rfl
  have D__law_cell_at : Def K mg "_law_cell_at" (top 30) ["_law_script", "_law_k"] := def_mk X G a12 l12 c12 k12 fun us hl => match us, hl with | [_, _], _ => rfl
  have D__law_whole : Def K mg "_law_whole" (top 31) ["_law_found"] := def_mk X G a13 l13 c13 k13 fun us hl => match us, hl with | [_], _ => rfl
  have D__law_mixed : Def K mg "_law_mixed" (top 32) ["_law_cell", "_law_k"] := def_mk X G a14 l14 c14 k14 fun us hl => match us, hl with | [_, _], _ => rfl
  have D__law_odd : Def K mg "_law_odd" (top 33) ["_law_number", "_law_group", "_law_total", "_law_cell"] := def_mk X G a15 l15 c15 k15 fun us hl => match us, hl with | [_, _, _, _], _ => rfl
  have D__law_spoiled : Def K mg "_law_spoiled" (top 34) ["_law_rows_here", "_law_number", "_law_group", "_law_total", "_law_cell"] := def_mk X G a16 l16 c16 k16 fun us hl => match us, hl with | [_, _, _, _, _], _ => rfl
  have D__law_rows : Def K mg "_law_rows" (top 35) ["_law_cells", "_law_seed", "_law_total"] := def_mk X G a17 l17 c17 k17 fun us hl => match us, hl with | [_, _, _], _ => rfl
  have D__law_good : Def K mg "_law_good" (top 36) ["_law_row", "_law_total"] := def_mk X G a18 l18 c18 k18 fun us hl => match us, hl with | [_, _], _ => rfl
  have D__law_apart : Def K mg "_law_apart" (top 37) ["_law_row", "_law_others"] := def_mk X G a19 l19 c19 k19 fun us hl => match us, hl with | [_, _], _ => rfl
  have D__law_fault : Def K mg "_law_fault" (top 38) ["_law_rows_here", "_law_total"] := def_mk X G a20 l20 c20 k20 fun us hl => match us, hl with | [_, _], _ => rfl
  have D__law_refused : Def K mg "_law_refused" (top 39) ["_law_e", "_law_place"] := def_mk X G a21 l21 c21 k21 fun us hl => match us, hl with | [_, _], _ => rfl
  have D__law_figures_by : Def K mg "_law_figures_by" (top 40) ["_law_left"] := def_mk X G a22 l22 c22 k22 fun us hl => match us, hl with | [_], _ => rfl
  have D__law_rows_by : Def K mg "_law_rows_by" (top 41) ["_law_cells", "_law_total"] := def_mk X G a23 l23 c23 k23 fun us hl => match us, hl with | [_, _], _ => rfl
  have F := fun_mk (st := top 42) l24 c24 k24
  refine ⟨PySem.W.fnOf "law" "law" (defArgs (top 42)) (defBody (top 42)) (defScope (top 42)) .none kV24 dc24 pm24 an24 cd24 ct24, fun s v => .of_eq rfl, fun base _ _ => ?_⟩
  have C_cell := ok_cell (P := l.prog) (w := w) (base := base) T D__law_cell_at
  have C_mix := ok_mixed (P := l.prog) (w := w) (base := base) T D__law_mixed
  have C_isn := ok_is_number (P := l.prog) (w := w) (base := base) T D_is_number
  have C_isw := ok_is_whole T C_isn D_is_whole
  have C_ie := ok_is_ends T (ok_are_ends T C_isw D_are_ends) (ok_unlike T D_are_unlike) D_is_ends
  have C_dl := ok_dialled (P := l.prog) (w := w) (base := base) T (ok_figC T D_is_figure) D_is_dialled
  have C_ir := ok_is_row T C_dl (ok_is_group T C_ie D_is_group) D_is_row
  have C_bo := ok_book_of T Z C_ir (ok_clash T D_clash) (ok_noBkI T Z D_NoBook___init__) D_book_of
  have C_sp := ok_spoiled (P := l.prog) (w := w) (base := base) T (ok_odd T D__law_odd) D__law_spoiled
  have C_lw := ok_lwhole (P := l.prog) (w := w) (base := base) T D__law_whole
  have C_fl := ok_fault T (ok_good T C_lw D__law_good) (ok_apart T D__law_apart) D__law_fault
  exact ok_law T Z C_cell C_mix (ok_rows T C_mix C_sp D__law_rows) (ok_rowsby T (ok_figby T D__law_figures_by) D__law_rows_by) C_fl C_bo (ok_refd T Z C_lw D__law_refused) F
end
theorem walk {l : PySem.W.OpenLaw} {q : Program} {loose : List Str} {XP : (Str → Option Value) → Heap → Prop} {YP : World → Heap → Prop} {d : DefRec} {K : Params → PySem.W.Frag} (hn : l.most = some 63) (hdf : d.params.defaults = [])
    (hY : ∀ (w : World) (h : Heap), YP w h → (K w.params).In h)
    (F : ∀ (w : World) (mg : Str → Option Value) (fa : Addr) (h : Heap), (K w.params).In h → h.Ns mainGlobals mg → mg d.name = some (.ref fa) →
      ∃ fd : FuncData, (∀ (s : Shared) (u : Value), BindsTo s fd ⟨[u], []⟩ [("_law_script", u)]) ∧ ∀ base : Heap, (K w.params).In base → base.Ns mainGlobals mg → FnOk l.prog w (K w.params) mg base CX0 8 fa fd ["_law_script"] (spLaw (K w.params))) :
    PySem.W.WalkO q loose XP YP l.row.toRowW d [] (fun f vs => PySem.call f vs) :=
  L2.walk_of (n := 63) (k := 8) (x := "_law_script") (CX := fun _ => CX0) (sp := fun w => spLaw (K w.params)) hn (by decide) hdf ⟨rfl, by decide, by decide⟩ hY F (fun _ _ a ns hl _ hS => ⟨a, ns, rfl, hS, hl, fun _ => rfl⟩) fun _ _ _ _ _ z => z
end My
open PySem PySem.W PyProof.Rows
set_option maxRecDepth 100000 in
set_option maxHeartbeats 0 in
theorem PySem.Challenge.cw_crossracks_k61_books_holds : PySem.Challenge.rw_crossracks_k61_books.Holds := by
  w_on; o_law; k_head; (case hw => w_witness2)
  k_fill
  refine My.walk (l := PySem.Challenge.rw_crossracks_k61_books) rfl rfl (fun w h Y => PySem.W.kIn_of Y) ?F
  case F =>
    intro w mg fa h KX G hmg
    refine' My.all_mk KX G hmg ?a1 ?l1 ?c1 ?k1 ?a2 ?l2 ?c2 ?k2 ?a3 ?l3 ?c3 ?k3 ?a4 ?l4 ?c4 ?k4 ?a5 ?l5 ?c5 ?k5 ?a6 ?l6 ?c6 ?k6 ?a7 ?l7 ?c7 ?k7 ?a8 ?l8 ?c8 ?k8 ?a9 ?l9 ?c9 ?k9 ?a10 ?l10 ?c10 ?k10 ?a11 ?l11 ?c11 ?k11 ?a12 ?l12 ?c12 ?k12 ?a13 ?l13 ?c13 ?k13 ?a14 ?l14 ?c14 ?k14 ?a15 ?l15 ?c15 ?k15 ?a16 ?l16 ?c16 ?k16 ?a17 ?l17 ?c17 ?k17 ?a18 ?l18 ?c18 ?k18 ?a19 ?l19 ?c19 ?k19 ?a20 ?l20 ?c20 ?k20 ?a21 ?l21 ?c21 ?k21 ?a22 ?l22 ?c22 ?k22 ?a23 ?l23 ?c23 ?k23 ?a24 ?l24 ?c24 ?k24 ?sa_FIGURES ?sa_MOST_ROWS ?sa_MOST_FIGURES ?sa_MOST_ENDS  ?q_HallError_at ?q_NoLine_at ?q_NoBook_at ?q_NoFigure_at ?q_NoTurn_at ?q_NoKind_at ?q_NoRank_at ?q_Out_at ?q_NoDeed_at ?q_HallError_ic ?q_HallError_ty ?q_NoLine_ic ?q_NoLine_ty ?q_NoBook_ic ?q_NoBook_ty ?q_NoFigure_ic ?q_NoFigure_ty ?q_NoTurn_ic ?q_NoTurn_ty ?q_NoKind_ic ?q_NoKind_ty ?q_NoRank_ic ?q_NoRank_ty ?q_Out_ic ?q_Out_ty ?q_NoDeed_ic ?q_NoDeed_ty ?q_hb ?q_gt ?q_tk ?q_NoBook_sa ?q_NoBook_f_row ?q_NoBook_ga ?q_NoBook_gn ?q_NoBook_cl ?q_NoBook_mo ?q_NoBook_mb ?q_NoBook_sv ?q_NoBook_s_HallError ?q_NoBook_s_NoLine ?q_NoBook_s_NoBook ?q_NoBook_s_NoFigure ?q_NoBook_s_NoTurn ?q_NoBook_s_NoKind ?q_NoBook_s_NoRank ?q_NoBook_s_Out ?q_NoBook_s_NoDeed ?q_NoBook___init___a ?q_NoBook___init___i ?q_NoBook___init___l ?q_NoBook___init___c ?q_NoBook___init___k ?q_NoBook_xi ?z_len ?z_isinstance ?z_int ?z_bool ?z_tuple ?z_list ?z_str ?z_range ?z_abs ?z_min ?z_set ?z_all ?z_any ?z_enumerate ?z_ValueError
    (case a1 => k_is); (case l1 => k_is); (case c1 => k_is); (case k1 => k_is)
    (case a2 => k_is); (case l2 => k_is); (case c2 => k_is); (case k2 => k_is)
    (case a3 => k_is); (case l3 => k_is); (case c3 => k_is); (case k3 => k_is)
    (case a4 => k_is); (case l4 => k_is); (case c4 => k_is); (case k4 => k_is)
    (case a5 => k_is); (case l5 => k_is); (case c5 => k_is); (case k5 => k_is)
    (case a6 => k_is); (case l6 => k_is); (case c6 => k_is); (case k6 => k_is)
    (case a7 => k_is); (case l7 => k_is); (case c7 => k_is); (case k7 => k_is)
    (case a8 => k_is); (case l8 => k_is); (case c8 => k_is); (case k8 => k_is)
    (case a9 => k_is); (case l9 => k_is); (case c9 => k_is); (case k9 => k_is)
    (case a10 => k_is); (case l10 => k_is); (case c10 => k_is); (case k10 => k_is)
    (case a11 => k_is); (case l11 => k_is); (case c11 => k_is); (case k11 => k_is)
    (case a12 => k_is); (case l12 => k_is); (case c12 => k_is); (case k12 => k_is)
    (case a13 => k_is); (case l13 => k_is); (case c13 => k_is); (case k13 => k_is)
    (case a14 => k_is); (case l14 => k_is); (case c14 => k_is); (case k14 => k_is)
    (case a15 => k_is); (case l15 => k_is); (case c15 => k_is); (case k15 => k_is)
    (case a16 => k_is); (case l16 => k_is); (case c16 => k_is); (case k16 => k_is)
    (case a17 => k_is); (case l17 => k_is); (case c17 => k_is); (case k17 => k_is)
    (case a18 => k_is); (case l18 => k_is); (case c18 => k_is); (case k18 => k_is)
    (case a19 => k_is); (case l19 => k_is); (case c19 => k_is); (case k19 => k_is)
    (case a20 => k_is); (case l20 => k_is); (case c20 => k_is); (case k20 => k_is)
    (case a21 => k_is); (case l21 => k_is); (case c21 => k_is); (case k21 => k_is)
    (case a22 => k_is); (case l22 => k_is); (case c22 => k_is); (case k22 => k_is)
    (case a23 => k_is); (case l23 => k_is); (case c23 => k_is); (case k23 => k_is)
    (case a24 => k_is); (case l24 => k_is); (case c24 => k_is); (case k24 => k_is)
    (case sa_FIGURES => k_is)
    (case sa_MOST_ROWS => k_is)
    (case sa_MOST_FIGURES => k_is)
    (case sa_MOST_ENDS => k_is)
    (case q_HallError_at => k_is)
    (case q_NoLine_at => k_is)
    (case q_NoBook_at => k_is)
    (case q_NoFigure_at => k_is)
    (case q_NoTurn_at => k_is)
    (case q_NoKind_at => k_is)
    (case q_NoRank_at => k_is)
    (case q_Out_at => k_is)
    (case q_NoDeed_at => k_is)
    (case q_HallError_ic => k_is)
    (case q_HallError_ty => k_is)
    (case q_NoLine_ic => k_is)
    (case q_NoLine_ty => k_is)
    (case q_NoBook_ic => k_is)
    (case q_NoBook_ty => k_is)
    (case q_NoFigure_ic => k_is)
    (case q_NoFigure_ty => k_is)
    (case q_NoTurn_ic => k_is)
    (case q_NoTurn_ty => k_is)
    (case q_NoKind_ic => k_is)
    (case q_NoKind_ty => k_is)
    (case q_NoRank_ic => k_is)
    (case q_NoRank_ty => k_is)
    (case q_Out_ic => k_is)
    (case q_Out_ty => k_is)
    (case q_NoDeed_ic => k_is)
    (case q_NoDeed_ty => k_is)
    (case q_hb => k_is)
    (case q_gt => k_is)
    (case q_tk => k_is)
    (case q_NoBook_sa => k_is)
    (case q_NoBook_f_row => k_is)
    (case q_NoBook_ga => k_is)
    (case q_NoBook_gn => k_is)
    (case q_NoBook_cl => k_is)
    (case q_NoBook_mo => k_is)
    (case q_NoBook_mb => k_is)
    (case q_NoBook_sv => k_is)
    (case q_NoBook_s_HallError => k_is)
    (case q_NoBook_s_NoLine => k_is)
    (case q_NoBook_s_NoBook => k_is)
    (case q_NoBook_s_NoFigure => k_is)
    (case q_NoBook_s_NoTurn => k_is)
    (case q_NoBook_s_NoKind => k_is)
    (case q_NoBook_s_NoRank => k_is)
    (case q_NoBook_s_Out => k_is)
    (case q_NoBook_s_NoDeed => k_is)
    (case q_NoBook___init___a => k_is)
    (case q_NoBook___init___i => k_is)
    (case q_NoBook___init___l => k_is)
    (case q_NoBook___init___c => k_is)
    (case q_NoBook___init___k => k_is)
    (case q_NoBook_xi => kernel_rfl)
    (case z_len => k_is)
    (case z_isinstance => k_is)
    (case z_int => k_is)
    (case z_bool => k_is)
    (case z_tuple => k_is)
    (case z_list => k_is)
    (case z_str => k_is)
    (case z_range => k_is)
    (case z_abs => k_is)
    (case z_min => k_is)
    (case z_set => k_is)
    (case z_all => k_is)
    (case z_any => k_is)
    (case z_enumerate => k_is)
    (case z_ValueError => k_is)
