import PyProof.Rows.All
import Wide.All
import OpenK.AllK
import Wide.FinOn
import Lean
import PyProof.EqAt
import PyProof.EqKinds
import PyProof.TupleCall
import PySem.SetOps
import PyProof.SetKind
import PyProof.CollectWalk
import PyProof.FactsAll.set
import PyProof.ForAny
import PyProof.Rows.SortWalk
import PyProof.Rows.SetFrom
import KE.KSortAsk
import KE.KSortTup
import KE.KDictList
import KE.KMinBuiltin
import PyProof.EnumMake
import PyProof.NsDelKeeps
import PyProof.ExcInit
import PyProof.ExcClass2
import PyProof.MeetsStr
import PyProof.MeetsStr2
import PyProof.StrLawsIn
import PyProof.StrLawsOcc
import PyProof.StrLawsOccR
import PyProof.CallStr
import PyProof.SliceStr2
import KE.KIntText
import KE.IntTextLaws
import PyProof.FString4
import PyProof.StrLawsRepr
import PyProof.StrWalks
import PyProof.FString
import PyProof.TupleKey
import PyProof.IsRules
import KE.KRevIter
import PyProof.WalksMore
import PyProof.FitsReplace
import PyProof.Rows.StrLawsPart
import PyProof.AttrMissHeap
import KE.KDictOf
import PyProof.Rows.MinMaxN
import PySem.Challenge.RW_crossracks_k52_nests_in_form
set_option Elab.async false
set_option linter.all false
set_option maxRecDepth 100000
namespace L2
open PySem PySem.Spec PyProof.Rows
abbrev Key := Sum Int Str
def keyIs : Key → Value → Bool
  | .inl k, v => Value.isInt k v
  | .inr x, v => Value.isStrOf x v
def keyH (w : World) : Key → Int
  | .inl k => hashInt k
  | .inr x => hashStr w x
theorem keyIs_shape : ∀ {k : Key} {v : Value}, keyIs k v = true → (∃ i t, k = Sum.inl i ∧ v = Value.int i t) ∨ (∃ x t, k = Sum.inr x ∧ v = Value.str x t)
  | .inl i, v, h => by
    obtain ⟨t, e⟩ := Value.isInt_shape (k := i) (v := v) h
    exact .inl ⟨i, t, rfl, e⟩
  | .inr x, v, h => by
    obtain ⟨t, e⟩ := Value.isStrOf_shape (x := x) (v := v) h
    exact .inr ⟨x, t, rfl, e⟩
theorem keyIs_int (i : Int) (t : Tok) : keyIs (.inl i) (.int i t) = true := by simp [keyIs, Value.isInt]
theorem keyIs_str (x : Str) (t : Tok) : keyIs (.inr x) (.str x t) = true := by simp [keyIs, Value.isStrOf]
theorem key_ll (a b : Int) : decide ((Sum.inl a : Key) = Sum.inl b) = (a == b) := by
  by_cases e : a = b
  · subst e; simp
  · have h : ¬ (Sum.inl a : Key) = Sum.inl b := fun q => e (Sum.inl.inj q)
    rw [decide_eq_false h]
    exact (beq_eq_false_iff_ne.mpr e).symm
theorem key_rr (a b : Str) : decide ((Sum.inr a : Key) = Sum.inr b) = decide (a = b) := by
  by_cases e : a = b
  · subst e; simp
  · have h : ¬ (Sum.inr a : Key) = Sum.inr b := fun q => e (Sum.inr.inj q)
    rw [decide_eq_false h, decide_eq_false e]
theorem key_lr (a : Int) (b : Str) : decide ((Sum.inl a : Key) = Sum.inr b) = false := decide_eq_false (fun q => nomatch q)
theorem key_rl (a : Str) (b : Int) : decide ((Sum.inr a : Key) = Sum.inl b) = false := decide_eq_false (fun q => nomatch q)
def mixKind (prog : Program) (w : World) : PySem.KeyKind prog w Key where
  is := keyIs
  hash := keyH w
  inj := fun v a b ha hb => by
    rcases keyIs_shape ha with ⟨i, t, rfl, rfl⟩ | ⟨x, t, rfl, rfl⟩
    · rcases keyIs_shape hb with ⟨j, u, rfl, e⟩ | ⟨y, u, rfl, e⟩
      · injection e with e1 _; rw [e1]
      · exact nomatch e
    · rcases keyIs_shape hb with ⟨j, u, rfl, e⟩ | ⟨y, u, rfl, e⟩
      · exact nomatch e
      · injection e with e1 _; rw [e1]
  byValue := fun k v h => by
    rcases keyIs_shape h with ⟨i, t, rfl, rfl⟩ | ⟨x, t, rfl, rfl⟩ <;> rfl
  pyHash := fun hv h => by
    rcases keyIs_shape hv with ⟨i, t, rfl, rfl⟩ | ⟨x, t, rfl, rfl⟩
    · exact wpAny_pyHash_int h
    · exact wpAny_pyHash_str h
  eqBool := fun hu hv h => by
    rcases keyIs_shape hu with ⟨i, t, rfl, rfl⟩ | ⟨x, t, rfl, rfl⟩
    · rcases keyIs_shape hv with ⟨j, u, rfl, rfl⟩ | ⟨y, u, rfl, rfl⟩
      · rw [key_ll] at h; exact wpAny_eqBool_int h
      · rw [key_lr] at h; exact SeqAt.EqAt.int_str i t y u _ _ _ _ h
    · rcases keyIs_shape hv with ⟨j, u, rfl, rfl⟩ | ⟨y, u, rfl, rfl⟩
      · rw [key_rl] at h; exact SeqAt.EqAt.str_int x t j u _ _ _ _ h
      · rw [key_rr] at h; exact wpAny_eqBool_str h
  «strs» := fun k x t v h => by
    rcases keyIs_shape h with ⟨i, u, rfl, e⟩ | ⟨y, u, rfl, e⟩
    · exact nomatch e
    · injection e with e1 _
      subst e1
      cases v <;> rfl
theorem mixKind_int (prog : Program) (w : World) (i : Int) (t : Tok) : (mixKind prog w).is (.inl i) (.int i t) = true := keyIs_int i t
theorem mixKind_str (prog : Program) (w : World) (x : Str) (t : Tok) : (mixKind prog w).is (.inr x) (.str x t) = true := keyIs_str x t
end L2
namespace L2
open PySem PySem.Spec PyProof.Rows
inductive V where
  | non | bl (b : Bool) | int (i : Int) | str (x : Str) | byt (b : Array UInt8) | flt (b : UInt64) | ref (a : Addr) | ty (n : String)
  deriving DecidableEq
def RelV : V → Value → Prop
  | .non, u => u = Value.none
  | .bl b, u => u = Value.bool b
  | .int i, u => ∃ t, u = Value.int i t
  | .str x, u => ∃ t, u = Value.str x t
  | .byt b, u => ∃ t, u = Value.bytes b t
  | .flt b, u => ∃ t, u = Value.float b t
  | .ref a, u => u = Value.ref a
  | .ty n, u => u = Value.type n
abbrev Vals : List V → List Value → Prop := Paired RelV
theorem Vals.length {xs : List V} {us : List Value} (r : Vals xs us) : xs.length = us.length := Paired.length r
theorem Vals.get : ∀ {xs : List V} {us : List Value} {i : Nat} {x : V}, Vals xs us → xs[i]? = some x → ∃ u, us[i]? = some u ∧ RelV x u
  | _, _, _, _, .nil, e => by simp at e
  | _, _, 0, _, .cons r _, e => by simp at e; subst e; exact ⟨_, rfl, r⟩
  | _, _, i + 1, x, .cons _ t, e => by
    obtain ⟨u, h1, h2⟩ := Vals.get (i := i) (x := x) t (by simpa using e)
    exact ⟨u, by simpa using h1, h2⟩
theorem Vals.set {x : V} {u : Value} (r : RelV x u) : ∀ {xs : List V} {us : List Value} (i : Nat), Vals xs us → Vals (xs.set i x) (us.set i u)
  | _, _, _, .nil => .nil
  | _, _, 0, .cons _ t => .cons r t
  | _, _, i + 1, .cons q t => .cons q (Vals.set r i t)
theorem Vals.append : ∀ {xs ys : List V} {us ws : List Value}, Vals xs us → Vals ys ws → Vals (xs ++ ys) (us ++ ws)
  | _, _, _, _, .nil, s => s
  | _, _, _, _, .cons r t, s => .cons r (Vals.append t s)
def RelO : Option V → Option Value → Prop
  | some v, some u => RelV v u
  | none, none => True
  | _, _ => False
def KV {κ : Type} : List (κ × V) → List (κ × Value) → Prop := Paired fun (p : κ × V) (q : κ × Value) => p.1 = q.1 ∧ RelV p.2 q.2
def kV : Key → V
  | .inl i => .int i
  | .inr x => .str x
inductive HO where
  /-- a list -/
  | lst (xs : List V)
  /-- a tuple (never changes) -/
  | tup (xs : List V)
  /-- a dict whose keys are ints and texts; one whose keys are tuples of ints and texts (the empty one is both) -/
  | dK (kvs : List (Key × V)) | dT (kvs : List (List Key × V))
  /-- a set of ints: its members, its size -/
  | set (S : Int → Bool) (n : Nat)
  /-- an instance of the class at C, its dict at dx, its attributes -/
  | ins (C dx : Addr) (fs : List (Str × V))
  /-- the dict of the instance at x -/
  | own (x : Addr)
  /-- the dict of an exception -/
  | xd (fs : List (Str × V))
  /-- a bound method, f of x -/
  | met (f x : Addr)
  /-- a range object lo, lo + 1, .. below hi -/
  | rng (lo hi : Int)
  /-- a thing that is known to the object (the script; a dict while a loop walks it): read, never written while it is so -/
  | frz (o : Obj) (u : HO)
  /-- a code object's table -/
  | tbl (ps : Array Value)
  /-- any other thing, by what is true of its one object (a def of one's own: SetO a S n := HO.ext fun h => ..) -/
  | ext (φ : Heap → Prop)
abbrev Hp := Addr → Option HO
def upd (H : Hp) (a : Addr) (o : HO) : Hp := fun b => if b = a then some o else H b
theorem upd_same {H : Hp} {a : Addr} {o : HO} : upd H a o a = some o := by unfold upd; rw [if_pos rfl]
theorem upd_ne {H : Hp} {a b : Addr} {o : HO} (h : b ≠ a) : upd H a o b = H b := by unfold upd; rw [if_neg h]
theorem ne_of {H : Hp} {a b : Addr} {o u : HO} (h : H a = some o) (h' : H b = some u) (d : o ≠ u) : a ≠ b := by
  intro e; subst e; rw [h] at h'; exact d (Option.some.inj h')
theorem ne_of_none {H : Hp} {a b : Addr} {o : HO} (h : H a = some o) (h' : H b = none) : a ≠ b := by
  intro e; subst e; rw [h] at h'; cases h'
section
variable (P : Program) (w : World)
def ObjOk (H : Hp) (h : Heap) (a : Addr) : HO → Prop
  | .lst xs => xs.length ≤ sizeLine ∧ ∃ (its : List Value) (n : Nat), Vals xs its ∧ h.get? a = some { cls := .type "list", data := .seq its.toArray n }
  | .tup xs => xs.length ≤ sizeLine ∧ ∃ its : List Value, Vals xs its ∧ IsTup h a its.toArray
  | .dK kvs => kvs.length ≤ sizeLine ∧ (a == sysModules) = false ∧ ∃ vs, KV kvs vs ∧ h.DictOf (mixKind P w) a vs
  | .dT kvs => kvs.length ≤ sizeLine ∧ (a == sysModules) = false ∧ ∃ xs : List (List Key × Addr × Value),
      Paired (fun (p : List Key × V) (q : List Key × Addr × Value) => p.1 = q.1 ∧ H q.2.1 = some (.tup (p.1.map kV)) ∧ RelV p.2 q.2.2) kvs xs ∧
      ∃ o es ep, h.get? a = some o ∧ o.ExactDict ∧ o.data = .dict es ep ∧ es.toList = xs.map (entryOfKey (tupleKind (mixKind P w))) ∧ (xs.map (·.1)).Nodup
  | .set S n => h.SetOf (intKind P w) a S n
  | .ins C dx fs => H dx = some (.own a) ∧ fs.length ≤ 1000 ∧ dx ≠ a ∧ h.get? a = some (PySem.W.instObj C dx) ∧
      ∃ mA, h.Ns1 dx mA ∧ (∀ f, RelO (fs.lookup f) (mA f)) ∧ PySem.Within mA (fs.map (·.1))
  | .own _ => ∃ o, h.get? a = some o
  | .xd fs => ∃ mA, h.Ns1 a mA ∧ ∀ f, RelO (fs.lookup f) (mA f)
  | .rng lo hi => ∃ t u v, h.get? a = some { cls := .type "range", data := .fields #[.int lo t, .int hi u, .int 1 v] }
  | .frz o u => h.get? a = some o ∧ ObjOk H h a u
  | .tbl ps => h.get? a = some { cls := .none, data := .fields ps }
  | .met f x => h.get? a = some (PySem.W.methodObj (.ref f) (.ref x))
  | .ext φ => φ h ∧ (∃ o, h.get? a = some o) ∧ ∀ h1 h2 : Heap, φ h1 → (∀ o, h1.get? a = some o → h2.get? a = some o) → φ h2
def HOk (H : Hp) (h : Heap) : Prop := ∀ a o, H a = some o → ObjOk P w H h a o
end
section
variable {P : Program} {w : World} {H H' : Hp} {h h' : Heap} {a : Addr} {o : HO}
theorem ObjOk.lt (x : ObjOk P w H h a o) : a < h.objs.size := by
  cases o with
  | lst xs => obtain ⟨_, _, _, _, e⟩ := x; exact Heap.lt_size e
  | tup xs => obtain ⟨_, _, _, p⟩ := x; exact p.lt
  | dK kvs => obtain ⟨_, _, _, _, o, _, _, e, _⟩ := x; exact Heap.lt_size e
  | dT kvs => obtain ⟨_, _, _, _, o, _, _, e, _⟩ := x; exact Heap.lt_size e
  | set S n => obtain ⟨o, _, _, _, e, _⟩ := x; exact Heap.lt_size e
  | ins C dx fs => obtain ⟨_, _, _, e, _⟩ := x; exact Heap.lt_size e
  | own y => obtain ⟨_, e⟩ := x; exact Heap.lt_size e
  | xd fs => obtain ⟨_, ⟨_, _, _, e, _⟩, _⟩ := x; exact Heap.lt_size e
  | rng lo hi => obtain ⟨_, _, _, e⟩ := x; exact Heap.lt_size e
  | frz ob u => obtain ⟨e, _⟩ := x; exact Heap.lt_size e
  | tbl ps => exact Heap.lt_size (show h.get? a = some _ from x)
  | met f y => exact Heap.lt_size (show h.get? a = some _ from x)
  | ext φ => obtain ⟨_, ⟨_, e⟩, _⟩ := x; exact Heap.lt_size e
theorem Paired.mapP {α β : Type} {F G : α → β → Prop} : ∀ {l₁ : List α} {l₂ : List β}, Paired F l₁ l₂ → (∀ a b, F a b → G a b) → Paired G l₁ l₂
  | _, _, .nil, _ => .nil
  | _, _, .cons r t, f => .cons (f _ _ r) (Paired.mapP t f)
theorem ObjOk.stay (x : ObjOk P w H h a o) (k : ∀ b u, (b = a ∨ H b = some (.own a)) → h.get? b = some u → h'.get? b = some u)
    (ho : ∀ b, H b = some (.own a) → H' b = some (.own a)) (ht : ∀ b xs, H b = some (.tup xs) → H' b = some (.tup xs)) : ObjOk P w H' h' a o := by
  induction o with
  | lst xs => obtain ⟨z, its, n, r, e⟩ := x; exact ⟨z, its, n, r, k _ _ (.inl rfl) e⟩
  | tup xs => obtain ⟨z, its, r, ob, e, c⟩ := x; exact ⟨z, its, r, ob, k _ _ (.inl rfl) e, c⟩
  | dK kvs => obtain ⟨z, y, vs, r, ob, es, ep, e, c⟩ := x; exact ⟨z, y, vs, r, ob, es, ep, k _ _ (.inl rfl) e, c⟩
  | dT kvs =>
    obtain ⟨z, y, xs, r, ob, es, ep, e, c⟩ := x
    exact ⟨z, y, xs, Paired.mapP r fun p q z => ⟨z.1, ht _ _ z.2.1, z.2.2⟩, ob, es, ep, k _ _ (.inl rfl) e, c⟩
  | set S n => obtain ⟨ob, es, ep, t, e, c⟩ := x; exact ⟨ob, es, ep, t, k _ _ (.inl rfl) e, c⟩
  | ins C dx fs =>
    obtain ⟨d, z, ne, e, mA, ⟨od, es, ep, e2, c⟩, r⟩ := x
    exact ⟨ho _ d, z, ne, k _ _ (.inl rfl) e, mA, ⟨od, es, ep, k _ _ (.inr d) e2, c⟩, r⟩
  | own y => obtain ⟨ob, e⟩ := x; exact ⟨ob, k _ _ (.inl rfl) e⟩
  | xd fs => obtain ⟨mA, ⟨od, es, ep, e, c⟩, r⟩ := x; exact ⟨mA, ⟨od, es, ep, k _ _ (.inl rfl) e, c⟩, r⟩
  | rng lo hi => obtain ⟨t, u, v, e⟩ := x; exact ⟨t, u, v, k _ _ (.inl rfl) e⟩
  | frz ob u ih => obtain ⟨e, q⟩ := x; exact ⟨k _ _ (.inl rfl) e, ih q⟩
  | tbl ps =>
    have e : h.get? a = some { cls := .none, data := .fields ps } := x
    show h'.get? a = some { cls := .none, data := .fields ps }
    exact k a _ (.inl rfl) e
  | met f y =>
    have e : h.get? a = some (PySem.W.methodObj (.ref f) (.ref y)) := x
    show h'.get? a = some (PySem.W.methodObj (.ref f) (.ref y))
    exact k a _ (.inl rfl) e
  | ext φ => obtain ⟨p, ⟨o, e⟩, st⟩ := x; exact ⟨st _ _ p fun o q => k _ _ (.inl rfl) q, ⟨o, k _ _ (.inl rfl) e⟩, st⟩
theorem HOk.lt (x : HOk P w H h) (e : H a = some o) : a < h.objs.size := (x a o e).lt
theorem HOk.fresh (x : HOk P w H h) (e : h.objs.size ≤ a) : H a = none := by
  cases q : H a with
  | none => rfl
  | some u => exact absurd (Nat.lt_of_lt_of_le (x.lt q) e) (Nat.lt_irrefl _)
theorem HOk.kept (x : HOk P w H h) (k : ∀ b u, h.get? b = some u → h'.get? b = some u) : HOk P w H h' := fun a o e =>
  (x a o e).stay (fun b u _ q => k b u q) (fun _ q => q) fun _ _ q => q
theorem HOk.laid (x : HOk P w H h) (k : ∀ b u, h.get? b = some u → h'.get? b = some u) (hp : h.objs.size ≤ a) (new : ObjOk P w (upd H a o) h' a o) : HOk P w (upd H a o) h' := fun b u e => by
  have hn := x.fresh hp
  by_cases hb : b = a
  · subst hb; rw [upd_same] at e; cases e; exact new
  · rw [upd_ne hb] at e
    exact (x b u e).stay (fun c v _ q => k c v q) (fun c q => by rw [upd_ne (ne_of_none q hn)]; exact q) fun c xs q => by rw [upd_ne (ne_of_none q hn)]; exact q
end
def Rd (H : Hp) (a : Addr) (u : HO) : Prop := H a = some u ∨ ∃ o, H a = some (.frz o u)
theorem Rd.ok {P : Program} {w : World} {H : Hp} {h : Heap} {a : Addr} {u : HO} (r : Rd H a u) (x : HOk P w H h) : ObjOk P w H h a u := by
  rcases r with r | ⟨o, r⟩
  · exact x a u r
  · obtain ⟨_, q⟩ := x a _ r
    exact q
def Mut : Option HO → Prop
  | some (.lst _) => True
  | some (.dK _) => True
  | some (.dT _) => True
  | some (.set _ _) => True
  | some (.ins _ _ _) => True
  | some (.ext _) => True
  | _ => False
section
variable {P : Program} {w : World} {H : Hp} {h h' : Heap} {x e : Addr} {o' : HO}
theorem HOk.write (ok : HOk P w H h) (mu : Mut (H x)) (he : e = x ∨ H e = some (.own x)) (k : ∀ b u, b ≠ e → h.get? b = some u → h'.get? b = some u) (heo : ∃ u, h'.get? e = some u)
    (new : ObjOk P w (upd H x o') h' x o') : HOk P w (upd H x o') h' := fun b u q => by
  have nown : ∀ c y, H c = some (.own y) → c ≠ x := fun c y r z => by subst z; rw [r] at mu; exact mu
  have ntup : ∀ c xs, H c = some (.tup xs) → c ≠ x := fun c xs r z => by subst z; rw [r] at mu; exact mu
  by_cases hb : b = x
  · subst hb; rw [upd_same] at q; cases q; exact new
  · rw [upd_ne hb] at q
    by_cases hbe : b = e
    · have q' : H b = some (.own x) := by
        rcases he with z | z
        · exact absurd (hbe.trans z) hb
        · rw [hbe]; exact z
      rw [q] at q'; cases q'
      obtain ⟨v, hv⟩ := heo
      exact ⟨v, by rw [hbe]; exact hv⟩
    · refine (ok b u q).stay (fun c v hc r => k c v ?_ r) (fun c r => by rw [upd_ne (nown c b r)]; exact r) fun c xs r => by rw [upd_ne (ntup c xs r)]; exact r
      rcases hc with rfl | hc
      · exact hbe
      · rintro rfl
        rcases he with z | z
        · exact nown c b hc z
        · rw [hc] at z; cases z; exact hb rfl
end
structure Un (fs ex : List Addr) (H H' : Hp) (h h' : Heap) : Prop where
  keep : ∀ b o, h.get? b = some o → H b = none → b ∉ fs → b ∉ ex → h'.get? b = some o
  slot : ∀ b o, h.get? b = some o → H b = none → b ∈ fs → b ∉ ex → ∃ sl, h'.get? b = some { o with slots := sl }
  free : ∀ b o, h.get? b = some o → H b = none → b ∉ ex → H' b = none
  there : ∀ b o, h.get? b = some o → b ∉ ex → ∃ o', h'.get? b = some o'
  tups : ∀ b xs, H b = some (.tup xs) → H' b = some (.tup xs)
  frzs : ∀ b o u, H b = some (.frz o u) → H' b = some (.frz o u)
  tbls : ∀ b ps, H b = some (.tbl ps) → ∃ more, H' b = some (.tbl (ps ++ more))
section
variable {fs fs' ex ex' : List Addr} {H H1 H2 : Hp} {h h1 h2 h' : Heap} {a x e : Addr} {o : HO}
theorem Un.any (u : Un fs ex H H1 h h1) {b : Addr} {ob : Obj} (q : h.get? b = some ob) (n : H b = none) (hx : b ∉ ex) : ∃ sl, h1.get? b = some { ob with slots := sl } := by
  by_cases hb : b ∈ fs
  · exact u.slot b ob q n hb hx
  · exact ⟨ob.slots, u.keep b ob q n hb hx⟩
theorem Un.kept (k : ∀ b u, h.get? b = some u → h'.get? b = some u) : Un fs ex H H h h' :=
  ⟨fun b ob q _ _ _ => k b ob q, fun b ob q _ _ _ => ⟨ob.slots, k b ob q⟩, fun _ _ _ n _ => n, fun b ob q _ => ⟨ob, k b ob q⟩, fun _ _ q => q, fun _ _ _ q => q, fun _ ps q => ⟨#[], by rw [q]; simp⟩⟩
theorem Un.refl : Un fs ex H H h h := Un.kept fun _ _ q => q
theorem Un.laid (k : ∀ b u, h.get? b = some u → h'.get? b = some u) (hp : h.objs.size ≤ a) (hn : H a = none) : Un fs ex H (upd H a o) h h' where
  keep := fun b u q _ _ _ => k b u q
  slot := fun b u q _ _ _ => ⟨u.slots, k b u q⟩
  free := fun b u q n _ => by rw [upd_ne (Nat.ne_of_lt (Nat.lt_of_lt_of_le (Heap.lt_size q) hp))]; exact n
  there := fun b u q _ => ⟨u, k b u q⟩
  tups := fun b xs q => by rw [upd_ne (ne_of_none q hn)]; exact q
  frzs := fun b u xs q => by rw [upd_ne (ne_of_none q hn)]; exact q
  tbls := fun b ps q => ⟨#[], by rw [upd_ne (ne_of_none q hn), q]; simp⟩
theorem Un.write (mu : Mut (H x)) (he : e = x ∨ H e = some (.own x)) (k : ∀ b u, b ≠ e → h.get? b = some u → h'.get? b = some u) (heo : ∃ u, h'.get? e = some u) : Un fs ex H (upd H x o) h h' := by
  have hx : ∀ b, H b = none → b ≠ x := fun b n z => by subst z; rw [n] at mu; exact mu
  have hb : ∀ b, H b = none → b ≠ e := fun b n z => by
    subst z
    rcases he with r | r
    · exact hx b n r
    · rw [n] at r; cases r
  have hm : ∀ b u, H b = some u → ¬ Mut (some u) → b ≠ x := fun b u q nm z => by subst z; rw [q] at mu; exact nm mu
  refine ⟨fun b u q n _ _ => k b u (hb b n) q, fun b u q n _ _ => ⟨u.slots, k b u (hb b n) q⟩, fun b u q n _ => by rw [upd_ne (hx b n)]; exact n, fun b u q _ => ?_,
    fun b xs q => by rw [upd_ne (hm b _ q fun z => z)]; exact q, fun b u xs q => by rw [upd_ne (hm b _ q fun z => z)]; exact q, fun b ps q => ⟨#[], by rw [upd_ne (hm b _ q fun z => z), q]; simp⟩⟩
  by_cases hbe : b = e
  · subst hbe; exact heo
  · exact ⟨u, k b u hbe q⟩
end
def trk (h : Heap) (H : Hp) : List Addr := (List.range h.objs.size).filter fun a => (H a).isSome
def hidT (h : Heap) (H : Hp) : Heap := PySem.W.hideAll h (trk h H)
theorem hidT_size (h : Heap) (H : Hp) : (hidT h H).objs.size = h.objs.size := PySem.W.hideAll_size _ _
theorem hidT_get {h : Heap} {H : Hp} {b : Addr} {o : Obj} (e : h.get? b = some o) (n : H b = none) : (hidT h H).get? b = some o :=
  PySem.W.hideAll_get _ e fun hm => by
    have q : (H b).isSome = true := (List.mem_filter.mp hm).2
    rw [n] at q; simp at q
theorem of_hidT {h : Heap} {H : Hp} {b : Addr} {o : Obj} (e : (hidT h H).get? b = some o) : h.get? b = some o ∧ H b = none := by
  have e' : h.get? b = some o := PySem.W.of_hideAll (trk h H) e
  refine ⟨e', ?_⟩
  cases q : H b with
  | none => rfl
  | some x =>
    have hm : b ∈ trk h H := List.mem_filter.mpr ⟨List.mem_range.mpr (Heap.lt_size e'), by simp [q]⟩
    have z : (hidT h H).get? b = none := PySem.W.hideAll_none (trk h H) hm
    rw [z] at e; cases e
end L2
namespace L2
open PySem PySem.Spec PyProof.Rows
structure Mod (K : PySem.W.Frag) (mg : Str → Option Value) (base : Heap) : Prop where
  kin : K.In base
  glob : base.Ns mainGlobals mg
  blt : ∃ mb, base.Ns builtinsNs mb ∧ ∀ x : Str, x ≠ "__name__" → mb x = bootBuiltins x
  nolimit : base.NoLimit
structure Cx where
  prog : Program
  w : World
  K : PySem.W.Frag
  mg : Str → Option Value
  base : Heap
  A : Around
  N : List Str
  s₀ : Shared
  H₀ : Hp
  env : Env
  outer : List Env
  stack : List Env
  ex : List Addr
  fn : Str → Bool
  calm : Bool
  pn : List (Addr × Obj)
  xe : Value → Shared → Prop
def frs (l : List Env) : List Addr := l.filterMap (·.frame)
abbrev Cx.fs (X : Cx) : List Addr := frs X.outer
def Vis (sc : Scope) (x : Str) : Prop := sc.names.lookup x = some .local ∨ sc.names.lookup x = some .cell ∨ sc.names.lookup x = some .free
def Loc (sc : Scope) (x : Str) : Prop := sc.names.lookup x = some .local ∨ sc.names.lookup x = some .cell
def Look (env : Env) (h : Heap) (m : Str → Option Value) (x : Str) (u : Value) : Prop :=
  (env.kindOf x = some .local ∧ m x = some u) ∨ ((env.kindOf x = some .cell ∨ env.kindOf x = some .free) ∧ ∃ c, env.cells.lookup x = some c ∧ h.IsCell c (some u))
structure Cx.Ok (X : Cx) : Prop where
  mod : Mod X.K X.mg X.base
  kind : X.env.scope.kind = .function
  glob : X.env.globals = mainGlobals
  blt : X.env.builtins = builtinsNs
  above : X.s₀.heap.objs.size ≤ X.env.locals
  inj : ∀ x y c, X.env.cells.lookup x = some c → X.env.cells.lookup y = some c → x = y
  has : ∀ x, (X.env.kindOf x = some .cell ∨ X.env.kindOf x = some .free) → ∃ c, X.env.cells.lookup x = some c
  cab : ∀ x c, X.fn x = true → X.env.cells.lookup x = some c → X.s₀.heap.objs.size ≤ c
  hd : X.calm = true → X.A.handled = none
  frames : X.A.frames = some X.stack
  stk : X.stack = X.outer ∨ (X.stack = X.env :: X.outer ∧ X.env.frame = some X.env.locals)
  exf : ∀ b ∈ X.ex, b ≠ X.env.locals ∧ ∀ x c, X.env.cells.lookup x = some c → c ≠ b
  bs : ∀ b o, X.base.get? b = some o → X.s₀.heap.get? b = some o ∧ X.H₀ b = none
  bsz : X.base.objs.size ≤ X.s₀.heap.objs.size
  noex : ∀ b o, X.base.get? b = some o → b ∉ X.ex
  exfs : ∀ b ∈ X.ex, b ∉ X.fs
  funs : X.s₀.heap.FunFrames X.base X.outer
  frf : ∀ b ∈ X.fs, X.H₀ b = none
structure Inv (X : Cx) (pins : List (Addr × Obj)) (σ : List (Option V)) (H : Hp) (s : Shared) : Prop where
  ok : X.Ok
  os : s.os = X.s₀.os
  bare : AllBare s.gens
  base : Un X.fs X.ex X.H₀ H X.s₀.heap s.heap
  loc : ∃ m, s.heap.Ns X.env.locals m ∧ ∀ (i : Nat) (x : Str) (v : V), X.N[i]? = some x → σ[i]? = some (some v) → Vis X.env.scope x → ∃ u, RelV v u ∧ Look X.env s.heap m x u
  cell : ∀ x c, X.env.cells.lookup x = some c → ∃ v, s.heap.IsCell c v
  free : H X.env.locals = none
  freeC : ∀ x c, X.env.cells.lookup x = some c → H c = none
  pin : ∀ p ∈ X.pn ++ pins, s.heap.get? p.1 = some p.2 ∧ H p.1 = none ∧ p.1 ≠ X.env.locals ∧ p.1 ∉ X.fs ∧ ∀ v, p.2.data ≠ .cell v
  hok : HOk X.prog X.w H s.heap
  len : σ.length = X.N.length
section
variable {X : Cx} {pins : List (Addr × Obj)} {σ : List (Option V)} {H H' : Hp} {s : Shared} {h' : Heap}
theorem Cx.Ok.nofr (ok : X.Ok) {b : Addr} {o : Obj} (e : X.base.get? b = some o) : b ∉ X.fs := fun hb => by
  have := (ok.funs.mem hb).1
  rw [e] at this; cases this
theorem Inv.bs (I : Inv X pins σ H s) : ∀ b o, X.base.get? b = some o → s.heap.get? b = some o ∧ H b = none := fun b o e =>
  ⟨I.base.keep b o (I.ok.bs b o e).1 (I.ok.bs b o e).2 (I.ok.nofr e) (I.ok.noex b o e), I.base.free b o (I.ok.bs b o e).1 (I.ok.bs b o e).2 (I.ok.noex b o e)⟩
theorem Inv.bk (I : Inv X pins σ H s) : ∀ b o, X.base.get? b = some o → s.heap.get? b = some o := fun b o e => (I.bs b o e).1
theorem Inv.mod (I : Inv X pins σ H s) : Mod X.K X.mg X.base := I.ok.mod
theorem Inv.kIn (I : Inv X pins σ H s) : X.K.In s.heap := I.ok.mod.kin.keeps I.bk
theorem Inv.lt (I : Inv X pins σ H s) : X.env.locals < s.heap.objs.size := let ⟨_, hn, _⟩ := I.loc; hn.lt
theorem Inv.sz (I : Inv X pins σ H s) : X.s₀.heap.objs.size ≤ s.heap.objs.size := Nat.le_trans I.ok.above (Nat.le_of_lt I.lt)
theorem Inv.nofs (I : Inv X pins σ H s) {a : Addr} (h : s.heap.objs.size ≤ a) : a ∉ X.fs := fun hb => by
  obtain ⟨_, o, ho, _⟩ := I.ok.funs.mem hb
  exact absurd (Nat.lt_of_lt_of_le (Heap.lt_size ho) (Nat.le_trans I.sz h)) (Nat.lt_irrefl _)
theorem Inv.cne (I : Inv X pins σ H s) : ∀ x c, X.env.cells.lookup x = some c → c ≠ X.env.locals := fun x c e z => by
  obtain ⟨v, o, ho, hd⟩ := I.cell x c e
  obtain ⟨m, ⟨o', es, ep, ho', hd', _⟩, _⟩ := I.loc
  rw [z, ho'] at ho; cases ho; rw [hd'] at hd; cases hd
theorem Inv.funs (I : Inv X pins σ H s) : s.heap.FunFrames X.base X.outer := by
  have all : ∀ (l : List Env), (∀ b ∈ frs l, b ∈ X.fs) → X.s₀.heap.FunFrames X.base l → s.heap.FunFrames X.base l := by
    intro l
    induction l with
    | nil => intro _ _; trivial
    | cons env r ih =>
      intro hs hl
      obtain ⟨hk, ⟨L, o, hf, hn, ho, hd⟩, hr⟩ := hl
      have hL : L ∈ X.fs := hs L (by unfold frs; rw [List.filterMap_cons, hf]; exact List.mem_cons_self)
      obtain ⟨sl, e⟩ := I.base.slot L o ho (I.ok.frf L hL) hL fun z => I.ok.exfs L z hL
      exact ⟨hk, ⟨L, _, hf, hn, e, hd⟩, ih (fun b hb => hs b (by unfold frs; rw [List.filterMap_cons, hf]; exact List.mem_cons_of_mem _ hb)) hr⟩
  exact all X.outer (fun _ hb => hb) I.ok.funs
theorem Inv.stack (I : Inv X pins σ H s) : s.heap.FunFrames X.base X.stack := by
  rcases I.ok.stk with e | ⟨e, hf⟩
  · rw [e]; exact I.funs
  · rw [e]
    obtain ⟨m, hn, _⟩ := I.loc
    refine .cons (by rw [I.ok.kind]; decide) hf hn ?_ I.funs
    exact Heap.get?_none_of_le (Nat.le_trans I.ok.bsz I.ok.above)
theorem Inv.stkSub (I : Inv X pins σ H s) : ∀ b ∈ frs X.stack, b ∈ X.env.locals :: X.fs := fun b hb => by
  rcases I.ok.stk with e | ⟨e, hf⟩
  · rw [e] at hb; exact List.mem_cons_of_mem _ hb
  · rw [e] at hb
    unfold frs at hb
    rw [List.filterMap_cons, hf] at hb
    exact hb
theorem Inv.stkFree (I : Inv X pins σ H s) : ∀ b ∈ frs X.stack, H b = none := fun b hb => by
  rcases List.mem_cons.mp (I.stkSub b hb) with e | hb
  · rw [e]; exact I.free
  · obtain ⟨_, o, ho, _⟩ := I.ok.funs.mem hb
    exact I.base.free b o ho (I.ok.frf b hb) fun z => I.ok.exfs b z hb
theorem Inv.step {g' : Array GenState} {t' : Nat} {d' : Drawn} {ch : List Addr} (I : Inv X pins σ H s)
    (hch : ∀ b ∈ ch, (b ∈ X.ex ∨ X.s₀.heap.objs.size ≤ b) ∧ b ≠ X.env.locals ∧ (∀ x c, X.env.cells.lookup x = some c → c ≠ b) ∧ ∀ p ∈ X.pn ++ pins, p.1 ≠ b)
    (keep : ∀ b o, b ≠ X.env.locals → b ∉ X.fs → b ∉ ch → s.heap.get? b = some o → H b = none → h'.get? b = some o)
    (slot : ∀ b o, b ≠ X.env.locals → b ∈ X.fs → b ∉ ch → s.heap.get? b = some o → H b = none → ∃ sl, h'.get? b = some { o with slots := sl }) (free : ∀ b o, b ∉ ch → s.heap.get? b = some o → H b = none → H' b = none)
    (there : ∀ b o, b ∉ ch → s.heap.get? b = some o → ∃ o', h'.get? b = some o')
    (tups : ∀ b xs, H b = some (.tup xs) → H' b = some (.tup xs)) (frzs : ∀ b o u, H b = some (.frz o u) → H' b = some (.frz o u)) (tbls : ∀ b ps, H b = some (.tbl ps) → ∃ more, H' b = some (.tbl (ps ++ more)))
    (ns : ∀ m, s.heap.Ns X.env.locals m → h'.Ns X.env.locals m) (hok : HOk X.prog X.w H' h') (hg : AllBare g') :
    Inv X pins σ H' { s with heap := h', gens := g', drawn := d', toks := t' } := by
  have neL : ∀ b o, X.s₀.heap.get? b = some o → b ≠ X.env.locals := fun b o e => Nat.ne_of_lt (Nat.lt_of_lt_of_le (Heap.lt_size e) I.ok.above)
  have neC : ∀ b o, X.s₀.heap.get? b = some o → b ∉ X.ex → b ∉ ch := fun b o e hx hb => by
    rcases (hch b hb).1 with z | z
    · exact hx z
    · exact absurd (Nat.lt_of_lt_of_le (Heap.lt_size e) z) (Nat.lt_irrefl _)
  have cellK : ∀ x c, X.env.cells.lookup x = some c → ∀ v, s.heap.IsCell c v → h'.IsCell c v := fun x c e v ⟨o, ho, hd⟩ => by
    have nch : c ∉ ch := fun z => (hch c z).2.2.1 x c e rfl
    by_cases hc : c ∈ X.fs
    · obtain ⟨sl, q⟩ := slot c o (I.cne x c e) hc nch ho (I.freeC x c e)
      exact ⟨_, q, hd⟩
    · exact ⟨o, keep c o (I.cne x c e) hc nch ho (I.freeC x c e), hd⟩
  refine ⟨I.ok, I.os, hg, ⟨fun b o e n hb hx => ?_, fun b o e n hb hx => ?_, fun b o e n hx => ?_, fun b o e hx => ?_, fun b xs e => tups b xs (I.base.tups b xs e), fun b o xs e => frzs b o xs (I.base.frzs b o xs e), fun b ps e => ?_⟩, ?_, fun x c e => ?_, ?_, fun x c e => ?_, fun p hp => ?_, hok, I.len⟩
  · exact keep b o (neL b o e) hb (neC b o e hx) (I.base.keep b o e n hb hx) (I.base.free b o e n hx)
  · obtain ⟨sl, e1⟩ := I.base.slot b o e n hb hx
    obtain ⟨sl', e2⟩ := slot b _ (neL b o e) hb (neC b o e hx) e1 (I.base.free b o e n hx)
    exact ⟨sl', e2⟩
  · obtain ⟨o', e1⟩ := I.base.there b o e hx
    exact free b o' (neC b o e hx) e1 (I.base.free b o e n hx)
  · obtain ⟨o', e1⟩ := I.base.there b o e hx
    exact there b o' (neC b o e hx) e1
  · obtain ⟨m1, e1⟩ := I.base.tbls b ps e
    obtain ⟨m2, e2⟩ := tbls b _ e1
    exact ⟨m1 ++ m2, by rw [e2, Array.append_assoc]⟩
  · obtain ⟨m, hn, hl⟩ := I.loc
    refine ⟨m, ns m hn, fun i x v e1 e2 e3 => ?_⟩
    obtain ⟨u, r, l⟩ := hl i x v e1 e2 e3
    refine ⟨u, r, ?_⟩
    rcases l with l | ⟨k, c, e, z⟩
    · exact .inl l
    · exact .inr ⟨k, c, e, cellK x c e _ z⟩
  · obtain ⟨v, z⟩ := I.cell x c e
    exact ⟨v, cellK x c e v z⟩
  · obtain ⟨m, ⟨o, _, _, ho, _⟩, _⟩ := I.loc
    exact free _ o (fun z => (hch _ z).2.1 rfl) ho I.free
  · obtain ⟨v, o, ho, hd⟩ := I.cell x c e
    exact free c o (fun z => (hch c z).2.2.1 x c e rfl) ho (I.freeC x c e)
  · obtain ⟨e, n, ne, nf, d⟩ := I.pin p hp
    have nch : p.1 ∉ ch := fun z => (hch p.1 z).2.2.2 p hp rfl
    exact ⟨keep p.1 p.2 ne nf nch e n, free p.1 p.2 nch e n, ne, nf, d⟩
theorem Inv.un {t' : Nat} (I : Inv X pins σ H s) (u : Un X.fs [] H H' s.heap h') (hok : HOk X.prog X.w H' h') : Inv X pins σ H' { s with heap := h', toks := t' } := by
  obtain ⟨m, ⟨o, es, ep, ho, r⟩, _⟩ := id I.loc
  obtain ⟨sl, hL⟩ := u.any ho I.free (by simp)
  exact I.step (g' := s.gens) (d' := s.drawn) (ch := []) (fun _ z => nomatch z) (fun b o _ hb _ e n => u.keep b o e n hb (by simp)) (fun b o _ hb _ e n => u.slot b o e n hb (by simp)) (fun b o _ e n => u.free b o e n (by simp)) (fun b o _ e => u.there b o e (by simp)) u.tups u.frzs u.tbls (fun m' hm => by
    obtain ⟨o', es', ep', ho', r'⟩ := hm
    rw [ho] at ho'; cases ho'
    exact ⟨_, es', ep', hL, r'⟩) hok I.bare
theorem Inv.call {g' : Array GenState} {t' : Nat} {d' : Drawn} {ch : List Addr} (I : Inv X pins σ H s) (u : Un (frs X.stack) ch H H' s.heap h') (hok : HOk X.prog X.w H' h') (hg : AllBare g')
    (hch : ∀ b ∈ ch, (b ∈ X.ex ∨ X.s₀.heap.objs.size ≤ b) ∧ b ≠ X.env.locals ∧ (∀ x c, X.env.cells.lookup x = some c → c ≠ b) ∧ ∀ p ∈ X.pn ++ pins, p.1 ≠ b) :
    Inv X pins σ H' { s with heap := h', gens := g', drawn := d', toks := t' } := by
  obtain ⟨m, ⟨o, es, ep, ho, r⟩, _⟩ := id I.loc
  obtain ⟨sl, hL⟩ := u.any ho I.free fun z => (hch _ z).2.1 rfl
  exact I.step (ch := ch) hch (fun b o hL hb hc e n => u.keep b o e n (fun z => (List.mem_cons.mp (I.stkSub b z)).elim hL hb) hc) (fun b o _ _ hc e n => u.any e n hc) (fun b o hc e n => u.free b o e n hc) (fun b o hc e => u.there b o e hc) u.tups u.frzs u.tbls (fun m' hm => by
    obtain ⟨o', es', ep', ho', r'⟩ := hm
    rw [ho] at ho'; cases ho'
    exact ⟨_, es', ep', hL, r'⟩) hok hg
theorem Inv.turned {t' : Nat} {it : Addr} (I : Inv X pins σ H s) (k : ∀ b o, b ≠ it → s.heap.get? b = some o → h'.get? b = some o) (hn : H it = none) (hL : it ≠ X.env.locals)
    (h1 : it ∈ X.ex ∨ X.s₀.heap.objs.size ≤ it) (h2 : ∀ x c, X.env.cells.lookup x = some c → c ≠ it) (h3 : ∀ p ∈ X.pn ++ pins, p.1 ≠ it) : Inv X pins σ H { s with heap := h', toks := t' } := by
  have nit : ∀ b u, H b = some u → b ≠ it := fun b u e z => by rw [z, hn] at e; cases e
  refine I.step (g' := s.gens) (d' := s.drawn) (ch := [it]) (fun b hb => ?_) (fun b o _ _ hc e _ => k b o (fun z => hc (by simp [z])) e) (fun b o _ _ hc e _ => ⟨o.slots, k b o (fun z => hc (by simp [z])) e⟩) (fun _ _ _ _ n => n)
    (fun b o hc e => ⟨o, k b o (fun z => hc (by simp [z])) e⟩) (fun _ _ e => e) (fun _ _ _ e => e) (fun b ps e => ⟨#[], by rw [e]; simp⟩) (fun m hm => ?_) (fun b u e => ?_) I.bare
  · have e : b = it := by simpa using hb
    subst e
    exact ⟨h1, hL, h2, h3⟩
  · obtain ⟨o, es, ep, ho, r⟩ := hm
    exact ⟨o, es, ep, k _ o (Ne.symm hL) ho, r⟩
  · refine (I.hok b u e).stay (fun c v hc q => k c v ?_ q) (fun _ q => q) fun _ _ q => q
    rcases hc with z | z
    · rw [z]; exact nit b u e
    · exact nit c _ z
theorem Inv.tok (I : Inv X pins σ H s) (t : Nat) : Inv X pins σ H { s with toks := t } := I.un (h' := s.heap) (t' := t) Un.refl I.hok
theorem Inv.kept {t' : Nat} (I : Inv X pins σ H s) (k : ∀ b u, s.heap.get? b = some u → h'.get? b = some u) : Inv X pins σ H { s with heap := h', toks := t' } := I.un (Un.kept k) (I.hok.kept k)
theorem Inv.laid {a : Addr} {o : HO} {t' : Nat} (I : Inv X pins σ H s) (k : ∀ b u, s.heap.get? b = some u → h'.get? b = some u) (hp : s.heap.objs.size ≤ a) (new : ObjOk X.prog X.w (upd H a o) h' a o) :
    Inv X pins σ (upd H a o) { s with heap := h', toks := t' } := I.un (Un.laid k hp (I.hok.fresh hp)) (I.hok.laid k hp new)
theorem Inv.write {x e : Addr} {o : HO} {t' : Nat} (I : Inv X pins σ H s) (mu : Mut (H x)) (he : e = x ∨ H e = some (.own x)) (k : ∀ b u, b ≠ e → s.heap.get? b = some u → h'.get? b = some u) (heo : ∃ u, h'.get? e = some u)
    (new : ObjOk X.prog X.w (upd H x o) h' x o) : Inv X pins σ (upd H x o) { s with heap := h', toks := t' } := I.un (Un.write mu he k heo) (I.hok.write mu he k heo new)
theorem Inv.pins_of {pins' : List (Addr × Obj)} (I : Inv X pins σ H s) (h : ∀ p ∈ pins', s.heap.get? p.1 = some p.2 ∧ H p.1 = none ∧ p.1 ≠ X.env.locals ∧ p.1 ∉ X.fs ∧ ∀ v, p.2.data ≠ .cell v) : Inv X pins' σ H s :=
  ⟨I.ok, I.os, I.bare, I.base, I.loc, I.cell, I.free, I.freeC, fun p hp => (List.mem_append.mp hp).elim (fun z => I.pin p (List.mem_append_left _ z)) (h p), I.hok, I.len⟩
theorem nodup_ix {N : List Str} (hN : N.Nodup) {i j : Nat} {x : Str} (a : N[i]? = some x) (b : N[j]? = some x) : i = j := by
  obtain ⟨h1, e1⟩ := List.getElem?_eq_some_iff.mp a
  obtain ⟨h2, e2⟩ := List.getElem?_eq_some_iff.mp b
  exact (List.getElem_inj hN).mp (e1.trans e2.symm)
theorem store_ok2 {M : Model} {A : Around} {E : Value → Shared → Prop} {i : Nat} {x : Str} {v : V} {u : Value} {Q : Unit → Shared → Prop} (I : Inv X pins σ H s) (hN : X.N.Nodup) (hi : X.N[i]? = some x) (hx : Loc X.env.scope x) (r : RelV v u)
    (h : ∀ s', Inv X pins (σ.set i (some v)) H s' → (∃ a, Heap.SameBut a s.heap s'.heap ∧ (a = X.env.locals ∨ X.env.cells.lookup x = some a)) → Q () s') (hf : X.fn x = true ∨ X.env.scope.names.lookup x = some .local := by first | exact .inl rfl | exact .inr rfl | assumption) : wpAny M A (storeName X.env x u) Q E s := by
  obtain ⟨m, hn, hl⟩ := id I.loc
  have hcls : (X.env.scope.kind == .class || (X.env.scope.kind == .module && X.env.locals != X.env.globals)) = false := by rw [I.ok.kind]; rfl
  have hiσ : i < σ.length := by rw [I.len]; exact (List.getElem?_eq_some_iff.mp hi).1
  have cne := I.cne
  have tracked : ∀ {a : Addr} {h' : Heap}, (∃ o, s.heap.get? a = some o ∧ H a = none) → Heap.SameBut a s.heap h' → HOk X.prog X.w H h' := fun {a h'} ha hs b ob e => by
    obtain ⟨_, _, hfree⟩ := ha
    refine (I.hok b ob e).stay (fun c w' hc q => (hs.2 c ?_).trans q) (fun _ q => q) fun _ _ q => q
    rintro rfl
    rcases hc with rfl | hc
    · rw [hfree] at e; cases e
    · rw [hfree] at hc; cases hc
  rcases hx with hk | hk
  · refine wpAny_storeName_local hk hn (fun h' hn' hs => ?_) hcls
    obtain ⟨oL, _, _, hoL, _⟩ := id hn
    refine h _ ⟨I.ok, I.os, I.bare, ⟨fun b o e n hb hx => ?_, fun b o e n hb hx => ?_, I.base.free, fun b o e hx => ?_, I.base.tups, I.base.frzs, I.base.tbls⟩, ⟨_, hn', fun j y v' e1 e2 e3 => ?_⟩, fun y c e => ?_, I.free, I.freeC, fun p hp => ?_, tracked ⟨oL, hoL, I.free⟩ hs, by simpa using I.len⟩ ⟨_, hs, .inl rfl⟩
    · exact (hs.2 b (Nat.ne_of_lt (Nat.lt_of_lt_of_le (Heap.lt_size e) I.ok.above))).trans (I.base.keep b o e n hb hx)
    · obtain ⟨sl, e1⟩ := I.base.slot b o e n hb hx
      exact ⟨sl, (hs.2 b (Nat.ne_of_lt (Nat.lt_of_lt_of_le (Heap.lt_size e) I.ok.above))).trans e1⟩
    · obtain ⟨o', e1⟩ := I.base.there b o e hx
      exact ⟨o', (hs.2 b (Nat.ne_of_lt (Nat.lt_of_lt_of_le (Heap.lt_size e) I.ok.above))).trans e1⟩
    · by_cases hj : j = i
      · subst hj
        rw [hi] at e1; cases e1
        rw [List.getElem?_set_self hiσ] at e2
        cases e2
        exact ⟨u, r, .inl ⟨hk, by simp⟩⟩
      · rw [List.getElem?_set_ne (Ne.symm hj)] at e2
        obtain ⟨u', r', q⟩ := hl j y v' e1 e2 e3
        refine ⟨u', r', ?_⟩
        rcases q with ⟨k, e⟩ | ⟨k, c, e, z⟩
        · refine .inl ⟨k, ?_⟩
          have : y ≠ x := fun e => hj (nodup_ix hN e1 (e ▸ hi))
          simp [this, e]
        · exact .inr ⟨k, c, e, z.sameBut hs (cne y c e)⟩
    · obtain ⟨w', z⟩ := I.cell y c e
      exact ⟨w', z.sameBut hs (cne y c e)⟩
    · obtain ⟨e, n, ne, nf, d⟩ := I.pin p hp
      exact ⟨(hs.2 p.1 ne).trans e, n, ne, nf, d⟩
  · have hfn : X.fn x = true := by
      rcases hf with z | z
      · exact z
      · rw [z] at hk; cases hk
    obtain ⟨c, hc⟩ := I.ok.has x (.inl hk)
    obtain ⟨w', z⟩ := I.cell x c hc
    refine wpAny_storeName_cell I.ok.kind hk hc z (fun h' hc' hs => ?_)
    obtain ⟨oc, hoc, hocd⟩ := id z
    refine h { s with heap := h' } ⟨I.ok, I.os, I.bare, ⟨fun b o e n hb hx => ?_, fun b o e n hb hx => ?_, I.base.free, fun b o e hx => ?_, I.base.tups, I.base.frzs, I.base.tbls⟩, ⟨m, hn.sameBut hs (Ne.symm (cne x c hc)), fun j y v' e1 e2 e3 => ?_⟩, fun y c' e => ?_, I.free, I.freeC, fun p hp => ?_, tracked ⟨oc, hoc, I.freeC x c hc⟩ hs, by simpa using I.len⟩ ⟨c, hs, .inr hc⟩
    · exact (hs.2 b (Nat.ne_of_lt (Nat.lt_of_lt_of_le (Heap.lt_size e) (I.ok.cab x c hfn hc)))).trans (I.base.keep b o e n hb hx)
    · obtain ⟨sl, e1⟩ := I.base.slot b o e n hb hx
      exact ⟨sl, (hs.2 b (Nat.ne_of_lt (Nat.lt_of_lt_of_le (Heap.lt_size e) (I.ok.cab x c hfn hc)))).trans e1⟩
    · obtain ⟨o', e1⟩ := I.base.there b o e hx
      exact ⟨o', (hs.2 b (Nat.ne_of_lt (Nat.lt_of_lt_of_le (Heap.lt_size e) (I.ok.cab x c hfn hc)))).trans e1⟩
    · by_cases hj : j = i
      · subst hj
        rw [hi] at e1; cases e1
        rw [List.getElem?_set_self hiσ] at e2
        cases e2
        exact ⟨u, r, .inr ⟨.inl hk, c, hc, hc'⟩⟩
      · rw [List.getElem?_set_ne (Ne.symm hj)] at e2
        obtain ⟨u', r', q⟩ := hl j y v' e1 e2 e3
        refine ⟨u', r', ?_⟩
        rcases q with q | ⟨k, c', e, z'⟩
        · exact .inl q
        · refine .inr ⟨k, c', e, z'.sameBut hs ?_⟩
          rintro rfl
          exact hj (nodup_ix hN e1 (I.ok.inj _ _ _ e hc ▸ hi))
    · by_cases hcc : c' = c
      · subst hcc; exact ⟨_, hc'⟩
      · obtain ⟨w2, z2⟩ := I.cell y c' e
        exact ⟨w2, z2.sameBut hs hcc⟩
    · obtain ⟨e, n, ne, nf, d⟩ := I.pin p hp
      refine ⟨(hs.2 p.1 ?_).trans e, n, ne, nf, d⟩
      intro q
      rw [q, hoc] at e
      have q' : oc = p.2 := Option.some.inj e
      exact d w' (by rw [← q']; exact hocd)
theorem store_ok {M : Model} {A : Around} {E : Value → Shared → Prop} {i : Nat} {x : Str} {v : V} {u : Value} {Q : Unit → Shared → Prop} (I : Inv X pins σ H s) (hN : X.N.Nodup) (hi : X.N[i]? = some x) (hx : Loc X.env.scope x) (r : RelV v u)
    (h : ∀ s', Inv X pins (σ.set i (some v)) H s' → Q () s') (hf : X.fn x = true ∨ X.env.scope.names.lookup x = some .local := by first | exact .inl rfl | exact .inr rfl | assumption) : wpAny M A (storeName X.env x u) Q E s :=
  store_ok2 I hN hi hx r (fun s' I' _ => h s' I') hf
theorem Inv.call' {s' : Shared} {ch : List Addr} (I : Inv X pins σ H s) (ho : s'.os = s.os) (u : Un (frs X.stack) ch H H' s.heap s'.heap) (hok : HOk X.prog X.w H' s'.heap) (hg : AllBare s'.gens)
    (hch : ∀ b ∈ ch, (b ∈ X.ex ∨ X.s₀.heap.objs.size ≤ b) ∧ b ≠ X.env.locals ∧ (∀ x c, X.env.cells.lookup x = some c → c ≠ b) ∧ ∀ p ∈ X.pn ++ pins, p.1 ≠ b) : Inv X pins σ H' s' := by
  obtain ⟨h', g', d', t', o'⟩ := s'
  have e : o' = s.os := ho
  subst e
  exact I.call (g' := g') (t' := t') (d' := d') u hok hg hch
end
abbrev XK := Value → Option Addr → Hp → Prop
abbrev St := List (Option V)
abbrev VK := V → Hp → Prop
abbrev TE := St → Hp → VK → Prop
abbrev TT := St → Hp → (Bool → Hp → Prop) → Prop
abbrev TA := St → Hp → (List V → Hp → Prop) → Prop
structure Ends where
  nx : St → Hp → Prop
  rt : VK
  bk : St → Hp → Prop := fun _ _ => False
  ct : St → Hp → Prop := fun _ _ => False
abbrev TS := Ends → St → Hp → Prop
def EP (X : Cx) (pins : List (Addr × Obj)) (σ : St) (Q : VK) (u : Value) (s' : Shared) : Prop := ∃ v H', Inv X pins σ H' s' ∧ RelV v u ∧ Q v H'
def TP (X : Cx) (pins : List (Addr × Obj)) (σ : St) (Q : Bool → Hp → Prop) (b : Bool) (s' : Shared) : Prop := ∃ H', Inv X pins σ H' s' ∧ Q b H'
def AP (X : Cx) (pins : List (Addr × Obj)) (σ : St) (Q : List V → Hp → Prop) (us : List Value) (s' : Shared) : Prop := ∃ vs H', Inv X pins σ H' s' ∧ Vals vs us ∧ Q vs H'
def SP (X : Cx) (pins : List (Addr × Obj)) (D : Ends) (f : Flow) (s' : Shared) : Prop :=
  match f with
  | .next => ∃ σ' H', Inv X pins σ' H' s' ∧ D.nx σ' H'
  | .brk => ∃ σ' H', Inv X pins σ' H' s' ∧ D.bk σ' H'
  | .cont => ∃ σ' H', Inv X pins σ' H' s' ∧ D.ct σ' H'
  | .ret u => ∃ v σ' H', Inv X pins σ' H' s' ∧ RelV v u ∧ D.rt v H'
def PE (X : Cx) (e : Expr) (t : TE) : Prop :=
  ∀ (pins : List (Addr × Obj)) (s : Shared) (σ : St) (H : Hp) (Q : VK), Inv X pins σ H s → t σ H Q → wpAny (model X.prog X.w) X.A (eval e X.env) (EP X pins σ Q) X.xe s
def PT (X : Cx) (e : Expr) (t : TT) : Prop :=
  ∀ (pins : List (Addr × Obj)) (s : Shared) (σ : St) (H : Hp) (Q : Bool → Hp → Prop), Inv X pins σ H s → t σ H Q → wpAny (model X.prog X.w) X.A (isTrue e X.env (eval e X.env)) (TP X pins σ Q) X.xe s
def PW (X : Cx) (e : Expr) (t : TT) : Prop :=
  ∀ (whole : Sem Value) (pins : List (Addr × Obj)) (s : Shared) (σ : St) (H : Hp) (Q : Bool → Hp → Prop), Inv X pins σ H s → t σ H Q → wpAny (model X.prog X.w) X.A (isTrue e X.env whole) (TP X pins σ Q) X.xe s
theorem PW.pt {X : Cx} {e : Expr} {t : TT} (h : PW X e t) : PT X e t := h _
def PA (X : Cx) (es : List Expr) (t : TA) : Prop :=
  ∀ (pos : Pos) (pins : List (Addr × Obj)) (s : Shared) (σ : St) (H : Hp) (Q : List V → Hp → Prop), Inv X pins σ H s → t σ H Q → wpAny (model X.prog X.w) X.A (spliced (backTo pos (starEach es X.env))) (AP X pins σ Q) X.xe s
def PS (X : Cx) (st : Stmt) (t : TS) : Prop :=
  ∀ (pins : List (Addr × Obj)) (s : Shared) (σ : St) (H : Hp) (D : Ends), Inv X pins σ H s → t D σ H → wpAny (model X.prog X.w) X.A (exec st X.env) (SP X pins D) X.xe s
def PSs (X : Cx) (st : List Stmt) (t : TS) : Prop :=
  ∀ (pins : List (Addr × Obj)) (s : Shared) (σ : St) (H : Hp) (D : Ends), Inv X pins σ H s → t D σ H → wpAny (model X.prog X.w) X.A (execs st X.env) (SP X pins D) X.xe s
theorem thn {α : Type} {t : Sem α} {Q Q' : α → Shared → Prop} {M : Model} {A : Around} {E : Value → Shared → Prop} {s : Shared} (h : wpAny M A t Q E s) (hQ : ∀ a s, Q a s → Q' a s) : wpAny M A t Q' E s := wpAny_mono h hQ fun _ _ x => x
end L2
namespace L2
open PySem PySem.Spec PyProof.Rows
section
variable {X : Cx}
theorem bin {a b : Expr} {ta tb : TE} (ha : PE X a ta) (hb : PE X b tb) {pins : List (Addr × Obj)} {s : Shared} {σ : St} {H : Hp} {R : V → V → Hp → Prop} (I : Inv X pins σ H s) (h : ta σ H fun x H1 => tb σ H1 fun y H2 => R x y H2)
    {α : Type} {Q : α → Shared → Prop} {f : Value → Value → Sem α}
    (hf : ∀ v u s2 x y H2, Inv X pins σ H2 s2 → RelV x v → RelV y u → R x y H2 → wpAny (model X.prog X.w) X.A (f v u) Q X.xe s2) :
    wpAny (model X.prog X.w) X.A (eval a X.env) (fun v s₁ => wpAny (model X.prog X.w) X.A (eval b X.env) (fun u s₂ => wpAny (model X.prog X.w) X.A (f v u) Q X.xe s₂) X.xe s₁) X.xe s := by
  refine thn (ha pins s σ H _ I h) fun v s1 ⟨x, H1, I1, r1, q1⟩ => ?_
  refine thn (hb pins s1 σ H1 _ I1 q1) fun u s2 ⟨y, H2, I2, r2, q2⟩ => ?_
  exact hf v u s2 x y H2 I2 r1 r2 q2
def tVar (i : Nat) : TE := fun σ H Q => ∃ v, σ[i]? = some (some v) ∧ Q v H
def tC (v : V) : TE := fun _ H Q => Q v H
theorem pe_var {i : Nat} {x : Str} {pos : Pos} (hN : X.N[i]? = some x) (hv : Vis X.env.scope x) (hd : (x == ("__debug__" : Str)) = false := by decide) (hcd : (x == ("__classdict__" : Str)) = false := by decide) : PE X (.Name x pos) (tVar i) := by
  intro pins s σ H Q I h
  obtain ⟨v, e, h⟩ := h
  obtain ⟨m, hn, hl⟩ := I.loc
  obtain ⟨u, r, l⟩ := hl i x v hN e hv
  have fin : EP X pins σ Q u s := ⟨v, H, I, r, h⟩
  rcases l with ⟨hk, hm⟩ | ⟨hk, c, hc, hcell⟩
  · exact wpAny_Name (wpAny_loadName_local I.ok.kind hk hn hm fin) hd
  · rcases hk with hk | hk
    · exact wpAny_Name (wpAny_loadName_cell I.ok.kind hk hc hcell fin) hd
    · exact wpAny_Name (wpAny_loadName_free I.ok.kind hk hc hcell fin hcd) hd
theorem pe_int {i j pos} : PE X (.Constant (.int i) j pos) (tC (.int i)) := fun _ _ _ H _ I h => wpAny_Constant_int ⟨.int i, H, I.tok _, ⟨_, rfl⟩, h⟩
theorem pe_bl {b j pos} : PE X (.Constant (.bool b) j pos) (tC (.bl b)) := fun _ _ _ H _ I h => Constant_bool ⟨.bl b, H, I, rfl, h⟩
theorem pe_non {j pos} : PE X (.Constant .none j pos) (tC .non) := fun _ _ _ H _ I h => Constant_none ⟨.non, H, I, rfl, h⟩
theorem pe_str {x j pos} : PE X (.Constant (.str x) j pos) (tC (.str x)) := fun _ _ _ H _ I h => Calls.Constant_str ⟨.str x, H, I.tok _, ⟨_, rfl⟩, h⟩
def Gl (X : Cx) (x : Str) : Prop := X.env.kindOf x = some .globalImplicit
theorem ld_glob {E : Value → Shared → Prop} {pins : List (Addr × Obj)} {s : Shared} {σ : St} {H : Hp} {x : Str} {u : Value} {pos : Pos} {Q : Value → Shared → Prop} (I : Inv X pins σ H s) (hg : Gl X x) (hm : X.mg x = some u) (h : Q u s)
    (hd : (x == ("__debug__" : Str)) = false := by decide) : wpAny (model X.prog X.w) X.A (eval (.Name x pos) X.env) Q E s :=
  Calls.Name_function_global I.ok.kind hg (Calls.loadGlobal_global (by rw [I.ok.glob]; exact I.mod.glob.keeps I.bk) hm h) hd
theorem ld_blt {E : Value → Shared → Prop} {pins : List (Addr × Obj)} {s : Shared} {σ : St} {H : Hp} {x : Str} {u : Value} {pos : Pos} {Q : Value → Shared → Prop} (I : Inv X pins σ H s) (hg : Gl X x) (hm : X.mg x = none) (hv : bootBuiltins x = some u) (h : Q u s)
    (hn : x ≠ "__name__" := by decide) (hd : (x == ("__debug__" : Str)) = false := by decide) : wpAny (model X.prog X.w) X.A (eval (.Name x pos) X.env) Q E s := by
  obtain ⟨mb, h1, h2⟩ := I.mod.blt
  exact Calls.Name_function_global I.ok.kind hg (Calls.loadGlobal_builtin (by rw [I.ok.glob]; exact I.mod.glob.keeps I.bk) hm (by rw [I.ok.blt]; exact h1.keeps I.bk) ((h2 x hn).trans hv) h) hd
theorem pe_bltn {x : Str} {v : V} {u : Value} {pos : Pos} (hg : Gl X x) (hm : X.mg x = none) (hv : bootBuiltins x = some u) (r : RelV v u) (hn : x ≠ "__name__" := by decide) (hd : (x == ("__debug__" : Str)) = false := by decide) : PE X (.Name x pos) (tC v) :=
  fun _ _ _ H _ I h => ld_blt I hg hm hv ⟨v, H, I, r, h⟩ hn hd
variable {a b : Expr} {ta tb : TE} {pos : Pos}
def PC (X : Cx) (op : CmpOp) (a b : Expr) (t : TE) : Prop :=
  ∀ (pins : List (Addr × Obj)) (s : Shared) (σ : St) (H : Hp) (Q : VK), Inv X pins σ H s → t σ H Q →
    wpAny (model X.prog X.w) X.A (eval a X.env) (fun v s₁ => wpAny (model X.prog X.w) X.A (eval b X.env) (fun u s₂ => wpAny (model X.prog X.w) X.A (compareOp op v u) (EP X pins σ Q) X.xe s₂) X.xe s₁) X.xe s
def tB (t : TE) : TT := fun σ H Q => t σ H fun x H1 => ∃ c, x = .bl c ∧ Q c H1
theorem pt_cmp {op : CmpOp} {t : TE} (h : PC X op a b t) (h1 : behindInMarks op b = false := by first | exact nobehind _ (by decide) (by decide) | rfl) : PT X (.Compare a [op] [b] pos) (tB t) := by
  intro pins s σ H Q I hw
  refine wpAny_isTrue_Compare1 (thn (h pins s σ H _ I hw) fun v s1 h1 => thn h1 fun u s2 h2 => thn h2 fun c s3 ⟨x, H1, I1, r1, q1⟩ => ?_) h1
  obtain ⟨d, rfl, q⟩ := q1
  cases r1
  exact wpAny_truthy_bool ⟨H1, I1, q⟩
variable {tA tB' : TT} {rest : List Expr}
def tAnd (t u : TT) : TT := fun σ H Q => t σ H fun c H1 => if c = true then u σ H1 Q else Q false H1
def tOr (t u : TT) : TT := fun σ H Q => t σ H fun c H1 => if c = true then Q true H1 else u σ H1 Q
def tNot (t : TT) : TT := fun σ H Q => t σ H fun c H1 => Q (!c) H1
theorem pw_and1 (ha : PT X a tA) : PW X (.BoolOp .And [a] pos) tA := by
  intro wh pins s σ H Q I h
  refine isTrue_and (thn (ha pins s σ H Q I h) fun c s1 e => ?_)
  cases c with
  | true => exact isTrue_and_nil e
  | false => exact e
theorem pw_or1 (ha : PT X a tA) : PW X (.BoolOp .Or [a] pos) tA := by
  intro wh pins s σ H Q I h
  refine isTrue_or (thn (ha pins s σ H Q I h) fun c s1 e => ?_)
  cases c with
  | false => exact isTrue_or_nil e
  | true => exact e
theorem pw_and (ha : PT X a tA) (hb : PW X (.BoolOp .And (b :: rest) pos) tB') : PW X (.BoolOp .And (a :: b :: rest) pos) (tAnd tA tB') := by
  intro wh pins s σ H Q I h
  refine isTrue_and (thn (ha pins s σ H _ I h) fun c s1 ⟨H1, I1, q1⟩ => ?_)
  cases c with
  | true => exact hb wh pins s1 σ H1 Q I1 q1
  | false => exact ⟨H1, I1, q1⟩
theorem pw_or (ha : PT X a tA) (hb : PW X (.BoolOp .Or (b :: rest) pos) tB') : PW X (.BoolOp .Or (a :: b :: rest) pos) (tOr tA tB') := by
  intro wh pins s σ H Q I h
  refine isTrue_or (thn (ha pins s σ H _ I h) fun c s1 ⟨H1, I1, q1⟩ => ?_)
  cases c with
  | true => exact ⟨H1, I1, q1⟩
  | false => exact hb wh pins s1 σ H1 Q I1 q1
theorem pt_not (ha : PT X a tA) : PT X (.UnaryOp .Not a pos) (tNot tA) := by
  intro pins s σ H Q I h
  exact isTrue_not (ha pins s σ H (fun c H1 => Q (!c) H1) I h)
def tAndV (ta tb : TE) : TE := fun σ H Q => ta σ H fun x H1 => ∃ c, x = .bl c ∧ if c = true then tb σ H1 Q else Q (.bl false) H1
def tOrV (ta tb : TE) : TE := fun σ H Q => ta σ H fun x H1 => ∃ c, x = .bl c ∧ if c = true then Q (.bl true) H1 else tb σ H1 Q
def tNotV (ta : TE) : TE := fun σ H Q => ta σ H fun x H1 => ∃ c, x = .bl c ∧ Q (.bl (!c)) H1
theorem pe_one {op} {t : TE} (h : PE X a t) : PE X (.BoolOp op [a] pos) t := fun pins s σ H Q I hw => BoolOp_one (h pins s σ H Q I hw)
theorem pe_and (ha : PE X a ta) (hb : PE X (.BoolOp .And (b :: rest) pos) tb) : PE X (.BoolOp .And (a :: b :: rest) pos) (tAndV ta tb) := by
  intro pins s σ H Q I h
  refine BoolOp_and (thn (ha pins s σ H _ I h) fun v s1 ⟨x, H1, I1, r1, q1⟩ => ?_)
  obtain ⟨c, rfl, q1⟩ := q1
  cases r1
  refine wpAny_truthy_bool ?_
  cases c with
  | true => exact hb pins s1 σ H1 Q I1 q1
  | false => exact ⟨.bl false, H1, I1, rfl, q1⟩
theorem pe_or (ha : PE X a ta) (hb : PE X (.BoolOp .Or (b :: rest) pos) tb) : PE X (.BoolOp .Or (a :: b :: rest) pos) (tOrV ta tb) := by
  intro pins s σ H Q I h
  refine BoolOp_or (thn (ha pins s σ H _ I h) fun v s1 ⟨x, H1, I1, r1, q1⟩ => ?_)
  obtain ⟨c, rfl, q1⟩ := q1
  cases r1
  refine wpAny_truthy_bool ?_
  cases c with
  | false => exact hb pins s1 σ H1 Q I1 q1
  | true => exact ⟨.bl true, H1, I1, rfl, q1⟩
theorem pe_not (ha : PE X a ta) : PE X (.UnaryOp .Not a pos) (tNotV ta) := by
  intro pins s σ H Q I h
  refine UnaryOp_ (thn (ha pins s σ H _ I h) fun v s1 ⟨x, H1, I1, r1, q1⟩ => ?_)
  obtain ⟨c, rfl, q1⟩ := q1
  cases r1
  exact not_of (wpAny_truthy_bool ⟨.bl (!c), H1, I1, rfl, q1⟩)
def tIf (t : TT) (ta tb : TE) : TE := fun σ H Q => t σ H fun c H1 => if c = true then ta σ H1 Q else tb σ H1 Q
theorem pe_ifExp {c : Expr} (hc : PT X c tA) (ha : PE X a ta) (hb : PE X b tb) : PE X (.IfExp c a b pos) (tIf tA ta tb) := by
  intro pins s σ H Q I h
  refine wpAny_IfExp (thn (hc pins s σ H _ I h) fun d s1 ⟨H1, I1, q1⟩ => ?_)
  cases d with
  | true => exact ha pins s1 σ H1 Q I1 q1
  | false => exact hb pins s1 σ H1 Q I1 q1
end
end L2
namespace L2
open PySem PySem.Spec PyProof.Rows
def SqL (K : PySem.W.Frag) (H : Hp) (a : Addr) (xs : List V) : Prop :=
  Rd H a (.lst xs) ∨
    ∃ (o : Obj) (its : Array Value) (n : Nat), K.lookup a = some o ∧ o.cls = .type "list" ∧ o.dict = none ∧ o.data = .seq its n ∧ its.size ≤ sizeLine ∧ Vals xs its.toList
def SqT (K : PySem.W.Frag) (H : Hp) (a : Addr) (xs : List V) : Prop :=
  Rd H a (.tup xs) ∨
    ∃ (o : Obj) (its : Array Value) (n : Nat), K.lookup a = some o ∧ o.cls = .type "tuple" ∧ o.data = .seq its n ∧ its.size ≤ sizeLine ∧ Vals xs its.toList
def absV : Value → Option V
  | .none => some .non
  | .bool b => some (.bl b)
  | .int i _ => some (.int i)
  | .str x _ => some (.str x)
  | .bytes b _ => some (.byt b)
  | .float b _ => some (.flt b)
  | .ref a => some (.ref a)
  | .type n => some (.ty n)
  | _ => none
theorem RelV.abs {x : V} {u : Value} (r : RelV x u) : absV u = some x := by
  cases x with
  | non => cases r; rfl
  | bl _ => cases r; rfl
  | int _ => obtain ⟨t, rfl⟩ := r; rfl
  | str _ => obtain ⟨t, rfl⟩ := r; rfl
  | byt _ => obtain ⟨t, rfl⟩ := r; rfl
  | flt _ => obtain ⟨t, rfl⟩ := r; rfl
  | ref _ => cases r; rfl
  | ty _ => cases r; rfl
theorem RelV.inj {x y : V} {u : Value} (r : RelV x u) (q : RelV y u) : x = y := Option.some.inj (r.abs.symm.trans q.abs)
theorem Vals.inj : ∀ {xs ys : List V} {us : List Value}, Vals xs us → Vals ys us → xs = ys
  | _, _, _, .nil, .nil => rfl
  | _, _, _, .cons r t, .cons r' t' => by rw [r.inj r', Vals.inj t t']
section
variable {X : Cx} {pins : List (Addr × Obj)} {σ : St} {H : Hp} {s : Shared} {a : Addr} {xs ys : List V}
theorem SqL.of {K : PySem.W.Frag} (h : H a = some (.lst xs)) : SqL K H a xs := .inl (.inl h)
theorem SqT.of {K : PySem.W.Frag} (h : H a = some (.tup xs)) : SqT K H a xs := .inl (.inl h)
theorem Inv.list (I : Inv X pins σ H s) (h : SqL X.K H a xs) : ∃ its : List Value, Vals xs its ∧ PlainL s.heap a its.toArray ∧ xs.length ≤ sizeLine := by
  rcases h with h | ⟨o, its, n, hk, hc, hd, hs, hz, r⟩
  · obtain ⟨z, its, n, r, e⟩ := h.ok I.hok
    exact ⟨its, r, ⟨_, n, e, rfl, rfl, rfl⟩, z⟩
  · refine ⟨its.toList, r, ⟨o, n, I.kIn a o hk, hc, hd, by simpa using hs⟩, ?_⟩
    have e := r.length
    simp only [Array.length_toList] at e
    omega
theorem Inv.tuple (I : Inv X pins σ H s) (h : SqT X.K H a xs) : ∃ its : List Value, Vals xs its ∧ IsTup s.heap a its.toArray ∧ xs.length ≤ sizeLine := by
  rcases h with h | ⟨o, its, n, hk, hc, hs, hz, r⟩
  · obtain ⟨z, its, r, p⟩ := h.ok I.hok
    exact ⟨its, r, p, z⟩
  · refine ⟨its.toList, r, ⟨o, I.kIn a o hk, hc, n, by simpa using hs⟩, ?_⟩
    have e := r.length
    simp only [Array.length_toList] at e
    omega
theorem Inv.list_inj (I : Inv X pins σ H s) (h : SqL X.K H a xs) (h' : SqL X.K H a ys) : xs = ys := by
  obtain ⟨its, r, ⟨o, n, e, _, _, d⟩, _⟩ := I.list h
  obtain ⟨its', r', ⟨o', n', e', _, _, d'⟩, _⟩ := I.list h'
  rw [e] at e'; cases e'
  rw [d] at d'
  injection d' with d1 _
  have : its = its' := by simpa using congrArg Array.toList d1
  subst this
  exact r.inj r'
theorem Inv.tuple_inj (I : Inv X pins σ H s) (h : SqT X.K H a xs) (h' : SqT X.K H a ys) : xs = ys := by
  obtain ⟨its, r, ⟨o, e, _, n, d⟩, _⟩ := I.tuple h
  obtain ⟨its', r', ⟨o', e', _, n', d'⟩, _⟩ := I.tuple h'
  rw [e] at e'; cases e'
  rw [d] at d'
  injection d' with d1 _
  have : its = its' := by simpa using congrArg Array.toList d1
  subst this
  exact r.inj r'
end
abbrev Cx.wish (X : Cx) (E : Value → Shared → Prop) : Cx := { X with xe := E }
abbrev Cx.nox (X : Cx) : Cx := X.wish fun _ _ => False
theorem Cx.Ok.wish {X : Cx} (ok : X.Ok) (E : Value → Shared → Prop) : (X.wish E).Ok :=
  ⟨ok.mod, ok.kind, ok.glob, ok.blt, ok.above, ok.inj, ok.has, ok.cab, ok.hd, ok.frames, ok.stk, ok.exf, ok.bs, ok.bsz, ok.noex, ok.exfs, ok.funs, ok.frf⟩
theorem Cx.Ok.unwish {X : Cx} {E : Value → Shared → Prop} (ok : (X.wish E).Ok) : X.Ok :=
  ⟨ok.mod, ok.kind, ok.glob, ok.blt, ok.above, ok.inj, ok.has, ok.cab, ok.hd, ok.frames, ok.stk, ok.exf, ok.bs, ok.bsz, ok.noex, ok.exfs, ok.funs, ok.frf⟩
section
variable {X : Cx} {pins : List (Addr × Obj)} {σ : St} {H : Hp} {s : Shared} {E : Value → Shared → Prop}
theorem Inv.wish (I : Inv X pins σ H s) (E : Value → Shared → Prop) : Inv (X.wish E) pins σ H s := ⟨I.ok.wish E, I.os, I.bare, I.base, I.loc, I.cell, I.free, I.freeC, I.pin, I.hok, I.len⟩
theorem Inv.unwish (I : Inv (X.wish E) pins σ H s) : Inv X pins σ H s := ⟨I.ok.unwish, I.os, I.bare, I.base, I.loc, I.cell, I.free, I.freeC, I.pin, I.hok, I.len⟩
theorem SP.unwish {D : Ends} {f : Flow} {s' : Shared} (h : SP (X.wish E) pins D f s') : SP X pins D f s' := by
  cases f with
  | next => obtain ⟨σ', H', I, q⟩ := h; exact ⟨σ', H', I.unwish, q⟩
  | brk => obtain ⟨σ', H', I, q⟩ := h; exact ⟨σ', H', I.unwish, q⟩
  | cont => obtain ⟨σ', H', I, q⟩ := h; exact ⟨σ', H', I.unwish, q⟩
  | ret u => obtain ⟨v, σ', H', I, r, q⟩ := h; exact ⟨v, σ', H', I.unwish, r, q⟩
theorem PSs.nox {st : List Stmt} {t : TS} (h : PSs X.nox st t) : PSs X st t := fun pins s σ H D I hw =>
  wpAny_mono (h pins s σ H D (I.wish _) hw) (fun _ _ q => q.unwish) fun _ _ z => False.elim z
end
section
variable {X : Cx} {st : Stmt} {rest : List Stmt} {t u : TS} {e : Expr} {te : TE} {pos : Pos}
def tNext : TS := fun D σ H => D.nx σ H
def tSeq (t u : TS) : TS := fun D σ H => t { D with nx := u D } σ H
theorem pss_nil : PSs X [] tNext := fun _ _ σ H _ I h => wpAny_execs_nil ⟨σ, H, I, h⟩
theorem pss_cons (h1 : PS X st t) (h2 : PSs X rest u) : PSs X (st :: rest) (tSeq t u) := by
  intro pins s σ H D I h
  refine wpAny_execs_cons (thn (h1 pins s σ H { D with nx := u D } I h) fun f s1 q => ?_)
  cases f with
  | next =>
    obtain ⟨σ', H', I', q⟩ := q
    exact h2 pins s1 σ' H' D I' q
  | ret v => exact q
  | brk => exact q
  | cont => exact q
theorem pss_one (h1 : PS X st t) : PSs X [st] t := by
  intro pins s σ H D I h
  refine wpAny_execs_cons (thn (h1 pins s σ H D I h) fun f s1 q => ?_)
  cases f with
  | next => exact wpAny_execs_nil q
  | ret v => exact q
  | brk => exact q
  | cont => exact q
theorem Inv.quiet {pins : List (Addr × Obj)} {σ : St} {H : Hp} {s : Shared} (I : Inv X pins σ H s) : interactive X.env = false := by simp [interactive, I.ok.kind]
def tDrop (te : TE) : TS := fun D σ H => te σ H fun _ H1 => D.nx σ H1
theorem ps_expr (he : PE X e te) (hs : swapsWith e none pos.line X.env = pure false := by rfl) : PS X (.Expr e pos) (tDrop te) := by
  intro pins s σ H D I h
  exact wpAny_Expr_any (thn (he pins s σ H _ I h) fun v s1 ⟨x, H1, I1, r1, q1⟩ => ⟨σ, H1, I1, q1⟩) I.quiet hs
def tRet (te : TE) : TS := fun D σ H => te σ H D.rt
theorem ps_ret (he : PE X e te) : PS X (.Return (some e) pos) (tRet te) := by
  intro pins s σ H D I h
  exact wpAny_Return_some (thn (he pins s σ H _ I h) fun v s1 ⟨x, H1, I1, r1, q1⟩ => ⟨x, σ, H1, I1, r1, q1⟩)
def tIfS (c : TT) (t u : TS) : TS := fun D σ H => c σ H fun b H1 => if b = true then t D σ H1 else u D σ H1
theorem ps_if {c : Expr} {a b : List Stmt} {tc : TT} (hc : PT X c tc) (ha : PSs X a t) (hb : PSs X b u) : PS X (.If c a b pos) (tIfS tc t u) := by
  intro pins s σ H D I h
  refine wpAny_If (thn (hc pins s σ H _ I h) fun d s1 ⟨H1, I1, q1⟩ => ?_)
  cases d with
  | true => exact ha pins s1 σ H1 D I1 q1
  | false => exact hb pins s1 σ H1 D I1 q1
def tNever : TS := fun _ _ _ => False
theorem ps_never : PS X st tNever := fun _ _ _ _ _ _ h => h.elim
end
abbrev TG := V → St → Hp → (St → Hp → Prop) → Prop
abbrev TGs := List V → St → Hp → (St → Hp → Prop) → Prop
def PG (X : Cx) (target : Expr) (t : TG) : Prop :=
  ∀ (pins : List (Addr × Obj)) (s : Shared) (σ : St) (H : Hp) (v : V) (u : Value) (Q : St → Hp → Prop), Inv X pins σ H s → RelV v u → t v σ H Q →
    wpAny (model X.prog X.w) X.A (assign target X.env u) (fun _ s' => ∃ σ' H', Inv X pins σ' H' s' ∧ Q σ' H') X.xe s
def PGs (X : Cx) (ts : List Expr) (t : TGs) : Prop :=
  ∀ (pins : List (Addr × Obj)) (s : Shared) (σ : St) (H : Hp) (vs : List V) (us : List Value) (Q : St → Hp → Prop), Inv X pins σ H s → Vals vs us → t vs σ H Q →
    wpAny (model X.prog X.w) X.A (assignInOrder ((assignEach ts X.env).map (·.2)) us) (fun _ s' => ∃ σ' H', Inv X pins σ' H' s' ∧ Q σ' H') X.xe s
abbrev TSet := V → V → V → Hp → (Hp → Prop) → Prop
def PSet (X : Cx) (t : TSet) : Prop :=
  ∀ (pins : List (Addr × Obj)) (s : Shared) (σ : St) (H : Hp) (o i v : V) (ov iv u : Value) (Q : Hp → Prop), Inv X pins σ H s → RelV o ov → RelV i iv → RelV v u → t o i v H Q →
    wpAny (model X.prog X.w) X.A (setItem ov iv u) (fun _ s' => ∃ H', Inv X pins σ H' s' ∧ Q H') X.xe s
abbrev TIp := V → V → Hp → VK → Prop
def PIp (X : Cx) (op : Operator) (t : TIp) : Prop :=
  ∀ (pins : List (Addr × Obj)) (s : Shared) (σ : St) (H : Hp) (x y : V) (v u : Value) (Q : VK), Inv X pins σ H s → RelV x v → RelV y u → t x y H Q →
    wpAny (model X.prog X.w) X.A (inplaceOp op v u) (EP X pins σ Q) X.xe s
section
variable {X : Cx} {pos : Pos}
def gName (i : Nat) : TG := fun v σ H Q => Q (σ.set i (some v)) H
theorem pg_name {i : Nat} {x : Str} (hN : X.N.Nodup) (hi : X.N[i]? = some x) (hx : Loc X.env.scope x) (hf : X.fn x = true ∨ X.env.scope.names.lookup x = some .local := by first | exact .inl rfl | exact .inr rfl | assumption) : PG X (.Name x pos) (gName i) := by
  intro pins s σ H v u Q I r h
  exact wpAny_assign_Name (store_ok I hN hi hx r (fun s' I' => ⟨_, H, I', h⟩) hf)
def gNil : TGs := fun vs σ H Q => vs = [] ∧ Q σ H
def gCons (t : TG) (u : TGs) : TGs := fun vs σ H Q => ∃ v r, vs = v :: r ∧ t v σ H fun σ' H' => u r σ' H' Q
theorem pgs_nil : PGs X [] gNil := by
  intro pins s σ H vs us Q I r h
  obtain ⟨e, h⟩ := h
  subst e
  cases r
  exact assignInOrder_nil ⟨σ, H, I, h⟩
theorem pgs_cons {e : Expr} {es : List Expr} {t : TG} {u : TGs} (h1 : PG X e t) (h2 : PGs X es u)
    (hs : (assignEach (e :: es) X.env).map (·.2) = assign e X.env :: (assignEach es X.env).map (·.2) := by rfl) : PGs X (e :: es) (gCons t u) := by
  intro pins s σ H vs us Q I r h
  obtain ⟨v, vr, e1, h⟩ := h
  subst e1
  cases r with
  | cons r rr =>
    rw [hs]
    refine assignInOrder_cons (thn (h1 pins s σ H _ _ _ I r h) fun _ s1 ⟨σ1, H1, I1, q1⟩ => ?_)
    exact h2 pins s1 σ1 H1 _ _ Q I1 rr q1
def gTup (K : PySem.W.Frag) (n : Nat) (t : TGs) : TG := fun v σ H Q => ∃ a xs, v = .ref a ∧ SqT K H a xs ∧ xs.length = n ∧ t xs σ H Q
theorem pg_tup {es : List Expr} {k : Nat} {t : TGs} {n : Nat} (hc : X.calm = true) (h : PGs X es t)
    (hn : (assignEach es X.env).length = n := by rfl) (hst : (assignEach es X.env).findIdx? (·.1) = none := by rfl) : PG X (.Tuple es k pos) (gTup X.K n t) := by
  intro pins s σ H v u Q I r hw
  obtain ⟨a, xs, e1, hq, hl, hw⟩ := hw
  subst e1
  cases r
  obtain ⟨its, rv, ht, hz⟩ := I.tuple hq
  refine assign_Tuple_tuple (I.ok.hd hc) ht (by simp [hn, ← hl, rv.length]) hst fun h' hx => ?_
  have I1 : Inv X pins σ H { s with heap := h' } := I.kept (t' := s.toks) fun b o e => hx b o (Nat.ne_of_lt (Heap.lt_size e)) e
  exact h pins _ σ H xs _ Q I1 (by simpa using rv) hw
def gSub (to ti : TE) (t : TSet) : TG := fun v σ H Q => to σ H fun o H1 => ti σ H1 fun i H2 => t o i v H2 fun H3 => Q σ H3
theorem pg_sub {o i : Expr} {to ti : TE} {t : TSet} (ho : PE X o to) (hi : PE X i ti) (hs : PSet X t)
    (ha : ∀ v, assign (.Subscript o i pos) X.env v = (do
      let ov ← holding [v] (eval o X.env)
      let iv ← holding [v, ov] (eval i X.env)
      standAt pos
      holding [v, ov, iv] (setItem ov iv v)
      release [v, ov, iv] []) := by intro _; rfl) : PG X (.Subscript o i pos) (gSub to ti t) := by
  intro pins s σ H v u Q I r h
  rw [ha]
  refine wpAny_bind (wpAny_holding (thn (ho pins s σ H _ I h) fun ov s1 ⟨x, H1, I1, r1, q1⟩ => ?_))
  refine wpAny_bind (wpAny_holding (thn (hi pins s1 σ H1 _ I1 q1) fun iv s2 ⟨y, H2, I2, r2, q2⟩ => ?_))
  refine wpAny_bind (wpAny_standAt (wpAny_bind (wpAny_holding (thn (hs pins s2 σ H2 x y v ov iv u _ I2 r1 r2 r q2) fun _ s3 ⟨H3, I3, q3⟩ => ?_))))
  exact wpAny_release ⟨σ, H3, I3, q3⟩
def tAsg (te : TE) (g : TG) : TS := fun D σ H => te σ H fun x H1 => g x σ H1 D.nx
theorem ps_asg {tg e : Expr} {te : TE} {g : TG} (he : PE X e te) (hg : PG X tg g) (hs : swapsWithSole [tg] e pos.line X.env = pure false := by rfl) (hw : swappedStores [tg] e X.env = pure none := by rfl)
    (h1 : (assignEach [tg] X.env).map (·.2) = [assign tg X.env] := by rfl) : PS X (.Assign [tg] e pos) (tAsg te g) := by
  intro pins s σ H D I h
  refine wpAny_Assign_stores (thn (he pins s σ H _ I h) fun v s1 ⟨x, H1, I1, r1, q1⟩ => ?_) hs hw
  rw [h1]
  exact thn (hg pins s1 σ H1 x v _ I1 r1 q1) fun _ s2 q => q
theorem ps_set {i : Nat} {x : Str} {e : Expr} {te : TE} {pos' : Pos} (hN : X.N.Nodup) (hi : X.N[i]? = some x) (hx : Loc X.env.scope x) (he : PE X e te) (hs : swapsWith e (some (.Name x pos')) pos.line X.env = pure false := by rfl) (hf : X.fn x = true ∨ X.env.scope.names.lookup x = some .local := by first | exact .inl rfl | exact .inr rfl | assumption) :
    PS X (.Assign [.Name x pos'] e pos) (tAsg te (gName i)) := by
  intro pins s σ H D I h
  refine wpAny_Assign_Name (thn (he pins s σ H _ I h) fun v s1 ⟨y, H1, I1, r1, q1⟩ => ?_) hs
  exact store_ok I1 hN hi hx r1 (fun s2 I2 => ⟨_, H1, I2, q1⟩) hf
def tAug (i : Nat) (te : TE) (ti : TIp) : TS := fun D σ H => ∃ x, σ[i]? = some (some x) ∧ te σ H fun y H1 => ti x y H1 fun z H2 => D.nx (σ.set i (some z)) H2
theorem ps_aug {i : Nat} {x : Str} {e : Expr} {te : TE} {op : Operator} {ti : TIp} {pos' : Pos} (hN : X.N.Nodup) (hi : X.N[i]? = some x) (hx : Loc X.env.scope x) (he : PE X e te) (ho : PIp X op ti) (hf : X.fn x = true ∨ X.env.scope.names.lookup x = some .local := by first | exact .inl rfl | exact .inr rfl | assumption) :
    PS X (.AugAssign (.Name x pos') op e pos) (tAug i te ti) := by
  intro pins s σ H D I h
  obtain ⟨v, e1, h⟩ := h
  obtain ⟨m, hn, hl⟩ := I.loc
  have vis : Vis X.env.scope x := by rcases hx with k | k; exact .inl k; exact .inr (.inl k)
  obtain ⟨u, r, l⟩ := hl i x v hi e1 vis
  refine wpAny_AugAssign_Name ?_
  have go : wpAny (model X.prog X.w) X.A (eval e X.env) (fun w s₂ => wpAny (model X.prog X.w) X.A (inplaceOp op u w) (fun r s₃ => wpAny (model X.prog X.w) X.A (storeName X.env x r) (fun _ => SP X pins D .next) X.xe s₃) X.xe s₂) X.xe s := by
    refine thn (he pins s σ H _ I h) fun w s1 ⟨y, H1, I1, r1, q1⟩ => ?_
    refine thn (ho pins s1 σ H1 v y u w _ I1 r r1 q1) fun z s2 ⟨zv, H2, I2, r2, q2⟩ => ?_
    exact store_ok I2 hN hi hx r2 (fun s3 I3 => ⟨_, H2, I3, q2⟩) hf
  rcases l with ⟨hk, hm⟩ | ⟨hk, c, hc, hcell⟩
  · exact wpAny_loadName_local I.ok.kind hk hn hm go
  · rcases hk with hk | hk
    · exact wpAny_loadName_cell I.ok.kind hk hc hcell go
    · rcases hx with k | k
      · have : X.env.scope.names.lookup x = some .free := hk
        rw [k] at this; cases this
      · have : X.env.scope.names.lookup x = some .free := hk
        rw [k] at this; cases this
end
section
variable {X : Cx} {pos : Pos}
def tWhile (c : TT) (tb : TS) : TS := fun D σ H => ∃ W : Nat → St → Hp → Prop, (∃ m, W m σ H) ∧ ∀ m σ H, W m σ H →
  c σ H fun b H1 => if b = true then ∃ N : St → Hp → Prop, (∀ σ' H', N σ' H' → ∃ m', m' < m ∧ W m' σ' H') ∧ tb { D with nx := N, ct := N, bk := D.nx } σ H1 else D.nx σ H1
theorem ps_while {c : Expr} {body : List Stmt} {tc : TT} {tb : TS} (hp : PassesOwn (model X.prog X.w) X.A X.env X.xe) (hc : PT X c tc) (hb : PSs X body tb) : PS X (.While c body [] pos) (tWhile tc tb) := by
  intro pins s σ H D I h
  obtain ⟨W, ⟨m0, w0⟩, turn⟩ := h
  refine wpAny_While (codeAny_whileLoop (fun n s' => ∃ σ' H', Inv X pins σ' H' s' ∧ W n σ' H') ?_ m0 ⟨σ, H, I, w0⟩)
  rintro n s1 ⟨σ1, H1, I1, w1⟩
  refine wpAny_passesOwn hp (thn (hc pins s1 σ1 H1 _ I1 (turn n σ1 H1 w1)) fun b s2 ⟨H2, I2, q2⟩ => ?_)
  cases b with
  | true =>
    obtain ⟨N, hN, q2⟩ := q2
    rw [if_pos rfl]
    refine wpAny_passesOwn hp (thn (hb pins s2 σ1 H2 _ I2 q2) fun f s3 q3 => ?_)
    cases f with
    | next =>
      obtain ⟨σ3, H3, I3, n3⟩ := q3
      obtain ⟨m', hm, w3⟩ := hN σ3 H3 n3
      exact ⟨m', hm, σ3, H3, I3, w3⟩
    | cont =>
      obtain ⟨σ3, H3, I3, n3⟩ := q3
      obtain ⟨m', hm, w3⟩ := hN σ3 H3 n3
      exact ⟨m', hm, σ3, H3, I3, w3⟩
    | brk => exact q3
    | ret v => exact q3
  | false =>
    rw [if_neg Bool.false_ne_true]
    exact wpAny_execs_nil ⟨σ1, H2, I2, q2⟩
end
structure It where
  go : Nat → Hp → Prop
  yld : Nat → Hp → V → Hp → Prop
  stop : Nat → Hp → Prop
def FpOk (X : Cx) (pins : List (Addr × Obj)) (H : Hp) (b : Addr) : Prop :=
  H b = none ∧ b ≠ X.env.locals ∧ b ∉ X.fs ∧ (b ∈ X.ex ∨ X.s₀.heap.objs.size ≤ b) ∧ (∀ x c, X.env.cells.lookup x = some c → c ≠ b) ∧ ∀ p ∈ X.pn ++ pins, p.1 ≠ b
theorem Inv.fpOk {X : Cx} {pins : List (Addr × Obj)} {σ : St} {H H' : Hp} {s : Shared} {b : Addr} (I : Inv X pins σ H s) (hb : s.heap.objs.size ≤ b) (hn : H' b = none) : FpOk X pins H' b := by
  refine ⟨hn, Nat.ne_of_gt (Nat.lt_of_lt_of_le I.lt hb), I.nofs hb, .inr (Nat.le_trans I.sz hb), fun x c e z => ?_, fun p hp z => ?_⟩
  · obtain ⟨v, q⟩ := I.cell x c e
    exact absurd (Nat.lt_of_lt_of_le q.lt (by rw [z]; exact hb)) (Nat.lt_irrefl _)
  · exact absurd (Nat.lt_of_lt_of_le (Heap.lt_size (I.pin p hp).1) (by rw [z]; exact hb)) (Nat.lt_irrefl _)
structure Turn (P : Program) (w : World) (K : PySem.W.Frag) (tg : Expr) (J : It) (fp : List Addr) (it : Addr) (tn : Nat → Heap → Prop) : Prop where
  mem : it ∈ fp
  obj : ∀ i h, tn i h → ∀ b ∈ fp, ∃ o, h.get? b = some o ∧ ∀ v, o.data ≠ .cell v
  keep : ∀ i h h', tn i h → (∀ b ∈ fp, ∀ o, h.get? b = some o → h'.get? b = some o) → tn i h'
  item : ∀ (X : Cx), X.prog = P → X.w = w → X.K = K → X.calm = true → ∀ (i : Nat) (pins : List (Addr × Obj)) (s : Shared) (σ : St) (H : Hp) (E : Value → Shared → Prop), Inv X pins σ H s → (∀ b ∈ fp, FpOk X pins H b) → tn i s.heap → J.go i H →
    wpAny (model P w) X.A (pyNext (.ref it)) (fun r s1 => ∃ u, r = some u ∧
      wpAny (model P w) X.A (letOwnedTupleGo tg (.ref it) u) (fun _ s2 => ∃ x H', Inv X pins σ H' s2 ∧ RelV x u ∧ J.yld i H x H' ∧ tn (i + 1) s2.heap ∧ ∀ b ∈ fp, H' b = none) E s1) E s
  done : ∀ (X : Cx), X.prog = P → X.w = w → X.K = K → X.calm = true → ∀ (i : Nat) (pins : List (Addr × Obj)) (s : Shared) (σ : St) (H : Hp) (E : Value → Shared → Prop), Inv X pins σ H s → (∀ b ∈ fp, FpOk X pins H b) → tn i s.heap → J.stop i H →
    wpAny (model P w) X.A (pyNext (.ref it)) (fun r s1 => r = none ∧ Inv X pins σ H s1) E s
  self : ∀ (A : Around) (i : Nat) (s : Shared) (Q : Value → Shared → Prop) (E : Value → Shared → Prop), tn i s.heap → Q (.ref it) s → wpAny (model P w) A (pyIter (.ref it)) Q E s
abbrev TI := St → Hp → (It → Hp → Prop) → Prop
def PIE (X : Cx) (pins : List (Addr × Obj)) (σ : St) (tg : Expr) (R : It → Hp → Prop) (itv : Value) (s2 : Shared) : Prop :=
  ∃ (it : Addr) (fp : List Addr) (tn : Nat → Heap → Prop) (J : It) (H' : Hp), itv = .ref it ∧ Inv X pins σ H' s2 ∧ Turn X.prog X.w X.K tg J fp it tn ∧ tn 0 s2.heap ∧ (∀ b ∈ fp, FpOk X pins H' b) ∧ R J H'
def PI (X : Cx) (tg iter : Expr) (wi : TI) : Prop :=
  ∀ (pins : List (Addr × Obj)) (s : Shared) (σ : St) (H : Hp) (R : It → Hp → Prop), Inv X pins σ H s → wi σ H R →
    wpAny (model X.prog X.w) X.A (eval iter X.env) (fun v s1 => wpAny (model X.prog X.w) X.A (pyIter v) (PIE X pins σ tg R) X.xe s1) X.xe s
theorem go_of {M : Model} {A : Around} {E : Value → Shared → Prop} {s : Shared} {tg : Expr} {it : Addr} {u : Value} {o : Obj} {n : String} {vs : Array Value} {Q : Unit → Shared → Prop} (ho : s.heap.get? it = some o) (hc : o.cls = .type n) (hd : o.data = .fields vs)
    (hn : ["enumerate", "zip", "dict_itemiterator", "dict_reverseitemiterator", "odict_iterator", "itertools.zip_longest", "itertools.pairwise"].contains n = false) (hQ : Q () s) : wpAny M A (letOwnedTupleGo tg (.ref it) u) Q E s := by
  unfold letOwnedTupleGo
  cases tg <;> first
    | exact wpAny_pure hQ
    | (cases u <;> first
        | exact wpAny_pure hQ
        | (refine wpAny_bind (wpAny_load ho ?_)
           rw [hc, hd]
           show wpAny M A (if (["enumerate", "zip", "dict_itemiterator", "dict_reverseitemiterator", "odict_iterator", "itertools.zip_longest", "itertools.pairwise"].contains n && vs[0]? == some (rawInt _)) = true then _ else _) Q E s
           rw [if_neg (by intro h; rw [hn, Bool.false_and] at h; cases h)]
           exact wpAny_pure hQ))
def Itl (K : PySem.W.Frag) (a : Addr) : It :=
  ⟨fun i H => ∃ xs x, SqL K H a xs ∧ xs[i]? = some x, fun i H x H' => H' = H ∧ ∀ xs, SqL K H a xs → xs[i]? = some x, fun i H => ∃ xs, SqL K H a xs ∧ xs.length ≤ i⟩
def Itr (lo : Int) (n : Nat) : It := ⟨fun i _ => i < n, fun i H x H' => H' = H ∧ x = .int (lo + i), fun i _ => n ≤ i⟩
theorem turn_list {P : Program} {w : World} {K : PySem.W.Frag} {tg : Expr} (a it : Addr) : Turn P w K tg (Itl K a) [it] it (fun i h => h.IsListIter it a i) where
  mem := by simp
  obj := fun i h st b hb => by
    have e : b = it := by simpa using hb
    subst e
    obtain ⟨o, e, c, d⟩ := st
    exact ⟨o, e, fun v z => by rw [d] at z; cases z⟩
  keep := fun i h h' st k => st.at fun o e => k it (by simp) o e
  item := by
    intro X hP hw hK hc i pins s σ H E I hf st hg
    subst hP hw hK
    obtain ⟨xs, x, hq, hx⟩ := hg
    obtain ⟨its, rv, p, hz⟩ := I.list hq
    obtain ⟨u, hu, ru⟩ := rv.get hx
    obtain ⟨f0, f1, f2, f3, f4, f5⟩ := hf it (by simp)
    refine wpAny_pyNext_list_item st p.isList (x := u) (by simpa using hu) fun h' st' sb => ?_
    have I1 : Inv X pins σ H { s with heap := h' } := I.turned (t' := s.toks) (fun b o hb e => (sb.2 b hb).trans e) f0 f1 f3 f4 f5
    obtain ⟨o, e, c, d⟩ := id st'
    exact ⟨u, rfl, go_of (s := { s with heap := h' }) e c d (by decide) ⟨x, H, I1, ru, ⟨rfl, fun ys hy => by rw [I.list_inj hy hq]; exact hx⟩, st', fun b hb => (hf b hb).1⟩⟩
  done := by
    intro X hP hw hK hc i pins s σ H E I hf st hg
    subst hP hw hK
    obtain ⟨xs, hq, hx⟩ := hg
    obtain ⟨its, rv, p, hz⟩ := I.list hq
    obtain ⟨f0, f1, f2, f3, f4, f5⟩ := hf it (by simp)
    have hl := rv.length
    exact wpAny_pyNext_list_end (I.ok.hd hc) st p.isList (by simp; omega) fun h' eb => ⟨rfl, I.turned (t' := s.toks) (fun b o hb e => eb b o hb e) f0 f1 f3 f4 f5⟩
  self := fun _ _ _ _ _ st h => wpAny_pyIter_listiter st h
theorem turn_range {P : Program} {w : World} {K : PySem.W.Frag} {tg : Expr} (it : Addr) (lo : Int) (n : Nat) : Turn P w K tg (Itr lo n) [it] it (fun i h => IsRangeIter h it (lo + (i : Nat) * 1) ((n : Int) - (i : Nat)) 1) where
  mem := by simp
  obj := fun i h st b hb => by
    have e : b = it := by simpa using hb
    subst e
    exact ⟨_, st, fun v z => by
      have z' : Data.fields _ = Data.cell v := z
      cases z'⟩
  keep := fun i h h' st k => k it (by simp) _ st
  item := by
    intro X hP hw hK hc i pins s σ H E I hf st hg
    subst hP hw hK
    obtain ⟨f0, f1, f2, f3, f4, f5⟩ := hf it (by simp)
    have W := Walks.range (prog := X.prog) (w := X.w) (I.ok.hd hc) it lo 1 n
    refine W.item i s _ _ hg st fun v h' tk hv st' kk => ?_
    obtain ⟨t, rfl⟩ := hv
    have I1 : Inv X pins σ H { s with heap := h', toks := tk } := I.turned (fun b o hb e => kk b o (by simpa using hb) e) f0 f1 f3 f4 f5
    refine ⟨_, rfl, go_of (s := { s with heap := h', toks := tk }) (n := "range_iterator") st' rfl rfl (by decide) ⟨.int (lo + i), H, I1, ⟨t, ?_⟩, ⟨rfl, rfl⟩, st', fun b hb => (hf b hb).1⟩⟩
    rw [Int.mul_one]
  done := by
    intro X hP hw hK hc i pins s σ H E I hf st hg
    subst hP hw hK
    obtain ⟨f0, f1, f2, f3, f4, f5⟩ := hf it (by simp)
    exact wpAny_pyNext_range_end (I.ok.hd hc) st (by have : n ≤ i := hg; omega) fun h' eb => ⟨rfl, I.turned (t' := s.toks) (fun b o hb e => eb b o hb e) f0 f1 f3 f4 f5⟩
  self := fun _ _ _ _ _ st h => wpAny_pyIter_rangeiter st h
end L2
namespace L2
open PySem PySem.Spec PyProof.Rows
section
variable {X : Cx} {tg : Expr}
def iList (K : PySem.W.Frag) (tl : TE) : TI := fun σ H R => tl σ H fun x H1 => ∃ a, x = .ref a ∧ (∃ xs, SqL K H1 a xs) ∧ R (Itl K a) H1
theorem pi_list {l : Expr} {tl : TE} (hl : PE X l tl) : PI X tg l (iList X.K tl) := by
  intro pins s σ H R I h
  refine thn (hl pins s σ H _ I h) fun v s1 ⟨x, H1, I1, r1, q1⟩ => ?_
  obtain ⟨a, e, ⟨xs, hq⟩, q⟩ := q1
  subst e
  cases r1
  obtain ⟨its, rv, p, hz⟩ := I1.list hq
  refine wpAny_pyIter_list p.isList ?_
  refine ⟨s1.heap.objs.size, [s1.heap.objs.size], _, _, H1, rfl, I1.kept (t' := s1.toks) fun b o e => Heap.get?_push_of_some _ e, turn_list a _, ⟨_, Heap.get?_push_size _ rfl, rfl, rfl⟩, fun b hb => ?_, q⟩
  have e : b = s1.heap.objs.size := by simpa using hb
  subst e
  exact I1.fpOk (Nat.le_refl _) (I1.hok.fresh (Nat.le_refl _))
theorem range_it {pins : List (Addr × Obj)} {σ : St} {H : Hp} {s : Shared} {R : It → Hp → Prop} {E : Value → Shared → Prop} {lo hi : Int} {t u v : Tok} {tk : Nat} (I : Inv X pins σ H s) (h1 : -(2 ^ 62) ≤ lo) (h2 : lo < 2 ^ 62) (h3 : -(2 ^ 62) ≤ hi) (h4 : hi < 2 ^ 62)
    (q : R (Itr lo (hi - lo).toNat) H) : wpAny (model X.prog X.w) X.A (pyIter (.ref s.heap.objs.size)) (PIE X pins σ tg R) E { s with heap := s.heap.push { cls := .type "range", data := .fields #[.int lo t, .int hi u, .int 1 v] }, toks := tk } := by
  refine wpAny_pyIter_range (IsRange.new ..) (small_one h1 h2 h3 h4) ?_
  have I1 : Inv X pins σ H { s with heap := s.heap.push { cls := .type "range", data := .fields #[.int lo t, .int hi u, .int 1 v] }, toks := tk } := I.kept fun b o e => Heap.get?_push_of_some _ e
  refine ⟨(s.heap.push { cls := .type "range", data := .fields #[.int lo t, .int hi u, .int 1 v] }).objs.size, [(s.heap.push { cls := .type "range", data := .fields #[.int lo t, .int hi u, .int 1 v] }).objs.size], _, _, H, rfl,
    I1.kept (t' := tk) fun b o e => Heap.get?_push_of_some _ e, turn_range _ lo (hi - lo).toNat, ?_, fun b hb => ?_, q⟩
  · have e1 : lo + ((0 : Nat) : Int) * 1 = lo := by simp
    have e2 : (((hi - lo).toNat : Nat) : Int) - ((0 : Nat) : Int) = Builtin.Range.rangeSize lo hi 1 := by rw [rangeSize_one]; split <;> omega
    show IsRangeIter _ _ (lo + ((0 : Nat) : Int) * 1) ((((hi - lo).toNat : Nat) : Int) - ((0 : Nat) : Int)) 1
    rw [e1, e2]
    exact Heap.get?_push_size _ rfl
  · have e : b = (s.heap.push { cls := .type "range", data := .fields #[.int lo t, .int hi u, .int 1 v] }).objs.size := by simpa using hb
    subst e
    exact I1.fpOk (Nat.le_refl _) (I1.hok.fresh (Nat.le_refl _))
def iRng1 (ta : TA) : TI := fun σ H R => ta σ H fun vs H1 => ∃ j : Int, vs = [.int j] ∧ -(2 ^ 62) ≤ j ∧ j < 2 ^ 62 ∧ R (Itr 0 j.toNat) H1
def iRng2 (ta : TA) : TI := fun σ H R => ta σ H fun vs H1 => ∃ i j : Int, vs = [.int i, .int j] ∧ (-(2 ^ 62) ≤ i ∧ i < 2 ^ 62 ∧ -(2 ^ 62) ≤ j ∧ j < 2 ^ 62) ∧ R (Itr i (j - i).toNat) H1
theorem pi_range1 {a : Expr} {ta : TA} {p pos : Pos} (hg : Gl X "range") (hm : X.mg "range" = none) (ha : PA X [a] ta) (hs : starEach [a] X.env = [(false, eval a X.env)] := by rfl) : PI X tg (.Call (.Name "range" p) [a] [] pos) (iRng1 ta) := by
  intro pins s σ H R I h
  refine Call_ (ld_blt I hg hm boot_range (PyProof.Rows.callWith_type1 (thn (ha pos pins s σ H _ I h) fun us s1 ⟨vs, H1, I1, r1, q1⟩ => ?_) hs rfl))
  obtain ⟨j, e, q1, q2, q⟩ := q1
  subst e
  cases r1 with
  | cons r rr =>
    cases rr
    obtain ⟨t, rfl⟩ := r
    exact call_range_1 (range_it I1 (by omega) (by omega) q1 q2 (by simpa using q))
theorem pi_range2 {a b : Expr} {ta : TA} {p pos : Pos} (hg : Gl X "range") (hm : X.mg "range" = none) (ha : PA X [a, b] ta) (hs : starEach [a, b] X.env = [(false, eval a X.env), (false, eval b X.env)] := by rfl) (hs2 : starEach [b] X.env = [(false, eval b X.env)] := by rfl) :
    PI X tg (.Call (.Name "range" p) [a, b] [] pos) (iRng2 ta) := by
  intro pins s σ H R I h
  refine Call_ (ld_blt I hg hm boot_range (PyProof.Rows.callWith_type1 (thn (ha pos pins s σ H _ I h) fun us s1 ⟨vs, H1, I1, r1, q1⟩ => ?_) (by rw [hs, hs2]) (by rw [hs2]; rfl)))
  obtain ⟨i, j, e, ⟨q1, q2, q3, q4⟩, q⟩ := q1
  subst e
  cases r1 with
  | cons r rr =>
    cases rr with
    | cons r' rr =>
      cases rr
      obtain ⟨t, rfl⟩ := r
      obtain ⟨t', rfl⟩ := r'
      exact call_range_2 (range_it I1 q1 q2 q3 q4 q)
def tFor (wi : TI) (g : TG) (tb : TS) : TS := fun D σ H => wi σ H fun J H1 => ∃ W : Nat → Nat → St → Hp → Prop, (∃ m, W 0 m σ H1) ∧ ∀ i m σ H, W i m σ H →
  (J.stop i H ∧ D.nx σ H) ∨ (J.go i H ∧ ∃ N : St → Hp → Prop, (∀ σ' H', N σ' H' → ∃ m', m' < m ∧ W (i + 1) m' σ' H') ∧ ∀ x H', J.yld i H x H' → g x σ H' fun σ2 H2 => tb { D with nx := N, ct := N, bk := D.nx } σ2 H2)
def pinsAt (fp : List Addr) (h : Heap) : List (Addr × Obj) := fp.filterMap fun b => (h.get? b).map fun o => (b, o)
theorem mem_pinsAt {fp : List Addr} {h : Heap} {b : Addr} {o : Obj} (hb : b ∈ fp) (e : h.get? b = some o) : (b, o) ∈ pinsAt fp h := List.mem_filterMap.mpr ⟨b, hb, by rw [e]; rfl⟩
theorem of_pinsAt {fp : List Addr} {h : Heap} {p : Addr × Obj} (hp : p ∈ pinsAt fp h) : p.1 ∈ fp ∧ h.get? p.1 = some p.2 := by
  obtain ⟨b, hb, e⟩ := List.mem_filterMap.mp hp
  cases q : h.get? b with
  | none => rw [q] at e; cases e
  | some o =>
    rw [q] at e
    have e' : (b, o) = p := Option.some.inj e
    subst e'
    exact ⟨hb, q⟩
theorem Inv.pinned {pins : List (Addr × Obj)} {σ : St} {H : Hp} {s : Shared} {fp : List Addr} (I : Inv X pins σ H s) (hf : ∀ b ∈ fp, FpOk X pins H b) (ho : ∀ b ∈ fp, ∃ o, s.heap.get? b = some o ∧ ∀ v, o.data ≠ .cell v) : Inv X (pins ++ pinsAt fp s.heap) σ H s :=
  I.pins_of fun p hp => (List.mem_append.mp hp).elim (fun z => I.pin p (List.mem_append_right _ z)) fun z => by
    obtain ⟨hb, e⟩ := of_pinsAt z
    obtain ⟨f0, f1, f2, _⟩ := hf p.1 hb
    obtain ⟨o, e', d⟩ := ho p.1 hb
    rw [e] at e'; cases e'
    exact ⟨e, f0, f1, f2, d⟩
theorem Inv.unpinned {pins pl : List (Addr × Obj)} {σ : St} {H : Hp} {s : Shared} (I : Inv X (pins ++ pl) σ H s) : Inv X pins σ H s := I.pins_of fun p hp => I.pin p (List.mem_append_right _ (List.mem_append_left _ hp))
theorem ps_for {iter : Expr} {body : List Stmt} {wi : TI} {g : TG} {tb : TS} {pos : Pos} (hp : PassesOwn (model X.prog X.w) X.A X.env X.xe) (hc : X.calm = true) (hi : PI X tg iter wi) (hg : PG X tg g) (hb : PSs X body tb)
    (hs : ∀ x, foldedSetIterable iter X.env x = pure x := by intro _; rfl) : PS X (.For tg iter body [] pos) (tFor wi g tb) := by
  intro pins s σ H D I h
  refine wpAny_For (thn (hi pins s σ H _ I h) fun v s1 h1 => thn h1 fun itv s2 h2 => ?_) hs
  obtain ⟨it, fp, tn, J, H2, e, I2, T, st2, f2, W, ⟨m0, w0⟩, turn⟩ := h2
  subst e
  have stat : ∀ {H' : Hp}, (∀ b ∈ fp, H' b = none) → ∀ b ∈ fp, FpOk X pins H' b := fun hn b hb => ⟨hn b hb, (f2 b hb).2⟩
  refine codeAny_forLoop_any (fun n s' => ∃ i σ' H', Inv X pins σ' H' s' ∧ tn i s'.heap ∧ (∀ b ∈ fp, H' b = none) ∧ W i n σ' H') ?_ m0 ⟨0, σ, H2, I2, st2, fun b hb => (f2 b hb).1, w0⟩
  rintro n s3 ⟨i, σ3, H3, I3, st3, fr3, w3⟩
  rcases turn i n σ3 H3 w3 with ⟨stop, qn⟩ | ⟨go, N, hN, step⟩
  · refine wpAny_passesOwn hp (thn (T.done X rfl rfl rfl hc i pins s3 σ3 H3 X.xe I3 (stat fr3) st3 stop) fun r s4 ⟨hr, I4⟩ => ?_)
    subst hr
    exact wpAny_execs_nil ⟨σ3, H3, I4, qn⟩
  · refine wpAny_passesOwn hp (thn (T.item X rfl rfl rfl hc i pins s3 σ3 H3 X.xe I3 (stat fr3) st3 go) fun r s4 ⟨u, hr, h4⟩ => ?_)
    subst hr
    refine wpAny_passesOwn hp (thn h4 fun _ s5 ⟨x, H5, I5, r5, y5, st5, fr5⟩ => ?_)
    have I5' := I5.pinned (stat fr5) (T.obj _ _ st5)
    refine wpAny_passesOwn hp (thn (hg _ s5 σ3 H5 x u _ I5' r5 (step x H5 y5)) fun _ s6 ⟨σ6, H6, I6, q6⟩ => ?_)
    refine wpAny_passesOwn hp (thn (hb _ s6 σ6 H6 _ I6 q6) fun f s7 q7 => ?_)
    have again : ∀ {σ7 : St} {H7 : Hp}, Inv X (pins ++ pinsAt fp s5.heap) σ7 H7 s7 → N σ7 H7 → ∃ m, m < n ∧ ∃ i σ' H', Inv X pins σ' H' s7 ∧ tn i s7.heap ∧ (∀ b ∈ fp, H' b = none) ∧ W i m σ' H' := fun {σ7 H7} I7 n7 => by
      obtain ⟨m', hm, w7⟩ := hN σ7 H7 n7
      refine ⟨m', hm, i + 1, σ7, H7, I7.unpinned, T.keep _ _ _ st5 fun b hb o e => (I7.pin (b, o) (List.mem_append_right _ (List.mem_append_right _ (mem_pinsAt hb e)))).1, fun b hb => ?_, w7⟩
      obtain ⟨o, e, d⟩ := T.obj _ _ st5 b hb
      exact (I7.pin (b, o) (List.mem_append_right _ (List.mem_append_right _ (mem_pinsAt hb e)))).2.1
    cases f with
    | next => obtain ⟨σ7, H7, I7, n7⟩ := q7; exact again I7 n7
    | cont => obtain ⟨σ7, H7, I7, n7⟩ := q7; exact again I7 n7
    | brk => obtain ⟨σ7, H7, I7, q7⟩ := q7; exact ⟨σ7, H7, I7.unpinned, q7⟩
    | ret v => obtain ⟨x7, σ7, H7, I7, r7, q7⟩ := q7; exact ⟨x7, σ7, H7, I7.unpinned, r7, q7⟩
end
theorem for_list {K : PySem.W.Frag} {a : Addr} {xs : List V} {g : TG} {tb : TS} {D : Ends} {σ : St} {H : Hp} (Pv : Nat → St → Hp → Prop) (h0 : Pv 0 σ H) (hl : ∀ i σ H, i ≤ xs.length → Pv i σ H → SqL K H a xs)
    (hs : ∀ i x σ H, xs[i]? = some x → Pv i σ H → g x σ H fun σ2 H2 => tb { D with nx := Pv (i + 1), ct := Pv (i + 1), bk := D.nx } σ2 H2) (hd : ∀ σ H, Pv xs.length σ H → D.nx σ H) :
    ∃ W : Nat → Nat → St → Hp → Prop, (∃ m, W 0 m σ H) ∧ ∀ i m σ H, W i m σ H →
      ((Itl K a).stop i H ∧ D.nx σ H) ∨ ((Itl K a).go i H ∧ ∃ N : St → Hp → Prop, (∀ σ' H', N σ' H' → ∃ m', m' < m ∧ W (i + 1) m' σ' H') ∧ ∀ x H', (Itl K a).yld i H x H' → g x σ H' fun σ2 H2 => tb { D with nx := N, ct := N, bk := D.nx } σ2 H2) := by
  refine ⟨fun i m σ H => m = xs.length - i ∧ i ≤ xs.length ∧ Pv i σ H, ⟨xs.length, by simp, Nat.zero_le _, h0⟩, ?_⟩
  rintro i m σ H ⟨rfl, hi, p⟩
  have q := hl i σ H hi p
  by_cases hlt : i < xs.length
  · refine .inr ⟨⟨xs, xs[i], q, by simp [hlt]⟩, Pv (i + 1), fun σ' H' p' => ⟨xs.length - (i + 1), by omega, rfl, hlt, p'⟩, fun x H' y => ?_⟩
    obtain ⟨e, y⟩ := y
    subst e
    exact hs i x σ _ (y xs q) p
  · have e : i = xs.length := by omega
    subst e
    exact .inl ⟨⟨xs, q, Nat.le_refl _⟩, hd σ H p⟩
theorem for_range {lo : Int} {n : Nat} {g : TG} {tb : TS} {D : Ends} {σ : St} {H : Hp} (Pv : Nat → St → Hp → Prop) (h0 : Pv 0 σ H)
    (hs : ∀ i σ H, i < n → Pv i σ H → g (.int (lo + i)) σ H fun σ2 H2 => tb { D with nx := Pv (i + 1), ct := Pv (i + 1), bk := D.nx } σ2 H2) (hd : ∀ σ H, Pv n σ H → D.nx σ H) :
    ∃ W : Nat → Nat → St → Hp → Prop, (∃ m, W 0 m σ H) ∧ ∀ i m σ H, W i m σ H →
      ((Itr lo n).stop i H ∧ D.nx σ H) ∨ ((Itr lo n).go i H ∧ ∃ N : St → Hp → Prop, (∀ σ' H', N σ' H' → ∃ m', m' < m ∧ W (i + 1) m' σ' H') ∧ ∀ x H', (Itr lo n).yld i H x H' → g x σ H' fun σ2 H2 => tb { D with nx := N, ct := N, bk := D.nx } σ2 H2) := by
  refine ⟨fun i m σ H => m = n - i ∧ i ≤ n ∧ Pv i σ H, ⟨n, by simp, Nat.zero_le _, h0⟩, ?_⟩
  rintro i m σ H ⟨rfl, hi, p⟩
  by_cases hlt : i < n
  · refine .inr ⟨hlt, Pv (i + 1), fun σ' H' p' => ⟨n - (i + 1), by omega, rfl, hlt, p'⟩, fun x H' y => ?_⟩
    obtain ⟨e, y⟩ := y
    subst e y
    exact hs i σ _ hlt p
  · have e : i = n := by omega
    subst e
    exact .inl ⟨Nat.le_refl _, hd σ H p⟩
end L2
namespace L2
open PySem PySem.Spec PyProof.Rows
abbrev R2 := V → V → Hp → VK → Prop
def OpR (X : Cx) (f : Value → Value → Sem Value) (r : R2) : Prop :=
  ∀ (pins : List (Addr × Obj)) (s : Shared) (σ : St) (H : Hp) (x y : V) (v u : Value) (Q : VK), Inv X pins σ H s → RelV x v → RelV y u → r x y H Q →
    wpAny (model X.prog X.w) X.A (f v u) (EP X pins σ Q) X.xe s
def UnR (X : Cx) (f : Value → Sem Value) (r : V → Hp → VK → Prop) : Prop :=
  ∀ (pins : List (Addr × Obj)) (s : Shared) (σ : St) (H : Hp) (x : V) (v : Value) (Q : VK), Inv X pins σ H s → RelV x v → r x H Q →
    wpAny (model X.prog X.w) X.A (f v) (EP X pins σ Q) X.xe s
def CallR (X : Cx) (f : Value) (r : List V → Hp → VK → Prop) : Prop :=
  ∀ (pins : List (Addr × Obj)) (s : Shared) (σ : St) (H : Hp) (xs : List V) (us : List Value) (Q : VK), Inv X pins σ H s → Vals xs us → r xs H Q →
    wpAny (model X.prog X.w) X.A (call f us) (EP X pins σ Q) X.xe s
def TruR (X : Cx) (r : V → Hp → (Bool → Hp → Prop) → Prop) : Prop :=
  ∀ (pins : List (Addr × Obj)) (s : Shared) (σ : St) (H : Hp) (x : V) (v : Value) (Q : Bool → Hp → Prop), Inv X pins σ H s → RelV x v → r x H Q →
    wpAny (model X.prog X.w) X.A (truthy v) (TP X pins σ Q) X.xe s
def tOp (r : R2) (ta tb : TE) : TE := fun σ H Q => ta σ H fun x H1 => tb σ H1 fun y H2 => r x y H2 Q
def tUn (r : V → Hp → VK → Prop) (ta : TE) : TE := fun σ H Q => ta σ H fun x H1 => r x H1 Q
def rI (C : Int → Int → Prop) (g : Int → Int → V) : R2 := fun x y H Q => ∃ i j, x = .int i ∧ y = .int j ∧ C i j ∧ Q (g i j) H
def rI0 (g : Int → Int → V) : R2 := fun x y H Q => ∃ i j, x = .int i ∧ y = .int j ∧ Q (g i j) H
def rU (g : Int → V) : V → Hp → VK → Prop := fun x H Q => ∃ i, x = .int i ∧ Q (g i) H
section
variable {X : Cx} {a b c : Expr} {ta tb tc : TE} {pos : Pos}
theorem binT (ha : PE X a ta) (hb : PE X b tb) {pins : List (Addr × Obj)} {s : Shared} {σ : St} {H : Hp} {R : V → V → Hp → Prop} (I : Inv X pins σ H s)
    (h : ta σ H fun x H1 => tb σ H1 fun y H2 => R x y H2) {Q : Value → Shared → Prop} {f : Value → Value → Sem Value}
    (hf : ∀ v u s2 x y H2, Inv X pins σ H2 s2 → RelV x v → RelV y u → R x y H2 → wpAny (model X.prog X.w) X.A (f v u) Q X.xe s2) :
    wpAny (model X.prog X.w) X.A (eval a X.env) (fun v s₁ => wpAny (model X.prog X.w) X.A (eval b X.env) (fun u s₂ => wpAny (model X.prog X.w) X.A (f v u) Q X.xe s₂) X.xe s₁) X.xe s := by
  refine thn (ha pins s σ H _ I h) fun v s1 ⟨x, H1, I1, r1, q1⟩ => ?_
  refine thn (hb pins s1 σ H1 _ I1 q1) fun u s2 ⟨y, H2, I2, r2, q2⟩ => ?_
  exact hf v u s2 x y H2 I2 r1 r2 q2
theorem pe_op {op : Operator} {r : R2} (ho : OpR X (binaryOp op) r) (ha : PE X a ta) (hb : PE X b tb) : PE X (.BinOp a op b pos) (tOp r ta tb) := by
  intro pins s σ H Q I h
  exact wpAny_BinOp (binT ha hb I h fun v u s2 x y H2 I2 rx ry q => ho pins s2 σ H2 x y v u Q I2 rx ry q)
theorem pe_un {op : UnaryOp} {r : V → Hp → VK → Prop} (ho : UnR X (unaryOp op) r) (ha : PE X a ta) : PE X (.UnaryOp op a pos) (tUn r ta) := by
  intro pins s σ H Q I h
  exact UnaryOp_ (thn (ha pins s σ H _ I h) fun v s1 ⟨x, H1, I1, r1, q1⟩ => ho pins s1 σ H1 x v Q I1 r1 q1)
theorem opI {f : Value → Value → Sem Value} {C : Int → Int → Prop} {g : Int → Int → Int}
    (rule : ∀ (i j : Int) (t u : Tok) (s : Shared) (Q : Value → Shared → Prop) (E : Value → Shared → Prop), C i j → Q (.int (g i j) s.toks) { s with toks := s.toks + 1 } → wpAny (model X.prog X.w) X.A (f (.int i t) (.int j u)) Q E s) :
    OpR X f (rI C fun i j => .int (g i j)) := by
  intro pins s σ H x y v u Q I rx ry h
  obtain ⟨i, j, rfl, rfl, hc, q⟩ := h
  obtain ⟨t, rfl⟩ := rx
  obtain ⟨t', rfl⟩ := ry
  exact rule i j t t' s _ _ hc ⟨.int (g i j), H, I.tok _, ⟨_, rfl⟩, q⟩
theorem opI0 {f : Value → Value → Sem Value} {g : Int → Int → Int}
    (rule : ∀ (i j : Int) (t u : Tok) (s : Shared) (Q : Value → Shared → Prop) (E : Value → Shared → Prop), Q (.int (g i j) s.toks) { s with toks := s.toks + 1 } → wpAny (model X.prog X.w) X.A (f (.int i t) (.int j u)) Q E s) :
    OpR X f (rI0 fun i j => .int (g i j)) := by
  intro pins s σ H x y v u Q I rx ry h
  obtain ⟨i, j, rfl, rfl, q⟩ := h
  obtain ⟨t, rfl⟩ := rx
  obtain ⟨t', rfl⟩ := ry
  exact rule i j t t' s _ _ ⟨.int (g i j), H, I.tok _, ⟨_, rfl⟩, q⟩
theorem opB0 {f : Value → Value → Sem Value} {g : Int → Int → Bool}
    (rule : ∀ (i j : Int) (t u : Tok) (s : Shared) (Q : Value → Shared → Prop) (E : Value → Shared → Prop), Q (.bool (g i j)) s → wpAny (model X.prog X.w) X.A (f (.int i t) (.int j u)) Q E s) :
    OpR X f (rI0 fun i j => .bl (g i j)) := by
  intro pins s σ H x y v u Q I rx ry h
  obtain ⟨i, j, rfl, rfl, q⟩ := h
  obtain ⟨t, rfl⟩ := rx
  obtain ⟨t', rfl⟩ := ry
  exact rule i j t t' s _ _ ⟨.bl (g i j), H, I, rfl, q⟩
def CDiv (i j : Int) : Prop := 0 < j ∧ j < 1073741824
def CMul (i j : Int) : Prop := (-(2 ^ 64) < i ∧ i < 2 ^ 64) ∨ (-(2 ^ 64) < j ∧ j < 2 ^ 64)
theorem CMul.ok {i j : Int} (h : CMul i j) : IntMulOk i j := by
  rcases h with ⟨h1, h2⟩ | ⟨h1, h2⟩
  · exact .of_left (intBits_le_64 h1 h2)
  · exact .of_right (intBits_le_64 h1 h2)
theorem op_add : OpR X (binaryOp .Add) (rI0 fun i j => .int (i + j)) := opI0 fun _ _ _ _ _ _ _ q => add_int q
theorem op_sub : OpR X (binaryOp .Sub) (rI0 fun i j => .int (i - j)) := opI0 fun _ _ _ _ _ _ _ q => sub_int q
theorem op_mul : OpR X (binaryOp .Mult) (rI CMul fun i j => .int (i * j)) := opI fun _ _ _ _ _ _ _ hc q => mul_int q hc.ok
theorem op_fdiv : OpR X (binaryOp .FloorDiv) (rI CDiv fun i j => .int (i / j)) := opI fun i j _ _ _ _ _ hc q => by
  have h1 : (0 : Int) < j := hc.1
  have h2 : j < 1073741824 := hc.2
  exact floordiv_int (by omega) (by rw [Int.fdiv_eq_ediv_of_nonneg i (by omega)]; exact q) (.inl (PyProof.noPylong_small (by omega)))
theorem op_mod : OpR X (binaryOp .Mod) (rI (fun _ j => 0 < j) fun i j => .int (i % j)) := opI fun i j _ _ _ _ _ hc q => by
  have h1 : (0 : Int) < j := hc
  exact mod_int' (by omega) (by rw [Int.fmod_eq_emod_of_nonneg i (by omega)]; exact q)
theorem iop_add : OpR X (inplaceOp .Add) (rI0 fun i j => .int (i + j)) := opI0 fun _ _ _ _ _ _ _ q => iadd_int q
theorem unI {f : Value → Sem Value} {g : Int → Int}
    (rule : ∀ (i : Int) (t : Tok) (s : Shared) (Q : Value → Shared → Prop) (E : Value → Shared → Prop), Q (.int (g i) s.toks) { s with toks := s.toks + 1 } → wpAny (model X.prog X.w) X.A (f (.int i t)) Q E s) :
    UnR X f (rU fun i => .int (g i)) := by
  intro pins s σ H x v Q I rx h
  obtain ⟨i, rfl, q⟩ := h
  obtain ⟨t, rfl⟩ := rx
  exact rule i t s _ _ ⟨.int (g i), H, I.tok _, ⟨_, rfl⟩, q⟩
theorem un_neg : UnR X (unaryOp .USub) (rU fun i => .int (-i)) := unI fun _ _ _ _ _ q => neg_int q
end
def scal : V → V → Bool
  | .non, .non => true | .non, .int _ => true | .int _, .non => true | .non, .bl _ => true | .bl _, .non => true | .non, .str _ => true | .str _, .non => true
  | .int _, .int _ => true | .bl _, .bl _ => true | .str _, .str _ => true | .byt _, .byt _ => true
  | .int _, .str _ => true | .str _, .int _ => true | .bl _, .str _ => true | .str _, .bl _ => true
  | _, _ => false
def rEq : R2 := fun x y H Q => scal x y = true ∧ Q (.bl (decide (x = y))) H
def rNe : R2 := fun x y H Q => scal x y = true ∧ Q (.bl (!decide (x = y))) H
theorem dec_int {i j : Int} : decide (V.int i = V.int j) = (i == j) := by
  rw [Bool.eq_iff_iff]
  simp
theorem dec_bl {i j : Bool} : decide (V.bl i = V.bl j) = (i == j) := by
  rw [Bool.eq_iff_iff]
  simp
theorem dec_str {i j : Str} : decide (V.str i = V.str j) = (i == j) := by
  rw [Bool.eq_iff_iff]
  simp
theorem dec_byt {i j : Array UInt8} : decide (V.byt i = V.byt j) = (i.toList == j.toList) := by
  rw [Bool.eq_iff_iff]
  cases i
  cases j
  simp
section
variable {X : Cx} {a b c : Expr} {ta tb tc : TE} {pos : Pos}
theorem fin_bl {pins : List (Addr × Obj)} {σ : St} {H : Hp} {s : Shared} {Q : VK} {k k' : Bool} (I : Inv X pins σ H s) (q : Q (.bl k) H) (e : k = k') : EP X pins σ Q (.bool k') s := by
  subst e
  exact ⟨.bl k, H, I, rfl, q⟩
theorem op_eq : OpR X (compareOp .Eq) rEq := by
  intro pins s σ H x y v u Q I rx ry h
  obtain ⟨hs, q⟩ := h
  cases x with
  | non =>
    cases rx
    cases y with
    | non => cases ry; exact PySem.EqNone.eq_none_none (fin_bl I q (by simp))
    | bl j => cases ry; exact PySem.EqNone.eq_none_bool (fin_bl I q (by simp))
    | int j => obtain ⟨t', rfl⟩ := ry; exact PySem.EqNone.eq_none_int (fin_bl I q (by simp))
    | str j => obtain ⟨t', rfl⟩ := ry; exact PySem.EqNone.eq_none_str (fin_bl I q (by simp))
    | _ => exact absurd (show false = true from hs) Bool.false_ne_true
  | bl i =>
    cases rx
    cases y with
    | non => cases ry; exact PySem.EqNone.eq_bool_none (fin_bl I q (by simp))
    | bl j => cases ry; exact eq_bool (fin_bl I q dec_bl)
    | str j => obtain ⟨t', rfl⟩ := ry; exact PySem.EqMixed.eq_bool_str (fin_bl I q (by simp))
    | _ => exact absurd (show false = true from hs) Bool.false_ne_true
  | int i =>
    obtain ⟨t, rfl⟩ := rx
    cases y with
    | non => cases ry; exact PySem.EqNone.eq_int_none (fin_bl I q (by simp))
    | int j => obtain ⟨t', rfl⟩ := ry; exact eq_int (fin_bl I q dec_int)
    | str j => obtain ⟨t', rfl⟩ := ry; exact PySem.EqMixed.eq_int_str (fin_bl I q (by simp))
    | _ => exact absurd (show false = true from hs) Bool.false_ne_true
  | str i =>
    obtain ⟨t, rfl⟩ := rx
    cases y with
    | non => cases ry; exact PySem.EqNone.eq_str_none (fin_bl I q (by simp))
    | bl j => cases ry; exact PySem.EqMixed.eq_str_bool (fin_bl I q (by simp))
    | int j => obtain ⟨t', rfl⟩ := ry; exact PySem.EqMixed.eq_str_int (fin_bl I q (by simp))
    | str j => obtain ⟨t', rfl⟩ := ry; exact eq_str (fin_bl I q dec_str)
    | _ => exact absurd (show false = true from hs) Bool.false_ne_true
  | byt i =>
    obtain ⟨t, rfl⟩ := rx
    cases y with
    | byt j => obtain ⟨t', rfl⟩ := ry; exact PySem.W.eq_bytes (fin_bl I q dec_byt)
    | _ => exact absurd (show false = true from hs) Bool.false_ne_true
  | _ => cases y <;> exact absurd (show false = true from hs) Bool.false_ne_true
theorem op_ne : OpR X (compareOp .NotEq) rNe := by
  intro pins s σ H x y v u Q I rx ry h
  obtain ⟨hs, q⟩ := h
  cases x with
  | non =>
    cases rx
    cases y with
    | non => cases ry; exact PySem.EqNone.ne_none_none (fin_bl I q (by simp))
    | bl j => cases ry; exact PySem.EqNone.ne_none_bool (fin_bl I q (by simp))
    | int j => obtain ⟨t', rfl⟩ := ry; exact PySem.EqNone.ne_none_int (fin_bl I q (by simp))
    | str j => obtain ⟨t', rfl⟩ := ry; exact PySem.EqNone.ne_none_str (fin_bl I q (by simp))
    | _ => exact absurd (show false = true from hs) Bool.false_ne_true
  | bl i =>
    cases rx
    cases y with
    | non => cases ry; exact PySem.EqNone.ne_bool_none (fin_bl I q (by simp))
    | bl j => cases ry; exact ne_bool (fin_bl I q (congrArg not dec_bl))
    | str j => obtain ⟨t', rfl⟩ := ry; exact PySem.EqMixed.ne_bool_str (fin_bl I q (by simp))
    | _ => exact absurd (show false = true from hs) Bool.false_ne_true
  | int i =>
    obtain ⟨t, rfl⟩ := rx
    cases y with
    | non => cases ry; exact PySem.EqNone.ne_int_none (fin_bl I q (by simp))
    | int j => obtain ⟨t', rfl⟩ := ry; exact ne_int (fin_bl I q (congrArg not dec_int))
    | str j => obtain ⟨t', rfl⟩ := ry; exact PySem.EqMixed.ne_int_str (fin_bl I q (by simp))
    | _ => exact absurd (show false = true from hs) Bool.false_ne_true
  | str i =>
    obtain ⟨t, rfl⟩ := rx
    cases y with
    | non => cases ry; exact PySem.EqNone.ne_str_none (fin_bl I q (by simp))
    | bl j => cases ry; exact PySem.EqMixed.ne_str_bool (fin_bl I q (by simp))
    | int j => obtain ⟨t', rfl⟩ := ry; exact PySem.EqMixed.ne_str_int (fin_bl I q (by simp))
    | str j => obtain ⟨t', rfl⟩ := ry; exact ne_str (fin_bl I q (congrArg not dec_str))
    | _ => exact absurd (show false = true from hs) Bool.false_ne_true
  | byt i =>
    obtain ⟨t, rfl⟩ := rx
    cases y with
    | byt j => obtain ⟨t', rfl⟩ := ry; exact PySem.W.ne_bytes (fin_bl I q (congrArg not dec_byt))
    | _ => exact absurd (show false = true from hs) Bool.false_ne_true
  | _ => cases y <;> exact absurd (show false = true from hs) Bool.false_ne_true
theorem op_lt : OpR X (compareOp .Lt) (rI0 fun i j => .bl (decide (i < j))) := opB0 fun _ _ _ _ _ _ _ q => lt_int q
theorem op_le : OpR X (compareOp .LtE) (rI0 fun i j => .bl (decide (i ≤ j))) := opB0 fun _ _ _ _ _ _ _ q => le_int q
theorem op_gt : OpR X (compareOp .Gt) (rI0 fun i j => .bl (decide (j < i))) := opB0 fun _ _ _ _ _ _ _ q => gt_int q
theorem op_ge : OpR X (compareOp .GtE) (rI0 fun i j => .bl (decide (j ≤ i))) := opB0 fun _ _ _ _ _ _ _ q => ge_int q
theorem op_notN : OpR X (compareOp .IsNot) (fun x y H Q => y = .non ∧ Q (.bl (!decide (x = .non))) H) := by
  intro pins s σ H x y v u Q I rx ry h
  obtain ⟨rfl, q⟩ := h
  cases ry
  refine isnot_none_gen (fin_bl I q ?_)
  cases x <;> first
    | (cases rx; rfl)
    | (obtain ⟨t, rfl⟩ := rx; rfl)
theorem nomark (b : Expr) {op : CmpOp} (h : op ≠ .In := by decide) (h2 : op ≠ .NotIn := by decide) : behindInMarks op b = false := by
  have e1 : (op == CmpOp.In) = false := by cases op <;> first | rfl | exact absurd rfl h
  have e2 : (op == CmpOp.NotIn) = false := by cases op <;> first | rfl | exact absurd rfl h2
  cases b <;> simp [behindInMarks, e1, e2]
theorem pe_cmpR {op : CmpOp} {r : R2} (ho : OpR X (compareOp op) r) (ha : PE X a ta) (hb : PE X b tb) (hm : behindInMarks op b = false) : PE X (.Compare a [op] [b] pos) (tOp r ta tb) := by
  intro pins s σ H Q I h
  exact wpAny_Compare1 (binT ha hb I h fun v u s2 x y H2 I2 rx ry q => ho pins s2 σ H2 x y v u Q I2 rx ry q) hm
def tTest (t : TE) : TT := fun σ H Q => t σ H fun x H' => ∃ k, x = .bl k ∧ Q k H'
theorem pt_cmpR {op : CmpOp} {r : R2} (ho : OpR X (compareOp op) r) (ha : PE X a ta) (hb : PE X b tb) (hm : behindInMarks op b = false) : PT X (.Compare a [op] [b] pos) (tTest (tOp r ta tb)) := by
  intro pins s σ H Q I h
  refine wpAny_isTrue_Compare1 (thn (ha pins s σ H _ I h) fun v s1 ⟨x, H1, I1, r1, q1⟩ => thn (hb pins s1 σ H1 _ I1 q1) fun u s2 ⟨y, H2, I2, r2, q2⟩ =>
    thn (ho pins s2 σ H2 x y v u _ I2 r1 r2 q2) fun c s3 ⟨z, H3, I3, r3, k, e, q3⟩ => ?_) hm
  subst e
  cases r3
  exact wpAny_truthy_bool ⟨H3, I3, q3⟩
def tChain (r r' : R2) (ta tb tc : TE) : TE := fun σ H Q => ta σ H fun x H1 => tb σ H1 fun y H2 => r x y H2 fun z H3 => ∃ k, z = .bl k ∧
  (if k = true then tc σ H3 fun w' H4 => r' y w' H4 Q else Q (.bl false) H3)
theorem pe_chain {op op' : CmpOp} {r r' : R2} (ho : OpR X (compareOp op) r) (ho' : OpR X (compareOp op') r') (ha : PE X a ta) (hb : PE X b tb) (hc : PE X c tc)
    (hm : lastMarks [op, op'] [b, c] = false := by with_unfolding_all rfl) : PE X (.Compare a [op, op'] [b, c] pos) (tChain r r' ta tb tc) := by
  intro pins s σ H Q I h
  refine Compare_chain (thn (ha pins s σ H _ I h) fun v s1 ⟨x, H1, I1, r1, q1⟩ => chain_link (thn (hb pins s1 σ H1 _ I1 q1) fun u s2 ⟨y, H2, I2, r2, q2⟩ =>
    thn (ho pins s2 σ H2 x y v u _ I2 r1 r2 q2) fun d s3 ⟨z, H3, I3, r3, k, e, q3⟩ => ?_)) hm
  subst e
  cases r3
  refine wpAny_truthy_bool ?_
  cases k with
  | false => exact ite_ff ⟨.bl false, H3, I3, rfl, q3⟩
  | true => exact ite_tt (chain_last (thn (hc pins s3 σ H3 _ I3 q3) fun w' s4 ⟨z', H4, I4, r4, q4⟩ => ho' pins s4 σ H4 y z' u w' Q I4 r2 r4 q4))
def TruV (K : PySem.W.Frag) (x : V) (H : Hp) (k : Bool) : Prop :=
  match x with
  | .non => k = false
  | .bl b => k = b
  | .int i => k = (i != 0)
  | .str y => y.length ≤ sizeLine ∧ k = ((y.length : Int) != 0)
  | .byt y => y.size ≤ sizeLine ∧ k = ((y.size : Int) != 0)
  | .ref p => (∃ xs, SqL K H p xs ∧ k = !xs.isEmpty) ∨ (∃ xs, SqT K H p xs ∧ k = !xs.isEmpty) ∨ ∃ kvs, H p = some (.dK kvs) ∧ k = !kvs.isEmpty
  | _ => False
theorem isEmpty_kv {κ : Type} {kvs : List (κ × V)} {vs : List (κ × Value)} (r : KV kvs vs) : (!vs.isEmpty) = !kvs.isEmpty := by
  cases r <;> rfl
theorem isEmpty_of {xs : List V} {its : List Value} (r : Vals xs its) : (!its.toArray.isEmpty) = !xs.isEmpty := by
  cases r <;> simp
theorem line63 : (sizeLine : Nat) < 2 ^ 63 := by rw [sizeLine_eq]; decide
theorem tru_ok : TruR X (fun x H Q => ∃ k, TruV X.K x H k ∧ Q k H) := by
  intro pins s σ H x v Q I rx h
  obtain ⟨k, e, q⟩ := h
  have hl := line63
  have hs : sizeLine = 16777216 := sizeLine_eq
  cases x with
  | non =>
    cases rx
    have e' : k = false := e
    subst e'
    exact truthy_none ⟨H, I, q⟩
  | bl b =>
    cases rx
    have e' : k = b := e
    subst e'
    exact wpAny_truthy_bool ⟨H, I, q⟩
  | int i =>
    obtain ⟨t, rfl⟩ := rx
    have e' : k = (i != 0) := e
    subst e'
    exact PySem.P.truthy_int ⟨H, I, q⟩
  | str y =>
    obtain ⟨t, rfl⟩ := rx
    obtain ⟨hy, e'⟩ : y.length ≤ sizeLine ∧ k = ((y.length : Int) != 0) := e
    subst e'
    exact PySem.P.truthy_str (by omega) ⟨H, I.tok _, q⟩
  | byt y =>
    obtain ⟨t, rfl⟩ := rx
    obtain ⟨hy, e'⟩ : y.size ≤ sizeLine ∧ k = ((y.size : Int) != 0) := e
    subst e'
    exact PySem.W.truthy_bytes (by omega) ⟨H, I.tok _, q⟩
  | ref p =>
    cases rx
    have e' : (∃ xs, SqL X.K H p xs ∧ k = !xs.isEmpty) ∨ (∃ xs, SqT X.K H p xs ∧ k = !xs.isEmpty) ∨ ∃ kvs, H p = some (.dK kvs) ∧ k = !kvs.isEmpty := e
    rcases e' with ⟨xs, hx, e'⟩ | ⟨xs, hx, e'⟩ | ⟨kvs, hx, e'⟩
    · subst e'
      obtain ⟨its, r, pl, hz⟩ := I.list hx
      have hlen := r.length
      exact wpAny_truthy_list pl.isList (by simp only [List.size_toArray]; omega) ⟨H, I.tok _, by rw [isEmpty_of r]; exact q⟩
    · subst e'
      obtain ⟨its, r, pl, hz⟩ := I.tuple hx
      have hlen := r.length
      exact truthy_tuple pl (by simp only [List.size_toArray]; omega) ⟨H, I.tok _, by rw [isEmpty_of r]; exact q⟩
    · subst e'
      obtain ⟨hz, hS, vs, r, m⟩ : kvs.length ≤ sizeLine ∧ (p == sysModules) = false ∧ ∃ vs, KV kvs vs ∧ s.heap.DictOf (mixKind X.prog X.w) p vs := I.hok p _ hx
      have hlen : kvs.length = vs.length := Paired.length r
      exact wpAny_truthy_dict hS m (by omega) ⟨H, I.tok _, by rw [isEmpty_kv r]; exact q⟩
  | _ => exact (show False from e).elim
theorem pt_truth (ha : PE X a ta) (he : ∀ whole, isTrue a X.env whole = (do let v ← whole; standAt a.pos; holding [v] (truthy v))) :
    PT X a (fun σ H Q => ta σ H fun x H' => ∃ k, TruV X.K x H' k ∧ Q k H') := by
  intro pins s σ H Q I h
  exact isTrue_plain (thn (ha pins s σ H _ I h) fun v s1 ⟨x, H1, I1, r1, q1⟩ => tru_ok pins s1 σ H1 x v Q I1 r1 q1) (he _)
theorem vals1 {x : V} {us : List Value} (r : Vals [x] us) : ∃ u, us = [u] ∧ RelV x u := by
  cases r with
  | cons r1 r2 => cases r2; exact ⟨_, rfl, r1⟩
theorem vals2 {x y : V} {us : List Value} (r : Vals [x, y] us) : ∃ u w', us = [u, w'] ∧ RelV x u ∧ RelV y w' := by
  cases r with
  | cons r1 r2 =>
    cases r2 with
    | cons r3 r4 => cases r4; exact ⟨_, _, rfl, r1, r3⟩
theorem call_abs : CallR X (.builtin "abs") (fun xs H Q => ∃ i, xs = [.int i] ∧ Q (.int (if i < 0 then -i else i)) H) := by
  intro pins s σ H xs us Q I r h
  obtain ⟨i, rfl, q⟩ := h
  obtain ⟨u, rfl, t, rfl⟩ := vals1 r
  exact call_abs_int fun u tk => ⟨.int (if i < 0 then -i else i), H, I.tok _, ⟨_, rfl⟩, q⟩
theorem call_min2 (hc : X.calm = true) : CallR X (.builtin "min") (fun xs H Q => ∃ i j, xs = [.int i, .int j] ∧ Q (.int (if j < i then j else i)) H) := by
  intro pins s σ H xs us Q I r h
  obtain ⟨i, j, rfl, q⟩ := h
  obtain ⟨u, w', rfl, ⟨t, rfl⟩, ⟨t', rfl⟩⟩ := vals2 r
  refine min_two_ints (I.ok.hd hc) fun h' tk k => ⟨_, H, I.kept k, ?_, q⟩
  by_cases hj : j < i
  · rw [if_pos hj, if_pos hj]; exact ⟨_, rfl⟩
  · rw [if_neg hj, if_neg hj]; exact ⟨_, rfl⟩
theorem call_divmod : CallR X (.builtin "divmod") (fun xs H Q => ∃ i j, xs = [.int i, .int j] ∧ CDiv i j ∧ ∀ p, H p = none → Q (.ref p) (upd H p (.tup [.int (i / j), .int (i % j)]))) := by
  intro pins s σ H xs us Q I r h
  obtain ⟨i, j, rfl, ⟨h1, h2⟩, q⟩ := h
  obtain ⟨u, w', rfl, ⟨t, rfl⟩, ⟨t', rfl⟩⟩ := vals2 r
  refine divmod_int (by omega) ?_ (.inl (PyProof.noPylong_small (by omega)))
  rw [Int.fdiv_eq_ediv_of_nonneg i (by omega), Int.fmod_eq_emod_of_nonneg i (by omega)]
  have hn : H s.heap.objs.size = none := I.hok.fresh (Nat.le_refl _)
  refine ⟨.ref s.heap.objs.size, _, ?_, rfl, q _ hn⟩
  refine I.laid (fun b o e => Heap.get?_push_of_some _ e) (Nat.le_refl _) ⟨by simp only [List.length_cons, List.length_nil]; rw [sizeLine_eq]; decide, [.int (i / j) s.toks, .int (i % j) (s.toks + 1)], .cons ⟨_, rfl⟩ (.cons ⟨_, rfl⟩ .nil), ?_⟩
  exact ⟨_, Heap.get?_push_size s.heap rfl, rfl, 0, rfl⟩
end
end L2
namespace L2
open PySem PySem.Spec PyProof.Rows
structure ObjM (h : Heap) (x dx C : Addr) (mA : Str → Option Value) : Prop where
  obj : h.get? x = some (PySem.W.instObj C dx)
  ns : h.Ns1 dx mA
  ne : dx ≠ x
theorem lookIn_ns {h : Heap} {dx : Addr} {mA : Str → Option Value} (n : h.Ns1 dx mA) : ∃ od, h.get? dx = some od ∧ ∀ name, PySem.W.lookIn name od = some (mA name) := by
  obtain ⟨o, es, ep, ho, hd, hk, _, hm⟩ := n
  refine ⟨o, ho, fun name => ?_⟩
  have e := hm name
  unfold nsFind findBy at e
  rw [← Array.find?_toList] at e
  unfold PySem.W.lookIn
  rw [hd]
  dsimp only
  split
  · rename_i y q
    rw [q] at e
    exact congrArg some e
  · rename_i q
    rw [q] at e
    have a : es.toList.any (·.refKey) = false := by
      rw [List.any_eq_false]
      intro y hy
      obtain ⟨z, t, hkey⟩ := hk y (Array.mem_toList_iff.mp hy)
      simp [DictEntry.refKey, hkey]
    have a' : ¬ es.toList.any (·.refKey) = true := by rw [a]; exact Bool.false_ne_true
    rw [if_neg a']
    exact congrArg some e
theorem ObjM.look {h : Heap} {x dx C : Addr} {mA : Str → Option Value} (I : ObjM h x dx C mA) : ∃ od, PySem.W.InstAt h x (PySem.W.instObj C dx) C (some od) ∧ ∀ name, PySem.W.lookIn name od = some (mA name) :=
  let ⟨od, ho, hl⟩ := lookIn_ns I.ns
  ⟨od, ⟨I.obj, rfl, rfl, ho⟩, hl⟩
theorem RelO.some_of {v : V} {o : Option Value} (r : RelO (some v) o) : ∃ u, o = some u ∧ RelV v u := by
  cases o with
  | none => exact (show False from r).elim
  | some u => exact ⟨u, rfl, r⟩
section
variable {P : Program} {w : World} {H H' : Hp} {h h' : Heap} {a C dx : Addr} {fs fs' : List (Str × V)}
theorem ins_get (hok : HOk P w H h) (e : H a = some (.ins C dx fs)) : ∃ mA, ObjM h a dx C mA ∧ (∀ f, RelO (fs.lookup f) (mA f)) ∧ PySem.Within mA (fs.map (·.1)) ∧ fs.length ≤ 1000 ∧ H dx = some (.own a) := by
  obtain ⟨d, z, ne, ob, mA, n, r, q⟩ := (show ObjOk P w H h a (.ins C dx fs) from hok a _ e)
  exact ⟨mA, ⟨ob, n, ne⟩, r, q, z, d⟩
end
structure Cls (K : PySem.W.Frag) (C : Addr) : Prop where
  pg : PySem.W.plainGet K C Str.empty = true
  hd : PySem.W.hasDictIn K C = true
  po : PySem.W.plainOver K C = true
  sa : PySem.W.findIn K (.ref C) "__setattr__" = some (some (.builtin "object.__setattr__"))
theorem Cls.get {K : PySem.W.Frag} {C : Addr} (c : Cls K C) (f : Str) : PySem.W.plainGet K C f = true := c.pg
section
variable {X : Cx} {pins : List (Addr × Obj)} {σ : St} {H : Hp} {s : Shared} {A : Around} {E : Value → Shared → Prop} {Q : Value → Shared → Prop} {c : Value} {b : Bool}
inductive TyOf (K : PySem.W.Frag) (H : Hp) : V → Value → Prop where
  | non : TyOf K H .non (.type "NoneType")
  | bl (x : Bool) : TyOf K H (.bl x) (.type "bool")
  | int (i : Int) : TyOf K H (.int i) (.type "int")
  | str (x : Str) : TyOf K H (.str x) (.type "str")
  | flt (x : UInt64) : TyOf K H (.flt x) (.type "float")
  | lst {a : Addr} {xs : List V} (e : H a = some (.lst xs)) : TyOf K H (.ref a) (.type "list")
  | frz {a : Addr} {o : Obj} {xs : List V} (e : H a = some (.frz o (.lst xs))) : TyOf K H (.ref a) (.type "list")
  | tup {a : Addr} {xs : List V} (e : H a = some (.tup xs)) : TyOf K H (.ref a) (.type "tuple")
  | dK {a : Addr} {kvs : List (Key × V)} (e : H a = some (.dK kvs)) : TyOf K H (.ref a) (.type "dict")
  | dT {a : Addr} {kvs : List (List Key × V)} (e : H a = some (.dT kvs)) : TyOf K H (.ref a) (.type "dict")
  | ins {a C dx : Addr} {fs : List (Str × V)} (e : H a = some (.ins C dx fs)) (cl : Cls K C) (ha : PySem.W.findIn K (.ref C) "__class__" = some (some (.builtin "object.__class__")))
      (hn : PySem.W.specialIn K (.builtin "object.__class__") "__get__" = some (some (.builtin "getset_descriptor.__get__"))) (htk : PySem.W.takesIn K (.builtin "object.__class__") = some true)
      (hm : PySem.W.mroIn K C (.type "object") = some true) : TyOf K H (.ref a) (.ref C)
theorem isinst_ok {x : V} {u t : Value} (I : Inv X pins σ H s) (rx : RelV x u) (ty : TyOf X.K H x t) (e : PySem.W.kitOne X.K t c = some b) (h : ∀ tk, Q (.bool b) { s with toks := tk }) :
    wpAny (model X.prog X.w) A (call (.builtin "isinstance") [u, c]) Q E s := by
  cases ty with
  | non => cases (show u = Value.none from rx); exact PySem.W.kia_one PySem.W.kitx_none I.kIn True.intro e (fun z => nomatch z) h
  | bl y => cases (show u = Value.bool y from rx); exact PySem.W.kia_one PySem.W.kitx_bool I.kIn True.intro e (fun z => nomatch z) h
  | int i => obtain ⟨t, q⟩ := (show ∃ t, u = Value.int i t from rx); cases q; exact PySem.W.kia_one PySem.W.kitx_int I.kIn True.intro e (fun z => nomatch z) h
  | str y => obtain ⟨t, q⟩ := (show ∃ t, u = Value.str y t from rx); cases q; exact PySem.W.kia_one PySem.W.kitx_str I.kIn True.intro e (fun z => nomatch z) h
  | flt y => obtain ⟨t, q⟩ := (show ∃ t, u = Value.float y t from rx); cases q; exact PySem.W.kia_one PySem.W.kitx_float I.kIn True.intro e (fun z => nomatch z) h
  | @lst a xs ea =>
    cases (show u = Value.ref a from rx)
    obtain ⟨_, _, n, _, h1⟩ := (show ObjOk X.prog X.w H s.heap a (.lst xs) from I.hok a _ ea)
    exact PySem.W.kia_one PySem.W.kitx_list I.kIn ⟨_, h1, rfl⟩ e (fun z => nomatch z) h
  | @frz a ob xs ea =>
    cases (show u = Value.ref a from rx)
    obtain ⟨_, _, _, n, _, h1⟩ := (show ObjOk X.prog X.w H s.heap a (.frz ob (.lst xs)) from I.hok a _ ea)
    exact PySem.W.kia_one PySem.W.kitx_list I.kIn ⟨_, h1, rfl⟩ e (fun z => nomatch z) h
  | @tup a xs ea =>
    cases (show u = Value.ref a from rx)
    obtain ⟨_, _, _, p⟩ := (show ObjOk X.prog X.w H s.heap a (.tup xs) from I.hok a _ ea)
    obtain ⟨o, h1, h2, _⟩ := p
    exact PySem.W.kia_one PySem.W.kitx_tuple I.kIn ⟨o, h1, h2⟩ e (fun z => nomatch z) h
  | @dK a kvs ea =>
    cases (show u = Value.ref a from rx)
    obtain ⟨_, _, vs, _, p⟩ := (show ObjOk X.prog X.w H s.heap a (.dK kvs) from I.hok a _ ea)
    obtain ⟨o, es, ep, h1, h2, _⟩ := p
    exact PySem.W.kia_one PySem.W.kitx_dict I.kIn ⟨o, h1, h2.1⟩ e (fun z => nomatch z) h
  | @dT a kvs ea =>
    cases (show u = Value.ref a from rx)
    obtain ⟨_, _, xs, _, o, es, ep, h1, h2, _⟩ := (show ObjOk X.prog X.w H s.heap a (.dT kvs) from I.hok a _ ea)
    exact PySem.W.kia_one PySem.W.kitx_dict I.kIn ⟨o, h1, h2.1⟩ e (fun z => nomatch z) h
  | @ins a C dx fs ea cl ha hn htk hm =>
    cases (show u = Value.ref a from rx)
    obtain ⟨mA, O, _⟩ := ins_get I.hok ea
    obtain ⟨od, J, _⟩ := O.look
    exact PySem.W.kia_one (PySem.W.kitx_own (cl.get _) cl.hd ha hn htk hm) I.kIn J e (fun z => nomatch z) h
end
end L2
namespace L2
open PySem PySem.Spec PyProof.Rows
structure Room (k : Nat) (A : Around) : Prop where
  hd : A.handled = none
  dp : A.depth + 3 * k + 5 < recursionLimit
  un : A.units + 16 * k + 200 < cLine
theorem Room.mono {j k : Nat} {A : Around} (r : Room k A) (h : j ≤ k) : Room j A := ⟨r.hd, by have := r.dp; omega, by have := r.un; omega⟩
theorem Room.deeper {k : Nat} {A : Around} (r : Room (k + 1) A) (env : Env) : Room k (A.deeper env) :=
  ⟨r.hd, by have := r.dp; show A.depth + 1 + 3 * k + 5 < _; omega, by have := r.un; show A.units + 3 + 16 * k + 200 < _; omega⟩
theorem Room.depth {k : Nat} {A : Around} (r : Room k A) : A.depth < recursionLimit := by have := r.dp; omega
theorem Room.units {k : Nat} {A : Around} (r : Room k A) : A.units + 64 < cLine := by have := r.un; omega
theorem Room.units0 {k : Nat} {A : Around} (r : Room k A) : A.units < cLine := by have := r.un; omega
def tNil : TA := fun _ H Q => Q [] H
def tCons (ta : TE) (tr : TA) : TA := fun σ H Q => ta σ H fun x H1 => tr σ H1 fun xs H2 => Q (x :: xs) H2
section
variable {X : Cx} {e : Expr} {es : List Expr} {te : TE} {t : TA} {pos : Pos}
theorem pa_nil : PA X [] tNil := fun _ _ _ _ H Q I h => Calls.spliced_nil ⟨[], H, I, .nil, h⟩
theorem pa_cons (ha : PE X e te) (hr : PA X es t) (hs : starEach (e :: es) X.env = (false, eval e X.env) :: starEach es X.env := by rfl) : PA X (e :: es) (tCons te t) := by
  intro pos pins s σ H Q I h
  rw [hs]
  show wpAny _ _ (spliced ((false, eval e X.env) :: backTo pos (starEach es X.env))) _ _ s
  refine Calls.spliced_cons (thn (ha pins s σ H _ I h) fun u s1 ⟨x, H1, I1, r1, q1⟩ => ?_)
  exact thn (hr pos pins s1 σ H1 _ I1 q1) fun us s2 ⟨xs, H2, I2, r2, q2⟩ => ⟨x :: xs, H2, I2, .cons r1 r2, q2⟩
def tTup (t : TA) : TE := fun σ H Q => t σ H fun xs H1 => xs.length ≤ sizeLine ∧ ∀ p, H1 p = none → Q (.ref p) (upd H1 p (.tup xs))
def tLst (t : TA) : TE := fun σ H Q => t σ H fun xs H1 => xs.length ≤ sizeLine ∧ ∀ p, H1 p = none → Q (.ref p) (upd H1 p (.lst xs))
theorem pe_tup {x1} (h : PA X es t) : PE X (.Tuple es x1 pos) (tTup t) := by
  intro pins s σ H Q I hq
  refine wpAny_Tuple_spliced (thn (h pos pins s σ H _ I hq) fun us s1 ⟨xs, H1, I1, r, z, q⟩ => ⟨by rw [← r.length]; exact z, ?_⟩)
  have hf : H1 s1.heap.objs.size = none := I1.hok.fresh (Nat.le_refl _)
  refine ⟨.ref s1.heap.objs.size, upd H1 s1.heap.objs.size (.tup xs), I1.laid (t' := s1.toks) (fun b u e => Heap.get?_push_of_some _ e) (Nat.le_refl _) ?_, rfl, q _ hf⟩
  exact ⟨z, us, r, ⟨_, Heap.get?_push_size _ rfl, rfl, _, rfl⟩⟩
theorem pe_lst (h : PA X es t) : PE X (.List es pos) (tLst t) := by
  intro pins s σ H Q I hq
  refine wpAny_List_spliced (thn (h pos pins s σ H _ I hq) fun us s1 ⟨xs, H1, I1, r, z, q⟩ => ⟨by rw [← r.length]; exact z, ?_⟩)
  have hf : H1 s1.heap.objs.size = none := I1.hok.fresh (Nat.le_refl _)
  refine ⟨.ref s1.heap.objs.size, upd H1 s1.heap.objs.size (.lst xs), I1.laid (t' := s1.toks) (fun b u e => Heap.get?_push_of_some _ e) (Nat.le_refl _) ?_, rfl, q _ hf⟩
  exact ⟨z, us, 0, r, Heap.get?_push_size _ rfl⟩
end
abbrev Sp := List V → Hp → VK → XK → Prop
abbrev CXT := List Env → Hp → Shared → XK → Value → Shared → Prop
structure Env0 (P : Program) (w : World) (K : PySem.W.Frag) (mg : Str → Option Value) (base : Heap) (A : Around) (outer : List Env) (s : Shared) (H : Hp) : Prop where
  frames : A.frames = some outer
  mod : Mod K mg base
  bs : ∀ b o, base.get? b = some o → s.heap.get? b = some o ∧ H b = none
  bsz : base.objs.size ≤ s.heap.objs.size
  funs : s.heap.FunFrames base outer
  frf : ∀ b ∈ frs outer, H b = none
  hok : HOk P w H s.heap
  bare : AllBare s.gens
def CE (outer : List Env) (P : Program) (w : World) (H : Hp) (s : Shared) (Q : VK) (u : Value) (s' : Shared) : Prop :=
  ∃ v H', s'.os = s.os ∧ AllBare s'.gens ∧ Un (frs outer) [] H H' s.heap s'.heap ∧ HOk P w H' s'.heap ∧ RelV v u ∧ Q v H'
def CR (CX : CXT) (outer : List Env) (P : Program) (w : World) (H : Hp) (s : Shared) (Q : VK) (E : XK) (r : Result) (s' : Shared) : Prop :=
  match r with
  | .ok (.ret u) => CE outer P w H s Q u s'
  | .ok _ => False
  | .error e => CX outer H s E e s'
structure FnOk (P : Program) (w : World) (K : PySem.W.Frag) (mg : Str → Option Value) (base : Heap) (CX : CXT) (k : Nat) (f : Addr) (fd : FuncData) (ps : List Str) (sp : Sp) : Prop where
  len : ∀ vs H Q E, sp vs H Q E → vs.length = ps.length
  run : ∀ (A : Around) (outer : List Env) (s : Shared) (H : Hp) (args : Args) (us : List Value) (vs : List V) (Q : VK) (E : XK), Room k A → Env0 P w K mg base A outer s H → BindsTo s fd args (ps.zip us) → Vals vs us → sp vs H Q E →
    codeAny (model P w) A (.call (.ref f) args) (CR CX outer P w H s Q E) s
section
variable {X : Cx} {pins : List (Addr × Obj)} {σ : St} {H : Hp} {s s' : Shared}
theorem Inv.env0 (I : Inv X pins σ H s) : Env0 X.prog X.w X.K X.mg X.base X.A X.stack s H :=
  ⟨I.ok.frames, I.ok.mod, I.bs, Nat.le_trans I.ok.bsz I.sz, I.stack, I.stkFree, I.hok, I.bare⟩
theorem Inv.after {Q : VK} {u : Value} (I : Inv X pins σ H s) (h : CE X.stack X.prog X.w H s Q u s') : EP X pins σ Q u s' := by
  obtain ⟨v, H', os, bare, un, hok, r, q⟩ := h
  obtain ⟨hh, g, d, t, os'⟩ := s'
  obtain rfl : os' = s.os := os
  exact ⟨v, H', I.call (h' := hh) (g' := g) (d' := d) (t' := t) (ch := []) un hok bare (fun b z => absurd z (by simp)), r, q⟩
end
def tCall (sp : Sp) (dvs : List V) (E : XK) (t : TA) : TE := fun σ H Q => t σ H fun vs H1 => sp (vs ++ dvs) H1 Q E
def Binds (K : PySem.W.Frag) (fd : FuncData) (ps : List Str) (ds : List Value) : Prop :=
  ∀ (s : Shared) (us : List Value), K.In s.heap → (us ++ ds).length = ps.length → BindsTo s fd ⟨us, []⟩ (ps.zip (us ++ ds))
theorem Binds.all {K : PySem.W.Frag} {fd : FuncData} {ps : List Str} (h : ∀ us : List Value, us.length = ps.length → bindArgs fd ⟨us, []⟩ = pure (ps.zip us)) : Binds K fd ps [] := fun s us _ hl => by
  rw [List.append_nil] at hl ⊢
  exact .of_eq (h us hl)
def Passes (CX : CXT) (X : Cx) (E : XK) : Prop := ∀ (pins : List (Addr × Obj)) (σ : St) (H : Hp) (s : Shared) (e : Value) (s' : Shared), Inv X pins σ H s → CX X.stack H s E e s' → X.xe e s'
section
variable {X : Cx} {CX : CXT} {k : Nat} {f C : Addr} {fd : FuncData} {ps : List Str} {sp : Sp} {dvs : List V} {ds : List Value} {E : XK} {x m : Str} {p pos apos : Pos} {e o : Expr} {es : List Expr} {ta : TE} {t : TA}
theorem run_fn {pins : List (Addr × Obj)} {σ : St} {H : Hp} {s : Shared} {Q : VK} {us : List Value} {vs : List V} (F : FnOk X.prog X.w X.K X.mg X.base CX k f fd ps sp) (hr : Room k X.A) (hb : Binds X.K fd ps ds) (hd : Vals dvs ds) (hx : Passes CX X E)
    (I : Inv X pins σ H s) (r : Vals vs us) (h : sp (vs ++ dvs) H Q E) : wpAny (model X.prog X.w) X.A (call (.ref f) us) (EP X pins σ Q) X.xe s := by
  have r2 : Vals (vs ++ dvs) (us ++ ds) := r.append hd
  have hl : (us ++ ds).length = ps.length := by rw [← r2.length]; exact F.len _ _ _ _ h
  refine wpAny_call (codeAny_mono (F.run X.A X.stack s H ⟨us, []⟩ (us ++ ds) (vs ++ dvs) Q E hr I.env0 (hb s us I.kIn hl) r2 h) fun r s' hq => ?_)
  cases r with
  | error e => exact hx pins σ H s e s' I hq
  | ok fl =>
    cases fl with
    | ret u => exact I.after hq
    | next => exact False.elim hq
    | brk => exact False.elim hq
    | cont => exact False.elim hq
theorem pe_call (F : FnOk X.prog X.w X.K X.mg X.base CX k f fd ps sp) (hr : Room k X.A) (hg : Gl X x) (hm : X.mg x = some (.ref f)) (hk : PySem.W.keepIn X.K (.ref f) = true) (hb : Binds X.K fd ps ds) (hd : Vals dvs ds) (hx : Passes CX X E)
    (ha : PA X (e :: es) t) (hdb : (x == ("__debug__" : Str)) = false := by decide) (he : starEach (e :: es) X.env = (false, eval e X.env) :: starEach es X.env := by rfl) (hpl : (backTo pos (starEach es X.env)).any (·.1) = false := by rfl) :
    PE X (.Call (.Name x p) (e :: es) [] pos) (tCall sp dvs E t) := by
  intro pins s σ H Q I h
  refine wpAny_Call_Name_kw (ld_glob I hg hm ?_ hdb)
  refine PySem.W.callWith_K (h₀ := X.base) I.ok.mod.kin hk (thn (ha pos pins s σ H _ I h) fun us s1 ⟨vs, H1, I1, r, q⟩ => ⟨I1.kIn, ?_⟩) he hpl
  exact run_fn F hr hb hd hx I1 r q
end
structure FnScope (N P : List Str) (sc : Scope) : Prop where
  kind : sc.kind = .function
  co : sc.isCoroutine = false
  gen : sc.isGenerator = false
  nd : N.Nodup
  pre : N.take P.length = P
  par : ∀ x ∈ P, sc.names.lookup x = some .local ∨ sc.names.lookup x = some .cell
  nofree : ∀ y ∈ sc.names, y.2 ≠ .free
theorem bindL_out {kindOf : Str → Option NameKind} {x : Str} : ∀ {binds : List (Str × Value)} {m : Str → Option Value}, (∀ v, (x, v) ∉ binds) → bindL kindOf binds m x = m x
  | [], _, _ => rfl
  | (n, v) :: r, m, h => by
    unfold bindL
    rw [bindL_out fun w hw => h w (List.mem_cons_of_mem _ hw)]
    split
    · have : x ≠ n := by rintro rfl; exact h v List.mem_cons_self
      simp [this]
    · rfl
theorem bindC_out {kindOf : Str → Option NameKind} {x : Str} : ∀ {binds : List (Str × Value)} {m : Str → Option Value}, (∀ v, (x, v) ∉ binds) → bindC kindOf binds m x = m x
  | [], _, _ => rfl
  | (n, v) :: r, m, h => by
    unfold bindC
    rw [bindC_out fun w hw => h w (List.mem_cons_of_mem _ hw)]
    split
    · rfl
    · have : x ≠ n := by rintro rfl; exact h v List.mem_cons_self
      simp [this]
theorem bindL_get {kindOf : Str → Option NameKind} {x : Str} {v : Value} : ∀ {P : List Str} {vs : List Value} {i : Nat} {m : Str → Option Value}, P.Nodup → P[i]? = some x → vs[i]? = some v → kindOf x = some .local →
    bindL kindOf (P.zip vs) m x = some v
  | [], _, _, _, _, h, _, _ => by simp at h
  | _ :: _, [], _, _, _, _, h, _ => by simp at h
  | p :: P, w :: vs, 0, m, nd, h1, h2, hk => by
    simp at h1 h2; subst h1; subst h2
    show bindL kindOf ((p, w) :: P.zip vs) m p = _
    unfold bindL
    rw [bindL_out fun v hv => (List.nodup_cons.mp nd).1 (List.of_mem_zip hv).1, if_pos hk]
    simp
  | p :: P, w :: vs, i + 1, m, nd, h1, h2, hk => by
    show bindL kindOf ((p, w) :: P.zip vs) m x = _
    unfold bindL
    exact bindL_get (i := i) (List.nodup_cons.mp nd).2 (by simpa using h1) (by simpa using h2) hk
theorem bindC_get {kindOf : Str → Option NameKind} {x : Str} {v : Value} : ∀ {P : List Str} {vs : List Value} {i : Nat} {m : Str → Option Value}, P.Nodup → P[i]? = some x → vs[i]? = some v → kindOf x ≠ some .local →
    bindC kindOf (P.zip vs) m x = some v
  | [], _, _, _, _, h, _, _ => by simp at h
  | _ :: _, [], _, _, _, _, h, _ => by simp at h
  | p :: P, w :: vs, 0, m, nd, h1, h2, hk => by
    simp at h1 h2; subst h1; subst h2
    show bindC kindOf ((p, w) :: P.zip vs) m p = _
    unfold bindC
    rw [bindC_out fun v hv => (List.nodup_cons.mp nd).1 (List.of_mem_zip hv).1, if_neg hk]
    simp
  | p :: P, w :: vs, i + 1, m, nd, h1, h2, hk => by
    show bindC kindOf ((p, w) :: P.zip vs) m x = _
    unfold bindC
    exact bindC_get (i := i) (List.nodup_cons.mp nd).2 (by simpa using h1) (by simpa using h2) hk
def start (N : List Str) (vs : List V) : St := vs.map some ++ List.replicate (N.length - vs.length) none
def cxOf (CX : CXT) (P : Program) (w : World) (K : PySem.W.Frag) (mg : Str → Option Value) (base : Heap) (N : List Str) (qual : Str) (scope : Scope) (f : Addr) (cd : Value) (A : Around) (outer : List Env) (s : Shared) (H : Hp) (E : XK) : Cx where
  prog := P
  w := w
  K := K
  mg := mg
  base := base
  A := A.deeper (envOfC qual scope s.heap.objs.size f cd)
  N := N
  s₀ := s
  H₀ := H
  env := envOfC qual scope s.heap.objs.size f cd
  outer := outer
  stack := envOfC qual scope s.heap.objs.size f cd :: outer
  ex := []
  calm := true
  fn := fun _ => true
  pn := []
  xe := fun e s' => wpAny (model P w) (A.deeper (envOfC qual scope s.heap.objs.size f cd)) (leaving (envOfC qual scope s.heap.objs.size f cd) e) (fun _ s'' => CX outer H s E e s'') (fun e' s'' => CX outer H s E e' s'') s'
theorem cell_has {sc : Scope} {n : Nat} {x : Str} (h : sc.names.lookup x = some .cell) : ∃ c, (cellsFrom n sc.names []).lookup x = some c := by
  have q := PySem.W.cellsFrom_some sc.names n [] (.inl h)
  exact Option.isSome_iff_exists.mp q
theorem inv_start {CX : CXT} {P : Program} {w : World} {K : PySem.W.Frag} {mg : Str → Option Value} {base : Heap} {N ps : List Str} {qual : Str} {scope : Scope} {f : Addr} {cd : Value} {A : Around} {outer : List Env} {s s1 : Shared} {H : Hp} {E : XK} {us : List Value} {vs : List V}
    (S : FnScope N ps scope) (hd : A.handled = none) (e0 : Env0 P w K mg base A outer s H) (hl : vs.length = ps.length) (r : Vals vs us)
    (x : InCallC s s.heap.objs.size (bindL (envOfC qual scope s.heap.objs.size f cd).kindOf (ps.zip us) fun _ => none) (cellsFrom (s.heap.objs.size + 1) scope.names []) (bindC (envOfC qual scope s.heap.objs.size f cd).kindOf (ps.zip us) fun _ => none) s1) :
    Inv (cxOf CX P w K mg base N qual scope f cd A outer s H E) [] (start N vs) H s1 := by
  have hpl : ps.length ≤ N.length := by have := congrArg List.length S.pre; rw [List.length_take] at this; omega
  obtain ⟨h1, tk, rfl, hk⟩ := x.done
  have noA : ∀ b : Addr, b ∉ (cxOf CX P w K mg base N qual scope f cd A outer s H E).ex := fun b z => absurd (show b ∈ ([] : List Addr) from z) (by simp)
  refine ⟨⟨e0.mod, S.kind, rfl, rfl, Nat.le_refl _, fun y z c h1 h2 => ?_, fun y hy => ?_, fun y c _ h => ?_, fun _ => hd, Around.frames_deeper e0.frames, .inr ⟨rfl, rfl⟩, fun b z => absurd z (noA b), e0.bs, e0.bsz, fun b _ _ => noA b, fun b z => absurd z (noA b), e0.funs, e0.frf⟩,
    rfl, e0.bare, Un.kept hk, ⟨_, x.toInCall.ns, fun i y v h1 h2 h3 => ?_⟩, fun y c h => ⟨_, x.cell y c h⟩, e0.hok.fresh (Nat.le_refl _), fun y c h => ?_, fun p hp => absurd (show p ∈ ([] : List (Addr × Obj)) from hp) (by simp), e0.hok.kept hk, ?_⟩
  · exact name_of_addr x.apart (PySem.mem_of_lookup h1) (PySem.mem_of_lookup h2)
  · have hy : scope.names.lookup y = some .cell ∨ scope.names.lookup y = some .free := hy
    rcases hy with hy | hy
    · exact cell_has hy
    · exact absurd rfl (S.nofree _ (PySem.mem_of_lookup hy))
  · exact Nat.le_of_lt (x.above y c (PySem.mem_of_lookup h))
  · have hi : i < vs.length := by
      unfold start at h2
      by_cases hi : i < vs.length
      · exact hi
      · rw [List.getElem?_append_right (by simpa using hi)] at h2
        rw [List.getElem?_replicate] at h2
        split at h2 <;> cases h2
    have ha : vs[i]? = some v := by
      unfold start at h2
      rw [List.getElem?_append_left (by simpa using hi), List.getElem?_map] at h2
      cases e : vs[i]? with
      | none => rw [e] at h2; cases h2
      | some a => rw [e] at h2; cases h2; rfl
    obtain ⟨u, hu, rv⟩ := r.get ha
    have hp : ps[i]? = some y := by
      rw [← S.pre, List.getElem?_take_of_lt (by omega)]; exact h1
    have ndP : ps.Nodup := by rw [← S.pre]; exact S.nd.sublist (List.take_sublist _ _)
    refine ⟨u, rv, ?_⟩
    rcases S.par y (List.mem_of_getElem? hp) with k | k
    · exact .inl ⟨k, bindL_get ndP hp hu k⟩
    · obtain ⟨c, e⟩ := cell_has (n := s.heap.objs.size + 1) k
      refine .inr ⟨.inl k, c, e, ?_⟩
      have q := x.cell y c e
      rw [bindC_get ndP hp hu (by show scope.names.lookup y ≠ _; rw [k]; decide)] at q
      exact q
  · exact e0.hok.fresh (Nat.le_of_lt (x.above y c (PySem.mem_of_lookup h)))
  · unfold start
    show _ = N.length
    rw [List.length_append, List.length_map, List.length_replicate]
    omega
theorem fn_of {CX : CXT} {P : Program} {w : World} {K : PySem.W.Frag} {mg : Str → Option Value} {base : Heap} {k : Nat} {f : Addr} {name qual : Str} {params : Arguments} {body : List Stmt} {scope : Scope} {dV kV doc pm cdv ct oc : Value} {an od : Option Addr}
    {osl : Array (Option Value)} {N ps : List Str} {sp : Sp} (lk : K.lookup f = some ⟨oc, od, .func (PySem.W.fnOf name qual params body scope dV kV doc pm an cdv ct), osl⟩) (hcd : PySem.W.codeIn K cdv qual = true) (S : FnScope N ps scope)
    (len : ∀ vs H Q E, sp vs H Q E → vs.length = ps.length)
    (hbody : ∀ (A : Around) (outer : List Env) (s : Shared) (H : Hp) (vs : List V) (Q : VK) (E : XK), Room k (A.deeper (envOfC qual scope s.heap.objs.size f cdv)) → sp vs H Q E →
      ∃ t, PSs (cxOf CX P w K mg base N qual scope f cdv A outer s H E) body t ∧ t { nx := fun _ H' => Q .non H', rt := Q } (start N vs) H) :
    FnOk P w K mg base CX (k + 1) f (PySem.W.fnOf name qual params body scope dV kV doc pm an cdv ct) ps sp := by
  refine ⟨len, fun A outer s H args us vs Q E hr e0 hb r hsp => ?_⟩
  have hl := len _ _ _ _ hsp
  have KX : K.In s.heap := e0.mod.kin.keeps fun b o e => (e0.bs b o e).1
  have lim : s.heap.NoLimit := e0.mod.nolimit.keeps fun b o e => (e0.bs b o e).1
  have hkind : ∀ y ∈ ps.zip us, scope.names.lookup y.1 = some .local ∨ (scope.names.lookup y.1 = some .cell ∧ ((cellsFrom (s.heap.objs.size + 1) scope.names []).lookup y.1).isSome = true) := fun ⟨n, v⟩ hy => by
    rcases S.par n (List.of_mem_zip hy).1 with q | q
    · exact .inl q
    · exact .inr ⟨q, PySem.W.cellsFrom_some _ _ _ (.inl q)⟩
  refine codeAny_call_function hr.depth (KX _ _ lk) rfl S.co S.gen rfl (PySem.W.codeRec_of KX hcd) (hb _ _ _ _ ?_)
  refine wpAny_newFunctionEnv_cells S.kind hkind fun env he s1 x => ?_
  subst he
  refine ⟨lim.keeps x.toInCall.keep, codeAny_func ?_⟩
  obtain ⟨t, ht, hq⟩ := hbody A outer s H vs Q E (hr.deeper _) hsp
  have I : Inv (cxOf CX P w K mg base N qual scope f cdv A outer s H E) [] (start N vs) H s1 := inv_start S hr.hd e0 hl r x
  refine wpAny_mono (ht [] s1 (start N vs) H _ I hq) (fun fl s' hs => ?_) fun e s' hs => hs
  have fin : ∀ {σ' : St} {H' : Hp} {v : V} {u : Value}, Inv (cxOf CX P w K mg base N qual scope f cdv A outer s H E) [] σ' H' s' → RelV v u → Q v H' → CE outer P w H s Q u s' :=
    fun {σ' H' v u} J rv q => ⟨v, H', J.os, J.bare, J.base, J.hok, rv, q⟩
  cases fl with
  | ret u =>
    obtain ⟨v, σ', H', J, rv, q⟩ := hs
    exact fin J rv q
  | next =>
    obtain ⟨σ', H', J, q⟩ := hs
    exact fin (v := V.non) (u := Value.none) J rfl q
  | brk =>
    obtain ⟨_, _, _, q⟩ := hs
    exact False.elim q
  | cont =>
    obtain ⟨_, _, _, q⟩ := hs
    exact False.elim q
end L2
namespace L2
open PySem PySem.Spec PyProof.Rows
section
variable {X : Cx} {x : Str} {p pos : Pos} {e : Expr} {es : List Expr} {t : TA} {id T : String} {r : List V → Hp → VK → Prop}
def tCB (r : List V → Hp → VK → Prop) (t : TA) : TE := fun σ H Q => t σ H fun vs H1 => r vs H1 Q
theorem pe_callB (hc : CallR X (.builtin id) r) (hg : Gl X x) (hm : X.mg x = none) (hv : bootBuiltins x = some (.builtin id)) (ha : PA X (e :: es) t) (hn : x ≠ "__name__" := by decide) (hdb : (x == ("__debug__" : Str)) = false := by decide)
    (he : starEach (e :: es) X.env = (false, eval e X.env) :: starEach es X.env := by rfl) (hpl : (backTo pos (starEach es X.env)).any (·.1) = false := by rfl) : PE X (.Call (.Name x p) (e :: es) [] pos) (tCB r t) := by
  intro pins s σ H Q I h
  refine wpAny_Call_Name_kw (ld_blt I hg hm hv ?_ hn hdb)
  exact PyProof.Rows.callWith_builtin1 (thn (ha pos pins s σ H _ I h) fun us s1 ⟨vs, H1, I1, r1, q1⟩ => hc pins s1 σ H1 vs us Q I1 r1 q1) he hpl
theorem pe_callTy (hc : CallR X (.type T) r) (hg : Gl X x) (hm : X.mg x = none) (hv : bootBuiltins x = some (.type T)) (ha : PA X (e :: es) t) (hn : x ≠ "__name__" := by decide) (hdb : (x == ("__debug__" : Str)) = false := by decide)
    (he : starEach (e :: es) X.env = (false, eval e X.env) :: starEach es X.env := by rfl) (hpl : (backTo pos (starEach es X.env)).any (·.1) = false := by rfl) : PE X (.Call (.Name x p) (e :: es) [] pos) (tCB r t) := by
  intro pins s σ H Q I h
  refine wpAny_Call_Name_kw (ld_blt I hg hm hv ?_ hn hdb)
  exact PyProof.Rows.callWith_type1 (thn (ha pos pins s σ H _ I h) fun us s1 ⟨vs, H1, I1, r1, q1⟩ => hc pins s1 σ H1 vs us Q I1 r1 q1) he hpl
end
end L2
namespace L2
open PySem PySem.Spec PyProof.Rows
theorem intsAre_of {ns : List Int} : ∀ {us : List Value}, Vals (ns.map V.int) us → IntsAre us ns := by
  induction ns with
  | nil => intro us r; rw [List.map_nil] at r; cases r; exact .nil
  | cons n ns ih =>
    intro us r
    rw [List.map_cons] at r
    cases r with
    | cons r1 r2 =>
      obtain ⟨t, e⟩ := r1
      subst e
      exact .cons n t (ih r2)
end L2
namespace L2
open PySem PySem.Spec PyProof.Rows
def ixN (n : Nat) (i : Int) : Option Nat := if 0 ≤ i then (if i < n then some i.toNat else none) else if -(n : Int) ≤ i then some (i + n).toNat else none
def atI {α : Type} (xs : List α) (i : Int) : Option α := (ixN xs.length i).bind fun j => xs[j]?
theorem ixN_seq {n : Nat} {i : Int} {j : Nat} (h : ixN n i = some j) : seqIndex? i n = some j ∧ j < n ∧ -(n : Int) ≤ i ∧ i < n := by
  unfold ixN at h
  by_cases h0 : 0 ≤ i
  · rw [if_pos h0] at h
    by_cases h1 : i < n
    · rw [if_pos h1] at h
      have e : i.toNat = j := Option.some.inj h
      exact ⟨by rw [seqIndex_of h0 h1, e], by omega, by omega, h1⟩
    · rw [if_neg h1] at h; cases h
  · rw [if_neg h0] at h
    by_cases h1 : -(n : Int) ≤ i
    · rw [if_pos h1] at h
      have e : (i + n).toNat = j := Option.some.inj h
      exact ⟨by rw [seqIndex_neg (by omega) h1, e], by omega, h1, by omega⟩
    · rw [if_neg h1] at h; cases h
theorem atI_get {α : Type} {xs : List α} {i : Int} {v : α} (h : atI xs i = some v) : ∃ j, seqIndex? i xs.length = some j ∧ xs[j]? = some v ∧ j < xs.length ∧ -(xs.length : Int) ≤ i ∧ i < xs.length := by
  unfold atI at h
  cases e : ixN xs.length i with
  | none => rw [e] at h; cases h
  | some j =>
    rw [e] at h
    obtain ⟨h1, h2, h3, h4⟩ := ixN_seq e
    exact ⟨j, h1, h, h2, h3, h4⟩
theorem atI_nat {α : Type} {xs : List α} {j : Nat} {v : α} (h : xs[j]? = some v) : atI xs (j : Int) = some v := by
  have hj : j < xs.length := (List.getElem?_eq_some_iff.mp h).1
  have e : ixN xs.length (j : Int) = some j := by
    unfold ixN
    rw [if_pos (by omega), if_pos (by omega)]; simp
  unfold atI; rw [e]; exact h
def PlainIx (b : Expr) : Prop := ∀ o i, subscripted b false o i = operate [o, i] (getItem o i)
def IxR (X : Cx) (r : R2) : Prop :=
  ∀ (value slice : Expr) (pins : List (Addr × Obj)) (s : Shared) (σ : St) (H : Hp) (x y : V) (v u : Value) (Q : VK), Inv X pins σ H s → RelV x v → RelV y u → r x y H Q →
    subscripted slice false v u = operate [v, u] (getItem v u) → wpAny (model X.prog X.w) X.A (subscriptTail value slice v u) (EP X pins σ Q) X.xe s
def MtR (X : Cx) (id : String) (r : V → List V → Hp → VK → Prop) : Prop :=
  ∀ (pins : List (Addr × Obj)) (s : Shared) (σ : St) (H : Hp) (x : V) (xs : List V) (v : Value) (us : List Value) (Q : VK), Inv X pins σ H s → RelV x v → Vals xs us → r x xs H Q →
    wpAny (model X.prog X.w) X.A (call (.builtin id) (v :: us)) (EP X pins σ Q) X.xe s
section
variable {X : Cx} {a b : Expr} {ta tb : TE} {pos : Pos}
theorem pe_ix {r : R2} (hr : IxR X r) (ha : PE X a ta) (hb : PE X b tb) (hs : PlainIx b) : PE X (.Subscript a b pos) (tOp r ta tb) := by
  intro pins s σ H Q I h
  exact Subscript_ (binT ha hb I h fun v u s2 x y H2 I2 rx ry q => hr a b pins s2 σ H2 x y v u Q I2 rx ry q (hs _ _))
def rIxL (K : PySem.W.Frag) : R2 := fun x y H Q => ∃ p xs i v, x = .ref p ∧ y = .int i ∧ SqL K H p xs ∧ atI xs i = some v ∧ Q v H
def rIxT (K : PySem.W.Frag) : R2 := fun x y H Q => ∃ p xs i v, x = .ref p ∧ y = .int i ∧ SqT K H p xs ∧ atI xs i = some v ∧ Q v H
theorem ix_list : IxR X (rIxL X.K) := by
  intro value slice pins s σ H x y v u Q I rx ry h hs
  obtain ⟨p, xs, i, z, rfl, rfl, hq, he, q⟩ := h
  cases rx
  obtain ⟨t, rfl⟩ := ry
  obtain ⟨its, r, pl, hz⟩ := I.list hq
  obtain ⟨j, h1, h2, h3, h4, h5⟩ := atI_get he
  obtain ⟨w, ew, rw'⟩ := r.get h2
  have hl := r.length
  have hn := line63
  have fin : EP X pins σ Q w s := ⟨z, H, I, rw', q⟩
  by_cases h0 : 0 ≤ i
  · have hj : i.toNat = j := by
      rw [seqIndex_of h0 h5] at h1
      exact Option.some.inj h1
    exact item_listR pl.isList h0 (by omega) (by rw [hj]; simpa using ew) fin hs
  · have hj : (i + (its.toArray.size : Int)).toNat = j := by
      rw [seqIndex_neg (by omega) h4] at h1
      rw [List.size_toArray, ← hl]
      exact Option.some.inj h1
    exact subscriptTail_builtinR (x := w) pl.isList.typeIs slot_list_getitem.lookup
      (wpAny_getItem_list_neg (Q := fun r s' => r = w ∧ EP X pins σ Q r s') pl.isList (by omega) (by rw [List.size_toArray] <;> omega) (by omega) (by rw [hj]; simpa using ew) ⟨rfl, fin⟩) hs
theorem ix_tup : IxR X (rIxT X.K) := by
  intro value slice pins s σ H x y v u Q I rx ry h hs
  obtain ⟨p, xs, i, z, rfl, rfl, hq, he, q⟩ := h
  cases rx
  obtain ⟨t, rfl⟩ := ry
  obtain ⟨its, r, pl, hz⟩ := I.tuple hq
  obtain ⟨j, h1, h2, h3, h4, h5⟩ := atI_get he
  obtain ⟨w, ew, rw'⟩ := r.get h2
  have hl := r.length
  have hn := line63
  have fin : EP X pins σ Q w s := ⟨z, H, I, rw', q⟩
  exact subscriptTail_builtinR (x := w) pl.typeIs slot_tuple_getitem.lookup
    (getItem_tuple (j := j) (Q := fun r s' => r = w ∧ EP X pins σ Q r s') pl (by omega) (by omega) (by rw [List.size_toArray, ← hl]; exact h1) (by simpa using ew) ⟨rfl, fin⟩) hs
theorem mapSeq_set (its : List Value) (n j : Nat) (u : Value) : Obj.mapSeq (·.setIfInBounds j u) { cls := .type "list", data := .seq its.toArray n } = { cls := .type "list", data := .seq (its.set j u).toArray n } := by
  simp [Obj.mapSeq]
theorem Inv.lst {pins : List (Addr × Obj)} {σ : St} {H : Hp} {s : Shared} {p : Addr} {xs : List V} (I : Inv X pins σ H s) (h : H p = some (.lst xs)) :
    ∃ (its : List Value) (n : Nat), Vals xs its ∧ s.heap.get? p = some { cls := .type "list", data := .seq its.toArray n } ∧ xs.length ≤ sizeLine := by
  obtain ⟨z, its, n, r, e⟩ := I.hok p _ h
  exact ⟨its, n, r, e, z⟩
theorem Inv.lstUpd {pins : List (Addr × Obj)} {σ : St} {H : Hp} {s : Shared} {p : Addr} {xs ys : List V} {its its' : List Value} {n n' : Nat} {f : Obj → Obj} (I : Inv X pins σ H s) (h : H p = some (.lst xs))
    (ho : s.heap.get? p = some { cls := .type "list", data := .seq its.toArray n }) (hf : f { cls := .type "list", data := .seq its.toArray n } = { cls := .type "list", data := .seq its'.toArray n' }) (r : Vals ys its') (hz : ys.length ≤ sizeLine) (t : Nat) :
    Inv X pins σ (upd H p (.lst ys)) { s with heap := s.heap.update p f, toks := t } := by
  have e : (s.heap.update p f).get? p = some { cls := .type "list", data := .seq its'.toArray n' } := by
    rw [Heap.get?_update_self f ho (by rw [hf] <;> rfl), hf]
  refine I.write (x := p) (e := p) (by rw [h]; trivial) (.inl rfl) (fun b u hb q => (Heap.get?_update_other _ _ (Ne.symm hb)).trans q) ⟨_, e⟩ ?_
  exact ⟨hz, its', n', r, e⟩
def rSetL : V → V → V → Hp → (Hp → Prop) → Prop := fun o i v H Q => ∃ p xs k j, o = .ref p ∧ i = .int k ∧ H p = some (.lst xs) ∧ ixN xs.length k = some j ∧ Q (upd H p (.lst (xs.set j v)))
theorem set_list : PSet X rSetL := by
  intro pins s σ H o i v ov iv u Q I ro ri rv h
  obtain ⟨p, xs, k, j, rfl, rfl, hp, hj, q⟩ := h
  cases ro
  obtain ⟨t, rfl⟩ := ri
  obtain ⟨its, n, r, ho, hz⟩ := I.lst hp
  obtain ⟨h1, h2, h3, h4⟩ := ixN_seq hj
  have hl := r.length
  have hn := line63
  have I' : Inv X pins σ (upd H p (.lst (xs.set j v))) { s with heap := s.heap.update p (Obj.mapSeq (·.setIfInBounds j u)) } :=
    I.lstUpd hp ho (mapSeq_set its n j u) (r.set rv j) (by rw [List.length_set]; exact hz) s.toks
  by_cases h0 : 0 ≤ k
  · have hk : k.toNat = j := by
      rw [seqIndex_of h0 h4] at h1
      exact Option.some.inj h1
    exact PySem.W.ki_setAt ho h0 (by omega) (by rw [List.size_toArray, ← hl]; exact h4) (by rw [hk]; exact ⟨_, I', q⟩)
  · have hk : (k + (its.toArray.size : Int)).toNat = j := by
      rw [seqIndex_neg (by omega) h3] at h1
      rw [List.size_toArray, ← hl]
      exact Option.some.inj h1
    exact PySem.W.ki_setBack ho (by omega) (by rw [List.size_toArray, ← hl]; exact h3) (by omega) (by rw [hk]; exact ⟨_, I', q⟩)
theorem call_len_seq : CallR X (.builtin "len") (fun xs H Q => ∃ p ys, xs = [.ref p] ∧ (SqL X.K H p ys ∨ SqT X.K H p ys) ∧ Q (.int ys.length) H) := by
  intro pins s σ H xs us Q I r h
  obtain ⟨p, ys, rfl, hq, q⟩ := h
  obtain ⟨u, rfl, rx⟩ := vals1 r
  cases rx
  have hn := line63
  rcases hq with hq | hq
  · obtain ⟨its, r', pl, hz⟩ := I.list hq
    have hlen := r'.length
    exact Calls.call_len_list pl.isList (by simp only [List.size_toArray] <;> omega) ⟨.int ys.length, H, I.tok _, ⟨s.toks + 1, by rw [List.size_toArray, hlen]⟩, q⟩
  · obtain ⟨its, r', pl, hz⟩ := I.tuple hq
    have hlen := r'.length
    exact len_tuple pl (by simp only [List.size_toArray] <;> omega) ⟨.int ys.length, H, I.tok _, ⟨s.toks + 1, by rw [List.size_toArray, hlen]⟩, q⟩
theorem call_list_of : CallR X (.type "list") (fun xs H Q => ∃ p ys, xs = [.ref p] ∧ (SqL X.K H p ys ∨ SqT X.K H p ys) ∧ ∀ l, H l = none → Q (.ref l) (upd H l (.lst ys))) := by
  intro pins s σ H xs us Q I r h
  obtain ⟨p, ys, rfl, hq, q⟩ := h
  obtain ⟨u, rfl, rx⟩ := vals1 r
  cases rx
  have fin : ∀ (its : List Value), Vals ys its → ys.length ≤ sizeLine → ∀ (h' : Heap) (c' : Nat), (∀ b o', s.heap.get? b = some o' → h'.get? b = some o') →
      h'.get? s.heap.objs.size = some { cls := .type "list", dict := none, data := .seq its.toArray c', slots := #[] } → EP X pins σ Q (.ref s.heap.objs.size) { s with heap := h' } := fun its r' hz h' c' kp e =>
    ⟨.ref s.heap.objs.size, _, I.laid (t' := s.toks) kp (Nat.le_refl _) (show ObjOk X.prog X.w _ h' _ (.lst ys) from ⟨hz, its, c', r', e⟩), rfl, q _ (I.hok.fresh (Nat.le_refl _))⟩
  rcases hq with hq | hq
  · obtain ⟨its, r', pl, hz⟩ := I.list hq
    have hlen := r'.length
    obtain ⟨o, ho, hc, n, hd⟩ := pl.isList
    exact call_list_seq p (.inl rfl) ho hc hd (fun h' c' kp e => fin its r' hz h' c' kp e) (by simp only [List.size_toArray] <;> omega)
  · obtain ⟨its, r', pl, hz⟩ := I.tuple hq
    have hlen := r'.length
    obtain ⟨o, ho, hc, n, hd⟩ := pl
    exact call_list_seq p (.inr rfl) ho hc hd (fun h' c' kp e => fin its r' hz h' c' kp e) (by simp only [List.size_toArray] <;> omega)
def tyV (K : PySem.W.Frag) (T : String) (x : V) (H : Hp) : Prop := match x with
  | .str _ => T = "str"
  | .int _ => T = "int"
  | .ref p => (T = "list" ∧ ∃ xs, SqL K H p xs) ∨ (T = "tuple" ∧ ∃ o, K.lookup p = some o ∧ o.cls = .type "tuple" ∧ o.dict = none) ∨
      (T = "dict" ∧ ((∃ kvs, H p = some (.dK kvs)) ∨ ∃ kvs, H p = some (.dT kvs))) ∨ (T = "set" ∧ ∃ S n, H p = some (.set S n))
  | _ => False
theorem tyV_is {pins : List (Addr × Obj)} {σ : St} {H : Hp} {s : Shared} {T : String} {x : V} {v : Value} (I : Inv X pins σ H s) (r : RelV x v) (ty : tyV X.K T x H) :
    s.TypeIs v T ∧ ∀ a, v = .ref a → ∃ ob, s.heap.get? a = some ob ∧ ob.dict = none := by
  cases x with
  | str z =>
    obtain ⟨t, rfl⟩ := r
    cases (show T = "str" from ty)
    exact ⟨typeIs_str s z t, fun _ e => nomatch e⟩
  | int i =>
    obtain ⟨t, rfl⟩ := r
    cases (show T = "int" from ty)
    exact ⟨typeIs_int s i t, fun _ e => nomatch e⟩
  | ref p =>
    cases r
    rcases ty with ⟨rfl, xs, hq⟩ | ⟨rfl, o, hk, hc, hd⟩ | ⟨rfl, hk⟩ | ⟨rfl, S, n, hk⟩
    · obtain ⟨its, _, pl, _⟩ := I.list hq
      refine ⟨pl.isList.typeIs, fun a e => ?_⟩
      cases e
      obtain ⟨o, n, e, c, hd, _⟩ := pl
      exact ⟨o, e, hd⟩
    · refine ⟨⟨o, I.kIn p o hk, hc⟩, fun a e => ?_⟩
      cases e
      exact ⟨o, I.kIn _ o hk, hd⟩
    · have z : ∃ o, s.heap.get? p = some o ∧ o.ExactDict := by
        rcases hk with ⟨kvs, hk⟩ | ⟨kvs, hk⟩
        · obtain ⟨_, _, _, _, o, _, _, e, ex, _⟩ := I.hok p _ hk
          exact ⟨o, e, ex⟩
        · obtain ⟨_, _, _, _, o, _, _, e, ex, _⟩ := I.hok p _ hk
          exact ⟨o, e, ex⟩
      obtain ⟨o, e, ex⟩ := z
      refine ⟨⟨o, e, ex.1⟩, fun a e2 => ?_⟩
      cases e2
      exact ⟨o, e, ex.2.1⟩
    · obtain ⟨o, _, _, _, e, ex, _⟩ := I.hok p _ hk
      refine ⟨⟨o, e, ex.1⟩, fun a e2 => ?_⟩
      cases e2
      exact ⟨o, e, ex.2.1⟩
  | _ => exact False.elim ty
def tBM (K : PySem.W.Frag) (T : String) (r : V → List V → Hp → VK → Prop) (to : TE) (t : TA) : TE := fun σ H Q => to σ H fun x H1 => tyV K T x H1 ∧ t σ H1 fun xs H2 => r x xs H2 Q
variable {o e : Expr} {es : List Expr} {to : TE} {t : TA} {name : Str} {apos cpos : Pos} {T id : String} {r : V → List V → Hp → VK → Prop}
theorem pe_bm (pa : PlainAttrs T) (slot : Slot T name id) (hty : typeOf (.builtin id) = pure (.type "method_descriptor")) (hm : MtR X id r) (ho : PE X o to) (ha : PA X (e :: es) t)
    (hbase : attributeBase o name X.env (eval o X.env) = eval o X.env := by rfl)
    (hfew : ((backTo cpos (starEach (e :: es) X.env)).all (fun x => !x.1) && (backToKw cpos (keywordEach [] X.env)).all (fun x => x.1.isSome)
      && decide ((e :: es).length + ([] : List Keyword).length + (if ([] : List Keyword).isEmpty then 0 else 1) < 30)) = true := by rfl)
    (hline : (apos.endLine == cpos.line) = true := by rfl) (hs : starEach (e :: es) X.env = (false, eval e X.env) :: starEach es X.env := by rfl) (hplain : (backTo cpos (starEach es X.env)).any (·.1) = false := by rfl) :
    PE X (.Call (.Attribute o name apos) (e :: es) [] cpos) (tBM X.K T r to t) := by
  intro pins s σ H Q I h
  refine wpAny_Call_method_late hbase hfew hline rfl (thn (ho pins s σ H _ I h) fun v s1 ⟨x, H1, I1, r1, ty, q1⟩ => ?_)
  obtain ⟨h1, h2⟩ := tyV_is I1 r1 ty
  refine ⟨T, id, pa, slot, hty, h1, h2, ?_⟩
  have hA := ha cpos pins s1 σ H1 _ I1 q1
  rw [hs] at hA ⊢
  refine Calls.callWith_builtin (by show (false || (backTo cpos (starEach es X.env)).any (·.1)) = false; rw [hplain] <;> rfl) (Calls.evalArgs_plain ?_)
  exact thn hA fun us s2 ⟨vs, H2, I2, r2, q2⟩ => hm pins s2 σ H2 x vs v us Q I2 r1 r2 q2
end
end L2
namespace L2
open PySem PySem.Spec PyProof.Rows
def MtM (X : Cx) (id : String) (r : V → List V → Hp → VK → Prop) : Prop :=
  ∀ (pins : List (Addr × Obj)) (s : Shared) (σ : St) (H : Hp) (x : V) (xs : List V) (v : Value) (us : List Value) (Q : VK), Inv X pins σ H s → RelV x v → Vals xs us → r x xs H Q →
    wpAny (model X.prog X.w) X.A (call (.builtin id) (v :: us)) (EP X pins σ Q) X.xe s
theorem Vals.one : ∀ {x : V} {us : List Value}, Vals [x] us → ∃ u, us = [u] ∧ RelV x u
  | _, _, .cons r .nil => ⟨_, rfl, r⟩
theorem Vals.eraseIdx : ∀ {xs : List V} {us : List Value} (i : Nat), Vals xs us → Vals (xs.eraseIdx i) (us.eraseIdx i)
  | _, _, _, .nil => .nil
  | _, _, 0, .cons _ t => t
  | _, _, i + 1, .cons r t => .cons r (Vals.eraseIdx i t)
theorem len_erase {α : Type} : ∀ (l : List α) (i : Nat), (l.eraseIdx i).length ≤ l.length
  | [], _ => Nat.le_refl _
  | _ :: _, 0 => Nat.le_succ _
  | _ :: r, i + 1 => Nat.succ_le_succ (len_erase r i)
section
variable {X : Cx} {pins : List (Addr × Obj)} {σ : St} {H : Hp} {s : Shared} {l b : Addr} {xs ys zs : List V}
theorem Inv.lset {its its' : List Value} {n : Nat} {f : Array Value → Array Value} {t' : Nat} (I : Inv X pins σ H s) (hH : H l = some (.lst xs))
    (e : s.heap.get? l = some { cls := .type "list", data := .seq its.toArray n }) (hf : f its.toArray = its'.toArray) (hv : Vals ys its') (hz : ys.length ≤ sizeLine) :
    Inv X pins σ (upd H l (.lst ys)) { s with heap := s.heap.update l (Obj.mapSeq f), toks := t' } := by
  have q := PySem.IsL.update e f
  rw [hf] at q
  refine I.write (x := l) (e := l) (by rw [hH]; exact trivial) (.inl rfl) (fun b' u hb hu => (Heap.get?_update_other s.heap (Obj.mapSeq f) (Ne.symm hb)).trans hu) ⟨_, q⟩ ?_
  exact ⟨hz, its', _, hv, q⟩
theorem Inv.lnew {its : List Value} {t' : Nat} (I : Inv X pins σ H s) (hv : Vals ys its) (hz : ys.length ≤ sizeLine) :
    Inv X pins σ (upd H s.heap.objs.size (.lst ys)) { s with heap := s.heap.push { cls := .type "list", data := .seq its.toArray }, toks := t' } :=
  I.laid (fun _ _ q => Heap.get?_push_of_some _ q) (Nat.le_refl _) ⟨hz, its, 0, hv, Heap.get?_push_size _ rfl⟩
theorem Inv.fresh (I : Inv X pins σ H s) : H s.heap.objs.size = none := I.hok.fresh (Nat.le_refl _)
theorem Inv.lstM (I : Inv X pins σ H s) (hH : H l = some (.lst xs)) : xs.length ≤ sizeLine ∧ ∃ (its : List Value) (n : Nat), Vals xs its ∧ xs.length = its.length ∧ s.heap.get? l = some { cls := .type "list", data := .seq its.toArray n } := by
  obtain ⟨z, its, n, r, e⟩ := I.hok l _ hH
  exact ⟨z, its, n, r, r.length, e⟩
end
section
variable {X : Cx}
def rAppend : V → List V → Hp → VK → Prop := fun x vs H Q => ∃ l xs y, x = .ref l ∧ vs = [y] ∧ H l = some (.lst xs) ∧ xs.length < sizeLine ∧ Q .non (upd H l (.lst (xs ++ [y])))
theorem mt_append : MtM X "list.append" rAppend := by
  intro pins s σ H x vs v us Q I rx rv h
  obtain ⟨l, xs, y, rfl, rfl, hH, hz, q⟩ := h
  cases rx
  obtain ⟨u, rfl, ru⟩ := rv.one
  obtain ⟨z, its, n, r, hl, e⟩ := I.lstM hH
  refine call_meets F.slot_list_append ⟨_, e, rfl⟩ F.entry_list_append (F.args_list_append_2 _ _) (PySem.list_append l its.toArray n u (by rw [List.size_toArray]; omega)) ⟨e, ?_⟩
  refine ⟨.non, _, I.lset (its' := its ++ [u]) hH e (by simp) (r.append (.cons ru .nil)) ?_, rfl, q⟩
  rw [List.length_append, List.length_singleton]
  omega
def rPopAt : V → List V → Hp → VK → Prop := fun x vs H Q => ∃ l xs i k y, x = .ref l ∧ vs = [.int i] ∧ H l = some (.lst xs) ∧ -(2 ^ 63) ≤ i ∧ i < 2 ^ 63 ∧ seqIndex? i xs.length = some k ∧ xs[k]? = some y ∧ Q y (upd H l (.lst (xs.eraseIdx k)))
theorem mt_popAt : MtM X "list.pop" rPopAt := by
  intro pins s σ H x vs v us Q I rx rv h
  obtain ⟨l, xs, i, k, y, rfl, rfl, hH, h1, h2, hk, hy, q⟩ := h
  cases rx
  obtain ⟨u, rfl, ru⟩ := rv.one
  obtain ⟨t, rfl⟩ := ru
  obtain ⟨z, its, n, r, hl, e⟩ := I.lstM hH
  obtain ⟨w, hw, rw'⟩ := r.get hy
  refine call_meets F.slot_list_pop ⟨_, e, rfl⟩ F.entry_list_pop (F.args_list_pop_2 _ _)
    (MeetsSeq.list_pop_at l its.toArray n i t k w (fitsIndex_both h1 h2) (by rw [List.size_toArray, ← hl]; exact hk) (by rw [← Array.getElem?_toList]; exact hw) (by rw [List.size_toArray]; omega)) ⟨e, ?_⟩
  refine ⟨y, _, I.lset (its' := its.eraseIdx k) hH e ?_ (r.eraseIdx k) ?_, rw', q⟩
  · show its.toArray.eraseIdxIfInBounds k = (its.eraseIdx k).toArray
    rw [List.eraseIdxIfInBounds_toArray]
  · have := len_erase xs k
    omega
def rCat : R2 := fun x y H Q => ∃ l b xs zs, x = .ref l ∧ y = .ref b ∧ H l = some (.lst xs) ∧ H b = some (.lst zs) ∧ xs.length + zs.length ≤ sizeLine ∧ ∀ p, H p = none → Q (.ref p) (upd H p (.lst (xs ++ zs)))
theorem op_cat : OpR X (binaryOp .Add) rCat := by
  intro pins s σ H x y v u Q I rx ry h
  obtain ⟨l, b, xs, zs, rfl, rfl, hH, hB, hz, q⟩ := h
  cases rx
  cases ry
  obtain ⟨z, its, n, r, hl, e⟩ := I.lstM hH
  obtain ⟨z2, its2, n2, r2, hl2, e2⟩ := I.lstM hB
  refine PySem.P.add_list e e2 ?_ (by rw [List.size_toArray, List.size_toArray]; omega)
  have ea : its.toArray ++ its2.toArray = (its ++ its2).toArray := by simp
  rw [ea]
  exact ⟨.ref _, _, I.lnew (t' := s.toks) (r.append r2) (by rw [List.length_append]; omega), rfl, q _ I.fresh⟩
end
end L2
namespace Att
open PySem PySem.W PySem.Calls PyProof.Rows
theorem ints_of_wellAll {P : Params} {h : Heap} : ∀ (ns : List Int) (vs : List Value), WellAll P h vs (ns.map WData.int) → IntsAre vs ns := by
  intro ns
  induction ns with
  | nil =>
    intro vs w
    rw [List.map_nil] at w
    cases w
    exact .nil
  | cons n ns ih =>
    intro vs w
    rw [List.map_cons] at w
    cases w with
    | cons a b =>
      cases a
      exact .cons _ _ (ih _ b)
theorem script_of {l : OpenLaw} {n : Nat} (hn : l.most = some n) {P : Params} {h : Heap} {args : List WData} {vals : List Value}
    (hpre : l.row.toRowW.claim.pre args = true) (hwl : WellAll P h vals args) :
    ∃ a vs ns, vals = [Value.ref a] ∧ args = [WData.list (ns.map WData.int)] ∧ h.get? a = some { cls := .type "list", data := .seq vs.toArray } ∧ IntsAre vs ns ∧ ns.length ≤ n := by
  have hsh : WShape.hasAll [] args [.list .int] = true := (pre_splitW hpre).1
  have hc : l.pre.holds [] { args := args } = true := (pre_splitW hpre).2
  obtain ⟨d, r, rfl, h1, h2⟩ := hasAllW_cons hsh
  obtain rfl := hasAllW_nil h2
  obtain ⟨xs, rfl, h3⟩ := hasW_list h1
  obtain ⟨ns, rfl⟩ := items_int h3
  have hlen : ns.length ≤ n := by
    unfold OpenLaw.pre at hc
    have h4 : (WTm.not (.lt (.lit (.int (n : Int))) (.len (.arg 0)))).holds [] { args := [.list (ns.map .int)] } = true := by
      have h4 := (holds_andW hc).1
      rw [hn] at h4
      exact h4
    have h5 := condW_of h4 (w_not (w_lt w_lit (w_len_list (w_arg rfl))))
    rw [List.length_map] at h5
    refine Nat.le_of_not_lt fun q => ?_
    have q' : (n : Int) < ((ns.length : Nat) : Int) := by omega
    first
      | (rw [decide_eq_true q'] at h5; exact absurd h5 (by decide))
      | (simp at h5; omega)
  cases hwl with
  | cons w1 w2 =>
    cases w2
    cases w1 with
    | list ho hall => exact ⟨_, _, ns, rfl, rfl, ho, ints_of_wellAll ns _ hall, hlen⟩
theorem post_true (l : OpenLaw) (args : List WData) : l.row.toRowW.claim.post args (.bool true) args = true :=
  postW_of (r := l.row.toRowW) (X := (true == true))
    (show WShape.has [] (.bool true) .bool = true by first | rfl | decide | simp [WShape.has, WShape.arms, WShape.armsAll])
    (show (WTm.eq .res (.lit (.bool true))).value [] { args := args, res := some (.bool true), after := args } = some (.bool (true == true)) from w_eq_bool (w_res rfl) w_lit) rfl
theorem attach_call {l : OpenLaw} {n : Nat} {q : Program} {loose : List Str} {XP : (Str → Option Value) → Heap → Prop} {YP : World → Heap → Prop} {d : DefRec}
    (hn : l.most = some n) (hdf : d.params.defaults = [])
    (call : ∀ (w : World) (s₀ s₁ : Shared) (mg mb : Str → Option Value) (fa : Addr) (o : Obj) (pm cd doc : Value) (a : Addr) (vs : List Value) (ns : List Int),
      Ground q loose [] XP w s₀ mg mb s₁.heap → YP w s₁.heap →
      s₁.heap.get? fa = some o → o.data = .func (docDef d.name d.params d.body d.scope pm cd doc) → s₁.heap.CodeRec cd d.name → mg d.name = some (.ref fa) →
      s₁.heap.get? a = some { cls := .type "list", data := .seq vs.toArray } → IntsAre vs ns → ns.length ≤ n → s₁.gens = #[] →
      codeAny (model l.prog w) callerA (.call (.ref fa) ⟨[.ref a], []⟩) (fun r s' => r = .ok (.ret (.bool true)) ∧ OldK s₁.heap s'.heap ∧ s'.os = s₁.os ∧ AllBare s'.gens) s₁) :
    WalkO q loose XP YP l.row.toRowW d [] (fun f vs => PySem.call f vs) := by
  intro w s₀ s₁ mg mb G Y fa o pm cd doc dV kV ho hd hcd hD hmg hg args vals as hpre hlay hrd hwl hlo
  obtain rfl : dV = .none := Dflts.none hD hdf
  obtain rfl : kV = .none := Dflts.noKw hD
  obtain ⟨a, vs, ns, rfl, rfl, hobj, hints, hlen⟩ := script_of hn hpre hwl
  refine enter_call (codeAny_mono (call w s₀ s₁ mg mb fa o pm cd doc a vs ns G Y ho (fd_plain hd) hcd hmg hobj hints hlen hg) fun r s' hq => ?_)
  obtain ⟨rfl, h2, h3, h4⟩ := hq
  exact ⟨.inl ⟨.bool true, .bool true, [], rfl, fun _ => rfl, .bool true, post_true l _, fun _ => ⟨List.Pairwise.nil, fun _ hm => (nomatch hm)⟩⟩, h2, h3, h4⟩
end Att
namespace L2
open PySem PySem.Spec PyProof.Rows
theorem vals_ints : ∀ {vs : List Value} {ns : List Int}, IntsAre vs ns → Vals (ns.map V.int) vs
  | _, _, .nil => .nil
  | _, _, .cons n t h => .cons ⟨t, rfl⟩ (vals_ints h)
def Only (H : Hp) : Prop := ∀ b, H b = none ∨ ∃ o xs, H b = some (.frz o (.lst xs))
theorem law_call {P : Program} {w : World} {K : PySem.W.Frag} {mg mb : Str → Option Value} {CX : CXT} {k : Nat} {fa a : Addr} {fd : FuncData} {x : Str} {sp : Sp} {s₁ : Shared} {vs : List Value} {ns : List Int}
    (KX : K.In s₁.heap) (hns : s₁.heap.Ns mainGlobals mg) (hb : s₁.heap.Ns builtinsNs mb) (hbb : ∀ x : Str, x ≠ "__name__" → mb x = bootBuiltins x) (hlim : s₁.heap.NoLimit) (hg : s₁.gens = #[])
    (ha : s₁.heap.get? a = some { cls := .type "list", data := .seq vs.toArray }) (hi : IntsAre vs ns) (hl : ns.length ≤ sizeLine) (hr : Room k callerA)
    (F : ∀ base : Heap, K.In base → base.Ns mainGlobals mg → FnOk P w K mg base CX k fa fd [x] sp) (hbind : ∀ (s : Shared) (u : Value), BindsTo s fd ⟨[u], []⟩ [(x, u)])
    (hsp : ∀ H : Hp, Only H → SqL K H a (ns.map V.int) → sp [.ref a] H (fun v _ => v = .bl true) fun _ _ _ => False)
    (hCX : ∀ H e s', CX [] H s₁ (fun _ _ _ => False) e s' → False) :
    codeAny (model P w) callerA (.call (.ref fa) ⟨[.ref a], []⟩) (fun r s' => r = .ok (.ret (.bool true)) ∧ OldK s₁.heap s'.heap ∧ s'.os = s₁.os ∧ AllBare s'.gens) s₁ := by
  have rv := vals_ints hi
  have lenV := hi.length
  have core : ∀ H : Hp, Only H → SqL K H a (ns.map V.int) → HOk P w H s₁.heap → (∀ b, H b ≠ none → b = a) → (H a ≠ none → K.lookup a = none) →
      codeAny (model P w) callerA (.call (.ref fa) ⟨[.ref a], []⟩) (fun r s' => r = .ok (.ret (.bool true)) ∧ OldK s₁.heap s'.heap ∧ s'.os = s₁.os ∧ AllBare s'.gens) s₁ := by
    intro H hO hS hok hA hK
    have base_of : ∀ {b : Addr} {o : Obj}, s₁.heap.get? b = some o → H b = none → (hidT s₁.heap H).get? b = some o := fun e n => hidT_get e n
    have noA : ∀ {b : Addr} {o : Obj} {es : Array DictEntry} {ep : Nat}, s₁.heap.get? b = some o → o.data = .dict es ep → H b = none := fun {b o es ep} e d => by
      cases q : H b with
      | none => rfl
      | some u =>
        have e' : b = a := hA b (by rw [q]; simp)
        subst e'
        rw [ha] at e; cases e
        have d' : Data.seq vs.toArray _ = Data.dict es ep := d
        cases d'
    have nsK : ∀ {b : Addr} {m : Str → Option Value}, s₁.heap.Ns b m → (hidT s₁.heap H).Ns b m := fun {b m} ⟨o, es, ep, e, d, r⟩ => ⟨o, es, ep, base_of e (noA e d), d, r⟩
    have hKb : K.In (hidT s₁.heap H) := fun b o e => base_of (KX b o e) (by
      cases q : H b with
      | none => rfl
      | some u =>
        have e' : b = a := hA b (by rw [q]; simp)
        subst e'
        rw [hK (by rw [q]; simp)] at e; cases e)
    have hM : Mod K mg (hidT s₁.heap H) := ⟨hKb, nsK hns, ⟨mb, nsK hb, hbb⟩, let ⟨mc, h1, h2⟩ := hlim; ⟨mc, nsK h1, h2⟩⟩
    have e0 : Env0 P w K mg (hidT s₁.heap H) callerA [] s₁ H := ⟨rfl, hM, fun b o e => of_hidT e, Nat.le_of_eq (hidT_size _ _), trivial, fun b hb => absurd (show b ∈ ([] : List Addr) from hb) (by simp), hok, .of_eq hg⟩
    refine codeAny_mono ((F _ hKb (nsK hns)).run callerA [] s₁ H ⟨[.ref a], []⟩ [.ref a] [.ref a] _ _ hr e0 (hbind s₁ (.ref a)) (.cons rfl .nil) (hsp H hO hS)) fun r s' h => ?_
    cases r with
    | error e => exact (hCX H e s' h).elim
    | ok fl =>
      cases fl with
      | next => exact False.elim h
      | brk => exact False.elim h
      | cont => exact False.elim h
      | ret u =>
        obtain ⟨v, H', os, bare, un, hok', r', q⟩ := h
        have q' : v = .bl true := q
        subst q'
        obtain rfl : u = Value.bool true := r'
        refine ⟨rfl, OldK.of_keep fun b o e => ?_, os, bare⟩
        cases q : H b with
        | none => exact un.keep b o e q (by intro z; exact absurd (show b ∈ ([] : List Addr) from z) (by simp)) (by simp)
        | some u =>
          rcases hO b with z | ⟨ob, xs, z⟩
          · rw [q] at z; cases z
          · have z2 := un.frzs b ob _ z
            obtain ⟨e1, _⟩ := hok b _ z
            obtain ⟨e2, _⟩ := hok' b _ z2
            rw [e] at e1; cases e1
            exact e2
  cases hk : K.lookup a with
  | some o =>
    have e := KX a o hk
    rw [ha] at e
    cases e
    refine core (fun _ => none) (fun _ => .inl rfl) (.inr ⟨_, vs.toArray, _, hk, rfl, rfl, rfl, by rw [List.size_toArray, lenV]; exact hl, by simpa using rv⟩) (fun b u z => by have z' : (none : Option HO) = some u := z; cases z') (fun b z => absurd rfl z) fun z => absurd rfl z
  | none =>
    refine core (fun b => if b = a then some (.frz { cls := .type "list", data := .seq vs.toArray } (.lst (ns.map V.int))) else none) (fun b => ?_) (.inl (.inr ⟨{ cls := .type "list", data := .seq vs.toArray }, if_pos rfl⟩)) (fun b u z => ?_) (fun b z => ?_) fun _ => hk
    · by_cases hb : b = a
      · exact .inr ⟨_, _, if_pos hb⟩
      · exact .inl (if_neg hb)
    · by_cases hb : b = a
      · have z' := (if_pos hb).symm.trans z
        cases z'
        subst hb
        exact ⟨ha, by rw [List.length_map]; exact hl, vs, _, rv, ha⟩
      · have z' := (if_neg hb).symm.trans z
        cases z'
    · by_cases hb : b = a
      · exact hb
      · exact absurd (if_neg hb) z
end L2
namespace L2
open PySem PySem.Spec PyProof.Rows
theorem walk_of {l : PySem.W.OpenLaw} {n k : Nat} {q : Program} {loose : List Str} {XP : (Str → Option Value) → Heap → Prop} {YP : World → Heap → Prop} {d : DefRec} {K : Params → PySem.W.Frag} {CX : World → CXT} {sp : World → Sp} {x : Str}
    (hn : l.most = some n) (hn2 : n ≤ sizeLine) (hdf : d.params.defaults = []) (hr : Room k callerA)
    (hY : ∀ (w : World) (h : Heap), YP w h → (K w.params).In h)
    (F : ∀ (w : World) (mg : Str → Option Value) (fa : Addr) (h : Heap), (K w.params).In h → h.Ns mainGlobals mg → mg d.name = some (.ref fa) →
      ∃ fd : FuncData, (∀ (s : Shared) (u : Value), BindsTo s fd ⟨[u], []⟩ [(x, u)]) ∧
        ∀ base : Heap, (K w.params).In base → base.Ns mainGlobals mg → FnOk l.prog w (K w.params) mg base (CX w) k fa fd [x] (sp w))
    (hsp : ∀ (w : World) (H : Hp) (a : Addr) (ns : List Int), ns.length ≤ n → Only H → SqL (K w.params) H a (ns.map V.int) → sp w [.ref a] H (fun v _ => v = .bl true) fun _ _ _ => False)
    (hCX : ∀ (w : World) (H : Hp) (s : Shared) (e : Value) (s' : Shared), CX w [] H s (fun _ _ _ => False) e s' → False) :
    PySem.W.WalkO q loose XP YP l.row.toRowW d [] (fun f vs => PySem.call f vs) := by
  refine Att.attach_call hn hdf fun w s₀ s₁ mg mb fa o pm cd doc a vs ns G Y ho hd hcd hmg hobj hints hlen hg => ?_
  have KX := hY w _ Y
  obtain ⟨fd, hb, hF⟩ := F w mg fa _ KX G.T.g hmg
  exact law_call KX G.T.g G.T.b G.T.builtins G.T.nolimit hg hobj hints (Nat.le_trans hlen hn2) hr hF hb (fun H hO hS => hsp w H a ns hlen hO hS) fun H e s' => hCX w H s₁ e s'
end L2
namespace L2
open PySem PySem.Spec PyProof.Rows
def defArgs (s : Stmt) : Arguments := match s with
  | .FunctionDef _ a _ _ _ _ _ _ _ _ => a
  | _ => { posonlyargs := [], args := [], vararg := none, kwonlyargs := [], kw_defaults := [], kwarg := none, defaults := [] }
def defBody (s : Stmt) : List Stmt := match s with
  | .FunctionDef _ _ b _ _ _ _ _ _ _ => b
  | _ => []
def defScope (s : Stmt) : Scope := match s with
  | .FunctionDef _ _ _ _ _ _ sc _ _ _ => sc
  | _ => { kind := .function, names := [], isGenerator := false, isCoroutine := false }
abbrev CX0 : CXT := fun _ _ _ _ _ _ => False
abbrev E0 : XK := fun _ _ _ => False
theorem pass0 {X : Cx} : Passes CX0 X E0 := fun _ _ _ _ _ _ _ h => h.elim
structure Fun (K : PySem.W.Frag) (x qual : Str) (st : Stmt) (f : Addr) (fd : FuncData) : Prop where
  ex : ∃ (oc : Value) (od : Option Addr) (kV doc pm : Value) (an : Option Addr) (cdv ct : Value) (osl : Array (Option Value)),
    fd = PySem.W.fnOf x qual (defArgs st) (defBody st) (defScope st) .none kV doc pm an cdv ct ∧ K.lookup f = some ⟨oc, od, .func fd, osl⟩ ∧ PySem.W.codeIn K cdv qual = true
  kp : PySem.W.keepIn K (.ref f) = true
section
variable {P : Program} {w : World} {K : PySem.W.Frag} {mg : Str → Option Value} {base : Heap}
theorem Fun.ok {x qual : Str} {st : Stmt} {f : Addr} {fd : FuncData} {N ps : List Str} {k : Nat} {sp : Sp} (F : Fun K x qual st f fd) (S : FnScope N ps (defScope st)) (len : ∀ vs H Q E, sp vs H Q E → vs.length = ps.length)
    (hbody : ∀ (cdv : Value) (A : Around) (outer : List Env) (s : Shared) (H : Hp) (vs : List V) (Q : VK) (E : XK), Room k (A.deeper (envOfC qual (defScope st) s.heap.objs.size f cdv)) → sp vs H Q E →
      ∃ t, PSs (cxOf CX0 P w K mg base N qual (defScope st) f cdv A outer s H E).nox (defBody st) t ∧ t { nx := fun _ H' => Q .non H', rt := Q } (start N vs) H) : FnOk P w K mg base CX0 (k + 1) f fd ps sp := by
  obtain ⟨oc, od, kV, doc, pm, an, cdv, ct, osl, rfl, lk, hcd⟩ := F.ex
  refine fn_of lk hcd S len fun A outer s H vs Q E hr hsp => ?_
  obtain ⟨t, h, q⟩ := hbody cdv A outer s H vs Q E hr hsp
  exact ⟨t, h.nox, q⟩
theorem fun_mk {x qual : Str} {st : Stmt} {f : Addr} {oc : Value} {od an : Option Addr} {osl : Array (Option Value)} {kV doc pm cdv ct : Value} (l : K.lookup f = some ⟨oc, od, .func (PySem.W.fnOf x qual (defArgs st) (defBody st) (defScope st) .none kV doc pm an cdv ct), osl⟩)
    (c : PySem.W.codeIn K cdv qual = true) (k : PySem.W.keepIn K (.ref f) = true) : Fun K x qual st f (PySem.W.fnOf x qual (defArgs st) (defBody st) (defScope st) .none kV doc pm an cdv ct) := ⟨⟨oc, od, kV, doc, pm, an, cdv, ct, osl, rfl, l, c⟩, k⟩
end
theorem hu_of {A : Around} {k : Nat} (hr : Room k A) : A.units + 1 < cLine := Nat.lt_of_le_of_lt (Nat.add_le_add_left (by decide : 1 ≤ 64) _) hr.units
theorem small1000 {n : Nat} (h : n ≤ 1000) : n < sizeLine := Nat.lt_of_le_of_lt h (by decide)
section
variable {X : Cx}
theorem pv (i : Nat) {x : Str} {pos : Pos} (hN : X.N[i]? = some x := by rfl) (hv : Vis X.env.scope x := by first | exact Or.inl rfl | exact Or.inr (Or.inl rfl) | exact Or.inr (Or.inr rfl)) (hd : (x == ("__debug__" : Str)) = false := by decide)
    (hcd : (x == ("__classdict__" : Str)) = false := by decide) : PE X (.Name x pos) (tVar i) := pe_var hN hv hd hcd
end
theorem iteF {A B : Prop} (h : B) : if false = true then A else B := by
  rw [if_neg Bool.false_ne_true]
  exact h
theorem iteT {A B : Prop} (h : A) : if true = true then A else B := by
  rw [if_pos rfl]
  exact h
theorem ite2 {c A B : Prop} [Decidable c] (h1 : c → A) (h2 : ¬ c → B) : if c then A else B := by
  by_cases h : c
  · rw [if_pos h]
    exact h1 h
  · rw [if_neg h]
    exact h2 h
def Same (H H' : Hp) : Prop := ∀ b o, H b = some o → H' b = some o
theorem Same.refl (H : Hp) : Same H H := fun _ _ h => h
theorem Same.trans {H H1 H2 : Hp} (a : Same H H1) (b : Same H1 H2) : Same H H2 := fun c o h => b c o (a c o h)
theorem Same.free {H H' : Hp} (e : Same H H') {l : Addr} (h : H' l = Option.none) : H l = Option.none := by
  cases q : H l with
  | none => rfl
  | some o =>
    rw [e l o q] at h
    cases h
theorem Same.seq {K : PySem.W.Frag} {H H' : Hp} {a : Addr} {xs : List V} (e : Same H H') (h : SqL K H a xs) : SqL K H' a xs := by
  rcases h with (h | ⟨o, h⟩) | h
  · exact .inl (.inl (e _ _ h))
  · exact .inl (.inr ⟨o, e _ _ h⟩)
  · exact .inr h
end L2
namespace L2
open PySem PySem.Spec PyProof.Rows
section
variable {κ : Type} [DecidableEq κ]
def valV (kvs : List (κ × V)) (k : κ) : Option V := (kvs.find? fun kv => decide (kv.1 = k)).map (·.2)
def putK (kvs : List (κ × V)) (k : κ) (v : V) : List (κ × V) :=
  if (kvs.any fun kv => decide (kv.1 = k)) = true then kvs.map (fun kv => if kv.1 = k then (kv.1, v) else kv) else kvs ++ [(k, v)]
def dropK (kvs : List (κ × V)) (k : κ) : List (κ × V) := kvs.filter fun kv => decide (kv.1 ≠ k)
theorem valV_pos {p : κ × V} {r : List (κ × V)} {k : κ} (e : p.1 = k) : valV (p :: r) k = some p.2 := by simp [valV, List.find?_cons, e]
theorem valV_neg {p : κ × V} {r : List (κ × V)} {k : κ} (e : ¬ p.1 = k) : valV (p :: r) k = valV r k := by simp [valV, List.find?_cons, e]
theorem valV_any (k : κ) : ∀ kvs : List (κ × V), (kvs.any fun kv => decide (kv.1 = k)) = (valV kvs k).isSome
  | [] => rfl
  | p :: r => by
    rw [List.any_cons]
    by_cases e : p.1 = k
    · simp only [valV_pos e, decide_eq_true e, Bool.true_or, Option.isSome_some]
    · rw [valV_neg e, decide_eq_false e, Bool.false_or]; exact valV_any k r
theorem valV_map (k j : κ) (y : V) : ∀ kvs : List (κ × V), valV (kvs.map fun kv => if kv.1 = k then (kv.1, y) else kv) j = (valV kvs j).map fun x => if j = k then y else x
  | [] => rfl
  | p :: r => by
    have ih := valV_map k j y r
    rw [List.map_cons]
    by_cases h : p.1 = k
    · rw [if_pos h]
      by_cases e : p.1 = j
      · rw [valV_pos (p := (p.1, y)) e, valV_pos e, Option.map_some, if_pos (e.symm.trans h)]
      · rw [valV_neg (p := (p.1, y)) e, valV_neg e, ih]
    · rw [if_neg h]
      by_cases e : p.1 = j
      · rw [valV_pos (p := p) e, valV_pos e, Option.map_some, if_neg (fun z => h (e.trans z))]
      · rw [valV_neg (p := p) e, valV_neg e, ih]
theorem valV_snoc (k j : κ) (y : V) : ∀ kvs : List (κ × V), valV kvs k = none → valV (kvs ++ [(k, y)]) j = if j = k then some y else valV kvs j
  | [], _ => by
    by_cases e : k = j
    · rw [if_pos e.symm]; exact valV_pos (p := (k, y)) e
    · rw [if_neg (fun z => e z.symm)]; exact valV_neg (p := (k, y)) e
  | p :: r, hn => by
    rw [List.cons_append]
    have hk : ¬ p.1 = k := fun z => by rw [valV_pos z] at hn; cases hn
    rw [valV_neg hk] at hn
    have ih := valV_snoc k j y r hn
    by_cases e : p.1 = j
    · rw [valV_pos e, valV_pos e, if_neg (fun z => hk (e.trans z))]
    · rw [valV_neg e, valV_neg e, ih]
theorem valV_put (kvs : List (κ × V)) (k j : κ) (y : V) : valV (putK kvs k y) j = if j = k then some y else valV kvs j := by
  unfold putK
  by_cases a : (kvs.any fun kv => decide (kv.1 = k)) = true
  · rw [if_pos a, valV_map]
    rw [valV_any] at a
    by_cases e : j = k
    · obtain ⟨x, hx⟩ := Option.isSome_iff_exists.mp a
      rw [if_pos e, e, hx, Option.map_some, if_pos rfl]
    · rw [if_neg e]
      cases valV kvs j with
      | none => rfl
      | some x => rw [Option.map_some, if_neg e]
  · rw [if_neg a]
    refine valV_snoc k j y kvs ?_
    rw [valV_any] at a
    cases q : valV kvs k with
    | none => rfl
    | some x => rw [q] at a; exact (a rfl).elim
theorem length_putK (kvs : List (κ × V)) (k : κ) (v : V) : (putK kvs k v).length ≤ kvs.length + 1 := by
  unfold putK
  split
  · rw [List.length_map]; omega
  · rw [List.length_append, List.length_cons, List.length_nil]; omega
theorem putK_new {kvs : List (κ × V)} {k : κ} (v : V) (h : valV kvs k = none) : putK kvs k v = kvs ++ [(k, v)] := by
  unfold putK
  rw [valV_any, h]
  exact if_neg (by decide)
theorem RelO.isSome_eq {o : Option V} {u : Option Value} (r : RelO o u) : o.isSome = u.isSome := by
  cases o with
  | none => cases u with
    | none => rfl
    | some _ => exact (show False from r).elim
  | some _ => cases u with
    | none => exact (show False from r).elim
    | some _ => rfl
theorem RelO.getD {o : Option V} {u : Option Value} {d : V} {d' : Value} (r : RelO o u) (rd : RelV d d') : RelV (o.getD d) (u.getD d') := by
  cases o with
  | none => cases u with
    | none => exact rd
    | some _ => exact (show False from r).elim
  | some _ => cases u with
    | none => exact (show False from r).elim
    | some _ => exact r
theorem KV.val {kvs : List (κ × V)} {vs : List (κ × Value)} (r : KV kvs vs) (k : κ) : RelO (valV kvs k) (valueAt vs k) := by
  unfold KV at r
  induction r with
  | nil => exact True.intro
  | @cons p q ps qs h t ih =>
    obtain ⟨h1, h2⟩ := h
    by_cases e : p.1 = k
    · have e' : q.1 = k := h1.symm.trans e
      have b : valueAt (q :: qs) k = some q.2 := by simp [valueAt, List.find?_cons, e']
      rw [valV_pos e, b]; exact h2
    · have e' : ¬ q.1 = k := fun z => e (h1.trans z)
      have b : valueAt (q :: qs) k = valueAt qs k := by simp [valueAt, List.find?_cons, e']
      rw [valV_neg e, b]; exact ih
theorem KV.any {kvs : List (κ × V)} {vs : List (κ × Value)} (r : KV kvs vs) (k : κ) : (kvs.any fun kv => decide (kv.1 = k)) = vs.any fun kv => decide (kv.1 = k) := by
  unfold KV at r
  induction r with
  | nil => rfl
  | cons h t ih => rw [List.any_cons, List.any_cons, ih, h.1]
theorem KV.repl {kvs : List (κ × V)} {vs : List (κ × Value)} (r : KV kvs vs) (k : κ) {y : V} {u : Value} (ry : RelV y u) :
    KV (kvs.map fun kv => if kv.1 = k then (kv.1, y) else kv) (vs.map fun kv => if kv.1 = k then (kv.1, u) else kv) := by
  unfold KV at r ⊢
  induction r with
  | nil => exact .nil
  | @cons p q ps qs h t ih =>
    rw [List.map_cons, List.map_cons]
    refine .cons ?_ ih
    obtain ⟨h1, h2⟩ := h
    by_cases e : p.1 = k
    · rw [if_pos e, if_pos (h1.symm.trans e)]; exact ⟨h1, ry⟩
    · rw [if_neg e, if_neg (fun z => e (h1.trans z))]; exact ⟨h1, h2⟩
theorem KV.put {kvs : List (κ × V)} {vs : List (κ × Value)} (r : KV kvs vs) (k : κ) {y : V} {u : Value} (ry : RelV y u) : KV (putK kvs k y) (stored vs k u) := by
  unfold putK stored
  rw [r.any k]
  by_cases e : (vs.any fun kv => decide (kv.1 = k)) = true
  · rw [if_pos e, if_pos e]; exact r.repl k ry
  · rw [if_neg e, if_neg e]; exact Paired.snoc r ⟨rfl, ry⟩
theorem KV.keys {kvs : List (κ × V)} {vs : List (κ × Value)} (r : KV kvs vs) : kvs.map (·.1) = vs.map (·.1) := by
  unfold KV at r
  induction r with
  | nil => rfl
  | cons h t ih => rw [List.map_cons, List.map_cons, ih, h.1]
theorem KV.length {kvs : List (κ × V)} {vs : List (κ × Value)} (r : KV kvs vs) : kvs.length = vs.length := Paired.length r
theorem dropK_le (kvs : List (κ × V)) (k : κ) : (dropK kvs k).length ≤ kvs.length := List.length_filter_le _ _
end
theorem kV_is {P : Program} {w : World} {k : Key} {u : Value} (r : RelV (kV k) u) : (mixKind P w).is k u = true := by
  cases k with
  | inl i => obtain ⟨t, e⟩ := (show ∃ t, u = Value.int i t from r); subst e; exact mixKind_int P w i t
  | inr x => obtain ⟨t, e⟩ := (show ∃ t, u = Value.str x t from r); subst e; exact mixKind_str P w x t
theorem items_are {P : Program} {w : World} : ∀ {ks : List Key} {us : List Value}, Vals (ks.map kV) us → ItemsAre (mixKind P w) ks us
  | [], _, r => by rw [List.map_nil] at r; cases r; exact .nil
  | k :: ks, _, r => by
    rw [List.map_cons] at r
    cases r with
    | cons h t => exact .cons (kV_is h) (items_are t)
abbrev KT (H : Hp) : List (List Key × V) → List (List Key × Addr × Value) → Prop := Paired fun p q => p.1 = q.1 ∧ H q.2.1 = some (.tup (p.1.map kV)) ∧ RelV p.2 q.2.2
theorem KT.val {H : Hp} {kvs : List (List Key × V)} {xs : List (List Key × Addr × Value)} (r : KT H kvs xs) (k : List Key) : RelO (valV kvs k) ((atKey xs k).map (·.2)) := by
  induction r with
  | nil => exact True.intro
  | @cons p q ps qs h t ih =>
    obtain ⟨h1, _, h2⟩ := h
    by_cases e : p.1 = k
    · have e' : q.1 = k := h1.symm.trans e
      have b : atKey (q :: qs) k = some q.2 := by simp [atKey, List.find?_cons, e']
      rw [valV_pos e, b]; exact h2
    · have e' : ¬ q.1 = k := fun z => e (h1.trans z)
      have b : atKey (q :: qs) k = atKey qs k := by simp [atKey, List.find?_cons, e']
      rw [valV_neg e, b]; exact ih
theorem KT.repl {H : Hp} {kvs : List (List Key × V)} {xs : List (List Key × Addr × Value)} (r : KT H kvs xs) (k : List Key) {y : V} {u : Value} (ry : RelV y u) :
    KT H (kvs.map fun kv => if kv.1 = k then (kv.1, y) else kv) (xs.map (putAt k u)) := by
  induction r with
  | nil => exact .nil
  | @cons p q ps qs h t ih =>
    rw [List.map_cons, List.map_cons]
    refine .cons ?_ ih
    obtain ⟨h1, h2, h3⟩ := h
    unfold putAt
    by_cases e : p.1 = k
    · rw [if_pos e, if_pos (h1.symm.trans e)]; exact ⟨h1, h2, ry⟩
    · rw [if_neg e, if_neg (fun z => e (h1.trans z))]; exact ⟨h1, h2, h3⟩
theorem KT.put {H : Hp} {kvs : List (List Key × V)} {xs : List (List Key × Addr × Value)} (r : KT H kvs xs) (k : List Key) {b : Addr} {y : V} {u : Value} (hb : H b = some (.tup (k.map kV))) (ry : RelV y u) :
    KT H (putK kvs k y) (storedH xs k b u) := by
  have e : (kvs.any fun kv => decide (kv.1 = k)) = (atKey xs k).isSome := by
    rw [valV_any, (r.val k).isSome_eq, Option.isSome_map]
  unfold putK storedH
  rw [e]
  by_cases q : (atKey xs k).isSome = true
  · rw [if_pos q, if_pos q]; exact r.repl k ry
  · rw [if_neg q, if_neg q]; exact Paired.snoc r ⟨rfl, hb, ry⟩
theorem KT.keeps {H H' : Hp} {kvs : List (List Key × V)} {xs : List (List Key × Addr × Value)} (r : KT H kvs xs) (ht : ∀ b ys, H b = some (.tup ys) → H' b = some (.tup ys)) : KT H' kvs xs :=
  Paired.mapP r fun _ _ z => ⟨z.1, ht _ _ z.2.1, z.2.2⟩
section
variable {P : Program} {w : World} {H : Hp} {h : Heap} {a : Addr}
theorem rd_of {u : HO} (ok : HOk P w H h) (e : Rd H a u) : ObjOk P w H h a u := e.ok ok
theorem dk_rd {kvs : List (Key × V)} (ok : HOk P w H h) (e : Rd H a (.dK kvs)) : kvs.length ≤ sizeLine ∧ (a == sysModules) = false ∧ ∃ vs, KV kvs vs ∧ h.DictOf (mixKind P w) a vs :=
  show ObjOk P w H h a (.dK kvs) from rd_of ok e
theorem dk_of {kvs : List (Key × V)} (ok : HOk P w H h) (e : H a = some (.dK kvs)) : kvs.length ≤ sizeLine ∧ (a == sysModules) = false ∧ ∃ vs, KV kvs vs ∧ h.DictOf (mixKind P w) a vs := dk_rd ok (.inl e)
theorem key_of {ks : List Key} (ok : HOk P w H h) (e : H a = some (.tup (ks.map kV))) : (tupleKind (mixKind P w)).is h ks a := by
  obtain ⟨_, its, r, o, h1, h2, n, h3⟩ := (show ObjOk P w H h a (.tup (ks.map kV)) from ok a _ e)
  exact ⟨o, its.toArray, n, h1, h2, h3, by simpa using items_are r⟩
theorem dt_rd {kvs : List (List Key × V)} (ok : HOk P w H h) (e : Rd H a (.dT kvs)) : kvs.length ≤ sizeLine ∧ (a == sysModules) = false ∧
    ∃ xs, KT H kvs xs ∧ h.DictOfH (tupleKind (mixKind P w)) a xs := by
  obtain ⟨z, y, xs, r, o, es, ep, h1, h2, h3, h4, h5⟩ := (show ObjOk P w H h a (.dT kvs) from rd_of ok e)
  refine ⟨z, y, xs, r, o, es, ep, h1, h2, h3, h4, fun x hx => ?_, h5⟩
  have all : ∀ {l : List (List Key × V)} {m : List (List Key × Addr × Value)}, KT H l m → ∀ x ∈ m, (tupleKind (mixKind P w)).is h x.1 x.2.1 := by
    intro l m q
    induction q with
    | nil => intro x hx; exact nomatch hx
    | @cons p q ps qs hq t ih =>
      intro x hx
      rcases List.mem_cons.mp hx with e | hx
      · subst e
        exact key_of ok (by rw [← hq.1]; exact hq.2.1)
      · exact ih x hx
  exact all r x hx
theorem dt_of {kvs : List (List Key × V)} (ok : HOk P w H h) (e : H a = some (.dT kvs)) : kvs.length ≤ sizeLine ∧ (a == sysModules) = false ∧
    ∃ xs, KT H kvs xs ∧ h.DictOfH (tupleKind (mixKind P w)) a xs := dt_rd ok (.inl e)
end
def DGet (H : Hp) (a : Addr) (y : V) (r : Option V) : Prop :=
  (∃ kvs k, Rd H a (.dK kvs) ∧ y = kV k ∧ r = valV kvs k) ∨ ∃ kvs k b, Rd H a (.dT kvs) ∧ y = .ref b ∧ H b = some (.tup (k.map kV)) ∧ r = valV kvs k
def DPut (H : Hp) (a : Addr) (y v : V) (H' : Hp) : Prop :=
  (∃ kvs k, H a = some (.dK kvs) ∧ y = kV k ∧ kvs.length < sizeLine ∧ H' = upd H a (.dK (putK kvs k v))) ∨
  ∃ kvs k b, H a = some (.dT kvs) ∧ y = .ref b ∧ H b = some (.tup (k.map kV)) ∧ kvs.length < sizeLine ∧ H' = upd H a (.dT (putK kvs k v))
theorem DGet.k {H : Hp} {a : Addr} {kvs : List (Key × V)} {k : Key} (e : H a = some (.dK kvs)) : DGet H a (kV k) (valV kvs k) := .inl ⟨kvs, k, .inl e, rfl, rfl⟩
theorem DGet.t {H : Hp} {a b : Addr} {kvs : List (List Key × V)} {k : List Key} (e : H a = some (.dT kvs)) (eb : H b = some (.tup (k.map kV))) : DGet H a (.ref b) (valV kvs k) := .inr ⟨kvs, k, b, .inl e, rfl, eb, rfl⟩
theorem DPut.k {H : Hp} {a : Addr} {kvs : List (Key × V)} {k : Key} {v : V} (e : H a = some (.dK kvs)) (hl : kvs.length < sizeLine) : DPut H a (kV k) v (upd H a (.dK (putK kvs k v))) := .inl ⟨kvs, k, e, rfl, hl, rfl⟩
theorem DPut.t {H : Hp} {a b : Addr} {kvs : List (List Key × V)} {k : List Key} {v : V} (e : H a = some (.dT kvs)) (eb : H b = some (.tup (k.map kV))) (hl : kvs.length < sizeLine) :
    DPut H a (.ref b) v (upd H a (.dT (putK kvs k v))) := .inr ⟨kvs, k, b, e, rfl, eb, hl, rfl⟩
section
variable {X : Cx} {pins : List (Addr × Obj)} {σ : St} {H : Hp} {s : Shared} {a : Addr} {y v : V} {u r : Value} {o : Option V} {A : Around} {E : Value → Shared → Prop}
theorem Inv.big (I : Inv X pins σ H s) : sysModules < s.heap.objs.size := by
  have h : mainGlobals < s.heap.objs.size := (I.mod.glob.keeps I.bk).lt
  exact Nat.lt_trans (by decide) h
theorem d_getItem {Q : Value → Shared → Prop} (hu : A.units + 1 < cLine) (I : Inv X pins σ H s) (g : DGet H a y (some v)) (ry : RelV y u) (h : ∀ w' s', Inv X pins σ H s' → RelV v w' → Q w' s') :
    wpAny (model X.prog X.w) A (getItem (.ref a) u) Q E s := by
  rcases g with ⟨kvs, k, e, ey, l⟩ | ⟨kvs, k, b, e, ey, eb, l⟩
  · subst ey
    obtain ⟨z, hd, vs, rel, dd⟩ := dk_rd I.hok e
    obtain ⟨w', hw, rw'⟩ := RelO.some_of (v := v) (o := valueAt vs k) (by rw [l]; exact rel.val k)
    exact wpAny_getItem_of (kV_is ry) dd.mapOf hw (h w' _ (I.tok _) rw')
  · subst ey
    cases (show u = Value.ref b from ry)
    obtain ⟨z, hd, xs, rel, dd⟩ := dt_rd I.hok e
    obtain ⟨w', hw, rw'⟩ := RelO.some_of (v := v) (o := (atKey xs k).map (·.2)) (by rw [l]; exact rel.val k)
    obtain ⟨p, hp, hp2⟩ := Option.map_eq_some_iff.mp hw
    refine wpAny_getItem_heap (tupleKind_room_in1 hu) (key_of I.hok eb) dd hp ?_
    rw [hp2]
    exact h w' _ (I.tok _) rw'
theorem d_in {Q : Value → Shared → Prop} (hu : A.units + 1 < cLine) (I : Inv X pins σ H s) (g : DGet H a y o) (ry : RelV y u) (h : ∀ s', Inv X pins σ H s' → Q (.bool o.isSome) s') :
    wpAny (model X.prog X.w) A (compareOp .In u (.ref a)) Q E s := by
  rcases g with ⟨kvs, k, e, ey, l⟩ | ⟨kvs, k, b, e, ey, eb, l⟩
  · subst ey
    obtain ⟨z, hd, vs, rel, dd⟩ := dk_rd I.hok e
    refine wpAny_in_of (kV_is ry) hd dd.mapOf ?_
    rw [← (rel.val k).isSome_eq, ← l]
    exact h _ (I.tok _)
  · subst ey
    cases (show u = Value.ref b from ry)
    obtain ⟨z, hd, xs, rel, dd⟩ := dt_rd I.hok e
    refine wpAny_in_heap (tupleKind_room_in1 hu) (key_of I.hok eb) hd dd ?_
    have q := (rel.val k).isSome_eq
    rw [Option.isSome_map] at q
    rw [← q, ← l]
    exact h _ (I.tok _)
theorem d_write {h' : Heap} {t' : Nat} {ob : HO} (I : Inv X pins σ H s) (mu : Mut (H a)) (hs : Heap.SameBut a s.heap h') (he : ∃ q, h'.get? a = some q) (new : ObjOk X.prog X.w (upd H a ob) h' a ob) :
    Inv X pins σ (upd H a ob) { s with heap := h', toks := t' } :=
  I.write (x := a) (e := a) mu (.inl rfl) (fun b q hb z => (hs.2 b hb).trans z) he new
theorem dk_new {P : Program} {w : World} {H' : Hp} {h' : Heap} {kvs : List (Key × V)} {vs : List (Key × Value)} (z : kvs.length ≤ sizeLine) (hd : (a == sysModules) = false) (rel : KV kvs vs) (dd : h'.DictOf (mixKind P w) a vs) :
    ObjOk P w H' h' a (.dK kvs) := ⟨z, hd, vs, rel, dd⟩
theorem d_setItem {H' : Hp} {Q : Unit → Shared → Prop} (hu : A.units + 1 < cLine) (I : Inv X pins σ H s) (g : DPut H a y v H') (ry : RelV y u) (rv : RelV v r) (h : ∀ s', Inv X pins σ H' s' → Q () s') :
    wpAny (model X.prog X.w) A (setItem (.ref a) u r) Q E s := by
  rcases g with ⟨kvs, k, e, ey, l, eH⟩ | ⟨kvs, k, b, e, ey, eb, l, eH⟩
  · subst ey eH
    obtain ⟨z, hd, vs, rel, dd⟩ := dk_of I.hok e
    have hz : vs.length ≤ sizeLine := by rw [← rel.length]; exact z
    have hl : (putK kvs k v).length ≤ sizeLine := by have := length_putK kvs k v; omega
    refine wpAny_setItem_pairs (hsz := hz) (kV_is ry) dd fun h' dd' hs => h _ ?_
    have he : ∃ q, h'.get? a = some q := let ⟨q, _, _, hq, _⟩ := dd'; ⟨q, hq⟩
    exact d_write I (by rw [e]; exact True.intro) hs he (dk_new hl hd (rel.put k rv) dd')
  · subst ey eH
    cases (show u = Value.ref b from ry)
    obtain ⟨z, hd, xs, rel, dd⟩ := dt_of I.hok e
    have hz : xs.length ≤ sizeLine := by rw [← Paired.length rel]; exact z
    have hl : (putK kvs k v).length ≤ sizeLine := by have := length_putK kvs k v; omega
    refine wpAny_setItem_heap (hsz := hz) (tupleKind_room_in1 hu) (key_of I.hok eb) dd fun h' dd' hs => h _ ?_
    obtain ⟨q, es, ep, hq, h2, h3, h4, _, h5⟩ := dd'
    refine d_write I (by rw [e]; exact True.intro) hs ⟨q, hq⟩ ⟨hl, hd, _, (rel.put k eb rv).keeps fun c ys ec => ?_, q, es, ep, hq, h2, h3, h4, h5⟩
    rw [upd_ne (ne_of ec e (fun z => nomatch z))]
    exact ec
end
def NoSl (i : Expr) : Prop := ∀ ov iv, subscripted i false ov iv = operate [ov, iv] (getItem ov iv)
theorem subD_of {prog : Program} {w : World} {A : Around} {E : Value → Shared → Prop} {s : Shared} {env : Env} {value slice : Expr} {pos : Pos} {T id : String} {Q : Value → Shared → Prop}
    (hl : typeLookup (.type T) "__getitem__" = pure (some (.builtin id))) (hs : NoSl slice)
    (h : wpAny (model prog w) A (eval value env) (fun o s₁ => wpAny (model prog w) A (eval slice env) (fun i s₂ => s₂.TypeIs o T ∧ wpAny (model prog w) A (getItem o i) Q E s₂) E s₁) E s) :
    wpAny (model prog w) A (eval (.Subscript value slice pos) env) Q E s := by
  refine Subscript_ (wpAny_mono h (fun o s₁ h₁ => wpAny_mono h₁ (fun i s₂ h₂ => ?_) fun _ _ x => x) fun _ _ x => x)
  obtain ⟨hT, h₂⟩ := h₂
  unfold subscriptTail
  refine wpAny_bind ?_
  rw [getitemInPython_of_ne hT.not_modules]
  refine wpAny_bind (wpAny_specialOf hT hl ?_)
  have fin : wpAny (model prog w) A (subscripted slice false o i) (fun r s₃ => wpAny (model prog w) A (letTemporaryGo value o r >>= fun _ => pure r) Q E s₃) E s₂ := by
    rw [hs o i]
    exact wpAny_operating (wpAny_mono h₂ (fun r s₃ h₃ => wpAny_bind (wpAny_letTemporaryGo (wpAny_pure h₃))) fun _ _ x => x)
  first
    | exact wpAny_pure (wpAny_bind fin)
    | exact wpAny_bind (wpAny_pure (wpAny_bind fin))
    | exact wpAny_bind fin
theorem dict_typeIs {X : Cx} {pins : List (Addr × Obj)} {σ : St} {H : Hp} {s : Shared} {a : Addr} {y : V} {o : Option V} (I : Inv X pins σ H s) (g : DGet H a y o) : s.TypeIs (.ref a) "dict" := by
  rcases g with ⟨kvs, k, e, _, _⟩ | ⟨kvs, k, b, e, _, _, _⟩
  · obtain ⟨_, _, vs, _, dd⟩ := dk_rd I.hok e
    exact dd.typeIs
  · obtain ⟨_, _, xs, _, dd⟩ := dt_rd I.hok e
    exact dd.typeIs
def tDGet (td ty : TE) : TE := fun σ H Q => td σ H fun x H1 => ty σ H1 fun y H2 => ∃ a v, x = .ref a ∧ DGet H2 a y (some v) ∧ Q v H2
def tDIn (ty td : TE) : TE := fun σ H Q => ty σ H fun y H1 => td σ H1 fun x H2 => ∃ a o, x = .ref a ∧ DGet H2 a y o ∧ Q (.bl o.isSome) H2
def sDPut (td ty tv : TE) : TS := fun D σ H => tv σ H fun v H1 => td σ H1 fun x H2 => ty σ H2 fun y H3 => ∃ a H4, x = .ref a ∧ DPut H3 a y v H4 ∧ D.nx σ H4
section
variable {X : Cx} {o i e value : Expr} {pos pos' tpos : Pos} {td ty tv : TE}
theorem pe_dget (hu : X.A.units + 1 < cLine) (ho : PE X o td) (hi : PE X i ty) (hs : NoSl i) : PE X (.Subscript o i pos) (tDGet td ty) := by
  intro pins s σ H Q I h
  refine subD_of PySem.F.slot_dict_getitem.lookup hs (thn (ho pins s σ H _ I h) fun u s1 ⟨x, H1, I1, rx, q1⟩ => thn (hi pins s1 σ H1 _ I1 q1) fun iv s2 ⟨y, H2, I2, ry, a, v, ex, g, q2⟩ => ?_)
  subst ex
  obtain rfl : u = Value.ref a := rx
  exact ⟨dict_typeIs I2 g, d_getItem hu I2 g ry fun w' s3 I3 rw' => ⟨v, H2, I3, rw', q2⟩⟩
theorem pc_din (hu : X.A.units + 1 < cLine) (hi : PE X i ty) (ho : PE X o td) : PC X .In i o (tDIn ty td) := by
  intro pins s σ H Q I h
  refine thn (hi pins s σ H _ I h) fun iv s1 ⟨y, H1, I1, ry, q1⟩ => thn (ho pins s1 σ H1 _ I1 q1) fun u s2 ⟨x, H2, I2, rx, a, ov, ex, g, q2⟩ => ?_
  subst ex
  obtain rfl : u = Value.ref a := rx
  exact d_in hu I2 g ry fun s3 I3 => ⟨.bl ov.isSome, H2, I3, rfl, q2⟩
theorem ps_dput (hu : X.A.units + 1 < cLine) (ho : PE X o td) (hi : PE X i ty) (hv : PE X value tv) (hs : swapsWith value (some (.Subscript o i pos')) pos.line X.env = pure false) :
    PS X (.Assign [.Subscript o i pos'] value pos) (sDPut td ty tv) := by
  intro pins s σ H D I h
  refine wpAny_Assign_Subscript (thn (hv pins s σ H _ I h) fun r s1 ⟨v, H1, I1, rv, q1⟩ => thn (ho pins s1 σ H1 _ I1 q1) fun u s2 ⟨x, H2, I2, rx, q2⟩ => thn (hi pins s2 σ H2 _ I2 q2) fun iv s3 ⟨y, H3, I3, ry, a, H4, ex, g, q3⟩ => ?_) hs
  subst ex
  obtain rfl : u = Value.ref a := rx
  exact d_setItem hu I3 g ry rv fun s4 I4 => ⟨σ, H4, I4, q3⟩
end
theorem dk_empty {P : Program} {w : World} {H : Hp} (h : Heap) (hb : sysModules < h.objs.size) : ObjOk P w H (h.push { cls := .type "dict", data := .dict #[] }) h.objs.size (.dK []) :=
  ⟨Nat.zero_le _, beq_eq_false_iff_ne.mpr (Ne.symm (Nat.ne_of_lt hb)), [], .nil, Heap.DictOf.new h⟩
theorem dt_empty {P : Program} {w : World} {H : Hp} (h : Heap) (hb : sysModules < h.objs.size) : ObjOk P w H (h.push { cls := .type "dict", data := .dict #[] }) h.objs.size (.dT []) :=
  ⟨Nat.zero_le _, beq_eq_false_iff_ne.mpr (Ne.symm (Nat.ne_of_lt hb)), [], .nil, _, #[], 0, Heap.get?_push_size _ rfl, ⟨rfl, rfl, rfl⟩, rfl, rfl, List.nodup_nil⟩
def tDNewK : TE := fun _ H Q => ∀ p, H p = none → Q (.ref p) (upd H p (.dK []))
def tDNewT : TE := fun _ H Q => ∀ p, H p = none → Q (.ref p) (upd H p (.dT []))
section
variable {X : Cx} {pos : Pos}
theorem pe_dnewK : PE X (.Dict [] [] pos) tDNewK := fun pins s σ H Q I h =>
  wpAny_Dict_empty ⟨.ref s.heap.objs.size, _, I.laid (a := s.heap.objs.size) (o := .dK []) (t' := s.toks) (fun _ _ q => Heap.get?_push_of_some _ q) (Nat.le_refl _) (dk_empty s.heap I.big), rfl, h _ (I.hok.fresh (Nat.le_refl _))⟩
theorem pe_dnewT : PE X (.Dict [] [] pos) tDNewT := fun pins s σ H Q I h =>
  wpAny_Dict_empty ⟨.ref s.heap.objs.size, _, I.laid (a := s.heap.objs.size) (o := .dT []) (t' := s.toks) (fun _ _ q => Heap.get?_push_of_some _ q) (Nat.le_refl _) (dt_empty s.heap I.big), rfl, h _ (I.hok.fresh (Nat.le_refl _))⟩
end
structure M1 (X : Cx) (o : Expr) (m : Str) (apos : Pos) (e : Expr) (cpos : Pos) : Prop where
  base : attributeBase o m X.env (eval o X.env) = eval o X.env
  few : ((backTo cpos (starEach [e] X.env)).all (fun x => !x.1) && (backToKw cpos (keywordEach [] X.env)).all (fun x => x.1.isSome)
    && decide (([e] : List Expr).length + ([] : List Keyword).length + (if ([] : List Keyword).isEmpty then 0 else 1) < 30)) = true
  line : (apos.endLine == cpos.line) = true
  trees : backTo cpos (starEach [e] X.env) = [(false, eval e X.env)]
structure M2 (X : Cx) (o : Expr) (m : Str) (apos : Pos) (e f : Expr) (cpos : Pos) : Prop where
  base : attributeBase o m X.env (eval o X.env) = eval o X.env
  few : ((backTo cpos (starEach [e, f] X.env)).all (fun x => !x.1) && (backToKw cpos (keywordEach [] X.env)).all (fun x => x.1.isSome)
    && decide (([e, f] : List Expr).length + ([] : List Keyword).length + (if ([] : List Keyword).isEmpty then 0 else 1) < 30)) = true
  line : (apos.endLine == cpos.line) = true
  trees : backTo cpos (starEach [e, f] X.env) = [(false, eval e X.env), (false, eval f X.env)]
def IsD (H : Hp) (a : Addr) : Prop := (∃ kvs, Rd H a (.dK kvs)) ∨ ∃ kvs, Rd H a (.dT kvs)
theorem isD_at {X : Cx} {pins : List (Addr × Obj)} {σ : St} {H : Hp} {s : Shared} {a : Addr} (I : Inv X pins σ H s) (d : IsD H a) :
    s.TypeIs (.ref a) "dict" ∧ (∀ b, Value.ref a = .ref b → ∃ ob, s.heap.get? b = some ob ∧ ob.dict = none) ∧ (a == sysModules) = false := by
  rcases d with ⟨kvs, e⟩ | ⟨kvs, e⟩
  · obtain ⟨_, hd, vs, _, dd⟩ := dk_rd I.hok e
    refine ⟨dd.typeIs, fun b q => ?_, hd⟩
    cases q
    obtain ⟨ob, _, _, h1, h2, _⟩ := dd
    exact ⟨ob, h1, h2.2.1⟩
  · obtain ⟨_, hd, xs, _, dd⟩ := dt_rd I.hok e
    refine ⟨dd.typeIs, fun b q => ?_, hd⟩
    cases q
    obtain ⟨ob, _, _, h1, h2, _⟩ := dd
    exact ⟨ob, h1, h2.2.1⟩
section
variable {X : Cx} {pins : List (Addr × Obj)} {σ : St} {H : Hp} {s : Shared} {a : Addr} {y d : V} {u r : Value} {o : Option V} {A : Around} {E : Value → Shared → Prop}
theorem d_get1 {Q : Value → Shared → Prop} (hu : A.units + 1 < cLine) (I : Inv X pins σ H s) (g : DGet H a y o) (ry : RelV y u) (h : ∀ w' s', Inv X pins σ H s' → RelV (o.getD .non) w' → Q w' s') :
    wpAny (model X.prog X.w) A (call (.builtin "dict.get") [.ref a, u]) Q E s := by
  rcases g with ⟨kvs, k, e, ey, l⟩ | ⟨kvs, k, b, e, ey, eb, l⟩
  · subst ey
    obtain ⟨z, hd, vs, rel, dd⟩ := dk_rd I.hok e
    refine call_meetsIn PySem.F.slot_dict_get dd.typeIs PySem.F.entry_dict_get (PySem.F.args_dict_get_2 _ _) (meets_dict_get (mixKind X.prog X.w) a (kV_is ry) hd) ⟨_, dd.mapOf, h _ _ (I.tok _) ?_⟩
    rw [l]
    exact (rel.val k).getD rfl
  · subst ey
    cases (show u = Value.ref b from ry)
    obtain ⟨z, hd, xs, rel, dd⟩ := dt_rd I.hok e
    refine call_meetsIn PySem.F.slot_dict_get dd.typeIs PySem.F.entry_dict_get (PySem.F.args_dict_get_2 _ _) (meetsH_dict_get (tupleKind (mixKind X.prog X.w)) a b hd) ⟨tupleKind_room_in1 hu, k, xs, key_of I.hok eb, dd, h _ _ (I.tok _) ?_⟩
    rw [l]
    exact (rel.val k).getD rfl
theorem d_get2 {Q : Value → Shared → Prop} (hu : A.units + 1 < cLine) (I : Inv X pins σ H s) (g : DGet H a y o) (ry : RelV y u) (rd : RelV d r) (h : ∀ w' s', Inv X pins σ H s' → RelV (o.getD d) w' → Q w' s') :
    wpAny (model X.prog X.w) A (call (.builtin "dict.get") [.ref a, u, r]) Q E s := by
  rcases g with ⟨kvs, k, e, ey, l⟩ | ⟨kvs, k, b, e, ey, eb, l⟩
  · subst ey
    obtain ⟨z, hd, vs, rel, dd⟩ := dk_rd I.hok e
    refine call_meetsIn PySem.F.slot_dict_get dd.typeIs PySem.F.entry_dict_get (PySem.F.args_dict_get_3 _ _ _) (meets_dict_get_default (mixKind X.prog X.w) a (kV_is ry) hd r) ⟨_, dd.mapOf, h _ _ (I.tok _) ?_⟩
    rw [l]
    exact (rel.val k).getD rd
  · subst ey
    cases (show u = Value.ref b from ry)
    obtain ⟨z, hd, xs, rel, dd⟩ := dt_rd I.hok e
    refine call_meetsIn PySem.F.slot_dict_get dd.typeIs PySem.F.entry_dict_get (PySem.F.args_dict_get_3 _ _ _) (meetsH_dict_get_default (tupleKind (mixKind X.prog X.w)) a b hd r) ⟨tupleKind_room_in1 hu, k, xs, key_of I.hok eb, dd, h _ _ (I.tok _) ?_⟩
    rw [l]
    exact (rel.val k).getD rd
end
def tDGet1 (td ty : TE) : TE := fun σ H Q => td σ H fun x H1 => ∃ a, x = .ref a ∧ IsD H1 a ∧ ty σ H1 fun y H2 => ∃ o, DGet H2 a y o ∧ Q (o.getD .non) H2
def tDGet2 (td ty tx : TE) : TE := fun σ H Q => td σ H fun x H1 => ∃ a, x = .ref a ∧ IsD H1 a ∧ ty σ H1 fun y H2 => tx σ H2 fun z H3 => ∃ o, DGet H3 a y o ∧ Q (o.getD z) H3
section
variable {X : Cx} {o e f : Expr} {apos cpos : Pos} {td ty tx : TE}
theorem pe_dget1 (hu : X.A.units + 1 < cLine) (ho : PE X o td) (he : PE X e ty) (m : M1 X o "get" apos e cpos) : PE X (.Call (.Attribute o "get" apos) [e] [] cpos) (tDGet1 td ty) := by
  intro pins s σ H Q I h
  refine wpAny_Call_method m.base m.few m.line PySem.F.plainAttrs_dict PySem.F.slot_dict_get PySem.F.type_dict_get (thn (ho pins s σ H _ I h) fun u s1 ⟨x, H1, I1, rx, a, ex, d, q1⟩ => ?_)
  subst ex
  obtain rfl : u = Value.ref a := rx
  obtain ⟨t1, t2, _⟩ := isD_at I1 d
  refine ⟨t1, t2, ?_⟩
  rw [m.trees]
  refine Calls.callWith_builtin rfl (Calls.evalArgs_plain (Calls.spliced_cons (thn (he pins s1 σ H1 _ I1 q1) fun iv s2 ⟨y, H2, I2, ry, ov, g, q2⟩ => Calls.spliced_nil ?_)))
  exact d_get1 hu I2 g ry fun w' s3 I3 rw' => ⟨_, H2, I3, rw', q2⟩
theorem pe_dget2 (hu : X.A.units + 1 < cLine) (ho : PE X o td) (he : PE X e ty) (hf : PE X f tx) (m : M2 X o "get" apos e f cpos) : PE X (.Call (.Attribute o "get" apos) [e, f] [] cpos) (tDGet2 td ty tx) := by
  intro pins s σ H Q I h
  refine wpAny_Call_method m.base m.few m.line PySem.F.plainAttrs_dict PySem.F.slot_dict_get PySem.F.type_dict_get (thn (ho pins s σ H _ I h) fun u s1 ⟨x, H1, I1, rx, a, ex, d, q1⟩ => ?_)
  subst ex
  obtain rfl : u = Value.ref a := rx
  obtain ⟨t1, t2, _⟩ := isD_at I1 d
  refine ⟨t1, t2, ?_⟩
  rw [m.trees]
  refine Calls.callWith_builtin rfl (Calls.evalArgs_plain (Calls.spliced_cons (thn (he pins s1 σ H1 _ I1 q1) fun iv s2 ⟨y, H2, I2, ry, q2⟩ =>
    Calls.spliced_cons (thn (hf pins s2 σ H2 _ I2 q2) fun fv s3 ⟨z, H3, I3, rz, ov, g, q3⟩ => Calls.spliced_nil ?_))))
  exact d_get2 hu I3 g ry rz fun w' s4 I4 rw' => ⟨_, H3, I4, rw', q3⟩
end
end L2
namespace L2
open PySem PySem.Spec PyProof.Rows
section
variable {κ : Type} [DecidableEq κ]
theorem nd_snoc : ∀ {l : List κ} {k : κ}, l.Nodup → ¬ k ∈ l → (l ++ [k]).Nodup
  | [], k, _, _ => by simp
  | a :: r, k, h, hk => by
    obtain ⟨h1, h2⟩ := List.nodup_cons.mp h
    show (a :: (r ++ [k])).Nodup
    refine List.nodup_cons.mpr ⟨fun m => ?_, nd_snoc h2 fun m => hk (List.mem_cons.mpr (Or.inr m))⟩
    rcases List.mem_append.mp m with q | q
    · exact h1 q
    · exact hk (List.mem_cons.mpr (Or.inl (List.mem_singleton.mp q).symm))
theorem dropK_pos {p : κ × V} {r : List (κ × V)} {k : κ} (e : p.1 = k) : dropK (p :: r) k = dropK r k := by
  unfold dropK
  rw [List.filter_cons, if_neg (by simp [e])]
theorem dropK_neg {p : κ × V} {r : List (κ × V)} {k : κ} (e : ¬ p.1 = k) : dropK (p :: r) k = p :: dropK r k := by
  unfold dropK
  rw [List.filter_cons, if_pos (by simp [e])]
end
end L2
set_option maxHeartbeats 1000000
namespace L2
open PySem PySem.Spec PyProof.Rows
theorem closure_ok {scope : Scope} {env : Env} (h : ∀ x, (x, NameKind.free) ∈ scope.names → ∃ c, env.cells.lookup x = some c) :
    ∃ cl, closureFor scope env = pure cl ∧ (∀ x c, cl.lookup x = some c → env.cells.lookup x = some c) ∧ ∀ x, (x, NameKind.free) ∈ scope.names → ∃ c, cl.lookup x = some c := by
  have go : ∀ (names : List (Str × NameKind)) (acc : List (Str × Addr)), (∀ x, (x, NameKind.free) ∈ names → ∃ c, env.cells.lookup x = some c) → (∀ x c, acc.lookup x = some c → env.cells.lookup x = some c) →
      ∃ cl, (forIn names acc fun (p : Str × NameKind) (r : List (Str × Addr)) => if p.2 == .free then (do let a ← cellOf env p.1; pure (ForInStep.yield ((p.1, a) :: r))) else pure (ForInStep.yield r) : Sem (List (Str × Addr))) = pure cl ∧
        (∀ x c, cl.lookup x = some c → env.cells.lookup x = some c) ∧ (∀ x c, acc.lookup x = some c → ∃ c', cl.lookup x = some c') ∧ ∀ x, (x, NameKind.free) ∈ names → ∃ c, cl.lookup x = some c := by
    intro names
    induction names with
    | nil => intro acc _ ha; exact ⟨acc, rfl, ha, fun x c e => ⟨c, e⟩, fun x z => nomatch z⟩
    | cons p r ih =>
      intro acc hn ha
      obtain ⟨n, k⟩ := p
      rw [List.forIn_cons]
      cases hk : (k == NameKind.free) with
      | false =>
        obtain ⟨cl, h1, h2, h3, h4⟩ := ih acc (fun x z => hn x (List.mem_cons_of_mem _ z)) ha
        refine ⟨cl, ?_, h2, h3, fun x z => ?_⟩
        · simp only [hk, Bool.false_eq_true, if_false, pure_bind]
          exact h1
        · rcases List.mem_cons.mp z with e | z
          · injection e with e1 e2
            rw [← e2] at hk
            exact absurd hk (by decide)
          · exact h4 x z
      | true =>
        have ek : k = .free := by simpa using hk
        subst ek
        obtain ⟨c, hc⟩ := hn n List.mem_cons_self
        have hcell : cellOf env n = pure c := by unfold cellOf; rw [hc]
        obtain ⟨cl, h1, h2, h3, h4⟩ := ih ((n, c) :: acc) (fun x z => hn x (List.mem_cons_of_mem _ z)) (fun x c' e => by
          rw [List.lookup_cons] at e
          cases hx : x == n with
          | true =>
            rw [hx] at e
            have e' : c = c' := Option.some.inj e
            have ex : x = n := by simpa using hx
            rw [ex, ← e']; exact hc
          | false => rw [hx] at e; exact ha x c' e)
        refine ⟨cl, ?_, h2, fun x c' e => ?_, fun x z => ?_⟩
        · simp only [beq_self_eq_true, if_true, hcell, pure_bind]
          exact h1
        · cases hx : x == n with
          | true => exact h3 x c (by rw [List.lookup_cons, hx])
          | false => exact h3 x c' (by rw [List.lookup_cons, hx]; exact e)
        · rcases List.mem_cons.mp z with e | z
          · injection e with e1 e2
            exact h3 x c (by rw [e1, List.lookup_cons]; simp)
          · exact h4 x z
  obtain ⟨cl, h1, h2, _, h4⟩ := go scope.names [] h (fun x c e => nomatch e)
  refine ⟨cl, ?_, h2, h4⟩
  rw [← h1]
  unfold closureFor
  simp only [bind_pure]
def cxComp (X : Cx) (scope : Scope) (cl : List (Str × Addr)) (C : Addr) (N : List Str) (s : Shared) (H : Hp) (ex : List Addr) : Cx where
  prog := X.prog
  w := X.w
  K := X.K
  mg := X.mg
  base := X.base
  A := X.A
  N := N
  s₀ := s
  H₀ := H
  env := compEnvC scope cl C X.env
  outer := X.stack
  stack := X.stack
  ex := ex
  calm := X.calm
  fn := fun x => match scope.names.lookup x with | some .cell => true | _ => false
  pn := []
  xe := fun _ _ => False
theorem lookup_relabel {env : Env} : ∀ {names : List (Str × NameKind)} {x : Str} {k : NameKind},
    (names.map fun (n, k) => if (k == NameKind.free && env.scope.kind == .function && env.kindOf n == some .cell) then (n, NameKind.cell) else (n, k)).lookup x = some k →
    ∃ k', names.lookup x = some k' ∧ (k' = k ∨ (k' = .free ∧ k = .cell))
  | [], _, _, h => by simp at h
  | (n, kk) :: r, x, k, h => by
    have ih := @lookup_relabel env r x k
    have h' : List.lookup x ((if (kk == NameKind.free && env.scope.kind == .function && env.kindOf n == some .cell) = true then (n, NameKind.cell) else (n, kk)) :: r.map fun (n, k) => if (k == NameKind.free && env.scope.kind == .function && env.kindOf n == some .cell) then (n, NameKind.cell) else (n, k)) = some k := h
    cases hx : x == n with
    | true =>
      by_cases hc : (kk == NameKind.free && env.scope.kind == .function && env.kindOf n == some .cell) = true
      · rw [if_pos hc, List.lookup_cons, hx] at h'
        have e : NameKind.cell = k := Option.some.inj h'
        have hf : kk = .free := by
          rw [Bool.and_eq_true, Bool.and_eq_true] at hc
          simpa using hc.1.1
        exact ⟨kk, by rw [List.lookup_cons, hx], .inr ⟨hf, e.symm⟩⟩
      · rw [if_neg hc, List.lookup_cons, hx] at h'
        exact ⟨kk, by rw [List.lookup_cons, hx], .inl (Option.some.inj h')⟩
    | false =>
      have h2 : List.lookup x (r.map fun (n, k) => if (k == NameKind.free && env.scope.kind == .function && env.kindOf n == some .cell) then (n, NameKind.cell) else (n, k)) = some k := by
        by_cases hc : (kk == NameKind.free && env.scope.kind == .function && env.kindOf n == some .cell) = true
        · rw [if_pos hc, List.lookup_cons, hx] at h'; exact h'
        · rw [if_neg hc, List.lookup_cons, hx] at h'; exact h'
      obtain ⟨k', e1, e2⟩ := ih h2
      exact ⟨k', by rw [List.lookup_cons, hx]; exact e1, e2⟩
structure CompScope (N : List Str) (osc scope : Scope) (own : List Str) (fr : List (Nat × Str)) : Prop where
  kind : scope.kind = .function
  cells : ∀ y ∈ scope.names, y.2 = .cell → scope.names.lookup y.1 = some .cell
  locs : ∀ y ∈ scope.names, y.2 = .local → scope.names.lookup y.1 = some .local
  free : ∀ y ∈ scope.names, y.2 = .free → osc.names.lookup y.1 = some .cell ∨ osc.names.lookup y.1 = some .free
  slot : ∀ p ∈ fr, N[p.1]? = some p.2 ∧ scope.names.lookup p.2 = some .free
theorem HOk.track {P : Program} {w : World} {H : Hp} {h : Heap} {a : Addr} {o : HO} (x : HOk P w H h) (hn : H a = none) (new : ObjOk P w (upd H a o) h a o) : HOk P w (upd H a o) h := fun b u e => by
  by_cases hb : b = a
  · subst hb; rw [upd_same] at e; cases e; exact new
  · rw [upd_ne hb] at e
    exact (x b u e).stay (fun c v _ q => q) (fun c q => by rw [upd_ne (ne_of_none q hn)]; exact q) fun c xs q => by rw [upd_ne (ne_of_none q hn)]; exact q
theorem HOk.but {P : Program} {w : World} {H : Hp} {h h' : Heap} {a : Addr} (x : HOk P w H h) (hn : H a = none) (k : ∀ b o, b ≠ a → h.get? b = some o → h'.get? b = some o) : HOk P w H h' := fun b u e =>
  (x b u e).stay (fun c v hc q => k c v (by
    rintro rfl
    rcases hc with rfl | hc
    · rw [hn] at e; cases e
    · rw [hn] at hc; cases hc) q) (fun _ q => q) fun _ _ q => q
theorem Un.track {fs ex : List Addr} {H H' : Hp} {h h' : Heap} {a : Addr} {o : HO} (u : Un fs ex H H' h h') (ha : h.objs.size ≤ a) (hn : H a = none) : Un fs ex H (upd H' a o) h h' where
  keep := u.keep
  slot := u.slot
  free := fun b ob q n hx => by rw [upd_ne (Nat.ne_of_lt (Nat.lt_of_lt_of_le (Heap.lt_size q) ha))]; exact u.free b ob q n hx
  there := u.there
  tups := fun b xs q => by rw [upd_ne (ne_of_none q hn)]; exact u.tups b xs q
  frzs := fun b ob v q => by rw [upd_ne (ne_of_none q hn)]; exact u.frzs b ob v q
  tbls := fun b ps q => by rw [upd_ne (ne_of_none q hn)]; exact u.tbls b ps q
theorem Un.but {fs ex : List Addr} {H H' : Hp} {h h' h'' : Heap} {a : Addr} (u : Un fs ex H H' h h') (ha : h.objs.size ≤ a) (k : ∀ b o, b ≠ a → h'.get? b = some o → h''.get? b = some o) : Un fs ex H H' h h'' where
  keep := fun b ob q n hb hx => k b ob (Nat.ne_of_lt (Nat.lt_of_lt_of_le (Heap.lt_size q) ha)) (u.keep b ob q n hb hx)
  slot := fun b ob q n hb hx => let ⟨sl, e⟩ := u.slot b ob q n hb hx; ⟨sl, k b _ (Nat.ne_of_lt (Nat.lt_of_lt_of_le (Heap.lt_size q) ha)) e⟩
  free := u.free
  there := fun b ob q hx => let ⟨o', e⟩ := u.there b ob q hx; ⟨o', k b _ (Nat.ne_of_lt (Nat.lt_of_lt_of_le (Heap.lt_size q) ha)) e⟩
  tups := u.tups
  frzs := u.frzs
  tbls := u.tbls
structure NewCells (scope : Scope) (nw : List (Str × Addr)) (h1 : Heap) (C : Addr) : Prop where
  ok : ∀ n c, (n, c) ∈ nw → h1.IsCell c none ∧ C < c
  apart : nw.Pairwise fun x y => x.2 ≠ y.2
  has : ∀ x, scope.names.lookup x = some .cell → ∃ c, nw.lookup x = some c
  of : ∀ x c, nw.lookup x = some c → (x, NameKind.cell) ∈ scope.names
theorem cellsFrom_acc : ∀ (names : List (Str × NameKind)) (n : Nat) (acc : List (Str × Addr)), cellsFrom n names acc = cellsFrom n names [] ++ acc
  | [], _, _ => rfl
  | (x, k) :: r, n, acc => by
    unfold cellsFrom
    split
    · rw [cellsFrom_acc r (n + 1) ((x, n) :: acc), cellsFrom_acc r (n + 1) [(x, n)], List.append_assoc]
      rfl
    · exact cellsFrom_acc r n acc
theorem cellsFrom_of : ∀ (names : List (Str × NameKind)) (n : Nat) (x : Str) (c : Addr), (x, c) ∈ cellsFrom n names [] → (x, NameKind.cell) ∈ names
  | [], _, _, _, h => nomatch h
  | (y, k) :: r, n, x, c, h => by
    unfold cellsFrom at h
    split at h
    · rename_i hk
      rw [cellsFrom_acc] at h
      rcases List.mem_append.mp h with h | h
      · exact List.mem_cons_of_mem _ (cellsFrom_of r _ x c h)
      · rw [List.mem_singleton] at h
        cases h
        have : k = .cell := by simpa using hk
        rw [this]
        exact List.mem_cons_self ..
    · exact List.mem_cons_of_mem _ (cellsFrom_of r _ x c h)
theorem lookup_app {α : Type} {x : Str} {a b : List (Str × α)} {c : α} (h : (a ++ b).lookup x = some c) : a.lookup x = some c ∨ (a.lookup x = none ∧ b.lookup x = some c) := by
  induction a with
  | nil => exact .inr ⟨rfl, h⟩
  | cons p r ih =>
    rw [List.cons_append, List.lookup_cons] at h
    rw [List.lookup_cons]
    cases hx : x == p.1 with
    | true => rw [hx] at h; exact .inl h
    | false => rw [hx] at h; exact ih h
theorem lookup_app_l {α : Type} {x : Str} {a b : List (Str × α)} {c : α} (h : a.lookup x = some c) : (a ++ b).lookup x = some c := by
  induction a with
  | nil => cases h
  | cons p r ih =>
    rw [List.lookup_cons] at h
    rw [List.cons_append, List.lookup_cons]
    cases hx : x == p.1 with
    | true => rw [hx] at h; exact h
    | false => rw [hx] at h; exact ih h
theorem lookup_app_r {α : Type} {x : Str} {a b : List (Str × α)} {c : α} (h : a.lookup x = none) (h2 : b.lookup x = some c) : (a ++ b).lookup x = some c := by
  induction a with
  | nil => exact h2
  | cons p r ih =>
    rw [List.lookup_cons] at h
    rw [List.cons_append, List.lookup_cons]
    cases hx : x == p.1 with
    | true => rw [hx] at h; cases h
    | false => rw [hx] at h; exact ih h
theorem newEnv_around {M : Model} {A : Around} {E : Value → Shared → Prop} {s : Shared} {scope : Scope} {globals : Addr} {closure : List (Str × Addr)} {qual : Str} {outer : Env} {Q : Env → Shared → Prop}
    (hQ : ∀ nw h1, NewCells scope nw h1 s.heap.objs.size → h1.Ns s.heap.objs.size (fun _ => none) → (∀ b o, s.heap.get? b = some o → h1.get? b = some o) →
      Q { scope, locals := s.heap.objs.size, globals, cells := nw ++ closure, qual, func := none, code := outer.code, frame := outer.frame, builtins := outer.builtins } { s with heap := h1 }) :
    wpAny M A (newFunctionEnv scope globals closure [] qual none .none (some outer)) Q E s := by
  simp only [newFunctionEnv, Option.isSome_some, if_true]
  refine wpAny_bind (wpAny_alloc ?_)
  refine wpAny_bind (wpAny_layCells _ (fun name kind cells => by cases hkc : kind == NameKind.cell <;> simp [hkc]) _ _ _ _ ?_)
  have ok := cellsFrom_ok scope.names (s.heap.push { cls := .type "dict", data := .dict #[] }) (s.heap.objs.size + 1) [] ⟨fun _ _ hm => (nomatch hm), List.Pairwise.nil⟩ (by rw [Heap.size_push]; exact Nat.le_refl _)
  rw [Heap.size_push] at ok
  rw [show ({ s with heap := s.heap.push { cls := .type "dict", data := .dict #[] } } : Shared).heap.objs.size = s.heap.objs.size + 1 from Heap.size_push ..]
  rw [List.forIn_nil]
  refine wpAny_bind (wpAny_pure (wpAny_pure ?_))
  rw [cellsFrom_acc]
  exact hQ _ _ ⟨fun n c h => ⟨(ok.empty n c h).1, (ok.empty n c h).2⟩, ok.apart, fun x h => cell_has h, fun x c h => cellsFrom_of _ _ x c (PySem.mem_of_lookup h)⟩
    ((Heap.Ns.new s.heap (.type "dict")).keeps (pushCells_keeps _ _)) fun b o e => pushCells_keeps _ _ b o (Heap.get?_push_of_some _ e)
def PIfs (X : Cx) (ifs : List Expr) (t : TT) : Prop :=
  ∀ (pins : List (Addr × Obj)) (s : Shared) (σ : St) (H : Hp) (Q : Bool → Hp → Prop), Inv X pins σ H s → t σ H Q →
    wpAny (model X.prog X.w) X.A (forIn ifs true fun c r => if r = true then do let ok ← isTrue c X.env (eval c X.env); pure (ForInStep.yield ok) else pure (ForInStep.yield r)) (TP X pins σ Q) X.xe s
def tYes : TT := fun _ H Q => Q true H
theorem pif_nil {X : Cx} : PIfs X [] tYes := fun _ _ _ H Q I h => wpAny_tests_nil ⟨H, I, h⟩
def compStart' (own : List Str) (fr : List (Nat × Str)) (σ : St) : St := own.map (fun _ => none) ++ fr.map fun p => (σ[p.1]?).join
def CompGo (J : It) (g : TG) (tt : TT) (te : TE) (Q : VK) (σ₀ : St) (H1 : Hp) : Prop :=
  ∃ W : Nat → Nat → List V → St → Hp → Prop, (∃ m, W 0 m [] σ₀ H1) ∧ ∀ i m acc σ' H', W i m acc σ' H' →
    (J.stop i H' ∧ acc.length ≤ sizeLine ∧ ∀ p, H' p = none → Q (.ref p) (upd H' p (.lst acc))) ∨
    (J.go i H' ∧ acc.length < sizeLine ∧ ∃ N : List V → St → Hp → Prop, (∀ acc σ' H', N acc σ' H' → ∃ m', m' < m ∧ W (i + 1) m' acc σ' H') ∧ ∀ x H'', J.yld i H' x H'' → g x σ' H'' fun σ2 H2 => tt σ2 H2 fun ok H3 => if ok = true then te σ2 H3 fun y H4 => N (acc ++ [y]) σ2 H4 else N acc σ2 H3)
def tComp (own : List Str) (fr : List (Nat × Str)) (wi : TI) (g : TG) (tt : TT) (te : TE) : TE := fun σ H Q => wi σ H fun J H1 => CompGo J g tt te Q (compStart' own fr σ) H1
section
variable {X : Cx} {tg iter elt : Expr} {ifs : List Expr} {scope : Scope} {own : List Str} {fr : List (Nat × Str)} {pos : Pos}
theorem inv_comp {pins : List (Addr × Obj)} {σ : St} {H : Hp} {s : Shared} {cl : List (Str × Addr)} {ex : List Addr} {h1 : Heap} {m : Str → Option Value} {C : Addr} {t' : Nat} (S : CompScope X.N X.env.scope scope own fr) (I : Inv X pins σ H s)
    (hcl : ∀ x c, cl.lookup x = some c → X.env.cells.lookup x = some c) (hcl2 : ∀ x, (x, NameKind.free) ∈ scope.names → ∃ c, cl.lookup x = some c) (hex : ∀ b ∈ ex, FpOk X pins H b ∧ b < s.heap.objs.size)
    (hC : s.heap.objs.size ≤ C) (k : ∀ b o, s.heap.get? b = some o → h1.get? b = some o) (hn : h1.Ns C m) {nw : List (Str × Addr)} (nc : NewCells scope nw h1 C) :
    Inv (cxComp X scope (nw ++ cl) C (own ++ fr.map (·.2)) s H ex) [] (compStart' own fr σ) H { s with heap := h1, toks := t' } := by
  have okX := I.ok
  have isNew : ∀ x c, nw.lookup x = some c → C < c := fun x c e => (nc.ok x c (PySem.mem_of_lookup e)).2
  have isOld : ∀ x c, cl.lookup x = some c → c < C := fun x c e => by
    obtain ⟨v, o, ho, _⟩ := I.cell x c (hcl x c e)
    exact Nat.lt_of_lt_of_le (Heap.lt_size ho) hC
  have hinj : ∀ x y c, (nw ++ cl).lookup x = some c → (nw ++ cl).lookup y = some c → x = y := fun x y c e1 e2 => by
    rcases lookup_app e1 with a | ⟨_, a⟩ <;> rcases lookup_app e2 with b | ⟨_, b⟩
    · exact name_of_addr nc.apart (PySem.mem_of_lookup a) (PySem.mem_of_lookup b)
    · exact absurd (Nat.lt_trans (isNew x c a) (isOld y c b)) (Nat.lt_irrefl _)
    · exact absurd (Nat.lt_trans (isNew y c b) (isOld x c a)) (Nat.lt_irrefl _)
    · exact okX.inj x y c (hcl x c a) (hcl y c b)
  have hasF : ∀ x, (x, NameKind.free) ∈ scope.names → ∃ c, (nw ++ cl).lookup x = some c := fun x hx => by
    obtain ⟨c, e⟩ := hcl2 x hx
    cases z : nw.lookup x with
    | none => exact ⟨c, lookup_app_r z e⟩
    | some c' => exact ⟨c', lookup_app_l z⟩
  refine ⟨⟨okX.mod, ?_, okX.glob, okX.blt, hC, hinj, fun x hx => ?_, fun x c e1 e2 => ?_, okX.hd, okX.frames, .inl rfl, fun b hb => ?_, I.bs, Nat.le_trans okX.bsz I.sz, fun b o e hb => ?_, fun b hb hf => ?_, I.stack, I.stkFree⟩,
    rfl, I.bare, Un.kept k, ⟨m, hn, fun i x v e1 e2 e3 => ?_⟩, fun x c e => ?_, I.hok.fresh hC, fun x c e => ?_, fun p hp => absurd (show p ∈ ([] : List (Addr × Obj)) from hp) (by simp), I.hok.kept k, ?_⟩
  · exact S.kind
  · -- a cell's or a free name
    have hx' : (relabel scope X.env).names.lookup x = some .cell ∨ (relabel scope X.env).names.lookup x = some .free := hx
    have hfree : scope.names.lookup x = some .cell ∨ scope.names.lookup x = some .free := by
      rcases hx' with q | q
      · obtain ⟨k', e1, e2⟩ := lookup_relabel q
        rcases e2 with e2 | ⟨e2, _⟩
        · exact .inl (by rw [e1, e2])
        · exact .inr (by rw [e1, e2])
      · obtain ⟨k', e1, e2⟩ := lookup_relabel q
        rcases e2 with e2 | ⟨e2, e3⟩
        · exact .inr (by rw [e1, e2])
        · cases e3
    rcases hfree with hfree | hfree
    · obtain ⟨c, e⟩ := nc.has x hfree
      exact ⟨c, lookup_app_l e⟩
    · exact hasF x (PySem.mem_of_lookup hfree)
  · -- an own cell is new
    have e1' : (match scope.names.lookup x with | some .cell => true | _ => false) = true := e1
    have hce : scope.names.lookup x = some .cell := by
      split at e1'
      · assumption
      · cases e1'
    obtain ⟨c', e⟩ := nc.has x hce
    have e2' : (nw ++ cl).lookup x = some c := e2
    rw [lookup_app_l e] at e2'
    cases e2'
    exact Nat.le_trans hC (Nat.le_of_lt (isNew x c e))
  · obtain ⟨⟨f0, f1, f2, f3, f4, f5⟩, f6⟩ := hex b hb
    refine ⟨Nat.ne_of_lt (Nat.lt_of_lt_of_le f6 hC), fun x c e => ?_⟩
    rcases lookup_app (show (nw ++ cl).lookup x = some c from e) with a | ⟨_, a⟩
    · exact Nat.ne_of_gt (Nat.lt_trans (Nat.lt_of_lt_of_le f6 hC) (isNew x c a))
    · exact f4 x c (hcl x c a)
  · obtain ⟨⟨f0, f1, f2, f3, f4, f5⟩, f6⟩ := hex b hb
    rcases f3 with f3 | f3
    · exact okX.noex b o e f3
    · exact absurd (Nat.lt_of_lt_of_le (Heap.lt_size e) (Nat.le_trans okX.bsz f3)) (Nat.lt_irrefl _)
  · obtain ⟨⟨f0, f1, f2, f3, f4, f5⟩, f6⟩ := hex b hb
    rcases List.mem_cons.mp (I.stkSub b hf) with z | z
    · exact f1 z
    · exact f2 z
  · -- the values of the free names
    have e1' : (own ++ fr.map (·.2))[i]? = some x := e1
    have hi : own.length ≤ i := by
      by_cases h : i < own.length
      · unfold compStart' at e2
        rw [List.getElem?_append_left (by simpa using h), List.getElem?_map] at e2
        cases q : own[i]? with
        | none => rw [q] at e2; cases e2
        | some z => rw [q] at e2; cases e2
      · omega
    unfold compStart' at e2
    rw [List.getElem?_append_right (by simpa using hi), List.getElem?_map, List.length_map] at e2
    rw [List.getElem?_append_right hi, List.getElem?_map] at e1'
    cases q : fr[i - own.length]? with
    | none => rw [q] at e2; cases e2
    | some p =>
      rw [q] at e2 e1'
      have e1' : p.2 = x := Option.some.inj e1'
      have e2' : (σ[p.1]?).join = some v := Option.some.inj e2
      obtain ⟨hs1, hs2⟩ := S.slot p (List.mem_of_getElem? q)
      rw [e1'] at hs1 hs2
      have e2'' : σ[p.1]? = some (some v) := by
        cases z : σ[p.1]? with
        | none => rw [z] at e2'; cases e2'
        | some y => rw [z] at e2'; exact congrArg some e2'
      obtain ⟨mX, hnX, hlX⟩ := I.loc
      have hfr := S.free (x, .free) (PySem.mem_of_lookup hs2) rfl
      have hvis : Vis X.env.scope x := by
        rcases hfr with z | z
        · exact .inr (.inl z)
        · exact .inr (.inr z)
      obtain ⟨u, r, l⟩ := hlX p.1 x v hs1 e2'' hvis
      refine ⟨u, r, ?_⟩
      have hkc : X.env.kindOf x = some .cell ∨ X.env.kindOf x = some .free := hfr
      rcases l with ⟨kx, _⟩ | ⟨kx, c, hc, z⟩
      · rcases hkc with w | w
        · rw [w] at kx; cases kx
        · rw [w] at kx; cases kx
      · obtain ⟨c', hc'⟩ := hcl2 x (PySem.mem_of_lookup hs2)
        have hcc := hcl x c' hc'
        rw [hc] at hcc
        cases hcc
        have e3' : (relabel scope X.env).names.lookup x = some .local ∨ (relabel scope X.env).names.lookup x = some .cell ∨ (relabel scope X.env).names.lookup x = some .free := e3
        have hnew : nw.lookup x = none := by
          cases z : nw.lookup x with
          | none => rfl
          | some c'' =>
            have := S.cells _ (nc.of x c'' z) rfl
            rw [hs2] at this
            cases this
        refine .inr ⟨?_, c, lookup_app_r hnew hc', ?_⟩
        · rcases e3' with w | w | w
          · obtain ⟨k', q1, q2⟩ := lookup_relabel w
            rw [hs2] at q1
            cases q1
            rcases q2 with q2 | ⟨_, q2⟩ <;> cases q2
          · exact .inl w
          · exact .inr w
        · obtain ⟨o, ho, hd⟩ := z
          exact ⟨o, k _ _ ho, hd⟩
  · rcases lookup_app (show (nw ++ cl).lookup x = some c from e) with a | ⟨_, a⟩
    · exact ⟨none, (nc.ok x c (PySem.mem_of_lookup a)).1⟩
    · obtain ⟨v, o, ho, hd⟩ := I.cell x c (hcl x c a)
      exact ⟨v, o, k _ _ ho, hd⟩
  · rcases lookup_app (show (nw ++ cl).lookup x = some c from e) with a | ⟨_, a⟩
    · exact I.hok.fresh (Nat.le_trans hC (Nat.le_of_lt (isNew x c a)))
    · exact I.freeC x c (hcl x c a)
  · show (compStart' own fr σ).length = (own ++ fr.map (·.2)).length
    unfold compStart'
    rw [List.length_append, List.length_append, List.length_map, List.length_map, List.length_map]
theorem comp_block {pins : List (Addr × Obj)} {σ : St} {H2 : Hp} {s2 : Shared} {cl : List (Str × Addr)} {it : Addr} {fp : List Addr} {tn : Nat → Heap → Prop} {J : It} {g : TG} {tt : TT} {te : TE} {Q : VK} {E : Value → Shared → Prop}
    {RR : Value → Addr → Result → Shared → Prop} (hc : X.calm = true) (S : CompScope X.N X.env.scope scope own fr) (I : Inv X pins σ H2 s2) (hcl : ∀ x c, cl.lookup x = some c → X.env.cells.lookup x = some c)
    (hcl2 : ∀ x, (x, NameKind.free) ∈ scope.names → ∃ c, cl.lookup x = some c) (T : Turn X.prog X.w X.K tg J fp it tn) (st : tn 0 s2.heap) (hfp : ∀ b ∈ fp, FpOk X pins H2 b)
    (hb : ∀ (cl : List (Str × Addr)) (C : Addr) (s : Shared) (H : Hp) (ex : List Addr), PG (cxComp X scope cl C (own ++ fr.map (·.2)) s H ex) tg g ∧ PIfs (cxComp X scope cl C (own ++ fr.map (·.2)) s H ex) ifs tt ∧ PE (cxComp X scope cl C (own ++ fr.map (·.2)) s H ex) elt te)
    (hq : CompGo J g tt te Q (compStart' own fr σ) H2)
    (fin : ∀ (D C : Addr) (s' : Shared) (H' : Hp), (∃ m, s'.heap.Ns C m) → s2.heap.objs.size ≤ C → C ≠ D → H' C = none → Q (.ref D) H' → (∀ h'', (∀ b o, b ≠ C → s'.heap.get? b = some o → h''.get? b = some o) → Inv X pins σ H' { s' with heap := h'' }) → RR (.ref D) C (.ok .next) s') :
    wpAny (model X.prog X.w) X.A (newList []) (fun acc s₃ => wpAny (model X.prog X.w) X.A (newFunctionEnv scope X.env.globals cl [] X.env.qual none .none (some X.env)) (fun cenv s₄ =>
      codeAny (model X.prog X.w) X.A (.compStart (.ListComp elt [⟨tg, iter, ifs, 0⟩] scope pos) 0 (.ref it) acc { cenv with scope := relabel scope X.env }) (RR acc cenv.locals) s₄) E s₃) E s2 := by
  obtain ⟨W, ⟨m0, w0⟩, turn⟩ := hq
  refine wpAny_newObj_type (newEnv_around (fun nw h₁ nc hns₁ hsb₁ => ?_))
  dsimp only at nc hns₁ hsb₁ ⊢
  generalize hH2 : s2.heap.push { cls := .type "list", dict := none, data := .seq ([] : List Value).toArray } = HH at nc hns₁ hsb₁ ⊢
  have hC : HH.objs.size = s2.heap.objs.size + 1 := by rw [← hH2, Heap.size_push]
  have hDC : s2.heap.objs.size ≠ HH.objs.size := by rw [hC]; exact Nat.ne_of_lt (Nat.lt_succ_self _)
  have hCle : s2.heap.objs.size ≤ HH.objs.size := by rw [hC]; exact Nat.le_succ _
  have old : ∀ b o, s2.heap.get? b = some o → h₁.get? b = some o := fun b o e =>
    hsb₁ b o (hH2 ▸ Heap.get?_push_of_some _ e)
  have hacc : h₁.get? s2.heap.objs.size = some { cls := .type "list", data := .seq ([] : List Value).toArray } := hsb₁ _ _ (hH2 ▸ Heap.get?_push_size _ rfl)
  have flt : ∀ b ∈ fp, b < s2.heap.objs.size := fun b hb => by
    obtain ⟨o, e, _⟩ := T.obj _ _ st b hb
    exact Heap.lt_size e
  have hlt : s2.heap.objs.size < HH.objs.size := by rw [hC]; exact Nat.lt_succ_self _
  obtain ⟨D, hD⟩ : ∃ D : Nat, D = s2.heap.objs.size := ⟨_, rfl⟩
  obtain ⟨C, hCC⟩ : ∃ C : Nat, C = HH.objs.size := ⟨_, rfl⟩
  rw [← hD] at hacc ⊢
  rw [← hCC] at nc hns₁ ⊢
  have hDlt : D < C := by rw [hD, hCC]; exact hlt
  have hDs : s2.heap.objs.size ≤ D := Nat.le_of_eq hD.symm
  have hCs : s2.heap.objs.size ≤ C := Nat.le_trans hDs (Nat.le_of_lt hDlt)
  have nDC : D ≠ C := Nat.ne_of_lt hDlt
  have nfD : ∀ b ∈ fp, b ≠ D := fun b hb => Nat.ne_of_lt (Nat.lt_of_lt_of_le (flt b hb) hDs)
  have nfC : ∀ b ∈ fp, b ≠ C := fun b hb => Nat.ne_of_lt (Nat.lt_of_lt_of_le (flt b hb) hCs)
  have I0 : Inv (cxComp X scope (nw ++ cl) C (own ++ fr.map (·.2)) s2 H2 fp) [] (compStart' own fr σ) H2 { s2 with heap := h₁, toks := s2.toks } :=
    inv_comp S I hcl hcl2 (fun b hb => ⟨hfp b hb, flt b hb⟩) hCs old hns₁ nc
  obtain ⟨pg, pt, pe⟩ := hb (nw ++ cl) C s2 H2 fp
  have Dcell : ∀ x c, (nw ++ cl).lookup x = some c → c ≠ D := fun x c e => by
    rcases lookup_app e with a | ⟨_, a⟩
    · exact Nat.ne_of_gt (Nat.lt_trans hDlt (nc.ok x c (PySem.mem_of_lookup a)).2)
    · obtain ⟨v, q⟩ := I.cell x c (hcl x c a)
      exact Nat.ne_of_lt (Nat.lt_of_lt_of_le q.lt hDs)
  have Dstk : D ∉ frs X.stack := fun hf => by
    rcases List.mem_cons.mp (I.stkSub D hf) with z | z
    · have h1 := I.lt
      rw [← z] at h1
      exact Nat.lt_irrefl _ (Nat.lt_of_lt_of_le h1 hDs)
    · exact I.nofs hDs z
  have stat : ∀ {H' : Hp} {pl : List (Addr × Obj)}, (∀ b ∈ fp, H' b = none) → (∀ p ∈ pl, p.1 = D) → ∀ b ∈ fp, FpOk (cxComp X scope (nw ++ cl) C (own ++ fr.map (·.2)) s2 H2 fp) pl H' b := fun {H' pl} hn hpl b hb => by
    obtain ⟨f0, f1, f2, f3, f4, f5⟩ := hfp b hb
    refine ⟨hn b hb, nfC b hb, fun hf => ?_, .inl hb, fun x c e => (by
      rcases lookup_app (show (nw ++ cl).lookup x = some c from e) with a | ⟨_, a⟩
      · exact Nat.ne_of_gt (Nat.lt_trans (Nat.lt_of_lt_of_le (flt b hb) hCs) (nc.ok x c (PySem.mem_of_lookup a)).2)
      · exact f4 x c (hcl x c a)), fun p hp z => ?_⟩
    · rcases List.mem_cons.mp (I.stkSub b hf) with z | z
      · exact f1 z
      · exact f2 z
    · have h1 : p.1 = D := hpl p (by simpa [cxComp] using hp)
      exact nfD b hb (z.symm.trans h1)
  have loop : ∀ s₃ : Shared, s₃ = { s2 with heap := h₁, toks := s2.toks } →
      codeAny (model X.prog X.w) X.A (.compLoop (.ListComp elt [⟨tg, iter, ifs, 0⟩] scope pos) 0 (.ref it) (.ref D) (compEnvC scope (nw ++ cl) C X.env)) (RR (.ref D) C) s₃ := by
    rintro s₃ rfl
    refine codeAny_loop rfl (fun n s' => ∃ i σ' H' acc its k, Inv (cxComp X scope (nw ++ cl) C (own ++ fr.map (·.2)) s2 H2 fp) [] σ' H' s' ∧ tn i s'.heap ∧ (∀ b ∈ fp, H' b = none) ∧ H' D = none ∧
      s'.heap.get? D = some { cls := .type "list", data := .seq its.toArray k } ∧ Vals acc its ∧ W i n acc σ' H') ?_ m0
      ⟨0, _, H2, [], [], 0, I0, T.keep _ _ _ st fun b hb o e => old b o e, fun b hb => (hfp b hb).1, I.hok.fresh hDs, hacc, .nil, w0⟩
    rintro n s' ⟨i, σ', H', acc, its, k, I1, st1, fr1, nD, gD, rv, w1⟩
    show wpAny _ X.A ((compTurn (.ListComp elt [⟨tg, iter, ifs, 0⟩] scope pos) 0 (.ref it) (.ref D) (compEnvC scope (nw ++ cl) C X.env)).onRaise (fun x => do noteFrame x (compEnvC scope (nw ++ cl) C X.env); theTreesLotGoes x)) _ _ s'
    refine wpAny_noted ?_
    rw [compTurn_list]
    have I1' : Inv (cxComp X scope (nw ++ cl) C (own ++ fr.map (·.2)) s2 H2 fp) [(D, { cls := .type "list", data := .seq its.toArray k })] σ' H' s' := I1.pins_of fun p hp => by
      have e : p = (D, { cls := .type "list", data := .seq its.toArray k }) := by simpa using hp
      subst e
      exact ⟨gD, nD, nDC, Dstk, fun v z => nomatch z⟩
    rcases turn i n acc σ' H' w1 with ⟨stop, hz, qq⟩ | ⟨go, hz, NN, hNN, step⟩
    · refine wpAny_bind (wpAny_standAt (wpAny_bind (wpAny_mono (T.done (cxComp X scope (nw ++ cl) C (own ++ fr.map (·.2)) s2 H2 fp) rfl rfl rfl hc i _ s' σ' H' (fun _ _ => False) I1' (stat fr1 (by simp)) st1 stop) (fun r s4 ⟨hr, I4⟩ => ?_) fun _ _ z => z.elim)))
      subst hr
      refine wpAny_pure ?_
      have gD4 := (I4.pin (D, _) (List.mem_append_right _ (List.mem_singleton.mpr rfl))).1
      have hC4 : H' C = none := I4.free
      have hC5 : (upd H' D (.lst acc)) C = none := by rw [upd_ne (Ne.symm nDC)]; exact hC4
      refine fin D C s4 (upd H' D (.lst acc)) ?_ hCs (Ne.symm nDC) hC5 (qq D nD) fun h'' kk => ?_
      · obtain ⟨m, hn, _⟩ := I4.loc
        exact ⟨m, hn⟩
      · have un : Un (frs X.stack) fp H2 (upd H' D (.lst acc)) s2.heap h'' := Un.but (a := C) (Un.track (o := .lst acc) I4.base hDs (I.hok.fresh hDs)) hCs kk
        have hok : HOk X.prog X.w (upd H' D (.lst acc)) s4.heap := HOk.track I4.hok nD ⟨hz, its, k, rv, gD4⟩
        exact I.call' (s' := { s4 with heap := h'' }) (ch := fp) I4.os un (HOk.but hok hC5 kk) I4.bare fun b hb => by
          obtain ⟨f0, f1, f2, f3, f4, f5⟩ := hfp b hb
          exact ⟨f3, f1, f4, f5⟩
    · refine wpAny_bind (wpAny_standAt (wpAny_bind (wpAny_mono (T.item (cxComp X scope (nw ++ cl) C (own ++ fr.map (·.2)) s2 H2 fp) rfl rfl rfl hc i _ s' σ' H' (fun _ _ => False) I1' (stat fr1 (by simp)) st1 go) (fun r s4 ⟨u, hr, h4⟩ => ?_) fun _ _ z => z.elim)))
      subst hr
      refine wpAny_bind (wpAny_mono h4 (fun _ s5 ⟨x, H5, I5, r5, y5, st5, fr5⟩ => ?_) fun _ _ z => z.elim)
      have I5' := I5.pinned (stat fr5 (by simp)) (T.obj _ _ st5)
      refine wpAny_bind (wpAny_mono (pg _ s5 σ' H5 x u _ I5' r5 (step x H5 y5)) (fun _ s6 ⟨σ6, H6, I6, q6⟩ => ?_) fun _ _ z => z.elim)
      refine wpAny_bind (wpAny_mono (pt _ s6 σ6 H6 _ I6 q6) (fun ok s7 ⟨H7, I7, q7⟩ => ?_) fun _ _ z => z.elim)
      have again : ∀ {s8 : Shared} {H8 : Hp} {acc' : List V} {its' : List Value} {k' m' : Nat}, Inv (cxComp X scope (nw ++ cl) C (own ++ fr.map (·.2)) s2 H2 fp) (pinsAt fp s5.heap) σ6 H8 s8 → H8 D = none →
          s8.heap.get? D = some { cls := .type "list", data := .seq its'.toArray k' } → Vals acc' its' → m' < n → W (i + 1) m' acc' σ6 H8 →
          ∃ m, m < n ∧ ∃ i σ' H' acc its k, Inv (cxComp X scope (nw ++ cl) C (own ++ fr.map (·.2)) s2 H2 fp) [] σ' H' s8 ∧ tn i s8.heap ∧ (∀ b ∈ fp, H' b = none) ∧ H' D = none ∧
            s8.heap.get? D = some { cls := .type "list", data := .seq its.toArray k } ∧ Vals acc its ∧ W i m acc σ' H' := fun {s8 H8 acc' its' k' m'} I8 n8 g8 rv8 hm w8 => by
        refine ⟨m', hm, i + 1, σ6, H8, acc', its', k', I8.pins_of (fun p hp => nomatch hp), T.keep _ _ _ st5 fun b hb o e => (I8.pin (b, o) (List.mem_append_right _ (mem_pinsAt hb e))).1, fun b hb => ?_, n8, g8, rv8, w8⟩
        obtain ⟨o, e, d⟩ := T.obj _ _ st5 b hb
        exact (I8.pin (b, o) (List.mem_append_right _ (mem_pinsAt hb e))).2.1
      have dropD : ∀ {s8 : Shared} {H8 : Hp}, Inv (cxComp X scope (nw ++ cl) C (own ++ fr.map (·.2)) s2 H2 fp) ([(D, { cls := .type "list", data := .seq its.toArray k })] ++ pinsAt fp s5.heap) σ6 H8 s8 →
          Inv (cxComp X scope (nw ++ cl) C (own ++ fr.map (·.2)) s2 H2 fp) (pinsAt fp s5.heap) σ6 H8 s8 := fun I8 => I8.pins_of fun p hp => I8.pin p (List.mem_append_right _ (List.mem_append_right _ hp))
      cases ok with
      | false =>
        rw [if_neg Bool.false_ne_true] at q7
        obtain ⟨m', hm, w7⟩ := hNN _ _ _ q7
        have pD := I7.pin (D, _) (List.mem_append_right _ (List.mem_append_left _ (List.mem_singleton.mpr rfl)))
        simp only [Bool.false_eq_true, if_false]
        exact wpAny_pure ⟨rfl, again (dropD I7) pD.2.1 pD.1 rv hm w7⟩
      | true =>
        rw [if_pos rfl] at q7
        simp only [if_true]
        refine wpAny_bind (wpAny_bind (wpAny_mono (pe _ s7 σ6 H7 _ I7 q7) (fun u8 s8 ⟨y, H8, I8, r8, q8⟩ => ?_) fun _ _ z => z.elim))
        obtain ⟨m', hm, w8⟩ := hNN _ _ _ q8
        have pD := I8.pin (D, _) (List.mem_append_right _ (List.mem_append_left _ (List.mem_singleton.mpr rfl)))
        obtain ⟨gD8, nD8, _⟩ := pD
        have hlen := rv.length
        refine wpAny_bind (call_meets F.slot_list_append ⟨_, gD8, rfl⟩ F.entry_list_append (F.args_list_append_2 _ _) (PySem.list_append D its.toArray k u8 (by rw [List.size_toArray]; omega)) ⟨gD8, ?_⟩)
        refine wpAny_pure (wpAny_pure ⟨rfl, ?_⟩)
        have q := PySem.IsL.update gD8 (·.push u8)
        have e9 : its.toArray.push u8 = (its ++ [u8]).toArray := by simp
        rw [e9] at q
        refine again (its' := its ++ [u8]) ((dropD I8).turned (it := D) (t' := _) (fun b o hb e => (Heap.get?_update_other s8.heap _ (Ne.symm hb)).trans e) nD8 nDC (.inr hDs) (fun x c e => Dcell x c e) fun p hp z => ?_) nD8 q (rv.append (.cons r8 .nil)) hm w8
        have hp' : p ∈ pinsAt fp s5.heap := by simpa [cxComp] using hp
        exact nfD p.1 (of_pinsAt hp').1 z
  exact codeAny_compStart_list (loop _ rfl) (T.self _ 0 _ _ _ (T.keep _ _ _ st fun b hb o e => old b o e) (loop _ rfl))
theorem pe_comp {wi : TI} {g : TG} {tt : TT} {te : TE} (hc : X.calm = true) (S : CompScope X.N X.env.scope scope own fr) (hi : PI X tg iter wi)
    (hb : ∀ (cl : List (Str × Addr)) (C : Addr) (s : Shared) (H : Hp) (ex : List Addr), PG (cxComp X scope cl C (own ++ fr.map (·.2)) s H ex) tg g ∧ PIfs (cxComp X scope cl C (own ++ fr.map (·.2)) s H ex) ifs tt ∧ PE (cxComp X scope cl C (own ++ fr.map (·.2)) s H ex) elt te)
    (hs : ∀ x, foldedSetIterable iter X.env x = pure x := by intro _; rfl) : PE X (.ListComp elt [⟨tg, iter, ifs, 0⟩] scope pos) (tComp own fr wi g tt te) := by
  intro pins s σ H Q I h
  obtain ⟨cl, hclos, hcl, hcl2⟩ := closure_ok (scope := scope) (env := X.env) fun x hx => I.ok.has x (S.free (x, .free) hx rfl)
  rw [eval_ListComp]
  refine wpAny_comprehension_free (use := none) rfl hs hclos S.kind S.locs (thn (hi pins s σ H _ I h) fun xv s₁ h₁ => thn h₁ fun itv s₂ h₂ => ?_)
  obtain ⟨it, fp, tn, J, H2, e, I2, T, st2, f2, hq⟩ := h₂
  subst e
  refine comp_block hc S I2 hcl hcl2 T st2 f2 hb hq (RR := fun acc C => compPost (model X.prog X.w) X.A X.xe none (EP X pins σ Q) acc C) fun D C s' H' hn hC1 hCD hC2 q inv => ?_
  obtain ⟨m, hn⟩ := hn
  exact ⟨m, hn, fun h'' sb => ⟨.ref D, H', inv h'' fun b o hb e => sb.extBut b o hb e, rfl, q⟩⟩
theorem ps_comp {i : Nat} {x : Str} {px spos : Pos} {wi : TI} {g : TG} {tt : TT} {te : TE} (hc : X.calm = true) (hN : X.N.Nodup) (hix : X.N[i]? = some x) (hx : X.env.scope.names.lookup x = some .local) (S : CompScope X.N X.env.scope scope own fr) (hi : PI X tg iter wi)
    (hb : ∀ (cl : List (Str × Addr)) (C : Addr) (s : Shared) (H : Hp) (ex : List Addr), PG (cxComp X scope cl C (own ++ fr.map (·.2)) s H ex) tg g ∧ PIfs (cxComp X scope cl C (own ++ fr.map (·.2)) s H ex) ifs tt ∧ PE (cxComp X scope cl C (own ++ fr.map (·.2)) s H ex) elt te)
    (hsw : swapsWith (.ListComp elt [⟨tg, iter, ifs, 0⟩] scope pos) (some (.Name x px)) spos.line X.env = pure true) (hs : ∀ x, foldedSetIterable iter X.env x = pure x := by intro _; rfl) :
    PS X (.Assign [.Name x px] (.ListComp elt [⟨tg, iter, ifs, 0⟩] scope pos) spos) (tAsg (tComp own fr wi g tt te) (gName i)) := by
  intro pins s σ H D I h
  obtain ⟨cl, hclos, hcl, hcl2⟩ := closure_ok (scope := scope) (env := X.env) fun x hx => I.ok.has x (S.free (x, .free) hx rfl)
  rw [exec_Assign_Name_used _ _ _ _ hsw]
  refine wpAny_bind (wpAny_standAt (wpAny_bind ?_))
  show wpAny _ X.A (do let _ ← comprehension (.ListComp elt [⟨tg, iter, ifs, 0⟩] scope pos) scope X.env _ (newList []) false (eval iter X.env) (some (assign (.Name x px) X.env))) _ _ s
  refine wpAny_bind (wpAny_mono (wpAny_comprehension_free (use := some (assign (.Name x px) X.env)) (Q := fun _ s' => SP X pins D .next s') rfl hs hclos S.kind S.locs (thn (hi pins s σ H _ I h) fun xv s₁ h₁ => thn h₁ fun itv s₂ h₂ => ?_)) (fun _ s' hq => wpAny_pure (wpAny_pure hq)) fun _ _ e => e)
  obtain ⟨it, fp, tn, J, H2, e, I2, T, st2, f2, hq⟩ := h₂
  subst e
  refine comp_block (Q := fun x H1 => gName i x σ H1 D.nx) hc S I2 hcl hcl2 T st2 f2 hb hq (RR := fun acc C => compPost (model X.prog X.w) X.A X.xe (some (assign (.Name x px) X.env)) (fun _ s' => SP X pins D .next s') acc C) fun Da C s' H' hn hC1 hCD hC2 q inv => ?_
  obtain ⟨m, hn⟩ := hn
  have I3 : Inv X pins σ H' { s' with heap := s'.heap } := inv s'.heap fun _ _ _ e => e
  show wpAny _ X.A (assign (.Name x px) X.env (.ref Da)) _ _ s'
  refine wpAny_assign_Name (store_ok2 I3 hN hix (.inl hx) (v := .ref Da) rfl (fun s4 I4 ⟨a, sb, ha⟩ => ?_) (.inr hx))
  have hCL : C ≠ X.env.locals := Nat.ne_of_gt (Nat.lt_of_lt_of_le I2.lt hC1)
  have hCc : ∀ y c, X.env.cells.lookup y = some c → c ≠ C := fun y c e => by
    obtain ⟨v, w⟩ := I2.cell y c e
    exact Nat.ne_of_lt (Nat.lt_of_lt_of_le w.lt hC1)
  have haC : C ≠ a := by
    rcases ha with ha | ha
    · rw [ha]; exact hCL
    · exact (hCc _ _ ha).symm
  refine ⟨m, hn.sameBut sb haC, fun h'' sb2 => ⟨_, H', I4.turned (it := C) (t' := s4.toks) (fun b o hb e => sb2.extBut b o hb e) hC2 hCL (.inr (Nat.le_trans I2.sz hC1)) hCc fun p hp z => ?_, q⟩⟩
  exact Nat.ne_of_lt (Nat.lt_of_lt_of_le (Heap.lt_size (I2.pin p hp).1) hC1) z
end
theorem comp_list {K : PySem.W.Frag} {a : Addr} {xs : List V} {g : TG} {tt : TT} {te : TE} {σ₀ : St} {H : Hp} {Q : VK} (Pv : Nat → List V → St → Hp → Prop) (h0 : Pv 0 [] σ₀ H) (hz : xs.length ≤ sizeLine) (hn : ∀ i acc σ H, Pv i acc σ H → acc.length ≤ i)
    (hl : ∀ i acc σ H, i ≤ xs.length → Pv i acc σ H → SqL K H a xs)
    (hs : ∀ i x acc σ H, xs[i]? = some x → Pv i acc σ H → g x σ H fun σ2 H2 => tt σ2 H2 fun ok H3 => if ok = true then te σ2 H3 fun y H4 => Pv (i + 1) (acc ++ [y]) σ2 H4 else Pv (i + 1) acc σ2 H3)
    (hd : ∀ acc σ H, Pv xs.length acc σ H → ∀ p, H p = none → Q (.ref p) (upd H p (.lst acc))) :
    CompGo (Itl K a) g tt te Q σ₀ H := by
  refine ⟨fun i m acc σ H => m = xs.length - i ∧ i ≤ xs.length ∧ Pv i acc σ H, ⟨xs.length, by simp, Nat.zero_le _, h0⟩, ?_⟩
  rintro i m acc σ H ⟨rfl, hi, p⟩
  have q := hl i acc σ H hi p
  have hlen := hn i acc σ H p
  by_cases hlt : i < xs.length
  · refine .inr ⟨⟨xs, xs[i], q, by simp [hlt]⟩, by omega, Pv (i + 1), fun acc' σ' H' p' => ⟨xs.length - (i + 1), by omega, rfl, hlt, p'⟩, fun x H' y => ?_⟩
    obtain ⟨e, y⟩ := y
    subst e
    exact hs i x acc σ _ (y xs q) p
  · have e : i = xs.length := by omega
    subst e
    exact .inl ⟨⟨xs, q, Nat.le_refl _⟩, by omega, hd acc σ H p⟩
theorem comp_range {lo : Int} {n : Nat} {g : TG} {tt : TT} {te : TE} {σ₀ : St} {H : Hp} {Q : VK} (Pv : Nat → List V → St → Hp → Prop) (h0 : Pv 0 [] σ₀ H) (hz : n ≤ sizeLine) (hn : ∀ i acc σ H, Pv i acc σ H → acc.length ≤ i)
    (hs : ∀ i acc σ H, i < n → Pv i acc σ H → g (.int (lo + i)) σ H fun σ2 H2 => tt σ2 H2 fun ok H3 => if ok = true then te σ2 H3 fun y H4 => Pv (i + 1) (acc ++ [y]) σ2 H4 else Pv (i + 1) acc σ2 H3)
    (hd : ∀ acc σ H, Pv n acc σ H → ∀ p, H p = none → Q (.ref p) (upd H p (.lst acc))) :
    CompGo (Itr lo n) g tt te Q σ₀ H := by
  refine ⟨fun i m acc σ H => m = n - i ∧ i ≤ n ∧ Pv i acc σ H, ⟨n, by simp, Nat.zero_le _, h0⟩, ?_⟩
  rintro i m acc σ H ⟨rfl, hi, p⟩
  have hlen := hn i acc σ H p
  by_cases hlt : i < n
  · refine .inr ⟨hlt, by omega, Pv (i + 1), fun acc' σ' H' p' => ⟨n - (i + 1), by omega, rfl, hlt, p'⟩, fun x H' y => ?_⟩
    obtain ⟨e, y⟩ := y
    subst e y
    exact hs i acc σ _ hlt p
  · have e : i = n := by omega
    subst e
    exact .inl ⟨Nat.le_refl _, by omega, hd acc σ H p⟩
end L2
namespace L2
open PySem PySem.Spec PyProof.Rows
theorem iteP {c A B : Prop} [Decidable c] (h : c) (a : A) : if c then A else B := by rw [if_pos h]; exact a
theorem iteN {c A B : Prop} [Decidable c] (h : ¬ c) (b : B) : if c then A else B := by rw [if_neg h]; exact b
structure Callee (P : Program) (w : World) (K : PySem.W.Frag) (mg : Str → Option Value) (base : Heap) (k : Nat) (x : Str) (ps : List Str) (sp : Sp) : Prop where
  ex : ∃ (f : Addr) (fd : FuncData), FnOk P w K mg base CX0 k f fd ps sp ∧ Binds K fd ps [] ∧ PySem.W.keepIn K (.ref f) = true ∧ mg x = some (.ref f)
structure Def (K : PySem.W.Frag) (mg : Str → Option Value) (x : Str) (st : Stmt) (ps : List Str) : Prop where
  ex : ∃ (f : Addr) (fd : FuncData), Fun K x x st f fd ∧ Binds K fd ps [] ∧ mg x = some (.ref f)
section
variable {P : Program} {w : World} {K : PySem.W.Frag} {mg : Str → Option Value} {base : Heap}
theorem Def.ok {x : Str} {st : Stmt} {N ps : List Str} {k : Nat} {sp : Sp} (D : Def K mg x st ps) (S : FnScope N ps (defScope st)) (len : ∀ vs H Q E, sp vs H Q E → vs.length = ps.length)
    (hbody : ∀ (f : Addr) (cdv : Value) (A : Around) (outer : List Env) (s : Shared) (H : Hp) (vs : List V) (Q : VK) (E : XK), Room k (A.deeper (envOfC x (defScope st) s.heap.objs.size f cdv)) → sp vs H Q E →
      ∃ t, PSs (cxOf CX0 P w K mg base N x (defScope st) f cdv A outer s H E).nox (defBody st) t ∧ t { nx := fun _ H' => Q .non H', rt := Q } (start N vs) H) : Callee P w K mg base (k + 1) x ps sp := by
  obtain ⟨f, fd, F, b, m⟩ := D.ex
  exact ⟨f, fd, F.ok S len fun cdv A outer s H vs Q E hr h => hbody f cdv A outer s H vs Q E hr h, b, F.kp, m⟩
end
section
variable {X : Cx} {k n : Nat} {ps : List Str} {sp : Sp} {x : Str} {p pos : Pos} {e : Expr} {es : List Expr} {t : TA}
theorem pe_fn (C : Callee X.prog X.w X.K X.mg X.base k x ps sp) (hr : Room n X.A) (hg : Gl X x) (ha : PA X (e :: es) t) (hk : k ≤ n := by decide) (hdb : (x == ("__debug__" : Str)) = false := by decide)
    (he : starEach (e :: es) X.env = (false, eval e X.env) :: starEach es X.env := by rfl) (hpl : (backTo pos (starEach es X.env)).any (·.1) = false := by rfl) :
    PE X (.Call (.Name x p) (e :: es) [] pos) (tCall sp [] E0 t) := by
  obtain ⟨f, fd, F, b, kp, m⟩ := C.ex
  exact pe_call F (hr.mono hk) hg m kp b .nil pass0 ha hdb he hpl
theorem call_isinst : CallR X (.builtin "isinstance") (fun xs H Q => ∃ v T t b, xs = [v, .ty T] ∧ TyOf X.K H v t ∧ PySem.W.kitOne X.K t (.type T) = some b ∧ Q (.bl b) H) := by
  intro pins s σ H xs us Q I r h
  obtain ⟨v, T, t, b, rfl, ty, e, q⟩ := h
  obtain ⟨u, u', rfl, r1, r2⟩ := vals2 r
  cases r2
  exact isinst_ok I r1 ty e fun tk => ⟨.bl b, H, I.tok _, rfl, q⟩
def kitB (S T : String) : Option Bool := if (Value.type S == Value.type T) = true then some true else if PySem.W.kitMeta T = true then (fastBuiltinMro S).map (·.contains (.type T)) else none
theorem kit_of {K : PySem.W.Frag} {S T : String} {b : Bool} (h : kitB S T = some b) : PySem.W.kitOne K (.type S) (.type T) = some b := h
section
variable {K : PySem.W.Frag}
theorem kit_int_int : PySem.W.kitOne K (.type "int") (.type "int") = some true := kit_of (by decide +kernel)
theorem kit_int_bool : PySem.W.kitOne K (.type "int") (.type "bool") = some false := kit_of (by decide +kernel)
theorem kit_tup_tup : PySem.W.kitOne K (.type "tuple") (.type "tuple") = some true := kit_of (by decide +kernel)
end
theorem preSum_list (ns : List Int) : ∀ n, n ≤ ns.length → preSum (fun i => ns.getD i 0) n = (ns.take n).sum
  | 0, _ => by simp [preSum]
  | n + 1, h => by
    have hn : n < ns.length := h
    rw [preSum, preSum_list ns n (Nat.le_of_lt hn), List.take_succ, List.sum_append, List.getElem?_eq_getElem hn]
    simp [List.getD, List.getElem?_eq_getElem hn]
theorem ints_at {ns : List Int} {us : List Value} (h : IntsAre us ns) : ∀ (i : Nat) (v : Value), us[i]? = some v → ∃ t, v = .int (ns.getD i 0) t := by
  induction h with
  | nil => intro i v e; simp at e
  | cons n t h ih =>
    intro i v e
    cases i with
    | zero => exact ⟨t, by simpa using e.symm⟩
    | succ i =>
      obtain ⟨t', e'⟩ := ih i v (by simpa using e)
      exact ⟨t', by simpa using e'⟩
theorem call_sum_ints (hc : X.calm = true) : CallR X (.builtin "sum") (fun xs H Q => ∃ (p : Addr) (ns : List Int), xs = [.ref p] ∧ SqL X.K H p (ns.map V.int) ∧ Q (.int ns.sum) H) := by
  intro pins s σ H xs us Q I r h
  obtain ⟨p, ns, rfl, hq, q⟩ := h
  obtain ⟨u, rfl, rx⟩ := vals1 r
  cases rx
  obtain ⟨its, r', pl, hz⟩ := I.list hq
  have hi : IntsAre its ns := intsAre_of r'
  have hlen : its.length = ns.length := hi.length
  obtain ⟨o, n, ho, _⟩ := id pl
  have hne : p ≠ s.heap.objs.size := Nat.ne_of_lt (Heap.lt_size ho)
  refine call_sum_walkAnyS (wpAny_pyIter_list pl.isList ?_)
  refine ⟨s.heap.objs.size, [s.heap.objs.size, p], [s.heap.objs.size], _, its.toArray.size, _, _, fun i => ns.getD i 0, rfl, (Walks.list (A := X.A.in1) (I.ok.hd hc) s.heap.objs.size p hne its.toArray).toS,
    ⟨⟨_, Heap.get?_push_size _ rfl, rfl, rfl⟩, pl.isList.at fun o e => Heap.get?_push_of_some _ e⟩, fun b hb => ?_, fun i v e => ints_at hi i v (by simpa using e), fun s' t' hm => ?_⟩
  · simp only [List.mem_cons, List.not_mem_nil, or_false] at hb
    rw [Heap.size_push]
    rcases hb with rfl | rfl
    · exact Nat.lt_succ_self _
    · exact Nat.lt_succ_of_lt (Heap.lt_size ho)
  · have kp : ∀ b o, s.heap.get? b = some o → s'.heap.get? b = some o := fun b o e => hm.heap b o (by simpa using Nat.ne_of_lt (Heap.lt_size e)) (Heap.get?_push_of_some _ e)
    have e : preSum (fun i => ns.getD i 0) its.toArray.size = ns.sum := by
      rw [preSum_list ns _ (by rw [List.size_toArray]; omega), List.size_toArray, hlen, List.take_length]
    rw [e]
    exact ⟨.int ns.sum, H, I.call' (ch := []) hm.os (Un.kept kp) (I.hok.kept kp) (by rw [show s'.gens = s.gens from hm.gens]; exact I.bare) (fun b z => nomatch z), ⟨_, rfl⟩, q⟩
end
end L2
namespace L2
open PySem PySem.Spec PyProof.Rows
def RowAt (b : Bool) (h : Heap) (l : Addr) (xs : Array Value) : Prop := match b with
  | true => h.IsTuple l xs
  | false => h.IsList l xs
def RowIt (b : Bool) (h : Heap) (i l : Addr) (k : Nat) : Prop := match b with
  | true => h.IsTupleIter i l k
  | false => h.IsListIter i l k
theorem RowAt.kept {b : Bool} {h h' : Heap} {l : Addr} {xs : Array Value} (x : RowAt b h l xs) (k : ∀ o, h.get? l = some o → h'.get? l = some o) : RowAt b h' l xs := by
  cases b with
  | true => obtain ⟨o, e, r⟩ := (show h.IsTuple l xs from x); exact ⟨o, k o e, r⟩
  | false => obtain ⟨o, e, r⟩ := (show h.IsList l xs from x); exact ⟨o, k o e, r⟩
theorem RowIt.kept {b : Bool} {h h' : Heap} {i l : Addr} {n : Nat} (x : RowIt b h i l n) (k : ∀ o, h.get? i = some o → h'.get? i = some o) : RowIt b h' i l n := by
  cases b with
  | true => obtain ⟨o, e, r⟩ := (show h.IsTupleIter i l n from x); exact ⟨o, k o e, r⟩
  | false => obtain ⟨o, e, r⟩ := (show h.IsListIter i l n from x); exact ⟨o, k o e, r⟩
theorem RowIt.there {b : Bool} {h : Heap} {i l : Addr} {n : Nat} (x : RowIt b h i l n) : ∃ o, h.get? i = some o ∧ ∀ v, o.data ≠ .cell v := by
  cases b with
  | true => obtain ⟨o, e, c, d⟩ := (show h.IsTupleIter i l n from x); exact ⟨o, e, fun v z => by rw [d] at z; cases z⟩
  | false => obtain ⟨o, e, c, d⟩ := (show h.IsListIter i l n from x); exact ⟨o, e, fun v z => by rw [d] at z; cases z⟩
section
variable {prog : Program} {w : World} {A : Around} {E : Value → Shared → Prop} {s : Shared}
theorem tupNext {it t : Addr} {i : Nat} {items : Array Value} {x : Value} {Q : Value → Shared → Prop} (hit : s.heap.IsTupleIter it t i) (ht : s.heap.IsTuple t items) (hx : items[i]? = some x)
    (hQ : ∀ h', h'.IsTupleIter it t (i + 1) → Heap.SameBut it s.heap h' → Q x { s with heap := h' }) : wpAny (model prog w) A (Builtin.SmallTypes.nextOf (.ref it)) Q E s := by
  obtain ⟨oi, gi, ci, di⟩ := id hit
  obtain ⟨ot, gt, _, nt, dt⟩ := ht
  unfold Builtin.SmallTypes.nextOf
  refine wpAny_bind (wpAny_callSpecial?_slot (name := Str.ofString "__next__") hit.typeIs F.slot_tuple_iterator_next (wpAny_call_entry F.slot_tuple_iterator_next hit.typeIs F.entry_tuple_iterator_next ?_ (F.args_tuple_iterator_next_1 _)))
  show wpAny _ _ (field (.ref it) 0 >>= _) _ _ s
  refine wpAny_bind (wpAny_field gi di (x := .ref t) rfl ?_)
  show wpAny _ _ (if (Value.ref t == Value.none) = true then _ else _) _ _ s
  rw [if_neg (show ¬ ((Value.ref t == Value.none) = true) from Bool.false_ne_true)]
  show wpAny _ _ (field (.ref it) 1 >>= _) _ _ s
  refine wpAny_bind (wpAny_field gi di (x := .int i 0) rfl ?_)
  show wpAny _ _ (seqItems? (.ref t) >>= _) _ _ s
  refine wpAny_bind (wpAny_seqItems gt dt ?_)
  simp only [Int.toNat_natCast, hx]
  refine wpAny_bind (wpAny_setField gi di (by simp) (wpAny_pure ⟨x, rfl, wpAny_pure (hQ _ ?_ (Heap.SameBut.update ..))⟩))
  exact ⟨_, Heap.get?_update_self _ gi (Obj.isFreed_of_fields (Obj.data_mapFields di _)), (Obj.cls_mapFields ..).trans ci, by rw [Obj.data_mapFields di]; simp [rawInt]⟩
theorem tupStop {it t : Addr} {i : Nat} {items : Array Value} {Q : Value → Shared → Prop} (hh : A.handled = none) (hit : s.heap.IsTupleIter it t i) (ht : s.heap.IsTuple t items) (hx : items[i]? = none)
    (hE : ∀ h' e, Heap.ExtBut it s.heap h' → (∃ o, h'.get? e = some o ∧ o.cls = .type "StopIteration") → E (.ref e) { s with heap := h' }) : wpAny (model prog w) A (Builtin.SmallTypes.nextOf (.ref it)) Q E s := by
  obtain ⟨oi, gi, ci, di⟩ := id hit
  obtain ⟨ot, gt, _, nt, dt⟩ := ht
  unfold Builtin.SmallTypes.nextOf
  refine wpAny_bind (wpAny_callSpecial?_slot (name := Str.ofString "__next__") hit.typeIs F.slot_tuple_iterator_next (wpAny_call_entry F.slot_tuple_iterator_next hit.typeIs F.entry_tuple_iterator_next ?_ (F.args_tuple_iterator_next_1 _)))
  show wpAny _ _ (field (.ref it) 0 >>= _) _ _ s
  refine wpAny_bind (wpAny_field gi di (x := .ref t) rfl ?_)
  show wpAny _ _ (if (Value.ref t == Value.none) = true then _ else _) _ _ s
  rw [if_neg (show ¬ ((Value.ref t == Value.none) = true) from Bool.false_ne_true)]
  show wpAny _ _ (field (.ref it) 1 >>= _) _ _ s
  refine wpAny_bind (wpAny_field gi di (x := .int i 0) rfl ?_)
  show wpAny _ _ (seqItems? (.ref t) >>= _) _ _ s
  refine wpAny_bind (wpAny_seqItems gt dt ?_)
  simp only [Int.toNat_natCast, hx]
  refine wpAny_bind (wpAny_rule (wpAny_bind (wpAny_setField gi di (by simp) ?_)))
  show wpAny _ _ (newExc (.type "StopIteration") [] >>= _) _ _ _
  refine wpAny_bind ?_
  simp only [newExc, newTuple]
  refine wpAny_bind (wpAny_newObj_type ?_ (by size_fits))
  refine wpAny_bind (m := firstArgMember _ _) (wpAny_of_eq (a := Value.none) (by first | rfl | (simp only [firstArgMember]; rfl)) ?_)
  refine wpAny_newObj_type ?_ (by size_fits)
  simp only [raiseNew]
  refine wpAny_bind (wpAny_handled ?_)
  first | rw [show A.in1.handled = none from hh] | rw [hh]
  refine wpAny_bind (wpAny_pure (wpAny_throw ?_))
  exact hE _ _ (((Heap.SameBut.update ..).extBut.push _).push _) ⟨_, Heap.get?_push_size _ rfl, rfl⟩
theorem rowNext {b : Bool} {it l : Addr} {i : Nat} {items : Array Value} {x : Value} {Q : Value → Shared → Prop} (hit : RowIt b s.heap it l i) (hl : RowAt b s.heap l items) (hx : items[i]? = some x)
    (hQ : ∀ h', RowIt b h' it l (i + 1) → Heap.SameBut it s.heap h' → Q x { s with heap := h' }) : wpAny (model prog w) A (Builtin.SmallTypes.nextOf (.ref it)) Q E s := by
  cases b with
  | true => exact tupNext hit hl hx hQ
  | false => exact wpAny_nextOf_list_item hit hl hx hQ
theorem rowStop {b : Bool} {it l : Addr} {i : Nat} {items : Array Value} {Q : Value → Shared → Prop} (hh : A.handled = none) (hit : RowIt b s.heap it l i) (hl : RowAt b s.heap l items) (hx : items[i]? = none)
    (hE : ∀ h' e, Heap.ExtBut it s.heap h' → (∃ o, h'.get? e = some o ∧ o.cls = .type "StopIteration") → E (.ref e) { s with heap := h' }) : wpAny (model prog w) A (Builtin.SmallTypes.nextOf (.ref it)) Q E s := by
  cases b with
  | true => exact tupStop hh hit hl hx hE
  | false => exact wpAny_nextOf_list_end hh hit hl hx hE
structure ZAp (z t o i j l m : Addr) : Prop where
  tz : t ≠ z
  oz : o ≠ z
  iz : i ≠ z
  jz : j ≠ z
  ot : o ≠ t
  it : i ≠ t
  jt : j ≠ t
  io : i ≠ o
  jo : j ≠ o
  ij : i ≠ j
  lz : l ≠ z
  lo : l ≠ o
  li : l ≠ i
  lj : l ≠ j
  mz : m ≠ z
  mo : m ≠ o
  mi : m ≠ i
  mj : m ≠ j
theorem zipNext {b : Bool} {z t o i j l m : Addr} {n : Nat} {xs ys : Array Value} {x y c d : Value} {Q : Option Value → Shared → Prop} (D : ZAp z t o i j l m) (hz : IsZip s.heap z t o .none) (ht : IsPair s.heap t (.ref i) (.ref j)) (ho : IsPair s.heap o c d)
    (hi : RowIt b s.heap i l n) (hj : RowIt b s.heap j m n) (hl : RowAt b s.heap l xs) (hm : RowAt b s.heap m ys) (hx : xs[n]? = some x) (hy : ys[n]? = some y)
    (hQ : ∀ h', IsZip h' z t o (rawInt s.heap.objs.size) → IsPair h' o x y → RowIt b h' i l (n + 1) → RowIt b h' j m (n + 1) → IsPair h' s.heap.objs.size x y → h'.objs.size = s.heap.objs.size + 1 →
      (∀ a u, a ≠ z → a ≠ o → a ≠ i → a ≠ j → s.heap.get? a = some u → h'.get? a = some u) → Q (some (.ref s.heap.objs.size)) { s with heap := h' }) : wpAny (model prog w) A (pyNext (.ref z)) Q E s := by
  have hT : s.TypeIs (.ref z) "zip" := ⟨_, hz, rfl⟩
  unfold pyNext
  refine wpAny_bind (wpAny_attempt (wpAny_callSpecial?_slot (name := Str.ofString "__next__") hT F.slot_zip_next (wpAny_call_entry F.slot_zip_next hT F.entry_zip_next ?_ (F.args_zip_next_1 _))))
  show wpAny _ _ (field (.ref z) 2 >>= _) _ _ _
  refine wpAny_bind (wpAny_field hz rfl (x := .bool false) rfl ?_)
  show wpAny _ _ (field (.ref z) 3 >>= _) _ _ _
  refine wpAny_bind (wpAny_field hz rfl (x := .ref t) rfl ?_)
  refine wpAny_bind (wpAny_seqItems ht rfl ?_)
  show wpAny _ _ (Builtin.SmallTypes.ownedTupleIsFree (.ref z) >>= _) _ _ _
  refine wpAny_bind ?_
  unfold Builtin.SmallTypes.ownedTupleIsFree
  refine wpAny_bind (wpAny_field hz rfl (x := .none) rfl (wpAny_pure ?_))
  simp only [if_true]
  refine wpAny_bind (wpAny_rule ?_)
  refine wpAny_bind (wpAny_field hz rfl (x := .ref o) rfl ?_)
  refine wpAny_bind (wpAny_setField_rec hz (by simp) fun h1 z1 s1 => ?_)
  replace z1 : IsZip h1 z t o .ellipsis := z1
  refine wpAny_bind ?_
  simp only [List.zipIdx_cons, List.zipIdx_nil, List.forIn_cons, List.forIn_nil]
  refine wpAny_bind (wpAny_bind (wpAny_onRaise ?_))
  show wpAny _ _ (Builtin.SmallTypes.nextOf (.ref i) >>= _) _ _ _
  refine wpAny_bind (rowNext (s := { s with heap := h1 }) (hi.kept fun u e => s1.extBut _ u D.iz e) (hl.kept fun u e => s1.extBut _ u D.lz e) hx fun h2 i2 s2 => wpAny_pure ?_)
  have o2 : IsPair h2 o c d := s2.extBut _ _ (Ne.symm D.io) (s1.extBut _ _ D.oz ho)
  refine wpAny_bind (wpAny_seqItems o2 rfl ?_)
  refine wpAny_bind (wpAny_updateSeq_pair o2 fun h3 o3 s3 => ?_)
  replace o3 : IsPair h3 o x d := o3
  refine wpAny_bind (wpAny_letGo (wpAny_pure ?_))
  refine wpAny_bind (wpAny_bind (wpAny_onRaise ?_))
  show wpAny _ _ (Builtin.SmallTypes.nextOf (.ref j) >>= _) _ _ _
  refine wpAny_bind (rowNext (s := { s with heap := h3 }) (hj.kept fun u e => s3.extBut _ u D.jo (s2.extBut _ u (Ne.symm D.ij) (s1.extBut _ u D.jz e))) (hm.kept fun u e => s3.extBut _ u D.mo (s2.extBut _ u D.mi (s1.extBut _ u D.mz e))) hy fun h4 j4 s4 => wpAny_pure ?_)
  have o4 : IsPair h4 o x d := s4.extBut _ _ (Ne.symm D.jo) o3
  refine wpAny_bind (wpAny_seqItems o4 rfl ?_)
  refine wpAny_bind (wpAny_updateSeq_pair o4 fun h5 o5 s5 => ?_)
  replace o5 : IsPair h5 o x y := o5
  refine wpAny_bind (wpAny_letGo (wpAny_pure (wpAny_pure ?_)))
  refine wpAny_bind (wpAny_seqItems o5 rfl ?_)
  refine wpAny_bind (wpAny_newTuple ?_)
  have hsz : h5.objs.size = s.heap.objs.size := by rw [s5.1, s4.1, s3.1, s2.1, s1.1]
  have z5 : IsZip h5 z t o .ellipsis := s5.extBut _ _ (Ne.symm D.oz) (s4.extBut _ _ (Ne.symm D.jz) (s3.extBut _ _ (Ne.symm D.oz) (s2.extBut _ _ (Ne.symm D.iz) z1)))
  have k5 : ∀ a u, a ≠ z → a ≠ o → a ≠ i → a ≠ j → s.heap.get? a = some u → h5.get? a = some u := fun a u a1 a2 a3 a4 e => s5.extBut _ _ a2 (s4.extBut _ _ a4 (s3.extBut _ _ a2 (s2.extBut _ _ a3 (s1.extBut _ _ a1 e))))
  have i5 : RowIt b h5 i l (n + 1) := i2.kept fun u e => s5.extBut _ u D.io (s4.extBut _ u D.ij (s3.extBut _ u D.io e))
  have j5 : RowIt b h5 j m (n + 1) := j4.kept fun u e => s5.extBut _ u D.jo e
  have hzlt : z < h5.objs.size := Heap.lt_size z5
  show wpAny _ _ (Builtin.SmallTypes.ownedTupleHandOut (.ref z) (.ref h5.objs.size) >>= _) _ _ _
  refine wpAny_bind ?_
  unfold Builtin.SmallTypes.ownedTupleHandOut
  have z6 : IsZip (h5.push { cls := .type "tuple", data := .seq #[x, y] }) z t o .ellipsis := Heap.get?_push_of_some _ z5
  refine wpAny_bind (wpAny_setField_rec z6 (by simp) fun h7 z7 s7 => ?_)
  replace z7 : IsZip h7 z t o (rawInt h5.objs.size) := z7
  refine wpAny_setField_rec z7 (by simp) fun h8 z8 s8 => ?_
  replace z8 : IsZip h8 z t o (rawInt h5.objs.size) := z8
  have up : ∀ a u, a ≠ z → h5.get? a = some u → h8.get? a = some u := fun a u a1 e => s8.extBut _ _ a1 (s7.extBut _ _ a1 (Heap.get?_push_of_some _ e))
  have t8 : IsPair h8 h5.objs.size x y := s8.extBut _ _ (Nat.ne_of_gt hzlt) (s7.extBut _ _ (Nat.ne_of_gt hzlt) (Heap.get?_push_size _ rfl))
  have n8 : h8.objs.size = h5.objs.size + 1 := by rw [s8.1, s7.1, Heap.size_push]
  rw [hsz] at z8 t8 n8
  refine wpAny_pure ⟨_, rfl, wpAny_pure ?_⟩
  show Q (some (.ref h5.objs.size)) _
  rw [hsz]
  exact hQ h8 z8 (up _ _ D.oz o5) (i5.kept fun u e => up _ u D.iz e) (j5.kept fun u e => up _ u D.jz e) t8 n8 fun a u a1 a2 a3 a4 e => up a u a1 (k5 a u a1 a2 a3 a4 e)
theorem zipStop {b : Bool} {z t o i j l m : Addr} {n : Nat} {xs ys : Array Value} {c d : Value} {Q : Option Value → Shared → Prop} (hh : A.handled = none) (D : ZAp z t o i j l m) (hz : IsZip s.heap z t o .none) (ht : IsPair s.heap t (.ref i) (.ref j)) (ho : IsPair s.heap o c d)
    (hi : RowIt b s.heap i l n) (hj : RowIt b s.heap j m n) (hl : RowAt b s.heap l xs) (hm : RowAt b s.heap m ys) (hend : xs[n]? = none ∨ ys[n]? = none)
    (hQ : ∀ h', (∀ a u, a ≠ z → a ≠ o → a ≠ i → a ≠ j → s.heap.get? a = some u → h'.get? a = some u) → Q none { s with heap := h' }) : wpAny (model prog w) A (pyNext (.ref z)) Q E s := by
  have hT : s.TypeIs (.ref z) "zip" := ⟨_, hz, rfl⟩
  unfold pyNext
  have fin : ∀ (h' : Heap) (e : Addr), (∀ a u, a ≠ z → a ≠ o → a ≠ i → a ≠ j → s.heap.get? a = some u → h'.get? a = some u) → (∃ u, h'.get? e = some u ∧ u.cls = .type "StopIteration") →
      wpAny (model prog w) A (do if ← isInstance (.ref e) (.type "StopIteration") then pure none else throw (.ref e)) Q E { s with heap := h' } := fun h' e kk ⟨u, hu, hc⟩ => by
    refine wpAny_bind (wpAny_isInstance (T := "StopIteration") (b := true) ⟨u, hu, hc⟩ isSubtype_stop ?_)
    exact wpAny_pure (hQ _ kk)
  refine wpAny_bind (wpAny_attempt (wpAny_callSpecial?_slot (name := Str.ofString "__next__") hT F.slot_zip_next (wpAny_call_entry F.slot_zip_next hT F.entry_zip_next ?_ (F.args_zip_next_1 _))))
  show wpAny _ _ (field (.ref z) 2 >>= _) _ _ _
  refine wpAny_bind (wpAny_field hz rfl (x := .bool false) rfl ?_)
  show wpAny _ _ (field (.ref z) 3 >>= _) _ _ _
  refine wpAny_bind (wpAny_field hz rfl (x := .ref t) rfl ?_)
  refine wpAny_bind (wpAny_seqItems ht rfl ?_)
  show wpAny _ _ (Builtin.SmallTypes.ownedTupleIsFree (.ref z) >>= _) _ _ _
  refine wpAny_bind ?_
  unfold Builtin.SmallTypes.ownedTupleIsFree
  refine wpAny_bind (wpAny_field hz rfl (x := .none) rfl (wpAny_pure ?_))
  simp only [if_true]
  refine wpAny_bind (wpAny_rule ?_)
  refine wpAny_bind (wpAny_field hz rfl (x := .ref o) rfl ?_)
  refine wpAny_bind (wpAny_setField_rec hz (by simp) fun h1 z1 s1 => ?_)
  replace z1 : IsZip h1 z t o .ellipsis := z1
  refine wpAny_bind ?_
  simp only [List.zipIdx_cons, List.zipIdx_nil, List.forIn_cons, List.forIn_nil]
  refine wpAny_bind (wpAny_bind (wpAny_onRaise ?_))
  show wpAny _ _ (Builtin.SmallTypes.nextOf (.ref i) >>= _) _ _ _
  cases hx : xs[n]? with
  | none =>
    refine wpAny_bind (rowStop (s := { s with heap := h1 }) hh (hi.kept fun u e => s1.extBut _ u D.iz e) (hl.kept fun u e => s1.extBut _ u D.lz e) hx fun h2 e s2 he => ?_)
    obtain ⟨oe, hoe, hce⟩ := he
    have z2 : IsZip h2 z t o .ellipsis := s2 _ _ (Ne.symm D.iz) z1
    have hez : e ≠ z := fun q => by subst q; rw [z2] at hoe; cases hoe; simp at hce
    refine wpAny_setField_rec z2 (by simp) fun h3 _ s3 => ?_
    exact fin h3 e (fun a u a1 _ a3 _ q => s3.extBut _ _ a1 (s2 _ _ a3 (s1.extBut _ _ a1 q))) ⟨oe, s3.extBut _ _ hez hoe, hce⟩
  | some x =>
    have hy : ys[n]? = none := by
      rcases hend with q | q
      · rw [hx] at q; cases q
      · exact q
    refine wpAny_bind (rowNext (s := { s with heap := h1 }) (hi.kept fun u e => s1.extBut _ u D.iz e) (hl.kept fun u e => s1.extBut _ u D.lz e) hx fun h2 i2 s2 => wpAny_pure ?_)
    have o2 : IsPair h2 o c d := s2.extBut _ _ (Ne.symm D.io) (s1.extBut _ _ D.oz ho)
    refine wpAny_bind (wpAny_seqItems o2 rfl ?_)
    refine wpAny_bind (wpAny_updateSeq_pair o2 fun h3 o3 s3 => ?_)
    refine wpAny_bind (wpAny_letGo (wpAny_pure ?_))
    refine wpAny_bind (wpAny_bind (wpAny_onRaise ?_))
    show wpAny _ _ (Builtin.SmallTypes.nextOf (.ref j) >>= _) _ _ _
    refine wpAny_bind (rowStop (s := { s with heap := h3 }) hh (hj.kept fun u e => s3.extBut _ u D.jo (s2.extBut _ u (Ne.symm D.ij) (s1.extBut _ u D.jz e))) (hm.kept fun u e => s3.extBut _ u D.mo (s2.extBut _ u D.mi (s1.extBut _ u D.mz e))) hy fun h4 e s4 he => ?_)
    obtain ⟨oe, hoe, hce⟩ := he
    have z4 : IsZip h4 z t o .ellipsis := s4 _ _ (Ne.symm D.jz) (s3.extBut _ _ (Ne.symm D.oz) (s2.extBut _ _ (Ne.symm D.iz) z1))
    have hez : e ≠ z := fun q => by subst q; rw [z4] at hoe; cases hoe; simp at hce
    refine wpAny_setField_rec z4 (by simp) fun h5 _ s5 => ?_
    exact fin h5 e (fun a u a1 a2 a3 a4 q => s5.extBut _ _ a1 (s4 _ _ a4 (s3.extBut _ _ a2 (s2.extBut _ _ a3 (s1.extBut _ _ a1 q))))) ⟨oe, s5.extBut _ _ hez hoe, hce⟩
end
section
variable {prog : Program} {w : World} {A : Around} {E : Value → Shared → Prop} {s : Shared}
abbrev rowIter (b : Bool) (l : Addr) : Obj := { cls := .type (if b then "tuple_iterator" else "list_iterator"), data := .fields #[.ref l, .int 0 0] }
theorem rowIt_iter {b : Bool} {l : Addr} {items : Array Value} {Q : Value → Shared → Prop} (hl : RowAt b s.heap l items) (hQ : Q (.ref s.heap.objs.size) { s with heap := s.heap.push (rowIter b l) }) : wpAny (model prog w) A (pyIter (.ref l)) Q E s := by
  cases b with
  | true => exact wpAny_pyIter_tuple hl hQ
  | false => exact wpAny_pyIter_list hl hQ
abbrev zH1 (b : Bool) (h : Heap) (l : Addr) : Heap := h.push (rowIter b l)
abbrev zH2 (b : Bool) (h : Heap) (l m : Addr) : Heap := (zH1 b h l).push (rowIter b m)
abbrev zH3 (b : Bool) (h : Heap) (l m : Addr) : Heap := (zH2 b h l m).push { cls := .type "tuple", data := .seq #[.ref h.objs.size, .ref (zH1 b h l).objs.size] }
abbrev zH4 (b : Bool) (h : Heap) (l m : Addr) : Heap := (zH3 b h l m).push { cls := .type "tuple", data := .seq #[.none, .none] }
abbrev zH5 (b : Bool) (h : Heap) (l m : Addr) : Heap := (zH4 b h l m).push { cls := .type "zip", data := .fields #[.none, .bool false, .bool false, .ref (zH2 b h l m).objs.size, .ref (zH3 b h l m).objs.size] }
theorem zip_made (b : Bool) (l m : Addr) (xs ys : Array Value) : Meets (Builtin.«zip.__new__» ⟨[.type "zip", .ref l, .ref m], []⟩) (fun _ R s => RowAt b s.heap l xs ∧ RowAt b s.heap m ys ∧ R (.ok (.ret (.ref (zH4 b s.heap l m).objs.size))) { s with heap := zH5 b s.heap l m }) :=
  .of_wp fun prog w A R s h => by
    obtain ⟨hp, g, d, tk, os⟩ := s; obtain ⟨hl, hm, h⟩ := h
    have hsub := sub_zip
    have hL : RowAt b (Shared.heap ⟨hp, g, d, tk, os⟩) l xs := hl
    have hM : RowAt b (Shared.heap ⟨hp.push (rowIter b l), g, d, tk, os⟩) m ys := hm.kept fun o e => Heap.get?_push_of_some _ e
    wp_walk using rowIt_iter hL, rowIt_iter hM
    exact ⟨_, rfl, h⟩
theorem call_zip_rows {b : Bool} {l m : Addr} {xs ys : Array Value} {Q : Value → Shared → Prop} (hl : RowAt b s.heap l xs) (hm : RowAt b s.heap m ys)
    (h : ∀ h', IsZip h' (s.heap.objs.size + 4) (s.heap.objs.size + 2) (s.heap.objs.size + 3) .none → IsPair h' (s.heap.objs.size + 2) (.ref s.heap.objs.size) (.ref (s.heap.objs.size + 1)) → IsPair h' (s.heap.objs.size + 3) .none .none →
      RowIt b h' s.heap.objs.size l 0 → RowIt b h' (s.heap.objs.size + 1) m 0 → (∀ c o, s.heap.get? c = some o → h'.get? c = some o) → Q (.ref (s.heap.objs.size + 4)) { s with heap := h' }) :
    wpAny (model prog w) A (call (.type "zip") [.ref l, .ref m]) Q E s := by
  refine callType_new F.called_zip (by decide) (F.typeCall_zip_2 _ _) (F.newCall_zip_2 _ _) (fun obj => F.args_object_init_3 obj _ _) F.entry_zip_new (zip_made b l m xs ys) ⟨hl, hm, ?_⟩
  have z1 : (zH1 b s.heap l).objs.size = s.heap.objs.size + 1 := Heap.size_push ..
  have z2 : (zH2 b s.heap l m).objs.size = s.heap.objs.size + 2 := by rw [Heap.size_push, z1]
  have z3 : (zH3 b s.heap l m).objs.size = s.heap.objs.size + 3 := by rw [Heap.size_push, z2]
  have z4 : (zH4 b s.heap l m).objs.size = s.heap.objs.size + 4 := by rw [Heap.size_push, z3]
  have g5 : (zH5 b s.heap l m).get? (zH4 b s.heap l m).objs.size = some _ := Heap.get?_push_size _ rfl
  have g4 : (zH5 b s.heap l m).get? (zH3 b s.heap l m).objs.size = some _ := Heap.get?_push_of_some _ (Heap.get?_push_size _ rfl)
  have g3 : (zH5 b s.heap l m).get? (zH2 b s.heap l m).objs.size = some _ := Heap.get?_push_of_some _ (Heap.get?_push_of_some _ (Heap.get?_push_size _ rfl))
  have g2 : (zH5 b s.heap l m).get? (zH1 b s.heap l).objs.size = some (rowIter b m) := Heap.get?_push_of_some _ (Heap.get?_push_of_some _ (Heap.get?_push_of_some _ (Heap.get?_push_size _ rfl)))
  have g1 : (zH5 b s.heap l m).get? s.heap.objs.size = some (rowIter b l) := Heap.get?_push_of_some _ (Heap.get?_push_of_some _ (Heap.get?_push_of_some _ (Heap.get?_push_of_some _ (Heap.get?_push_size _ rfl))))
  show _ ∧ _
  rw [z2, z3, z4] at g5
  rw [z1, z2] at g3
  rw [z3] at g4
  rw [z1] at g2
  rw [z4]
  have r1 : RowIt b (zH5 b s.heap l m) s.heap.objs.size l 0 := by cases b <;> exact ⟨_, g1, rfl, rfl⟩
  have r2 : RowIt b (zH5 b s.heap l m) (s.heap.objs.size + 1) m 0 := by cases b <;> exact ⟨_, g2, rfl, rfl⟩
  exact ⟨⟨_, g5, rfl⟩, h _ g5 g3 g4 r1 r2 fun c o x => Heap.get?_push_of_some _ (Heap.get?_push_of_some _ (Heap.get?_push_of_some _ (Heap.get?_push_of_some _ (Heap.get?_push_of_some _ x))))⟩
end
def Sq (b : Bool) (K : PySem.W.Frag) (H : Hp) (a : Addr) (xs : List V) : Prop := match b with
  | true => SqT K H a xs
  | false => SqL K H a xs
section
variable {X : Cx} {pins : List (Addr × Obj)} {σ : St} {H : Hp} {s : Shared} {b : Bool} {a : Addr} {xs ys : List V}
theorem Inv.row (I : Inv X pins σ H s) (h : Sq b X.K H a xs) : ∃ its : List Value, Vals xs its ∧ RowAt b s.heap a its.toArray ∧ xs.length ≤ sizeLine := by
  cases b with
  | true =>
    obtain ⟨its, r, p, z⟩ := I.tuple h
    exact ⟨its, r, p, z⟩
  | false =>
    obtain ⟨its, r, p, z⟩ := I.list h
    exact ⟨its, r, p.isList, z⟩
theorem Inv.row_inj (I : Inv X pins σ H s) (h : Sq b X.K H a xs) (h' : Sq b X.K H a ys) : xs = ys := by
  cases b with
  | true => exact I.tuple_inj h h'
  | false => exact I.list_inj h h'
end
theorem Sq.there {b : Bool} {h : Heap} {l : Addr} {xs : Array Value} (x : RowAt b h l xs) : l < h.objs.size := by
  cases b with
  | true => obtain ⟨o, e, _⟩ := (show h.IsTuple l xs from x); exact Heap.lt_size e
  | false => obtain ⟨o, e, _⟩ := (show h.IsList l xs from x); exact Heap.lt_size e
def Itz (b : Bool) (K : PySem.W.Frag) (l m : Addr) : It :=
  ⟨fun i H => ∃ xs ys x y, Sq b K H l xs ∧ Sq b K H m ys ∧ xs[i]? = some x ∧ ys[i]? = some y,
   fun i H v H' => ∃ p x y, H p = none ∧ v = .ref p ∧ H' = upd H p (.tup [x, y]) ∧ (∀ xs, Sq b K H l xs → xs[i]? = some x) ∧ ∀ ys, Sq b K H m ys → ys[i]? = some y,
   fun i H => ∃ xs ys, Sq b K H l xs ∧ Sq b K H m ys ∧ (xs.length ≤ i ∨ ys.length ≤ i)⟩
theorem turn_zip {P : Program} {w : World} {K : PySem.W.Frag} {es : List Expr} {kk : Nat} {pos : Pos} {b : Bool} {z t o i j l m : Addr} (D : ZAp z t o i j l m) :
    Turn P w K (.Tuple es kk pos) (Itz b K l m) [z, t, o, i, j] z (fun n h => IsZip h z t o .none ∧ IsPair h t (.ref i) (.ref j) ∧ (∃ c d, IsPair h o c d) ∧ RowIt b h i l n ∧ RowIt b h j m n) where
  mem := by simp
  obj := fun n h ⟨hz, ht, ⟨c, d, ho⟩, hi, hj⟩ a ha => by
    simp only [List.mem_cons, List.not_mem_nil, or_false] at ha
    rcases ha with rfl | rfl | rfl | rfl | rfl
    · exact ⟨_, hz, fun v q => nomatch q⟩
    · exact ⟨_, ht, fun v q => nomatch q⟩
    · exact ⟨_, ho, fun v q => nomatch q⟩
    · exact hi.there
    · exact hj.there
  keep := fun n h h' ⟨hz, ht, ⟨c, d, ho⟩, hi, hj⟩ k => ⟨k z (by simp) _ hz, k t (by simp) _ ht, ⟨c, d, k o (by simp) _ ho⟩, hi.kept fun u e => k i (by simp) u e, hj.kept fun u e => k j (by simp) u e⟩
  item := by
    intro X hP hw hK hc n pins s σ H E I hf ⟨hz, ht, ⟨c, d, ho⟩, hi, hj⟩ hg
    subst hP hw hK
    obtain ⟨xs, ys, x, y, hl, hm, hx, hy⟩ := hg
    obtain ⟨us, ru, hl', hzl⟩ := I.row hl
    obtain ⟨vs, rv, hm', hzm⟩ := I.row hm
    obtain ⟨u, hu, r1⟩ := ru.get hx
    obtain ⟨v, hv, r2⟩ := rv.get hy
    refine zipNext D hz ht ho hi hj hl' hm' (x := u) (y := v) (by simpa using hu) (by simpa using hv) fun h' z' o' i' j' t' n' kp => ⟨_, rfl, ?_⟩
    refine wpAny_letOwnedTupleGo_zip (s := { s with heap := h' }) z' fun h'' z'' sb => ?_
    have fresh : H s.heap.objs.size = none := I.hok.fresh (Nat.le_refl _)
    have kp2 : ∀ a q, a ≠ z → a ≠ o → a ≠ i → a ≠ j → s.heap.get? a = some q → h''.get? a = some q := fun a q a1 a2 a3 a4 e => sb.extBut _ _ a1 (kp a q a1 a2 a3 a4 e)
    have hT : s.heap.objs.size ≠ z := Nat.ne_of_gt (Heap.lt_size hz)
    have pT : IsPair h'' s.heap.objs.size u v := sb.extBut _ _ hT t'
    have notin : ∀ a, a ∉ [z, o, i, j] → a ≠ z ∧ a ≠ o ∧ a ≠ i ∧ a ≠ j := fun a ha => by simpa using ha
    have fpn : ∀ a ∈ [z, o, i, j], H a = none := fun a ha => by
      simp only [List.mem_cons, List.not_mem_nil, or_false] at ha
      rcases ha with rfl | rfl | rfl | rfl
      · exact (hf _ (by simp)).1
      · exact (hf _ (by simp)).1
      · exact (hf _ (by simp)).1
      · exact (hf _ (by simp)).1
    have trk : ∀ a q, H a = some q → a ∉ [z, o, i, j] := fun a q e ha => by rw [fpn a ha] at e; cases e
    have hok : HOk X.prog X.w (upd H s.heap.objs.size (.tup [x, y])) h'' := fun a q e => by
      by_cases ha : a = s.heap.objs.size
      · subst ha
        rw [upd_same] at e
        cases e
        exact ⟨by show 2 ≤ sizeLine; decide, [u, v], .cons r1 (.cons r2 .nil), ⟨_, pT, rfl, _, rfl⟩⟩
      · rw [upd_ne ha] at e
        refine (I.hok a q e).stay (fun a' q' h1 h2 => ?_) (fun a' q' => by rw [upd_ne (ne_of_none q' fresh)]; exact q') fun a' xs' q' => by rw [upd_ne (ne_of_none q' fresh)]; exact q'
        have ni : a' ∉ [z, o, i, j] := by
          rcases h1 with rfl | h1
          · exact trk _ _ e
          · exact trk _ _ h1
        obtain ⟨n1, n2, n3, n4⟩ := notin a' ni
        exact kp2 a' q' n1 n2 n3 n4 h2
    have J : Inv X pins σ (upd H s.heap.objs.size (.tup [x, y])) { s with heap := h'' } := by
      refine I.step (g' := s.gens) (d' := s.drawn) (t' := s.toks) (ch := [z, o, i, j]) (fun a ha => ?_) (fun a q _ _ hc' e _ => ?_) (fun a q _ _ hc' e _ => ?_) (fun a q _ e n2 => ?_) (fun a q hc' e => ?_) (fun a xs' e => ?_) (fun a q u' e => ?_) (fun a ps e => ?_) (fun m' hm'' => ?_) hok I.bare
      · have ha' : a ∈ [z, t, o, i, j] := by
          simp only [List.mem_cons, List.not_mem_nil, or_false] at ha ⊢
          rcases ha with q | q | q | q
          · exact .inl q
          · exact .inr (.inr (.inl q))
          · exact .inr (.inr (.inr (.inl q)))
          · exact .inr (.inr (.inr (.inr q)))
        obtain ⟨_, f1, _, f3, f4, f5⟩ := hf a ha'
        exact ⟨f3, f1, f4, f5⟩
      · obtain ⟨n1, n2, n3, n4⟩ := notin a hc'
        exact kp2 a q n1 n2 n3 n4 e
      · obtain ⟨n1, n2, n3, n4⟩ := notin a hc'
        exact ⟨q.slots, kp2 a q n1 n2 n3 n4 e⟩
      · rw [upd_ne (Nat.ne_of_lt (Heap.lt_size e))]
        exact n2
      · obtain ⟨n1, n2, n3, n4⟩ := notin a hc'
        exact ⟨q, kp2 a q n1 n2 n3 n4 e⟩
      · rw [upd_ne (ne_of_none e fresh)]
        exact e
      · rw [upd_ne (ne_of_none e fresh)]
        exact e
      · exact ⟨#[], by rw [upd_ne (ne_of_none e fresh), e]; simp⟩
      · obtain ⟨ob, es', ep, e1, r⟩ := hm''
        have f1 : ∀ a' ∈ [z, t, o, i, j], a' ≠ X.env.locals := fun a' ha' => (hf a' ha').2.1
        exact ⟨ob, es', ep, kp2 _ _ (Ne.symm (f1 z (by simp))) (Ne.symm (f1 o (by simp))) (Ne.symm (f1 i (by simp))) (Ne.symm (f1 j (by simp))) e1, r⟩
    refine ⟨.ref s.heap.objs.size, _, J, rfl, ⟨s.heap.objs.size, x, y, fresh, rfl, rfl, fun xs' q => ?_, fun ys' q => ?_⟩, ⟨z'', ?_, ⟨_, _, sb.extBut _ _ D.oz o'⟩, i'.kept fun q e => sb.extBut _ q D.iz e, j'.kept fun q e => sb.extBut _ q D.jz e⟩, fun a ha => ?_⟩
    · rw [I.row_inj q hl]; exact hx
    · rw [I.row_inj q hm]; exact hy
    · exact kp2 t _ D.tz (Ne.symm D.ot) (Ne.symm D.it) (Ne.symm D.jt) ht
    · have : a ≠ s.heap.objs.size := by
        simp only [List.mem_cons, List.not_mem_nil, or_false] at ha
        rcases ha with rfl | rfl | rfl | rfl | rfl
        · exact Ne.symm hT
        · exact Nat.ne_of_lt (Heap.lt_size ht)
        · exact Nat.ne_of_lt (Heap.lt_size ho)
        · obtain ⟨q, e, _⟩ := hi.there; exact Nat.ne_of_lt (Heap.lt_size e)
        · obtain ⟨q, e, _⟩ := hj.there; exact Nat.ne_of_lt (Heap.lt_size e)
      rw [upd_ne this]
      exact (hf a ha).1
  done := by
    intro X hP hw hK hc n pins s σ H E I hf ⟨hz, ht, ⟨c, d, ho⟩, hi, hj⟩ hg
    subst hP hw hK
    obtain ⟨xs, ys, hl, hm, hend⟩ := hg
    obtain ⟨us, ru, hl', hzl⟩ := I.row hl
    obtain ⟨vs, rv, hm', hzm⟩ := I.row hm
    have e1 := ru.length
    have e2 := rv.length
    have hend' : us.toArray[n]? = none ∨ vs.toArray[n]? = none := by
      rcases hend with q | q
      · exact .inl (by simp; omega)
      · exact .inr (by simp; omega)
    refine zipStop (I.ok.hd hc) D hz ht ho hi hj hl' hm' hend' fun h' kp => ⟨rfl, ?_⟩
    have notin : ∀ a, a ∉ [z, o, i, j] → a ≠ z ∧ a ≠ o ∧ a ≠ i ∧ a ≠ j := fun a ha => by simpa using ha
    have fpn : ∀ a ∈ [z, o, i, j], FpOk X pins H a := fun a ha => hf a (by
      simp only [List.mem_cons, List.not_mem_nil, or_false] at ha ⊢
      rcases ha with q | q | q | q
      · exact .inl q
      · exact .inr (.inr (.inl q))
      · exact .inr (.inr (.inr (.inl q)))
      · exact .inr (.inr (.inr (.inr q))))
    have trk : ∀ a q, H a = some q → a ∉ [z, o, i, j] := fun a q e ha => by rw [(fpn a ha).1] at e; cases e
    have kp2 : ∀ a q, a ∉ [z, o, i, j] → s.heap.get? a = some q → h'.get? a = some q := fun a q ha e => by
      obtain ⟨n1, n2, n3, n4⟩ := notin a ha
      exact kp a q n1 n2 n3 n4 e
    refine I.step (g' := s.gens) (d' := s.drawn) (t' := s.toks) (ch := [z, o, i, j]) (fun a ha => ?_) (fun a q _ _ hc' e _ => kp2 a q hc' e) (fun a q _ _ hc' e _ => ⟨q.slots, kp2 a q hc' e⟩) (fun a q _ e n2 => n2) (fun a q hc' e => ⟨q, kp2 a q hc' e⟩) (fun a xs' e => e) (fun a q u' e => e) (fun a ps e => ⟨#[], by rw [e]; simp⟩) (fun m' hm'' => ?_) (fun a q e => ?_) I.bare
    · obtain ⟨_, f1, _, f3, f4, f5⟩ := fpn a ha
      exact ⟨f3, f1, f4, f5⟩
    · obtain ⟨ob, es', ep, e1, r⟩ := hm''
      exact ⟨ob, es', ep, kp2 _ _ (fun ha => (fpn _ ha).2.1 rfl) e1, r⟩
    · refine (I.hok a q e).stay (fun a' q' h1 h2 => kp2 a' q' ?_ h2) (fun _ q' => q') fun _ _ q' => q'
      rcases h1 with rfl | h1
      · exact trk _ _ e
      · exact trk _ _ h1
  self := fun _ _ _ _ _ st h => wpAny_pyIter_zip st.1 h
section
variable {X : Cx}
def iZip (b : Bool) (K : PySem.W.Frag) (ta : TA) : TI := fun σ H R => ta σ H fun vs H1 => ∃ l m xs ys, vs = [.ref l, .ref m] ∧ Sq b K H1 l xs ∧ Sq b K H1 m ys ∧ R (Itz b K l m) H1
theorem pi_zip {b : Bool} {es : List Expr} {kk : Nat} {tpos : Pos} {e1 e2 : Expr} {ta : TA} {p pos : Pos} (hg : Gl X "zip") (hm : X.mg "zip" = none) (ha : PA X [e1, e2] ta) (hs : starEach [e1, e2] X.env = [(false, eval e1 X.env), (false, eval e2 X.env)] := by rfl) (hs2 : starEach [e2] X.env = [(false, eval e2 X.env)] := by rfl) :
    PI X (.Tuple es kk tpos) (.Call (.Name "zip" p) [e1, e2] [] pos) (iZip b X.K ta) := by
  intro pins s σ H R I h
  refine Call_ (ld_blt I hg hm boot_zip (PyProof.Rows.callWith_type1 (thn (ha pos pins s σ H _ I h) fun us s1 ⟨vs, H1, I1, r1, q1⟩ => ?_) (by rw [hs, hs2]) (by rw [hs2]; rfl)))
  obtain ⟨l, m, xs, ys, e, hl, hm, q⟩ := q1
  subst e
  obtain ⟨u, u', rfl, ru, ru'⟩ := vals2 r1
  cases ru
  cases ru'
  obtain ⟨its, rv, hl', _⟩ := I1.row hl
  obtain ⟨its2, rv2, hm', _⟩ := I1.row hm
  refine call_zip_rows hl' hm' fun h' hz ht ho hi hj kp => wpAny_pyIter_zip hz ?_
  have ll := Sq.there hl'
  have lm := Sq.there hm'
  have N : ∀ n, l ≠ s1.heap.objs.size + n := fun n => Nat.ne_of_lt (Nat.lt_of_lt_of_le ll (Nat.le_add_right _ n))
  have M : ∀ n, m ≠ s1.heap.objs.size + n := fun n => Nat.ne_of_lt (Nat.lt_of_lt_of_le lm (Nat.le_add_right _ n))
  have L : ∀ n k, n < k → s1.heap.objs.size + n ≠ s1.heap.objs.size + k := fun n k q => Nat.ne_of_lt (Nat.add_lt_add_left q _)
  have G : ∀ n k, k < n → s1.heap.objs.size + n ≠ s1.heap.objs.size + k := fun n k q => Nat.ne_of_gt (Nat.add_lt_add_left q _)
  have D : ZAp (s1.heap.objs.size + 4) (s1.heap.objs.size + 2) (s1.heap.objs.size + 3) s1.heap.objs.size (s1.heap.objs.size + 1) l m :=
    ⟨L 2 4 (by decide), L 3 4 (by decide), L 0 4 (by decide), L 1 4 (by decide), G 3 2 (by decide), L 0 2 (by decide), L 1 2 (by decide), L 0 3 (by decide), L 1 3 (by decide), L 0 1 (by decide), N 4, N 3, N 0, N 1, M 4, M 3, M 0, M 1⟩
  have fr : ∀ n, FpOk X pins H1 (s1.heap.objs.size + n) := fun n => I1.fpOk (Nat.le_add_right _ n) (I1.hok.fresh (Nat.le_add_right _ n))
  refine ⟨s1.heap.objs.size + 4, [s1.heap.objs.size + 4, s1.heap.objs.size + 2, s1.heap.objs.size + 3, s1.heap.objs.size, s1.heap.objs.size + 1], _, _, H1, rfl, I1.kept (t' := s1.toks) kp, turn_zip (b := b) D, ⟨hz, ht, ⟨_, _, ho⟩, hi, hj⟩, fun a ha => ?_, q⟩
  simp only [List.mem_cons, List.not_mem_nil, or_false] at ha
  rcases ha with rfl | rfl | rfl | rfl | rfl
  · exact fr 4
  · exact fr 2
  · exact fr 3
  · exact fr 0
  · exact fr 1
end
end L2
namespace L2
open PySem
section
variable {prog : Program} {w : World} {A : Around} {E : Value → Shared → Prop} {s : Shared} {a I : Addr} {o : Obj} {es : Array (Int × Value)} {ep : Nat} {t : SetTable}
theorem stop_tail {α : Type} {h1 : Heap} {Q : Option Value → Shared → Prop} (hh : A.handled = none) (hQ : ∀ h', (∀ b ob, h1.get? b = some ob → h'.get? b = some ob) → Q none { s with heap := h' }) :
    wpAny (model prog w) A.in1 (newExc (.type "StopIteration") [] >>= fun e => (raiseNew e : Sem α)) (fun _ _ => False)
      (fun e s' => wpAny (model prog w) A (do if ← isInstance e (.type "StopIteration") then pure none else throw e) Q E s') { s with heap := h1 } := by
  refine wpAny_bind ?_
  simp only [newExc, newTuple]
  refine wpAny_bind (wpAny_newObj_type ?_ (by size_fits))
  refine wpAny_bind (m := firstArgMember _ _) (wpAny_of_eq (a := Value.none) (by first | rfl | (simp only [firstArgMember]; rfl)) ?_)
  refine wpAny_newObj_type ?_ (by size_fits)
  simp only [raiseNew]
  refine wpAny_bind (wpAny_handled ?_)
  rw [show A.in1.handled = none from hh]
  refine wpAny_bind (wpAny_pure (wpAny_throw ?_))
  refine wpAny_bind (wpAny_isInstance (T := "StopIteration") (b := true) ⟨_, Heap.get?_push_size _ rfl, rfl⟩ isSubtype_stop ?_)
  exact wpAny_pure (hQ _ fun b ob e => Heap.get?_push_of_some _ (Heap.get?_push_of_some _ e))
end
end L2
namespace L2
open PySem PySem.W PyProof.Rows
def ev {α : Type} (lt : Nat → Nat → Bool) : KasT α → α
  | .ret a => a
  | .ask i j k => ev lt (k (lt i j))
theorem ev_bind {α β : Type} (lt : Nat → Nat → Bool) (f : α → KasT β) : ∀ t : KasT α, ev lt (t.bind f) = ev lt (f (ev lt t))
  | .ret _ => rfl
  | .ask i j k => ev_bind lt f (k (lt i j))
section
variable {r : Nat → Int}
abbrev ltR (r : Nat → Int) : Nat → Nat → Bool := fun i j => decide (r i < r j)
abbrev ky (r : Nat → Int) (p : Array Nat) (k : Nat) : Int := r (p.getD k 0)
theorem ev_ask {α : Type} (lt : Nat → Nat → Bool) (i j : Nat) (k : Bool → KasT α) : ev lt (.ask i j k) = ev lt (k (lt i j)) := rfl
theorem ltR_t {i j : Nat} (c : r i < r j) : ltR r i j = true := decide_eq_true c
theorem ltR_f {i j : Nat} (c : ¬ r i < r j) : ltR r i j = false := decide_eq_false c
def Up (r : Nat → Int) (p : Array Nat) (b : Nat) : Prop := ∀ i, 0 < i → i < b → ky r p (i - 1) ≤ ky r p i
def Dn (r : Nat → Int) (p : Array Nat) (b : Nat) : Prop := ∀ i, 0 < i → i < b → ky r p i ≤ ky r p (i - 1)
def Eqs (r : Nat → Int) (p : Array Nat) (a b : Nat) : Prop := ∀ i, a < i → i < b → ky r p i = ky r p (i - 1)
theorem Up.mono {p : Array Nat} {b : Nat} (h : Up r p b) : ∀ i j, i ≤ j → j < b → ky r p i ≤ ky r p j := by
  intro i j hij hj
  induction j with
  | zero =>
    have : i = 0 := by omega
    subst this; exact Int.le_refl _
  | succ j ih =>
    rcases Nat.lt_or_eq_of_le hij with q | q
    · exact Int.le_trans (ih (by omega) (by omega)) (h (j + 1) (by omega) hj)
    · rw [q]; exact Int.le_refl _
theorem Dn.mono {p : Array Nat} {b : Nat} (h : Dn r p b) : ∀ i j, i ≤ j → j < b → ky r p j ≤ ky r p i := by
  intro i j hij hj
  induction j with
  | zero =>
    have : i = 0 := by omega
    subst this; exact Int.le_refl _
  | succ j ih =>
    rcases Nat.lt_or_eq_of_le hij with q | q
    · exact Int.le_trans (h (j + 1) (by omega) hj) (ih (by omega) (by omega))
    · rw [q]; exact Int.le_refl _
theorem Eqs.all {p : Array Nat} {a b : Nat} (h : Eqs r p a b) : ∀ i, a ≤ i → i < b → ky r p i = ky r p a := by
  intro i hi hb
  induction i with
  | zero =>
    have : a = 0 := by omega
    subst this; rfl
  | succ i ih =>
    rcases Nat.lt_or_eq_of_le hi with q | q
    · rw [h (i + 1) q hb]; exact ih (by omega) (by omega)
    · rw [q]
theorem getD_rev {p : Array Nat} {i j : Nat} (hj : j ≤ p.size) (k : Nat) : (kas_rev p i j).getD k 0 = if i ≤ k ∧ k < j then p.getD (i + j - 1 - k) 0 else p.getD k 0 := by
  unfold kas_rev
  have e := getElem?_mirror (xs := p) (i := i) hj ((j - i) / 2) (by omega) k
  rw [Array.getD_eq_getD_getElem?, e]
  by_cases c : i ≤ k ∧ k < j
  · rw [if_pos c]
    by_cases d : i ≤ k ∧ k < i + (j - i) / 2 ∨ j - (j - i) / 2 ≤ k ∧ k < j
    · rw [if_pos d, Array.getD_eq_getD_getElem?]
    · rw [if_neg d]
      have : i + j - 1 - k = k := by omega
      rw [this, Array.getD_eq_getD_getElem?]
  · rw [if_neg c, if_neg (by omega), Array.getD_eq_getD_getElem?]
theorem rev_eqs {p : Array Nat} {i j : Nat} (hj : j ≤ p.size) (h : Eqs r p i j) (k : Nat) : ky r (kas_rev p i j) k = ky r p k := by
  show r _ = r _
  rw [getD_rev hj]
  by_cases c : i ≤ k ∧ k < j
  · rw [if_pos c]
    have e1 : ky r p (i + j - 1 - k) = ky r p i := h.all _ (by omega) (by omega)
    have e2 : ky r p k = ky r p i := h.all _ c.1 c.2
    exact e1.trans e2.symm
  · rw [if_neg c]
theorem rev_size (p : Array Nat) (i j : Nat) : (kas_rev p i j).size = p.size := mirror_size _ _ _ _
theorem rev_perm (p : Array Nat) (i j : Nat) : (kas_rev p i j).Perm p := mirror_perm _ _ _ _
theorem ev_asc (p : Array Nat) : ∀ f n, 1 ≤ n → Up r p n → n ≤ ev (ltR r) (kas_asc p f n) ∧ ev (ltR r) (kas_asc p f n) ≤ n + f ∧ Up r p (ev (ltR r) (kas_asc p f n)) ∧
    (ev (ltR r) (kas_asc p f n) < n + f → ky r p (ev (ltR r) (kas_asc p f n)) < ky r p (ev (ltR r) (kas_asc p f n) - 1)) := by
  intro f
  induction f with
  | zero => intro n h1 h; exact ⟨Nat.le_refl _, Nat.le_refl _, h, fun q => absurd q (Nat.lt_irrefl _)⟩
  | succ f ih =>
    intro n h1 h
    unfold kas_asc
    rw [ev_ask]
    by_cases c : r (p.getD n 0) < r (p.getD (n - 1) 0)
    · rw [ltR_t c, if_pos rfl]
      exact ⟨Nat.le_refl _, by show n ≤ n + (f + 1); omega, h, fun _ => c⟩
    · rw [ltR_f c, if_neg (by simp)]
      obtain ⟨q1, q2, q3, q4⟩ := ih (n + 1) (by omega) (fun i hi hb => by
        rcases Nat.lt_or_eq_of_le (Nat.le_of_lt_succ hb) with z | z
        · exact h i hi z
        · subst z; exact Int.not_lt.mp c)
      exact ⟨by omega, by omega, q3, fun z => q4 (by omega)⟩
theorem ev_desc : ∀ (f : Nat) (p : Array Nat) (n q : Nat), q < n → n + f ≤ p.size → Dn r p n → Eqs r p (n - (q + 1)) n →
    ∃ p' n' q', ev (ltR r) (kas_desc f p n q) = (p', n', q') ∧ q' < n' ∧ n ≤ n' ∧ n' ≤ n + f ∧ p'.size = p.size ∧ p'.Perm p ∧ Dn r p' n' ∧ Eqs r p' (n' - (q' + 1)) n' := by
  intro f
  induction f with
  | zero => intro p n q hq hz hd he; exact ⟨p, n, q, rfl, hq, Nat.le_refl _, Nat.le_refl _, rfl, Array.Perm.refl _, hd, he⟩
  | succ f ih =>
    intro p n q hq hz hd he
    unfold kas_desc
    rw [ev_ask]
    by_cases c : r (p.getD n 0) < r (p.getD (n - 1) 0)
    · rw [ltR_t c, if_pos rfl]
      have step : ∀ p1 : Array Nat, p1.size = p.size → p1.Perm p → (∀ k, ky r p1 k = ky r p k) → ∃ p' n' q', ev (ltR r) (kas_desc f p1 (n + 1) 0) = (p', n', q') ∧ q' < n' ∧ n ≤ n' ∧ n' ≤ n + (f + 1) ∧ p'.size = p.size ∧ p'.Perm p ∧ Dn r p' n' ∧ Eqs r p' (n' - (q' + 1)) n' := fun p1 s1 pm hk => by
        obtain ⟨p', n', q', e, a1, a2, a3, a4, a5, a6, a7⟩ := ih p1 (n + 1) 0 (by omega) (by omega) (fun i hi hb => by
          rw [hk, hk]
          rcases Nat.lt_or_eq_of_le (Nat.le_of_lt_succ hb) with z | z
          · exact hd i hi z
          · subst z; exact Int.le_of_lt c) (fun i hi hb => by omega)
        exact ⟨p', n', q', e, a1, by omega, by omega, a4.trans s1, a5.trans pm, a6, a7⟩
      by_cases cq : q > 0
      · rw [if_pos cq]
        exact step _ (rev_size _ _ _) (rev_perm _ _ _) (rev_eqs (by omega) he)
      · rw [if_neg cq]
        exact step p rfl (Array.Perm.refl _) fun _ => rfl
    · rw [ltR_f c, if_neg (by simp)]
      rw [ev_ask]
      by_cases d : r (p.getD (n - 1) 0) < r (p.getD n 0)
      · rw [ltR_t d, if_pos rfl]
        exact ⟨p, n, q, rfl, hq, Nat.le_refl _, by omega, rfl, Array.Perm.refl _, hd, he⟩
      · rw [ltR_f d, if_neg (by simp)]
        have eqn : ky r p n = ky r p (n - 1) := Int.le_antisymm (Int.not_lt.mp d) (Int.not_lt.mp c)
        obtain ⟨p', n', q', e, a1, a2, a3, a4, a5, a6, a7⟩ := ih p (n + 1) (q + 1) (by omega) (by omega) (fun i hi hb => by
          rcases Nat.lt_or_eq_of_le (Nat.le_of_lt_succ hb) with z | z
          · exact hd i hi z
          · subst z; exact Int.le_of_eq eqn) (fun i hi hb => by
          rcases Nat.lt_or_eq_of_le (Nat.le_of_lt_succ hb) with z | z
          · exact he i (by omega) z
          · subst z; exact eqn)
        exact ⟨p', n', q', e, a1, by omega, by omega, a4, a5, a6, a7⟩
def Run (r : Nat → Int) (p : Array Nat) (nrem : Nat) (x : Nat × Array Nat) : Prop := x.1 ≤ nrem ∧ 1 ≤ x.1 ∧ x.2.size = p.size ∧ x.2.Perm p ∧ Up r x.2 x.1
theorem ev_tail3 {p : Array Nat} {n nrem : Nat} (h1 : 1 ≤ n) (hn : n ≤ nrem) (hz : nrem ≤ p.size) (hd : Dn r p n) : Run r p nrem (ev (ltR r) (kas_tail3 n nrem p)) := by
  unfold kas_tail3
  rw [ev_bind]
  have hu : Up r (kas_rev p 0 n) n := fun i hi hb => by
    show r _ ≤ r _
    rw [getD_rev (by omega), getD_rev (by omega), if_pos (by omega), if_pos (by omega)]
    exact hd.mono (0 + n - 1 - i) (0 + n - 1 - (i - 1)) (by omega) (by omega)
  obtain ⟨a1, a2, a3, _⟩ := ev_asc (kas_rev p 0 n) (nrem - n) n h1 hu
  exact ⟨by show ev (ltR r) _ ≤ _; omega, by show 1 ≤ ev (ltR r) _; omega, rev_size _ _ _, rev_perm _ _ _, a3⟩
theorem Run.of {p p1 : Array Nat} {nrem : Nat} {x : Nat × Array Nat} (h : Run r p1 nrem x) (s : p1.size = p.size) (m : p1.Perm p) : Run r p nrem x := ⟨h.1, h.2.1, h.2.2.1.trans s, h.2.2.2.1.trans m, h.2.2.2.2⟩
theorem ev_descPart {p : Array Nat} {n nrem : Nat} (hn : n + 1 ≤ nrem) (hz : nrem ≤ p.size) (hd : Dn r p (n + 1)) : Run r p nrem (ev (ltR r) (kas_descPart n nrem p)) := by
  unfold kas_descPart
  rw [ev_bind]
  obtain ⟨p', n', q', e, a1, a2, a3, a4, a5, a6, a7⟩ := ev_desc (nrem - (n + 1)) p (n + 1) 0 (by omega) (by omega) hd (fun i hi hb => by omega)
  rw [e]
  dsimp only
  by_cases c : q' > 0
  · rw [if_pos c]
    have k := rev_eqs (r := r) (by omega) a7
    exact (ev_tail3 (p := kas_rev p' (n' - (q' + 1)) n') (by omega) (by omega) (by rw [rev_size]; omega) (fun i hi hb => by rw [k, k]; exact a6 i hi hb)).of ((rev_size _ _ _).trans a4) ((rev_perm _ _ _).trans a5)
  · rw [if_neg c]
    exact (ev_tail3 (p := p') (by omega) (by omega) (by omega) a6).of a4 a5
theorem ev_count {p : Array Nat} {nrem : Nat} (h1 : 1 ≤ nrem) (hz : nrem ≤ p.size) : Run r p nrem (ev (ltR r) (kas_count nrem p)) := by
  unfold kas_count
  rw [ev_bind]
  obtain ⟨a1, a2, a3, a4⟩ := ev_asc (r := r) p (nrem - 1) 1 (Nat.le_refl _) (fun i hi hb => by omega)
  generalize ev (ltR r) (kas_asc p (nrem - 1) 1) = n at *
  by_cases c : (n == nrem) = true
  · rw [if_pos c]
    exact ⟨by show n ≤ nrem; omega, a1, rfl, Array.Perm.refl _, a3⟩
  · rw [if_neg c]
    have hne : n ≠ nrem := by simpa using c
    have stop := a4 (by omega)
    by_cases c2 : n > 1
    · rw [if_pos c2]
      rw [ev_ask]
      by_cases d : r (p.getD 0 0) < r (p.getD (n - 1) 0)
      · rw [ltR_t d, if_pos rfl]
        exact ⟨by show n ≤ nrem; omega, a1, rfl, Array.Perm.refl _, a3⟩
      · rw [ltR_f d, if_neg (by simp)]
        have eqs : Eqs r p 0 n := fun i hi hb => by
          have q1 := a3.mono 0 (i - 1) (by omega) (by omega)
          have q2 := a3.mono (i - 1) i (by omega) hb
          have q3 := a3.mono i (n - 1) (by omega) (by omega)
          have q4 : ky r p (n - 1) ≤ ky r p 0 := Int.not_lt.mp d
          omega
        have k := rev_eqs (r := r) (by omega) eqs
        refine (ev_descPart (p := kas_rev p 0 n) (by omega) (by rw [rev_size]; exact hz) (fun i hi hb => ?_)).of (rev_size _ _ _) (rev_perm _ _ _)
        rw [k, k]
        rcases Nat.lt_or_eq_of_le (Nat.le_of_lt_succ hb) with z | z
        · exact Int.le_of_eq (eqs i hi z)
        · subst z; exact Int.le_of_lt stop
    · rw [if_neg c2]
      obtain rfl : n = 1 := by omega
      exact ev_descPart (by omega) hz (fun i hi hb => by
        obtain rfl : i = 1 := by omega
        exact Int.le_of_lt stop)
theorem ev_place {p : Array Nat} {k : Nat} (hu : Up r p k) : ∀ f l m, m - l ≤ f → l ≤ m → m ≤ k → (∀ i, i < l → ky r p i ≤ ky r p k) → (∀ i, m ≤ i → i < k → ky r p k < ky r p i) →
    ev (ltR r) (kas_place p k f l m) ≤ k ∧ (∀ i, i < ev (ltR r) (kas_place p k f l m) → ky r p i ≤ ky r p k) ∧ ∀ i, ev (ltR r) (kas_place p k f l m) ≤ i → i < k → ky r p k < ky r p i := by
  intro f
  induction f with
  | zero =>
    intro l m h1 h2 h3 h4 h5
    obtain rfl : l = m := by omega
    exact ⟨h3, h4, h5⟩
  | succ f ih =>
    intro l m h1 h2 h3 h4 h5
    unfold kas_place
    by_cases c : l ≥ m
    · rw [if_pos c]
      obtain rfl : l = m := by omega
      exact ⟨h3, h4, h5⟩
    · rw [if_neg c]
      rw [ev_ask]
      by_cases d : r (p.getD k 0) < r (p.getD ((l + m) / 2) 0)
      · rw [ltR_t d, if_pos rfl]
        refine ih l ((l + m) / 2) (by omega) (by omega) (by omega) h4 (fun i hi hb => ?_)
        exact Int.lt_of_lt_of_le d (hu.mono _ i hi hb)
      · rw [ltR_f d, if_neg (by simp)]
        refine ih ((l + m) / 2 + 1) m (by omega) (by omega) h3 (fun i hi => ?_) h5
        exact Int.le_trans (hu.mono i ((l + m) / 2) (by omega) (by omega)) (Int.not_lt.mp d)
theorem getD_bubble {p : Array Nat} {k l : Nat} (hk : k < p.size) (hl : l ≤ k) (i : Nat) : (bubble p k (k - l)).getD i 0 = if i = l then p.getD k 0 else if l < i ∧ i ≤ k then p.getD (i - 1) 0 else p.getD i 0 := by
  have e := getElem?_bubble hk (k - l) (by omega) i
  rw [show k - (k - l) = l by omega] at e
  rw [Array.getD_eq_getD_getElem?, e]
  by_cases c1 : i = l
  · rw [if_pos c1, if_pos c1, Array.getD_eq_getD_getElem?]
  · rw [if_neg c1, if_neg c1]
    by_cases c2 : l < i ∧ i ≤ k
    · rw [if_pos c2, if_pos c2, Array.getD_eq_getD_getElem?]
    · rw [if_neg c2, if_neg c2, Array.getD_eq_getD_getElem?]
theorem ev_bin : ∀ (f : Nat) (p : Array Nat) (k : Nat), k + f ≤ p.size → Up r p k → (ev (ltR r) (kas_bin f p k)).Perm p ∧ Up r (ev (ltR r) (kas_bin f p k)) (k + f) := by
  intro f
  induction f with
  | zero => intro p k hz hu; exact ⟨Array.Perm.refl _, hu⟩
  | succ f ih =>
    intro p k hz hu
    unfold kas_bin
    rw [ev_bind]
    obtain ⟨b1, b2, b3⟩ := ev_place hu k 0 k (by omega) (by omega) (Nat.le_refl _) (fun i hi => absurd hi (by omega)) (fun i hi hb => absurd hb (by omega))
    generalize ev (ltR r) (kas_place p k k 0 k) = l at *
    have hk : k < p.size := by omega
    obtain ⟨c1, c2⟩ := ih (bubble p k (k - l)) (k + 1) (by rw [bubble_size]; omega) (fun i hi hb => by
      show r _ ≤ r _
      rw [getD_bubble hk b1, getD_bubble hk b1]
      by_cases e1 : i - 1 = l
      · rw [if_pos e1, if_neg (show ¬ i = l by omega), if_pos (by omega)]
        have := b3 (i - 1) (by omega) (by omega)
        exact Int.le_of_lt this
      · rw [if_neg e1]
        by_cases e2 : i = l
        · rw [if_pos e2, if_neg (by omega)]
          exact b2 (i - 1) (by omega)
        · rw [if_neg e2]
          by_cases e3 : l < i
          · rw [if_pos (by omega), if_pos (by omega)]
            exact hu (i - 1) (by omega) (by omega)
          · rw [if_neg (by omega), if_neg (by omega)]
            exact hu i hi (by omega))
    exact ⟨c1.trans (bubble_perm _ _ _), by rw [show k + (f + 1) = k + 1 + f by omega]; exact c2⟩
theorem ev_sort {n : Nat} (hn : 1 ≤ n) : (ev (ltR r) (kas_sort n)).Perm (List.range n).toArray ∧ Up r (ev (ltR r) (kas_sort n)) n := by
  unfold kas_sort
  rw [ev_bind]
  obtain ⟨h1, h2, h3, h4, h5⟩ := ev_count (r := r) (p := (List.range n).toArray) (nrem := n) hn (by simp)
  generalize ev (ltR r) (kas_count n (List.range n).toArray) = x at *
  have hs : x.2.size = n := by rw [h3]; simp
  by_cases c : x.1 < n
  · rw [if_pos c]
    have hm : max x.1 1 = x.1 := by omega
    rw [hm]
    obtain ⟨c1, c2⟩ := ev_bin (r := r) (n - x.1) x.2 x.1 (by omega) h5
    rw [show x.1 + (n - x.1) = n by omega] at c2
    exact ⟨c1.trans h4, c2⟩
  · rw [if_neg c]
    have : x.1 = n := by omega
    rw [this] at h5
    exact ⟨h4, h5⟩
def Asks {α : Type} (lt : Nat → Nat → Bool) (n : Nat) : KasT α → Prop
  | .ret _ => True
  | .ask i j k => i < n ∧ j < n ∧ Asks lt n (k (lt i j))
theorem Asks.bind {α β : Type} {lt : Nat → Nat → Bool} {n : Nat} {f : α → KasT β} : ∀ {t : KasT α}, Asks lt n t → Asks lt n (f (ev lt t)) → Asks lt n (t.bind f)
  | .ret _, _, h => h
  | .ask i j k, h, h' => ⟨h.1, h.2.1, Asks.bind (t := k (lt i j)) h.2.2 h'⟩
def InN (n : Nat) (p : Array Nat) : Prop := 0 < n ∧ ∀ x ∈ p.toList, x < n
theorem InN.at {n : Nat} {p : Array Nat} (h : InN n p) (k : Nat) : p.getD k 0 < n := by
  rw [Array.getD_eq_getD_getElem?]
  cases e : p[k]? with
  | none => exact h.1
  | some x => exact h.2 x (by rw [Array.mem_toList_iff]; exact Array.mem_of_getElem? e)
theorem InN.perm {n : Nat} {p p' : Array Nat} (h : InN n p) (m : p'.Perm p) : InN n p' := ⟨h.1, fun x hx => h.2 x (by
  rw [Array.mem_toList_iff] at hx ⊢
  exact (Array.Perm.mem_iff m).mp hx)⟩
variable {n₀ : Nat}
theorem asks_asc {p : Array Nat} (h : InN n₀ p) : ∀ f n, Asks (ltR r) n₀ (kas_asc p f n)
  | 0, _ => True.intro
  | f + 1, n => by
    unfold kas_asc
    refine ⟨h.at _, h.at _, ?_⟩
    dsimp only
    split
    · exact True.intro
    · exact asks_asc h f (n + 1)
theorem asks_desc : ∀ (f : Nat) {p : Array Nat} (n q : Nat), InN n₀ p → Asks (ltR r) n₀ (kas_desc f p n q)
  | 0, _, _, _, _ => True.intro
  | f + 1, p, n, q, h => by
    unfold kas_desc
    refine ⟨h.at _, h.at _, ?_⟩
    dsimp only
    split
    · split
      · exact asks_desc f _ _ (h.perm (rev_perm _ _ _))
      · exact asks_desc f _ _ h
    · refine ⟨h.at _, h.at _, ?_⟩
      dsimp only
      split
      · exact True.intro
      · exact asks_desc f _ _ h
theorem desc_perm : ∀ (f : Nat) (p : Array Nat) (n q : Nat), (ev (ltR r) (kas_desc f p n q)).1.Perm p
  | 0, p, _, _ => Array.Perm.refl _
  | f + 1, p, n, q => by
    unfold kas_desc
    rw [ev_ask]
    split
    · split
      · exact (desc_perm f _ _ _).trans (rev_perm _ _ _)
      · exact desc_perm f _ _ _
    · rw [ev_ask]
      split
      · exact Array.Perm.refl _
      · exact desc_perm f _ _ _
theorem asks_tail3 {p : Array Nat} (n nrem : Nat) (h : InN n₀ p) : Asks (ltR r) n₀ (kas_tail3 n nrem p) := (asks_asc (h.perm (rev_perm _ _ _)) _ _).bind True.intro
theorem asks_descPart {p : Array Nat} (n nrem : Nat) (h : InN n₀ p) : Asks (ltR r) n₀ (kas_descPart n nrem p) := by
  refine (asks_desc _ _ _ h).bind ?_
  have pm := desc_perm (r := r) (nrem - (n + 1)) p (n + 1) 0
  split
  · exact asks_tail3 _ _ ((h.perm pm).perm (rev_perm _ _ _))
  · exact asks_tail3 _ _ (h.perm pm)
theorem asks_count {p : Array Nat} (nrem : Nat) (h : InN n₀ p) : Asks (ltR r) n₀ (kas_count nrem p) := by
  refine (asks_asc h _ _).bind ?_
  split
  · exact True.intro
  · split
    · refine ⟨h.at _, h.at _, ?_⟩
      dsimp only
      split
      · exact True.intro
      · exact asks_descPart _ _ (h.perm (rev_perm _ _ _))
    · exact asks_descPart _ _ h
theorem asks_place {p : Array Nat} {k : Nat} (h : InN n₀ p) : ∀ f l m, Asks (ltR r) n₀ (kas_place p k f l m)
  | 0, _, _ => True.intro
  | f + 1, l, m => by
    unfold kas_place
    split
    · exact True.intro
    · refine ⟨h.at _, h.at _, ?_⟩
      dsimp only
      split
      · exact asks_place h f _ _
      · exact asks_place h f _ _
theorem asks_bin : ∀ (f : Nat) {p : Array Nat} (k : Nat), InN n₀ p → Asks (ltR r) n₀ (kas_bin f p k)
  | 0, _, _, _ => True.intro
  | f + 1, p, k, h => (asks_place h _ _ _).bind (asks_bin f _ (h.perm (bubble_perm _ _ _)))
theorem asks_sort {n : Nat} (hn : 1 ≤ n) : Asks (ltR r) n (kas_sort n) := by
  have h : InN n (List.range n).toArray := ⟨hn, fun x hx => by simpa using hx⟩
  refine (asks_count n h).bind ?_
  obtain ⟨h1, h2, h3, h4, h5⟩ := ev_count (r := r) (p := (List.range n).toArray) (nrem := n) hn (by simp)
  split
  · exact asks_bin _ _ (h.perm h4)
  · exact True.intro
theorem wp_ev {cmp : Nat → Nat → (Bool → Shared → Prop) → Shared → Prop} {J : Shared → Prop} {n : Nat} {lt : Nat → Nat → Bool} {α : Type} (hc : ∀ i j C s, i < n → j < n → J s → (∀ s', J s' → C (lt i j) s') → cmp i j C s) :
    ∀ (t : KasT α) (s : Shared) (Q : α → Shared → Prop), Asks lt n t → J s → (∀ s', J s' → Q (ev lt t) s') → t.kasWp cmp Q s
  | .ret a, s, Q, _, hJ, h => h s hJ
  | .ask i j k, s, Q, ha, hJ, h => hc i j _ s ha.1 ha.2.1 hJ fun s' hJ' => wp_ev hc (k (lt i j)) s' Q ha.2.2 hJ' h
theorem sort_out {α : Type} {xs : List α} {r : Nat → Int} {p : Array Nat} (hp : p.Perm (List.range xs.length).toArray) (hu : Up r p xs.length) (d : α) (key : α → Int) (hk : ∀ i, i < xs.length → r i = key (xs.getD i d)) :
    (p.toList.map fun i => xs.getD i d).Perm xs ∧ (p.toList.map fun i => xs.getD i d).Pairwise (fun a b => key a ≤ key b) := by
  have hpl : p.toList.Perm (List.range xs.length) := by simpa using Array.perm_iff_toList_perm.mp hp
  have hlen : p.toList.length = xs.length := by simpa using hpl.length_eq
  constructor
  · refine (hpl.map _).trans ?_
    have : (List.range xs.length).map (fun i => xs.getD i d) = xs := by
      apply List.ext_getElem
      · simp
      · intro i h1 h2
        simp [List.getD, h2]
    rw [this]
  · rw [List.pairwise_iff_getElem]
    intro i j hi hj hij
    rw [List.length_map] at hi hj
    rw [List.getElem_map, List.getElem_map]
    have m : ∀ k (hk : k < p.toList.length), p.toList[k] < xs.length := fun k hk => by
      have := hpl.mem_iff.mp (List.getElem_mem hk)
      simpa using this
    rw [← hk _ (m i hi), ← hk _ (m j hj)]
    have q := hu.mono i j (by omega) (by omega)
    have e : ∀ k (hk : k < p.toList.length), p.getD k 0 = p.toList[k] := fun k hk => by
      have hk' : k < p.size := by simpa using hk
      simp [Array.getD, hk']
    rw [ky, ky, e i hi, e j hj] at q
    exact q
end
end L2
namespace L2
open PySem PySem.Spec PyProof.Rows
section
variable {X : Cx}
variable {δ : Type} [DecidableEq δ] {n : Nat} {R : Hp → V → δ → Prop}
theorem paired_at {α β : Type} {Rl : α → β → Prop} {xs : List α} {ds : List β} (h : Paired Rl xs ds) : ∀ (i : Nat) (x : α), xs[i]? = some x → ∃ d, ds[i]? = some d ∧ Rl x d := by
  induction h with
  | nil => intro i x h; simp at h
  | cons r t ih =>
    intro i x h
    cases i with
    | zero => simp at h; subst h; exact ⟨_, rfl, r⟩
    | succ i => exact ih i x h
end
end L2
namespace L2
open PySem PySem.Spec PyProof.Rows PySem.W
def lexD : List V → List V → Option Bool
  | [], [] => some false
  | [], _ :: _ => some true
  | _ :: _, [] => some false
  | .int a :: r, .int b :: r' => if a = b then lexD r r' else some (decide (a < b))
  | .ref a :: r, .ref b :: r' => if a = b then lexD r r' else none
  | _, _ => none
section
variable {prog : Program} {w : World} {A : Around} {E : Value → Shared → Prop} {s : Shared}
theorem lt_int2 {a b : Int} {t u : Tok} {k : Bool} {Q : Bool → Shared → Prop} (h : Q (decide (a < b)) s) : wpAny (model prog w) A (oneLt' k (.int a t) (.int b u)) Q E s := by
  cases k with
  | true => exact oneLt_int h
  | false => exact kat_one _ _ (lt_int (show PySem.W.BoolBack Q (.bool (decide (a < b))) s from h))
theorem kat_lexD {b fin : Bool} {Q : Bool → Shared → Prop} : ∀ (xs ys : List V) (us vs : List Value) (i : Nat) (c : Bool), Vals xs us → Vals ys vs → lexD xs ys = some c → fin = decide (us.length < vs.length) → Q c s → KatLex prog w A b fin Q (us.zip vs) i s := by
  intro xs
  induction xs with
  | nil =>
    intro ys us vs i c hx hy h hf q
    cases hx
    cases hy with
    | nil =>
      cases (show some false = some c from h)
      refine kat_nil ?_
      rw [hf]; exact q
    | cons _ _ =>
      cases (show some true = some c from h)
      refine kat_nil ?_
      rw [hf, decide_eq_true (by simp)]; exact q
  | cons x xs ih =>
    intro ys us vs i c hx hy h hf q
    cases hx with
    | @cons _ u _ us rx tx =>
    cases hy with
    | nil =>
      cases (show some false = some c by cases x <;> exact h)
      refine kat_nil ?_
      rw [hf, decide_eq_false (by simp)]; exact q
    | @cons y v ys vs ry ty =>
      rw [List.length_cons, List.length_cons] at hf
      have hf' : fin = decide (us.length < vs.length) := hf.trans (by rw [Bool.eq_iff_iff, decide_eq_true_iff, decide_eq_true_iff]; omega)
      rw [List.zip_cons_cons]
      cases x with
      | int m =>
        cases y with
        | int k =>
          obtain ⟨t, rfl⟩ := rx
          obtain ⟨t', rfl⟩ := ry
          refine kat_cons (wpAny_eqBool_int ?_)
          replace h : (if m = k then lexD xs ys else some (decide (m < k))) = some c := h
          by_cases e : m = k
          · rw [show (m == k) = true by simpa using e]
            rw [if_pos e] at h
            exact kat_yes (ih ys _ vs (i + 1) c tx ty h hf' q)
          · rw [show (m == k) = false by simpa using e]
            rw [if_neg e] at h
            cases h
            exact kat_no (lt_int2 q)
        | _ => cases (show none = some c from h)
      | ref m =>
        cases y with
        | ref k =>
          cases rx
          cases ry
          by_cases e : m = k
          · subst e
            replace h : (if m = m then lexD xs ys else none) = some c := h
            rw [if_pos rfl] at h
            exact kat_cons (SeqAt.EqAt.same (.ref m) prog w _ _ (kat_yes (ih ys _ vs (i + 1) c tx ty h hf' q)))
          · replace h : (if m = k then lexD xs ys else none) = some c := h
            rw [if_neg e] at h
            cases h
        | _ => cases (show none = some c from h)
      | _ => cases (show none = some c by cases y <;> exact h)
end
section
variable {X : Cx}
def TupsAt (K : PySem.W.Frag) (H : Hp) (as : List Addr) (its : List (List V)) : Prop := Paired (fun a xs => SqT K H a xs ∧ ∃ i r, xs = V.int i :: r) as its
theorem tups_get {K : PySem.W.Frag} {H : Hp} {as : List Addr} {its : List (List V)} (h : TupsAt K H as its) : ∀ (i : Nat), i < as.length → ∃ a xs, as[i]? = some a ∧ its[i]? = some xs ∧ SqT K H a xs ∧ ∃ j r, xs = V.int j :: r := fun i hi => by
  have e : as[i]? = some as[i] := List.getElem?_eq_getElem hi
  obtain ⟨d, e2, q⟩ := paired_at h i _ e
  exact ⟨_, d, e, e2, q.1, q.2⟩
end
end L2
namespace L2
open PySem PySem.Spec PyProof.Rows
section
variable {X : Cx} {x y z w : Str} {i j k l n : Nat} {px py pz pw pt : Pos}
structure Nm (X : Cx) (i : Nat) (x : Str) : Prop where
  at_ : X.N[i]? = some x
  loc : Loc X.env.scope x
  fn : X.fn x = true ∨ X.env.scope.names.lookup x = some .local
theorem Nm.pg (h : Nm X i x) (nd : X.N.Nodup) : PG X (.Name x px) (gName i) := pg_name nd h.at_ h.loc h.fn
theorem pg2 (hc : X.calm = true) (nd : X.N.Nodup) (a : Nm X i x) (b : Nm X j y) : PG X (.Tuple [.Name x px, .Name y py] n pt) (gTup X.K 2 (gCons (gName i) (gCons (gName j) gNil))) :=
  pg_tup (X := X) (n := 2) hc (pgs_cons (X := X) (a.pg nd) (pgs_cons (X := X) (b.pg nd) pgs_nil))
theorem pg3 (hc : X.calm = true) (nd : X.N.Nodup) (a : Nm X i x) (b : Nm X j y) (c : Nm X k z) : PG X (.Tuple [.Name x px, .Name y py, .Name z pz] n pt) (gTup X.K 3 (gCons (gName i) (gCons (gName j) (gCons (gName k) gNil)))) :=
  pg_tup (X := X) (n := 3) hc (pgs_cons (X := X) (a.pg nd) (pgs_cons (X := X) (b.pg nd) (pgs_cons (X := X) (c.pg nd) pgs_nil)))
end
end L2
namespace L2
open PySem PySem.Spec PyProof.Rows
section
variable {es : List Expr} {env : Env} {c : Const} {i : Nat} {p : Pos}
theorem st_const : starEach (.Constant c i p :: es) env = (false, eval (.Constant c i p) env) :: starEach es env := by rw [starEach]; intro a b h; cases h
theorem st_name {x : Str} : starEach (.Name x p :: es) env = (false, eval (.Name x p) env) :: starEach es env := by rw [starEach]; intro a b h; cases h
theorem st_call {f : Expr} {as : List Expr} {ks : List Keyword} : starEach (.Call f as ks p :: es) env = (false, eval (.Call f as ks p) env) :: starEach es env := by rw [starEach]; intro a b h; cases h
theorem st_bin {a b : Expr} {o : Operator} : starEach (.BinOp a o b p :: es) env = (false, eval (.BinOp a o b p) env) :: starEach es env := by rw [starEach]; intro a b h; cases h
theorem st_sub {a b : Expr} : starEach (.Subscript a b p :: es) env = (false, eval (.Subscript a b p) env) :: starEach es env := by rw [starEach]; intro a b h; cases h
theorem st_tup {a : List Expr} : starEach (.Tuple a i p :: es) env = (false, eval (.Tuple a i p) env) :: starEach es env := by rw [starEach]; intro a b h; cases h
theorem st_list {a : List Expr} : starEach (.List a p :: es) env = (false, eval (.List a p) env) :: starEach es env := by rw [starEach]; intro a b h; cases h
theorem st_dict {a : List (Option Expr)} {b : List Expr} : starEach (.Dict a b p :: es) env = (false, eval (.Dict a b p) env) :: starEach es env := by rw [starEach]; intro a b h; cases h
theorem st_comp {a : Expr} {g : List Comprehension} {s : Scope} : starEach (.ListComp a g s p :: es) env = (false, eval (.ListComp a g s p) env) :: starEach es env := by rw [starEach]; intro a b h; cases h
end
section
variable {X : Cx}
theorem ix_listK (K : PySem.W.Frag) (h : X.K = K := by rfl) : IxR X (rIxL K) := h ▸ ix_list
theorem ix_tupK (K : PySem.W.Frag) (h : X.K = K := by rfl) : IxR X (rIxT K) := h ▸ ix_tup
def rLenSeq (K : PySem.W.Frag) : List V → Hp → VK → Prop := fun xs H Q => ∃ p ys, xs = [.ref p] ∧ (SqL K H p ys ∨ SqT K H p ys) ∧ Q (.int ys.length) H
theorem call_lenK (K : PySem.W.Frag) (h : X.K = K := by rfl) : CallR X (.builtin "len") (rLenSeq K) := h ▸ call_len_seq
def rListOf (K : PySem.W.Frag) : List V → Hp → VK → Prop := fun xs H Q => ∃ p ys, xs = [.ref p] ∧ (SqL K H p ys ∨ SqT K H p ys) ∧ ∀ l, H l = none → Q (.ref l) (upd H l (.lst ys))
theorem call_listK (K : PySem.W.Frag) (h : X.K = K := by rfl) : CallR X (.type "list") (rListOf K) := h ▸ call_list_of
def rIsinst (K : PySem.W.Frag) : List V → Hp → VK → Prop := fun xs H Q => ∃ v T t b, xs = [v, .ty T] ∧ TyOf K H v t ∧ PySem.W.kitOne K t (.type T) = some b ∧ Q (.bl b) H
theorem call_isinstK (K : PySem.W.Frag) (h : X.K = K := by rfl) : CallR X (.builtin "isinstance") (rIsinst K) := h ▸ call_isinst
def rSumI (K : PySem.W.Frag) : List V → Hp → VK → Prop := fun xs H Q => ∃ (p : Addr) (ns : List Int), xs = [.ref p] ∧ SqL K H p (ns.map V.int) ∧ Q (.int ns.sum) H
theorem call_sumK (K : PySem.W.Frag) (hc : X.calm = true) (h : X.K = K := by rfl) : CallR X (.builtin "sum") (rSumI K) := h ▸ call_sum_ints hc
def tTru (K : PySem.W.Frag) (ta : TE) : TT := fun σ H Q => ta σ H fun x H' => ∃ k, TruV K x H' k ∧ Q k H'
theorem pt_truK (K : PySem.W.Frag) {a : Expr} {ta : TE} (ha : PE X a ta) (he : ∀ whole, isTrue a X.env whole = (do let v ← whole; standAt a.pos; holding [v] (truthy v))) (h : X.K = K := by rfl) : PT X a (tTru K ta) := h ▸ pt_truth ha he
theorem pi_listK (K : PySem.W.Frag) {tg l : Expr} {tl : TE} (hl : PE X l tl) (h : X.K = K := by rfl) : PI X tg l (iList K tl) := h ▸ pi_list hl
theorem pi_zipK (b : Bool) (K : PySem.W.Frag) {es : List Expr} {kk : Nat} {tpos : Pos} {e1 e2 : Expr} {ta : TA} {p pos : Pos} (hg : Gl X "zip") (hm : X.mg "zip" = none) (ha : PA X [e1, e2] ta) (h : X.K = K := by rfl) (hs : starEach [e1, e2] X.env = [(false, eval e1 X.env), (false, eval e2 X.env)] := by rfl) (hs2 : starEach [e2] X.env = [(false, eval e2 X.env)] := by rfl) :
    PI X (.Tuple es kk tpos) (.Call (.Name "zip" p) [e1, e2] [] pos) (iZip b K ta) := h ▸ pi_zip hg hm ha hs hs2
variable {x y z w : Str} {i j k l n : Nat} {px py pz pw pt : Pos}
theorem pg2K (K : PySem.W.Frag) (hc : X.calm = true) (nd : X.N.Nodup) (a : Nm X i x) (b : Nm X j y) (h : X.K = K := by rfl) : PG X (.Tuple [.Name x px, .Name y py] n pt) (gTup K 2 (gCons (gName i) (gCons (gName j) gNil))) := h ▸ pg2 hc nd a b
theorem pg3K (K : PySem.W.Frag) (hc : X.calm = true) (nd : X.N.Nodup) (a : Nm X i x) (b : Nm X j y) (c : Nm X k z) (h : X.K = K := by rfl) : PG X (.Tuple [.Name x px, .Name y py, .Name z pz] n pt) (gTup K 3 (gCons (gName i) (gCons (gName j) (gCons (gName k) gNil)))) := h ▸ pg3 hc nd a b c
end
section
variable {X : Cx} {o e : Expr} {es : List Expr} {to : TE} {t : TA} {name : Str} {apos cpos : Pos} {T id : String} {r : V → List V → Hp → VK → Prop}
theorem pe_bmK (K : PySem.W.Frag) (pa : PlainAttrs T) (slot : Slot T name id) (hty : typeOf (.builtin id) = pure (.type "method_descriptor")) (hm : MtR X id r) (ho : PE X o to) (ha : PA X (e :: es) t) (h : X.K = K := by rfl)
    (hbase : attributeBase o name X.env (eval o X.env) = eval o X.env := by rfl)
    (hfew : ((backTo cpos (starEach (e :: es) X.env)).all (fun x => !x.1) && (backToKw cpos (keywordEach [] X.env)).all (fun x => x.1.isSome)
      && decide ((e :: es).length + ([] : List Keyword).length + (if ([] : List Keyword).isEmpty then 0 else 1) < 30)) = true := by rfl)
    (hline : (apos.endLine == cpos.line) = true := by rfl) (hs : starEach (e :: es) X.env = (false, eval e X.env) :: starEach es X.env := by rfl) (hplain : (backTo cpos (starEach es X.env)).any (·.1) = false := by rfl) :
    PE X (.Call (.Attribute o name apos) (e :: es) [] cpos) (tBM K T r to t) := h ▸ pe_bm pa slot hty hm ho ha hbase hfew hline hs hplain
end
end L2
namespace L2
open PySem PySem.Spec PyProof.Rows
def enc : List Int → Int
  | [] => 0
  | x :: r => x * 1000 ^ r.length + enc r
def Few (d : List Int) : Prop := ∀ x ∈ d, 0 ≤ x ∧ x < 1000
theorem Few.tail {x : Int} {r : List Int} (h : Few (x :: r)) : Few r := fun y hy => h y (List.mem_cons_of_mem _ hy)
theorem enc_in : ∀ {d : List Int}, Few d → 0 ≤ enc d ∧ enc d < 1000 ^ d.length
  | [], _ => ⟨Int.le_refl _, by decide⟩
  | x :: r, h => by
    obtain ⟨h1, h2⟩ := enc_in h.tail
    obtain ⟨g1, g2⟩ := h x (List.mem_cons_self ..)
    have p : (0 : Int) < 1000 ^ r.length := Int.lt_of_le_of_lt h1 h2
    generalize hP : (1000 : Int) ^ r.length = P at h2 p
    have e : (1000 : Int) ^ (x :: r).length = 1000 * P := by rw [List.length_cons, Int.pow_succ, hP, Int.mul_comm]
    rw [e]
    show 0 ≤ x * 1000 ^ r.length + enc r ∧ x * 1000 ^ r.length + enc r < 1000 * P
    rw [hP]
    have a1 : 0 ≤ x * P := Int.mul_nonneg g1 (Int.le_of_lt p)
    have a2 : (x + 1) * P ≤ 1000 * P := Int.mul_le_mul_of_nonneg_right (by omega) (Int.le_of_lt p)
    rw [Int.add_mul, Int.one_mul] at a2
    omega
theorem enc_head {a b : Int} {r r' : List Int} (hl : r.length = r'.length) (hr : Few r) (hr' : Few r') (h : a < b) : enc (a :: r) < enc (b :: r') := by
  obtain ⟨h1, h2⟩ := enc_in hr
  obtain ⟨g1, g2⟩ := enc_in hr'
  show a * 1000 ^ r.length + enc r < b * 1000 ^ r'.length + enc r'
  rw [← hl] at g2 ⊢
  generalize (1000 : Int) ^ r.length = P at h2 g2
  have a2 : (a + 1) * P ≤ b * P := Int.mul_le_mul_of_nonneg_right (by omega) (by omega)
  rw [Int.add_mul, Int.one_mul] at a2
  omega
theorem enc_same {a : Int} {r r' : List Int} (hl : r.length = r'.length) : (enc (a :: r) < enc (a :: r') ↔ enc r < enc r') ∧ (enc (a :: r) = enc (a :: r') ↔ enc r = enc r') := by
  show (a * 1000 ^ r.length + enc r < a * 1000 ^ r'.length + enc r' ↔ _) ∧ (a * 1000 ^ r.length + enc r = a * 1000 ^ r'.length + enc r' ↔ _)
  rw [hl]
  omega
theorem lexD_enc : ∀ {d d' : List Int}, d.length = d'.length → Few d → Few d' → lexD (d.map V.int) (d'.map V.int) = some (decide (enc d < enc d'))
  | [], [], _, _, _ => rfl
  | [], _ :: _, h, _, _ => by cases h
  | _ :: _, [], h, _, _ => by cases h
  | a :: r, b :: r', h, f, f' => by
    have hl : r.length = r'.length := by simpa using h
    show (if a = b then lexD (r.map V.int) (r'.map V.int) else some (decide (a < b))) = _
    by_cases c : a = b
    · subst c
      rw [if_pos rfl, lexD_enc hl f.tail f'.tail, decide_eq_decide.mpr (enc_same hl).1]
    · rw [if_neg c]
      by_cases k : a < b
      · rw [decide_eq_true k, decide_eq_true (enc_head hl f.tail f'.tail k)]
      · have := enc_head hl.symm f'.tail f.tail (show b < a by omega)
        rw [decide_eq_false k, decide_eq_false (by omega)]
def DataAt (K : PySem.W.Frag) (H : Hp) (as : List Addr) (ds : List (List Int)) : Prop := Paired (fun a d => SqT K H a (d.map V.int)) as ds
theorem paired_map {α β γ : Type} {R : α → γ → Prop} {f : β → γ} : ∀ {as : List α} {ds : List β}, Paired (fun a d => R a (f d)) as ds → Paired R as (ds.map f)
  | _, _, .nil => .nil
  | _, _, .cons h t => .cons h (paired_map t)
theorem paired_mem {α β : Type} {R R' : α → β → Prop} {as : List α} {ds : List β} (h : Paired R as ds) (hi : ∀ a b, b ∈ ds → R a b → R' a b) : Paired R' as ds := by
  induction h with
  | nil => exact .nil
  | cons h t ih => exact .cons (hi _ _ (List.mem_cons_self ..) h) (ih fun a b hb => hi a b (List.mem_cons_of_mem _ hb))
end L2
namespace L2
open PySem PySem.Spec PyProof.Rows
theorem mt_appendR {X : Cx} : MtR X "list.append" rAppend := mt_append
end L2
namespace L2
open PySem PySem.Spec PyProof.Rows
section
variable {X : Cx}
theorem ipR_add : PIp X .Add (rI0 fun i j => .int (i + j)) := iop_add
end
end L2
namespace L2
open PySem PySem.Spec PyProof.Rows
structure DefD (K : PySem.W.Frag) (mg : Str → Option Value) (x : Str) (st : Stmt) (ps : List Str) (dvs : List V) : Prop where
  ex : ∃ (f : Addr) (fd : FuncData), (∃ (oc : Value) (od : Option Addr) (dV kV doc pm : Value) (an : Option Addr) (cdv ct : Value) (osl : Array (Option Value)),
      fd = PySem.W.fnOf x x (defArgs st) (defBody st) (defScope st) dV kV doc pm an cdv ct ∧ K.lookup f = some ⟨oc, od, .func fd, osl⟩ ∧ PySem.W.codeIn K cdv x = true) ∧ PySem.W.keepIn K (.ref f) = true ∧
    (∀ m, m ≤ dvs.length → ∃ ds, Vals (dvs.drop m) ds ∧ Binds K fd ps ds) ∧ mg x = some (.ref f)
structure CalleeD (P : Program) (w : World) (K : PySem.W.Frag) (mg : Str → Option Value) (base : Heap) (k : Nat) (x : Str) (ps : List Str) (dvs : List V) (sp : Sp) : Prop where
  ex : ∃ (f : Addr) (fd : FuncData), FnOk P w K mg base CX0 k f fd ps sp ∧ (∀ m, m ≤ dvs.length → ∃ ds, Vals (dvs.drop m) ds ∧ Binds K fd ps ds) ∧ PySem.W.keepIn K (.ref f) = true ∧ mg x = some (.ref f)
section
variable {P : Program} {w : World} {K : PySem.W.Frag} {mg : Str → Option Value} {base : Heap}
theorem DefD.ok {x : Str} {st : Stmt} {N ps : List Str} {k : Nat} {dvs : List V} {sp : Sp} (D : DefD K mg x st ps dvs) (S : FnScope N ps (defScope st)) (len : ∀ vs H Q E, sp vs H Q E → vs.length = ps.length)
    (hbody : ∀ (f : Addr) (cdv : Value) (A : Around) (outer : List Env) (s : Shared) (H : Hp) (vs : List V) (Q : VK) (E : XK), Room k (A.deeper (envOfC x (defScope st) s.heap.objs.size f cdv)) → sp vs H Q E →
      ∃ t, PSs (cxOf CX0 P w K mg base N x (defScope st) f cdv A outer s H E).nox (defBody st) t ∧ t { nx := fun _ H' => Q .non H', rt := Q } (start N vs) H) : CalleeD P w K mg base (k + 1) x ps dvs sp := by
  obtain ⟨f, fd, ⟨oc, od, dV, kV, doc, pm, an, cdv, ct, osl, rfl, lk, hcd⟩, kp, b, m⟩ := D.ex
  refine ⟨f, _, fn_of lk hcd S len fun A outer s H vs Q E hr hsp => ?_, b, kp, m⟩
  obtain ⟨t, h, q⟩ := hbody f cdv A outer s H vs Q E hr hsp
  exact ⟨t, h.nox, q⟩
theorem CalleeD.all {x : Str} {ps : List Str} {k : Nat} {dvs : List V} {sp : Sp} (C : CalleeD P w K mg base k x ps dvs sp) : Callee P w K mg base k x ps sp := by
  obtain ⟨f, fd, F, b, kp, m⟩ := C.ex
  obtain ⟨ds, hv, hb⟩ := b dvs.length (Nat.le_refl _)
  rw [List.drop_length] at hv
  cases hv
  exact ⟨f, fd, F, hb, kp, m⟩
end
section
variable {X : Cx} {k n : Nat} {ps : List Str} {dvs : List V} {sp : Sp} {x : Str} {p pos : Pos} {e : Expr} {es : List Expr} {t : TA}
theorem pe_fnD (m : Nat) (C : CalleeD X.prog X.w X.K X.mg X.base k x ps dvs sp) (hr : Room n X.A) (hg : Gl X x) (ha : PA X (e :: es) t) (hm : m ≤ dvs.length := by decide) (hk : k ≤ n := by decide) (hdb : (x == ("__debug__" : Str)) = false := by decide)
    (he : starEach (e :: es) X.env = (false, eval e X.env) :: starEach es X.env := by rfl) (hpl : (backTo pos (starEach es X.env)).any (·.1) = false := by rfl) :
    PE X (.Call (.Name x p) (e :: es) [] pos) (tCall sp (dvs.drop m) E0 t) := by
  obtain ⟨f, fd, F, b, kp, mm⟩ := C.ex
  obtain ⟨ds, hv, hb⟩ := b m hm
  exact pe_call F (hr.mono hk) hg mm kp hb hv pass0 ha hdb he hpl
end
section
variable {X : Cx}
def RngO (l : Addr) (j : Int) : HO := .ext fun h => ∃ t u v, IsRange h l 0 j 1 t u v
def rRng : List V → Hp → VK → Prop := fun xs H Q => ∃ j : Int, xs = [.int j] ∧ ∀ l, H l = none → Q (.ref l) (upd H l (RngO l j))
theorem call_range_new : CallR X (.type "range") rRng := by
  intro pins s σ H xs us Q I r h
  obtain ⟨j, rfl, q⟩ := h
  obtain ⟨u, rfl, t, rfl⟩ := vals1 r
  refine call_range_1 ?_
  have new : ObjOk X.prog X.w (upd H s.heap.objs.size (RngO s.heap.objs.size j)) (s.heap.push { cls := .type "range", data := .fields #[.int 0 s.toks, .int j t, .int 1 (s.toks + 1)] }) s.heap.objs.size (RngO s.heap.objs.size j) := by
    have e : IsRange (s.heap.push { cls := .type "range", data := .fields #[.int 0 s.toks, .int j t, .int 1 (s.toks + 1)] }) s.heap.objs.size 0 j 1 s.toks t (s.toks + 1) := IsRange.new ..
    exact ⟨⟨_, _, _, e⟩, ⟨_, e⟩, fun h1 h2 ⟨_, _, _, a⟩ b => ⟨_, _, _, b _ a⟩⟩
  exact ⟨.ref s.heap.objs.size, _, I.laid (t' := s.toks + 1 + 1) (fun b o e => Heap.get?_push_of_some _ e) (Nat.le_refl _) new, rfl, q _ (I.hok.fresh (Nat.le_refl _))⟩
def rOfRng : List V → Hp → VK → Prop := fun xs H Q => ∃ (l : Addr) (n : Nat), xs = [.ref l] ∧ H l = some (RngO l n) ∧ n ≤ 1000 ∧ ∀ t, H t = none → Q (.ref t) (upd H t (.lst ((List.range n).map fun (i : Nat) => V.int i)))
theorem vals_of_items : ∀ (n : Nat) (acc : Array Value), ItemsOf (fun i v => ∃ t, v = Value.int (0 + (i : Int) * 1) t) acc n → Vals ((List.range n).map fun (i : Nat) => V.int i) acc.toList := fun n acc h => by
  have go : ∀ (us : List Value) (k : Nat), (∀ i v, us[i]? = some v → ∃ t, v = Value.int ((k + i : Nat) : Int) t) → Vals ((List.range' k us.length).map fun (i : Nat) => V.int i) us := by
    intro us
    induction us with
    | nil => intro k _; exact .nil
    | cons u r ih =>
      intro k hk
      obtain ⟨t, e⟩ := hk 0 u rfl
      refine .cons ⟨t, by simpa using e⟩ (ih (k + 1) fun i v hv => ?_)
      obtain ⟨t, e⟩ := hk (i + 1) v (by simpa using hv)
      exact ⟨t, by rw [e, show k + 1 + i = k + (i + 1) by omega]⟩
  have := go acc.toList 0 fun i v hv => by
    obtain ⟨t, e⟩ := h.2 i v (by simpa using hv)
    exact ⟨t, by rw [e]; simp⟩
  rw [Array.length_toList, h.1] at this
  rw [List.range_eq_range']
  exact this
theorem call_list_rng (hc : X.calm = true) : CallR X (.type "list") rOfRng := by
  intro pins s σ H xs us Q I r h
  obtain ⟨l, n, rfl, e, hz, q⟩ := h
  obtain ⟨u, rfl, rx⟩ := vals1 r
  cases rx
  obtain ⟨t, u, v, g⟩ := (show ObjOk X.prog X.w H s.heap l (RngO l n) from I.hok l _ e).1
  have sz : Builtin.Range.rangeSize 0 (n : Int) 1 = (n : Int) := by rw [rangeSize_one]; split <;> omega
  refine call_list_range (I.ok.hd hc) g (small_one (by omega) (by omega) (by omega) (by omega)) sz (by omega) fun h' tk acc c kp gS hacc => ?_
  have hv := vals_of_items n acc hacc
  have I2 : Inv X pins σ (upd H s.heap.objs.size (.lst ((List.range n).map fun (i : Nat) => V.int i))) { s with heap := h', toks := tk } :=
    I.laid kp (Nat.le_refl _) (show ObjOk X.prog X.w _ h' _ (.lst _) from ⟨by rw [List.length_map, List.length_range]; exact Nat.le_of_lt (small1000 hz), acc.toList, c, hv, by simpa using gS⟩)
  exact ⟨.ref s.heap.objs.size, _, I2, rfl, q _ (I.hok.fresh (Nat.le_refl _))⟩
end
end L2
namespace L2
open PySem PySem.Spec PyProof.Rows
section
variable {X : Cx}
def rNeNil (K : PySem.W.Frag) : R2 := fun x y H Q => ∃ (a b : Addr) (xs : List V), x = .ref a ∧ y = .ref b ∧ SqL K H a xs ∧ SqL K H b [] ∧ Q (.bl (!decide (xs = []))) H
theorem op_neNilK (K : PySem.W.Frag) (hu : X.A.units < cLine) (h : X.K = K := by rfl) : OpR X (compareOp .NotEq) (rNeNil K) := by
  subst h
  intro pins s σ H x y v u Q I rx ry h
  obtain ⟨a, b, xs, rfl, rfl, ha, hb, q⟩ := h
  cases rx
  cases ry
  obtain ⟨us, r1, p1, _⟩ := I.list ha
  obtain ⟨vs, r2, p2, _⟩ := I.list hb
  cases r2
  have l1 := r1.length
  cases xs with
  | nil =>
    cases r1
    refine SeqAt.RcNeAt.lists (e := fun j => true) p1.isList p2.isList rfl (by omega) (fun j h1 h2 => absurd h1 (by simp)) X.prog X.w X.xe _ ?_
    exact ⟨.bl false, H, I, rfl, q⟩
  | cons x t =>
    refine SeqAt.RcNeAt.lists_lengths p1.isList p2.isList (by simp only [List.size_toArray]; rw [← l1]; simp) (by omega) X.prog X.w X.xe _ ?_
    exact ⟨.bl true, H, I, rfl, q⟩
end
theorem seq_cut {A u : TS} {D : Ends} {σ : St} {H : Hp} (S : St → Hp → Prop) (h1 : ∀ R : St → Hp → Prop, (∀ σ' H', S σ' H' → R σ' H') → A { D with nx := R } σ H) (h2 : ∀ σ' H', S σ' H' → u D σ' H') : tSeq A u D σ H := h1 (u D) h2
end L2
namespace L2
open PySem PySem.Spec PyProof.Rows PyProof PySem.W
section
variable {prog : Program} {w : World} {A : Around} {E : Value → Shared → Prop} {s : Shared} {d : Addr}
theorem collect_dict {K : Type} [DecidableEq K] {knd : KeyKind prog w K} {kvs : List (K × Value)} {ep : Nat} {Q : List Value → Shared → Prop} (hh : A.handled = none) (lo : (d == sysModules) = false) (hm : s.heap.DictAt knd d kvs ep) (hn : kvs.length ≤ sizeLine)
    (hQ : ∀ (h' : Heap) (tk : Nat) (xs : List Value), xs.length = kvs.length → (∀ (j : Nat) v, xs[j]? = some v → ∃ k x, kvs[j]? = some (k, x) ∧ knd.is k v = true) → s.heap.objs.size < h'.objs.size → (∀ b ob, s.heap.get? b = some ob → h'.get? b = some ob) → Q xs { s with heap := h', toks := tk }) :
    wpAny (model prog w) A (collect (.ref d)) Q E s := by
  have hdl := hm.lt_size
  unfold collect
  refine wpAny_bind (wpAny_runValue (codeAny_builtin PySem.F.entry_proto_collect ?_))
  rw [Around.under_plainId PySem.F.plain_proto_collect _]
  show wpAny _ A.in1 (newList [] >>= fun l => again (.builtin "list.__iadd__" ⟨[l, .ref d], []⟩)) _ _ s
  refine wpAny_bind (wpAny_newObj_type ?_)
  refine wpAny_pure ⟨plainId_quiet PySem.F.plain_list_iadd _, codeAny_builtin PySem.F.entry_list_iadd ?_⟩
  rw [Around.under_plainId PySem.F.plain_list_iadd _]
  have hS : (s.heap.push { cls := .type "list", data := .seq ([] : List Value).toArray }).get? s.heap.objs.size = some { cls := .type "list", data := .seq #[] } := Heap.get?_push_size _ rfl
  show wpAny _ A.in1 (Builtin.List.listExtendWith (.ref s.heap.objs.size) (.ref d) (.ref s.heap.objs.size)) _ _ _
  refine kdl_extend (R := fun r s' => match r with | .ok (.ret v) => wpAny (model prog w) A (match v with | .ref a => (do match (← load a).data with | .seq xs _ => pure xs.toList | _ => unsupported "internal:collect") | _ => unsupported "internal:collect") Q E s' | .ok _ => False | .error e => E e s')
    (kdl_dict (knd := knd) (kvs := kvs) (ep := ep) lo) hh (hm.push _) _ (Nat.ne_of_gt hdl) (Nat.ne_of_gt hdl) _ 0 hS (fun h' tk acc c keep hS' items => ?_) hn
  show wpAny _ A (load s.heap.objs.size >>= _) _ _ _
  refine wpAny_bind (wpAny_load hS' (wpAny_pure (hQ h' tk acc.toList (by rw [Array.length_toList]; exact items.1) (fun j v e => items.2 j v (by rw [← Array.getElem?_toList]; exact e)) (Heap.lt_size hS') fun b ob e => ?_)))
  exact keep b ob (Nat.ne_of_lt (Heap.lt_size e)) (Heap.get?_push_of_some _ e)
theorem sorted_dict {kvs : List (Key × Value)} {ns : List Int} {ep : Nat} {Q : Value → Shared → Prop} (hh : A.handled = none) (lo : (d == sysModules) = false) (hm : s.heap.DictAt (mixKind prog w) d kvs ep) (hk : kvs.map (·.1) = ns.map Sum.inl) (h64 : ns.length < 64)
    (h : ∀ (l : Addr) (h' : Heap) (tk e : Nat) (out : Array Value) (ns' : List Int), IntsAre out.toList ns' → ns'.Perm ns → ns'.Pairwise (· ≤ ·) → s.heap.objs.size ≤ l → (∀ b ob, s.heap.get? b = some ob → h'.get? b = some ob) →
      h'.get? l = some (seqObj "list" out e) → Q (.ref l) { s with heap := h', toks := tk }) : wpAny (model prog w) A (call (.builtin "sorted") [.ref d]) Q E s := by
  have hl : kvs.length = ns.length := by
    have := congrArg List.length hk
    rwa [List.length_map, List.length_map] at this
  refine Calls.call_function_entry kind_sorted plain_sorted entry_sorted (args_sorted1 _) ?_
  unfold Builtin.«sorted»
  refine wpAny_bind (m := checkCount "sorted" 1 1 _) (wpAny_pure ?_)
  refine wpAny_bind (collect_dict hh lo hm (by rw [hl]; exact Nat.le_trans (Nat.le_of_lt h64) (by decide)) fun h1 tk xs hxl hx big old => ?_)
  have im : IntsAre xs ns := by
    have go : ∀ (xs : List Value) (ns : List Int), xs.length = ns.length → (∀ (j : Nat) v, xs[j]? = some v → ∃ i t, ns[j]? = some i ∧ v = Value.int i t) → IntsAre xs ns := by
      intro xs
      induction xs with
      | nil =>
        intro ns h _
        cases ns with
        | nil => exact .nil
        | cons => cases h
      | cons x xs ih =>
        intro ns h q
        cases ns with
        | nil => cases h
        | cons n ns =>
          obtain ⟨i, t, e1, e2⟩ := q 0 x rfl
          simp at e1
          subst e1 e2
          exact .cons _ _ (ih ns (by simpa using h) fun j v e => q (j + 1) v (by simpa using e))
    refine go xs ns (hxl.trans hl) fun j v e => ?_
    obtain ⟨k, x, e1, e2⟩ := hx j v e
    have e3 : (kvs.map (·.1))[j]? = some k := by rw [List.getElem?_map, e1]; rfl
    rw [hk, List.getElem?_map] at e3
    obtain ⟨i, e4, e5⟩ := Option.map_eq_some_iff.mp e3
    subst e5
    rcases keyIs_shape (show keyIs (Sum.inl i) v = true from e2) with ⟨i', t, e6, rfl⟩ | ⟨_, _, e6, _⟩
    · injection e6 with e6
      subst e6
      exact ⟨i, t, e4, rfl⟩
    · cases e6
  refine wpAny_bind (wpAny_newList ?_ (by rw [hxl, hl]; exact Nat.le_trans (Nat.le_of_lt h64) (by decide)))
  have hoL : (h1.push (seqObj "list" xs.toArray 0)).get? h1.objs.size = some (seqObj "list" xs.toArray 0) := Heap.get?_push_size _ rfl
  show wpAny _ _ _ _ _ { s with heap := h1.push (seqObj "list" xs.toArray 0), toks := tk }
  refine wpAny_bind (wpAny_holding (wpAny_call_entry slot_list_sort ⟨_, hoL, rfl⟩ entry_list_sort (list_sort_tree hoL im (by omega) fun out ns' a1 a2 a3 => ⟨_, rfl, ?_⟩) (args_list_sort _)))
  obtain ⟨e, he⟩ := sortedHeap_at (out := out) hoL
  refine wpAny_pure ⟨_, rfl, h h1.objs.size _ tk e out ns' a1 a2 a3 ?_ (fun b ob q => ?_) he⟩
  · exact Nat.le_of_lt big
  · have q1 := old b ob q
    have hlt := Heap.lt_size q1
    rw [sortedHeap_old (Nat.ne_of_lt hlt) (by rw [Heap.size_push]; exact Nat.lt_succ_of_lt hlt)]
    exact Heap.get?_push_of_some _ q1
end
section
variable {X : Cx}
def rSortedDic : List V → Hp → VK → Prop := fun xs H Q => ∃ (p : Addr) (kvs : List (Key × V)) (ns : List Int), xs = [.ref p] ∧ Rd H p (.dK kvs) ∧ kvs.map (·.1) = ns.map Sum.inl ∧ ns.length < 64 ∧ ∀ ns' : List Int, ns'.Perm ns → ns'.Pairwise (· ≤ ·) → ∀ l, H l = none → Q (.ref l) (upd H l (.lst (ns'.map V.int)))
theorem call_sortedDic (hc : X.calm = true) : CallR X (.builtin "sorted") rSortedDic := by
  intro pins s σ H xs us Q I r h
  obtain ⟨p, kvs, ns, rfl, rd, hk, h64, q⟩ := h
  obtain ⟨u, rfl, rx⟩ := vals1 r
  cases rx
  obtain ⟨_, hs, vs, rel, dd⟩ := dk_rd I.hok rd
  obtain ⟨ep, dd⟩ := dd.dictAt
  have hk' : vs.map (·.1) = ns.map Sum.inl := (KV.keys rel).symm.trans hk
  refine sorted_dict (I.ok.hd hc) hs dd hk' h64 fun l h' tk e out ns' a1 a2 a3 hlz kp g => ?_
  have fr := I.hok.fresh hlz
  have new : ObjOk X.prog X.w (upd H l (.lst (ns'.map V.int))) h' l (.lst (ns'.map V.int)) := ⟨by rw [List.length_map, a2.length_eq]; exact Nat.le_of_lt (small1000 (by omega)), out.toList, e, vals_ints a1, by simpa [seqObj] using g⟩
  exact ⟨.ref l, _, I.call' (s' := { s with heap := h', toks := tk }) (ch := []) rfl (Un.track (Un.kept kp) hlz fr) (HOk.track (I.hok.kept kp) fr new) I.bare (fun b z => nomatch z), rfl, q ns' a2 a3 l fr⟩
end
end L2
namespace L2
open PySem PySem.Spec PyProof.Rows
def Ite (K : PySem.W.Frag) (l : Addr) : It :=
  ⟨fun i H => ∃ xs x, SqL K H l xs ∧ xs[i]? = some x,
   fun i H v H' => ∃ p x, H p = none ∧ v = .ref p ∧ H' = upd H p (.tup [.int (i : Nat), x]) ∧ ∀ xs, SqL K H l xs → xs[i]? = some x,
   fun i H => ∃ xs, SqL K H l xs ∧ xs.length ≤ i⟩
theorem turn_enum {P : Program} {w : World} {K : PySem.W.Frag} {es : List Expr} {kk : Nat} {pos : Pos} {e it l : Addr} (hei : e ≠ it) (hle : l ≠ e) (hli : l ≠ it) :
    Turn P w K (.Tuple es kk pos) (Ite K l) [e, it] e (fun n h => (∃ old, IsEnum h e it (n : Int) old) ∧ h.IsListIter it l n) where
  mem := by simp
  obj := fun n h ⟨⟨old, he⟩, hi⟩ a ha => by
    simp only [List.mem_cons, List.not_mem_nil, or_false] at ha
    rcases ha with rfl | rfl
    · exact ⟨_, he, fun v q => nomatch q⟩
    · obtain ⟨o, e1, _, d⟩ := hi
      exact ⟨o, e1, fun v z => by rw [d] at z; cases z⟩
  keep := fun n h h' ⟨⟨old, he⟩, hi⟩ k => ⟨⟨old, k e (by simp) _ he⟩, hi.at fun o x => k it (by simp) o x⟩
  item := by
    intro X hP hw hK hc n pins s σ H E I hf ⟨⟨old, he⟩, hi⟩ hg
    subst hP hw hK
    obtain ⟨xs, x, hl, hx⟩ := hg
    obtain ⟨us, ru, hl', hzl⟩ := I.list hl
    obtain ⟨u, hu, r1⟩ := ru.get hx
    refine wpAny_pyNext_enum_item he hi hl'.isList (x := u) (by simpa using hu) hei fun h' ho hit hT hsz kp => ⟨_, rfl, ?_⟩
    refine wpAny_letOwnedTupleGo_enum (s := { s with heap := h', toks := s.toks + 1 }) ho fun h'' he'' sb => ?_
    replace sb : Heap.SameBut e h' h'' := sb
    have fresh : H s.heap.objs.size = none := I.hok.fresh (Nat.le_refl _)
    have kp2 : ∀ a q, a ≠ e → a ≠ it → s.heap.get? a = some q → h''.get? a = some q := fun a q a1 a2 z => sb.extBut _ _ a1 (kp a q a1 a2 z)
    have hTe : s.heap.objs.size ≠ e := Nat.ne_of_gt (Heap.lt_size he)
    have pT : h''.get? s.heap.objs.size = some { cls := .type "tuple", data := .seq #[.int n s.toks, u] } := sb.extBut _ _ hTe hT
    have notin : ∀ a, a ∉ [e, it] → a ≠ e ∧ a ≠ it := fun a ha => by simpa using ha
    have trk : ∀ a q, H a = some q → a ∉ [e, it] := fun a q z ha => by rw [(hf a ha).1] at z; cases z
    have hok : HOk X.prog X.w (upd H s.heap.objs.size (.tup [.int (n : Nat), x])) h'' := fun a q z => by
      by_cases ha : a = s.heap.objs.size
      · subst ha
        rw [upd_same] at z
        cases z
        exact ⟨by show 2 ≤ sizeLine; decide, [.int n s.toks, u], .cons ⟨_, rfl⟩ (.cons r1 .nil), ⟨_, pT, rfl, _, rfl⟩⟩
      · rw [upd_ne ha] at z
        refine (I.hok a q z).stay (fun a' q' h1 h2 => ?_) (fun a' q' => by rw [upd_ne (ne_of_none q' fresh)]; exact q') fun a' xs' q' => by rw [upd_ne (ne_of_none q' fresh)]; exact q'
        have ni : a' ∉ [e, it] := by
          rcases h1 with rfl | h1
          · exact trk _ _ z
          · exact trk _ _ h1
        obtain ⟨n1, n2⟩ := notin a' ni
        exact kp2 a' q' n1 n2 h2
    have J : Inv X pins σ (upd H s.heap.objs.size (.tup [.int (n : Nat), x])) { s with heap := h'', toks := s.toks + 1 } := by
      refine I.step (g' := s.gens) (d' := s.drawn) (t' := s.toks + 1) (ch := [e, it]) (fun a ha => ?_) (fun a q _ _ hc' z _ => ?_) (fun a q _ _ hc' z _ => ?_) (fun a q _ z n2 => ?_) (fun a q hc' z => ?_) (fun a xs' z => ?_) (fun a q u' z => ?_) (fun a ps z => ?_) (fun m' hm'' => ?_) hok I.bare
      · obtain ⟨_, f1, _, f3, f4, f5⟩ := hf a ha
        exact ⟨f3, f1, f4, f5⟩
      · obtain ⟨n1, n2⟩ := notin a hc'
        exact kp2 a q n1 n2 z
      · obtain ⟨n1, n2⟩ := notin a hc'
        exact ⟨q.slots, kp2 a q n1 n2 z⟩
      · rw [upd_ne (Nat.ne_of_lt (Heap.lt_size z))]
        exact n2
      · obtain ⟨n1, n2⟩ := notin a hc'
        exact ⟨q, kp2 a q n1 n2 z⟩
      · rw [upd_ne (ne_of_none z fresh)]
        exact z
      · rw [upd_ne (ne_of_none z fresh)]
        exact z
      · exact ⟨#[], by rw [upd_ne (ne_of_none z fresh), z]; simp⟩
      · obtain ⟨ob, es', ep, e1, r⟩ := hm''
        have f1 : ∀ a' ∈ [e, it], a' ≠ X.env.locals := fun a' ha' => (hf a' ha').2.1
        exact ⟨ob, es', ep, kp2 _ _ (Ne.symm (f1 e (by simp))) (Ne.symm (f1 it (by simp))) e1, r⟩
    have hi2 : h''.IsListIter it l (n + 1) := hit.at fun o z => sb.extBut _ _ (Ne.symm hei) z
    refine ⟨.ref s.heap.objs.size, _, J, rfl, ⟨s.heap.objs.size, x, fresh, rfl, rfl, fun xs' q => ?_⟩, ⟨⟨_, by have := he''; rw [show ((n : Nat) : Int) + 1 = ((n + 1 : Nat) : Int) by omega] at this; exact this⟩, hi2⟩, fun a ha => ?_⟩
    · have e2 := I.row_inj (b := false) (show Sq false X.K H l xs' from q) (show Sq false X.K H l xs from hl)
      rw [e2]
      exact hx
    · have : a ≠ s.heap.objs.size := by
        simp only [List.mem_cons, List.not_mem_nil, or_false] at ha
        rcases ha with rfl | rfl
        · exact Ne.symm hTe
        · obtain ⟨q, z, _⟩ := hi; exact Nat.ne_of_lt (Heap.lt_size z)
      rw [upd_ne this]
      exact (hf a ha).1
  done := by
    intro X hP hw hK hc n pins s σ H E I hf ⟨⟨old, he⟩, hi⟩ hg
    subst hP hw hK
    obtain ⟨xs, hl, hend⟩ := hg
    obtain ⟨us, ru, hl', hzl⟩ := I.list hl
    have e1 := ru.length
    refine wpAny_pyNext_enum_end (I.ok.hd hc) he hi hl'.isList (by simp; omega) fun h' kp => ⟨rfl, ?_⟩
    obtain ⟨f0, f1, f2, f3, f4, f5⟩ := hf it (by simp)
    exact I.turned (t' := s.toks) (fun b o hb z => kp b o hb z) f0 f1 f3 f4 f5
  self := fun _ _ _ _ _ ⟨⟨old, he⟩, _⟩ h => wpAny_pyIter_enum he h
section
variable {X : Cx}
def iEnum (K : PySem.W.Frag) (ta : TA) : TI := fun σ H R => ta σ H fun vs H1 => ∃ l xs, vs = [.ref l] ∧ SqL K H1 l xs ∧ R (Ite K l) H1
theorem pi_enum (K : PySem.W.Frag) {es : List Expr} {kk : Nat} {tpos : Pos} {e1 : Expr} {ta : TA} {p pos : Pos} (hg : Gl X "enumerate") (hm : X.mg "enumerate" = none) (ha : PA X [e1] ta) (hK : X.K = K := by rfl) (hs : starEach [e1] X.env = [(false, eval e1 X.env)] := by rfl) (hs0 : starEach [] X.env = [] := by rfl) :
    PI X (.Tuple es kk tpos) (.Call (.Name "enumerate" p) [e1] [] pos) (iEnum K ta) := by
  subst hK
  intro pins s σ H R I h
  refine Call_ (ld_blt I hg hm boot_enumerate (PyProof.Rows.callWith_type1 (thn (ha pos pins s σ H _ I h) fun us s1 ⟨vs, H1, I1, r1, q1⟩ => ?_) (by rw [hs, hs0]) (by rw [hs0]; rfl)))
  obtain ⟨l, xs, e, hl, q⟩ := q1
  subst e
  obtain ⟨u, rfl, ru⟩ := vals1 r1
  cases ru
  obtain ⟨its, rv, hl', _⟩ := I1.list hl
  refine call_enumerate_list hl'.isList fun h' he hi hz kp => wpAny_pyIter_enum he ?_
  obtain ⟨ol, gl, _⟩ := id hl'.isList
  have ll : l < s1.heap.objs.size := Heap.lt_size gl
  have fr : ∀ n, FpOk X pins H1 (s1.heap.objs.size + n) := fun n => I1.fpOk (Nat.le_add_right _ n) (I1.hok.fresh (Nat.le_add_right _ n))
  refine ⟨s1.heap.objs.size + 1, [s1.heap.objs.size + 1, s1.heap.objs.size], _, _, H1, rfl, I1.kept (t' := s1.toks) kp, turn_enum (Nat.succ_ne_self _) (Nat.ne_of_lt (Nat.lt_succ_of_lt ll)) (Nat.ne_of_lt ll), ⟨⟨_, he⟩, hi⟩, fun a ha => ?_, q⟩
  simp only [List.mem_cons, List.not_mem_nil, or_false] at ha
  rcases ha with rfl | rfl
  · exact fr 1
  · exact fr 0
end
theorem for_enum {K : PySem.W.Frag} {l : Addr} {xs : List V} {g : TG} {tb : TS} {D : Ends} {σ : St} {H : Hp} (Pv : Nat → St → Hp → Prop) (h0 : Pv 0 σ H) (hl : ∀ i σ H, i ≤ xs.length → Pv i σ H → SqL K H l xs)
    (hs : ∀ i x σ H p, xs[i]? = some x → Pv i σ H → H p = none → g (.ref p) σ (upd H p (.tup [.int (i : Nat), x])) fun σ2 H2 => tb { D with nx := Pv (i + 1), ct := Pv (i + 1), bk := D.nx } σ2 H2) (hd : ∀ σ H, Pv xs.length σ H → D.nx σ H) :
    ∃ W : Nat → Nat → St → Hp → Prop, (∃ m, W 0 m σ H) ∧ ∀ i m σ H, W i m σ H →
      ((Ite K l).stop i H ∧ D.nx σ H) ∨ ((Ite K l).go i H ∧ ∃ N : St → Hp → Prop, (∀ σ' H', N σ' H' → ∃ m', m' < m ∧ W (i + 1) m' σ' H') ∧ ∀ x H', (Ite K l).yld i H x H' → g x σ H' fun σ2 H2 => tb { D with nx := N, ct := N, bk := D.nx } σ2 H2) := by
  refine ⟨fun i m σ H => m = xs.length - i ∧ i ≤ xs.length ∧ Pv i σ H, ⟨xs.length, by simp, Nat.zero_le _, h0⟩, ?_⟩
  rintro i m σ H ⟨rfl, hi, p⟩
  have hq := hl i σ H hi p
  by_cases hlt : i < xs.length
  · refine .inr ⟨⟨xs, xs[i], hq, by simp [hlt]⟩, Pv (i + 1), fun σ' H' p' => ⟨xs.length - (i + 1), by omega, rfl, hlt, p'⟩, fun x H' y => ?_⟩
    obtain ⟨a, v, fr, rfl, rfl, k⟩ := y
    exact hs i v σ H a (k xs hq) p fr
  · have e : i = xs.length := by omega
    subst e
    exact .inl ⟨⟨xs, hq, Nat.le_refl _⟩, hd σ H p⟩
theorem for_zip {b : Bool} {K : PySem.W.Frag} {l m : Addr} {xs ys : List V} {g : TG} {tb : TS} {D : Ends} {σ : St} {H : Hp} (Pv : Nat → St → Hp → Prop) (he : ys.length = xs.length) (h0 : Pv 0 σ H) (hl : ∀ i σ H, i ≤ xs.length → Pv i σ H → Sq b K H l xs ∧ Sq b K H m ys)
    (hs : ∀ i x y σ H p, xs[i]? = some x → ys[i]? = some y → Pv i σ H → H p = none → g (.ref p) σ (upd H p (.tup [x, y])) fun σ2 H2 => tb { D with nx := Pv (i + 1), ct := Pv (i + 1), bk := D.nx } σ2 H2) (hd : ∀ σ H, Pv xs.length σ H → D.nx σ H) :
    ∃ W : Nat → Nat → St → Hp → Prop, (∃ m, W 0 m σ H) ∧ ∀ i n σ H, W i n σ H →
      ((Itz b K l m).stop i H ∧ D.nx σ H) ∨ ((Itz b K l m).go i H ∧ ∃ N : St → Hp → Prop, (∀ σ' H', N σ' H' → ∃ n', n' < n ∧ W (i + 1) n' σ' H') ∧ ∀ x H', (Itz b K l m).yld i H x H' → g x σ H' fun σ2 H2 => tb { D with nx := N, ct := N, bk := D.nx } σ2 H2) := by
  refine ⟨fun i n σ H => n = xs.length - i ∧ i ≤ xs.length ∧ Pv i σ H, ⟨xs.length, by simp, Nat.zero_le _, h0⟩, ?_⟩
  rintro i n σ H ⟨rfl, hi, p⟩
  obtain ⟨q1, q2⟩ := hl i σ H hi p
  by_cases hlt : i < xs.length
  · have h2 : i < ys.length := by omega
    refine .inr ⟨⟨xs, ys, xs[i], ys[i], q1, q2, by simp [hlt], by simp [h2]⟩, Pv (i + 1), fun σ' H' p' => ⟨xs.length - (i + 1), by omega, rfl, hlt, p'⟩, fun x H' y => ?_⟩
    obtain ⟨a, u, v, fr, rfl, rfl, k1, k2⟩ := y
    exact hs i u v σ H a (k1 xs q1) (k2 ys q2) p fr
  · have e : i = xs.length := by omega
    subst e
    exact .inl ⟨⟨xs, ys, q1, q2, .inl (Nat.le_refl _)⟩, hd σ H p⟩
end L2
namespace L2
open PySem PySem.Spec PyProof.Rows
section
variable {K : Type} [DecidableEq K]
def dropH (xs : List (K × Addr × Value)) (k : K) : List (K × Addr × Value) := xs.filter fun x => decide (x.1 ≠ k)
theorem drop_erase : ∀ {xs : List (K × Addr × Value)} {j : Nat} {k : K} {p : Addr × Value}, (xs.map (·.1)).Nodup → xs[j]? = some (k, p) → xs.eraseIdx j = dropH xs k
  | [], j, k, p, _, h => by simp at h
  | x :: t, 0, k, p, n, h => by
    simp at h
    subst h
    obtain ⟨n1, n2⟩ := List.nodup_cons.mp n
    have : dropH t k = t := by
      unfold dropH
      rw [List.filter_eq_self]
      intro y hy
      simp
      intro e
      exact n1 (List.mem_map.mpr ⟨y, hy, e⟩)
    show t = dropH ((k, p) :: t) k
    unfold dropH at this ⊢
    rw [List.filter_cons_of_neg (by simp), this]
  | x :: t, j + 1, k, p, n, h => by
    obtain ⟨n1, n2⟩ := List.nodup_cons.mp n
    have h' : t[j]? = some (k, p) := by simpa using h
    have hx : x.1 ≠ k := fun e => n1 (List.mem_map.mpr ⟨(k, p), List.mem_of_getElem? h', e.symm⟩)
    have ih := drop_erase n2 h'
    show x :: t.eraseIdx j = dropH (x :: t) k
    unfold dropH at ih ⊢
    rw [List.filter_cons_of_pos (by simpa using hx), ih]
end
theorem map_erase {α β : Type} (f : α → β) : ∀ (l : List α) (j : Nat), (l.eraseIdx j).map f = (l.map f).eraseIdx j
  | [], _ => by simp
  | x :: t, 0 => rfl
  | x :: t, j + 1 => by
    show f x :: (t.eraseIdx j).map f = f x :: (t.map f).eraseIdx j
    rw [map_erase f t j]
section
variable {prog : Program} {w : World} {K : Type} [DecidableEq K] {knd : HeapKind prog w K} {A : Around} {E : Value → Shared → Prop} {s : Shared}
theorem takeOut_heap {d a b : Addr} {v : Value} {xs : List (K × Addr × Value)} {k : K} {Q : Option DictEntry → Shared → Prop} (hu : knd.room A) (hkey : knd.is s.heap k a) (hm : s.heap.DictOfH knd d xs) (hat : atKey xs k = some (b, v))
    (hQ : ∀ (e : DictEntry) h', e.val = v → h'.DictOfH knd d (dropH xs k) → Heap.SameBut d s.heap h' → Q (some e) { s with heap := h', toks := s.toks + knd.draws k }) (hsz : xs.length ≤ sizeLine) :
    wpAny (model prog w) A (Builtin.Dict.takeOut d (.ref a)) Q E s := by
  obtain ⟨o, es, ep, ho, hc, hd, he, his, hn⟩ := hm
  have hes : es.size = xs.length := size_of_entries he
  unfold Builtin.Dict.takeOut
  try with_reducible refine wpAny_holding ?_
  refine wpAny_bind (knd.pyHash hu hkey ?_)
  refine wpAny_bind (wpAny_dictFind_heap (s := { s with toks := s.toks + knd.draws k }) hu hkey ho hd he his hn ?_ ?_)
  · intro hno
    rw [atKey_none_of_get hno] at hat
    cases hat
  · intro j p hj
    have hp := atKey_of_get hn hj
    rw [hat] at hp
    cases hp
    refine wpAny_bind (wpAny_dictEntries (s := { s with toks := s.toks + knd.draws k }) ho hd ?_)
    rw [entry_at he j, hj]
    refine wpAny_bind (wpAny_updateDictKeys (hz := by rw [hes]; exact hsz) (s := { s with toks := s.toks + knd.draws k }) ho hd (wpAny_pure (hQ _ _ rfl ⟨_, _, ep + 1, Heap.get?_update_self _ ho (Obj.isFreed_of_dict (Obj.data_mapDictKeys hd _)),
      hc.mapDictKeys _, Obj.data_mapDictKeys hd _, ?_, ?_, ?_⟩ (Heap.SameBut.update ..))))
    · rw [← drop_erase hn hj, map_erase, ← he]
      obtain ⟨l⟩ := es
      simp
    · intro x hx
      exact knd.keeps (his x (List.mem_filter.mp hx).1) ho hd (Heap.SameBut.update ..)
    · exact (List.Sublist.map _ List.filter_sublist).nodup hn
theorem meetsH_dict_pop {d a : Addr} (knd : HeapKind prog w K) (hd : (d == sysModules) = false) :
    MeetsIn prog w (Builtin.«dict.pop» ⟨[.ref d, .ref a], []⟩) (fun A R s => knd.room A.in1 ∧ ∃ k xs b v, knd.is s.heap k a ∧ s.heap.DictOfH knd d xs ∧ xs.length ≤ sizeLine ∧ atKey xs k = some (b, v) ∧
      ∀ h', h'.DictOfH knd d (dropH xs k) → Heap.SameBut d s.heap h' → R (.ok (.ret v)) { s with heap := h', toks := s.toks + knd.draws k }) :=
  .of_wp fun A R s ⟨hu, k, xs, b, v, hkey, hm, hsz, hat, h⟩ => by
    unfold Builtin.«dict.pop»
    refine wpAny_bind ?_
    unfold Builtin.Dict.keyAndDefault
    refine wpAny_bind (wpAny_notOrdered_dict hm.typeIs ?_)
    show wpAny _ _ (pure (d, Value.ref a, none)) _ _ s
    refine wpAny_pure ?_
    obtain ⟨o, es, ep, ho, hc, hdat, he, his, hn⟩ := id hm
    have hne : es.isEmpty = false := by
      have hs : es.size = xs.length := size_of_entries he
      have : xs ≠ [] := fun z => by rw [z] at hat; cases hat
      have : 0 < xs.length := List.length_pos_iff.mpr this
      rw [Array.isEmpty_eq_false_iff]
      intro z
      rw [z] at hs
      simp at hs
      omega
    simp only [show (keyPart (Value.ref a)).isSome = false from rfl, Bool.false_eq_true, if_false]
    refine wpAny_bind (wpAny_dictEntries ho hdat ?_)
    refine wpAny_bind (wpAny_pure ?_)
    simp only [hne, Bool.false_eq_true, if_false]
    refine wpAny_bind (takeOut_heap hu hkey hm hat (fun e h' hev hm' hs' => ?_) hsz)
    simp only [Option.isNone_some, Bool.false_eq_true, if_false]
    exact wpAny_bind (wpAny_letGo (wpAny_pure ⟨e.val, rfl, by rw [hev]; exact h h' hm' hs'⟩))
end
end L2
namespace L2
open PySem PySem.Spec PyProof.Rows
theorem KT.drop {H : Hp} {kvs : List (List Key × V)} {xs : List (List Key × Addr × Value)} (r : KT H kvs xs) (k : List Key) : KT H (dropK kvs k) (dropH xs k) := by
  induction r with
  | nil => exact .nil
  | @cons p q ps qs h t ih =>
    by_cases e : p.1 = k
    · have e' : q.1 = k := h.1.symm.trans e
      rw [dropK_pos e]
      unfold dropH
      rw [List.filter_cons_of_neg (by simp [e'])]
      exact ih
    · have e' : ¬ q.1 = k := fun z => e (h.1.trans z)
      rw [dropK_neg e]
      unfold dropH
      rw [List.filter_cons_of_pos (by simp [e'])]
      exact .cons h ih
section
variable {X : Cx} {o e : Expr} {apos cpos : Pos} {td ty : TE}
def tDPopT (td ty : TE) : TE := fun σ H Q => td σ H fun x H1 => ∃ a, x = .ref a ∧ IsD H1 a ∧ ty σ H1 fun y H2 => ∃ kvs k b v, H2 a = some (.dT kvs) ∧ y = .ref b ∧ H2 b = some (.tup (k.map kV)) ∧ valV kvs k = some v ∧ Q v (upd H2 a (.dT (dropK kvs k)))
theorem pe_dpopT (hu : X.A.units + 1 < cLine) (ho : PE X o td) (he : PE X e ty) (m : M1 X o "pop" apos e cpos) : PE X (.Call (.Attribute o "pop" apos) [e] [] cpos) (tDPopT td ty) := by
  intro pins s σ H Q I h
  refine wpAny_Call_method m.base m.few m.line PySem.F.plainAttrs_dict PySem.F.slot_dict_pop PySem.F.type_dict_pop (thn (ho pins s σ H _ I h) fun u s1 ⟨x, H1, I1, rx, a, ex, d, q1⟩ => ?_)
  subst ex
  obtain rfl : u = Value.ref a := rx
  obtain ⟨t1, t2, _⟩ := isD_at I1 d
  refine ⟨t1, t2, ?_⟩
  rw [m.trees]
  refine Calls.callWith_builtin rfl (Calls.evalArgs_plain (Calls.spliced_cons (thn (he pins s1 σ H1 _ I1 q1) fun iv s2 ⟨y, H2, I2, ry, kvs, k, b, v, ea, ey, eb, l, q2⟩ => Calls.spliced_nil ?_)))
  subst ey
  cases (show iv = Value.ref b from ry)
  obtain ⟨z, hd, xs, rel, dd⟩ := dt_of I2.hok ea
  have hz : xs.length ≤ sizeLine := by rw [← Paired.length rel]; exact z
  obtain ⟨w', hw, rw'⟩ := RelO.some_of (v := v) (o := (atKey xs k).map (·.2)) (by rw [← l]; exact rel.val k)
  obtain ⟨⟨b', w''⟩, hw1, hw2⟩ := Option.map_eq_some_iff.mp hw
  cases hw2
  refine call_meetsIn PySem.F.slot_dict_pop dd.typeIs PySem.F.entry_dict_pop (PySem.F.args_dict_pop_2 _ _) (meetsH_dict_pop (tupleKind (mixKind X.prog X.w)) hd) ⟨tupleKind_room_in1 hu, k, xs, b', _, key_of I2.hok eb, dd, hz, hw1, fun h' dd' hs => ?_⟩
  obtain ⟨q, es, ep, hq, h2, h3, h4, _, h5⟩ := dd'
  refine ⟨v, upd H2 a (.dT (dropK kvs k)), d_write I2 (ob := .dT (dropK kvs k)) (by rw [ea]; exact True.intro) hs ⟨q, hq⟩ ⟨Nat.le_trans (dropK_le kvs k) z, hd, _, (rel.drop k).keeps fun c ys ec => ?_, q, es, ep, hq, h2, h3, h4, h5⟩, rw', q2⟩
  rw [upd_ne (ne_of ec ea (fun z => nomatch z))]
  exact ec
end
end L2
namespace L2
open PySem PySem.Spec PyProof.Rows
structure Hinted (prog : Program) (w : World) (T : String) (I : Addr) (wr : List Addr) (G : Array GenState → Array GenState → Prop) (n : Nat) (St : Nat → Shared → Prop) : Prop where
  ty : ∀ i s, St i s → s.TypeIs (.ref I) T
  l : (Value.type T == Value.type "list") = false
  t : (Value.type T == Value.type "tuple") = false
  fin : ∀ (B : Around) (s : Shared) (Q : Option Value → Shared → Prop) (E : Value → Shared → Prop), B.handled = none → St n s → (∀ s', Moved wr G s s' → (∃ o, s'.heap.get? I = some o) → Q none s') → wpAny (model prog w) B (pyNext (.ref I)) Q E s
  hint : ∀ (B : Around) (s : Shared) (Q : Bool → Shared → Prop) (E : Value → Shared → Prop), St 0 s → (∀ b tk, s.toks ≤ tk → Q b { s with toks := tk }) → wpAny (model prog w) B (Builtin.List.listLengthHint (.ref I)) Q E s
section
variable {prog : Program} {w : World} {A : Around} {s : Shared} {R : Result → Shared → Prop} {T : String}
variable {I : Addr} {fp wr : List Addr} {G : Array GenState → Array GenState → Prop} {n : Nat} {P : Nat → Value → Prop} {St : Nat → Shared → Prop}
theorem loopA (W : WalksS prog w A.in1 I fp wr G n P St) (hh : A.handled = none) (hT : Hinted prog w T I wr G n St) (hn : n ≤ sizeLine) (S : Addr) (hSf : S ∉ fp) (res : Value) :
    ∀ (k i : Nat) (s : Shared) (acc : Array Value) (c : Nat), n - i = k → i ≤ n → St i s → s.heap.get? S = some { cls := .type "list", dict := none, data := .seq acc c, slots := #[] } → ItemsOf P acc i →
    (∀ s' acc' c', Moved (S :: wr) G s s' → (∃ o, s'.heap.get? I = some o) → s'.heap.get? S = some { cls := .type "list", dict := none, data := .seq acc' c', slots := #[] } → ItemsOf P acc' n → R (.ok (.ret res)) s') →
    codeAny (model prog w) A (.builtin "list.extend.loop" ⟨[.ref S, .ref I, res], []⟩) R s := by
  have hSw : S ∉ wr := fun z => hSf (W.sub _ z)
  have sub : ∀ b ∈ wr, b ∈ S :: wr := fun b hb => List.mem_cons_of_mem _ hb
  intro k
  induction k with
  | zero =>
    intro i s acc c hk hi st g hacc fin
    obtain rfl : i = n := by omega
    refine codeAny_builtin PySem.F.entry_extend_loop ?_
    rw [Around.under_plainId PySem.F.plain_extend_loop _]
    show wpAny _ A.in1 (pyNext (.ref I) >>= _) _ _ s
    refine wpAny_bind (hT.fin _ s _ _ hh st fun s' m al => ?_)
    exact wpAny_pure (fin s' acc c (m.mono sub) al (m.heap S _ hSw g) hacc)
  | succ k ih =>
    intro i s acc c hk hi st g hacc fin
    have lt : i < n := by omega
    refine codeAny_builtin PySem.F.entry_extend_loop ?_
    rw [Around.under_plainId PySem.F.plain_extend_loop _]
    show wpAny _ A.in1 (pyNext (.ref I) >>= _) _ _ s
    refine wpAny_bind (W.item i s _ _ lt st fun v s' pv st' m => ?_)
    have g' := m.heap S _ hSw g
    show wpAny _ A.in1 (updateSeq S (·.push v) >>= _) _ _ _
    refine wpAny_bind ?_
    refine wpAny_updateSeq g' rfl (wpAny_pure ⟨plainId_quiet PySem.F.plain_extend_loop _, ih (i + 1) _ (acc.push v) _ (by omega) lt (W.frame _ s' _ s'.toks st' (Nat.le_refl _) fun b hb o e => ?_) (Heap.get?_update_self _ g' rfl) (hacc.push pv) fun s'' acc' c' m2 al g2 hacc' => ?_⟩)
      (by rw [hacc.1]; omega) (by show (acc.push v).size ≤ sizeLine + 1; rw [Array.size_push, hacc.1]; omega)
    · exact (Heap.get?_update_other _ _ (fun z : S = b => hSf (by rw [z]; exact hb))).trans e
    · refine fin s'' acc' c' (Moved.trans W.gtrans ((m.mono sub).then_heap (Nat.le_refl _) fun b o hb e => ?_) m2) al g2 hacc'
      exact (Heap.get?_update_other _ _ (fun z : S = b => hb (by rw [z]; exact List.mem_cons_self))).trans e
theorem extend_w (W : WalksS prog w A.in1 I fp wr G n P St) (hh : A.handled = none) (hT : Hinted prog w T I wr G n St) (S : Addr) (res : Value) (c₀ : Nat) (hst : St 0 s) (hSf : S ∉ fp) (hI : I ∈ fp) (hS : s.heap.get? S = some { cls := .type "list", data := .seq #[] c₀ })
    (hR : ∀ s' acc' c', Moved (S :: wr) G s s' → (∃ o, s'.heap.get? I = some o) → s'.heap.get? S = some { cls := .type "list", dict := none, data := .seq acc' c', slots := #[] } → ItemsOf P acc' n → R (.ok (.ret res)) s') (hn : n ≤ sizeLine) :
    wpAny (model prog w) A.in1 (Builtin.List.listExtendWith (.ref S) (.ref I) res)
      (fun fin s' => match fin with | .done f => R (.ok f) s' | .again c' => c'.quiet = true ∧ codeAny (model prog w) A c' R s') (fun e s' => R (.error e) s') s := by
  have hSI : S ≠ I := fun e => hSf (e ▸ hI)
  unfold Builtin.List.listExtendWith
  refine wpAny_bind (wpAny_typeOf (hT.ty 0 _ hst) ?_)
  have h1 : Builtin.List.listSameRef (.ref S) (.ref I) = false := by simp [Builtin.List.listSameRef, hSI]
  simp only [h1, hT.l, hT.t, Bool.or_false, Bool.false_eq_true, if_false]
  refine wpAny_bind (W.self 0 _ _ _ hst ?_)
  refine wpAny_bind (wpAny_holding (hT.hint _ _ _ _ hst fun b tk htk => ?_))
  have st1 : St 0 { s with toks := tk } := W.frame 0 s s.heap tk hst htk fun b _ o e => e
  have go : ∀ (h1 : Heap) (acc : Nat), (∀ b o, b ≠ S → s.heap.get? b = some o → h1.get? b = some o) → h1.get? S = some { cls := .type "list", data := .seq #[] acc } → wpAny (model prog w) A.in1 (again (.builtin "list.extend.loop" ⟨[.ref S, .ref I, res], []⟩))
      (fun fin s' => match fin with | .done f => R (.ok f) s' | .again c' => c'.quiet = true ∧ codeAny (model prog w) A c' R s') (fun e s' => R (.error e) s') { s with heap := h1, toks := tk } := fun h1 acc oth g => by
    refine wpAny_pure ⟨plainId_quiet PySem.F.plain_extend_loop _, loopA W hh hT hn _ hSf _ n 0 _ _ _ rfl (Nat.zero_le _) (W.frame 0 { s with toks := tk } h1 tk st1 (Nat.le_refl _) fun b hb o e => oth b o (fun z => hSf (z ▸ hb)) e) g (ItemsOf.nil P) fun s' acc' c' hm al hS' hacc => ?_⟩
    exact hR s' acc' c' (Moved.trans W.gtrans ((Moved.refl W.grefl).then_heap htk fun b o hb e => oth b o (fun z => hb (z ▸ List.mem_cons_self)) e) hm) al hS' hacc
  split
  · refine wpAny_bind (wpAny_rule (wpAny_bind ?_))
    show wpAny _ A.in1 (updateSeq S (·.push .none) >>= fun _ => updateSeq S (·.pop)) _ _ _
    refine wpAny_bind (wpAny_updateSeq hS rfl ?_)
    have g2 := Heap.get?_update_self (Obj.mapSeq (·.push Value.none)) hS rfl
    refine wpAny_updateSeq (hz := by seq_fits) g2 rfl ?_
    have g3 := Heap.get?_update_self (Obj.mapSeq (·.pop)) g2 rfl
    exact go _ _ (fun b o hb e => (Heap.get?_update_other _ _ (Ne.symm hb)).trans ((Heap.get?_update_other _ _ (Ne.symm hb)).trans e)) g3
  · exact go s.heap c₀ (fun b o _ e => e) hS
theorem list_init_w (W : WalksS prog w A.in1 I fp wr G n P St) (hh : A.handled = none) (hT : Hinted prog w T I wr G n St) (S : Addr) (hst : St 0 s) (hSf : S ∉ fp) (hI : I ∈ fp) (hS : s.heap.get? S = some { cls := .type "list", data := .seq #[] })
    (hR : ∀ s' acc' c', Moved (S :: wr) G s s' → (∃ o, s'.heap.get? I = some o) → s'.heap.get? S = some { cls := .type "list", dict := none, data := .seq acc' c', slots := #[] } → ItemsOf P acc' n → R (.ok (.ret .none)) s') (hn : n ≤ sizeLine) :
    wpAny (model prog w) A.in1 (Builtin.«list.__init__» ⟨[.ref S, .ref I], []⟩)
      (fun fin s' => match fin with | .done f => R (.ok f) s' | .again c' => c'.quiet = true ∧ codeAny (model prog w) A c' R s') (fun e s' => R (.error e) s') s := by
  show wpAny _ A.in1 (do let old ← Builtin.List.listItems (.ref S); Builtin.List.listUpdate (.ref S) (fun _ => #[]); letGo old.toList.reverse; Builtin.List.listExtendWith (.ref S) (.ref I) .none) _ _ s
  refine wpAny_bind ?_
  unfold Builtin.List.listItems
  refine wpAny_bind (wpAny_seqItems hS rfl (wpAny_pure ?_))
  show wpAny _ A.in1 (updateSeq S (fun _ => #[]) >>= fun _ => letGo (#[] : Array Value).toList.reverse >>= fun _ => Builtin.List.listExtendWith (.ref S) (.ref I) .none) _ _ s
  refine wpAny_bind (wpAny_updateSeq hS rfl ?_)
  have g2 := Heap.get?_update_self (Obj.mapSeq (fun _ => (#[] : Array Value))) hS rfl
  have oth : ∀ b o, b ≠ S → s.heap.get? b = some o → (s.heap.update S (Obj.mapSeq (fun _ => (#[] : Array Value)))).get? b = some o := fun b o hb e => (Heap.get?_update_other _ _ (Ne.symm hb)).trans e
  refine wpAny_bind (wpAny_letGo ?_)
  refine extend_w (hn := hn) W hh hT S .none _ (W.frame 0 s _ s.toks hst (Nat.le_refl _) fun b hb o e => oth b o (fun z => hSf (z ▸ hb)) e) hSf hI g2 fun s' acc' c' hm al hS' hacc => ?_
  exact hR s' acc' c' (Moved.trans W.gtrans ((Moved.refl W.grefl).then_heap (Nat.le_refl _) fun b o hb e => oth b o (fun z => hb (z ▸ List.mem_cons_self)) e) hm) al hS' hacc
end
section
variable {prog : Program} {w : World} {A : Around} {E : Value → Shared → Prop} {s : Shared} {T : String}
variable {I : Addr} {fp wr : List Addr} {G : Array GenState → Array GenState → Prop} {n : Nat} {P : Nat → Value → Prop} {St : Nat → Shared → Prop}
theorem call_list_w {Q : Value → Shared → Prop} (W : WalksS prog w A.in1.in1 I fp wr G n P St) (hh : A.handled = none) (hT : Hinted prog w T I wr G n St) (hst : St 0 s) (hfp : ∀ b ∈ fp, b < s.heap.objs.size) (hI : I ∈ fp)
    (hQ : ∀ s' acc' c', Moved (s.heap.objs.size :: wr) G { s with heap := s.heap.push { cls := .type "list", data := .seq #[] } } s' → (∃ o, s'.heap.get? I = some o) →
      s'.heap.get? s.heap.objs.size = some { cls := .type "list", dict := none, data := .seq acc' c', slots := #[] } → ItemsOf P acc' n → Q (.ref s.heap.objs.size) s') (hn : n ≤ sizeLine) :
    wpAny (model prog w) A (call (.type "list") [.ref I]) Q E s := by
  have hSf : s.heap.objs.size ∉ fp := fun hm => Nat.lt_irrefl _ (hfp _ hm)
  refine callType_codes (Q₁ := fun obj s₁ => obj = .ref s.heap.objs.size ∧ s₁ = { s with heap := s.heap.push { cls := .type "list", data := .seq #[] } }) PySem.F.called_list (PySem.F.typeCall_list_1 _) PySem.F.entry_list_init
    (code_list_new _ ⟨rfl, rfl⟩) fun obj s₁ h₁ => ?_
  obtain ⟨rfl, rfl⟩ := h₁
  have hS : (s.heap.push { cls := .type "list", data := .seq #[] }).get? s.heap.objs.size = some { cls := .type "list", data := .seq #[] } := Heap.get?_push_size _ rfl
  refine ⟨⟨_, hS, rfl⟩, PySem.F.args_list_init_2 _ _, list_init_w (hn := hn) W hh hT _ (W.frame 0 s _ s.toks hst (Nat.le_refl _) fun b _ o e => Heap.get?_push_of_some _ e) hSf hI hS fun s' acc' c' hm al hS' hacc => ?_⟩
  exact ⟨rfl, hQ s' acc' c' hm al hS' hacc⟩
end
theorem rev_items {items acc : Array Value} (h : ItemsOf (fun i v => items[items.size - 1 - i]? = some v) acc items.size) : acc.toList = items.toList.reverse := by
  apply List.ext_getElem
  · rw [Array.length_toList, h.1, List.length_reverse, Array.length_toList]
  · intro i h1 h2
    have hi : i < acc.size := by simpa using h1
    have this : items[items.size - 1 - i]? = some acc[i] := h.2 i acc[i] (Array.getElem?_eq_getElem hi)
    rw [Array.getElem_toList, List.getElem_reverse, Array.getElem_toList]
    simp only [Array.length_toList]
    rw [Array.getElem?_eq_getElem (by have := h.1; omega)] at this
    exact (Option.some.inj this).symm
section
variable {X : Cx}
def JunkO : HO := .ext fun _ => True
theorem same_state {s s' : Shared} (eg : s'.gens = s.gens) (ed : s'.drawn = s.drawn) (eo : s'.os = s.os) : s' = { s with heap := s'.heap, toks := s'.toks } := by
  obtain ⟨h0, g0, d0, t0, o0⟩ := s'
  simp only at eg ed eo
  subst eg ed eo
  rfl
theorem vals_rev : ∀ {xs : List V} {us : List Value}, Vals xs us → Vals xs.reverse us.reverse
  | _, _, .nil => .nil
  | _, _, .cons r t => by
    rw [List.reverse_cons, List.reverse_cons]
    exact (vals_rev t).append (.cons r .nil)
end
end L2
namespace L2
open PySem PySem.Spec PyProof.Rows
theorem lri_no_len : typeLookup (.type "list_reverseiterator") "__len__" = pure none := by rw [typeLookup_type, builtinLookup_eq_fast]; kernel_rfl
theorem slot_lri_hint : Slot "list_reverseiterator" "__length_hint__" "list_reverseiterator.__length_hint__" :=
  .of (owner := "list_reverseiterator") (n := "__length_hint__") (by rw [typeLookup_type, builtinLookup_eq_fast]; kernel_rfl)
    (by decide +kernel) (by decide +kernel) (by decide +kernel)
    (by first | exact .inl (by decide +kernel) | exact .inr (by decide +kernel)) (by rw [isSubtype_type]; kernel_rfl)
theorem split_lri_hint : splitId "list_reverseiterator.__length_hint__" = some ("list_reverseiterator", "__length_hint__") := by kernel_rfl
theorem sub_lri_self : isSubtype (.type "list_reverseiterator") (.type "list_reverseiterator") = pure true := by rw [isSubtype_type]; kernel_rfl
section
variable {prog : Program} {w : World} {A : Around} {E : Value → Shared → Prop} {s : Shared} {I l : Addr} {items : Array Value}
theorem lri_end {Q : Option Value → Shared → Prop} (hh : A.handled = none) (hit : s.heap.IsRevIter I l (-1))
    (hQ : ∀ h', (∀ b ob, s.heap.get? b = some ob → h'.get? b = some ob) → Q none { s with heap := h' }) : wpAny (model prog w) A (pyNext (.ref I)) Q E s := by
  obtain ⟨o, ho, hc, hd⟩ := id hit
  unfold pyNext
  refine wpAny_bind (wpAny_attempt (wpAny_callSpecial?_slot (name := Str.ofString "__next__") hit.typeIs PySem.F.slot_lri_next
    (wpAny_call_entry PySem.F.slot_lri_next hit.typeIs PySem.F.entry_lri_next ?_ (PySem.F.args_lri_next_1 _))))
  unfold Builtin.«list_reverseiterator.__next__»
  refine wpAny_bind (wpAny_of_eq (a := (Value.ref I, [])) rfl ?_)
  try dsimp only
  refine wpAny_bind (wpAny_field ho hd (x := rawInt (-1)) rfl ?_)
  show wpAny _ _ (if (-1 : Int) < 0 then _ else _) _ _ s
  rw [if_pos (by decide)]
  refine wpAny_bind (wpAny_rule ?_)
  refine wpAny_bind ?_
  show wpAny _ _ (newExc (.type "StopIteration") [] >>= fun e => raiseNew e) _ _ _
  exact wpAny_mono (stop_tail (Q := Q) (E := E) hh fun h' kp => hQ h' kp) (fun _ _ z => False.elim z) fun e s' z => z
theorem lri_hint {Q : Bool → Shared → Prop} (hit : s.heap.IsRevIter I l ((items.size : Int) - 1)) (hl : s.heap.IsList l items) (hz : items.size ≤ sizeLine) (h : ∀ b tk, s.toks ≤ tk → Q b { s with toks := tk }) :
    wpAny (model prog w) A (Builtin.List.listLengthHint (.ref I)) Q E s := by
  have hT := hit.typeIs
  unfold Builtin.List.listLengthHint
  refine wpAny_bind (wpAny_specialOf hT lri_no_len ?_)
  try dsimp only
  show wpAny _ _ (specialOf (.ref I) "__length_hint__" >>= _) _ _ s
  refine wpAny_bind (wpAny_specialOf hT slot_lri_hint.lookup ?_)
  try dsimp only
  simp only [split_lri_hint]
  refine wpAny_bind (wpAny_isInstance hT sub_lri_self ?_)
  simp only [Bool.not_true, Bool.false_eq_true, if_false]
  split
  · exact wpAny_pure (h _ s.toks (Nat.le_refl _))
  · rename_i hs
    exact absurd (by decide) hs
end
section
variable {X : Cx}
def RevL (l p : Addr) (n : Nat) : HO := .ext fun h => h.IsRevIter l p ((n : Int) - 1)
def rRevL (K : PySem.W.Frag) : List V → Hp → VK → Prop := fun xs H Q => ∃ (p : Addr) (ys : List V), xs = [.ref p] ∧ SqL K H p ys ∧ ∀ l, H l = none → Q (.ref l) (upd H l (RevL l p ys.length))
theorem call_reversedLK (K : PySem.W.Frag) (h : X.K = K := by rfl) : CallR X (.type "reversed") (rRevL K) := by
  subst h
  intro pins s σ H xs us Q I r h
  obtain ⟨p, ys, rfl, hq, q⟩ := h
  obtain ⟨u, rfl, rx⟩ := vals1 r
  cases rx
  obtain ⟨its, r', pl, hz⟩ := I.list hq
  have hl := r'.length
  refine call_reversed_list pl.isList ?_
  have e : (s.heap.push (revObj p (((its.toArray.size : Nat) : Int) - 1))).get? s.heap.objs.size = some (revObj p ((ys.length : Int) - 1)) := by
    rw [List.size_toArray, ← hl]
    exact Heap.get?_push_size _ rfl
  have new : ObjOk X.prog X.w (upd H s.heap.objs.size (RevL s.heap.objs.size p ys.length)) (s.heap.push (revObj p (((its.toArray.size : Nat) : Int) - 1))) s.heap.objs.size (RevL s.heap.objs.size p ys.length) :=
    ⟨⟨_, e, rfl, rfl⟩, ⟨_, e⟩, fun h1 h2 a b => a.at b⟩
  exact ⟨.ref s.heap.objs.size, _, I.laid (t' := s.toks) (fun b o e => Heap.get?_push_of_some _ e) (Nat.le_refl _) new, rfl, q _ (I.hok.fresh (Nat.le_refl _))⟩
theorem hinted_lri {prog : Program} {w : World} {l I : Addr} {items : Array Value} (hz : items.size ≤ sizeLine) : Hinted prog w "list_reverseiterator" I [I] (fun a b => b = a) items.size (fun k s => k ≤ items.size ∧ s.heap.IsRevIter I l ((items.size : Int) - 1 - (k : Nat)) ∧ s.heap.IsList l items) where
  ty := fun i s st => st.2.1.typeIs
  l := by decide
  t := by decide
  fin := fun B s Q E hB st hQ => by
    have st2 := st.2.1
    rw [show ((items.size : Nat) : Int) - 1 - (items.size : Nat) = (-1 : Int) by omega] at st2
    obtain ⟨o, ho, _⟩ := id st2
    exact lri_end hB st2 fun h' kp => hQ _ ⟨fun b ob hb e => kp b ob e, rfl, rfl, rfl, Nat.le_refl _⟩ ⟨_, kp _ _ ho⟩
  hint := fun B s Q E st h => lri_hint (items := items) (by simpa using st.2.1) st.2.2 hz h
def rOfRevL (K : PySem.W.Frag) (mk : List V → HO) : List V → Hp → VK → Prop := fun xs H Q => ∃ (l p : Addr) (ys : List V), xs = [.ref l] ∧ H l = some (RevL l p ys.length) ∧ SqL K H p ys ∧ p ≠ l ∧ ∀ t, H t = none → Q (.ref t) (upd (upd H l JunkO) t (mk ys.reverse))
theorem junkL {pins : List (Addr × Obj)} {σ : St} {H : Hp} {s : Shared} {l p : Addr} {n tk : Nat} {h' : Heap} (I : Inv X pins σ H s) (e : H l = some (RevL l p n)) (kp : ∀ b o, b ≠ l → s.heap.get? b = some o → h'.get? b = some o) (he : ∃ o, h'.get? l = some o) :
    Inv X pins σ (upd H l JunkO) { s with heap := h', toks := tk } :=
  I.write (x := l) (e := l) (by rw [e]; exact True.intro) (.inl rfl) kp he ⟨True.intro, he, fun _ _ a _ => a⟩
theorem call_list_revLK (K : PySem.W.Frag) (hc : X.calm = true) (h : X.K = K := by rfl) : CallR X (.type "list") (rOfRevL K .lst) := by
  subst h
  intro pins s σ H xs us Q I r h
  obtain ⟨l, p, ys, rfl, e, hq, hne, q⟩ := h
  obtain ⟨u, rfl, rx⟩ := vals1 r
  cases rx
  obtain ⟨its, r', pl, hz⟩ := I.list hq
  have hl := r'.length
  have hh := I.ok.hd hc
  have g : s.heap.IsRevIter l p ((ys.length : Int) - 1) := (show ObjOk X.prog X.w H s.heap l (RevL l p ys.length) from I.hok l _ e).1
  have hz' : its.toArray.size ≤ sizeLine := by rw [List.size_toArray]; omega
  refine call_list_w ((Walks.listRev (A := X.A.in1.in1) (l := p) (I := l) (items := its.toArray) hh hne).toS) hh (hinted_lri (l := p) (I := l) (items := its.toArray) hz') ⟨Nat.zero_le _, ?_, pl.isList⟩ (fun b hb => ?_) (by simp) (fun s' acc c m al gS hacc => ?_) hz'
  · rw [List.size_toArray, ← hl]
    simpa using g
  · simp only [List.mem_cons, List.not_mem_nil, or_false] at hb
    rcases hb with rfl | rfl
    · obtain ⟨o, e1, _⟩ := g
      exact Heap.lt_size e1
    · obtain ⟨o, e1, _⟩ := pl.isList
      exact Heap.lt_size e1
  · have eacc : acc.toList = its.reverse := by simpa using rev_items hacc
    have kp : ∀ b o, b ≠ l → s.heap.get? b = some o → s'.heap.get? b = some o := fun b o hb z => m.heap b o (by
      simp only [List.mem_cons, List.not_mem_nil, or_false, not_or]
      exact ⟨Nat.ne_of_lt (Heap.lt_size z), hb⟩) (Heap.get?_push_of_some _ z)
    have I1 : Inv X pins σ (upd H l JunkO) { s with heap := s'.heap, toks := s'.toks } := junkL I e kp al
    rw [← same_state (show s'.gens = s.gens from m.gens) m.drawn m.os] at I1
    have hn0 : H s.heap.objs.size = none := I.hok.fresh (Nat.le_refl _)
    have hnl : s.heap.objs.size ≠ l := fun z => by rw [z, e] at hn0; cases hn0
    have hn : (upd H l JunkO) s.heap.objs.size = none := by rw [upd_ne hnl]; exact hn0
    have ea : acc = its.reverse.toArray := by rw [← eacc]
    have I2 : Inv X pins σ (upd (upd H l JunkO) s.heap.objs.size (.lst ys.reverse)) s' :=
      I.call' (s' := s') (ch := []) m.os (Un.track (Un.write (x := l) (e := l) (by rw [e]; exact True.intro) (.inl rfl) kp al) (Nat.le_refl _) hn0) (HOk.track I1.hok hn ⟨by rw [List.length_reverse]; exact hz, its.reverse, c, vals_rev r', by rw [← ea]; exact gS⟩) (by rw [show s'.gens = s.gens from m.gens]; exact I.bare) (fun b z => nomatch z)
    exact ⟨.ref s.heap.objs.size, _, I2, rfl, q _ hn0⟩
end
end L2
namespace L2
open PySem PySem.Spec PyProof.Rows
section
variable {X : Cx}
theorem mt_popAtR : MtR X "list.pop" rPopAt := mt_popAt
end
end L2
namespace L2
open PySem PySem.Spec PyProof.Rows
section
variable {X : Cx}
def selfV : V → Bool
  | .int _ | .bl _ | .non | .ref _ => true
  | _ => false
def rNeSelf (K : PySem.W.Frag) : R2 := fun x y H Q => ∃ (a b : Addr) (xs : List V), x = .ref a ∧ y = .ref b ∧ SqL K H a (xs) ∧ SqL K H b xs ∧ xs.all selfV = true ∧ Q (.bl false) H
theorem self_eq {A : Around} {s : Shared} {x : V} {u v : Value} (h : selfV x = true) (ru : RelV x u) (rv : RelV x v) : SeqAt.EqAt A s u v true := by
  cases x with
  | int i =>
    obtain ⟨t, rfl⟩ := ru
    obtain ⟨t', rfl⟩ := rv
    have := SeqAt.EqAt.int_int (A := A) (s := s) i t i t'
    rwa [beq_self_eq_true] at this
  | bl b => cases ru; cases rv; exact SeqAt.EqAt.same _
  | non => cases ru; cases rv; exact SeqAt.EqAt.same _
  | ref a => cases ru; cases rv; exact SeqAt.EqAt.same _
  | _ => cases h
theorem op_neSelfK (K : PySem.W.Frag) (hu : X.A.units < cLine) (h : X.K = K := by rfl) : OpR X (compareOp .NotEq) (rNeSelf K) := by
  subst h
  intro pins s σ H x y v u Q I rx ry h
  obtain ⟨a, b, xs, rfl, rfl, ha, hb, hr, q⟩ := h
  cases rx
  cases ry
  obtain ⟨us, r1, p1, _⟩ := I.list ha
  obtain ⟨vs, r2, p2, _⟩ := I.list hb
  have l1 := r1.length
  have l2 := r2.length
  refine SeqAt.RcNeAt.lists (e := fun j => true) p1.isList p2.isList (by simp only [List.size_toArray]; omega) (by omega) (fun j h1 h2 => ?_) X.prog X.w X.xe _ ?_
  · rw [List.size_toArray] at h1 h2
    have e1 : xs[j]? = some (xs[j]'(by omega)) := List.getElem?_eq_getElem _
    obtain ⟨u, w1, s1⟩ := r1.get e1
    obtain ⟨v, w2, s2⟩ := r2.get e1
    have z1 : us.toArray[j] = u := by rw [List.getElem?_eq_getElem h1] at w1; simpa using w1
    have z2 : vs.toArray[j] = v := by rw [List.getElem?_eq_getElem h2] at w2; simpa using w2
    rw [z1, z2]
    exact self_eq (List.all_eq_true.mp hr _ (List.getElem_mem _)) s1 s2
  · have : ((List.range us.toArray.size).all fun _ => true) = true := by simp
    rw [this]
    exact ⟨.bl false, H, I, rfl, q⟩
end
end L2
open PySem
namespace L2
variable {X : Cx}
end L2
namespace L2
open PySem PySem.Spec PyProof.Rows PySem.W
def gallopP : Bool → Keyed → Array Keyed → Nat → Nat → Nat → StateT SortSt Sem (Option Nat) := sortPriv% PySem.Builtin.gallop
def mergeLoP : Array Keyed → Array Keyed → StateT SortSt Sem (Array Keyed) := sortPriv% PySem.Builtin.mergeLo
def mergeHiP : Array Keyed → Array Keyed → StateT SortSt Sem (Array Keyed) := sortPriv% PySem.Builtin.mergeHi
def Cmp (prog : Program) (w : World) (A : Around) (s : Shared) (κ : SortKind) (it : Nat → Keyed) (r : Nat → Int) (N : Nat) : Prop :=
  ∀ i j, i < N → j < N → ∀ C : Bool → Shared → Prop, C (decide (r i < r j)) s → wpAny (model prog w) A (keyLt' κ (it i).1 (it j).1) C (fun _ _ => False) s
section
variable {prog : Program} {w : World} {A : Around} {E : Value → Shared → Prop} {s : Shared} {κ : SortKind} {it : Nat → Keyed} {r : Nat → Int} {N : Nat}
theorem elem_ok {arr : Array Keyed} {i : Nat} {x : Keyed} {st : SortSt} {Q : Keyed → SortSt → Prop} (e : arr[i]? = some x) (h : Q x st) : wpS (model prog w) A E s (elem' arr i) Q st := by
  rw [elem'_eq, e]; exact wpS_pure h
theorem lt_ok (hc : Cmp prog w A s κ it r N) {i j : Nat} {st : SortSt} {Q : Option Bool → SortSt → Prop} (hk : kindOf st = κ) (hi : i < N) (hj : j < N) (h : Q (some (decide (r i < r j))) st) : wpS (model prog w) A E s (lt' (it i) (it j)) Q st := by
  rw [lt'_eq]
  refine wpS_bind (wpS_get ?_)
  rw [hk]
  refine wpS_bind (wpS_lift (wpAny_attempt (wpAny_mono (hc i j hi hj (fun b s' => b = decide (r i < r j) ∧ s' = s) ⟨rfl, rfl⟩) (fun b s' z => ?_) (fun _ _ z => z.elim))))
  obtain ⟨rfl, rfl⟩ := z
  exact ⟨rfl, wpS_pure h⟩
theorem bs_ok {n : Nat} {P : Nat → Prop} [DecidablePred P] {st : SortSt} {f : Nat → Option (Option Nat) × Nat × Nat → StateT SortSt Sem (ForInStep (Option (Option Nat) × Nat × Nat))} {Q : Option (Option Nat) × Nat × Nat → SortSt → Prop}
    (mono : ∀ i j, i ≤ j → j < n → P j → P i)
    (f1 : ∀ x lo hi (Q' : ForInStep (Option (Option Nat) × Nat × Nat) → SortSt → Prop), hi ≤ lo → Q' (.done (none, lo, hi)) st → wpS (model prog w) A E s (f x (none, lo, hi)) Q' st)
    (f2 : ∀ x lo hi (Q' : ForInStep (Option (Option Nat) × Nat × Nat) → SortSt → Prop), lo < hi → hi ≤ n → (P (lo + (hi - lo) / 2) → Q' (.yield (none, lo + (hi - lo) / 2 + 1, hi)) st) → (¬ P (lo + (hi - lo) / 2) → Q' (.yield (none, lo, lo + (hi - lo) / 2)) st) → wpS (model prog w) A E s (f x (none, lo, hi)) Q' st)
    {lo hi : Nat} (h1 : lo ≤ hi) (h2 : hi ≤ n) (a : ∀ i, i < lo → P i) (b : ∀ i, hi ≤ i → i < n → ¬ P i)
    (hQ : ∀ k, k ≤ n → (∀ i, i < k → P i) → (∀ i, k ≤ i → i < n → ¬ P i) → Q (none, k, k) st) : wpS (model prog w) A E s (forIn [:n] ((none, lo, hi) : Option (Option Nat) × Nat × Nat) f) Q st := by
  refine wpS_forRange (I := fun x c st' => st' = st ∧ ∃ lo hi, c = (none, lo, hi) ∧ lo ≤ hi ∧ hi ≤ n ∧ hi - lo ≤ n - x ∧ (∀ i, i < lo → P i) ∧ (∀ i, hi ≤ i → i < n → ¬ P i)) ?_ ?_ ⟨rfl, lo, hi, rfl, h1, h2, by omega, a, b⟩
  · rintro x c st' _ hx ⟨rfl, lo, hi, rfl, h1, h2, h3, a, b⟩
    by_cases g : hi ≤ lo
    · refine f1 x lo hi _ g ?_
      have : lo = hi := by omega
      subst this
      exact hQ lo h2 a b
    · refine f2 x lo hi _ (by omega) h2 (fun p => ?_) (fun p => ?_)
      · exact ⟨rfl, _, _, rfl, by omega, h2, by omega, fun i hi' => mono i _ (by omega) (by omega) p, b⟩
      · exact ⟨rfl, _, _, rfl, by omega, by omega, by omega, a, fun i i1 i2 z => p (mono _ i i1 i2 z)⟩
  · rintro c st' ⟨rfl, lo, hi, rfl, h1, h2, h3, a, b⟩
    have : lo = hi := by omega
    subst this
    exact hQ lo h2 a b
theorem gallop_ok {left : Bool} {key : Keyed} {arr : Array Keyed} {b n h : Nat} {P : Nat → Prop} [DecidablePred P] {st : SortSt} {Q : Option Nat → SortSt → Prop} (hh : h < n) (mono : ∀ i j, i ≤ j → j < n → P j → P i)
    (hb : ∀ i, i < n → ∀ Q' : Option Bool → SortSt → Prop, Q' (some (decide (P i))) st → wpS (model prog w) A E s (do let x ← elem' arr (b + i); if left = true then lt' x key else do let z ← lt' key x; pure (z.map (!·))) Q' st)
    (hQ : ∀ k, k ≤ n → (∀ i, i < k → P i) → (∀ i, k ≤ i → i < n → ¬ P i) → Q (some k) st) : wpS (model prog w) A E s (gallopP left key arr b n h) Q st := by
  refine wpS_bind (m := StateT.bind _ _) (hb h hh _ ?_)
  dsimp only
  by_cases c : P h
  · rw [if_pos (decide_eq_true c)]
    refine wpS_bind (wpS_mono (wpS_forRange (I := fun x c st' => st' = st ∧ ∃ l o, c = (none, l, o) ∧ l < n - h ∧ P (h + l) ∧ l < o ∧ x < o)
      (Q := fun c st' => st' = st ∧ ∃ l o, c = (none, l, o) ∧ l < n - h ∧ P (h + l) ∧ l < o ∧ (n - h ≤ o ∨ ¬ P (h + o))) ?_ ?_ ⟨rfl, 0, 1, rfl, by omega, c, by omega, by omega⟩) ?_)
    · rintro x c st' _ hx ⟨rfl, l, o, rfl, h1, h2, h3, h4⟩
      dsimp only
      by_cases g : n - h ≤ o
      · rw [if_pos g]
        exact wpS_pure ⟨rfl, l, o, rfl, h1, h2, h3, .inl g⟩
      · rw [if_neg g]
        refine wpS_bind (hb (h + o) (by omega) _ ?_)
        by_cases p : P (h + o)
        · simp only [p, decide_true, Bool.not_true, Bool.false_eq_true, if_false]
          exact wpS_pure ⟨rfl, o, 2 * o + 1, rfl, by omega, p, by omega, by omega⟩
        · simp only [p, decide_false, Bool.not_false, if_true]
          exact wpS_pure ⟨rfl, l, o, rfl, h1, h2, h3, .inr p⟩
    · rintro c st' ⟨rfl, l, o, rfl, h1, h2, h3, h4⟩
      exact ⟨rfl, l, o, rfl, h1, h2, h3, .inl (by omega)⟩
    · rintro c st' ⟨rfl, l, o, rfl, h1, h2, h3, h4⟩
      dsimp only
      refine wpS_bind (bs_ok (P := P) mono (fun x lo hi Q' g q => ?_) (fun x lo hi Q' g g2 q1 q2 => ?_) (show h + l + 1 ≤ h + min o (n - h) by omega) (by omega) (fun i hi => mono i _ (by omega) (by omega) h2) (fun i i1 i2 z => ?_) fun k k1 k2 k3 => ?_)
      · dsimp only
        rw [if_pos g]
        exact wpS_pure q
      · dsimp only
        rw [if_neg (by omega)]
        refine wpS_bind (hb _ (by omega) _ ?_)
        by_cases p : P (lo + (hi - lo) / 2)
        · simp only [p, decide_true, if_true]
          exact wpS_pure (q1 p)
        · simp only [p, decide_false, Bool.false_eq_true, if_false]
          exact wpS_pure (q2 p)
      · rcases h4 with h4 | h4
        · omega
        · exact h4 (mono _ i (by omega) i2 z)
      · exact wpS_pure (hQ k k1 k2 k3)
  · rw [if_neg (by simpa using c)]
    refine wpS_bind (wpS_mono (wpS_forRange (I := fun x c st' => st' = st ∧ ∃ l o, c = (none, l, o) ∧ l ≤ h ∧ ¬ P (h - l) ∧ l < o ∧ x < o)
      (Q := fun c st' => st' = st ∧ ∃ l o, c = (none, l, o) ∧ l ≤ h ∧ ¬ P (h - l) ∧ l < o ∧ (h + 1 ≤ o ∨ P (h - o))) ?_ ?_ ⟨rfl, 0, 1, rfl, by omega, c, by omega, by omega⟩) ?_)
    · rintro x c st' _ hx ⟨rfl, l, o, rfl, h1, h2, h3, h4⟩
      dsimp only
      by_cases g : h + 1 ≤ o
      · rw [if_pos g]
        exact wpS_pure ⟨rfl, l, o, rfl, h1, h2, h3, .inl g⟩
      · rw [if_neg g]
        refine wpS_bind (hb (h - o) (by omega) _ ?_)
        by_cases p : P (h - o)
        · simp only [p, decide_true, if_true]
          exact wpS_pure ⟨rfl, l, o, rfl, h1, h2, h3, .inr p⟩
        · simp only [p, decide_false, Bool.false_eq_true, if_false]
          exact wpS_pure ⟨rfl, o, 2 * o + 1, rfl, by omega, p, by omega, by omega⟩
    · rintro c st' ⟨rfl, l, o, rfl, h1, h2, h3, h4⟩
      exact ⟨rfl, l, o, rfl, h1, h2, h3, .inl (by omega)⟩
    · rintro c st' ⟨rfl, l, o, rfl, h1, h2, h3, h4⟩
      dsimp only
      refine wpS_bind (bs_ok (P := P) mono (fun x lo hi Q' g q => ?_) (fun x lo hi Q' g g2 q1 q2 => ?_) (show h + 1 - min o (h + 1) ≤ h - l by omega) (by omega) (fun i hi => ?_) (fun i i1 i2 z => h2 (mono _ i i1 i2 z)) fun k k1 k2 k3 => ?_)
      · dsimp only
        rw [if_pos g]
        exact wpS_pure q
      · dsimp only
        rw [if_neg (by omega)]
        refine wpS_bind (hb _ (by omega) _ ?_)
        by_cases p : P (lo + (hi - lo) / 2)
        · simp only [p, decide_true, if_true]
          exact wpS_pure (q1 p)
        · simp only [p, decide_false, Bool.false_eq_true, if_false]
          exact wpS_pure (q2 p)
      · rcases h4 with h4 | h4
        · omega
        · exact mono _ (h - o) (by omega) (by omega) h4
      · exact wpS_pure (hQ k k1 k2 k3)
end
def Srt (r : Nat → Int) (l : List Nat) : Prop := l.Pairwise fun x y => r x ≤ r y
abbrev arrI (it : Nat → Keyed) (l : List Nat) : Array Keyed := (l.map it).toArray
section
variable {r : Nat → Int} {it : Nat → Keyed} {la lb : List Nat}
theorem arrI_get {l : List Nat} {i k : Nat} (h : l[i]? = some k) : (arrI it l)[i]? = some (it k) := by simp [h]
theorem arrI_app (l l' : List Nat) : arrI it l ++ arrI it l' = arrI it (l ++ l') := by simp
theorem arrI_cut (l : List Nat) (i j : Nat) : (arrI it l).extract i j = arrI it ((l.drop i).take (j - i)) := by simp [List.extract, List.map_take, List.map_drop]
theorem arrI_size (l : List Nat) : (arrI it l).size = l.length := by simp
theorem arrI_end (l : List Nat) (i : Nat) : (arrI it l).extract i (arrI it l).size = arrI it (l.drop i) := by
  rw [arrI_cut, arrI_size, List.take_of_length_le (by simp)]
theorem Srt.at {l : List Nat} (h : Srt r l) {i j x y : Nat} (hij : i ≤ j) (hx : l[i]? = some x) (hy : l[j]? = some y) : r x ≤ r y := by
  obtain ⟨hi, rfl⟩ := List.getElem?_eq_some_iff.mp hx
  obtain ⟨hj, rfl⟩ := List.getElem?_eq_some_iff.mp hy
  rcases Nat.lt_or_eq_of_le hij with q | q
  · exact List.pairwise_iff_getElem.mp h i j hi hj q
  · subst q; exact Int.le_refl _
theorem mem_drop_at {l : List Nat} {i y : Nat} (h : y ∈ l.drop i) : ∃ j, i ≤ j ∧ l[j]? = some y := by
  obtain ⟨j, hj⟩ := List.getElem?_of_mem h
  rw [List.getElem?_drop] at hj
  exact ⟨i + j, Nat.le_add_right _ _, hj⟩
theorem mem_take_at {l : List Nat} {i y : Nat} (h : y ∈ l.take i) : ∃ j, j < i ∧ l[j]? = some y := by
  obtain ⟨j, hj⟩ := List.getElem?_of_mem h
  rw [List.getElem?_take] at hj
  by_cases c : j < i
  · rw [if_pos c] at hj; exact ⟨j, c, hj⟩
  · rw [if_neg c] at hj; cases hj
theorem le_drop {l : List Nat} (h : Srt r l) {i x : Nat} {k : Int} (hx : l[i]? = some x) (q : k ≤ r x) : ∀ y ∈ l.drop i, k ≤ r y := fun y hy => by
  obtain ⟨j, hj, e⟩ := mem_drop_at hy
  exact Int.le_trans q (h.at hj hx e)
theorem get_some {l : List Nat} {i : Nat} (h : i < l.length) : ∃ k, l[i]? = some k := ⟨_, List.getElem?_eq_getElem h⟩
theorem srt_app {a b : List Nat} (ha : Srt r a) (hb : Srt r b) (h : ∀ x ∈ a, ∀ y ∈ b, r x ≤ r y) : Srt r (a ++ b) := List.pairwise_append.mpr ⟨ha, hb, h⟩
theorem srt_drop {l : List Nat} (h : Srt r l) (i : Nat) : Srt r (l.drop i) := List.Pairwise.drop h
theorem srt_take {l : List Nat} (h : Srt r l) (i : Nat) : Srt r (l.take i) := List.Pairwise.take h
def Good (it : Nat → Keyed) (r : Nat → Int) (la lb : List Nat) (res : Array Keyed) : Prop := ∃ lm, res = arrI it lm ∧ Srt r lm ∧ lm.Perm (la ++ lb)
def Lo (it : Nat → Keyed) (r : Nat → Int) (la lb : List Nat) (out : Array Keyed) (i j : Nat) : Prop := ∃ lo, out = arrI it lo ∧ Srt r lo ∧ (∀ x ∈ lo, ∀ y, y ∈ la.drop i ∨ y ∈ lb.drop j → r x ≤ r y) ∧ lo.Perm (la.take i ++ lb.take j)
theorem Lo.blockA {out : Array Keyed} {i j k : Nat} (sa : Srt r la) (h : Lo it r la lb out i j) (q : ∀ x ∈ (la.drop i).take k, ∀ y ∈ lb.drop j, r x ≤ r y) : Lo it r la lb (out ++ (arrI it la).extract i (i + k)) (i + k) j := by
  obtain ⟨lo, rfl, h1, h2, h3⟩ := h
  rw [arrI_cut, arrI_app, Nat.add_sub_cancel_left]
  refine ⟨_, rfl, srt_app h1 (srt_take (srt_drop sa _) _) fun x hx y hy => h2 x hx y (.inl (List.mem_of_mem_take hy)), fun x hx y hy => ?_, ?_⟩
  · rcases List.mem_append.mp hx with hx | hx
    · rcases hy with hy | hy
      · refine h2 x hx y (.inl ?_)
        rw [← List.drop_drop] at hy
        exact List.mem_of_mem_drop hy
      · exact h2 x hx y (.inr hy)
    · rcases hy with hy | hy
      · rw [← List.drop_drop] at hy
        exact (List.pairwise_append.mp (by rw [List.take_append_drop]; exact srt_drop sa i)).2.2 x hx y hy
      · exact q x hx y hy
  · rw [List.take_add]
    refine (List.Perm.append_right _ h3).trans ?_
    rw [List.append_assoc, List.append_assoc]
    exact List.Perm.append_left _ List.perm_append_comm
theorem Lo.blockB {out : Array Keyed} {i j k : Nat} (sb : Srt r lb) (h : Lo it r la lb out i j) (q : ∀ x ∈ (lb.drop j).take k, ∀ y ∈ la.drop i, r x ≤ r y) : Lo it r la lb (out ++ (arrI it lb).extract j (j + k)) i (j + k) := by
  obtain ⟨lo, rfl, h1, h2, h3⟩ := h
  rw [arrI_cut, arrI_app, Nat.add_sub_cancel_left]
  refine ⟨_, rfl, srt_app h1 (srt_take (srt_drop sb _) _) fun x hx y hy => h2 x hx y (.inr (List.mem_of_mem_take hy)), fun x hx y hy => ?_, ?_⟩
  · rcases List.mem_append.mp hx with hx | hx
    · rcases hy with hy | hy
      · exact h2 x hx y (.inl hy)
      · refine h2 x hx y (.inr ?_)
        rw [← List.drop_drop] at hy
        exact List.mem_of_mem_drop hy
    · rcases hy with hy | hy
      · exact q x hx y hy
      · rw [← List.drop_drop] at hy
        exact (List.pairwise_append.mp (by rw [List.take_append_drop]; exact srt_drop sb j)).2.2 x hx y hy
  · rw [List.take_add, ← List.append_assoc]
    exact List.Perm.append_right _ h3
theorem cut_one {l : List Nat} {i k : Nat} (e : l[i]? = some k) : (l.drop i).take 1 = [k] := by
  obtain ⟨hi, rfl⟩ := List.getElem?_eq_some_iff.mp e
  rw [List.drop_eq_getElem_cons hi]
  rfl
theorem push_cut {out : Array Keyed} {l : List Nat} {i k : Nat} (e : l[i]? = some k) : out ++ (arrI it l).extract i (i + 1) = out.push (it k) := by
  rw [arrI_cut, Nat.add_sub_cancel_left, cut_one e]; rfl
theorem Lo.pushA {out : Array Keyed} {i j k : Nat} (sa : Srt r la) (h : Lo it r la lb out i j) (e : la[i]? = some k) (q : ∀ y ∈ lb.drop j, r k ≤ r y) : Lo it r la lb (out.push (it k)) (i + 1) j := by
  have := h.blockA (k := 1) sa (fun x hx y hy => by
    rw [cut_one e, List.mem_singleton] at hx
    subst hx; exact q y hy)
  rwa [push_cut e] at this
theorem Lo.pushB {out : Array Keyed} {i j k : Nat} (sb : Srt r lb) (h : Lo it r la lb out i j) (e : lb[j]? = some k) (q : ∀ y ∈ la.drop i, r k ≤ r y) : Lo it r la lb (out.push (it k)) i (j + 1) := by
  have := h.blockB (k := 1) sb (fun x hx y hy => by
    rw [cut_one e, List.mem_singleton] at hx
    subst hx; exact q y hy)
  rwa [push_cut e] at this
theorem Lo.endB {out : Array Keyed} {i j : Nat} (sa : Srt r la) (h : Lo it r la lb out i j) (e : lb.length ≤ j) : Good it r la lb (out ++ (arrI it la).extract i (arrI it la).size ++ (arrI it lb).extract j (arrI it lb).size) := by
  obtain ⟨lo, rfl, h1, h2, h3⟩ := h
  rw [arrI_end, arrI_end, arrI_app, arrI_app, List.drop_eq_nil_of_le e, List.append_nil]
  refine ⟨_, rfl, srt_app h1 (srt_drop sa _) fun x hx y hy => h2 x hx y (.inl hy), ?_⟩
  rw [List.take_of_length_le e] at h3
  refine (List.Perm.append_right _ h3).trans ?_
  rw [List.append_assoc]
  refine (List.Perm.append_left _ List.perm_append_comm).trans ?_
  rw [← List.append_assoc, List.take_append_drop]
theorem Lo.endA {out : Array Keyed} {i j : Nat} (sa : Srt r la) (sb : Srt r lb) (h : Lo it r la lb out i j) (q : ∀ x ∈ lb, ∀ y ∈ la.drop i, r x ≤ r y) : Good it r la lb (out ++ (arrI it lb).extract j (arrI it lb).size ++ (arrI it la).extract i (arrI it la).size) := by
  obtain ⟨lo, rfl, h1, h2, h3⟩ := h
  rw [arrI_end, arrI_end, arrI_app, arrI_app]
  refine ⟨_, rfl, srt_app (srt_app h1 (srt_drop sb _) fun x hx y hy => h2 x hx y (.inr hy)) (srt_drop sa _) fun x hx y hy => ?_, ?_⟩
  · rcases List.mem_append.mp hx with hx | hx
    · exact h2 x hx y (.inl hy)
    · exact q x (List.mem_of_mem_drop hx) y hy
  · rw [List.append_assoc]
    refine (List.Perm.append_right _ h3).trans ?_
    rw [List.append_assoc, ← List.append_assoc (lb.take j), List.take_append_drop]
    refine (List.Perm.append_left _ List.perm_append_comm).trans ?_
    rw [← List.append_assoc, List.take_append_drop]
end
end L2
namespace L2
open PySem PySem.Spec PyProof.Rows PySem.W
abbrev setG (st : SortSt) (g : Nat) : SortSt := SortSt.mk' (kindOf st) (arrOf st) (pendingOf st) g (failedOf st)
section
variable {prog : Program} {w : World} {A : Around} {E : Value → Shared → Prop} {s : Shared} {κ : SortKind} {it : Nat → Keyed} {r : Nat → Int} {N : Nat} {la lb : List Nat}
theorem wpS_ite2 {α : Type} {c : Prop} [Decidable c] {x y : StateT SortSt Sem α} {Q : α → SortSt → Prop} {st : SortSt} (h1 : c → wpS (model prog w) A E s x Q st) (h2 : ¬ c → wpS (model prog w) A E s y Q st) : wpS (model prog w) A E s (if c then x else y) Q st := by
  by_cases q : c
  · rw [if_pos q]; exact h1 q
  · rw [if_neg q]; exact h2 q
theorem wpS_jp {α β : Type} {c : Prop} [Decidable c] {F : β → StateT SortSt Sem α} {u v : β} {Q : α → SortSt → Prop} {st : SortSt} (J : ∀ b, wpS (model prog w) A E s (F b) Q st) : wpS (model prog w) A E s (if c then F u else F v) Q st := wpS_ite2 (fun _ => J _) (fun _ => J _)
theorem wpS_cut {α β γ : Type} {F : β → γ → StateT SortSt Sem α} (P : β → γ → Prop) {x : StateT SortSt Sem α} {Q : α → SortSt → Prop} {st : SortSt} (J : ∀ b c, P b c → wpS (model prog w) A E s (F b c) Q st) (h : (∀ b c, P b c → wpS (model prog w) A E s (F b c) Q st) → wpS (model prog w) A E s x Q st) : wpS (model prog w) A E s x Q st := h J
theorem getD_at {l : List Nat} {i x : Nat} (e : l[i]? = some x) : l.getD i 0 = x := by rw [List.getD, e]; rfl
def SrtOn (r : Nat → Int) (l : List Nat) (a b : Nat) : Prop := ∀ i j x y, a ≤ i → i ≤ j → j < b → l[i]? = some x → l[j]? = some y → r x ≤ r y
theorem Srt.on {l : List Nat} (h : Srt r l) {a b : Nat} : SrtOn r l a b := fun i j x y _ hij _ ex ey => h.at hij ex ey
theorem gal_f (hc : Cmp prog w A s κ it r N) {st : SortSt} (hk : kindOf st = κ) {l : List Nat} {b n h k : Nat} {Q : Option Nat → SortSt → Prop} (sl : SrtOn r l b (b + n)) (nl : ∀ x ∈ l, x < N) (kN : k < N) (hn : b + n ≤ l.length) (hh : h < n)
    (hQ : ∀ c, c ≤ n → (∀ i x, i < c → l[b + i]? = some x → r x ≤ r k) → (∀ i x, c ≤ i → i < n → l[b + i]? = some x → r k < r x) → Q (some c) st) : wpS (model prog w) A E s (gallopP false (it k) (arrI it l) b n h) Q st := by
  refine gallop_ok (P := fun i => r (l.getD (b + i) 0) ≤ r k) hh (fun i j hij hj p => ?_) (fun i hi Q' q => ?_) fun c c1 c2 c3 => ?_
  · obtain ⟨x, ex⟩ := get_some (l := l) (i := b + i) (by omega)
    obtain ⟨y, ey⟩ := get_some (l := l) (i := b + j) (by omega)
    rw [getD_at ex]; rw [getD_at ey] at p
    exact Int.le_trans (sl _ _ _ _ (by omega) (by omega) (by omega) ex ey) p
  · obtain ⟨x, ex⟩ := get_some (l := l) (i := b + i) (by omega)
    refine wpS_bind (elem_ok (arrI_get ex) ?_)
    rw [if_neg (by decide)]
    refine wpS_bind (lt_ok hc hk kN (nl _ (List.mem_of_getElem? ex)) (wpS_pure ?_))
    rw [getD_at ex] at q
    rw [show Option.map (fun x => !x) (some (decide (r k < r x))) = some (decide (r x ≤ r k)) from congrArg some ((decide_not (p := r k < r x)).symm.trans (decide_eq_decide.mpr Int.not_lt))]
    exact q
  · refine hQ c c1 (fun i x hi ex => ?_) (fun i x h1 h2 ex => ?_)
    · have := c2 i hi
      rwa [getD_at ex] at this
    · have := c3 i h1 h2
      rw [getD_at ex] at this
      exact Int.not_le.mp this
theorem gal_t (hc : Cmp prog w A s κ it r N) {st : SortSt} (hk : kindOf st = κ) {l : List Nat} {b n h k : Nat} {Q : Option Nat → SortSt → Prop} (sl : SrtOn r l b (b + n)) (nl : ∀ x ∈ l, x < N) (kN : k < N) (hn : b + n ≤ l.length) (hh : h < n)
    (hQ : ∀ c, c ≤ n → (∀ i x, i < c → l[b + i]? = some x → r x < r k) → (∀ i x, c ≤ i → i < n → l[b + i]? = some x → r k ≤ r x) → Q (some c) st) : wpS (model prog w) A E s (gallopP true (it k) (arrI it l) b n h) Q st := by
  refine gallop_ok (P := fun i => r (l.getD (b + i) 0) < r k) hh (fun i j hij hj p => ?_) (fun i hi Q' q => ?_) fun c c1 c2 c3 => ?_
  · obtain ⟨x, ex⟩ := get_some (l := l) (i := b + i) (by omega)
    obtain ⟨y, ey⟩ := get_some (l := l) (i := b + j) (by omega)
    rw [getD_at ex]; rw [getD_at ey] at p
    exact Int.lt_of_le_of_lt (sl _ _ _ _ (by omega) (by omega) (by omega) ex ey) p
  · obtain ⟨x, ex⟩ := get_some (l := l) (i := b + i) (by omega)
    refine wpS_bind (elem_ok (arrI_get ex) ?_)
    rw [if_pos rfl]
    rw [getD_at ex] at q
    exact lt_ok hc hk (nl _ (List.mem_of_getElem? ex)) kN q
  · refine hQ c c1 (fun i x hi ex => ?_) (fun i x h1 h2 ex => ?_)
    · have := c2 i hi
      rwa [getD_at ex] at this
    · have := c3 i h1 h2
      rw [getD_at ex] at this
      exact Int.not_lt.mp this
theorem mergeLo_ok (hc : Cmp prog w A s κ it r N) {st : SortSt} {Q : Array Keyed → SortSt → Prop} (hk : kindOf st = κ) (na : ∀ x ∈ la, x < N) (nb : ∀ x ∈ lb, x < N) (sa : Srt r la) (sb : Srt r lb) (ha : 1 ≤ la.length) (hb : 1 ≤ lb.length)
    (first : ∀ x, lb[0]? = some x → ∀ y ∈ la, r x ≤ r y) (last : ∀ z, la[la.length - 1]? = some z → ∀ y ∈ lb, r y < r z) (hQ : ∀ res g, Good it r la lb res → Q res (setG st g)) :
    wpS (model prog w) A E s (mergeLoP (arrI it la) (arrI it lb)) Q st := by
  refine wpS_bind (wpS_lift (wpAny_rule ⟨rfl, ?_⟩))
  obtain ⟨b0, eb0⟩ := get_some (l := lb) (i := 0) (by omega)
  refine wpS_bind (elem_ok (arrI_get eb0) ?_)
  have L0 : Lo it r la lb #[it b0] 0 1 := (show Lo it r la lb #[] 0 0 from ⟨[], rfl, .nil, (fun x hx => absurd hx List.not_mem_nil), .refl _⟩).pushB sb eb0 (fun y hy => first _ eb0 y hy)
  have fin : ∀ {out : Array Keyed} {i j : Nat}, Lo it r la lb out i j → i + 1 = la.length → Good it r la lb (out ++ (arrI it lb).extract j (arrI it lb).size ++ (arrI it la).extract i (arrI it la).size) := fun {out i j} h e => h.endA sa sb fun x hx y hy => by
    obtain ⟨z, ez⟩ := get_some (l := la) (i := la.length - 1) (by omega)
    obtain ⟨j', h1, h2⟩ := mem_drop_at hy
    have := (List.getElem?_eq_some_iff.mp h2).1
    have e2 : j' = la.length - 1 := by omega
    subst e2
    exact Int.le_of_lt (last y h2 x hx)
  have memA : ∀ {i k : Nat}, la[i]? = some k → k < N := fun e => na _ (List.mem_of_getElem? e)
  have memB : ∀ {i k : Nat}, lb[i]? = some k → k < N := fun e => nb _ (List.mem_of_getElem? e)
  have szA : (arrI it la).size = la.length := arrI_size la
  have szB : (arrI it lb).size = lb.length := arrI_size lb
  by_cases c1 : 1 = lb.length
  · rw [if_pos (by rw [szB, beq_iff_eq]; exact c1)]
    exact wpS_pure (hQ _ _ (L0.endB sa (by omega)))
  rw [if_neg (by rw [szB, beq_iff_eq]; exact c1)]
  by_cases c2 : 0 + 1 = la.length
  · rw [if_pos (by rw [szA, beq_iff_eq]; exact c2)]
    exact wpS_pure (hQ _ _ (fin L0 c2))
  rw [if_neg (by rw [szA, beq_iff_eq]; exact c2)]
  refine wpS_bind (wpS_get ?_)
  refine wpS_bind (wpS_mono (wpS_forRange (I := fun x c st' => ∃ out i j m g, c = (none, out, i, j, m) ∧ st' = setG st g ∧ Lo it r la lb out i j ∧ i + 1 < la.length ∧ j < lb.length ∧ x < i + j)
    (Q := fun c st' => ∃ res g, c.1 = some res ∧ st' = setG st g ∧ Good it r la lb res) ?_ ?_ ⟨_, 0, 1, _, gallopOf st, rfl, rfl, L0, by omega, by omega, by omega⟩) ?_)
  · rintro x c st' _ hx ⟨out, i, j, m, g, rfl, rfl, L, hi, hj, hij⟩
    refine wpS_bind (wpS_mono (wpS_forRange (I := fun y c st' => ∃ out i j p q, c = (none, out, i, j, p, q) ∧ st' = setG st g ∧ Lo it r la lb out i j ∧ i + 1 < la.length ∧ j < lb.length ∧ x + min y 1 < i + j)
      (Q := fun c st' => st' = setG st g ∧ ((∃ res, c.1 = some res ∧ Good it r la lb res) ∨ ∃ out i j p q, c = (none, out, i, j, p, q) ∧ Lo it r la lb out i j ∧ i + 1 < la.length ∧ j < lb.length ∧ x + 1 < i + j)) ?_ ?_ ⟨out, i, j, 0, 0, rfl, rfl, L, hi, hj, by omega⟩) ?_)
    · rintro y c st' _ hy ⟨out, i, j, p, q, rfl, rfl, L, hi, hj, hij⟩
      obtain ⟨kb, eb⟩ := get_some hj
      obtain ⟨ka, ea⟩ := get_some (l := la) (i := i) (by omega)
      refine wpS_bind (elem_ok (arrI_get eb) (wpS_bind (elem_ok (arrI_get ea) (wpS_bind (lt_ok hc hk (memB eb) (memA ea) ?_)))))
      by_cases c : r kb < r ka
      · rw [decide_eq_true c]
        dsimp only
        rw [if_pos rfl]
        have L' := L.pushB sb eb (le_drop sa ea (Int.le_of_lt c))
        refine wpS_bind (elem_ok (arrI_get eb) (wpS_ite2 (fun e => ?_) (fun e => ?_)))
        · rw [szB, beq_iff_eq] at e
          exact wpS_pure ⟨rfl, .inl ⟨_, rfl, L'.endB sa (by omega)⟩⟩
        · rw [szB, beq_iff_eq] at e
          exact wpS_ite2 (fun _ => wpS_pure ⟨rfl, .inr ⟨_, _, _, _, _, rfl, L', hi, by omega, by omega⟩⟩) (fun _ => wpS_pure ⟨_, _, _, _, _, rfl, rfl, L', hi, by omega, by omega⟩)
      · rw [decide_eq_false c]
        dsimp only
        rw [if_neg (by decide)]
        have L' := L.pushA sa ea (le_drop sb eb (Int.not_lt.mp c))
        refine wpS_bind (elem_ok (arrI_get ea) (wpS_ite2 (fun e => ?_) (fun e => ?_)))
        · rw [szA, beq_iff_eq] at e
          exact wpS_pure ⟨rfl, .inl ⟨_, rfl, fin L' e⟩⟩
        · rw [szA, beq_iff_eq] at e
          exact wpS_ite2 (fun _ => wpS_pure ⟨rfl, .inr ⟨_, _, _, _, _, rfl, L', by omega, hj, by omega⟩⟩) (fun _ => wpS_pure ⟨_, _, _, _, _, rfl, rfl, L', by omega, hj, by omega⟩)
    · rintro c st' ⟨out, i, j, p, q, rfl, rfl, L, hi, hj, hij⟩
      exact ⟨rfl, .inr ⟨_, _, _, _, _, rfl, L, hi, hj, by omega⟩⟩
    · rintro c st' ⟨rfl, h⟩
      rcases h with ⟨res, h1, h2⟩ | ⟨out, i, j, p, q, rfl, L, hi, hj, hij⟩
      · obtain ⟨c1, c2⟩ := c
        cases h1
        exact wpS_pure ⟨res, g, rfl, rfl, h2⟩
      · refine wpS_bind (wpS_lift (wpAny_rule ⟨rfl, ?_⟩))
        refine wpS_bind (wpS_mono (wpS_forRange (I := fun y c st' => ∃ out i j m p q g, c = (none, out, i, j, m, p, q) ∧ st' = setG st g ∧ Lo it r la lb out i j ∧ i + 1 < la.length ∧ j < lb.length ∧ x + 1 < i + j)
          (Q := fun c st' => ∃ g, st' = setG st g ∧ ((∃ res, c.1 = some res ∧ Good it r la lb res) ∨ ∃ out i j m p q, c = (none, out, i, j, m, p, q) ∧ Lo it r la lb out i j ∧ i + 1 < la.length ∧ j < lb.length ∧ x + 1 < i + j)) ?_ ?_ ⟨out, i, j, _, p, q, g, rfl, rfl, L, hi, hj, by omega⟩) ?_)
        · rintro y c st' _ hy ⟨out, i, j, m, p, q, g, rfl, rfl, L, hi, hj, hij⟩
          obtain ⟨kb, eb⟩ := get_some hj
          extract_lets _ _ _ _ _ _ _ _ _ _ _ _ jp _
          refine wpS_jp (F := jp ()) fun mg => ?_
          refine wpS_bind (wpS_modify ?_)
          refine wpS_bind (elem_ok (arrI_get eb) (wpS_bind (gal_f (b := i) (n := (arrI it la).size - i) (h := 0) (st := setG st mg) hc hk sa.on na (memB eb) (by omega) (by omega) fun k k1 k2 k3 => ?_)))
          dsimp (config := { zeta := false }) only
          extract_lets _ jp2 _ _
          refine wpS_cut (F := jp2 ()) (fun o i' => Lo it r la lb o i' j ∧ i' + 1 < la.length ∧ i ≤ i' ∧ ∀ y ∈ la.drop i', r kb ≤ r y) (fun o i' hp => ?_) (fun J2 => ?_)
          · obtain ⟨L1, hi1, hi2, le1⟩ := hp
            have L2 := L1.pushB sb eb le1
            refine wpS_bind (elem_ok (arrI_get eb) (wpS_ite2 (fun e => ?_) (fun e => ?_)))
            · replace e : j + 1 = lb.length := by rw [← szB]; exact beq_iff_eq.mp e
              have G := L2.endB sa (show lb.length ≤ j + 1 by omega)
              exact wpS_pure ⟨_, rfl, .inl ⟨_, rfl, G⟩⟩
            · replace e : ¬ j + 1 = lb.length := fun z => e (beq_iff_eq.mpr (by rw [← szB] at z; exact z))
              obtain ⟨ka, ea⟩ := get_some (l := la) (i := i') (by omega)
              refine wpS_bind (elem_ok (arrI_get ea) (wpS_bind (gal_t (b := j + 1) (n := (arrI it lb).size - (j + 1)) (h := 0) (st := setG st mg) hc hk sb.on nb (memA ea) (by omega) (by omega) fun k' k1' k2' k3' => ?_)))
              dsimp (config := { zeta := false }) only
              extract_lets _ _ jp3 _ _
              refine wpS_cut (F := jp3 ()) (fun o j' => Lo it r la lb o i' j' ∧ j' < lb.length ∧ j ≤ j' ∧ ∀ y ∈ lb.drop j', r ka ≤ r y) (fun o j' hp => ?_) (fun J3 => ?_)
              · obtain ⟨L3, hj1, hj2, le3⟩ := hp
                have L4 := L3.pushA sa ea le3
                refine wpS_bind (elem_ok (arrI_get ea) (wpS_ite2 (fun e => ?_) (fun e => ?_)))
                · replace e : i' + 1 + 1 = la.length := by rw [← szA]; exact beq_iff_eq.mp e
                  exact wpS_pure ⟨_, rfl, .inl ⟨_, rfl, fin L4 e⟩⟩
                · replace e : ¬ i' + 1 + 1 = la.length := fun z => e (beq_iff_eq.mpr (by rw [← szA] at z; exact z))
                  exact wpS_ite2 (fun _ => wpS_pure ⟨_, rfl, .inr ⟨_, i' + 1, j', _, _, _, rfl, L4, by omega, by omega, by omega⟩⟩) (fun _ => wpS_pure ⟨_, i' + 1, j', _, _, _, _, rfl, rfl, L4, by omega, by omega, by omega⟩)
              · refine wpS_ite2 (fun k0 => ?_) (fun k0 => ?_)
                · have L3 := L2.blockB (k := k') sb (fun x hx => le_drop sa ea (by
                    obtain ⟨t, t1, t2⟩ := mem_take_at hx
                    rw [List.getElem?_drop] at t2
                    exact Int.le_of_lt (k2' t x t1 t2)))
                  refine wpS_ite2 (fun e => ?_) (fun e => ?_)
                  · replace e : j + 1 + k' = lb.length := by rw [← szB]; exact beq_iff_eq.mp e
                    have G := L3.endB sa (show lb.length ≤ j + 1 + k' by omega)
                    exact wpS_pure ⟨_, rfl, .inl ⟨_, rfl, G⟩⟩
                  · replace e : ¬ j + 1 + k' = lb.length := fun z => e (beq_iff_eq.mpr (by rw [← szB] at z; exact z))
                    refine J3 _ (j + 1 + k') ⟨L3, by omega, by omega, fun y hy => ?_⟩
                    obtain ⟨t, t1, t2⟩ := mem_drop_at hy
                    have := (List.getElem?_eq_some_iff.mp t2).1
                    exact k3' (t - (j + 1)) y (by omega) (by omega) (by rw [show j + 1 + (t - (j + 1)) = t by omega]; exact t2)
                · refine J3 _ (j + 1) ⟨L2, by omega, by omega, fun y hy => ?_⟩
                  obtain ⟨t, t1, t2⟩ := mem_drop_at hy
                  have := (List.getElem?_eq_some_iff.mp t2).1
                  exact k3' (t - (j + 1)) y (by omega) (by omega) (by rw [show j + 1 + (t - (j + 1)) = t by omega]; exact t2)
          · have last' : i + k < la.length := by
              obtain ⟨z, ez⟩ := get_some (l := la) (i := la.length - 1) (by omega)
              by_cases q : i + k < la.length
              · exact q
              · have h1 := k2 (la.length - 1 - i) z (by omega) (by rw [show i + (la.length - 1 - i) = la.length - 1 by omega]; exact ez)
                have h2 := last z ez kb (List.mem_of_getElem? eb)
                omega
            refine wpS_ite2 (fun k0 => ?_) (fun k0 => ?_)
            · have L1 := L.blockA (k := k) sa (fun x hx => le_drop sb eb (by
                obtain ⟨t, t1, t2⟩ := mem_take_at hx
                rw [List.getElem?_drop] at t2
                exact k2 t x t1 t2))
              refine wpS_ite2 (fun e => ?_) (fun e => wpS_ite2 (fun e2 => ?_) (fun e2 => ?_))
              · replace e : i + k + 1 = la.length := by rw [← szA]; exact beq_iff_eq.mp e
                exact wpS_pure ⟨_, rfl, .inl ⟨_, rfl, fin L1 e⟩⟩
              · replace e2 : i + k = la.length := by rw [← szA]; exact beq_iff_eq.mp e2
                omega
              · replace e : ¬ i + k + 1 = la.length := fun z => e (beq_iff_eq.mpr (by rw [← szA] at z; exact z))
                refine J2 _ (i + k) ⟨L1, by omega, by omega, fun y hy => ?_⟩
                obtain ⟨t, t1, t2⟩ := mem_drop_at hy
                have := (List.getElem?_eq_some_iff.mp t2).1
                exact Int.le_of_lt (k3 (t - i) y (by omega) (by omega) (by rw [show i + (t - i) = t by omega]; exact t2))
            · refine J2 _ i ⟨L, by omega, by omega, fun y hy => ?_⟩
              obtain ⟨t, t1, t2⟩ := mem_drop_at hy
              have := (List.getElem?_eq_some_iff.mp t2).1
              exact Int.le_of_lt (k3 (t - i) y (by omega) (by omega) (by rw [show i + (t - i) = t by omega]; exact t2))
        · rintro c st' ⟨out, i, j, m, p, q, g, rfl, rfl, L, hi, hj, hij⟩
          exact ⟨g, rfl, .inr ⟨_, _, _, _, _, _, rfl, L, hi, hj, hij⟩⟩
        · rintro c st' ⟨g, rfl, h⟩
          rcases h with ⟨res, h1, h2⟩ | ⟨out, i, j, m, p, q, rfl, L, hi, hj, hij⟩
          · obtain ⟨c1, c2⟩ := c
            cases h1
            exact wpS_pure ⟨res, g, rfl, rfl, h2⟩
          · exact wpS_bind (wpS_modify (wpS_pure ⟨_, _, _, _, _, rfl, rfl, L, hi, hj, hij⟩))
  · rintro c st' ⟨out, i, j, m, g, rfl, rfl, L, hi, hj, hij⟩
    rw [szA, szB] at hij
    omega
  · rintro c st' ⟨res, g, hc', rfl, hg⟩
    obtain ⟨c1, c2⟩ := c
    cases hc'
    exact wpS_pure (hQ _ _ hg)
end
end L2
namespace L2
open PySem PySem.Spec PyProof.Rows PySem.W
section
variable {r : Nat → Int} {it : Nat → Keyed} {la lb : List Nat}
def Hi (it : Nat → Keyed) (r : Nat → Int) (la lb : List Nat) (out : Array Keyed) (i j : Nat) : Prop := ∃ lo, out.reverse = arrI it lo ∧ Srt r lo ∧ (∀ x ∈ lo, ∀ y, y ∈ la.take i ∨ y ∈ lb.take j → r y ≤ r x) ∧ lo.Perm (la.drop i ++ lb.drop j)
theorem cut_drop (l : List Nat) {a i : Nat} (h : a ≤ i) : (l.drop a).take (i - a) ++ l.drop i = l.drop a := by
  have := List.take_append_drop (i - a) (l.drop a)
  rwa [List.drop_drop, show a + (i - a) = i by omega] at this
theorem cut_take {l : List Nat} {a i x : Nat} (h : a ≤ i) (hx : x ∈ (l.drop a).take (i - a)) : x ∈ l.take i := by
  obtain ⟨t, t1, t2⟩ := mem_take_at hx
  rw [List.getElem?_drop] at t2
  exact List.mem_of_getElem? (i := a + t) (by rw [List.getElem?_take, if_pos (by omega)]; exact t2)
theorem take_take {l : List Nat} {a i x : Nat} (h : a ≤ i) (hx : x ∈ l.take a) : x ∈ l.take i := by
  obtain ⟨t, t1, t2⟩ := mem_take_at hx
  exact List.mem_of_getElem? (i := t) (by rw [List.getElem?_take, if_pos (by omega)]; exact t2)
theorem le_take {l : List Nat} (h : Srt r l) {i x : Nat} {k : Int} (hx : l[i]? = some x) (q : r x ≤ k) : ∀ y ∈ l.take (i + 1), r y ≤ k := fun y hy => by
  obtain ⟨j, hj, e⟩ := mem_take_at hy
  exact Int.le_trans (h.at (by omega) e hx) q
theorem Srt.cut {l : List Nat} (h : Srt r l) {a i x y : Nat} (hx : x ∈ l.take a) (hy : y ∈ (l.drop a).take (i - a)) : r x ≤ r y := by
  obtain ⟨t, t1, t2⟩ := mem_take_at hx
  obtain ⟨u, u1, u2⟩ := mem_take_at hy
  rw [List.getElem?_drop] at u2
  exact h.at (by omega) t2 u2
theorem Hi.blockA {out : Array Keyed} {a i j : Nat} (sa : Srt r la) (h : Hi it r la lb out i j) (hai : a ≤ i) (q : ∀ x ∈ (la.drop a).take (i - a), ∀ y ∈ lb.take j, r y ≤ r x) : Hi it r la lb (out ++ ((arrI it la).extract a i).reverse) a j := by
  obtain ⟨lo, e, h1, h2, h3⟩ := h
  refine ⟨(la.drop a).take (i - a) ++ lo, by rw [Array.reverse_append, Array.reverse_reverse, e, arrI_cut, arrI_app], srt_app (srt_take (srt_drop sa _) _) h1 fun x hx y hy => h2 y hy x (.inl (cut_take hai hx)), fun x hx y hy => ?_, ?_⟩
  · rcases List.mem_append.mp hx with hx | hx
    · rcases hy with hy | hy
      · exact sa.cut hy hx
      · exact q x hx y hy
    · exact h2 x hx y (hy.imp (take_take hai) id)
  · refine (List.Perm.append_left _ h3).trans ?_
    rw [← List.append_assoc, cut_drop la hai]
theorem Hi.blockB {out : Array Keyed} {a i j : Nat} (sb : Srt r lb) (h : Hi it r la lb out i j) (haj : a ≤ j) (q : ∀ x ∈ (lb.drop a).take (j - a), ∀ y ∈ la.take i, r y ≤ r x) : Hi it r la lb (out ++ ((arrI it lb).extract a j).reverse) i a := by
  obtain ⟨lo, e, h1, h2, h3⟩ := h
  refine ⟨(lb.drop a).take (j - a) ++ lo, by rw [Array.reverse_append, Array.reverse_reverse, e, arrI_cut, arrI_app], srt_app (srt_take (srt_drop sb _) _) h1 fun x hx y hy => h2 y hy x (.inr (cut_take haj hx)), fun x hx y hy => ?_, ?_⟩
  · rcases List.mem_append.mp hx with hx | hx
    · rcases hy with hy | hy
      · exact q x hx y hy
      · exact sb.cut hy hx
    · exact h2 x hx y (hy.imp id (take_take haj))
  · refine (List.Perm.append_left _ h3).trans ?_
    rw [← List.append_assoc]
    refine (List.Perm.append_right _ List.perm_append_comm).trans ?_
    rw [List.append_assoc, cut_drop lb haj]
theorem push_cutR {out : Array Keyed} {l : List Nat} {i k : Nat} (e : l[i]? = some k) : out ++ ((arrI it l).extract i (i + 1)).reverse = out.push (it k) := by
  rw [arrI_cut, Nat.add_sub_cancel_left, cut_one e]; rfl
theorem Hi.pushA {out : Array Keyed} {i j k : Nat} (sa : Srt r la) (h : Hi it r la lb out (i + 1) j) (e : la[i]? = some k) (q : ∀ y ∈ lb.take j, r y ≤ r k) : Hi it r la lb (out.push (it k)) i j := by
  have := h.blockA (a := i) sa (by omega) (fun x hx y hy => by
    rw [Nat.add_sub_cancel_left, cut_one e, List.mem_singleton] at hx
    subst hx; exact q y hy)
  rwa [push_cutR e] at this
theorem Hi.pushB {out : Array Keyed} {i j k : Nat} (sb : Srt r lb) (h : Hi it r la lb out i (j + 1)) (e : lb[j]? = some k) (q : ∀ y ∈ la.take i, r y ≤ r k) : Hi it r la lb (out.push (it k)) i j := by
  have := h.blockB (a := j) sb (by omega) (fun x hx y hy => by
    rw [Nat.add_sub_cancel_left, cut_one e, List.mem_singleton] at hx
    subst hx; exact q y hy)
  rwa [push_cutR e] at this
theorem arrI_head (l : List Nat) (i : Nat) : (arrI it l).extract 0 i = arrI it (l.take i) := by
  rw [arrI_cut, List.drop_zero, Nat.sub_zero]
theorem Hi.endA {out : Array Keyed} {j : Nat} (sb : Srt r lb) (h : Hi it r la lb out 0 j) : Good it r la lb ((arrI it la).extract 0 0 ++ (arrI it lb).extract 0 j ++ out.reverse) := by
  obtain ⟨lo, e, h1, h2, h3⟩ := h
  rw [e, arrI_head, arrI_head, arrI_app, arrI_app, List.take_zero, List.nil_append]
  refine ⟨_, rfl, srt_app (srt_take sb _) h1 fun x hx y hy => h2 y hy x (.inr hx), ?_⟩
  rw [List.drop_zero] at h3
  refine (List.Perm.append_left _ h3).trans ?_
  rw [← List.append_assoc]
  refine (List.Perm.append_right _ List.perm_append_comm).trans ?_
  rw [List.append_assoc, List.take_append_drop]
theorem Hi.endB {out : Array Keyed} {i j : Nat} (sa : Srt r la) (sb : Srt r lb) (h : Hi it r la lb out i j) (q : ∀ x ∈ lb.take j, ∀ y ∈ la, r x ≤ r y) : Good it r la lb ((arrI it lb).extract 0 j ++ (arrI it la).extract 0 i ++ out.reverse) := by
  obtain ⟨lo, e, h1, h2, h3⟩ := h
  rw [e, arrI_head, arrI_head, arrI_app, arrI_app]
  refine ⟨_, rfl, srt_app (srt_app (srt_take sb _) (srt_take sa _) fun x hx y hy => q x hx y (List.mem_of_mem_take hy)) h1 fun x hx y hy => h2 y hy x ((List.mem_append.mp hx).symm), ?_⟩
  refine (List.Perm.append_left _ h3).trans ?_
  rw [List.append_assoc, ← List.append_assoc (la.take i), List.take_append_drop]
  refine List.perm_append_comm.trans ?_
  rw [List.append_assoc]
  refine List.Perm.append_left _ ?_
  exact List.perm_append_comm.trans (by rw [List.take_append_drop])
end
section
variable {prog : Program} {w : World} {A : Around} {E : Value → Shared → Prop} {s : Shared} {κ : SortKind} {it : Nat → Keyed} {r : Nat → Int} {N : Nat} {la lb : List Nat}
theorem mergeHi_ok (hc : Cmp prog w A s κ it r N) {st : SortSt} {Q : Array Keyed → SortSt → Prop} (hk : kindOf st = κ) (na : ∀ x ∈ la, x < N) (nb : ∀ x ∈ lb, x < N) (sa : Srt r la) (sb : Srt r lb) (ha : 1 ≤ la.length) (hb : 1 ≤ lb.length)
    (first : ∀ x, lb[0]? = some x → ∀ y ∈ la, r x < r y) (last : ∀ z, la[la.length - 1]? = some z → ∀ y ∈ lb, r y < r z) (hQ : ∀ res g, Good it r la lb res → Q res (setG st g)) :
    wpS (model prog w) A E s (mergeHiP (arrI it la) (arrI it lb)) Q st := by
  refine wpS_bind (wpS_lift (wpAny_rule ⟨rfl, ?_⟩))
  have szA : (arrI it la).size = la.length := arrI_size la
  have szB : (arrI it lb).size = lb.length := arrI_size lb
  obtain ⟨n, en⟩ : ∃ n, la.length = n + 1 := ⟨la.length - 1, by omega⟩
  have szA' : (arrI it la).size - 1 = n := by omega
  obtain ⟨a0, ea0⟩ := get_some (l := la) (i := n) (by omega)
  refine wpS_bind (elem_ok (x := it a0) (by rw [szA']; exact arrI_get ea0) ?_)
  rw [szA', szB]
  have L0 : Hi it r la lb #[it a0] n lb.length := (show Hi it r la lb #[] (n + 1) lb.length from ⟨[], rfl, .nil, (fun x hx => absurd hx List.not_mem_nil), by rw [← en, List.drop_length, List.drop_length]; exact .nil⟩).pushA sa ea0 (fun y hy => Int.le_of_lt (last _ (by rw [en]; exact ea0) y (List.mem_of_mem_take hy)))
  have fin : ∀ {out : Array Keyed} {i : Nat}, Hi it r la lb out i 1 → Good it r la lb ((arrI it lb).extract 0 1 ++ (arrI it la).extract 0 i ++ out.reverse) := fun {out i} h => h.endB sa sb fun x hx y hy => by
    obtain ⟨j', h1, h2⟩ := mem_take_at hx
    have e2 : j' = 0 := by omega
    subst e2
    exact Int.le_of_lt (first x h2 y hy)
  have memA : ∀ {i k : Nat}, la[i]? = some k → k < N := fun e => na _ (List.mem_of_getElem? e)
  have memB : ∀ {i k : Nat}, lb[i]? = some k → k < N := fun e => nb _ (List.mem_of_getElem? e)
  by_cases c1 : n = 0
  · rw [if_pos (beq_iff_eq.mpr c1)]
    subst c1
    exact wpS_pure (hQ _ _ (L0.endA sb))
  rw [if_neg (fun z => c1 (beq_iff_eq.mp z))]
  by_cases c2 : lb.length = 1
  · rw [if_pos (beq_iff_eq.mpr c2)]
    rw [c2] at L0 ⊢
    exact wpS_pure (hQ _ _ (fin L0))
  rw [if_neg (fun z => c2 (beq_iff_eq.mp z))]
  refine wpS_bind (wpS_get ?_)
  refine wpS_bind (wpS_mono (wpS_forRange (I := fun x c st' => ∃ i j out m g, c = (none, i, j, out, m) ∧ st' = setG st g ∧ Hi it r la lb out i j ∧ 1 ≤ i ∧ 2 ≤ j ∧ i ≤ la.length ∧ j ≤ lb.length ∧ x + i + j < la.length + lb.length)
    (Q := fun c st' => ∃ res g, c.1 = some res ∧ st' = setG st g ∧ Good it r la lb res) ?_ ?_ ⟨n, lb.length, _, _, gallopOf st, rfl, rfl, L0, by omega, by omega, by omega, by omega, by omega⟩) ?_)
  · rintro x c st' _ hx ⟨i, j, out, m, g, rfl, rfl, L, hi, hj, hi', hj', hij⟩
    refine wpS_bind (wpS_mono (wpS_forRange (I := fun y c st' => ∃ i j out p q, c = (none, i, j, out, p, q) ∧ st' = setG st g ∧ Hi it r la lb out i j ∧ 1 ≤ i ∧ 2 ≤ j ∧ i ≤ la.length ∧ j ≤ lb.length ∧ x + min y 1 + i + j < la.length + lb.length)
      (Q := fun c st' => st' = setG st g ∧ ((∃ res, c.1 = some res ∧ Good it r la lb res) ∨ ∃ i j out p q, c = (none, i, j, out, p, q) ∧ Hi it r la lb out i j ∧ 1 ≤ i ∧ 2 ≤ j ∧ i ≤ la.length ∧ j ≤ lb.length ∧ x + 1 + i + j < la.length + lb.length)) ?_ ?_ ⟨i, j, out, 0, 0, rfl, rfl, L, hi, hj, hi', hj', by omega⟩) ?_)
    · rintro y c st' _ hy ⟨i, j, out, p, q, rfl, rfl, L, hi, hj, hi', hj', hij⟩
      obtain ⟨i, rfl⟩ : ∃ i0, i = i0 + 1 := ⟨i - 1, by omega⟩
      obtain ⟨j, rfl⟩ : ∃ j0, j = j0 + 1 := ⟨j - 1, by omega⟩
      obtain ⟨kb, eb⟩ := get_some (l := lb) (i := j) (by omega)
      obtain ⟨ka, ea⟩ := get_some (l := la) (i := i) (by omega)
      refine wpS_bind (elem_ok (arrI_get eb) (wpS_bind (elem_ok (arrI_get ea) (wpS_bind (lt_ok hc hk (memB eb) (memA ea) ?_)))))
      by_cases c : r kb < r ka
      · rw [decide_eq_true c]
        dsimp only
        rw [if_pos rfl]
        have L' := L.pushA sa ea (le_take sb eb (Int.le_of_lt c))
        refine wpS_bind (elem_ok (arrI_get ea) (wpS_ite2 (fun e => ?_) (fun e => ?_)))
        · replace e : i = 0 := beq_iff_eq.mp e
          subst e
          exact wpS_pure ⟨rfl, .inl ⟨_, rfl, L'.endA sb⟩⟩
        · replace e : ¬ i = 0 := fun z => e (beq_iff_eq.mpr z)
          exact wpS_ite2 (fun _ => wpS_pure ⟨rfl, .inr ⟨i, j + 1, _, _, _, rfl, L', by omega, by omega, by omega, by omega, by omega⟩⟩) (fun _ => wpS_pure ⟨i, j + 1, _, _, _, rfl, rfl, L', by omega, by omega, by omega, by omega, by omega⟩)
      · rw [decide_eq_false c]
        dsimp only
        rw [if_neg (by decide)]
        have L' := L.pushB sb eb (le_take sa ea (Int.not_lt.mp c))
        refine wpS_bind (elem_ok (arrI_get eb) (wpS_ite2 (fun e => ?_) (fun e => ?_)))
        · replace e : j = 1 := beq_iff_eq.mp e
          subst e
          exact wpS_pure ⟨rfl, .inl ⟨_, rfl, fin L'⟩⟩
        · replace e : ¬ j = 1 := fun z => e (beq_iff_eq.mpr z)
          exact wpS_ite2 (fun _ => wpS_pure ⟨rfl, .inr ⟨i + 1, j, _, _, _, rfl, L', by omega, by omega, by omega, by omega, by omega⟩⟩) (fun _ => wpS_pure ⟨i + 1, j, _, _, _, rfl, rfl, L', by omega, by omega, by omega, by omega, by omega⟩)
    · rintro c st' ⟨i, j, out, p, q, rfl, rfl, L, hi, hj, hi', hj', hij⟩
      exact ⟨rfl, .inr ⟨_, _, _, _, _, rfl, L, hi, hj, hi', hj', by omega⟩⟩
    · rintro c st' ⟨rfl, h⟩
      rcases h with ⟨res, h1, h2⟩ | ⟨i, j, out, p, q, rfl, L, hi, hj, hi', hj', hij⟩
      · obtain ⟨c1, c2⟩ := c
        cases h1
        exact wpS_pure ⟨res, g, rfl, rfl, h2⟩
      · refine wpS_bind (wpS_lift (wpAny_rule ⟨rfl, ?_⟩))
        refine wpS_bind (wpS_mono (wpS_forRange (I := fun y c st' => ∃ i j out m p q g, c = (none, i, j, out, m, p, q) ∧ st' = setG st g ∧ Hi it r la lb out i j ∧ 1 ≤ i ∧ 2 ≤ j ∧ i ≤ la.length ∧ j ≤ lb.length ∧ x + 1 + i + j < la.length + lb.length)
          (Q := fun c st' => ∃ g, st' = setG st g ∧ ((∃ res, c.1 = some res ∧ Good it r la lb res) ∨ ∃ i j out m p q, c = (none, i, j, out, m, p, q) ∧ Hi it r la lb out i j ∧ 1 ≤ i ∧ 2 ≤ j ∧ i ≤ la.length ∧ j ≤ lb.length ∧ x + 1 + i + j < la.length + lb.length)) ?_ ?_ ⟨i, j, out, _, p, q, g, rfl, rfl, L, hi, hj, hi', hj', hij⟩) ?_)
        · rintro y c st' _ hy ⟨i, j, out, m, p, q, g, rfl, rfl, L, hi, hj, hi', hj', hij⟩
          obtain ⟨j, rfl⟩ : ∃ j0, j = j0 + 1 := ⟨j - 1, by omega⟩
          obtain ⟨kb, eb⟩ := get_some (l := lb) (i := j) (by omega)
          extract_lets _ _ _ _ _ _ _ _ _ _ _ _ jp _
          refine wpS_jp (F := jp ()) fun mg => ?_
          refine wpS_bind (wpS_modify ?_)
          refine wpS_bind (elem_ok (arrI_get eb) (wpS_bind (gal_f (b := 0) (n := i) (h := i - 1) (st := setG st mg) hc hk sa.on na (memB eb) (by omega) (by omega) fun k k1 k2 k3 => ?_)))
          simp only [Nat.zero_add] at k2 k3
          dsimp (config := { zeta := false }) only
          extract_lets _ _ jp2 _ _
          refine wpS_cut (F := jp2 ()) (fun i' o => Hi it r la lb o i' (j + 1) ∧ 1 ≤ i' ∧ i' ≤ i ∧ ∀ y ∈ la.take i', r y ≤ r kb) (fun i' o hp => ?_) (fun J2 => ?_)
          · obtain ⟨L1, hi1, hi2, le1⟩ := hp
            have L2 := L1.pushB sb eb le1
            refine wpS_bind (elem_ok (arrI_get eb) (wpS_ite2 (fun e => ?_) (fun e => ?_)))
            · replace e : j = 1 := beq_iff_eq.mp e
              subst e
              have G := fin L2
              exact wpS_pure ⟨_, rfl, .inl ⟨_, rfl, G⟩⟩
            · replace e : ¬ j = 1 := fun z => e (beq_iff_eq.mpr z)
              obtain ⟨i', rfl⟩ : ∃ i0, i' = i0 + 1 := ⟨i' - 1, by omega⟩
              obtain ⟨ka, ea⟩ := get_some (l := la) (i := i') (by omega)
              refine wpS_bind (elem_ok (arrI_get ea) (wpS_bind (gal_t (b := 0) (n := j) (h := j - 1) (st := setG st mg) hc hk sb.on nb (memA ea) (by omega) (by omega) fun k' k1' k2' k3' => ?_)))
              simp only [Nat.zero_add] at k2' k3'
              dsimp (config := { zeta := false }) only
              extract_lets _ _ _ jp3 _ _
              refine wpS_cut (F := jp3 ()) (fun j' o => Hi it r la lb o (i' + 1) j' ∧ 2 ≤ j' ∧ j' ≤ j ∧ ∀ y ∈ lb.take j', r y ≤ r ka) (fun j' o hp => ?_) (fun J3 => ?_)
              · obtain ⟨L3, hj1, hj2, le3⟩ := hp
                have L4 := L3.pushA sa ea le3
                refine wpS_bind (elem_ok (arrI_get ea) (wpS_ite2 (fun e => ?_) (fun e => ?_)))
                · replace e : i' = 0 := beq_iff_eq.mp e
                  subst e
                  have G := L4.endA sb
                  exact wpS_pure ⟨_, rfl, .inl ⟨_, rfl, G⟩⟩
                · replace e : ¬ i' = 0 := fun z => e (beq_iff_eq.mpr z)
                  exact wpS_ite2 (fun _ => wpS_pure ⟨_, rfl, .inr ⟨i', j', _, _, _, _, rfl, L4, by omega, by omega, by omega, by omega, by omega⟩⟩) (fun _ => wpS_pure ⟨i', j', _, _, _, _, _, rfl, rfl, L4, by omega, by omega, by omega, by omega, by omega⟩)
              · have k0' : 0 < k' := by
                  obtain ⟨b0, eb0⟩ := get_some (l := lb) (i := 0) (by omega)
                  by_cases q : 0 < k'
                  · exact q
                  · have h1 := k3' 0 b0 (by omega) (by omega) eb0
                    have h2 := first b0 eb0 ka (List.mem_of_getElem? ea)
                    omega
                refine wpS_ite2 (fun k0 => ?_) (fun k0 => ?_)
                · have L3 := L2.blockB (a := k') sb (by omega) (fun x hx => le_take sa ea (by
                    obtain ⟨t, t1, t2⟩ := mem_take_at hx
                    rw [List.getElem?_drop] at t2
                    exact k3' (k' + t) x (by omega) (by omega) t2))
                  refine wpS_ite2 (fun e => ?_) (fun e => wpS_ite2 (fun e2 => ?_) (fun e2 => ?_))
                  · replace e : k' = 1 := beq_iff_eq.mp e
                    subst e
                    have G := fin L3
                    exact wpS_pure ⟨_, rfl, .inl ⟨_, rfl, G⟩⟩
                  · replace e2 : k' = 0 := beq_iff_eq.mp e2
                    omega
                  · replace e : ¬ k' = 1 := fun z => e (beq_iff_eq.mpr z)
                    refine J3 k' _ ⟨L3, by omega, by omega, fun y hy => ?_⟩
                    obtain ⟨t, t1, t2⟩ := mem_take_at hy
                    exact Int.le_of_lt (k2' t y t1 t2)
                · replace k0 : ¬ 0 < j - k' := k0
                  refine J3 j _ ⟨L2, by omega, by omega, fun y hy => ?_⟩
                  obtain ⟨t, t1, t2⟩ := mem_take_at hy
                  exact Int.le_of_lt (k2' t y (by omega) t2)
          · refine wpS_ite2 (fun k0 => ?_) (fun k0 => ?_)
            · have L1 := L.blockA (a := k) sa (by omega) (fun x hx => le_take sb eb (by
                obtain ⟨t, t1, t2⟩ := mem_take_at hx
                rw [List.getElem?_drop] at t2
                exact Int.le_of_lt (k3 (k + t) x (by omega) (by omega) t2)))
              refine wpS_ite2 (fun e => ?_) (fun e => ?_)
              · replace e : k = 0 := beq_iff_eq.mp e
                subst e
                have G := L1.endA sb
                exact wpS_pure ⟨_, rfl, .inl ⟨_, rfl, G⟩⟩
              · replace e : ¬ k = 0 := fun z => e (beq_iff_eq.mpr z)
                refine J2 k _ ⟨L1, by omega, by omega, fun y hy => ?_⟩
                obtain ⟨t, t1, t2⟩ := mem_take_at hy
                exact k2 t y t1 t2
            · replace k0 : ¬ 0 < i - k := k0
              refine J2 i _ ⟨L, by omega, by omega, fun y hy => ?_⟩
              obtain ⟨t, t1, t2⟩ := mem_take_at hy
              exact k2 t y (by omega) t2
        · rintro c st' ⟨i, j, out, m, p, q, g, rfl, rfl, L, hi, hj, hi', hj', hij⟩
          exact ⟨g, rfl, .inr ⟨_, _, _, _, _, _, rfl, L, hi, hj, hi', hj', hij⟩⟩
        · rintro c st' ⟨g, rfl, h⟩
          rcases h with ⟨res, h1, h2⟩ | ⟨i, j, out, m, p, q, rfl, L, hi, hj, hi', hj', hij⟩
          · obtain ⟨c1, c2⟩ := c
            cases h1
            exact wpS_pure ⟨res, g, rfl, rfl, h2⟩
          · exact wpS_bind (wpS_modify (wpS_pure ⟨_, _, _, _, _, rfl, rfl, L, hi, hj, hi', hj', by omega⟩))
  · rintro c st' ⟨i, j, out, m, g, rfl, rfl, L, hi, hj, hi', hj', hij⟩
    rw [szA] at hij
    omega
  · rintro c st' ⟨res, g, hc', rfl, hg⟩
    obtain ⟨c1, c2⟩ := c
    cases hc'
    exact wpS_pure (hQ _ _ hg)
end
end L2
namespace L2
open PySem PySem.Spec PyProof.Rows PySem.W
section
variable {r : Nat → Int} {it : Nat → Keyed} {la lb : List Nat}
def kx (r : Nat → Int) (l : List Nat) (i : Nat) : Int := r (l.getD i 0)
theorem kx_at {l : List Nat} {i x : Nat} (e : l[i]? = some x) : kx r l i = r x := by rw [kx, getD_at e]
theorem kx_eq {l l' : List Nat} {i j : Nat} (e : l[i]? = l'[j]?) : kx r l i = kx r l' j := by rw [kx, kx, List.getD, List.getD, e]
def UpOn (r : Nat → Int) (l : List Nat) (a b : Nat) : Prop := ∀ i j, a ≤ i → i ≤ j → j < b → kx r l i ≤ kx r l j
def DnOn (r : Nat → Int) (l : List Nat) (a b : Nat) : Prop := ∀ i j, a ≤ i → i ≤ j → j < b → kx r l j ≤ kx r l i
def revL (l : List Nat) (i j : Nat) : List Nat := (mirror l.toArray i j ((j - i) / 2)).toList
theorem revL_at {l : List Nat} {i j : Nat} (hj : j ≤ l.length) (k : Nat) : (revL l i j)[k]? = if i ≤ k ∧ k < j then l[i + j - 1 - k]? else l[k]? := by
  have e := getElem?_mirror_all (xs := l.toArray) (i := i) (j := j) (by simpa using hj) k
  rw [revL, Array.getElem?_toList, e]
  simp
theorem revL_perm (l : List Nat) (i j : Nat) : (revL l i j).Perm l := by
  exact Array.perm_iff_toList_perm.mp (mirror_perm l.toArray i j ((j - i) / 2))
theorem revL_arr (l : List Nat) (i j : Nat) : mirror (arrI it l) i j ((j - i) / 2) = arrI it (revL l i j) := by
  have e := kas_swaps_map it (fun k => i + k) (fun k => j - 1 - k) (List.range ((j - i) / 2)) l.toArray
  have e2 : arrI it l = l.toArray.map it := by simp
  rw [e2]
  refine e.trans ?_
  unfold revL arrI
  rw [← Array.toList_map]
  rfl
theorem kx_rev {l : List Nat} {i j : Nat} (hj : j ≤ l.length) (k : Nat) : kx r (revL l i j) k = if i ≤ k ∧ k < j then kx r l (i + j - 1 - k) else kx r l k := by
  have e := revL_at (i := i) hj k
  by_cases h : i ≤ k ∧ k < j
  · rw [if_pos h] at e ⊢; exact kx_eq e
  · rw [if_neg h] at e ⊢; exact kx_eq e
theorem kx_rev_eq {l : List Nat} {i j : Nat} (hj : j ≤ l.length) (heq : ∀ k, i ≤ k → k < j → kx r l k = kx r l (j - 1)) (k : Nat) : kx r (revL l i j) k = kx r l k := by
  rw [kx_rev hj]
  split
  · rw [heq _ (by omega) (by omega), heq k (by omega) (by omega)]
  · rfl
end
section
variable {prog : Program} {w : World} {A : Around} {E : Value → Shared → Prop} {s : Shared} {κ : SortKind} {it : Nat → Keyed} {r : Nat → Int} {N : Nat}
theorem ltAt_ok (hc : Cmp prog w A s κ it r N) {l : List Nat} {st : SortSt} {i j : Nat} {Q : Option Bool → SortSt → Prop} (hk : kindOf st = κ) (ha : arrOf st = arrI it l) (nl : ∀ x ∈ l, x < N) (hi : i < l.length) (hj : j < l.length)
    (h : Q (some (decide (kx r l i < kx r l j))) st) : wpS (model prog w) A E s (ltAt' i j) Q st := by
  obtain ⟨x, ex⟩ := get_some hi
  obtain ⟨y, ey⟩ := get_some hj
  rw [kx_at ex, kx_at ey] at h
  rw [ltAt'_eq]
  refine wpS_bind (wpS_get ?_)
  refine wpS_bind (elem_ok (by rw [ha]; exact arrI_get ex) (wpS_bind (elem_ok (by rw [ha]; exact arrI_get ey) ?_)))
  exact lt_ok hc hk (nl _ (List.mem_of_getElem? ex)) (nl _ (List.mem_of_getElem? ey)) h
theorem asc_ok {l : List Nat} {lo a nrem : Nat} {st : SortSt} {f : Nat → Option (Option Nat) × Nat → StateT SortSt Sem (ForInStep (Option (Option Nat) × Nat))} {Q : Option (Option Nat) × Nat → SortSt → Prop} (ha : 1 ≤ a) (han : a ≤ nrem)
    (hf : ∀ x n (Q' : ForInStep (Option (Option Nat) × Nat) → SortSt → Prop), 1 ≤ n → n < nrem → (kx r l (lo + n) < kx r l (lo + n - 1) → Q' (.done (none, n)) st) → (¬ kx r l (lo + n) < kx r l (lo + n - 1) → Q' (.yield (none, n + 1)) st) → wpS (model prog w) A E s (f x (none, n)) Q' st)
    (hs : UpOn r l lo (lo + a)) (h : ∀ n, a ≤ n → n ≤ nrem → UpOn r l lo (lo + n) → (n = nrem ∨ kx r l (lo + n) < kx r l (lo + n - 1)) → Q (none, n) st) : wpS (model prog w) A E s (forIn [a:nrem] ((none, a) : Option (Option Nat) × Nat) f) Q st := by
  refine wpS_forRange (I := fun x c st' => st' = st ∧ c = (none, x) ∧ UpOn r l lo (lo + x)) ?_ ?_ ⟨rfl, rfl, hs⟩
  · rintro x c st' hax hxn ⟨rfl, rfl, hs'⟩
    refine hf x x _ (by omega) hxn (fun q => h x hax (by omega) hs' (.inr q)) (fun q => ⟨rfl, rfl, fun i j hi hij hj => ?_⟩)
    by_cases hjx : j < lo + x
    · exact hs' i j hi hij hjx
    · have hj' : j = lo + x := by omega
      subst hj'
      by_cases hi' : i = lo + x
      · subst hi'; exact Int.le_refl _
      · exact Int.le_trans (hs' i (lo + x - 1) hi (by omega) (by omega)) (Int.not_lt.mp q)
  · rintro c st' ⟨rfl, rfl, hs'⟩
    rw [show max a nrem = nrem by omega] at hs' ⊢
    exact h nrem han (Nat.le_refl _) hs' (.inl rfl)
def Kept (lo : Nat) (l l' : List Nat) : Prop := l'.Perm l ∧ l'.take lo = l.take lo
theorem Kept.rev {lo i j : Nat} {l l' : List Nat} (h : Kept lo l l') (hi : lo ≤ i) (hj : j ≤ l'.length) : Kept lo l (revL l' i j) := by
  refine ⟨(revL_perm _ _ _).trans h.1, Eq.trans (List.ext_getElem? fun k => ?_) h.2⟩
  rw [List.getElem?_take, List.getElem?_take]
  by_cases c : k < lo
  · rw [if_pos c, if_pos c, revL_at hj, if_neg (by omega)]
  · rw [if_neg c, if_neg c]
theorem cutU {α : Type} {F : Unit → StateT SortSt Sem α} (P : SortSt → Prop) {x : StateT SortSt Sem α} {Q : α → SortSt → Prop} {st : SortSt} (J : ∀ st', P st' → wpS (model prog w) A E s (F ()) Q st') (h : (∀ st', P st' → wpS (model prog w) A E s (F ()) Q st') → wpS (model prog w) A E s x Q st) : wpS (model prog w) A E s x Q st := h J
theorem rev_ok {l : List Nat} {st : SortSt} {i j : Nat} {Q : Unit → SortSt → Prop} (h : Q () (setArr st (arrI it (revL l i j)))) : wpS (model prog w) A E s (reverseSlice' i j) Q (setArr st (arrI it l)) :=
  wpS_reverse (by
    show Q () (setArr st (mirror (arrI it l) i j ((j - i) / 2)))
    rw [revL_arr]; exact h)
theorem count_ok (hc : Cmp prog w A s κ it r N) {l : List Nat} {lo nrem : Nat} {st : SortSt} {Q : Option Nat → SortSt → Prop} (hk : kindOf st = κ) (ha : arrOf st = arrI it l) (nl : ∀ x ∈ l, x < N) (h1 : 1 ≤ nrem) (hn : lo + nrem ≤ l.length)
    (h : ∀ m l', Kept lo l l' → 1 ≤ m → m ≤ nrem → UpOn r l' lo (lo + m) → Q (some m) (setArr st (arrI it l'))) : wpS (model prog w) A E s (countRun' lo nrem) Q st := by
  have est : st = setArr st (arrI it l) := by rw [← ha]
  have nk : ∀ {l'}, Kept lo l l' → ∀ x ∈ l', x < N := fun k x hx => nl x (k.1.mem_iff.mp hx)
  have lk : ∀ {l'}, Kept lo l l' → l'.length = l.length := fun k => k.1.length_eq
  refine wpS_bind (asc_ok (r := r) (l := l) (lo := lo) (Nat.le_refl 1) h1 (fun x n Q' a1 a2 q1 q2 => ?_) (fun i j q1 q2 q3 => by rw [show i = j by omega]; exact Int.le_refl _) fun n n1 n2 un q => ?_)
  · refine wpS_bind (ltAt_ok hc hk ha nl (by omega) (by omega) ?_)
    by_cases c : kx r l (lo + n) < kx r l (lo + n - 1)
    · rw [decide_eq_true c]
      exact wpS_pure (q1 c)
    · rw [decide_eq_false c]
      exact wpS_pure (q2 c)
  dsimp (config := { zeta := false }) only
  extract_lets r0 n0 _ _ jp
  by_cases nn : n = nrem
  · subst nn
    rw [if_pos (beq_iff_eq.mpr rfl)]
    have z := h n l ⟨.refl _, rfl⟩ n1 n2 un
    rw [← est] at z
    exact wpS_pure z
  rw [if_neg (fun z => nn (beq_iff_eq.mp z))]
  have lt0 := q.resolve_left nn
  dsimp (config := { zeta := false }) only [r0]
  refine cutU (F := jp) (fun st' => ∃ l', st' = setArr st (arrI it l') ∧ Kept lo l l' ∧ DnOn r l' lo (lo + n + 1)) ?_ (fun J => ?_)
  · rintro st' ⟨l1, rfl, k1, d1⟩
    refine wpS_bind (wpS_lift (wpAny_rule ⟨rfl, ?_⟩))
    refine wpS_bind (wpS_mono (wpS_forRange (I := fun x c st' => ∃ l' neq, st' = setArr st (arrI it l') ∧ c = (none, x, neq) ∧ Kept lo l l' ∧ DnOn r l' lo (lo + x) ∧ neq + 1 ≤ x ∧ ∀ i, lo + x - (neq + 1) ≤ i → i < lo + x → kx r l' i = kx r l' (lo + x - 1))
      (Q := fun c st' => ∃ l' neq m, st' = setArr st (arrI it l') ∧ c = (none, m, neq) ∧ m ≤ nrem ∧ Kept lo l l' ∧ DnOn r l' lo (lo + m) ∧ neq + 1 ≤ m ∧ ∀ i, lo + m - (neq + 1) ≤ i → i < lo + m → kx r l' i = kx r l' (lo + m - 1)) ?_ ?_
        ⟨l1, 0, rfl, rfl, k1, by rw [← Nat.add_assoc]; exact d1, by omega, fun i i1 i2 => by congr 1; omega⟩) ?_)
    · rintro x c st' hx1 hx ⟨l2, neq, rfl, rfl, k2, d2, q2, e2⟩
      have z2 := lk k2
      refine wpS_bind (ltAt_ok (l := l2) (i := lo + x) (j := lo + x - 1) hc hk rfl (nk k2) (by omega) (by omega) ?_)
      have ext : ∀ l', (∀ k, kx r l' k = kx r l2 k) → kx r l2 (lo + x) ≤ kx r l2 (lo + x - 1) → DnOn r l' lo (lo + (x + 1)) := by
        intro l' hk' hle i j hi hij hj
        rw [hk', hk']
        by_cases hjx : j < lo + x
        · exact d2 i j hi hij hjx
        · have hj' : j = lo + x := by omega
          subst hj'
          by_cases hi' : i = lo + x
          · subst hi'; exact Int.le_refl _
          · exact Int.le_trans hle (d2 i (lo + x - 1) hi (by omega) (by omega))
      by_cases c : kx r l2 (lo + x) < kx r l2 (lo + x - 1)
      · rw [decide_eq_true c]
        dsimp only
        rw [if_pos rfl]
        refine wpS_ite2 (fun g => ?_) (fun g => ?_)
        · refine wpS_bind (rev_ok (wpS_pure ⟨_, 0, rfl, rfl, k2.rev (by omega) (by omega), ext _ (kx_rev_eq (by omega) e2) (Int.le_of_lt c), by omega, fun i i1 i2 => by congr 1; omega⟩))
        · exact wpS_pure ⟨_, 0, rfl, rfl, k2, ext _ (fun _ => rfl) (Int.le_of_lt c), by omega, fun i i1 i2 => by congr 1; omega⟩
      · rw [decide_eq_false c]
        dsimp only
        rw [if_neg (by decide)]
        refine wpS_bind (ltAt_ok (l := l2) (i := lo + x - 1) (j := lo + x) hc hk rfl (nk k2) (by omega) (by omega) ?_)
        by_cases c2 : kx r l2 (lo + x - 1) < kx r l2 (lo + x)
        · rw [decide_eq_true c2]
          dsimp only
          rw [if_pos rfl]
          exact wpS_pure ⟨_, neq, x, rfl, rfl, by omega, k2, d2, q2, e2⟩
        · rw [decide_eq_false c2]
          dsimp only
          rw [if_neg (by decide)]
          have heq : kx r l2 (lo + x) = kx r l2 (lo + x - 1) := by omega
          refine wpS_pure ⟨_, neq + 1, rfl, rfl, k2, ext _ (fun _ => rfl) (Int.le_of_eq heq), by omega, fun i i1 i2 => ?_⟩
          rw [show lo + (x + 1) - 1 = lo + x by omega]
          by_cases hix : i = lo + x
          · subst hix; rfl
          · rw [heq]; exact e2 i (by omega) (by omega)
    · rintro c st' ⟨l2, neq, rfl, rfl, k2, d2, q2, e2⟩
      rw [show max (n + 1) nrem = nrem by omega] at d2 q2 e2 ⊢
      exact ⟨l2, neq, nrem, rfl, rfl, by omega, k2, d2, q2, e2⟩
    · rintro c st' ⟨l2, neq, m, rfl, rfl, hm, k2, d2, q2, e2⟩
      have z2 := lk k2
      dsimp (config := { zeta := false }) only
      extract_lets _ _ _ jp2
      dsimp (config := { zeta := false }) only [r0]
      refine cutU (F := jp2) (fun st' => ∃ l', st' = setArr st (arrI it l') ∧ Kept lo l l' ∧ DnOn r l' lo (lo + m)) ?_ (fun J2 => ?_)
      · rintro st' ⟨l3, rfl, k3, d3⟩
        have z3 := lk k3
        refine wpS_bind (rev_ok ?_)
        have k4 := k3.rev (i := lo) (j := lo + m) (Nat.le_refl _) (by omega)
        have z4 := lk k4
        have u4 : UpOn r (revL l3 lo (lo + m)) lo (lo + m) := fun i j hi hij hj => by
          rw [kx_rev (by omega), kx_rev (by omega), if_pos (by omega), if_pos (by omega)]
          exact d3 _ _ (by omega) (by omega) (by omega)
        refine wpS_bind (asc_ok (r := r) (l := revL l3 lo (lo + m)) (lo := lo) (a := m) (by omega) hm (fun x n Q' a1 a2 q1 q2 => ?_) u4 fun n' n1' n2' un' q' => ?_)
        · refine wpS_bind (ltAt_ok (l := revL l3 lo (lo + m)) hc hk rfl (nk k4) (by omega) (by omega) ?_)
          by_cases c : kx r (revL l3 lo (lo + m)) (lo + n) < kx r (revL l3 lo (lo + m)) (lo + n - 1)
          · rw [decide_eq_true c]
            exact wpS_pure (q1 c)
          · rw [decide_eq_false c]
            exact wpS_pure (q2 c)
        · exact wpS_pure (h n' _ k4 (by omega) n2' un')
      · refine wpS_ite2 (fun g => ?_) (fun g => J2 _ ⟨l2, rfl, k2, d2⟩)
        refine wpS_bind (rev_ok (J2 _ ⟨_, rfl, k2.rev (i := lo + m - (neq + 1)) (j := lo + m) (by omega) (by omega), fun i j hi hij hj => ?_⟩))
        rw [kx_rev_eq (by omega) e2, kx_rev_eq (by omega) e2]
        exact d2 i j hi hij hj
  · refine wpS_ite2 (fun g => ?_) (fun g => ?_)
    · refine wpS_bind (ltAt_ok hc hk ha nl (by omega) (by omega) ?_)
      by_cases c : kx r l lo < kx r l (lo + n - 1)
      · rw [decide_eq_true c]
        have z := h n l ⟨.refl _, rfl⟩ n1 n2 un
        rw [← est] at z
        exact wpS_pure z
      · rw [decide_eq_false c]
        have hall : ∀ k, lo ≤ k → k < lo + n → kx r l k = kx r l (lo + n - 1) := by
          intro k k1 k2
          have a1 := un lo k (by omega) k1 k2
          have a2 := un k (lo + n - 1) k1 (by omega) (by omega)
          omega
        rw [est]
        refine wpS_bind (rev_ok (J _ ⟨_, rfl, (show Kept lo l l from ⟨.refl _, rfl⟩).rev (Nat.le_refl _) (by omega), fun i j hi hij hj => ?_⟩))
        rw [kx_rev_eq (by omega) hall, kx_rev_eq (by omega) hall]
        by_cases hjn : j < lo + n
        · rw [hall i hi (by omega), hall j (by omega) hjn]; exact Int.le_refl _
        · have hj' : j = lo + n := by omega
          subst hj'
          by_cases hi' : i = lo + n
          · subst hi'; exact Int.le_refl _
          · rw [hall i hi (by omega)]; exact Int.le_of_lt lt0
    · have e1 : n = 1 := by
        have : ¬ n > 1 := g
        omega
      subst e1
      rw [est]
      refine J _ ⟨l, rfl, ⟨.refl _, rfl⟩, fun i j hi hij hj => ?_⟩
      by_cases hi' : i = j
      · subst hi'; exact Int.le_refl _
      · have hi0 : i = lo := by omega
        have hj1 : j = lo + 1 := by omega
        subst hi0; subst hj1
        exact Int.le_of_lt lt0
end
end L2
namespace L2
open PySem PySem.Spec PyProof.Rows PySem.W
section
variable {r : Nat → Int} {it : Nat → Keyed}
def bubL (l : List Nat) (k d : Nat) : List Nat := (bubble l.toArray k d).toList
theorem bubL_at {l : List Nat} {k d : Nat} (hk : k < l.length) (hd : d ≤ k) (i : Nat) : (bubL l k d)[i]? = if i = k - d then l[k]? else if k - d < i ∧ i ≤ k then l[i - 1]? else l[i]? := by
  have e := getElem?_bubble (xs := l.toArray) (src := k) (by simpa using hk) d hd i
  rw [bubL, Array.getElem?_toList, e]
  simp
theorem bubL_perm (l : List Nat) (k d : Nat) : (bubL l k d).Perm l := Array.perm_iff_toList_perm.mp (bubble_perm l.toArray k d)
theorem bubL_arr (l : List Nat) (k d : Nat) : bubble (arrI it l) k d = arrI it (bubL l k d) := by
  have e := kas_swaps_map it (fun i => k - i) (fun i => k - i - 1) (List.range d) l.toArray
  have e2 : arrI it l = l.toArray.map it := by simp
  rw [e2]
  refine e.trans ?_
  unfold bubL arrI
  rw [← Array.toList_map]
  rfl
theorem kx_bub {l : List Nat} {k d : Nat} (hk : k < l.length) (hd : d ≤ k) (i : Nat) : kx r (bubL l k d) i = if i = k - d then kx r l k else if k - d < i ∧ i ≤ k then kx r l (i - 1) else kx r l i := by
  have e := bubL_at hk hd i
  by_cases h1 : i = k - d
  · rw [if_pos h1] at e ⊢; exact kx_eq e
  · rw [if_neg h1] at e ⊢
    by_cases h2 : k - d < i ∧ i ≤ k
    · rw [if_pos h2] at e ⊢; exact kx_eq e
    · rw [if_neg h2] at e ⊢; exact kx_eq e
theorem Kept.bub {lo k d : Nat} {l l' : List Nat} (h : Kept lo l l') (hk : k < l'.length) (hd : lo + d ≤ k) : Kept lo l (bubL l' k d) := by
  refine ⟨(bubL_perm _ _ _).trans h.1, Eq.trans (List.ext_getElem? fun i => ?_) h.2⟩
  rw [List.getElem?_take, List.getElem?_take]
  by_cases c : i < lo
  · rw [if_pos c, if_pos c, bubL_at hk (by omega), if_neg (by omega), if_neg (by omega)]
  · rw [if_neg c, if_neg c]
end
section
variable {prog : Program} {w : World} {A : Around} {E : Value → Shared → Prop} {s : Shared} {κ : SortKind} {it : Nat → Keyed} {r : Nat → Int} {N : Nat}
theorem move_ok {l : List Nat} {st : SortSt} {k d : Nat} {Q : Unit → SortSt → Prop} (h : Q () (setArr st (arrI it (bubL l k (k - d))))) : wpS (model prog w) A E s (moveDown' k d) Q (setArr st (arrI it l)) := by
  rw [moveDown'_eq]
  refine wpS_modify ?_
  show Q () (setArr st (bubble (arrI it l) k (k - d)))
  rw [bubL_arr]; exact h
theorem bin_ok (hc : Cmp prog w A s κ it r N) {l : List Nat} {lo n ok : Nat} {st : SortSt} {Q : Bool → SortSt → Prop} (hk : kindOf st = κ) (nl : ∀ x ∈ l, x < N) (hok : ok ≤ n) (hn : lo + n ≤ l.length) (hs : UpOn r l lo (lo + ok))
    (h : ∀ l', Kept lo l l' → UpOn r l' lo (lo + n) → Q true (setArr st (arrI it l'))) : wpS (model prog w) A E s (binarySort' lo n ok) Q (setArr st (arrI it l)) := by
  have nk : ∀ {l'}, Kept lo l l' → ∀ x ∈ l', x < N := fun k x hx => nl x (k.1.mem_iff.mp hx)
  have lk : ∀ {l'}, Kept lo l l' → l'.length = l.length := fun k => k.1.length_eq
  refine wpS_bind (wpS_mono (wpS_forRange (I := fun k c st' => ∃ l', c = (none, ()) ∧ st' = setArr st (arrI it l') ∧ Kept lo l l' ∧ UpOn r l' lo (lo + min k n))
    (Q := fun c st' => ∃ l', c = (none, ()) ∧ st' = setArr st (arrI it l') ∧ Kept lo l l' ∧ UpOn r l' lo (lo + n)) ?_ ?_ ⟨l, rfl, rfl, ⟨.refl _, rfl⟩, fun i j hi hij hj => ?_⟩) ?_)
  · rintro k c st' hk1 hk2 ⟨l1, rfl, rfl, k1, u1⟩
    rw [show min k n = k by omega] at u1
    have z1 := lk k1
    refine wpS_bind (wpS_mono (wpS_forRange (I := fun x c st' => st' = setArr st (arrI it l1) ∧ ∃ a b, c = (none, a, b) ∧ a ≤ b ∧ b ≤ k ∧ b - a ≤ k - x ∧ (∀ i, lo ≤ i → i < lo + a → kx r l1 i ≤ kx r l1 (lo + k)) ∧ (∀ i, lo + b ≤ i → i < lo + k → kx r l1 (lo + k) < kx r l1 i))
      (Q := fun c st' => st' = setArr st (arrI it l1) ∧ ∃ a b, c = (none, a, b) ∧ a ≤ k ∧ (∀ i, lo ≤ i → i < lo + a → kx r l1 i ≤ kx r l1 (lo + k)) ∧ (∀ i, lo + a ≤ i → i < lo + k → kx r l1 (lo + k) < kx r l1 i)) ?_ ?_ ⟨rfl, 0, k, rfl, by omega, by omega, by omega, fun i i1 i2 => by omega, fun i i1 i2 => by omega⟩) ?_)
    · rintro x c st' _ hx ⟨rfl, a, b, rfl, h1, h2, h3, h4, h5⟩
      dsimp only
      by_cases g : a ≥ b
      · rw [if_pos g]
        have : a = b := by omega
        subst this
        exact wpS_pure ⟨rfl, a, a, rfl, h2, h4, h5⟩
      · rw [if_neg g]
        refine wpS_bind (ltAt_ok (l := l1) (i := lo + k) (j := lo + (a + b) / 2) hc hk rfl (nk k1) (by omega) (by omega) ?_)
        by_cases c : kx r l1 (lo + k) < kx r l1 (lo + (a + b) / 2)
        · rw [decide_eq_true c]
          dsimp only
          rw [if_pos rfl]
          refine wpS_pure ⟨rfl, a, (a + b) / 2, rfl, by omega, by omega, by omega, h4, fun i i1 i2 => ?_⟩
          exact Int.lt_of_lt_of_le c (u1 _ _ (by omega) i1 i2)
        · rw [decide_eq_false c]
          dsimp only
          rw [if_neg (by decide)]
          refine wpS_pure ⟨rfl, (a + b) / 2 + 1, b, rfl, by omega, by omega, by omega, fun i i1 i2 => ?_, h5⟩
          exact Int.le_trans (u1 i (lo + (a + b) / 2) i1 (by omega) (by omega)) (Int.not_lt.mp c)
    · rintro c st' ⟨rfl, a, b, rfl, h1, h2, h3, h4, h5⟩
      have : a = b := by omega
      subst this
      exact ⟨rfl, a, a, rfl, h2, h4, h5⟩
    · rintro c st' ⟨rfl, a, b, rfl, h1, h4, h5⟩
      refine wpS_bind (move_ok (k := lo + k) (d := lo + a) (wpS_pure ⟨_, rfl, rfl, k1.bub (by omega) (by omega), ?_⟩))
      rw [show min (k + 1) n = k + 1 by omega]
      intro i j hi hij hj
      rw [kx_bub (by omega) (by omega), kx_bub (by omega) (by omega), show lo + k - (lo + k - (lo + a)) = lo + a by omega]
      repeat' split
      all_goals first
        | (exfalso; omega)
        | exact Int.le_refl _
        | exact h4 _ (by omega) (by omega)
        | exact Int.le_of_lt (h5 _ (by omega) (by omega))
        | exact u1 _ _ (by omega) (by omega) (by omega)
  · rintro c st' ⟨l1, rfl, rfl, k1, u1⟩
    rw [show min (max (max ok 1) n) n = n by omega] at u1
    exact ⟨l1, rfl, rfl, k1, u1⟩
  · by_cases h1 : ok = 0
    · have : i = j := by omega
      subst this; exact Int.le_refl _
    · exact hs i j hi hij (by omega)
  · rintro c st' ⟨l1, rfl, rfl, k1, u1⟩
    exact wpS_pure (h l1 k1 u1)
end
section
variable {r : Nat → Int} {it : Nat → Keyed}
theorem put_back (l m : List Nat) (a : Nat) : ∀ (pre : List Nat), a + pre.length + m.length ≤ l.length →
    ((m.map it).zipIdx pre.length).foldl (fun (x : Array Keyed) (p : Keyed × Nat) => x.setIfInBounds (a + p.2) p.1) (arrI it (l.take a ++ pre ++ l.drop (a + pre.length))) = arrI it (l.take a ++ (pre ++ m) ++ l.drop (a + (pre ++ m).length)) := by
  induction m with
  | nil => intro pre _; rw [List.append_nil]; rfl
  | cons k m ih =>
    intro pre hl
    rw [List.length_cons] at hl
    have hlt : a + pre.length < l.length := by omega
    rw [List.map_cons, List.zipIdx_cons, List.foldl_cons]
    have e1 : (arrI it (l.take a ++ pre ++ l.drop (a + pre.length))).setIfInBounds (a + pre.length) (it k) = arrI it (l.take a ++ (pre ++ [k]) ++ l.drop (a + (pre ++ [k]).length)) := by
      rw [List.drop_eq_getElem_cons hlt]
      have hz : (l.take a ++ pre).length = a + pre.length := by simp; omega
      unfold arrI
      rw [List.setIfInBounds_toArray]
      congr 1
      rw [List.map_append, List.map_cons, List.set_append_right _ _ (by simp; omega)]
      have : a + pre.length - (List.map it (List.take a l ++ pre)).length = 0 := by rw [List.length_map, hz]; omega
      rw [this, List.set_cons_zero]
      simp [Nat.add_assoc]
    have := ih (pre ++ [k]) (by rw [List.length_append, List.length_singleton]; omega)
    rw [List.length_append, List.length_singleton] at this
    show List.foldl _ ((arrI it (l.take a ++ pre ++ l.drop (a + pre.length))).setIfInBounds (a + pre.length) (it k)) _ = _
    rw [e1, List.length_append, List.length_singleton]
    rw [this]
    simp
theorem UpOn.srt {l : List Nat} {a b : Nat} (h : UpOn r l a b) (hb : b ≤ l.length) : SrtOn r l a b := fun i j x y h1 h2 h3 ex ey => by
  have := h i j h1 h2 h3
  rwa [kx_at ex, kx_at ey] at this
theorem SrtOn.cut {l : List Nat} {a b : Nat} (h : SrtOn r l a b) : Srt r ((l.drop a).take (b - a)) := by
  unfold Srt
  rw [List.pairwise_iff_getElem]
  intro i j hi hj hij
  rw [List.length_take, List.length_drop] at hi hj
  refine h (a + i) (a + j) _ _ (by omega) (by omega) (by omega) ?_ ?_
  · rw [List.getElem_take, List.getElem_drop]
    exact List.getElem?_eq_getElem _
  · rw [List.getElem_take, List.getElem_drop]
    exact List.getElem?_eq_getElem _
end
end L2
namespace L2
open PySem PySem.Spec PyProof.Rows PySem.W
section
variable {prog : Program} {w : World} {A : Around} {E : Value → Shared → Prop} {s : Shared} {κ : SortKind} {it : Nat → Keyed} {r : Nat → Int} {N : Nat}
theorem wpS_setS {st st' : SortSt} {Q : PUnit → SortSt → Prop} (h : Q ⟨⟩ st') : wpS (model prog w) A E s (set st' : StateT SortSt Sem PUnit) Q st := by
  unfold wpS
  rw [StateT.run_set]
  exact wpAny_pure ⟨rfl, h⟩
theorem cutM {α : Type} {F : Array Keyed → StateT SortSt Sem α} (P : Array Keyed → SortSt → Prop) {x : StateT SortSt Sem α} {Q : α → SortSt → Prop} {st : SortSt} (J : ∀ m st', P m st' → wpS (model prog w) A E s (F m) Q st') (h : (∀ m st', P m st' → wpS (model prog w) A E s (F m) Q st') → wpS (model prog w) A E s x Q st) : wpS (model prog w) A E s x Q st := h J
theorem merge_ok (hc : Cmp prog w A s κ it r N) {l : List Nat} {n1 n2 pw pw2 g : Nat} {Q : Bool → SortSt → Prop} (nl : ∀ x ∈ l, x < N) (hl : l.length = n1 + n2) (h1 : 1 ≤ n1) (h2 : 1 ≤ n2) (s1 : SrtOn r l 0 n1) (s2 : SrtOn r l n1 (n1 + n2))
    (h : ∀ l' g, l'.Perm l → Srt r l' → Q true (SortSt.mk' κ (arrI it l') #[(0, n1 + n2, pw)] g none)) : wpS (model prog w) A E s (mergeAt' 0) Q (SortSt.mk' κ (arrI it l) #[(0, n1, pw), (n1, n2, pw2)] g none) := by
  refine wpS_bind (wpS_get ?_)
  refine wpS_bind (wpS_setS ?_)
  have ep : ((#[(0, n1, pw), (n1, n2, pw2)] : Array (Nat × Nat × Nat)).setIfInBounds 0 (0, n1 + n2, pw)).eraseIdxIfInBounds (0 + 1) = #[(0, n1 + n2, pw)] := by simp [Array.eraseIdxIfInBounds]
  show wpS _ _ _ _ _ _ (SortSt.mk' κ (arrI it l) (((#[(0, n1, pw), (n1, n2, pw2)] : Array (Nat × Nat × Nat)).setIfInBounds 0 (0, n1 + n2, pw)).eraseIdxIfInBounds (0 + 1)) g none)
  rw [ep]
  obtain ⟨b0, eb0⟩ := get_some (l := l) (i := n1) (by omega)
  obtain ⟨z, ez⟩ := get_some (l := l) (i := n1 - 1) (by omega)
  have mem : ∀ {i k : Nat}, l[i]? = some k → k < N := fun e => nl _ (List.mem_of_getElem? e)
  refine wpS_bind (elem_ok (arrI_get eb0) (wpS_bind (gal_f (l := l) (b := 0) (n := n1) (h := 0) hc rfl (by rw [Nat.zero_add]; exact s1) nl (mem eb0) (by omega) (by omega) fun k k1 k2 k3 => ?_)))
  simp only [Nat.zero_add] at k2 k3
  dsimp (config := { zeta := false }) only
  refine wpS_ite2 (fun e => ?_) (fun e => ?_)
  · replace e : n1 - k = 0 := beq_iff_eq.mp e
    refine wpS_pure (h l g (.refl _) (List.pairwise_iff_getElem.mpr fun i j hi hj hij => ?_))
    have ei := List.getElem?_eq_getElem hi
    have ej := List.getElem?_eq_getElem hj
    by_cases c : j < n1
    · exact s1 i j _ _ (by omega) (by omega) c ei ej
    · by_cases c2 : i < n1
      · exact Int.le_trans (k2 i _ (by omega) ei) (s2 n1 j _ _ (by omega) (by omega) (by omega) eb0 ej)
      · exact s2 i j _ _ (by omega) (by omega) (by omega) ei ej
  · replace e : ¬ n1 - k = 0 := fun q => e (beq_iff_eq.mpr q)
    refine wpS_bind (elem_ok (x := it z) (by rw [show 0 + k + (n1 - k) - 1 = n1 - 1 by omega]; exact arrI_get ez) (wpS_bind (gal_t (l := l) (b := n1) (n := n2) (h := n2 - 1) hc rfl s2 nl (mem ez) (by omega) (by omega) fun m m1 m2 m3 => ?_)))
    have bz : r b0 < r z := k3 (n1 - 1) z (by omega) (by omega) ez
    have m0 : 0 < m := by
      by_cases q : 0 < m
      · exact q
      · have := m3 0 b0 (by omega) (by omega) eb0
        omega
    dsimp (config := { zeta := false }) only
    refine wpS_ite2 (fun e2 => absurd (show m = 0 from beq_iff_eq.mp e2) (by omega)) (fun e2 => ?_)
    have ex : (arrI it l).extract (0 + k) n1 = arrI it ((l.drop k).take (n1 - k)) := by rw [Nat.zero_add, arrI_cut]
    have ey : (arrI it l).extract n1 (n1 + m) = arrI it ((l.drop n1).take m) := by rw [arrI_cut, Nat.add_sub_cancel_left]
    have sx : Srt r ((l.drop k).take (n1 - k)) := (show SrtOn r l k n1 from fun i j x y a1 a2 a3 => s1 i j x y (by omega) a2 a3).cut
    have sy : Srt r ((l.drop n1).take m) := by
      have := (show SrtOn r l n1 (n1 + m) from fun i j x y a1 a2 a3 => s2 i j x y a1 a2 (by omega)).cut
      rwa [Nat.add_sub_cancel_left] at this
    have lx : ((l.drop k).take (n1 - k)).length = n1 - k := by rw [List.length_take, List.length_drop]; omega
    have ly : ((l.drop n1).take m).length = m := by rw [List.length_take, List.length_drop]; omega
    have nx : ∀ x ∈ (l.drop k).take (n1 - k), x < N := fun x hx => nl x (List.mem_of_mem_drop (List.mem_of_mem_take hx))
    have ny : ∀ x ∈ (l.drop n1).take m, x < N := fun x hx => nl x (List.mem_of_mem_drop (List.mem_of_mem_take hx))
    have inx : ∀ x ∈ (l.drop k).take (n1 - k), ∃ i, k ≤ i ∧ i < n1 ∧ l[i]? = some x := fun x hx => by
      obtain ⟨t, t1, t2⟩ := mem_take_at hx
      rw [List.getElem?_drop] at t2
      exact ⟨k + t, by omega, by omega, t2⟩
    have iny : ∀ x ∈ (l.drop n1).take m, ∃ i, n1 ≤ i ∧ i < n1 + m ∧ l[i]? = some x := fun x hx => by
      obtain ⟨t, t1, t2⟩ := mem_take_at hx
      rw [List.getElem?_drop] at t2
      exact ⟨n1 + t, by omega, by omega, t2⟩
    have fst : ∀ x, ((l.drop n1).take m)[0]? = some x → ∀ y ∈ (l.drop k).take (n1 - k), r x < r y := fun x hx y hy => by
      rw [List.getElem?_take, if_pos m0, List.getElem?_drop, Nat.add_zero, eb0] at hx
      cases hx
      obtain ⟨i, i1, i2, i3⟩ := inx y hy
      exact k3 i y i1 i2 i3
    have lst : ∀ x, ((l.drop k).take (n1 - k))[((l.drop k).take (n1 - k)).length - 1]? = some x → ∀ y ∈ (l.drop n1).take m, r y < r x := fun x hx y hy => by
      rw [lx, List.getElem?_take, if_pos (by omega), List.getElem?_drop, show k + (n1 - k - 1) = n1 - 1 by omega, ez] at hx
      cases hx
      obtain ⟨i, i1, i2, i3⟩ := iny y hy
      exact m2 (i - n1) y (by omega) (by rw [show n1 + (i - n1) = i by omega]; exact i3)
    extract_lets xx yy jp
    refine cutM (F := jp) (fun res st' => ∃ g, st' = SortSt.mk' κ (arrI it l) #[(0, n1 + n2, pw)] g none ∧ Good it r ((l.drop k).take (n1 - k)) ((l.drop n1).take m) res) ?_ (fun J => ?_)
    · rintro res st' ⟨g', rfl, lm, rfl, sm, pm⟩
      have hlm : lm.length = n1 - k + m := by rw [pm.length_eq, List.length_append, lx, ly]
      refine wpS_bind (wpS_modify (wpS_bind (wpS_get (wpS_pure ?_))))
      have ep2 := put_back (it := it) l lm k [] (by rw [List.length_nil]; omega)
      rw [List.append_nil, List.nil_append, List.length_nil, Nat.add_zero, List.take_append_drop, hlm, show k + (n1 - k + m) = n1 + m by omega] at ep2
      have key : List.foldl (fun (a : Array Keyed) (x : Keyed × Nat) => a.setIfInBounds (0 + k + x.2) x.1) (arrI it l) ((arrI it lm).toList.zipIdx) = arrI it (l.take k ++ lm ++ l.drop (n1 + m)) := by
        rw [← ep2, Nat.zero_add]
      show Q true (SortSt.mk' κ (List.foldl (fun (a : Array Keyed) (x : Keyed × Nat) => a.setIfInBounds (0 + k + x.2) x.1) (arrI it l) ((arrI it lm).toList.zipIdx)) #[(0, n1 + n2, pw)] g' none)
      rw [key]
      have inm : ∀ x ∈ lm, x ∈ (l.drop k).take (n1 - k) ∨ x ∈ (l.drop n1).take m := fun x hx => List.mem_append.mp (pm.mem_iff.mp hx)
      refine h _ _ ?_ (srt_app (srt_app ?_ sm fun x hx y hy => ?_) ?_ fun x hx y hy => ?_)
      · refine (List.Perm.append_right _ (List.Perm.append_left _ pm)).trans ?_
        have q1 : l.take k ++ (l.drop k).take (n1 - k) = l.take n1 := by
          have := List.take_add (l := l) (i := k) (j := n1 - k)
          rw [show k + (n1 - k) = n1 by omega] at this
          exact this.symm
        have q2 : (l.drop n1).take m ++ l.drop (n1 + m) = l.drop n1 := by
          rw [← List.drop_drop]; exact List.take_append_drop _ _
        rw [← List.append_assoc, q1, List.append_assoc, q2, List.take_append_drop]
      · have := (show SrtOn r l 0 k from fun i j x y a1 a2 a3 => s1 i j x y a1 a2 (by omega)).cut
        rwa [List.drop_zero, Nat.sub_zero] at this
      · obtain ⟨i, i1, i2⟩ := mem_take_at hx
        rcases inm y hy with hy | hy
        · obtain ⟨j, j1, j2, j3⟩ := inx y hy
          exact s1 i j x y (by omega) (by omega) j2 i2 j3
        · obtain ⟨j, j1, j2, j3⟩ := iny y hy
          exact Int.le_trans (k2 i x i1 i2) (s2 n1 j _ _ (by omega) j1 (by omega) eb0 j3)
      · have := (show SrtOn r l (n1 + m) (n1 + n2) from fun i j x y a1 a2 a3 => s2 i j x y (by omega) a2 a3).cut
        rwa [List.take_of_length_le (by rw [List.length_drop]; omega)] at this
      · obtain ⟨j, j1, j2⟩ := mem_drop_at hy
        have jl := (List.getElem?_eq_some_iff.mp j2).1
        have zy : r z ≤ r y := m3 (j - n1) y (by omega) (by omega) (by rw [show n1 + (j - n1) = j by omega]; exact j2)
        rcases List.mem_append.mp hx with hx | hx
        · obtain ⟨i, i1, i2⟩ := mem_take_at hx
          exact Int.le_trans (s1 i (n1 - 1) x z (by omega) (by omega) (by omega) i2 ez) zy
        · rcases inm x hx with hx | hx
          · obtain ⟨i, i1, i2, i3⟩ := inx x hx
            exact Int.le_trans (s1 i (n1 - 1) x z (by omega) (by omega) (by omega) i3 ez) zy
          · obtain ⟨i, i1, i2, i3⟩ := iny x hx
            exact s2 i j x y i1 (by omega) (by omega) i3 j2
    · refine wpS_ite2 (fun _ => ?_) (fun _ => ?_)
      · refine wpS_bind ?_
        show wpS _ _ _ _ (mergeLoP ((arrI it l).extract (0 + k) n1) ((arrI it l).extract n1 (n1 + m))) _ _
        rw [ex, ey]
        exact mergeLo_ok hc rfl nx ny sx sy (by omega) (by omega) (fun x hx y hy => Int.le_of_lt (fst x hx y hy)) lst fun res g' hg => J _ _ ⟨g', rfl, hg⟩
      · refine wpS_bind ?_
        show wpS _ _ _ _ (mergeHiP ((arrI it l).extract (0 + k) n1) ((arrI it l).extract n1 (n1 + m))) _ _
        rw [ex, ey]
        exact mergeHi_ok hc rfl nx ny sx sy (by omega) (by omega) fst lst fun res g' hg => J _ _ ⟨g', rfl, hg⟩
end
end L2
namespace L2
open PySem PySem.Spec PyProof.Rows PySem.W
section
variable {prog : Program} {w : World} {A : Around} {E : Value → Shared → Prop} {s : Shared} {κ : SortKind} {it : Nat → Keyed} {r : Nat → Int} {N : Nat}
theorem min64 : minRun' 64 64 0 = 32 := by
  rw [minRun'_succ, if_neg (by decide), minRun'_succ, if_pos (by decide)]; rfl
inductive Laid (κ : SortKind) (it : Nat → Keyed) (r : Nat → Int) : Nat → SortSt → Prop
  | no : Laid κ it r 0 (SortSt.mk' κ (arrI it (List.range 64)) #[] 7 none)
  | one {l : List Nat} {n p : Nat} : l.Perm (List.range 64) → 32 ≤ n → n ≤ 64 → SrtOn r l 0 n → Laid κ it r n (SortSt.mk' κ (arrI it l) #[(0, n, p)] 7 none)
  | two {l : List Nat} {n m p q : Nat} : l.Perm (List.range 64) → 1 ≤ n → 1 ≤ m → n + m = 64 → SrtOn r l 0 n → SrtOn r l n (n + m) → Laid κ it r 64 (SortSt.mk' κ (arrI it l) #[(0, n, p), (n, m, q)] 7 none)
theorem cutG {α β : Type} {F : β → StateT SortSt Sem α} (P : β → SortSt → Prop) {x : StateT SortSt Sem α} {Q : α → SortSt → Prop} {st : SortSt} (J : ∀ m st', P m st' → wpS (model prog w) A E s (F m) Q st') (h : (∀ m st', P m st' → wpS (model prog w) A E s (F m) Q st') → wpS (model prog w) A E s x Q st) : wpS (model prog w) A E s x Q st := h J
theorem mod_one {a : Nat × Nat × Nat} (f : Nat × Nat × Nat → Nat × Nat × Nat) : (#[a] : Array (Nat × Nat × Nat)).modify 0 f = #[f a] := by
  apply Array.ext
  · simp
  · intro i h1 h2
    simp at h2
    subst h2
    simp [Array.getElem_modify]
theorem Kept.on {lo : Nat} {l l' : List Nat} (h : Kept lo l l') (s : SrtOn r l 0 lo) : SrtOn r l' 0 lo := fun i j x y h1 h2 h3 ex ey => by
  have e : ∀ k, k < lo → l'[k]? = l[k]? := fun k hk => by
    have := congrArg (fun z => z[k]?) h.2
    simp only [List.getElem?_take, if_pos hk] at this
    exact this
  exact s i j x y h1 h2 h3 (by rw [← e i (by omega)]; exact ex) (by rw [← e j h3]; exact ey)
theorem runs64 (hc : Cmp prog w A s κ it r 64) {Q : Unit → SortSt → Prop} (h : ∀ st' l', arrOf st' = arrI it l' → failedOf st' = none → l'.Perm (List.range 64) → Srt r l' → Q () st') : wpS (model prog w) A E s sortRuns' Q (SortSt.mk' κ (arrI it (List.range 64)) #[] 7 none) := by
  rw [sortRuns'_eq]
  refine wpS_bind (wpS_get ?_)
  have hsz : (arrOf (SortSt.mk' κ (arrI it (List.range 64)) #[] 7 none)).size = 64 := (arrI_size _).trans List.length_range
  dsimp (config := { zeta := false }) only
  simp (config := { zeta := false }) only [hsz, min64]
  refine wpS_bind (wpS_mono (wpS_forRange (I := fun x c st' => ∃ lo, c = (none, lo) ∧ Laid κ it r lo st' ∧ (x = 0 ∨ 32 ≤ lo) ∧ (x < 2 ∨ lo = 64)) (Q := fun c st' => c = (none, 64) ∧ Laid κ it r 64 st') ?_ ?_ ⟨0, rfl, .no, .inl rfl, .inl (by omega)⟩) ?_)
  · rintro x c st' _ hx ⟨lo, rfl, L, x1, x2⟩
    cases L with
    | two p1 p2 p3 p4 p5 p6 =>
      exact wpS_ite2 (fun _ => wpS_pure ⟨rfl, .two p1 p2 p3 p4 p5 p6⟩) (fun g => absurd (Nat.le_refl 64) g)
    | no =>
      refine wpS_ite2 (fun g => absurd g (by decide)) (fun _ => ?_)
      have nl : ∀ x ∈ List.range 64, x < 64 := fun x hx => List.mem_range.mp hx
      refine wpS_bind (count_ok (l := List.range 64) (lo := 0) (nrem := 64) hc rfl rfl nl (by omega) (by rw [List.length_range]; omega) fun n l' k1 n1 n2 u1 => ?_)
      rw [Nat.zero_add] at u1
      have len : l'.length = 64 := by rw [k1.1.length_eq, List.length_range]
      dsimp (config := { zeta := false }) only
      extract_lets _ jp force
      refine cutG (F := jp ()) (fun n st' => ∃ l', st' = SortSt.mk' κ (arrI it l') #[] 7 none ∧ l'.Perm (List.range 64) ∧ 32 ≤ n ∧ n ≤ 64 ∧ SrtOn r l' 0 n) ?_ (fun J => ?_)
      · rintro n st' ⟨l1, rfl, p1, p2, p3, p4⟩
        refine wpS_bind (wpS_get (wpS_bind (wpS_modify (wpS_pure ?_))))
        exact ⟨0 + n, rfl, by rw [Nat.zero_add]; exact .one p1 p2 p3 p4, .inr (by omega), .inl (by omega)⟩
      · rw [show minRun' 64 64 0 = 32 from min64]
        refine wpS_ite2 (fun g => ?_) (fun g => ?_)
        · replace g : n < 32 := g
          refine wpS_bind (wpS_lift (wpAny_rule ⟨rfl, ?_⟩))
          have ef : force = 32 := by show min (64 - 0) (minRun' 64 64 0) = 32; rw [min64]; rfl
          rw [ef]
          refine wpS_bind (bin_ok (st := SortSt.mk' κ (arrI it (List.range 64)) #[] 7 none) (l := l') (lo := 0) (n := 32) (ok := n) hc rfl (fun x hx => nl x (k1.1.mem_iff.mp hx)) (by omega) (by omega) (by rw [Nat.zero_add]; exact u1) fun l2 k2 u2 => ?_)
          rw [if_neg (by decide)]
          rw [Nat.zero_add] at u2
          exact J 32 _ ⟨l2, rfl, k2.1.trans k1.1, by omega, by omega, u2.srt (by rw [k2.1.length_eq]; omega)⟩
        · replace g : ¬ n < 32 := g
          exact J n _ ⟨l', rfl, k1.1, by omega, n2, u1.srt (by omega)⟩
    | @one l n p p1 p2 p3 p4 =>
      refine wpS_ite2 (fun g => ?_) (fun g => ?_)
      · replace g : lo ≥ 64 := g
        have : lo = 64 := by omega
        subst this
        exact wpS_pure ⟨rfl, .one p1 p2 p3 p4⟩
      · replace g : ¬ lo ≥ 64 := g
        have hx0 : x < 2 := by omega
        have nl : ∀ x ∈ l, x < 64 := fun x hx => List.mem_range.mp (p1.mem_iff.mp hx)
        have ll : l.length = 64 := by rw [p1.length_eq, List.length_range]
        refine wpS_bind (count_ok (l := l) (lo := lo) (nrem := 64 - lo) hc rfl rfl nl (by omega) (by omega) fun n l' k1 n1 n2 u1 => ?_)
        have len : l'.length = 64 := by rw [k1.1.length_eq, ll]
        dsimp (config := { zeta := false }) only
        extract_lets _ jp force n3
        refine cutG (F := jp ()) (fun n st' => ∃ l', st' = SortSt.mk' κ (arrI it l') #[(0, lo, p)] 7 none ∧ l'.Perm (List.range 64) ∧ SrtOn r l' 0 lo ∧ 1 ≤ n ∧ lo + n = 64 ∧ SrtOn r l' lo (lo + n)) ?_ (fun J => ?_)
        · rintro n st' ⟨l1, rfl, q1, q2, q3, q4, q5⟩
          refine wpS_bind (wpS_get ?_)
          refine wpS_bind (wpS_mono (wpS_forRange (I := fun _ c st'' => c = (none, ()) ∧ st'' = SortSt.mk' κ (arrI it l1) #[(0, lo, p)] 7 none) (Q := fun c st'' => c = (none, ()) ∧ st'' = SortSt.mk' κ (arrI it l1) #[(0, lo, p)] 7 none) ?_ (fun _ _ hh => hh) ⟨rfl, rfl⟩) ?_)
          · rintro y c st'' _ _ ⟨rfl, rfl⟩
            refine wpS_bind (wpS_get ?_)
            show wpS _ _ _ _ (pure (ForInStep.done (none, ()))) _ _
            exact wpS_pure ⟨rfl, rfl⟩
          · rintro c st'' ⟨rfl, rfl⟩
            refine wpS_bind (wpS_modify (wpS_bind (wpS_modify (wpS_pure ⟨lo + n, rfl, ?_, .inr (by omega), .inr q4⟩))))
            show Laid κ it r (lo + n) (SortSt.mk' κ (arrI it l1) (((#[(0, lo, p)] : Array (Nat × Nat × Nat)).modify 0 fun x => (x.1, x.2.1, _)).push (lo, n, 0)) 7 none)
            rw [mod_one, q4]
            exact Laid.two (n := lo) (m := n) (q := 0) q1 (by omega) q3 q4 q2 q5
        · rw [show minRun' 64 64 0 = 32 from min64]
          have sl := k1.on p4
          refine wpS_ite2 (fun g2 => ?_) (fun g2 => ?_)
          · replace g2 : n < 32 := g2
            refine wpS_bind (wpS_lift (wpAny_rule ⟨rfl, ?_⟩))
            have ef : force = 64 - lo := by show min (64 - lo) (minRun' 64 64 0) = 64 - lo; rw [min64]; omega
            rw [ef]
            refine wpS_bind (bin_ok (st := SortSt.mk' κ (arrI it l) #[(0, lo, p)] 7 none) (l := l') (lo := lo) (n := 64 - lo) (ok := n) hc rfl (fun x hx => nl x (k1.1.mem_iff.mp hx)) (by omega) (by omega) u1 fun l2 k2 u2 => ?_)
            rw [if_neg (show ¬ (!true) = true by decide)]
            have s2 := u2.srt (by rw [k2.1.length_eq]; omega)
            have pm := (k2.1.trans k1.1).trans p1
            have so := k2.on sl
            rw [show n3 = 64 - lo from ef]
            exact J (64 - lo) (SortSt.mk' κ (arrI it l2) #[(0, lo, p)] 7 none) ⟨l2, rfl, pm, so, by omega, by omega, s2⟩
          · replace g2 : ¬ n < 32 := g2
            exact J n _ ⟨l', rfl, k1.1.trans p1, sl, by omega, by omega, u1.srt (by omega)⟩
  · rintro c st' ⟨lo, rfl, L, x1, x2⟩
    have : lo = 64 := by omega
    subst this
    exact ⟨rfl, L⟩
  · rintro c st' ⟨rfl, L⟩
    cases L with
    | @one l _ p p1 p2 p3 p4 =>
      refine wpS_bind (wpS_mono (wpS_forRange (I := fun _ c st'' => c = (none, ()) ∧ st'' = SortSt.mk' κ (arrI it l) #[(0, 64, p)] 7 none) (Q := fun c st'' => c = (none, ()) ∧ st'' = SortSt.mk' κ (arrI it l) #[(0, 64, p)] 7 none) ?_ (fun _ _ hh => hh) ⟨rfl, rfl⟩) ?_)
      · rintro x c st'' _ _ ⟨rfl, rfl⟩
        refine wpS_bind (wpS_get ?_)
        exact wpS_ite2 (fun _ => wpS_pure ⟨rfl, rfl⟩) (fun g => absurd (Nat.le_refl 1) g)
      · rintro c st'' ⟨rfl, rfl⟩
        refine wpS_pure (h _ l rfl rfl p1 ?_)
        have := p4.cut
        rwa [List.drop_zero, Nat.sub_zero, List.take_of_length_le (by rw [p1.length_eq, List.length_range]; omega)] at this
    | @two l n m p q p1 p2 p3 p4 p5 p6 =>
      refine wpS_bind (wpS_mono (wpS_forRange (I := fun x c st'' => c = (none, ()) ∧ ((x = 0 ∧ st'' = SortSt.mk' κ (arrI it l) #[(0, n, p), (n, m, q)] 7 none) ∨ ∃ l' g, st'' = SortSt.mk' κ (arrI it l') #[(0, n + m, p)] g none ∧ l'.Perm l ∧ Srt r l'))
        (Q := fun c st'' => c = (none, ()) ∧ ∃ l' g, st'' = SortSt.mk' κ (arrI it l') #[(0, n + m, p)] g none ∧ l'.Perm l ∧ Srt r l') ?_ ?_ ⟨rfl, .inl ⟨rfl, rfl⟩⟩) ?_)
      · rintro x c st'' _ _ ⟨rfl, ⟨rfl, rfl⟩ | ⟨l', g, rfl, k1, k2⟩⟩
        · refine wpS_bind (wpS_get (wpS_ite2 (fun g => absurd (show 2 ≤ 1 from g) (by decide)) (fun _ => ?_)))
          refine wpS_bind (merge_ok (κ := κ) (n1 := n) (n2 := m) hc (fun x hx => List.mem_range.mp (p1.mem_iff.mp hx)) (by rw [p1.length_eq, List.length_range, p4]) p2 p3 p5 p6 fun l' g k1 k2 => ?_)
          rw [if_neg (by decide)]
          exact wpS_pure ⟨rfl, .inr ⟨l', g, rfl, k1, k2⟩⟩
        · refine wpS_bind (wpS_get ?_)
          exact wpS_ite2 (fun _ => wpS_pure ⟨rfl, l', g, rfl, k1, k2⟩) (fun g => absurd (Nat.le_refl 1) g)
      · rintro c st'' ⟨rfl, ⟨e, _⟩ | h2⟩
        · omega
        · exact ⟨rfl, h2⟩
      · rintro c st'' ⟨rfl, l', g, rfl, k1, k2⟩
        exact wpS_pure (h _ l' rfl rfl (k1.trans p1) k2)
end
end L2
namespace L2
open PySem PySem.Spec PyProof.Rows PySem.W
section
variable {prog : Program} {w : World} {A : Around} {E : Value → Shared → Prop} {s : Shared}
theorem run_few {vs : List Value} {r : Nat → Int} (h2 : 2 ≤ vs.length) (h64 : vs.length ≤ 64)
    (hc : ∀ i j, i < vs.length → j < vs.length → ∀ C : Bool → Shared → Prop, C (decide (r i < r j)) s → wpAny (model prog w) A (keyLt' (tuples' true) (vs.getD i Value.none) (vs.getD j Value.none)) C (fun _ _ => False) s) :
    wpAny (model prog w) A ((sortRuns').run (SortSt.mk' (tuples' true) (vs.toArray.zip vs.toArray) #[] 7 none)) (fun q s' => s' = s ∧ failedOf q.2 = none ∧ ∃ p : Array Nat, p.Perm (List.range vs.length).toArray ∧ Up r p vs.length ∧ arrOf q.2 = p.map (kas_item (vs.toArray.zip vs.toArray))) E s := by
  by_cases c : vs.length < 64
  · exact kat_run (E := E) (κ := tuples' true) (ks := vs) (vs := vs) (prog := prog) (w := w) (A := A) (Q := fun st' s' => s' = s ∧ failedOf st' = none ∧ ∃ p : Array Nat, p.Perm (List.range vs.length).toArray ∧ Up r p vs.length ∧ arrOf st' = p.map (kas_item (vs.toArray.zip vs.toArray)))
      (G := fun p s' => s' = s ∧ p.Perm (List.range vs.length).toArray ∧ Up r p vs.length) rfl h2 c (fun p st' s' a1 a2 a3 ⟨b1, b2, b3⟩ => ⟨b1, a3, p, b2, b3, a2⟩)
      (wp_ev (J := fun s' => s' = s) (lt := ltR r) (n := vs.length) (fun i j C s' hi hj hJ q => by
        subst hJ
        exact hc i j hi hj C (q _ rfl)) _ _ _ (asks_sort (by omega)) rfl fun s' hJ => ⟨hJ, ev_sort (by omega)⟩)
  · have e : vs.length = 64 := by omega
    have ez : (vs.toArray.zip vs.toArray) = arrI (kas_item (vs.toArray.zip vs.toArray)) (List.range 64) := by
      have q := kas_range (vs.toArray.zip vs.toArray)
      rw [show (vs.toArray.zip vs.toArray).size = 64 by simp [e]] at q
      exact q.symm.trans (List.map_toArray ..)
    rw [e]
    rw [e] at hc
    have hC : Cmp prog w A s (tuples' true) (kas_item (vs.toArray.zip vs.toArray)) r 64 := fun i j hi hj C q => by
      rw [kat_item rfl, kat_item rfl]
      exact hc i j hi hj C q
    have run := runs64 (E := E) (κ := tuples' true) (Q := fun _ st' => failedOf st' = none ∧ ∃ p : Array Nat, p.Perm (List.range 64).toArray ∧ Up r p 64 ∧ arrOf st' = p.map (kas_item (vs.toArray.zip vs.toArray))) hC fun st' l' h1 h2 h3 h4 => ⟨h2, l'.toArray, Array.perm_iff_toList_perm.mpr h3, fun i i1 i2 => ?_, by rw [h1]; exact (List.map_toArray ..).symm⟩
    · rw [← ez] at run
      exact run
    · have ln : l'.length = 64 := by rw [h3.length_eq, List.length_range]
      have g : ∀ k (hk : k < 64), (l'.toArray.getD k 0) = l'[k] := fun k hk => by simp [Array.getD, ln, hk]
      rw [ky, ky, g (i - 1) (by omega), g i i2]
      exact List.pairwise_iff_getElem.mp h4 (i - 1) i (by omega) (by omega) (by omega)
theorem list_sort_by6 {a : Addr} {vs : List Value} {n : Nat} {r : Nat → Int} {P : PySem.Fin → Shared → Prop} (ho : s.heap.get? a = some (seqObj "list" vs.toArray n)) (h64 : vs.length ≤ 64)
    (hk : ∀ (h' : Heap), (∀ b o, b ≠ a → s.heap.get? b = some o → h'.get? b = some o) → 2 ≤ vs.length → ∀ Q' : SortKind → Shared → Prop, Q' (tuples' true) { s with heap := h' } → wpAny (model prog w) A (keyKind' vs.toArray) Q' E { s with heap := h' })
    (hc : ∀ (h' : Heap), (∀ b o, b ≠ a → s.heap.get? b = some o → h'.get? b = some o) → ∀ i j, i < vs.length → j < vs.length → ∀ C : Bool → Shared → Prop, C (decide (r i < r j)) { s with heap := h' } → wpAny (model prog w) A (keyLt' (tuples' true) (vs.getD i Value.none) (vs.getD j Value.none)) C (fun _ _ => False) { s with heap := h' })
    (h : ∀ p : Array Nat, p.Perm (List.range vs.length).toArray → Up r p vs.length → P (.done (.ret .none)) { s with heap := sortedHeap s.heap a vs (p.toList.map fun i => vs.getD i Value.none).toArray }) :
    wpAny (model prog w) A (Builtin.«list.sort» ⟨[.ref a], []⟩) P E s := by
  have ha : a < s.heap.objs.size := Heap.lt_size ho
  rw [list_sort_plain]
  refine wpAny_bind (listItems_at ho rfl ?_)
  refine wpAny_bind (listUpdate_at ho rfl ?_ (by rw [List.size_toArray, sizeLine_eq]; omega) (Nat.zero_le _))
  obtain ⟨e1, ho1⟩ : ∃ e1, (s.heap.update a (Obj.mapSeq fun _ => (#[] : Array Value))).get? a = some (seqObj "list" #[] e1) := ⟨_, get?_update_seq ho fun _ => #[]⟩
  refine wpAny_bind (seqEpoch_at ho1 rfl ?_)
  refine wpAny_bind (wpAny_newTuple ?_ (by show vs.length ≤ _; rw [sizeLine_eq]; omega))
  refine wpAny_bind (wpAny_newList ?_ (Nat.zero_le _))
  refine wpAny_holding ?_
  have keep : ∀ b o, b ≠ a → s.heap.get? b = some o → (((s.heap.update a (Obj.mapSeq fun _ => (#[] : Array Value))).push (seqObj "tuple" vs.toArray 0)).push (seqObj "list" #[] 0)).get? b = some o := fun b o hb q =>
    Heap.get?_push_of_some _ (Heap.get?_push_of_some _ ((Heap.get?_update_other _ _ (Ne.symm hb)).trans q))
  have ho6 : (((s.heap.update a (Obj.mapSeq fun _ => (#[] : Array Value))).push (seqObj "tuple" vs.toArray 0)).push (seqObj "list" #[] 0)).get? a = some (seqObj "list" #[] e1) := Heap.get?_push_of_some _ (Heap.get?_push_of_some _ ho1)
  show wpAny (model prog w) A _ P E { s with heap := ((s.heap.update a (Obj.mapSeq fun _ => (#[] : Array Value))).push (seqObj "tuple" vs.toArray 0)).push (seqObj "list" #[] 0) }
  dsimp only
  by_cases h2 : vs.toArray.size < 2
  · rw [if_pos h2, if_pos h2]
    refine wpAny_bind (wpAny_pure ?_)
    rw [StateT.run_pure]
    refine wpAny_bind (wpAny_pure ?_)
    dsimp only
    refine wpAny_bind (seqEpoch_at ho6 rfl ?_)
    have eo : (arrOf (SortSt.mk' general' (vs.toArray.zip vs.toArray) #[] 7 none)).map (·.2) = (((List.range vs.length).toArray.toList).map fun i => vs.getD i Value.none).toArray := by
      have e3 : ((List.range vs.length).toArray.toList.map fun i => vs.getD i Value.none) = vs := by
        apply List.ext_getElem
        · simp
        · intro i q1 q2
          simp [List.getD, q2]
      rw [e3]
      show (vs.toArray.zip vs.toArray).map (·.2) = vs.toArray
      apply Array.ext
      · simp
      · intro i q1 q2
        simp
    refine wpAny_bind (listUpdate_at ho6 rfl ?_ (Nat.zero_le _) (by rw [eo, List.size_toArray, List.length_map]; simp; rw [sizeLine_eq]; omega))
    simp only [bne_self_eq_false, Bool.false_eq_true, if_false]
    refine wpAny_pure ?_
    rw [eo]
    refine h (List.range vs.length).toArray (Array.Perm.refl _) fun i hi hb => ?_
    rw [List.size_toArray] at h2
    omega
  · rw [if_neg h2, if_neg h2]
    rw [List.size_toArray] at h2
    refine wpAny_bind (hk _ keep (by omega) _ ?_)
    have run := run_few (E := E) (prog := prog) (w := w) (A := A) (s := { s with heap := ((s.heap.update a (Obj.mapSeq fun _ => (#[] : Array Value))).push (seqObj "tuple" vs.toArray 0)).push (seqObj "list" #[] 0) }) (vs := vs) (r := r) (by omega) h64 fun i j hi hj C q => hc _ keep i j hi hj C q
    refine wpAny_bind (wpAny_mono run ?_ fun _ _ e => e)
    rintro ⟨⟨⟩, st'⟩ s' ⟨rfl, hf, p, pm, up, har⟩
    dsimp only
    have hout := kat_snds (ks := vs) (vs := vs) rfl har
    have hsz : (p.toList.map fun i => vs.getD i Value.none).toArray.size = vs.length := by rw [List.size_toArray, List.length_map, Array.length_toList, pm.size_eq]; simp
    rw [hout]
    refine wpAny_bind (seqEpoch_at ho6 rfl ?_)
    refine wpAny_bind (listUpdate_at ho6 rfl ?_ (Nat.zero_le _) (by rw [hsz, sizeLine_eq]; omega))
    rw [hf]
    simp only [bne_self_eq_false, Bool.false_eq_true, if_false]
    exact wpAny_pure (h p pm up)
theorem sorted_by6 {l : Addr} {vs : List Value} {r : Nat → Int} {Q : Value → Shared → Prop} (hl : s.heap.IsList l vs.toArray) (h64 : vs.length ≤ 64)
    (hk : ∀ (A : Around) (E : Value → Shared → Prop) (h' : Heap), (∀ b o, s.heap.get? b = some o → h'.get? b = some o) → 2 ≤ vs.length → ∀ Q' : SortKind → Shared → Prop, Q' (tuples' true) { s with heap := h' } → wpAny (model prog w) A (keyKind' vs.toArray) Q' E { s with heap := h' })
    (hc : ∀ (A : Around) (h' : Heap), (∀ b o, s.heap.get? b = some o → h'.get? b = some o) → ∀ i j, i < vs.length → j < vs.length → ∀ C : Bool → Shared → Prop, C (decide (r i < r j)) { s with heap := h' } → wpAny (model prog w) A (keyLt' (tuples' true) (vs.getD i Value.none) (vs.getD j Value.none)) C (fun _ _ => False) { s with heap := h' })
    (h : ∀ (p : Array Nat), p.Perm (List.range vs.length).toArray → Up r p vs.length → Q (.ref (s.heap.objs.size + 1)) { s with heap := sortedAll s.heap vs (p.toList.map fun i => vs.getD i Value.none).toArray }) :
    wpAny (model prog w) A (call (.builtin "sorted") [.ref l]) Q E s := by
  refine Calls.call_function_entry kind_sorted plain_sorted entry_sorted (args_sorted1 _) ?_
  unfold Builtin.«sorted»
  refine wpAny_bind (m := checkCount "sorted" 1 1 _) (wpAny_pure ?_)
  refine wpAny_bind (collect_list hl ?_ (by rw [sizeLine_eq]; omega))
  refine wpAny_bind (wpAny_newList ?_ (by rw [sizeLine_eq]; omega))
  have sz : ((s.heap.push (seqObj "list" #[] 0)).update s.heap.objs.size (Obj.mapSeq (· ++ vs.toArray))).objs.size = s.heap.objs.size + 1 := by rw [Heap.size_update, size_push']
  have hoL : (((s.heap.push (seqObj "list" #[] 0)).update s.heap.objs.size (Obj.mapSeq (· ++ vs.toArray))).push (seqObj "list" vs.toArray 0)).get? (s.heap.objs.size + 1) = some (seqObj "list" vs.toArray 0) := by
    rw [← sz]; exact Heap.get?_push_size _ rfl
  have keep : ∀ b o, s.heap.get? b = some o → (((s.heap.push (seqObj "list" #[] 0)).update s.heap.objs.size (Obj.mapSeq (· ++ vs.toArray))).push (seqObj "list" vs.toArray 0)).get? b = some o := fun b o q =>
    Heap.get?_push_of_some _ ((Heap.get?_update_other _ _ (Nat.ne_of_gt (Heap.lt_size q))).trans (Heap.get?_push_of_some _ q))
  show wpAny _ _ _ _ _ { s with heap := ((s.heap.push (seqObj "list" #[] 0)).update s.heap.objs.size (Obj.mapSeq (· ++ vs.toArray))).push (seqObj "list" vs.toArray 0) }
  rw [sz]
  refine wpAny_bind (wpAny_holding (wpAny_call_entry slot_list_sort ⟨_, hoL, rfl⟩ entry_list_sort (list_sort_by6 (r := r) (s := { s with heap := ((s.heap.push (seqObj "list" #[] 0)).update s.heap.objs.size (Obj.mapSeq (· ++ vs.toArray))).push (seqObj "list" vs.toArray 0) }) hoL h64
    (fun h' kp h2 Q' q => hk _ _ h' (fun b o e => kp b o (Nat.ne_of_lt (Nat.lt_succ_of_lt (Heap.lt_size e))) (keep b o e)) h2 Q' q)
    (fun h' kp i j hi hj C q => hc _ h' (fun b o e => kp b o (Nat.ne_of_lt (Nat.lt_succ_of_lt (Heap.lt_size e))) (keep b o e)) i j hi hj C q) fun p pm up => ⟨_, rfl, ?_⟩) (args_list_sort _)))
  exact wpAny_pure ⟨_, rfl, h p pm up⟩
end
section
variable {X : Cx}
theorem call_sorted_tups6 : CallR X (.builtin "sorted") (fun xs H Q => ∃ (p : Addr) (as : List Addr) (its : List (List V)) (r : Nat → Int), xs = [.ref p] ∧ SqL X.K H p (as.map V.ref) ∧ TupsAt X.K H as its ∧ as.length ≤ 64 ∧
    (∀ i j x y, its[i]? = some x → its[j]? = some y → lexD x y = some (decide (r i < r j))) ∧ ∀ q : Array Nat, q.Perm (List.range as.length).toArray → Up r q as.length → ∀ l, H l = none → Q (.ref l) (upd H l (.lst ((q.toList.map fun i => as.getD i 0).map V.ref)))) := by
  intro pins s σ H xs us Q I r0 h
  obtain ⟨p, as, its, r, rfl, hq, ht, h64, hcmp, q⟩ := h
  obtain ⟨u, rfl, rx⟩ := vals1 r0
  cases rx
  obtain ⟨vs, r', pl, hz⟩ := I.list hq
  have evs : vs = as.map Value.ref := by
    have go : ∀ (as : List Addr) (vs : List Value), Vals (as.map V.ref) vs → vs = as.map Value.ref := by
      intro as
      induction as with
      | nil => intro vs r; cases r; rfl
      | cons a t ih =>
        intro vs r
        rw [List.map_cons] at r
        cases r with
        | cons r1 r2 => rw [show _ = Value.ref a from r1, ih _ r2]; rfl
    exact go as vs r'
  subst evs
  have hl : (as.map Value.ref).length = as.length := List.length_map _
  have hget : ∀ i a, as[i]? = some a → (as.map Value.ref).getD i Value.none = .ref a := fun i a e => by
    rw [List.getD, List.getElem?_map, e]; rfl
  have tl := Paired.length ht
  refine sorted_by6 (r := r) pl.isList (by rw [hl]; exact h64) (fun A E h' kp h2 Q' q' => ?_) (fun A h' kp i j hi hj C q' => ?_) fun pq pm up => ?_
  · -- the kind
    have I' : Inv X pins σ H { s with heap := h' } := I.kept (t' := s.toks) kp
    have go : ∀ (as : List Addr) (its : List (List V)), TupsAt X.K H as its → ∃ fs : List Value, KatTups h' (as.map Value.ref) fs ∧ (∀ v ∈ fs, ∃ i t, v = .int i t) ∧ fs.length = as.length := by
      intro as its hT
      unfold TupsAt at hT
      induction hT with
      | nil => exact ⟨[], trivial, fun v hv => absurd hv (by simp), rfl⟩
      | @cons a xs as its hx t ih =>
        obtain ⟨fs, k1, k2, k3⟩ := ih
        obtain ⟨hS, i, r, rfl⟩ := hx
        obtain ⟨us, ru, pu, _⟩ := I'.tuple hS
        cases ru with
        | @cons _ u _ us r1 r2 =>
          obtain ⟨tk, rfl⟩ := r1
          obtain ⟨o, e1, e2, n, e3⟩ := pu
          refine ⟨.int i tk :: fs, KatTups.cons e1 e2 e3 (by simp) k1, fun v hv => ?_, by rw [List.length_cons, List.length_cons, k3]⟩
          rcases List.mem_cons.mp hv with rfl | hv
          · exact ⟨i, tk, rfl⟩
          · exact k2 v hv
    obtain ⟨fs, k1, k2, k3⟩ := go as its ht
    refine kat_kind (T := .type "int") k1 (by rw [hl] at h2; omega) (fun v hv => ?_) (by decide) q'
    obtain ⟨i, tk, rfl⟩ := k2 v hv
    exact .now
  · -- a comparison
    have I' : Inv X pins σ H { s with heap := h' } := I.kept (t' := s.toks) kp
    rw [hl] at hi hj
    obtain ⟨a, x, ea, ex, hS, _⟩ := tups_get ht i hi
    obtain ⟨b, y, eb, ey, hS', _⟩ := tups_get ht j hj
    rw [hget i a ea, hget j b eb]
    obtain ⟨us, ru, ⟨o, e1, e2, n, e3⟩, _⟩ := I'.tuple hS
    obtain ⟨us', ru', ⟨o', e1', e2', n', e3'⟩, _⟩ := I'.tuple hS'
    refine kat_lt e1 e3 e1' e3' ?_
    exact kat_lexD x y us us' 0 _ (by simpa using ru) (by simpa using ru') (hcmp i j x y ex ey) (by simp) q'
  · have sz : (pq.toList.map fun i => (as.map Value.ref).getD i Value.none) = (pq.toList.map fun i => as.getD i 0).map Value.ref := by
      rw [List.map_map]
      apply List.map_congr_left
      intro i hi
      have hi' : i < as.length := by
        have := (Array.Perm.mem_iff pm (a := i)).mp (by simpa using hi)
        rw [hl] at this
        simpa using this
      show _ = Value.ref (as.getD i 0)
      rw [hget i as[i] (List.getElem?_eq_getElem hi')]
      simp [List.getD, hi']
    rw [sz]
    rw [hl] at pm up
    obtain ⟨e, he⟩ := sortedAll_at s.heap (as.map Value.ref) ((pq.toList.map fun i => as.getD i 0).map Value.ref).toArray
    have vr : ∀ bs : List Addr, Vals (bs.map V.ref) (bs.map Value.ref) := fun bs => by
      induction bs with
      | nil => exact .nil
      | cons b t ih => exact .cons rfl ih
    have hlen : ((pq.toList.map fun i => as.getD i 0).map V.ref).length ≤ sizeLine := by
      rw [List.length_map, List.length_map, Array.length_toList, pm.size_eq]
      exact Nat.le_of_lt (small1000 (by simp; omega))
    exact ⟨.ref (s.heap.objs.size + 1), _, I.laid (t' := s.toks) (o := .lst ((pq.toList.map fun i => as.getD i 0).map V.ref)) (fun b o e => sortedAll_old e) (Nat.le_succ _) ⟨hlen, _, e, vr _, by simpa [seqObj] using he⟩, rfl, q pq pm up _ (I.hok.fresh (Nat.le_succ _))⟩
end
def rSortedD6 (K : PySem.W.Frag) : List V → Hp → VK → Prop := fun xs H Q => ∃ (p : Addr) (as : List Addr) (ds : List (List Int)) (n : Nat), xs = [.ref p] ∧ SqL K H p (as.map V.ref) ∧ DataAt K H as ds ∧ as.length ≤ 64 ∧ 0 < n ∧ (∀ d ∈ ds, d.length = n ∧ Few d) ∧
  ∀ (as' : List Addr) (ds' : List (List Int)), (∀ R : Addr → List Int → Prop, Paired R as ds → Paired R as' ds') → ds'.Perm ds → ds'.Pairwise (fun a b => enc a ≤ enc b) → ∀ l, H l = none → Q (.ref l) (upd H l (.lst (as'.map V.ref)))
theorem call_sortedD6 {X : Cx} (K : PySem.W.Frag) (h : X.K = K := by rfl) : CallR X (.builtin "sorted") (rSortedD6 K) := by
  subst h
  intro pins s σ H xs us Q I r hh
  obtain ⟨p, as, ds, n, rfl, hq, hd, h64, hn, hok, q⟩ := hh
  have hl : as.length = ds.length := Paired.length hd
  refine call_sorted_tups6 pins s σ H _ us Q I r ⟨p, as, ds.map (fun d => d.map V.int), fun i => enc (ds.getD i []), rfl, hq, ?_, h64, ?_, ?_⟩
  · unfold TupsAt
    refine paired_map (paired_mem hd fun a d hd' hs => ⟨hs, ?_⟩)
    obtain ⟨h1, _⟩ := hok d hd'
    cases d with
    | nil => rw [← h1] at hn; cases hn
    | cons x t => exact ⟨x, t.map V.int, rfl⟩
  · intro i j x y hx hy
    rw [List.getElem?_map] at hx hy
    obtain ⟨dx, ex, rfl⟩ := Option.map_eq_some_iff.mp hx
    obtain ⟨dy, ey, rfl⟩ := Option.map_eq_some_iff.mp hy
    obtain ⟨a1, a2⟩ := hok dx (List.mem_of_getElem? ex)
    obtain ⟨b1, b2⟩ := hok dy (List.mem_of_getElem? ey)
    rw [lexD_enc (by rw [a1, b1]) a2 b2]
    show _ = some (decide (enc (ds.getD i []) < enc (ds.getD j [])))
    rw [List.getD, List.getD, ex, ey]
    rfl
  · intro pq pm up l hl0
    rw [hl] at pm up
    obtain ⟨s1, s2⟩ := sort_out (xs := ds) pm up [] enc fun i _ => rfl
    refine q _ (pq.toList.map fun i => ds.getD i []) (fun R hR => ?_) s1 s2 l hl0
    have hin : ∀ i ∈ pq.toList, i < ds.length := fun i hi => by
      have := (Array.Perm.mem_iff pm (a := i)).mp (by simpa using hi)
      simpa using this
    generalize pq.toList = is at hin
    induction is with
    | nil => exact .nil
    | cons i t ih =>
      refine .cons ?_ (ih fun j hj => hin j (List.mem_cons_of_mem _ hj))
      have hi := hin i (List.mem_cons_self ..)
      have ea : as[i]? = some (as[i]'(by omega)) := List.getElem?_eq_getElem (by omega)
      obtain ⟨d, e2, hs⟩ := paired_at hR i _ ea
      show R (as.getD i 0) (ds.getD i [])
      rw [show as.getD i 0 = as[i]'(by omega) by rw [List.getD, ea]; rfl, show ds.getD i [] = d by rw [List.getD, e2]; rfl]
      exact hs
end L2
namespace L2
open PySem PySem.Spec PyProof.Rows
section
variable {X : Cx}
def rInsert : V → List V → Hp → VK → Prop := fun x vs H Q => ∃ l xs i y, x = .ref l ∧ vs = [.int i, y] ∧ H l = some (.lst xs) ∧ 0 ≤ i ∧ i ≤ ((xs.length : Nat) : Int) ∧ xs.length < sizeLine ∧ Q .non (upd H l (.lst (xs.take i.toNat ++ y :: xs.drop i.toNat)))
theorem ins_arr (l : List Value) (k : Nat) (y : Value) : (l.toArray.extract 0 k).push y ++ l.toArray.extract k = (l.take k ++ y :: l.drop k).toArray := by
  apply Array.toList_inj.mp
  simp
  exact List.take_of_length_le (by simp)
theorem Vals.cut : ∀ {xs : List V} {us : List Value} (k : Nat), Vals xs us → Vals (xs.take k) (us.take k) ∧ Vals (xs.drop k) (us.drop k) := by
  intro xs us k h
  induction k generalizing xs us with
  | zero => exact ⟨.nil, h⟩
  | succ k ih =>
    cases h with
    | nil => exact ⟨.nil, .nil⟩
    | cons r t => exact ⟨.cons r (ih t).1, (ih t).2⟩
theorem mt_insert : MtM X "list.insert" rInsert := by
  intro pins s σ H x vs v us Q I rx rv h
  obtain ⟨l, xs, i, y, rfl, rfl, hH, h0, h1, hz, q⟩ := h
  cases rx
  obtain ⟨z, its, n, r, hl, e⟩ := I.lstM hH
  cases rv with
  | @cons _ u _ us r1 r2 =>
  obtain ⟨t, rfl⟩ := r1
  obtain ⟨u, rfl, ru⟩ := Vals.one r2
  have z62 := sizeLine_eq
  refine call_meets F.slot_list_insert ⟨_, e, rfl⟩ F.entry_list_insert (F.args_list_insert_3 _ _ _) (AutoSeq1.list_insert_list_int_val_1 l its.toArray n i t u (by rw [fitsIndex_both (by omega) (by omega)]; decide) (by rw [List.size_toArray]; omega)) ⟨e, ?_⟩
  refine ⟨.non, _, I.lset (its' := its.take i.toNat ++ u :: its.drop i.toNat) hH e ?_ ((r.cut _).1.append (.cons ru (r.cut _).2)) ?_, rfl, q⟩
  · show (its.toArray.extract 0 (if i < 0 then (i + (its.toArray.size : Int)).toNat else min i.toNat its.toArray.size)).push u ++ its.toArray.extract (if i < 0 then (i + (its.toArray.size : Int)).toNat else min i.toNat its.toArray.size) = _
    rw [if_neg (by omega), show min i.toNat its.toArray.size = i.toNat by rw [List.size_toArray]; omega]
    exact ins_arr its i.toNat u
  · rw [List.length_append, List.length_cons, List.length_take, List.length_drop]
    omega
theorem mt_insertR : MtR X "list.insert" rInsert := mt_insert
end
end L2
namespace L2
open PySem PySem.Spec PyProof.Rows
section
variable {X : Cx}
def LkV (K : PySem.W.Frag) (H : Hp) : Nat → V → V → Prop
  | 0, x, y => x = y ∧ (selfV x = true ∨ ∃ z, x = .str z)
  | n + 1, x, y => (x = y ∧ (selfV x = true ∨ ∃ z, x = .str z)) ∨ ∃ (a b : Addr) (xs ys : List V), x = .ref a ∧ y = .ref b ∧ ((SqT K H a xs ∧ SqT K H b ys) ∨ (SqL K H a xs ∧ SqL K H b ys)) ∧ Paired (LkV K H n) xs ys
theorem LkV.self {K : PySem.W.Frag} {H : Hp} {n : Nat} {x : V} (h : selfV x = true ∨ ∃ z, x = .str z) : LkV K H n x x := by
  cases n with
  | zero => exact ⟨rfl, h⟩
  | succ n => exact .inl ⟨rfl, h⟩
theorem paired_two {α β γ δ : Type} {R : α → β → Prop} {P1 : α → γ → Prop} {P2 : β → δ → Prop} {as : List α} {bs : List β} {us : List γ} {vs : List δ} (h : Paired R as bs) (h1 : Paired P1 as us) (h2 : Paired P2 bs vs) (j : Nat) (u : γ) (v : δ) (hu : us[j]? = some u) (hv : vs[j]? = some v) : ∃ a b, R a b ∧ P1 a u ∧ P2 b v := by
  induction h generalizing us vs j with
  | nil => cases h1; cases hu
  | cons r t ih =>
    cases h1 with
    | cons q1 t1 =>
    cases h2 with
    | cons q2 t2 =>
    cases j with
    | zero =>
      cases hu
      cases hv
      exact ⟨_, _, r, q1, q2⟩
    | succ j => exact ih t1 t2 j hu hv
theorem lk_rc {pins : List (Addr × Obj)} {σ : St} {H : Hp} {s : Shared} {n : Nat} {A : Around} {a b : Addr} {xs ys : List V} (I : Inv X pins σ H s) (ih : ∀ (A : Around) (x y : V) (u v : Value), LkV X.K H n x y → RelV x u → RelV y v → A.units + n < cLine → SeqAt.EqAt A s u v true) (hu : A.units + (n + 1) < cLine)
    (h : (SqT X.K H a xs ∧ SqT X.K H b ys) ∨ (SqL X.K H a xs ∧ SqL X.K H b ys)) (pd : Paired (LkV X.K H n) xs ys) : SeqAt.RcAt A s (.ref a) (.ref b) true := by
  have lp := Paired.length pd
  have go : ∀ (us vs : List Value), Vals xs us → Vals ys vs → ∀ (j : Nat) (h1 : j < us.toArray.size) (h2 : j < vs.toArray.size), SeqAt.EqAt A.in1 s us.toArray[j] vs.toArray[j] true := fun us vs r1 r2 j h1 h2 => by
    rw [List.size_toArray] at h1 h2
    obtain ⟨x', y', q, q1, q2⟩ := paired_two pd r1 r2 j _ _ (List.getElem?_eq_getElem h1) (List.getElem?_eq_getElem h2)
    exact ih A.in1 x' y' _ _ q q1 q2 (by show A.units + 1 + n < cLine; omega)
  rcases h with ⟨ha, hb⟩ | ⟨ha, hb⟩
  · obtain ⟨us, r1, p1, _⟩ := I.tuple ha
    obtain ⟨vs, r2, p2, _⟩ := I.tuple hb
    have l1 := r1.length
    have l2 := r2.length
    have := SeqAt.RcAt.tuples (A := A) (e := fun _ => true) p1 p2 (by omega) (go us vs r1 r2)
    rw [show ((List.range (min us.toArray.size vs.toArray.size)).all (fun _ => true) && (us.toArray.size == vs.toArray.size)) = true by simp; omega] at this
    exact this
  · obtain ⟨us, r1, p1, _⟩ := I.list ha
    obtain ⟨vs, r2, p2, _⟩ := I.list hb
    have l1 := r1.length
    have l2 := r2.length
    have := SeqAt.RcAt.lists (A := A) (e := fun _ => true) p1.isList p2.isList (by simp only [List.size_toArray]; omega) (by omega) (go us vs r1 r2)
    rw [show ((List.range us.toArray.size).all (fun _ => true)) = true by simp] at this
    exact this
theorem lk_eq {pins : List (Addr × Obj)} {σ : St} {H : Hp} {s : Shared} (I : Inv X pins σ H s) : ∀ (n : Nat) (A : Around) (x y : V) (u v : Value), LkV X.K H n x y → RelV x u → RelV y v → A.units + n < cLine → SeqAt.EqAt A s u v true := by
  have base : ∀ (A : Around) (x : V) (u v : Value), (selfV x = true ∨ ∃ z, x = .str z) → RelV x u → RelV x v → SeqAt.EqAt A s u v true := fun A x u v h ru rv => by
    rcases h with h | ⟨z, rfl⟩
    · exact self_eq h ru rv
    · obtain ⟨t, rfl⟩ := ru
      obtain ⟨t', rfl⟩ := rv
      have := SeqAt.EqAt.str_str (A := A) (s := s) z t z t'
      rwa [beq_self_eq_true] at this
  intro n
  induction n with
  | zero =>
    intro A x y u v h ru rv _
    obtain ⟨rfl, h⟩ := h
    exact base A x u v h ru rv
  | succ n ih =>
    intro A x y u v h ru rv hu
    rcases h with ⟨rfl, h⟩ | ⟨a, b, xs, ys, rfl, rfl, h, pd⟩
    · exact base A x u v h ru rv
    cases ru
    cases rv
    by_cases hab : a = b
    · subst hab
      exact SeqAt.EqAt.same _
    exact SeqAt.EqAt.of_refs hab (lk_rc I ih hu h pd)
def rEqLk (K : PySem.W.Frag) (n : Nat) : R2 := fun x y H Q => ∃ (a b : Addr) (xs ys : List V), x = .ref a ∧ y = .ref b ∧ ((SqT K H a xs ∧ SqT K H b ys) ∨ (SqL K H a xs ∧ SqL K H b ys)) ∧ Paired (LkV K H n) xs ys ∧ Q (.bl true) H
theorem op_eqLk (K : PySem.W.Frag) (n : Nat) (hu : X.A.units + (n + 1) < cLine) (h : X.K = K := by rfl) : OpR X (compareOp .Eq) (rEqLk K n) := by
  subst h
  intro pins s σ H x y v u Q I rx ry h
  obtain ⟨a, b, xs, ys, rfl, rfl, hs, pd, q⟩ := h
  cases rx
  cases ry
  exact lk_rc I (lk_eq I n) hu hs pd X.prog X.w X.xe _ ⟨.bl true, H, I, rfl, q⟩
end
end L2
namespace L2
open PySem PySem.Spec PyProof.Rows
theorem Room.unitsLk {k : Nat} {A : Around} (r : Room k A) : A.units + (20 + 1) < cLine := by have := r.un; omega
end L2
def PySem.W.Fast.tw15454315883619800719 : Nat := 0
def PySem.W.Fast.tw13456738967396442309 : Nat := 0
def PySem.W.Fast.tw15388512821618248749 : Nat := 0
def PySem.W.Fast.tw6434541934369684810 : Nat := 0
def PySem.W.Fast.tw11982435883655815195 : Nat := 0
def PySem.W.Fast.tw7344930893628152885 : Nat := 0
def PySem.W.Fast.tw6020468842596329881 : Nat := 0
def PySem.W.Fast.tw10892253188313031987 : Nat := 0
def PySem.W.Fast.tw14522228845540196634 : Nat := 0
def PySem.W.Fast.tw17841524875851513439 : Nat := 0
def PySem.W.Fast.tw11474120139712233510 : Nat := 0
def PySem.W.Fast.tw1129733242562164098 : Nat := 0
def PySem.W.Fast.tw1613413172567265542 : Nat := 0
def PySem.W.Fast.tw1554426521565184907 : Nat := 0
def PySem.W.Fast.tw6790000246777833136 : Nat := 0
def PySem.W.Fast.tw2703416510992913272 : Nat := 0
def PySem.W.Fast.tw1027197074082037592 : Nat := 0
def PySem.W.Fast.tw9642064006705583999 : Nat := 0
def PySem.W.Fast.tw4694974152138143768 : Nat := 0
def PySem.W.Fast.tw16571637166381153779 : Nat := 0
def PySem.W.Fast.tw15722787353453427808 : Nat := 0
def PySem.W.Fast.tw17588879710491312563 : Nat := 0
def PySem.W.Fast.tw3042199554773684464 : Nat := 0
def PySem.W.Fast.tw15126662048479377370 : Nat := 0
def PySem.W.Fast.tw11869019813933618188 : Nat := 0
def PySem.W.Fast.tw9041094336766172083 : Nat := 0
def PySem.W.Fast.tw6536490284373915641 : Nat := 0
def PySem.W.Fast.tw10004719900970435764 : Nat := 0
def PySem.W.Fast.tw3731997424841224533 : Nat := 0
def PySem.W.Fast.tw15001631837235847636 : Nat := 0
def PySem.W.Fast.tw5240251754633377455 : Nat := 0
def PySem.W.Fast.tw7055473429071516657 : Nat := 0
def PySem.W.Fast.tw1748022900114069337 : Nat := 0
def PySem.W.Fast.tw7657810513311752187 : Nat := 0
def PySem.W.Fast.tw16212053931523600110 : Nat := 0
def PySem.W.Fast.tw16546806146047597996 : Nat := 0
def PySem.W.Fast.tw8448385830853956447 : Nat := 0
def PySem.W.Fast.tw13100120267272508639 : Nat := 0
def PySem.W.Fast.tw67275482267767589 : Nat := 0
def PySem.W.Fast.tw2125607802435424103 : Nat := 0
def PySem.W.Fast.tw8550791388824590222 : Nat := 0
def PySem.W.Fast.tw3613104780503602529 : Nat := 0
def PySem.W.Fast.tw7780495277818701518 : Nat := 0
def PySem.W.Fast.tw4492155102581932362 : Nat := 0
def PySem.W.Fast.tw3072644042677142145 : Nat := 0
def PySem.W.Fast.tw8476970093847916963 : Nat := 0
def PySem.W.Fast.tw9977129951892404476 : Nat := 0
def PySem.W.Fast.tw7083214403732703469 : Nat := 0
def PySem.W.Fast.tw4259660846650252415 : Nat := 0
def PySem.W.Fast.tw10992907999909226919 : Nat := 0
def PySem.W.Fast.tw4550323321483290933 : Nat := 0
def PySem.W.Fast.tw16835509425015310217 : Nat := 0
def PySem.W.Fast.tw8473217499028614720 : Nat := 0
def PySem.W.Fast.tw8741710190144723108 : Nat := 0
def PySem.W.Fast.tw11885446389987049492 : Nat := 0
def PySem.W.Fast.tw3104485726289096937 : Nat := 0
def PySem.W.Fast.tw9355036710930134780 : Nat := 0
def PySem.W.Fast.tw1599639293231046292 : Nat := 0
def PySem.W.Fast.tw3441065888012494517 : Nat := 0
def PySem.W.Fast.tw2425401045683028744 : Nat := 0
def PySem.W.Fast.tw9098919407710063123 : Nat := 0
def PySem.W.Fast.tw11352781180792441586 : Nat := 0
def PySem.W.Fast.tw9140098011799875113 : Nat := 0
def PySem.W.Fast.tw352261951661510199 : Nat := 0
def PySem.W.Fast.tw17242084002449133387 : Nat := 0
def PySem.W.Fast.tw18350742647602611392 : Nat := 0
def PySem.W.Fast.tw11084356578543593192 : Nat := 0
def PySem.W.Fast.tw11675373480696749233 : Nat := 0
def PySem.W.Fast.tw8278031467056350111 : Nat := 0
def PySem.W.Fast.tw6940567606362453402 : Nat := 0
def PySem.W.Fast.tw12286374490454122547 : Nat := 0
def PySem.W.Fast.tw176861793656504558 : Nat := 0
def PySem.W.Fast.tw13105456530662012857 : Nat := 0
def PySem.W.Fast.tw2267859101274959713 : Nat := 0
def PySem.W.Fast.tw12856555806906421775 : Nat := 0
def PySem.W.Fast.tw15100911974717234606 : Nat := 0
def PySem.W.Fast.tw9137127905140396280 : Nat := 0
def PySem.W.Fast.tw8434580465660372290 : Nat := 0
def PySem.W.Fast.tw8655570010349073552 : Nat := 0
def PySem.W.Fast.tw566373330896541178 : Nat := 0
def PySem.W.Fast.tw14849153468722350732 : Nat := 0
def PySem.W.Fast.tw10242060966299059442 : Nat := 0
def PySem.W.Fast.tw16460668530071541146 : Nat := 0
def PySem.W.Fast.tw7619521976177739073 : Nat := 0
def PySem.W.Fast.tw4229498647562871645 : Nat := 0
def PySem.W.Fast.tw8526531698690352857 : Nat := 0
def PySem.W.Fast.tw9343684189625971115 : Nat := 0
def PySem.W.Fast.tw4020299949588042577 : Nat := 0
def PySem.W.Fast.tw16582291293647540811 : Nat := 0
def PySem.W.Fast.tw6658500875301550691 : Nat := 0
def PySem.W.Fast.tw10031036289592936316 : Nat := 0
def PySem.W.Fast.tw14092457940952277858 : Nat := 0
def PySem.W.Fast.tw11825645577215521123 : Nat := 0
def PySem.W.Fast.tw9381143516032812484 : Nat := 0
def PySem.W.Fast.tw13959463168720224349 : Nat := 0
def PySem.W.Fast.tw13472753745961794628 : Nat := 0
def PySem.W.Fast.tw9709933406427879220 : Nat := 0
def PySem.W.Fast.tw3024127377740140635 : Nat := 0
def PySem.W.Fast.tw14591747821280235864 : Nat := 0
def PySem.W.Fast.tw6329462283110309373 : Nat := 0
def PySem.W.Fast.tw2697092026822365725 : Nat := 0
def PySem.W.Fast.tw9245690964854302638 : Nat := 0
def PySem.W.Fast.tw7406929947007894792 : Nat := 0
def PySem.W.Fast.tw10993503313383407295 : Nat := 0
def PySem.W.Fast.tw10581840654322116761 : Nat := 0
def PySem.W.Fast.tw11232745140685188410 : Nat := 0
def PySem.W.Fast.tw4793083239181040468 : Nat := 0
def PySem.W.Fast.tw6851915480130618282 : Nat := 0
def PySem.W.Fast.tw13805529363773667529 : Nat := 0
def PySem.W.Fast.tw2871786643533184100 : Nat := 0
def PySem.W.Fast.tw3060580913599919353 : Nat := 0
def PySem.W.Fast.tw17653778884453081505 : Nat := 0
def PySem.W.Fast.tw14118258670766058574 : Nat := 0
def PySem.W.Fast.tw5740539477458574413 : Nat := 0
def PySem.W.Fast.tw3915192569050525573 : Nat := 0
def PySem.W.Fast.tw6924418731307882503 : Nat := 0
def PySem.W.Fast.tw11836077496549112340 : Nat := 0
def PySem.W.Fast.tw10848127299224705251 : Nat := 0
def PySem.W.Fast.tw10248099408189801466 : Nat := 0
def PySem.W.Fast.tw15999145213527372547 : Nat := 0
def PySem.W.Fast.tw17523612953097258464 : Nat := 0
def PySem.W.Fast.tw11316612758771896916 : Nat := 0
def PySem.W.Fast.tw8715125185970500456 : Nat := 0
def PySem.W.Fast.tw3527167306810520610 : Nat := 0
def PySem.W.Fast.tw2851886274861615137 : Nat := 0
def PySem.W.Fast.tw12747686559719511779 : Nat := 0
def PySem.W.Fast.tw18377347294603482524 : Nat := 0
def PySem.W.Fast.tw13045998230788659333 : Nat := 0
def PySem.W.Fast.tw2641794054625142645 : Nat := 0
def PySem.W.Fast.tw1738966916160381594 : Nat := 0
def PySem.W.Fast.tw8517785607563278453 : Nat := 0
def PySem.W.Fast.tw7748811547114912164 : Nat := 0
def PySem.W.Fast.tw15257235310599689946 : Nat := 0
def PySem.W.Fast.tw12142568646087951336 : Nat := 0
def PySem.W.Fast.tw11097449064396407656 : Nat := 0
def PySem.W.Fast.tw10948851262752649435 : Nat := 0
def PySem.W.Fast.tw5382554987060514356 : Nat := 0
def PySem.W.Fast.tw4969242237659125984 : Nat := 0
def PySem.W.Fast.tw1541872363709849276 : Nat := 0
def PySem.W.Fast.tw16277513003396709734 : Nat := 0
def PySem.W.Fast.tw7513331691663011915 : Nat := 0
def PySem.W.Fast.tw16061750412126933459 : Nat := 0
def PySem.W.Fast.tw2919214984596156751 : Nat := 0
def PySem.W.Fast.tw10860050023261276130 : Nat := 0
def PySem.W.Fast.tw17754684645160330543 : Nat := 0
def PySem.W.Fast.tw15922467125427375737 : Nat := 0
def PySem.W.Fast.tw13258188285305870377 : Nat := 0
def PySem.W.Fast.tw5405153026495744535 : Nat := 0
def PySem.W.Fast.tw1173483472759556812 : Nat := 0
def PySem.W.Fast.tw17652259688012569931 : Nat := 0
def PySem.W.Fast.tw243996938226491646 : Nat := 0
def PySem.W.Fast.tw17030519514538884342 : Nat := 0
def PySem.W.Fast.tw7124061883453748482 : Nat := 0
def PySem.W.Fast.tw18440729494093381518 : Nat := 0
def PySem.W.Fast.tw4244719844633474230 : Nat := 0
def PySem.W.Fast.tw2972108338253334562 : Nat := 0
def PySem.W.Fast.tw12156467006705662280 : Nat := 0
def PySem.W.Fast.tw14296768445365679432 : Nat := 0
def PySem.W.Fast.tw956465736356627928 : Nat := 0
def PySem.W.Fast.tw869266580430313081 : Nat := 0
def PySem.W.Fast.tw6301248804924997458 : Nat := 0
def PySem.W.Fast.tw722449188330199718 : Nat := 0
def PySem.W.Fast.tw12019932615394843844 : Nat := 0
def PySem.W.Fast.tw17847719673456776934 : Nat := 0
def PySem.W.Fast.tw11846049463943655617 : Nat := 0
def PySem.W.Fast.tw3038906828077697319 : Nat := 0
def PySem.W.Fast.tw6992296602100497427 : Nat := 0
def PySem.W.Fast.tw17425817571953994970 : Nat := 0
def PySem.W.Fast.tw11759488857583467184 : Nat := 0
def PySem.W.Fast.tw14153244680471282450 : Nat := 0
def PySem.W.Fast.tw10384686314184808148 : Nat := 0
def PySem.W.Fast.tw18160378602316897219 : Nat := 0
def PySem.W.Fast.tw12378843904509018701 : Nat := 0
def PySem.W.Fast.tw2325050476324102735 : Nat := 0
def PySem.W.Fast.tw3062448259697876993 : Nat := 0
def PySem.W.Fast.tw4691359602026860687 : Nat := 0
def PySem.W.Fast.tw2248078648794188997 : Nat := 0
def PySem.W.Fast.tw96178939992956907 : Nat := 0
def PySem.W.Fast.tw5871841997696711803 : Nat := 0
def PySem.W.Fast.tw944294494706317692 : Nat := 0
def PySem.W.Fast.tw9163286754777112843 : Nat := 0
def PySem.W.Fast.tw9600990596456117249 : Nat := 0
def PySem.W.Fast.tw13675006049899110369 : Nat := 0
def PySem.W.Fast.tw17365150194206042410 : Nat := 0
def PySem.W.Fast.tw3295805454187001557 : Nat := 0
def PySem.W.Fast.tw8940304512924374014 : Nat := 0
def PySem.W.Fast.tw8827932086210289243 : Nat := 0
def PySem.W.Fast.tw15951790971278842839 : Nat := 0
def PySem.W.Fast.tw14077620658940342786 : Nat := 0
def PySem.W.Fast.tw16462517189821872212 : Nat := 0
def PySem.W.Fast.tw11117232241895010115 : Nat := 0
def PySem.W.Fast.tw2475110289278904301 : Nat := 0
def PySem.W.Fast.tw8864725993078510527 : Nat := 0
def PySem.W.Fast.tw9811789735524272887 : Nat := 0
def PySem.W.Fast.tw1395068904163431077 : Nat := 0
def PySem.W.Fast.tw7589909864874725240 : Nat := 0
def PySem.W.Fast.tw15557865988784669136 : Nat := 0
def PySem.W.Fast.tw15952985478545416081 : Nat := 0
def PySem.W.Fast.tw16696347199660089695 : Nat := 0
def PySem.W.Fast.tw2515992839631905311 : Nat := 0
def PySem.W.Fast.tw14204376024615828439 : Nat := 0
def PySem.W.Fast.tw15370507850837198124 : Nat := 0
def PySem.W.Fast.tw14911739356434013241 : Nat := 0
def PySem.W.Fast.tw5604699182793667290 : Nat := 0
def PySem.W.Fast.tw5031520547926834062 : Nat := 0
def PySem.W.Fast.tw10344200502649764636 : Nat := 0
def PySem.W.Fast.tw13314990045134546682 : Nat := 0
def PySem.W.Fast.tw8595541818434872990 : Nat := 0
def PySem.W.Fast.tw8585588387957960509 : Nat := 0
def PySem.W.Fast.tw11587995830941014164 : Nat := 0
def PySem.W.Fast.tw10343167121095593311 : Nat := 0
def PySem.W.Fast.tw11637807433123906866 : Nat := 0
def PySem.W.Fast.tw3257913926607799901 : Nat := 0
def PySem.W.Fast.tw2897514324489249856 : Nat := 0
def PySem.W.Fast.tw10764177478091803146 : Nat := 0
def PySem.W.Fast.tw13137169016100182715 : Nat := 0
def PySem.W.Fast.tw17762970020545681074 : Nat := 0
def PySem.W.Fast.tw7494305705562332430 : Nat := 0
def PySem.W.Fast.tw5349037875231770890 : Nat := 0
def PySem.W.Fast.tw14239217241290344980 : Nat := 0
def PySem.W.Fast.tw13721997420727643572 : Nat := 0
def PySem.W.Fast.tw11102996812921899802 : Nat := 0
def PySem.W.Fast.tw3989547132681754290 : Nat := 0
def PySem.W.Fast.tw3755882517343211481 : Nat := 0
def PySem.W.Fast.tw4463579679415787972 : Nat := 0
def PySem.W.Fast.tw4061868181295716979 : Nat := 0
def PySem.W.Fast.tw16418612485328351583 : Nat := 0
def PySem.W.Fast.tw4985105110187407734 : Nat := 0
def PySem.W.Fast.tw8703252963607481373 : Nat := 0
def PySem.W.Fast.tw387647075949448474 : Nat := 0
def PySem.W.Fast.tw13649151146462575637 : Nat := 0
def PySem.W.Fast.tw6502998948449093383 : Nat := 0
def PySem.W.Fast.tw14134952750318533535 : Nat := 0
def PySem.W.Fast.tw14972786209130234743 : Nat := 0
def PySem.W.Fast.tw10962174217693147199 : Nat := 0
def PySem.W.Fast.tw4741442297793544766 : Nat := 0
def PySem.W.Fast.tw13748495614093251243 : Nat := 0
def PySem.W.Fast.tw6628152541745284992 : Nat := 0
def PySem.W.Fast.tw1383609233848919611 : Nat := 0
def PySem.W.Fast.tw2655284680848952411 : Nat := 0
def PySem.W.Fast.tw15842510163747723247 : Nat := 0
def PySem.W.Fast.tw12928360162688935015 : Nat := 0
def PySem.W.Fast.tw15116813420528296905 : Nat := 0
def PySem.W.Fast.tw15661387735136736859 : Nat := 0
def PySem.W.Fast.tw9436091590045489914 : Nat := 0
def PySem.W.Fast.tw1812770166826851587 : Nat := 0
def PySem.W.Fast.tw10258141387420322896 : Nat := 0
def PySem.W.Fast.tw6207588211748927356 : Nat := 0
def PySem.W.Fast.tw2787245697092668957 : Nat := 0
def PySem.W.Fast.tw5372446284954170773 : Nat := 0
def PySem.W.Fast.tw11091582317768993755 : Nat := 0
def PySem.W.Fast.tw3994904107486334584 : Nat := 0
def PySem.W.Fast.tw13091494572476903901 : Nat := 0
def PySem.W.Fast.tw10564847089446380712 : Nat := 0
def PySem.W.Fast.tw16813684806190158930 : Nat := 0
def PySem.W.Fast.tw15252822061344556942 : Nat := 0
def PySem.W.Fast.tw5539861515135868175 : Nat := 0
def PySem.W.Fast.tw2276850037051507225 : Nat := 0
def PySem.W.Fast.tw13453767779729377914 : Nat := 0
def PySem.W.Fast.tw5465726017000328239 : Nat := 0
def PySem.W.Fast.tw4225422980365329829 : Nat := 0
def PySem.W.Fast.tw2023881801282358393 : Nat := 0
def PySem.W.Fast.tw8216140350176689063 : Nat := 0
def PySem.W.Fast.tw14689529960548092926 : Nat := 0
namespace My
open PySem L2 PyProof.Rows
seal PE PT PW PA PS PSs PG PGs PI PIfs OpR UnR CallR TruR IxR MtR MtM PSet PIp PC
def top (i : Nat) : Stmt := PySem.Challenge.pw_crossracks_k52_nests_in_form.main.body.getD i (.Pass ⟨0, 0, 0, 0⟩)
structure Txt (K : PySem.W.Frag) (mg : Str → Option Value) : Prop where
  m_len : mg "len" = none
  m_isinstance : mg "isinstance" = none
  m_int : mg "int" = none
  m_bool : mg "bool" = none
  m_tuple : mg "tuple" = none
  m_list : mg "list" = none
  m_range : mg "range" = none
  m_abs : mg "abs" = none
  m_min : mg "min" = none
  m_sorted : mg "sorted" = none
  m_zip : mg "zip" = none
  m_enumerate : mg "enumerate" = none
  m_divmod : mg "divmod" = none
  m_sum : mg "sum" = none
  m_reversed : mg "reversed" = none
  m_ValueError : mg "ValueError" = none
structure TxtC (K : PySem.W.Frag) (mg : Str → Option Value) (C_HallError : Addr) (C_TooFull : Addr) (C_NoTurns : Addr) : Prop where
  mg_HallError : mg "HallError" = some (.ref C_HallError)
  mg_TooFull : mg "TooFull" = some (.ref C_TooFull)
  mg_NoTurns : mg "NoTurns" = some (.ref C_NoTurns)
def cell (ns : List Int) (k : Nat) : Int := ns.getD k 0
theorem at_nat {ns : List Int} {k : Nat} (h : k < ns.length) : atI (ns.map V.int) (k : Int) = some (.int (cell ns k)) := atI_nat (by
  rw [List.getElem?_map, List.getElem?_eq_getElem h]
  simp [cell, List.getD, h])
theorem same_new {H : Hp} {p : Addr} (h : H p = none) (o : HO) : Same H (upd H p o) := fun b u q => by rw [upd_ne (ne_of_none q h)]; exact q
theorem Same.put {H H' : Hp} {l : Addr} {o : HO} (s : Same H H') (hl : H l = none) : Same H (upd H' l o) := fun b u q => by
  rw [upd_ne (ne_of_none q hl)]
  exact s b u q
def SameX (t : Addr) (H H' : Hp) : Prop := ∀ b u, b ≠ t → H b = some u → H' b = some u
def spCell (K : PySem.W.Frag) : Sp := fun vs H Q _ => ∃ (a : Addr) (ns : List Int) (k : Nat), vs = [.ref a, .int k] ∧ SqL K H a (ns.map V.int) ∧ Q (.int (cell ns k)) H
def spLaw (K : PySem.W.Frag) : Sp := fun vs H Q _ => ∃ (a : Addr) (ns : List Int), vs = [.ref a] ∧ SqL K H a (ns.map V.int) ∧ ns.length ≤ 63 ∧ ∀ H', Q (.bl true) H'
def spMixed : Sp := fun vs H Q _ => ∃ (c : Int) (k : Nat), vs = [.int c, .int k] ∧ k ≤ 63 ∧ ∀ v : Int, 0 ≤ v → v < 2147483647 → Q (.int v) H
section
variable {P : Program} {w : World} {K : PySem.W.Frag} {mg : Str → Option Value} {base : Heap}
theorem sc__law_cell_at : FnScope ["_law_script", "_law_k"] ["_law_script", "_law_k"] (defScope (top 27)) := ⟨rfl, rfl, rfl, by decide +kernel, rfl, by decide +kernel, by decide +kernel⟩
theorem ok_cell (T : Txt K mg) (D : Def K mg "_law_cell_at" (top 27) ["_law_script", "_law_k"]) : Callee P w K mg base 1 "_law_cell_at" ["_law_script", "_law_k"] (spCell K) := by
  refine D.ok sc__law_cell_at (fun vs H Q E h => ?_) (fun f cdv A outer s H vs Q E hr h => ?_)
  · obtain ⟨a, ns, k, rfl, _⟩ := h
    rfl
  obtain ⟨a, ns, k, rfl, hS, q⟩ := h
  refine ⟨_, (pss_cons (ps_if (pt_cmpR op_lt (pv 1) (pe_callB (call_lenK K) rfl T.m_len boot_len (pa_cons (pv 0) pa_nil st_name)) (nomark _)) (pss_one (ps_ret (pe_ix (ix_listK K) (pv 0) (pv 1) (fun _ _ => rfl)))) pss_nil)
    (pss_one (ps_ret pe_int))), ?_⟩
  refine ⟨_, rfl, _, rfl, a, _, rfl, .inl hS, _, _, rfl, rfl, _, rfl, ?_⟩
  refine ite2 (fun c => ?_) (fun c => ?_)
  · have c' : (k : Int) < (((ns.map V.int).length : Nat) : Int) := of_decide_eq_true c
    rw [List.length_map] at c'
    exact ⟨_, rfl, _, rfl, a, _, _, _, rfl, rfl, hS, at_nat (by omega), q⟩
  · have c' : ¬ (k : Int) < (((ns.map V.int).length : Nat) : Int) := of_decide_eq_false (Bool.eq_false_iff.mpr c)
    rw [List.length_map] at c'
    have e : cell ns k = 0 := by simp [cell, List.getD, List.getElem?_eq_none (show ns.length ≤ k by omega)]
    rw [e] at q
    exact q
theorem sc__law_mixed : FnScope ["_law_cell", "_law_k"] ["_law_cell", "_law_k"] (defScope (top 28)) := ⟨rfl, rfl, rfl, by decide +kernel, rfl, by decide +kernel, by decide +kernel⟩
theorem ok_mixed (T : Txt K mg) (D : Def K mg "_law_mixed" (top 28) ["_law_cell", "_law_k"]) : Callee P w K mg base 1 "_law_mixed" ["_law_cell", "_law_k"] spMixed := by
  refine D.ok sc__law_mixed (fun vs H Q E h => ?_) (fun f cdv A outer s H vs Q E hr h => ?_)
  · obtain ⟨c, k, rfl, _⟩ := h
    rfl
  obtain ⟨c, k, rfl, hk, q⟩ := h
  refine ⟨_, (pss_one (ps_ret (pe_op op_mod (pe_op op_mul (pe_op op_add (pe_op op_add (pe_op op_mod (pv 0) pe_int) (pe_op op_mul (pv 1) (pv 1))) pe_int) pe_int) pe_int))), ?_⟩
  exact ⟨_, rfl, _, _, rfl, rfl, (by show (0 : Int) < 1000003; decide), _, rfl, _, rfl, _, _, rfl, rfl, .inl ⟨by omega, by omega⟩, _, _, rfl, rfl, _, _, rfl, rfl, _, _, rfl, rfl, .inr ⟨by decide, by decide⟩, _, _, rfl, rfl, (by show (0 : Int) < 2147483647; decide), q _ (Int.emod_nonneg _ (by decide)) (Int.emod_lt_of_pos _ (by decide))⟩
end
theorem mod_in {x d : Int} (h : 0 < d) : 0 ≤ x % d ∧ x % d < d := ⟨Int.emod_nonneg _ (by omega), Int.emod_lt_of_pos _ h⟩
def spDigit : Sp := fun vs H Q _ => ∃ (l : Addr) (n m : Int), vs = [.ref l, .int m] ∧ H l = some (.lst [.int n]) ∧ 0 < m ∧ m < 1000 ∧ Q (.int (n % m)) (upd H l (.lst [.int (n / m)]))
section
variable {P : Program} {w : World} {K : PySem.W.Frag} {mg : Str → Option Value} {base : Heap}
theorem sc__law_digit : FnScope ["_law_left", "_law_many", "_law_found"] ["_law_left", "_law_many"] (defScope (top 30)) := ⟨rfl, rfl, rfl, by decide +kernel, rfl, by decide +kernel, by decide +kernel⟩
theorem ok_digit (T : Txt K mg) (D : Def K mg "_law_digit" (top 30) ["_law_left", "_law_many"]) : Callee P w K mg base 1 "_law_digit" ["_law_left", "_law_many"] spDigit := by
  refine D.ok sc__law_digit (fun vs H Q E h => ?_) (fun f cdv A outer s H vs Q E hr h => ?_)
  · obtain ⟨l, n, m, rfl, _⟩ := h
    rfl
  obtain ⟨l, n, m, rfl, hl, hm, hm2, q⟩ := h
  refine ⟨_, (pss_cons (ps_set (i := 2) sc__law_digit.nd rfl (Or.inl rfl) (pe_op op_mod (pe_ix (ix_listK K) (pv 0) pe_int (fun _ _ => rfl)) (pv 1)))
    (pss_cons (ps_asg (pe_op op_fdiv (pe_ix (ix_listK K) (pv 0) pe_int (fun _ _ => rfl)) (pv 1)) (pg_sub (pv 0) pe_int set_list))
    (pss_one (ps_ret (pv 2))))), ?_⟩
  refine ⟨_, rfl, l, _, _, _, rfl, rfl, SqL.of hl, rfl, _, rfl, _, _, rfl, rfl, hm, ?_⟩
  exact ⟨_, rfl, l, _, _, _, rfl, rfl, SqL.of hl, rfl, _, rfl, _, _, rfl, rfl, ⟨hm, by omega⟩, _, rfl, l, _, _, 0, rfl, rfl, hl, rfl, _, rfl, q⟩
end
def oN : Option Nat → V
  | none => .non
  | some n => .int (n : Nat)
def PrAt (H : Hp) (a : Addr) (p : Int × Int) : Prop := H a = some (.tup [.int p.1, .int p.2])
def PrsAt (H : Hp) (as : List Addr) (ps : List (Int × Int)) : Prop := Paired (PrAt H) as ps
theorem PrsAt.mono {H H' : Hp} {as : List Addr} {ps : List (Int × Int)} (s : ∀ a xs, H a = some (.tup xs) → H' a = some (.tup xs)) (h : PrsAt H as ps) : PrsAt H' as ps := Paired.mapP h fun a p z => s _ _ z
theorem PrsAt.same {H H' : Hp} {as : List Addr} {ps : List (Int × Int)} (s : Same H H') (h : PrsAt H as ps) : PrsAt H' as ps := h.mono fun a xs z => s _ _ z
theorem pr_snoc {F : Addr → Int × Int → Prop} {a : Addr} {p : Int × Int} : ∀ {as : List Addr} {ps : List (Int × Int)}, Paired F as ps → F a p → Paired F (as ++ [a]) (ps ++ [p])
  | _, _, .nil, h => .cons h .nil
  | _, _, .cons r t, h => .cons r (pr_snoc t h)
theorem PrsAt.snoc {H : Hp} {as : List Addr} {ps : List (Int × Int)} {a : Addr} {p : Int × Int} (h : PrsAt H as ps) (e : H a = some (.tup [.int p.1, .int p.2])) : PrsAt H (as ++ [a]) (ps ++ [p]) := pr_snoc h e
def sdI (side : Int) (p : Int × Int) : Int := if side = 0 then p.1 else p.2
def rks (side : Int) (ps : List (Int × Int)) : List Int := ps.map (sdI side)
theorem sd_at {side : Int} (hs : side = 0 ∨ side = 1) (p : Int × Int) : atI [V.int p.1, V.int p.2] side = some (V.int (sdI side p)) := by
  rcases hs with rfl | rfl <;> rfl
theorem ixN_nat {n k : Nat} (h : k < n) : ixN n (k : Int) = some k := by
  unfold ixN
  simp
  omega
theorem set_map {α : Type} (f : α → V) (l : List α) (i : Nat) (x : α) : (l.map f).set i (f x) = (l.set i x).map f := by rw [List.map_set]
theorem val_map {f : Int → V} (r : Int) : ∀ ns : List Int, valV (ns.map fun r => ((Sum.inl r : Key), f r)) (.inl r) = if r ∈ ns then some (f r) else none
  | [] => rfl
  | n :: ns => by
    rw [List.map_cons]
    by_cases e : n = r
    · subst e
      rw [valV_pos (by rfl), if_pos (List.mem_cons_self ..)]
    · rw [valV_neg (fun z => e (Sum.inl.inj z)), val_map r ns]
      have : r ∈ n :: ns ↔ r ∈ ns := by
        rw [List.mem_cons]
        exact ⟨fun z => z.elim (fun y => absurd y.symm e) id, .inr⟩
      by_cases m : r ∈ ns
      · rw [if_pos m, if_pos (this.mpr m)]
      · rw [if_neg m, if_neg (fun z => m (this.mp z))]
def CntD (kvs : List (Key × V)) (rs : List Int) : Prop := ∃ ns : List Int, ns.Nodup ∧ (∀ r, r ∈ ns ↔ r ∈ rs) ∧ ns.length ≤ rs.length ∧ kvs = ns.map fun r => ((Sum.inl r : Key), V.int ((rs.count r : Nat) : Int))
theorem CntD.nil : CntD [] [] := ⟨[], List.nodup_nil, fun r => Iff.rfl, Nat.le_refl _, rfl⟩
theorem CntD.val {kvs : List (Key × V)} {rs : List Int} (h : CntD kvs rs) (r : Int) : valV kvs (.inl r) = if r ∈ rs then some (.int ((rs.count r : Nat) : Int)) else none := by
  obtain ⟨ns, _, h2, _, rfl⟩ := h
  rw [val_map]
  by_cases m : r ∈ rs
  · rw [if_pos m, if_pos ((h2 r).mpr m)]
  · rw [if_neg m, if_neg fun z => m ((h2 r).mp z)]
theorem CntD.get {kvs : List (Key × V)} {rs : List Int} (h : CntD kvs rs) (r : Int) : (valV kvs (.inl r)).getD (.int 0) = .int ((rs.count r : Nat) : Int) := by
  rw [h.val]
  by_cases m : r ∈ rs
  · rw [if_pos m]; rfl
  · rw [if_neg m, List.count_eq_zero.mpr m]; rfl
theorem count_snoc (rs : List Int) (r x : Int) : (rs ++ [r]).count x = rs.count x + if r = x then 1 else 0 := by
  rw [List.count_append, List.count_singleton]
  by_cases e : r = x
  · rw [if_pos e, if_pos (by simpa using e)]
  · rw [if_neg e, if_neg (by simpa using e)]
theorem CntD.put {kvs : List (Key × V)} {rs : List Int} (h : CntD kvs rs) (r : Int) : CntD (putK kvs (.inl r) (.int ((rs.count r : Nat) + 1 : Int))) (rs ++ [r]) := by
  obtain ⟨ns, h1, h2, h3, rfl⟩ := h
  have hv := val_map (f := fun r => V.int ((rs.count r : Nat) : Int)) r ns
  by_cases m : r ∈ ns
  · rw [if_pos m] at hv
    refine ⟨ns, h1, fun x => ?_, by rw [List.length_append]; omega, ?_⟩
    · rw [h2 x, List.mem_append, List.mem_singleton]
      exact ⟨.inl, fun z => z.elim id fun y => y ▸ (h2 r).mp m⟩
    · unfold putK
      rw [if_pos (by rw [valV_any, hv]; rfl), List.map_map]
      refine List.map_congr_left fun x hx => ?_
      by_cases e : x = r
      · subst e
        simp only [Function.comp, if_pos, count_snoc]
        rfl
      · have e' : ¬ (Sum.inl x : Key) = Sum.inl r := fun z => e (Sum.inl.inj z)
        simp only [Function.comp, if_neg e', count_snoc, if_neg (show ¬ r = x from fun z => e z.symm), Nat.add_zero]
  · rw [if_neg m] at hv
    rw [putK_new _ hv]
    have mr : ¬ r ∈ rs := fun z => m ((h2 r).mpr z)
    refine ⟨ns ++ [r], nd_snoc h1 m, fun x => ?_, by rw [List.length_append, List.length_append]; exact Nat.add_le_add_right h3 _, ?_⟩
    · rw [List.mem_append, List.mem_append, h2 x]
    · rw [List.map_append]
      congr 1
      · refine List.map_congr_left fun x hx => ?_
        have e : ¬ r = x := fun z => m (z ▸ hx)
        rw [count_snoc, if_neg e, Nat.add_zero]
      · rw [List.map_singleton, count_snoc, if_pos rfl]
        rfl
def spSide (K : PySem.W.Frag) : Sp := fun vs H Q _ => ∃ (l : Addr) (as : List Addr) (ps : List (Int × Int)) (side : Int), vs = [.ref l, .int side] ∧ SqL K H l (as.map V.ref) ∧ PrsAt H as ps ∧ ps.length ≤ 64 ∧ (side = 0 ∨ side = 1) ∧ ∀ (d : Addr) (kvs : List (Key × V)) (H' : Hp), Same H H' → H d = none → H' d = some (.dK kvs) → CntD kvs (rks side ps) → Q (.ref d) H'
theorem take_snoc {α : Type} {l : List α} {i : Nat} {x : α} (h : l[i]? = some x) : l.take (i + 1) = l.take i ++ [x] := by
  rw [List.take_add_one, h]
  rfl
section
variable {P : Program} {w : World} {K : PySem.W.Frag} {mg : Str → Option Value} {base : Heap}
theorem sc_side_weights : FnScope ["pairs", "side", "found", "pair"] ["pairs", "side"] (defScope (top 11)) := ⟨rfl, rfl, rfl, by decide +kernel, rfl, by decide +kernel, by decide +kernel⟩
theorem ok_side (T : Txt K mg) (D : Def K mg "side_weights" (top 11) ["pairs", "side"]) : Callee P w K mg base 1 "side_weights" ["pairs", "side"] (spSide K) := by
  refine D.ok sc_side_weights (fun vs H Q E h => ?_) (fun f cdv A outer s H vs Q E hr h => ?_)
  · obtain ⟨l, as, ps, side, rfl, _⟩ := h
    rfl
  obtain ⟨l, as, ps, side, rfl, hl, pr, few, hs, q⟩ := h
  refine ⟨_, (pss_cons (ps_set (i := 2) sc_side_weights.nd rfl (Or.inl rfl) pe_dnewK)
    (pss_cons (ps_for PassesOwn.never rfl (pi_listK K (pv 0)) (pg_name (i := 3) sc_side_weights.nd rfl (Or.inl rfl))
    (pss_one (ps_dput (hu_of hr) (pv 2) (pe_ix (ix_tupK K) (pv 3) (pv 1) (fun _ _ => rfl)) (pe_op op_add (pe_dget2 (hu_of hr) (pv 2) (pe_ix (ix_tupK K) (pv 3) (pv 1) (fun _ _ => rfl)) pe_int ⟨rfl, rfl, rfl, rfl⟩) pe_int) rfl)))
    (pss_one (ps_ret (pv 2))))), ?_⟩
  refine fun d hd => ?_
  have ed := upd_same (H := H) (a := d) (o := .dK [])
  have s1 := same_new hd (.dK [])
  generalize upd H d (.dK []) = H1 at ed s1 ⊢
  have ln : as.length = ps.length := Paired.length pr
  refine ⟨_, rfl, l, rfl, ⟨_, s1.seq hl⟩, ?_⟩
  refine for_list (xs := as.map V.ref) (fun i σ H' => Same H H' ∧ (∃ kvs, H' d = some (.dK kvs) ∧ CntD kvs (rks side (ps.take i))) ∧ ∃ v3, σ = [some (.ref l), some (.int side), some (.ref d), v3])
    ⟨s1, ⟨[], ed, CntD.nil⟩, none, rfl⟩ (fun i σ H' _ g => g.1.seq hl) ?_ ?_
  · rintro i x σ H' hx ⟨s2, ⟨kvs, e1, cd⟩, v3, rfl⟩
    rw [List.getElem?_map] at hx
    obtain ⟨a, ha, rfl⟩ := Option.map_eq_some_iff.mp hx
    obtain ⟨p, hp, pa⟩ := paired_at pr i a ha
    have pa' : H' a = some (.tup [.int p.1, .int p.2]) := s2 _ _ pa
    have hi := (List.getElem?_eq_some_iff.mp hp).1
    have kl : kvs.length ≤ 64 := by
      obtain ⟨ns, _, _, h3, rfl⟩ := cd
      rw [rks, List.length_map, List.length_take] at h3
      rw [List.length_map]
      omega
    refine ⟨_, rfl, d, rfl, .inl ⟨_, .inl e1⟩, _, rfl, _, rfl, a, _, _, _, rfl, rfl, SqT.of pa', sd_at hs p, _, DGet.k (k := .inl (sdI side p)) e1, _, _, cd.get _, rfl, _, rfl, _, rfl, _, rfl, a, _, _, _, rfl, rfl, SqT.of pa', sd_at hs p, d, _, rfl, DPut.k (k := .inl (sdI side p)) e1 (small1000 (by omega)), ?_⟩
    refine ⟨Same.put s2 hd, ⟨_, upd_same, ?_⟩, _, rfl⟩
    have := cd.put (sdI side p)
    rw [take_snoc hp, show rks side (ps.take i ++ [p]) = rks side (ps.take i) ++ [sdI side p] by rw [rks, rks, List.map_append]; rfl]
    exact this
  · rintro σ H' ⟨s2, ⟨kvs, e1, cd⟩, v3, rfl⟩
    rw [List.length_map, ln, List.take_length] at cd
    exact ⟨_, rfl, q d kvs H' s2 hd e1 cd⟩
end
structure Num (R0 R1 : Nat → Int) (t : Nat) (nu : Nat → Int) : Prop where
  p0 : ∀ i j, i < t → j < t → nu i = nu j → R0 i = R0 j → i = j
  p1 : ∀ i j, i < t → j < t → nu i = nu j → R1 i = R1 j → i = j
structure Cha (R0 R1 : Nat → Int) (t : Nat) (nu : Nat → Int) (a b r1 : Int) (cs pre : List Nat) : Prop where
  nd : cs.Nodup
  sub : ∀ i ∈ pre, i ∈ cs
  lt : ∀ i ∈ cs, i < t
  ab : ∀ i ∈ cs, nu i = a ∨ nu i = b
  A : ∀ p ∈ cs, nu p = b → ∃ e ∈ pre, nu e = a ∧ R0 e = R0 p
  B : ∀ p ∈ cs, nu p = a → R1 p = r1 ∨ ∃ e ∈ pre, nu e = b ∧ R1 e = R1 p
  C : ∀ e ∈ pre, nu e = a → ∀ j, j < t → nu j = b → R0 j = R0 e → j ∈ cs
  D : ∀ e ∈ pre, nu e = b → ∀ j, j < t → nu j = a → R1 j = R1 e → j ∈ cs
  F : ∀ j, j < t → nu j = a → R1 j = r1 → j ∈ cs
section
variable {R0 R1 : Nat → Int} {t : Nat} {nu : Nat → Int} {a b r1 : Int} {cs pre : List Nat} {e p : Nat}
theorem Cha.none (h : ∀ j, j < t → nu j = a → R1 j ≠ r1) : Cha R0 R1 t nu a b r1 [] [] :=
  ⟨List.nodup_nil, (fun i z => z), (fun i z => nomatch z), (fun i z => nomatch z), (fun i z => nomatch z), (fun i z => nomatch z), (fun i z => nomatch z), (fun i z => nomatch z), fun j h1 h2 h3 => absurd h3 (h j h1 h2)⟩
theorem Cha.one (N : Num R0 R1 t nu) (hb : ∀ j, j < t → R1 j = r1 → nu j ≠ b) (hp : p < t) (pa : nu p = a) (pr : R1 p = r1) : Cha R0 R1 t nu a b r1 [p] [] := by
  have hab : a ≠ b := fun z => hb p hp pr (by rw [pa, z])
  refine ⟨by simp, (fun i z => nomatch z), fun i z => ?_, fun i z => ?_, fun i z y => ?_, fun i z y => ?_, (fun i z => nomatch z), (fun i z => nomatch z), fun j h1 h2 h3 => ?_⟩
  · rw [List.mem_singleton.mp z]; exact hp
  · rw [List.mem_singleton.mp z]; exact .inl pa
  · rw [List.mem_singleton.mp z, pa] at y; exact absurd y hab
  · rw [List.mem_singleton.mp z]; exact .inl pr
  · rw [N.p1 j p h1 hp (by rw [h2, pa]) (by rw [h3, pr])]; exact List.mem_singleton.mpr rfl
theorem nd_last (h : (pre ++ [e]).Nodup) : ¬ e ∈ pre := fun z => by
  rw [List.nodup_append] at h
  exact h.2.2 e z e (List.mem_singleton.mpr rfl) rfl
theorem nd_snocN {l : List Nat} {x : Nat} (h : l.Nodup) (hx : ¬ x ∈ l) : (l ++ [x]).Nodup := by
  rw [List.nodup_append]
  refine ⟨h, by simp, fun y hy z hz w => ?_⟩
  rw [List.mem_singleton.mp hz] at w
  exact hx (w ▸ hy)
theorem Cha.to0 (N : Num R0 R1 t nu) (hab : a ≠ b) (h : Cha R0 R1 t nu a b r1 (pre ++ [e]) pre) (ea : nu e = a) (hp : p < t) (pb : nu p = b) (pr : R0 p = R0 e) : Cha R0 R1 t nu a b r1 ((pre ++ [e]) ++ [p]) (pre ++ [e]) := by
  have he : e ∈ pre ++ [e] := List.mem_append_right _ (List.mem_singleton.mpr rfl)
  have le := h.lt e he
  have np : ¬ p ∈ pre ++ [e] := fun z => by
    obtain ⟨e', h1, h2, h3⟩ := h.A p z pb
    have : e' = e := N.p0 e' e (h.lt e' (h.sub e' h1)) le (by rw [h2, ea]) (by rw [h3, pr])
    exact nd_last h.nd (this ▸ h1)
  have old : ∀ i, i ∈ pre ++ [e] → i ∈ (pre ++ [e]) ++ [p] := fun i z => List.mem_append_left _ z
  have cas : ∀ i, i ∈ (pre ++ [e]) ++ [p] → i ∈ pre ++ [e] ∨ i = p := fun i z => (List.mem_append.mp z).imp id List.mem_singleton.mp
  refine ⟨nd_snocN h.nd np, old, fun i z => ?_, fun i z => ?_, fun i z y => ?_, fun i z y => ?_, fun i z y j h1 h2 h3 => ?_, fun i z y j h1 h2 h3 => ?_, fun j h1 h2 h3 => old _ (h.F j h1 h2 h3)⟩
  · rcases cas i z with w | rfl
    · exact h.lt i w
    · exact hp
  · rcases cas i z with w | rfl
    · exact h.ab i w
    · exact .inr pb
  · rcases cas i z with w | rfl
    · obtain ⟨e', h1, h2⟩ := h.A i w y
      exact ⟨e', h.sub e' h1, h2⟩
    · exact ⟨e, he, ea, pr.symm⟩
  · rcases cas i z with w | rfl
    · rcases h.B i w y with v | ⟨e', h1, h2⟩
      · exact .inl v
      · exact .inr ⟨e', h.sub e' h1, h2⟩
    · exact absurd (y.symm.trans pb) hab
  · rcases List.mem_append.mp z with w | w
    · exact old _ (h.C i w y j h1 h2 h3)
    · rw [List.mem_singleton.mp w] at h3
      rw [N.p0 j p h1 hp (by rw [h2, pb]) (by rw [h3, pr])]
      exact List.mem_append_right _ (List.mem_singleton.mpr rfl)
  · rcases List.mem_append.mp z with w | w
    · exact old _ (h.D i w y j h1 h2 h3)
    · rw [List.mem_singleton.mp w, ea] at y
      exact absurd y hab
theorem Cha.to1 (N : Num R0 R1 t nu) (hab : a ≠ b) (hb : ∀ j, j < t → R1 j = r1 → nu j ≠ b) (h : Cha R0 R1 t nu a b r1 (pre ++ [e]) pre) (eb : nu e = b) (hp : p < t) (pa : nu p = a) (pr : R1 p = R1 e) : Cha R0 R1 t nu a b r1 ((pre ++ [e]) ++ [p]) (pre ++ [e]) := by
  have he : e ∈ pre ++ [e] := List.mem_append_right _ (List.mem_singleton.mpr rfl)
  have le := h.lt e he
  have np : ¬ p ∈ pre ++ [e] := fun z => by
    rcases h.B p z pa with w | ⟨e', h1, h2, h3⟩
    · exact hb e le (by rw [← pr, w]) eb
    · have : e' = e := N.p1 e' e (h.lt e' (h.sub e' h1)) le (by rw [h2, eb]) (by rw [h3, pr])
      exact nd_last h.nd (this ▸ h1)
  have old : ∀ i, i ∈ pre ++ [e] → i ∈ (pre ++ [e]) ++ [p] := fun i z => List.mem_append_left _ z
  have cas : ∀ i, i ∈ (pre ++ [e]) ++ [p] → i ∈ pre ++ [e] ∨ i = p := fun i z => (List.mem_append.mp z).imp id List.mem_singleton.mp
  refine ⟨nd_snocN h.nd np, old, fun i z => ?_, fun i z => ?_, fun i z y => ?_, fun i z y => ?_, fun i z y j h1 h2 h3 => ?_, fun i z y j h1 h2 h3 => ?_, fun j h1 h2 h3 => old _ (h.F j h1 h2 h3)⟩
  · rcases cas i z with w | rfl
    · exact h.lt i w
    · exact hp
  · rcases cas i z with w | rfl
    · exact h.ab i w
    · exact .inl pa
  · rcases cas i z with w | rfl
    · obtain ⟨e', h1, h2⟩ := h.A i w y
      exact ⟨e', h.sub e' h1, h2⟩
    · exact absurd (pa.symm.trans y) hab
  · rcases cas i z with w | rfl
    · rcases h.B i w y with v | ⟨e', h1, h2⟩
      · exact .inl v
      · exact .inr ⟨e', h.sub e' h1, h2⟩
    · exact .inr ⟨e, he, eb, pr.symm⟩
  · rcases List.mem_append.mp z with w | w
    · exact old _ (h.C i w y j h1 h2 h3)
    · rw [List.mem_singleton.mp w, eb] at y
      exact absurd y.symm hab
  · rcases List.mem_append.mp z with w | w
    · exact old _ (h.D i w y j h1 h2 h3)
    · rw [List.mem_singleton.mp w] at h3
      rw [N.p1 j p h1 hp (by rw [h2, pa]) (by rw [h3, pr])]
      exact List.mem_append_right _ (List.mem_singleton.mpr rfl)
theorem Cha.end0 (hab : a ≠ b) (h : Cha R0 R1 t nu a b r1 (pre ++ [e]) pre) (ea : nu e = a) (no : ∀ j, j < t → nu j = b → R0 j ≠ R0 e) : Cha R0 R1 t nu a b r1 (pre ++ [e]) (pre ++ [e]) := by
  refine ⟨h.nd, fun i z => z, h.lt, h.ab, fun i z y => ?_, fun i z y => ?_, fun i z y j h1 h2 h3 => ?_, fun i z y j h1 h2 h3 => ?_, h.F⟩
  · obtain ⟨e', h1, h2⟩ := h.A i z y
    exact ⟨e', h.sub e' h1, h2⟩
  · rcases h.B i z y with v | ⟨e', h1, h2⟩
    · exact .inl v
    · exact .inr ⟨e', h.sub e' h1, h2⟩
  · rcases List.mem_append.mp z with w | w
    · exact h.C i w y j h1 h2 h3
    · rw [List.mem_singleton.mp w] at h3
      exact absurd h3 (no j h1 h2)
  · rcases List.mem_append.mp z with w | w
    · exact h.D i w y j h1 h2 h3
    · rw [List.mem_singleton.mp w, ea] at y
      exact absurd y hab
theorem Cha.end1 (hab : a ≠ b) (h : Cha R0 R1 t nu a b r1 (pre ++ [e]) pre) (eb : nu e = b) (no : ∀ j, j < t → nu j = a → R1 j ≠ R1 e) : Cha R0 R1 t nu a b r1 (pre ++ [e]) (pre ++ [e]) := by
  refine ⟨h.nd, fun i z => z, h.lt, h.ab, fun i z y => ?_, fun i z y => ?_, fun i z y j h1 h2 h3 => ?_, fun i z y j h1 h2 h3 => ?_, h.F⟩
  · obtain ⟨e', h1, h2⟩ := h.A i z y
    exact ⟨e', h.sub e' h1, h2⟩
  · rcases h.B i z y with v | ⟨e', h1, h2⟩
    · exact .inl v
    · exact .inr ⟨e', h.sub e' h1, h2⟩
  · rcases List.mem_append.mp z with w | w
    · exact h.C i w y j h1 h2 h3
    · rw [List.mem_singleton.mp w, eb] at y
      exact absurd y.symm hab
  · rcases List.mem_append.mp z with w | w
    · exact h.D i w y j h1 h2 h3
    · rw [List.mem_singleton.mp w] at h3
      exact absurd h3 (no j h1 h2)
theorem Cha.closed (N : Num R0 R1 t nu) (hb : ∀ j, j < t → R1 j = r1 → nu j ≠ b) (h : Cha R0 R1 t nu a b r1 cs cs) {i j : Nat} (hi : i ∈ cs) (hj : j < t) (ja : nu j = a ∨ nu j = b) (sh : R0 i = R0 j ∨ R1 i = R1 j) : j ∈ cs := by
  have li := h.lt i hi
  rcases h.ab i hi with ia | ib
  · rcases ja with ja | jb
    · rcases sh with s | s
      · rw [← N.p0 i j li hj (by rw [ia, ja]) s]; exact hi
      · rw [← N.p1 i j li hj (by rw [ia, ja]) s]; exact hi
    · rcases sh with s | s
      · exact h.C i hi ia j hj jb s.symm
      · rcases h.B i hi ia with v | ⟨e, h1, h2, h3⟩
        · exact absurd jb (hb j hj (by rw [← s, v]))
        · rw [N.p1 j e hj (h.lt e h1) (by rw [jb, h2]) (by rw [← s, h3])]; exact h1
  · rcases ja with ja | jb
    · rcases sh with s | s
      · obtain ⟨e, h1, h2, h3⟩ := h.A i hi ib
        rw [N.p0 j e hj (h.lt e h1) (by rw [ja, h2]) (by rw [← s, h3])]; exact h1
      · exact h.D i hi ib j hj ja s.symm
    · rcases sh with s | s
      · rw [← N.p0 i j li hj (by rw [ib, jb]) s]; exact hi
      · rw [← N.p1 i j li hj (by rw [ib, jb]) s]; exact hi
def swp (a b x : Int) : Int := if x = a then b else a
theorem swp_in (x : Int) : swp a b x = a ∨ swp a b x = b := by
  unfold swp
  split
  · exact .inr rfl
  · exact .inl rfl
theorem swp_inj {x y : Int} (hx : x = a ∨ x = b) (hy : y = a ∨ y = b) (h : swp a b x = swp a b y) : x = y := by
  unfold swp at h
  split at h <;> split at h
  · omega
  · omega
  · omega
  · omega
theorem swapped (N : Num R0 R1 t nu) (hb : ∀ j, j < t → R1 j = r1 → nu j ≠ b) (h : Cha R0 R1 t nu a b r1 cs cs) {nu' : Nat → Int} (hn : ∀ i, i < t → nu' i = if i ∈ cs then swp a b (nu i) else nu i) : Num R0 R1 t nu' := by
  have key : ∀ i j, i < t → j < t → nu' i = nu' j → (R0 i = R0 j ∨ R1 i = R1 j) → nu i = nu j := fun i j hi hj e sh => by
    rw [hn i hi, hn j hj] at e
    by_cases ci : i ∈ cs
    · rw [if_pos ci] at e
      by_cases cj : j ∈ cs
      · rw [if_pos cj] at e
        exact swp_inj (h.ab i ci) (h.ab j cj) e
      · rw [if_neg cj] at e
        exact absurd (h.closed N hb ci hj (by rw [← e]; exact swp_in _) sh) cj
    · rw [if_neg ci] at e
      by_cases cj : j ∈ cs
      · rw [if_pos cj] at e
        exact absurd (h.closed N hb cj hi (by rw [e]; exact swp_in _) (sh.imp Eq.symm Eq.symm)) ci
      · rw [if_neg cj] at e
        exact e
  exact ⟨fun i j hi hj e s => N.p0 i j hi hj (key i j hi hj e (.inl s)) s, fun i j hi hj e s => N.p1 i j hi hj (key i j hi hj e (.inr s)) s⟩
theorem swapped0 {r0 : Int} (ha : ∀ j, j < t → R0 j = r0 → nu j ≠ a) (h : Cha R0 R1 t nu a b r1 cs cs) {nu' : Nat → Int} (hn : ∀ i, i < t → nu' i = if i ∈ cs then swp a b (nu i) else nu i) : ∀ j, j < t → R0 j = r0 → nu' j ≠ a := fun j hj hr e => by
  rw [hn j hj] at e
  by_cases cj : j ∈ cs
  · rcases h.ab j cj with w | w
    · exact ha j hj hr w
    · obtain ⟨e', h1, h2, h3⟩ := h.A j cj w
      exact ha e' (h.lt e' h1) (by rw [h3, hr]) h2
  · rw [if_neg cj] at e
    exact ha j hj hr e
theorem swapped1 (hb : ∀ j, j < t → R1 j = r1 → nu j ≠ b) (h : Cha R0 R1 t nu a b r1 cs cs) {nu' : Nat → Int} (hn : ∀ i, i < t → nu' i = if i ∈ cs then swp a b (nu i) else nu i) : ∀ j, j < t → R1 j = r1 → nu' j ≠ a := fun j hj hr e => by
  rw [hn j hj] at e
  by_cases cj : j ∈ cs
  · rw [if_pos cj] at e
    rcases h.ab j cj with w | w
    · unfold swp at e
      rw [if_pos w] at e
      exact hb j hj hr (by rw [w, e])
    · exact hb j hj hr w
  · rw [if_neg cj] at e
    exact cj (h.F j hj e hr)
theorem Num.snoc {x : Int} (N : Num R0 R1 t nu) (h0 : ∀ j, j < t → R0 j = R0 t → nu j ≠ x) (h1 : ∀ j, j < t → R1 j = R1 t → nu j ≠ x) {nu' : Nat → Int} (ho : ∀ i, i < t → nu' i = nu i) (hx : nu' t = x) : Num R0 R1 (t + 1) nu' := by
  refine ⟨fun i j hi hj e s => ?_, fun i j hi hj e s => ?_⟩
  · by_cases zi : i = t
    · by_cases zj : j = t
      · rw [zi, zj]
      · rw [zi, hx, ho j (by omega)] at e
        rw [zi] at s
        exact absurd e.symm (h0 j (by omega) s.symm)
    · by_cases zj : j = t
      · rw [zj, hx, ho i (by omega)] at e
        rw [zj] at s
        exact absurd e (h0 i (by omega) s)
      · rw [ho i (by omega), ho j (by omega)] at e
        exact N.p0 i j (by omega) (by omega) e s
  · by_cases zi : i = t
    · by_cases zj : j = t
      · rw [zi, zj]
      · rw [zi, hx, ho j (by omega)] at e
        rw [zi] at s
        exact absurd e.symm (h1 j (by omega) s.symm)
    · by_cases zj : j = t
      · rw [zj, hx, ho i (by omega)] at e
        rw [zj] at s
        exact absurd e (h1 i (by omega) s)
      · rw [ho i (by omega), ho j (by omega)] at e
        exact N.p1 i j (by omega) (by omega) e s
end
theorem nd_len {α : Type} [BEq α] [LawfulBEq α] : ∀ {l l' : List α}, l.Nodup → (∀ x ∈ l, x ∈ l') → l.length ≤ l'.length
  | [], _, _, _ => Nat.zero_le _
  | x :: t, l', n, h => by
    obtain ⟨n1, n2⟩ := List.nodup_cons.mp n
    have hx := h x (List.mem_cons_self ..)
    have ih := nd_len (l := t) (l' := l'.erase x) n2 fun y hy => (List.mem_erase_of_ne (show y ≠ x from fun z => n1 (z ▸ hy))).mpr (h y (List.mem_cons_of_mem _ hy))
    rw [List.length_erase_of_mem hx] at ih
    have := List.length_pos_of_mem hx
    rw [List.length_cons]
    omega
theorem nd_lt {t : Nat} {l : List Nat} (n : l.Nodup) (h : ∀ x ∈ l, x < t) : l.length ≤ t := by
  have := nd_len (l' := List.range t) n fun x hx => List.mem_range.mpr (h x hx)
  rwa [List.length_range] at this
theorem few_left {R nu : Nat → Int} {t x : Nat} {r : Int} (h : ∀ y : Nat, y < x → ∃ i, i < t ∧ R i = r ∧ nu i = (y : Int)) : x ≤ ((List.range t).filter fun i => decide (R i = r)).length := by
  have := nd_len (l := (List.range x).map fun y : Nat => (y : Int)) (l' := ((List.range t).filter fun i => decide (R i = r)).map nu) (List.Pairwise.map _ (fun a b c z => c (by omega)) List.nodup_range) fun y hy => by
    obtain ⟨k, hk, rfl⟩ := List.mem_map.mp hy
    obtain ⟨i, h1, h2, h3⟩ := h k (List.mem_range.mp hk)
    exact List.mem_map.mpr ⟨i, List.mem_filter.mpr ⟨List.mem_range.mpr h1, decide_eq_true h2⟩, h3⟩
  rwa [List.length_map, List.length_map, List.length_range] at this
theorem small9 {n : Nat} (h : n ≤ 100000) : n < sizeLine := Nat.lt_of_le_of_lt h (by decide)
def kRN (r x : Int) : List Key := [.inl r, .inl x]
theorem kRN_inj {r x r' x' : Int} (h : kRN r x = kRN r' x') : r = r' ∧ x = x' := by
  unfold kRN at h
  injection h with h1 h2
  injection h2 with h2 _
  exact ⟨Sum.inl.inj h1, Sum.inl.inj h2⟩
theorem valV_drop {κ : Type} [DecidableEq κ] (k j : κ) : ∀ kvs : List (κ × V), valV (dropK kvs k) j = if j = k then none else valV kvs j
  | [] => by
    show none = _
    split <;> rfl
  | p :: r => by
    by_cases e : p.1 = k
    · rw [dropK_pos e, valV_drop k j r]
      by_cases z : j = k
      · rw [if_pos z, if_pos z]
      · rw [if_neg z, if_neg z, valV_neg (fun y => z (y.symm.trans e))]
    · rw [dropK_neg e]
      by_cases z : p.1 = j
      · rw [valV_pos z, if_neg (fun y => e (z.trans y)), valV_pos z]
      · rw [valV_neg z, valV_drop k j r, valV_neg z]
def DT (kvs : List (List Key × V)) (R nu : Nat → Int) (In : Nat → Prop) : Prop := (∀ i, In i → valV kvs (kRN (R i) (nu i)) = some (.int (i : Nat))) ∧ ∀ (r x : Int) (v : V), valV kvs (kRN r x) = some v → ∃ i : Nat, In i ∧ R i = r ∧ nu i = x ∧ v = .int (i : Nat)
theorem DT.put {kvs : List (List Key × V)} {R nu nu' : Nat → Int} {In In' : Nat → Prop} {i : Nat} {x : Int} (h : DT kvs R nu In) (hi : ¬ In i) (hno : ∀ j, In j → R j = R i → nu j ≠ x) (ho : ∀ j, In j → nu' j = nu j) (hx : nu' i = x) (hI : ∀ j, In' j ↔ In j ∨ j = i) : DT (putK kvs (kRN (R i) x) (.int (i : Nat))) R nu' In' := by
  refine ⟨fun j hj => ?_, fun r y v hv => ?_⟩
  · rw [valV_put]
    rcases (hI j).mp hj with z | rfl
    · rw [ho j z, if_neg, h.1 j z]
      intro w
      obtain ⟨w1, w2⟩ := kRN_inj w
      exact hno j z w1 w2
    · rw [hx, if_pos rfl]
  · rw [valV_put] at hv
    by_cases z : kRN r y = kRN (R i) x
    · rw [if_pos z] at hv
      cases hv
      obtain ⟨w1, w2⟩ := kRN_inj z
      exact ⟨i, (hI i).mpr (.inr rfl), w1.symm, by rw [hx, w2], rfl⟩
    · rw [if_neg z] at hv
      obtain ⟨j, j1, j2, j3, j4⟩ := h.2 r y v hv
      exact ⟨j, (hI j).mpr (.inl j1), j2, by rw [ho j j1]; exact j3, j4⟩
theorem DT.drop {kvs : List (List Key × V)} {R nu : Nat → Int} {In In' : Nat → Prop} {i : Nat} (h : DT kvs R nu In) (inj : ∀ j, In j → R j = R i → nu j = nu i → j = i) (hI : ∀ j, In' j ↔ In j ∧ j ≠ i) : DT (dropK kvs (kRN (R i) (nu i))) R nu In' := by
  refine ⟨fun j hj => ?_, fun r y v hv => ?_⟩
  · obtain ⟨j1, j2⟩ := (hI j).mp hj
    rw [valV_drop, if_neg, h.1 j j1]
    intro w
    obtain ⟨w1, w2⟩ := kRN_inj w
    exact j2 (inj j j1 w1 w2)
  · rw [valV_drop] at hv
    by_cases z : kRN r y = kRN (R i) (nu i)
    · rw [if_pos z] at hv
      cases hv
    · rw [if_neg z] at hv
      obtain ⟨j, j1, j2, j3, j4⟩ := h.2 r y v hv
      exact ⟨j, (hI j).mpr ⟨j1, fun w => z (by rw [← j2, ← j3, w])⟩, j2, j3, j4⟩
theorem DT.look {kvs : List (List Key × V)} {R nu : Nat → Int} {In : Nat → Prop} (h : DT kvs R nu In) (r x : Int) : (valV kvs (kRN r x) = none ∧ ∀ i, In i → R i = r → nu i ≠ x) ∨ ∃ i, valV kvs (kRN r x) = some (.int (i : Nat)) ∧ In i ∧ R i = r ∧ nu i = x := by
  cases e : valV kvs (kRN r x) with
  | none =>
    refine .inl ⟨rfl, fun i h1 h2 h3 => ?_⟩
    have := h.1 i h1
    rw [h2, h3, e] at this
    cases this
  | some v =>
    obtain ⟨i, h1, h2, h3, h4⟩ := h.2 r x v e
    exact .inr ⟨i, by rw [h4], h1, h2, h3⟩
def RI (side : Int) (ps : List (Int × Int)) (i : Nat) : Int := sdI side (ps.getD i (0, 0))
theorem RI_at {side : Int} {ps : List (Int × Int)} {i : Nat} {p : Int × Int} (h : ps[i]? = some p) : RI side ps i = sdI side p := by
  unfold RI
  rw [List.getD, h]
  rfl
def nuL (ns : List Int) (i : Nat) : Int := ns.getD i 0
theorem cnt_range {side r : Int} {ps : List (Int × Int)} : ∀ t, t ≤ ps.length → (rks side (ps.take t)).count r = ((List.range t).filter fun i => decide (RI side ps i = r)).length
  | 0, _ => rfl
  | t + 1, h => by
    have e : ps[t]? = some (ps[t]'(by omega)) := List.getElem?_eq_getElem _
    rw [take_snoc e, rks, List.map_append, List.map_singleton, count_snoc, List.range_succ, List.filter_append, List.length_append, ← cnt_range t (by omega)]
    congr 1
    rw [← RI_at (side := side) e]
    by_cases z : RI side ps t = r
    · rw [if_pos z, List.filter_cons_of_pos (by simpa using z)]; rfl
    · rw [if_neg z, List.filter_cons_of_neg (by simpa using z)]; rfl
theorem cnt_more {side r : Int} {ps : List (Int × Int)} {t : Nat} (ht : t < ps.length) (hr : RI side ps t = r) : ((List.range t).filter fun i => decide (RI side ps i = r)).length + 1 ≤ (rks side ps).count r := by
  have h1 := cnt_range (side := side) (r := r) (ps := ps) (t + 1) ht
  rw [List.range_succ, List.filter_append, List.length_append, List.filter_cons_of_pos (by simpa using hr)] at h1
  have h2 : (rks side (ps.take (t + 1))).count r ≤ (rks side ps).count r := List.Sublist.count_le r (List.Sublist.map _ (List.take_sublist _ _))
  rw [h1] at h2
  exact h2
def SameX2 (c d : Addr) (H H' : Hp) : Prop := ∀ b u, b ≠ c → b ≠ d → H b = some u → H' b = some u
def SameX3 (c d e : Addr) (H H' : Hp) : Prop := ∀ b u, b ≠ c → b ≠ d → b ≠ e → H b = some u → H' b = some u
structure Tk (H : Hp) (tk d0 d1 : Addr) (kv0 kv1 : List (List Key × V)) : Prop where
  tk : H tk = some (.tup [.ref d0, .ref d1])
  e0 : H d0 = some (.dT kv0)
  e1 : H d1 = some (.dT kv1)
  ne : d0 ≠ d1
theorem Tk.same {H H' : Hp} {tk d0 d1 : Addr} {kv0 kv1 : List (List Key × V)} (s : Same H H') (h : Tk H tk d0 d1 kv0 kv1) : Tk H' tk d0 d1 kv0 kv1 := ⟨s _ _ h.tk, s _ _ h.e0, s _ _ h.e1, h.ne⟩
theorem tup_ne {H : Hp} {a b : Addr} {xs : List V} {kv : List (List Key × V)} (h : H a = some (.tup xs)) (h' : H b = some (.dT kv)) : a ≠ b := fun z => by rw [z, h'] at h; cases h
def spTake : Sp := fun vs H Q _ => ∃ (tk d0 d1 pa : Addr) (kv0 kv1 : List (List Key × V)) (p : Int × Int) (i : Nat) (x : Int), vs = [.ref tk, .int (i : Nat), .ref pa, .int x] ∧ Tk H tk d0 d1 kv0 kv1 ∧ H pa = some (.tup [.int p.1, .int p.2]) ∧ kv0.length ≤ 9000 ∧ kv1.length ≤ 9000 ∧
  ∀ H', SameX2 d0 d1 H H' → Tk H' tk d0 d1 (putK kv0 (kRN p.1 x) (.int (i : Nat))) (putK kv1 (kRN p.2 x) (.int (i : Nat))) → Q .non H'
def spLeave : Sp := fun vs H Q _ => ∃ (tk d0 d1 pa : Addr) (kv0 kv1 : List (List Key × V)) (p : Int × Int) (x : Int) (v0 v1 : V), vs = [.ref tk, .ref pa, .int x] ∧ Tk H tk d0 d1 kv0 kv1 ∧ H pa = some (.tup [.int p.1, .int p.2]) ∧ valV kv0 (kRN p.1 x) = some v0 ∧ valV kv1 (kRN p.2 x) = some v1 ∧
  ∀ H', SameX2 d0 d1 H H' → Tk H' tk d0 d1 (dropK kv0 (kRN p.1 x)) (dropK kv1 (kRN p.2 x)) → Q .non H'
def spLeft : Sp := fun vs H Q _ => ∃ (d : Addr) (kvs : List (List Key × V)) (r : Int), vs = [.ref d, .int r] ∧ H d = some (.dT kvs) ∧ (∀ x : Nat, (∀ y : Nat, y < x → (valV kvs (kRN r y)).isSome = true) → x ≤ 64) ∧
  ∀ (x : Nat) (H' : Hp), Same H H' → (∀ y : Nat, y < x → (valV kvs (kRN r y)).isSome = true) → valV kvs (kRN r x) = none → Q (.int (x : Nat)) H'
def spChain (K : PySem.W.Frag) : Sp := fun vs H Q _ => ∃ (l tk d0 d1 : Addr) (as : List Addr) (ps : List (Int × Int)) (kv0 kv1 : List (List Key × V)) (nu : Nat → Int) (t : Nat) (r1 a b : Int), vs = [.ref l, .ref tk, .int r1, .int a, .int b] ∧ SqL K H l (as.map V.ref) ∧ PrsAt H as ps ∧ t ≤ ps.length ∧ ps.length ≤ 64 ∧ Tk H tk d0 d1 kv0 kv1 ∧
  DT kv0 (RI 0 ps) nu (· < t) ∧ DT kv1 (RI 1 ps) nu (· < t) ∧ Num (RI 0 ps) (RI 1 ps) t nu ∧ (∀ j, j < t → RI 1 ps j = r1 → nu j ≠ b) ∧
  ∀ (cl : Addr) (cs : List Nat) (H' : Hp), Same H H' → H cl = none → H' cl = some (.lst (cs.map fun c => V.int (c : Nat))) → Cha (RI 0 ps) (RI 1 ps) t nu a b r1 cs cs → Q (.ref cl) H'
def spExch (K : PySem.W.Frag) : Sp := fun vs H Q _ => ∃ (l tk nl cl d0 d1 : Addr) (as : List Addr) (ps : List (Int × Int)) (kv0 kv1 : List (List Key × V)) (ns : List Int) (cs : List Nat) (r1 a b : Int), vs = [.ref l, .ref tk, .ref nl, .ref cl, .int a, .int b] ∧ SqL K H l (as.map V.ref) ∧ PrsAt H as ps ∧ ns.length ≤ ps.length ∧ ps.length ≤ 64 ∧ Tk H tk d0 d1 kv0 kv1 ∧ l ≠ nl ∧ cl ≠ nl ∧
  H nl = some (.lst (ns.map V.int)) ∧ H cl = some (.lst (cs.map fun c => V.int (c : Nat))) ∧ H l = some (.lst (as.map V.ref)) ∧ kv0.length ≤ 5000 ∧ kv1.length ≤ 5000 ∧
  DT kv0 (RI 0 ps) (nuL ns) (· < ns.length) ∧ DT kv1 (RI 1 ps) (nuL ns) (· < ns.length) ∧ Num (RI 0 ps) (RI 1 ps) ns.length (nuL ns) ∧ (∀ j, j < ns.length → RI 1 ps j = r1 → nuL ns j ≠ b) ∧ Cha (RI 0 ps) (RI 1 ps) ns.length (nuL ns) a b r1 cs cs ∧
  ∀ (ns' : List Int) (kv0' kv1' : List (List Key × V)) (H' : Hp), SameX3 d0 d1 nl H H' → Tk H' tk d0 d1 kv0' kv1' → H' nl = some (.lst (ns'.map V.int)) → ns'.length = ns.length → kv0'.length ≤ kv0.length + 64 → kv1'.length ≤ kv1.length + 64 → (∀ i, i < ns.length → nuL ns' i = if i ∈ cs then swp a b (nuL ns i) else nuL ns i) → DT kv0' (RI 0 ps) (nuL ns') (· < ns.length) → DT kv1' (RI 1 ps) (nuL ns') (· < ns.length) → Q .non H'
section
variable {P : Program} {w : World} {K : PySem.W.Frag} {mg : Str → Option Value} {base : Heap}
theorem sc_take : FnScope ["taken", "place", "pair", "number", "side"] ["taken", "place", "pair", "number"] (defScope (top 14)) := ⟨rfl, rfl, rfl, by decide +kernel, rfl, by decide +kernel, by decide +kernel⟩
theorem ok_take (T : Txt K mg) (D : Def K mg "take" (top 14) ["taken", "place", "pair", "number"]) : Callee P w K mg base 1 "take" ["taken", "place", "pair", "number"] spTake := by
  refine D.ok sc_take (fun vs H Q E h => ?_) (fun f cdv A outer s H vs Q E hr h => ?_)
  · obtain ⟨tk, d0, d1, pa, kv0, kv1, p, i, x, rfl, _⟩ := h
    rfl
  obtain ⟨tk, d0, d1, pa, kv0, kv1, p, i, x, rfl, tt, ep, l0, l1, q⟩ := h
  refine ⟨_, (pss_one (ps_for PassesOwn.never rfl (pi_range1 rfl T.m_range (pa_cons pe_int pa_nil st_const)) (pg_name (i := 4) sc_take.nd rfl (Or.inl rfl))
    (pss_one (ps_dput (hu_of hr) (pe_ix (ix_tupK K) (pv 0) (pv 4) (fun _ _ => rfl)) (pe_tup (pa_cons (pe_ix (ix_tupK K) (pv 2) (pv 4) (fun _ _ => rfl)) (pa_cons (pv 3) pa_nil st_name) st_sub)) (pv 1) rfl)))), ?_⟩
  refine ⟨_, rfl, by decide, by decide, ?_⟩
  have nt0 := tup_ne tt.tk tt.e0
  have nt1 := tup_ne tt.tk tt.e1
  have np0 := tup_ne ep tt.e0
  have np1 := tup_ne ep tt.e1
  refine for_range (lo := 0) (n := 2) (fun j σ H' => SameX2 d0 d1 H H' ∧ Tk H' tk d0 d1 (if 0 < j then putK kv0 (kRN p.1 x) (.int (i : Nat)) else kv0) (if 1 < j then putK kv1 (kRN p.2 x) (.int (i : Nat)) else kv1) ∧ ∃ v4, σ = [some (.ref tk), some (.int (i : Nat)), some (.ref pa), some (.int x), v4])
    ⟨fun b u _ _ z => z, tt, none, rfl⟩ ?_ ?_
  · rintro j σ H' hj ⟨sx, tj, v4, rfl⟩
    have ep' := sx _ _ np0 np1 ep
    match j, hj with
    | 0, _ =>
      refine ⟨_, rfl, _, rfl, _, rfl, tk, _, _, _, rfl, rfl, SqT.of tj.tk, rfl, _, rfl, _, rfl, pa, _, _, _, rfl, rfl, SqT.of ep', rfl, _, rfl, (by show 2 ≤ sizeLine; decide), fun k hk => ?_⟩
      have s2 := same_new hk (.tup [.int p.1, .int x])
      have ek := upd_same (H := H') (a := k) (o := .tup [.int p.1, .int x])
      have t2 := tj.same s2
      generalize upd H' k (.tup [.int p.1, .int x]) = H2 at s2 ek t2 ⊢
      refine ⟨d0, _, rfl, DPut.t (k := kRN p.1 x) t2.e0 ek (small9 (show kv0.length ≤ 100000 by omega)), ?_⟩
      refine ⟨fun b u b0 b1 z => by rw [upd_ne b0]; exact s2 _ _ (sx b u b0 b1 z), ⟨by rw [upd_ne nt0]; exact t2.tk, upd_same, by rw [upd_ne (Ne.symm tt.ne)]; exact t2.e1, tt.ne⟩, _, rfl⟩
    | 1, _ =>
      refine ⟨_, rfl, _, rfl, _, rfl, tk, _, _, _, rfl, rfl, SqT.of tj.tk, rfl, _, rfl, _, rfl, pa, _, _, _, rfl, rfl, SqT.of ep', rfl, _, rfl, (by show 2 ≤ sizeLine; decide), fun k hk => ?_⟩
      have s2 := same_new hk (.tup [.int p.2, .int x])
      have ek := upd_same (H := H') (a := k) (o := .tup [.int p.2, .int x])
      have t2 := tj.same s2
      generalize upd H' k (.tup [.int p.2, .int x]) = H2 at s2 ek t2 ⊢
      refine ⟨d1, _, rfl, DPut.t (k := kRN p.2 x) t2.e1 ek (small9 (show kv1.length ≤ 100000 by omega)), ?_⟩
      refine ⟨fun b u b0 b1 z => by rw [upd_ne b1]; exact s2 _ _ (sx b u b0 b1 z), ⟨by rw [upd_ne nt1]; exact t2.tk, by rw [upd_ne tt.ne]; exact t2.e0, upd_same, tt.ne⟩, _, rfl⟩
  · rintro σ H' ⟨sx, tj, v4, rfl⟩
    exact q H' sx tj
theorem sc_leave : FnScope ["taken", "pair", "number", "side"] ["taken", "pair", "number"] (defScope (top 15)) := ⟨rfl, rfl, rfl, by decide +kernel, rfl, by decide +kernel, by decide +kernel⟩
theorem ok_leave (T : Txt K mg) (D : Def K mg "leave" (top 15) ["taken", "pair", "number"]) : Callee P w K mg base 1 "leave" ["taken", "pair", "number"] spLeave := by
  refine D.ok sc_leave (fun vs H Q E h => ?_) (fun f cdv A outer s H vs Q E hr h => ?_)
  · obtain ⟨tk, d0, d1, pa, kv0, kv1, p, x, v0, v1, rfl, _⟩ := h
    rfl
  obtain ⟨tk, d0, d1, pa, kv0, kv1, p, x, v0, v1, rfl, tt, ep, l0, l1, q⟩ := h
  refine ⟨_, (pss_one (ps_for PassesOwn.never rfl (pi_range1 rfl T.m_range (pa_cons pe_int pa_nil st_const)) (pg_name (i := 3) sc_leave.nd rfl (Or.inl rfl))
    (pss_one (ps_expr (pe_dpopT (hu_of hr) (pe_ix (ix_tupK K) (pv 0) (pv 3) (fun _ _ => rfl)) (pe_tup (pa_cons (pe_ix (ix_tupK K) (pv 1) (pv 3) (fun _ _ => rfl)) (pa_cons (pv 2) pa_nil st_name) st_sub)) ⟨rfl, rfl, rfl, rfl⟩))))), ?_⟩
  refine ⟨_, rfl, by decide, by decide, ?_⟩
  have nt0 := tup_ne tt.tk tt.e0
  have nt1 := tup_ne tt.tk tt.e1
  have np0 := tup_ne ep tt.e0
  have np1 := tup_ne ep tt.e1
  refine for_range (lo := 0) (n := 2) (fun j σ H' => SameX2 d0 d1 H H' ∧ Tk H' tk d0 d1 (if 0 < j then dropK kv0 (kRN p.1 x) else kv0) (if 1 < j then dropK kv1 (kRN p.2 x) else kv1) ∧ ∃ v3, σ = [some (.ref tk), some (.ref pa), some (.int x), v3])
    ⟨fun b u _ _ z => z, tt, none, rfl⟩ ?_ ?_
  · rintro j σ H' hj ⟨sx, tj, v3, rfl⟩
    have ep' := sx _ _ np0 np1 ep
    match j, hj with
    | 0, _ =>
      refine ⟨_, rfl, _, rfl, tk, _, _, _, rfl, rfl, SqT.of tj.tk, rfl, d0, rfl, .inr ⟨_, .inl tj.e0⟩, _, rfl, _, rfl, pa, _, _, _, rfl, rfl, SqT.of ep', rfl, _, rfl, (by show 2 ≤ sizeLine; decide), fun k hk => ?_⟩
      have s2 := same_new hk (.tup [.int p.1, .int x])
      have ek := upd_same (H := H') (a := k) (o := .tup [.int p.1, .int x])
      have t2 := tj.same s2
      generalize upd H' k (.tup [.int p.1, .int x]) = H2 at s2 ek t2 ⊢
      refine ⟨_, kRN p.1 x, k, v0, t2.e0, rfl, ek, l0, ?_⟩
      refine ⟨fun b u b0 b1 z => by rw [upd_ne b0]; exact s2 _ _ (sx b u b0 b1 z), ⟨by rw [upd_ne nt0]; exact t2.tk, upd_same, by rw [upd_ne (Ne.symm tt.ne)]; exact t2.e1, tt.ne⟩, _, rfl⟩
    | 1, _ =>
      refine ⟨_, rfl, _, rfl, tk, _, _, _, rfl, rfl, SqT.of tj.tk, rfl, d1, rfl, .inr ⟨_, .inl tj.e1⟩, _, rfl, _, rfl, pa, _, _, _, rfl, rfl, SqT.of ep', rfl, _, rfl, (by show 2 ≤ sizeLine; decide), fun k hk => ?_⟩
      have s2 := same_new hk (.tup [.int p.2, .int x])
      have ek := upd_same (H := H') (a := k) (o := .tup [.int p.2, .int x])
      have t2 := tj.same s2
      generalize upd H' k (.tup [.int p.2, .int x]) = H2 at s2 ek t2 ⊢
      refine ⟨_, kRN p.2 x, k, v1, t2.e1, rfl, ek, l1, ?_⟩
      refine ⟨fun b u b0 b1 z => by rw [upd_ne b1]; exact s2 _ _ (sx b u b0 b1 z), ⟨by rw [upd_ne nt1]; exact t2.tk, by rw [upd_ne tt.ne]; exact t2.e0, upd_same, tt.ne⟩, _, rfl⟩
  · rintro σ H' ⟨sx, tj, v3, rfl⟩
    exact q H' sx tj
theorem sc_first_left : FnScope ["places", "rack", "number"] ["places", "rack"] (defScope (top 16)) := ⟨rfl, rfl, rfl, by decide +kernel, rfl, by decide +kernel, by decide +kernel⟩
theorem ok_left (T : Txt K mg) (D : Def K mg "first_left" (top 16) ["places", "rack"]) : Callee P w K mg base 1 "first_left" ["places", "rack"] spLeft := by
  refine D.ok sc_first_left (fun vs H Q E h => ?_) (fun f cdv A outer s H vs Q E hr h => ?_)
  · obtain ⟨d, kvs, r, rfl, _⟩ := h
    rfl
  obtain ⟨d, kvs, r, rfl, ed, hb, q⟩ := h
  refine ⟨_, (pss_cons (ps_set (i := 2) sc_first_left.nd rfl (Or.inl rfl) pe_int)
    (pss_cons (ps_while PassesOwn.never (pt_cmp (pc_din (hu_of hr) (pe_tup (pa_cons (pv 1) (pa_cons (pv 2) pa_nil st_name) st_name)) (pv 0))) (pss_one (ps_aug (i := 2) sc_first_left.nd rfl (Or.inl rfl) pe_int ipR_add)))
    (pss_one (ps_ret (pv 2))))), ?_⟩
  refine ⟨fun m σ H' => Same H H' ∧ ∃ x : Nat, m = 65 - x ∧ (∀ y : Nat, y < x → (valV kvs (kRN r y)).isSome = true) ∧ σ = [some (.ref d), some (.int r), some (.int (x : Nat))],
    ⟨_, fun b u z => z, 0, rfl, fun y hy => absurd hy (Nat.not_lt_zero _), rfl⟩, ?_⟩
  rintro m σ H' ⟨s1, x, rfl, hx, rfl⟩
  refine ⟨_, rfl, _, rfl, (by show 2 ≤ sizeLine; decide), fun k hk => ?_⟩
  have s2 := same_new hk (.tup [.int r, .int (x : Nat)])
  have ek := upd_same (H := H') (a := k) (o := .tup [.int r, .int (x : Nat)])
  generalize upd H' k (.tup [.int r, .int (x : Nat)]) = H2 at s2 ek ⊢
  refine ⟨_, rfl, d, _, rfl, DGet.t (k := kRN r x) (s2 _ _ (s1 _ _ ed)) ek, ?_⟩
  have h60 := hb x hx
  cases e : valV kvs (kRN r x) with
  | some v =>
    refine ⟨true, rfl, iteT ?_⟩
    have hx' : ∀ y : Nat, y < x + 1 → (valV kvs (kRN r y)).isSome = true := fun y hy => by
      rcases Nat.lt_succ_iff_lt_or_eq.mp hy with z | rfl
      · exact hx y z
      · rw [e]; rfl
    have h61 := hb (x + 1) hx'
    refine ⟨fun σ' G => ∃ m', m' < 65 - x ∧ (Same H G ∧ ∃ x : Nat, m' = 65 - x ∧ (∀ y : Nat, y < x → (valV kvs (kRN r y)).isSome = true) ∧ σ' = [some (.ref d), some (.int r), some (.int (x : Nat))]), fun σ' G z => z, ?_⟩
    exact ⟨_, rfl, _, _, rfl, rfl, 65 - (x + 1), by omega, s1.trans s2, x + 1, rfl, hx', rfl⟩
  | none =>
    refine ⟨false, rfl, iteF ?_⟩
    exact ⟨_, rfl, q x H2 (s1.trans s2) hx e⟩
end
def Pend (R0 R1 : Nat → Int) (t : Nat) (nu : Nat → Int) (a b r1 : Int) (cs : List Nat) (side : Int) (nx : Option Nat) : Prop :=
  (side = 0 ∨ side = 1) ∧ (nx = none → Cha R0 R1 t nu a b r1 cs cs) ∧ ∀ p, nx = some p → p < t ∧ a ≠ b ∧ nu p = (if side = 1 then a else b) ∧ Cha R0 R1 t nu a b r1 (cs ++ [p]) cs
theorem cha_len {R0 R1 : Nat → Int} {t : Nat} {nu : Nat → Int} {a b r1 : Int} {cs pre : List Nat} (h : Cha R0 R1 t nu a b r1 cs pre) : cs.length ≤ t := nd_lt h.nd h.lt
theorem prs_get {H : Hp} {as : List Addr} {ps : List (Int × Int)} (h : PrsAt H as ps) {i : Nat} (hi : i < ps.length) : ∃ a p, as[i]? = some a ∧ ps[i]? = some p ∧ H a = some (.tup [.int p.1, .int p.2]) := by
  have ln : as.length = ps.length := Paired.length h
  have ea : as[i]? = some (as[i]'(by omega)) := List.getElem?_eq_getElem _
  obtain ⟨p, hp, e⟩ := paired_at h i _ ea
  exact ⟨_, p, ea, hp, e⟩
section
variable {P : Program} {w : World} {K : PySem.W.Frag} {mg : Str → Option Value} {base : Heap}
theorem sc_chain_along : FnScope ["pairs", "taken", "rack", "a", "b", "chain", "side", "place"] ["pairs", "taken", "rack", "a", "b"] (defScope (top 17)) := ⟨rfl, rfl, rfl, by decide +kernel, rfl, by decide +kernel, by decide +kernel⟩
set_option maxHeartbeats 4000000 in
theorem ok_chain (T : Txt K mg) (D : Def K mg "chain_along" (top 17) ["pairs", "taken", "rack", "a", "b"]) : Callee P w K mg base 1 "chain_along" ["pairs", "taken", "rack", "a", "b"] (spChain K) := by
  refine D.ok sc_chain_along (fun vs H Q E h => ?_) (fun f cdv A outer s H vs Q E hr h => ?_)
  · obtain ⟨l, tk, d0, d1, as, ps, kv0, kv1, nu, t, r1, a, b, rfl, _⟩ := h
    rfl
  obtain ⟨l, tk, d0, d1, as, ps, kv0, kv1, nu, t, r1, a, b, rfl, hl, pr, ht, few, tt, D0, D1, N, hb, q⟩ := h
  have ln : as.length = ps.length := Paired.length pr
  refine ⟨_, (pss_cons (ps_set (i := 5) sc_chain_along.nd rfl (Or.inl rfl) (pe_lst pa_nil))
    (pss_cons (ps_set (i := 6) sc_chain_along.nd rfl (Or.inl rfl) pe_int)
    (pss_cons (ps_set (i := 7) sc_chain_along.nd rfl (Or.inl rfl) (pe_dget1 (hu_of hr) (pe_ix (ix_tupK K) (pv 1) (pv 6) (fun _ _ => rfl)) (pe_tup (pa_cons (pv 2) (pa_cons (pv 3) pa_nil st_name) st_name)) ⟨rfl, rfl, rfl, rfl⟩))
    (pss_cons (ps_while PassesOwn.never (pt_cmpR op_notN (pv 7) pe_non (nomark _)) (pss_cons (ps_expr (pe_bmK K PySem.F.plainAttrs_list PySem.F.slot_list_append PySem.F.type_list_append mt_appendR (pv 5) (pa_cons (pv 7) pa_nil st_name)))
    (pss_cons (ps_set (i := 6) sc_chain_along.nd rfl (Or.inl rfl) (pe_op op_sub pe_int (pv 6)))
    (pss_one (ps_set (i := 7) sc_chain_along.nd rfl (Or.inl rfl) (pe_dget1 (hu_of hr) (pe_ix (ix_tupK K) (pv 1) (pv 6) (fun _ _ => rfl)) (pe_tup (pa_cons (pe_ix (ix_tupK K) (pe_ix (ix_listK K) (pv 0) (pv 7) (fun _ _ => rfl)) (pv 6) (fun _ _ => rfl)) (pa_cons (pe_ix (ix_tupK K) (pe_tup (pa_cons (pv 4) (pa_cons (pv 3) pa_nil st_name) st_name)) (pv 6) (fun _ _ => rfl)) pa_nil st_sub) st_sub)) ⟨rfl, rfl, rfl, rfl⟩))))))
    (pss_one (ps_ret (pv 5))))))), ?_⟩
  refine ⟨(by show 0 ≤ sizeLine; decide), fun cl hcl => ?_⟩
  have s1 := same_new hcl (.lst [])
  have ec := upd_same (H := H) (a := cl) (o := .lst [])
  have t1 := tt.same s1
  generalize upd H cl (.lst []) = H1 at s1 ec t1 ⊢
  refine ⟨_, rfl, _, rfl, tk, _, _, _, rfl, rfl, SqT.of t1.tk, rfl, d1, rfl, .inr ⟨_, .inl t1.e1⟩, _, rfl, _, rfl, (by show 2 ≤ sizeLine; decide), fun k hk => ?_⟩
  have s2 := same_new hk (.tup [.int r1, .int a])
  have ek := upd_same (H := H1) (a := k) (o := .tup [.int r1, .int a])
  have t2 := t1.same s2
  have ec2 := s2 _ _ ec
  generalize upd H1 k (.tup [.int r1, .int a]) = H2 at s2 ek t2 ec2 ⊢
  refine ⟨_, DGet.t (k := kRN r1 a) t2.e1 ek, ?_⟩
  obtain ⟨nx, vx, pd⟩ : ∃ nx : Option Nat, (valV kv1 (kRN r1 a)).getD .non = oN nx ∧ Pend (RI 0 ps) (RI 1 ps) t nu a b r1 [] 1 nx := by
    rcases D1.look r1 a with ⟨e1, e2⟩ | ⟨i, e1, e2, e3, e4⟩
    · exact ⟨none, by rw [e1]; rfl, .inr rfl, fun _ => Cha.none fun j h1 h2 h3 => e2 j h1 h3 h2, fun p z => nomatch z⟩
    · refine ⟨some i, by rw [e1]; rfl, .inr rfl, fun z => (nomatch z), fun p z => ?_⟩
      cases z
      exact ⟨e2, fun z => hb i e2 e3 (by rw [e4, z]), by rw [if_pos rfl]; exact e4, Cha.one N hb e2 e4 e3⟩
  rw [vx]
  have s12 := s1.trans s2
  refine ⟨fun m σ H' => Same H H' ∧ ∃ (cs : List Nat) (side : Int) (nx : Option Nat), m = 65 - cs.length ∧ H' cl = some (.lst (cs.map fun c => V.int (c : Nat))) ∧ Pend (RI 0 ps) (RI 1 ps) t nu a b r1 cs side nx ∧ σ = [some (.ref l), some (.ref tk), some (.int r1), some (.int a), some (.int b), some (.ref cl), some (.int side), some (oN nx)],
    ⟨_, s12, [], 1, nx, rfl, ec2, pd, rfl⟩, ?_⟩
  rintro m σ H' ⟨s3, cs, side, nx, rfl, e3, pd, rfl⟩
  obtain ⟨hside, pd0, pd1⟩ := pd
  cases nx with
  | none =>
    refine ⟨_, rfl, rfl, _, rfl, iteF ?_⟩
    exact ⟨_, rfl, q cl cs H' s3 hcl e3 (pd0 rfl)⟩
  | some p =>
    obtain ⟨pt, hab, pn, cha⟩ := pd1 p rfl
    refine ⟨_, rfl, rfl, _, rfl, iteT ?_⟩
    have cl60 : (cs ++ [p]).length ≤ t := cha_len cha
    rw [List.length_append, List.length_singleton] at cl60
    refine ⟨fun σ' G => ∃ m', m' < 65 - cs.length ∧ (Same H G ∧ ∃ (cs : List Nat) (side : Int) (nx : Option Nat), m' = 65 - cs.length ∧ G cl = some (.lst (cs.map fun c => V.int (c : Nat))) ∧ Pend (RI 0 ps) (RI 1 ps) t nu a b r1 cs side nx ∧ σ' = [some (.ref l), some (.ref tk), some (.int r1), some (.int a), some (.int b), some (.ref cl), some (.int side), some (oN nx)]), fun σ' G z => z, ?_⟩
    refine ⟨_, rfl, .inl ⟨rfl, _, SqL.of e3⟩, _, rfl, cl, _, _, rfl, rfl, e3, small1000 (by rw [List.length_map]; omega), ?_⟩
    have s4 : Same H (upd H' cl (.lst ((cs.map fun c => V.int (c : Nat)) ++ [oN (some p)]))) := Same.put s3 hcl
    have e4 : upd H' cl (.lst ((cs.map fun c => V.int (c : Nat)) ++ [oN (some p)])) cl = some (.lst ((cs ++ [p]).map fun c => V.int (c : Nat))) := by rw [upd_same, List.map_append]; rfl
    generalize upd H' cl (.lst ((cs.map fun c => V.int (c : Nat)) ++ [oN (some p)])) = H4 at s4 e4 ⊢
    have t4 := tt.same s4
    refine ⟨_, rfl, _, _, rfl, rfl, ?_⟩
    obtain ⟨ap, pp, ha, hp, ep⟩ := prs_get pr (show p < ps.length by omega)
    have ep4 := s4 _ _ ep
    have hat : atI (as.map V.ref) ((p : Nat) : Int) = some (.ref ap) := atI_nat (by rw [List.getElem?_map, ha]; rfl)
    rcases hside with rfl | rfl
    · -- behind a pair with b: its out rack
      rw [if_neg (by decide)] at pn
      refine ⟨_, rfl, _, rfl, tk, _, _, _, rfl, rfl, SqT.of t4.tk, rfl, d1, rfl, .inr ⟨_, .inl t4.e1⟩, _, rfl, _, rfl, l, _, _, _, rfl, rfl, s4.seq hl, hat, _, rfl, ap, _, _, _, rfl, rfl, SqT.of ep4, rfl, _, rfl, _, rfl, (by show 2 ≤ sizeLine; decide), fun k2 hk2 => ?_⟩
      have s5 := same_new hk2 (.tup [.int b, .int a])
      have ek2 := upd_same (H := H4) (a := k2) (o := .tup [.int b, .int a])
      have t5 := t4.same s5
      have e5 := s5 _ _ e4
      generalize upd H4 k2 (.tup [.int b, .int a]) = H5 at s5 ek2 t5 e5 ⊢
      refine ⟨_, rfl, k2, _, _, _, rfl, rfl, SqT.of ek2, rfl, (by show 2 ≤ sizeLine; decide), fun k3 hk3 => ?_⟩
      have s6 := same_new hk3 (.tup [.int pp.2, .int a])
      have ek3 := upd_same (H := H5) (a := k3) (o := .tup [.int pp.2, .int a])
      have t6 := t5.same s6
      have e6 := s6 _ _ e5
      generalize upd H5 k3 (.tup [.int pp.2, .int a]) = H6 at s6 ek3 t6 e6 ⊢
      refine ⟨_, DGet.t (k := kRN pp.2 a) t6.e1 ek3, ?_⟩
      have rp : RI 1 ps p = pp.2 := RI_at hp
      obtain ⟨nx, vx, pd⟩ : ∃ nx : Option Nat, (valV kv1 (kRN pp.2 a)).getD .non = oN nx ∧ Pend (RI 0 ps) (RI 1 ps) t nu a b r1 (cs ++ [p]) 1 nx := by
        rcases D1.look pp.2 a with ⟨e1, e2⟩ | ⟨i, e1, e2, e3, e4⟩
        · exact ⟨none, by rw [e1]; rfl, .inr rfl, fun _ => cha.end1 hab pn fun j h1 h2 h3 => e2 j h1 (by rw [h3, rp]) h2, fun p z => nomatch z⟩
        · refine ⟨some i, by rw [e1]; rfl, .inr rfl, fun z => (nomatch z), fun p' z => ?_⟩
          cases z
          exact ⟨e2, hab, by rw [if_pos rfl]; exact e4, cha.to1 N hab hb pn e2 e4 (by rw [e3, rp])⟩
      rw [vx]
      exact ⟨65 - (cs ++ [p]).length, by rw [List.length_append, List.length_singleton]; omega, s4.trans (s5.trans s6), cs ++ [p], 1, nx, rfl, e6, pd, rfl⟩
    · rw [if_pos rfl] at pn
      refine ⟨_, rfl, _, rfl, tk, _, _, _, rfl, rfl, SqT.of t4.tk, rfl, d0, rfl, .inr ⟨_, .inl t4.e0⟩, _, rfl, _, rfl, l, _, _, _, rfl, rfl, s4.seq hl, hat, _, rfl, ap, _, _, _, rfl, rfl, SqT.of ep4, rfl, _, rfl, _, rfl, (by show 2 ≤ sizeLine; decide), fun k2 hk2 => ?_⟩
      have s5 := same_new hk2 (.tup [.int b, .int a])
      have ek2 := upd_same (H := H4) (a := k2) (o := .tup [.int b, .int a])
      have t5 := t4.same s5
      have e5 := s5 _ _ e4
      generalize upd H4 k2 (.tup [.int b, .int a]) = H5 at s5 ek2 t5 e5 ⊢
      refine ⟨_, rfl, k2, _, _, _, rfl, rfl, SqT.of ek2, rfl, (by show 2 ≤ sizeLine; decide), fun k3 hk3 => ?_⟩
      have s6 := same_new hk3 (.tup [.int pp.1, .int b])
      have ek3 := upd_same (H := H5) (a := k3) (o := .tup [.int pp.1, .int b])
      have t6 := t5.same s6
      have e6 := s6 _ _ e5
      generalize upd H5 k3 (.tup [.int pp.1, .int b]) = H6 at s6 ek3 t6 e6 ⊢
      refine ⟨_, DGet.t (k := kRN pp.1 b) t6.e0 ek3, ?_⟩
      have rp : RI 0 ps p = pp.1 := RI_at hp
      obtain ⟨nx, vx, pd⟩ : ∃ nx : Option Nat, (valV kv0 (kRN pp.1 b)).getD .non = oN nx ∧ Pend (RI 0 ps) (RI 1 ps) t nu a b r1 (cs ++ [p]) 0 nx := by
        rcases D0.look pp.1 b with ⟨e1, e2⟩ | ⟨i, e1, e2, e3, e4⟩
        · exact ⟨none, by rw [e1]; rfl, .inl rfl, fun _ => cha.end0 hab pn fun j h1 h2 h3 => e2 j h1 (by rw [h3, rp]) h2, fun p z => nomatch z⟩
        · refine ⟨some i, by rw [e1]; rfl, .inl rfl, fun z => (nomatch z), fun p' z => ?_⟩
          cases z
          exact ⟨e2, hab, by rw [if_neg (by decide)]; exact e4, cha.to0 N hab pn e2 e4 (by rw [e3, rp])⟩
      rw [vx]
      exact ⟨65 - (cs ++ [p]).length, by rw [List.length_append, List.length_singleton]; omega, s4.trans (s5.trans s6), cs ++ [p], 0, nx, rfl, e6, pd, rfl⟩
end
theorem nu_set {ns : List Int} {i : Nat} {x : Int} (h : i < ns.length) (j : Nat) : nuL (ns.set i x) j = if j = i then x else nuL ns j := by
  unfold nuL
  by_cases e : j = i
  · rw [if_pos e, e, List.getD, List.getElem?_set_self h]
    rfl
  · rw [if_neg e, List.getD, List.getElem?_set_ne (Ne.symm e), List.getD]
theorem nu_snoc {ns : List Int} {x : Int} : (∀ i, i < ns.length → nuL (ns ++ [x]) i = nuL ns i) ∧ nuL (ns ++ [x]) ns.length = x := by
  refine ⟨fun i hi => ?_, ?_⟩
  · unfold nuL
    rw [List.getD, List.getElem?_append_left hi, List.getD]
  · unfold nuL
    rw [List.getD, List.getElem?_concat_length]
    rfl
theorem mem_take_lt {cs : List Nat} {k j : Nat} {c : Nat} (nd : cs.Nodup) (hc : cs[k]? = some c) : ¬ c ∈ cs.take k := fun z => by
  obtain ⟨i, hi, e⟩ := List.getElem_of_mem z
  rw [List.length_take] at hi
  have hk := (List.getElem?_eq_some_iff.mp hc).1
  have e1 : cs[i]? = some c := by
    rw [List.getElem_take] at e
    rw [List.getElem?_eq_getElem (by omega), e]
  have := (List.getElem?_inj (by omega) nd).mp (e1.trans hc.symm)
  omega
section
variable {P : Program} {w : World} {K : PySem.W.Frag} {mg : Str → Option Value} {base : Heap}
theorem sc_exchange : FnScope ["pairs", "taken", "numbers", "chain", "a", "b", "place"] ["pairs", "taken", "numbers", "chain", "a", "b"] (defScope (top 18)) := ⟨rfl, rfl, rfl, by decide +kernel, rfl, by decide +kernel, by decide +kernel⟩
set_option maxHeartbeats 4000000 in
theorem ok_exch (T : Txt K mg) (C_take : Callee P w K mg base 1 "take" ["taken", "place", "pair", "number"] spTake) (C_leave : Callee P w K mg base 1 "leave" ["taken", "pair", "number"] spLeave) (D : Def K mg "exchange" (top 18) ["pairs", "taken", "numbers", "chain", "a", "b"]) : Callee P w K mg base 2 "exchange" ["pairs", "taken", "numbers", "chain", "a", "b"] (spExch K) := by
  refine D.ok sc_exchange (fun vs H Q E h => ?_) (fun f cdv A outer s H vs Q E hr h => ?_)
  · obtain ⟨l, tk, nl, cl, d0, d1, as, ps, kv0, kv1, ns, cs, r1, a, b, rfl, _⟩ := h
    rfl
  obtain ⟨l, tk, nl, cl, d0, d1, as, ps, kv0, kv1, ns, cs, r1, a, b, rfl, hl, pr, ht, few, tt, hln, hcn, en, ec, el, k0, k1, D0, D1, N, hb, ch, q⟩ := h
  have ln : as.length = ps.length := Paired.length pr
  have cl60 := cha_len ch
  refine ⟨_, (pss_cons (ps_for PassesOwn.never rfl (pi_listK K (pv 3)) (pg_name (i := 6) sc_exchange.nd rfl (Or.inl rfl))
    (pss_one (ps_expr (pe_fn C_leave hr rfl (pa_cons (pv 1) (pa_cons (pe_ix (ix_listK K) (pv 0) (pv 6) (fun _ _ => rfl)) (pa_cons (pe_ix (ix_listK K) (pv 2) (pv 6) (fun _ _ => rfl)) pa_nil st_sub) st_sub) st_name)))))
    (pss_one (ps_for PassesOwn.never rfl (pi_listK K (pv 3)) (pg_name (i := 6) sc_exchange.nd rfl (Or.inl rfl))
    (pss_cons (ps_asg (pe_ifExp (pt_cmpR op_eq (pe_ix (ix_listK K) (pv 2) (pv 6) (fun _ _ => rfl)) (pv 4) (nomark _)) (pv 5) (pv 4)) (pg_sub (pv 2) (pv 6) set_list))
    (pss_one (ps_expr (pe_fn C_take hr rfl (pa_cons (pv 1) (pa_cons (pv 6) (pa_cons (pe_ix (ix_listK K) (pv 0) (pv 6) (fun _ _ => rfl)) (pa_cons (pe_ix (ix_listK K) (pv 2) (pv 6) (fun _ _ => rfl)) pa_nil st_sub) st_sub) st_name) st_name)))))))), ?_⟩
  have ln0 : l ≠ d0 := fun z => by rw [z, tt.e0] at el; cases el
  have ln1 : l ≠ d1 := fun z => by rw [z, tt.e1] at el; cases el
  have cn0 : cl ≠ d0 := fun z => by rw [z, tt.e0] at ec; cases ec
  have cn1 : cl ≠ d1 := fun z => by rw [z, tt.e1] at ec; cases ec
  have nn0 : nl ≠ d0 := fun z => by rw [z, tt.e0] at en; cases en
  have nn1 : nl ≠ d1 := fun z => by rw [z, tt.e1] at en; cases en
  have ntn : tk ≠ nl := fun z => by
    have := tt.tk
    rw [z, en] at this
    cases this
  have tupX : ∀ {H' : Hp}, SameX2 d0 d1 H H' → ∀ x xs, H x = some (.tup xs) → H' x = some (.tup xs) := fun sx x xs z => sx _ _ (tup_ne z tt.e0) (tup_ne z tt.e1) z
  refine ⟨_, rfl, cl, rfl, ⟨_, SqL.of ec⟩, ?_⟩
  refine for_list (xs := cs.map fun c => V.int (c : Nat)) (fun i σ H' => SameX2 d0 d1 H H' ∧ (∃ kv0' kv1', Tk H' tk d0 d1 kv0' kv1' ∧ kv0'.length ≤ kv0.length ∧ kv1'.length ≤ kv1.length ∧ DT kv0' (RI 0 ps) (nuL ns) (fun j => j < ns.length ∧ ¬ j ∈ cs.take i) ∧ DT kv1' (RI 1 ps) (nuL ns) (fun j => j < ns.length ∧ ¬ j ∈ cs.take i)) ∧ ∃ v6, σ = [some (.ref l), some (.ref tk), some (.ref nl), some (.ref cl), some (.int a), some (.int b), v6])
    ⟨fun b u _ _ z => z, ⟨kv0, kv1, tt, Nat.le_refl _, Nat.le_refl _, ?_, ?_⟩, none, rfl⟩ (fun i σ H' _ g => SqL.of (g.1 _ _ cn0 cn1 ec)) ?_ ?_
  · have e : (fun j => j < ns.length ∧ ¬ j ∈ cs.take 0) = fun j => j < ns.length := funext fun j => propext ⟨And.left, fun z => ⟨z, fun y => nomatch y⟩⟩
    rw [e]; exact D0
  · have e : (fun j => j < ns.length ∧ ¬ j ∈ cs.take 0) = fun j => j < ns.length := funext fun j => propext ⟨And.left, fun z => ⟨z, fun y => nomatch y⟩⟩
    rw [e]; exact D1
  · rintro i x σ H' hx ⟨sx, ⟨kv0', kv1', t', z0, z1, E0, E1⟩, v6, rfl⟩
    rw [List.getElem?_map] at hx
    obtain ⟨c, hc, rfl⟩ := Option.map_eq_some_iff.mp hx
    have hcl := ch.lt c (List.mem_of_getElem? hc)
    obtain ⟨ap, pp, ha, hp, ep⟩ := prs_get pr (show c < ps.length by omega)
    have ep' := tupX sx _ _ ep
    have hat : atI (as.map V.ref) ((c : Nat) : Int) = some (.ref ap) := atI_nat (by rw [List.getElem?_map, ha]; rfl)
    have hat2 : atI (ns.map V.int) ((c : Nat) : Int) = some (.int (nuL ns c)) := atI_nat (by
      rw [List.getElem?_map, List.getElem?_eq_getElem hcl, nuL, List.getD, List.getElem?_eq_getElem hcl]
      rfl)
    have r0 : RI 0 ps c = pp.1 := RI_at hp
    have r1' : RI 1 ps c = pp.2 := RI_at hp
    have hnt := mem_take_lt (j := 0) ch.nd hc
    have g0 := E0.1 c ⟨hcl, hnt⟩
    have g1 := E1.1 c ⟨hcl, hnt⟩
    rw [r0] at g0
    rw [r1'] at g1
    refine ⟨_, rfl, _, rfl, _, rfl, l, _, _, _, rfl, rfl, SqL.of (sx _ _ ln0 ln1 el), hat, _, rfl, _, rfl, nl, _, _, _, rfl, rfl, SqL.of (sx _ _ nn0 nn1 en), hat2, tk, d0, d1, ap, kv0', kv1', pp, nuL ns c, _, _, rfl, t', ep', g0, g1, fun H2 s2 t2 => ?_⟩
    refine ⟨fun b u b0 b1 z => s2 b u b0 b1 (sx b u b0 b1 z), ⟨_, _, t2, Nat.le_trans (dropK_le ..) z0, Nat.le_trans (dropK_le ..) z1, ?_, ?_⟩, _, rfl⟩
    · rw [← r0]
      refine E0.drop (fun j hj e1 e2 => N.p0 j c hj.1 hcl e2 e1) fun j => ?_
      rw [take_snoc hc, List.mem_append, List.mem_singleton]
      exact ⟨fun z => ⟨⟨z.1, fun y => z.2 (.inl y)⟩, fun y => z.2 (.inr y)⟩, fun z => ⟨z.1.1, fun y => y.elim z.1.2 z.2⟩⟩
    · rw [← r1']
      refine E1.drop (fun j hj e1 e2 => N.p1 j c hj.1 hcl e2 e1) fun j => ?_
      rw [take_snoc hc, List.mem_append, List.mem_singleton]
      exact ⟨fun z => ⟨⟨z.1, fun y => z.2 (.inl y)⟩, fun y => z.2 (.inr y)⟩, fun z => ⟨z.1.1, fun y => y.elim z.1.2 z.2⟩⟩
  rintro σ H2 ⟨sx, ⟨kv0', kv1', t', z0, z1, E0, E1⟩, v6, rfl⟩
  rw [List.length_map, List.take_length] at E0 E1
  have ec2 := sx _ _ cn0 cn1 ec
  refine ⟨_, rfl, cl, rfl, ⟨_, SqL.of ec2⟩, ?_⟩
  refine for_list (xs := cs.map fun c => V.int (c : Nat)) (fun i σ H' => SameX3 d0 d1 nl H H' ∧ (∃ (ns' : List Int) (kv0'' kv1'' : List (List Key × V)), Tk H' tk d0 d1 kv0'' kv1'' ∧ H' nl = some (.lst (ns'.map V.int)) ∧ ns'.length = ns.length ∧ kv0''.length ≤ kv0.length + i ∧ kv1''.length ≤ kv1.length + i ∧ (∀ j, j < ns.length → nuL ns' j = if j ∈ cs.take i then swp a b (nuL ns j) else nuL ns j) ∧
      DT kv0'' (RI 0 ps) (nuL ns') (fun j => j < ns.length ∧ (¬ j ∈ cs ∨ j ∈ cs.take i)) ∧ DT kv1'' (RI 1 ps) (nuL ns') (fun j => j < ns.length ∧ (¬ j ∈ cs ∨ j ∈ cs.take i))) ∧ ∃ v6, σ = [some (.ref l), some (.ref tk), some (.ref nl), some (.ref cl), some (.int a), some (.int b), v6])
    ⟨fun b u b0 b1 _ z => sx b u b0 b1 z, ⟨ns, kv0', kv1', t', sx _ _ nn0 nn1 en, rfl, by omega, by omega, fun j hj => ?_, ?_, ?_⟩, _, rfl⟩ (fun i σ H' _ g => SqL.of (g.1 _ _ cn0 cn1 hcn ec)) ?_ ?_
  · rw [if_neg (fun z => nomatch z)]
  · have e : (fun j => j < ns.length ∧ (¬ j ∈ cs ∨ j ∈ cs.take 0)) = fun j => j < ns.length ∧ ¬ j ∈ cs := funext fun j => propext ⟨fun z => ⟨z.1, z.2.elim id fun y => nomatch y⟩, fun z => ⟨z.1, .inl z.2⟩⟩
    rw [e]; exact E0
  · have e : (fun j => j < ns.length ∧ (¬ j ∈ cs ∨ j ∈ cs.take 0)) = fun j => j < ns.length ∧ ¬ j ∈ cs := funext fun j => propext ⟨fun z => ⟨z.1, z.2.elim id fun y => nomatch y⟩, fun z => ⟨z.1, .inl z.2⟩⟩
    rw [e]; exact E1
  · rintro i x σ H' hx ⟨s3, ⟨ns', w0, w1, t3, f1, f2, f3, f4, f5, G0, G1⟩, v6, rfl⟩
    rw [List.getElem?_map] at hx
    obtain ⟨c, hc, rfl⟩ := Option.map_eq_some_iff.mp hx
    have hi := (List.getElem?_eq_some_iff.mp hc).1
    have hcm := List.mem_of_getElem? hc
    have hcl := ch.lt c hcm
    have hnt := mem_take_lt (j := 0) ch.nd hc
    obtain ⟨ap, pp, ha, hp, ep⟩ := prs_get pr (show c < ps.length by omega)
    have hne_ap : ∀ z : Addr, z = nl → ¬ H z = some (.tup [.int pp.1, .int pp.2]) := fun z e y => by rw [e, en] at y; cases y
    have ep3 : H' ap = some (.tup [.int pp.1, .int pp.2]) := s3 _ _ (tup_ne ep tt.e0) (tup_ne ep tt.e1) (fun z => hne_ap ap z ep) ep
    have hat : atI (as.map V.ref) ((c : Nat) : Int) = some (.ref ap) := atI_nat (by rw [List.getElem?_map, ha]; rfl)
    have cl' : c < ns'.length := by omega
    have nc : nuL ns' c = nuL ns c := by rw [f5 c hcl, if_neg hnt]
    have hat2 : atI (ns'.map V.int) ((c : Nat) : Int) = some (.int (nuL ns c)) := atI_nat (by
      rw [List.getElem?_map, List.getElem?_eq_getElem cl', ← nc, nuL, List.getD, List.getElem?_eq_getElem cl']
      rfl)
    have r0 : RI 0 ps c = pp.1 := RI_at hp
    have r1' : RI 1 ps c = pp.2 := RI_at hp
    have rest : H' nl = some (.lst (ns'.map V.int)) ∧ ∃ j, ixN (ns'.map V.int).length ((c : Nat) : Int) = some j ∧ j = c := ⟨f1, c, by rw [List.length_map]; exact ixN_nat cl', rfl⟩
    have goal : ∀ G : Hp, G = upd H' nl (.lst ((ns'.set c (swp a b (nuL ns c))).map V.int)) → SameX3 d0 d1 nl H G ∧ Tk G tk d0 d1 w0 w1 ∧ G nl = some (.lst ((ns'.set c (swp a b (nuL ns c))).map V.int)) ∧ G l = some (.lst (as.map V.ref)) ∧ G ap = some (.tup [.int pp.1, .int pp.2]) := fun G e => by
      subst e
      refine ⟨fun b u b0 b1 b2 z => by rw [upd_ne b2]; exact s3 b u b0 b1 b2 z, ⟨by rw [upd_ne ntn]; exact t3.tk, by rw [upd_ne (Ne.symm nn0)]; exact t3.e0, by rw [upd_ne (Ne.symm nn1)]; exact t3.e1, t3.ne⟩, upd_same, by rw [upd_ne hln]; exact s3 _ _ ln0 ln1 hln el, by rw [upd_ne (fun z => hne_ap ap z ep)]; exact ep3⟩
    have nset := nu_set (ns := ns') (x := swp a b (nuL ns c)) cl'
    have fin : ∀ G : Hp, SameX3 d0 d1 nl H G → Tk G tk d0 d1 w0 w1 → G nl = some (.lst ((ns'.set c (swp a b (nuL ns c))).map V.int)) → ∀ G', SameX2 d0 d1 G G' → Tk G' tk d0 d1 (putK w0 (kRN pp.1 (swp a b (nuL ns c))) (.int (c : Nat))) (putK w1 (kRN pp.2 (swp a b (nuL ns c))) (.int (c : Nat))) →
        (SameX3 d0 d1 nl H G' ∧ (∃ (ns' : List Int) (kv0'' kv1'' : List (List Key × V)), Tk G' tk d0 d1 kv0'' kv1'' ∧ G' nl = some (.lst (ns'.map V.int)) ∧ ns'.length = ns.length ∧ kv0''.length ≤ kv0.length + (i + 1) ∧ kv1''.length ≤ kv1.length + (i + 1) ∧ (∀ j, j < ns.length → nuL ns' j = if j ∈ cs.take (i + 1) then swp a b (nuL ns j) else nuL ns j) ∧
        DT kv0'' (RI 0 ps) (nuL ns') (fun j => j < ns.length ∧ (¬ j ∈ cs ∨ j ∈ cs.take (i + 1))) ∧ DT kv1'' (RI 1 ps) (nuL ns') (fun j => j < ns.length ∧ (¬ j ∈ cs ∨ j ∈ cs.take (i + 1))))) := fun G g1 g2 g3 G' s4 t4 => by
      have mem1 : ∀ j, (j ∈ cs.take (i + 1)) ↔ (j ∈ cs.take i ∨ j = c) := fun j => by rw [take_snoc hc, List.mem_append, List.mem_singleton]
      have inI : ∀ j, (j < ns.length ∧ (¬ j ∈ cs ∨ j ∈ cs.take (i + 1))) ↔ ((j < ns.length ∧ (¬ j ∈ cs ∨ j ∈ cs.take i)) ∨ j = c) := fun j => by
        rw [mem1]
        refine ⟨fun z => ?_, fun z => ?_⟩
        · rcases z.2 with y | y | y
          · exact .inl ⟨z.1, .inl y⟩
          · exact .inl ⟨z.1, .inr y⟩
          · exact .inr y
        · rcases z with y | y
          · exact ⟨y.1, y.2.imp id .inl⟩
          · exact ⟨y ▸ hcl, .inr (.inr y)⟩
      have notin : ¬ (c < ns.length ∧ (¬ c ∈ cs ∨ c ∈ cs.take i)) := fun z => z.2.elim (fun y => y hcm) hnt
      have oldn : ∀ j, (j < ns.length ∧ (¬ j ∈ cs ∨ j ∈ cs.take i)) → nuL (ns'.set c (swp a b (nuL ns c))) j = nuL ns' j := fun j hj => by
        rw [nset j, if_neg (show ¬ j = c from fun z => notin (by rw [z] at hj; exact hj))]
      have clash : ∀ j, (j < ns.length ∧ (¬ j ∈ cs ∨ j ∈ cs.take i)) → (RI 0 ps j = RI 0 ps c ∨ RI 1 ps j = RI 1 ps c) → nuL ns' j ≠ swp a b (nuL ns c) := fun j hj sh e => by
        rw [f5 j hj.1] at e
        by_cases m : j ∈ cs.take i
        · rw [if_pos m] at e
          have jm := List.mem_of_mem_take m
          have := swp_inj (ch.ab j jm) (ch.ab c hcm) e
          have jc : j = c := sh.elim (fun y => N.p0 j c hj.1 hcl this y) (fun y => N.p1 j c hj.1 hcl this y)
          exact hnt (jc ▸ m)
        · rw [if_neg m] at e
          have nj : ¬ j ∈ cs := hj.2.elim id (fun y => absurd y m)
          exact nj (ch.closed N hb hcm hj.1 (by rw [e]; exact swp_in _) (sh.imp Eq.symm Eq.symm))
      refine ⟨fun b u b0 b1 b2 z => s4 b u b0 b1 (g1 b u b0 b1 b2 z), _, _, _, t4, s4 _ _ nn0 nn1 g3, by rw [List.length_set]; exact f2, Nat.le_trans (length_putK ..) (by omega), Nat.le_trans (length_putK ..) (by omega), fun j hj => ?_, ?_, ?_⟩
      · rw [nset j]
        by_cases e : j = c
        · rw [if_pos e, if_pos ((mem1 j).mpr (.inr e)), e]
        · rw [if_neg e, f5 j hj]
          by_cases m : j ∈ cs.take i
          · rw [if_pos m, if_pos ((mem1 j).mpr (.inl m))]
          · rw [if_neg m, if_neg (fun z => ((mem1 j).mp z).elim m e)]
      · rw [← r0]
        exact G0.put notin (fun j hj e => clash j hj (.inl e)) oldn (by rw [nset c, if_pos rfl]) inI
      · rw [← r1']
        exact G1.put notin (fun j hj e => clash j hj (.inr e)) oldn (by rw [nset c, if_pos rfl]) inI
    have step : ∀ xv : Int, xv = swp a b (nuL ns c) → ∀ R : Hp → Prop, (∀ G', SameX3 d0 d1 nl H G' ∧ (∃ (ns' : List Int) (kv0'' kv1'' : List (List Key × V)), Tk G' tk d0 d1 kv0'' kv1'' ∧ G' nl = some (.lst (ns'.map V.int)) ∧ ns'.length = ns.length ∧ kv0''.length ≤ kv0.length + (i + 1) ∧ kv1''.length ≤ kv1.length + (i + 1) ∧ (∀ j, j < ns.length → nuL ns' j = if j ∈ cs.take (i + 1) then swp a b (nuL ns j) else nuL ns j) ∧
        DT kv0'' (RI 0 ps) (nuL ns') (fun j => j < ns.length ∧ (¬ j ∈ cs ∨ j ∈ cs.take (i + 1))) ∧ DT kv1'' (RI 1 ps) (nuL ns') (fun j => j < ns.length ∧ (¬ j ∈ cs ∨ j ∈ cs.take (i + 1)))) → R G') → True := fun _ _ _ _ => trivial
    refine ⟨_, rfl, _, rfl, nl, _, _, _, rfl, rfl, SqL.of f1, hat2, _, rfl, rfl, _, rfl, ?_⟩
    refine ite2 (fun e => ?_) (fun e => ?_)
    · have e' : nuL ns c = a := V.int.inj (of_decide_eq_true e)
      have sv : swp a b (nuL ns c) = b := if_pos e'
      refine ⟨_, rfl, _, rfl, _, rfl, nl, _, _, c, rfl, rfl, f1, by rw [List.length_map]; exact ixN_nat cl', ?_⟩
      rw [show V.int b = V.int (swp a b (nuL ns c)) by rw [sv], set_map]
      obtain ⟨g1, g2, g3, g4, g5⟩ := goal _ rfl
      generalize upd H' nl (.lst ((ns'.set c (swp a b (nuL ns c))).map V.int)) = G at g1 g2 g3 g4 g5 ⊢
      have hat3 : atI ((ns'.set c (swp a b (nuL ns c))).map V.int) ((c : Nat) : Int) = some (.int (swp a b (nuL ns c))) := atI_nat (by rw [List.getElem?_map, List.getElem?_set_self cl']; rfl)
      refine ⟨_, rfl, _, rfl, _, rfl, _, rfl, l, _, _, _, rfl, rfl, SqL.of g4, hat, _, rfl, _, rfl, nl, _, _, _, rfl, rfl, SqL.of g3, hat3, tk, d0, d1, ap, w0, w1, pp, c, _, rfl, g2, g5, by omega, by omega, fun G' s4 t4 => ?_⟩
      obtain ⟨o1, o2⟩ := fin G g1 g2 g3 G' s4 t4
      exact ⟨o1, o2, _, rfl⟩
    · have e' : ¬ nuL ns c = a := fun z => e (decide_eq_true (by rw [z]))
      have sv : swp a b (nuL ns c) = a := if_neg e'
      refine ⟨_, rfl, _, rfl, _, rfl, nl, _, _, c, rfl, rfl, f1, by rw [List.length_map]; exact ixN_nat cl', ?_⟩
      rw [show V.int a = V.int (swp a b (nuL ns c)) by rw [sv], set_map]
      obtain ⟨g1, g2, g3, g4, g5⟩ := goal _ rfl
      generalize upd H' nl (.lst ((ns'.set c (swp a b (nuL ns c))).map V.int)) = G at g1 g2 g3 g4 g5 ⊢
      have hat3 : atI ((ns'.set c (swp a b (nuL ns c))).map V.int) ((c : Nat) : Int) = some (.int (swp a b (nuL ns c))) := atI_nat (by rw [List.getElem?_map, List.getElem?_set_self cl']; rfl)
      refine ⟨_, rfl, _, rfl, _, rfl, _, rfl, l, _, _, _, rfl, rfl, SqL.of g4, hat, _, rfl, _, rfl, nl, _, _, _, rfl, rfl, SqL.of g3, hat3, tk, d0, d1, ap, w0, w1, pp, c, _, rfl, g2, g5, by omega, by omega, fun G' s4 t4 => ?_⟩
      obtain ⟨o1, o2⟩ := fin G g1 g2 g3 G' s4 t4
      exact ⟨o1, o2, _, rfl⟩
  · rintro σ H' ⟨s3, ⟨ns', w0, w1, t3, f1, f2, f3, f4, f5, G0, G1⟩, v6, rfl⟩
    rw [List.length_map] at f3 f4
    rw [List.length_map, List.take_length] at f5 G0 G1
    have e : (fun j => j < ns.length ∧ (¬ j ∈ cs ∨ j ∈ cs)) = fun j => j < ns.length := funext fun j => propext ⟨And.left, fun z => ⟨z, (Classical.em (j ∈ cs)).symm⟩⟩
    rw [e] at G0 G1
    exact q ns' w0 w1 H' s3 t3 f1 f2 (by omega) (by omega) f5 G0 G1
end
theorem nod_len {l : List Int} (nd : l.Nodup) (h : ∀ x ∈ l, 0 ≤ x ∧ x < 32) : l.length ≤ 32 := by
  have nd2 : (l.map Int.toNat).Nodup := by
    unfold List.Nodup
    rw [List.pairwise_map]
    exact List.Pairwise.imp_of_mem (fun {a b} ha hb n e => n (by have := h a ha; have := h b hb; omega)) nd
  have := nd2.length_le_of_subset (l₂ := List.range 32) fun x hx => by
    obtain ⟨y, hy, rfl⟩ := List.mem_map.mp hx
    have := h y hy
    exact List.mem_range.mpr (by omega)
  rwa [List.length_map, List.length_range] at this
def spRefuse (K : PySem.W.Frag) : Sp := fun vs H Q _ => ∃ (l : Addr) (as : List Addr) (ps : List (Int × Int)) (W : Int), vs = [.ref l, .int W] ∧ SqL K H l (as.map V.ref) ∧ PrsAt H as ps ∧ ps.length ≤ 64 ∧ (∀ side r : Int, side = 0 ∨ side = 1 → r ∈ rks side ps → 0 ≤ r ∧ r < 32) ∧ (∀ side r : Int, side = 0 ∨ side = 1 → (((rks side ps).count r : Nat) : Int) ≤ W) ∧ ∀ H', Same H H' → Q .non H'
def spParted : Sp := fun vs H Q _ => ∃ (l : Addr) (as : List Addr) (ps : List (Int × Int)) (W : Int), vs = [.ref l, .int W] ∧ H l = some (.lst (as.map V.ref)) ∧ PrsAt H as ps ∧ ps.length ≤ 64 ∧ (∀ side r : Int, side = 0 ∨ side = 1 → r ∈ rks side ps → 0 ≤ r ∧ r < 32) ∧ (∀ side r : Int, side = 0 ∨ side = 1 → (((rks side ps).count r : Nat) : Int) ≤ W) ∧
  ∀ (nl : Addr) (ns : List Int) (H' : Hp), Same H H' → H nl = none → H' nl = some (.lst (ns.map V.int)) → ns.length = ps.length → Num (RI 0 ps) (RI 1 ps) ps.length (nuL ns) → (∀ i, i < ps.length → 0 ≤ nuL ns i ∧ nuL ns i < W) → Q (.ref nl) H'
theorem left_few {kvs : List (List Key × V)} {R nu : Nat → Int} {t x : Nat} {r : Int} (h : DT kvs R nu (· < t)) (hx : ∀ y : Nat, y < x → (valV kvs (kRN r y)).isSome = true) : x ≤ ((List.range t).filter fun i => decide (R i = r)).length := few_left (nu := nu) fun y hy => by
  obtain ⟨v, hv⟩ := Option.isSome_iff_exists.mp (hx y hy)
  obtain ⟨i, h1, h2, h3, _⟩ := h.2 r y v hv
  exact ⟨i, h1, h2, h3⟩
section
variable {P : Program} {w : World} {K : PySem.W.Frag} {mg : Str → Option Value} {base : Heap}
theorem sc_refuse_full : FnScope ["pairs", "ways", "side", "weights", "rack"] ["pairs", "ways"] (defScope (top 13)) := ⟨rfl, rfl, rfl, by decide +kernel, rfl, by decide +kernel, by decide +kernel⟩
theorem ok_refuse (T : Txt K mg) (C_side_weights : Callee P w K mg base 1 "side_weights" ["pairs", "side"] (spSide K)) (D : Def K mg "refuse_full" (top 13) ["pairs", "ways"]) : Callee P w K mg base 2 "refuse_full" ["pairs", "ways"] (spRefuse K) := by
  refine D.ok sc_refuse_full (fun vs H Q E h => ?_) (fun f cdv A outer s H vs Q E hr h => ?_)
  · obtain ⟨l, as, ps, W, rfl, _⟩ := h
    rfl
  obtain ⟨l, as, ps, W, rfl, hl, pr, few, h32, hW, q⟩ := h
  refine ⟨_, (pss_one (ps_for PassesOwn.never rfl (pi_range1 rfl T.m_range (pa_cons pe_int pa_nil st_const)) (pg_name (i := 2) sc_refuse_full.nd rfl (Or.inl rfl))
    (pss_cons (ps_set (i := 3) sc_refuse_full.nd rfl (Or.inl rfl) (pe_fn C_side_weights hr rfl (pa_cons (pv 0) (pa_cons (pv 2) pa_nil st_name) st_name)))
    (pss_one (ps_for PassesOwn.never rfl (pi_listK K (pe_callB (call_sortedDic rfl) rfl T.m_sorted boot_sorted (pa_cons (pv 3) pa_nil st_name))) (pg_name (i := 4) sc_refuse_full.nd rfl (Or.inl rfl))
    (pss_one (ps_if (pt_cmpR op_gt (pe_dget (hu_of hr) (pv 3) (pv 4) (fun _ _ => rfl)) (pv 1) (nomark _)) (pss_one ps_never) pss_nil))))))), ?_⟩
  refine ⟨_, rfl, by decide, by decide, ?_⟩
  refine for_range (lo := 0) (n := 2) (fun j σ H' => Same H H' ∧ ∃ v2 v3 v4, σ = [some (.ref l), some (.int W), v2, v3, v4])
    ⟨fun b u z => z, none, none, none, rfl⟩ ?_ ?_
  · rintro j σ H' hj ⟨s1, v2, v3, v4, rfl⟩
    rw [Int.zero_add]
    have hs : (j : Int) = 0 ∨ (j : Int) = 1 := by omega
    refine ⟨_, rfl, _, rfl, l, as, ps, (j : Int), rfl, s1.seq hl, pr.same s1, few, hs, fun d kvs H2 s2 hd ed cd => ?_⟩
    obtain ⟨nsx, nd, mem, nlen, hk⟩ := id cd
    have n60 : nsx.length ≤ 32 := nod_len nd fun x hx => h32 (j : Int) x hs ((mem x).mp hx)
    refine ⟨_, rfl, d, kvs, nsx, rfl, .inl ed, by rw [hk, List.map_map]; rfl, by omega, fun ns' pm _ sl hsl => ?_⟩
    have s3 := same_new hsl (.lst (ns'.map V.int))
    have es := upd_same (H := H2) (a := sl) (o := .lst (ns'.map V.int))
    have ed3 := s3 _ _ ed
    generalize upd H2 sl (.lst (ns'.map V.int)) = H3 at s3 es ed3 ⊢
    refine ⟨sl, rfl, ⟨_, SqL.of es⟩, ?_⟩
    refine for_list (xs := ns'.map V.int) (fun k σ H' => H' = H3 ∧ ∃ v4, σ = [some (.ref l), some (.int W), some (.int (j : Int)), some (.ref d), v4])
      ⟨rfl, _, rfl⟩ (fun k σ H' _ g => by rw [g.1]; exact SqL.of es) ?_ ?_
    · rintro k x σ G hx ⟨rfl, v4, rfl⟩
      rw [List.getElem?_map] at hx
      obtain ⟨r, hr, rfl⟩ := Option.map_eq_some_iff.mp hx
      have mr := (mem r).mp (pm.mem_iff.mp (List.mem_of_getElem? hr))
      have hv := cd.val r
      rw [if_pos mr] at hv
      have hw := hW (j : Int) r hs
      refine ⟨_, rfl, _, rfl, d, _, rfl, .inl ⟨kvs, .inl r, .inl ed3, rfl, hv.symm⟩, _, rfl, _, _, rfl, rfl, _, rfl, iteN (by simpa using hw) ?_⟩
      exact ⟨rfl, _, rfl⟩
    · rintro σ G ⟨rfl, v4, rfl⟩
      exact ⟨s1.trans (s2.trans s3), _, _, _, rfl⟩
  · rintro σ H' ⟨s1, v2, v3, v4, rfl⟩
    exact q H' s1
theorem sc_parted : FnScope ["pairs", "ways", "taken", "numbers", "place", "pair", "a", "b"] ["pairs", "ways"] (defScope (top 19)) := ⟨rfl, rfl, rfl, by decide +kernel, rfl, by decide +kernel, by decide +kernel⟩
set_option maxHeartbeats 4000000 in
theorem ok_parted (T : Txt K mg) (C_refuse_full : Callee P w K mg base 2 "refuse_full" ["pairs", "ways"] (spRefuse K)) (C_first_left : Callee P w K mg base 1 "first_left" ["places", "rack"] spLeft) (C_chain_along : Callee P w K mg base 1 "chain_along" ["pairs", "taken", "rack", "a", "b"] (spChain K)) (C_exchange : Callee P w K mg base 2 "exchange" ["pairs", "taken", "numbers", "chain", "a", "b"] (spExch K)) (C_take : Callee P w K mg base 1 "take" ["taken", "place", "pair", "number"] spTake) (D : Def K mg "parted" (top 19) ["pairs", "ways"]) : Callee P w K mg base 3 "parted" ["pairs", "ways"] spParted := by
  refine D.ok sc_parted (fun vs H Q E h => ?_) (fun f cdv A outer s H vs Q E hr h => ?_)
  · obtain ⟨l, as, ps, W, rfl, _⟩ := h
    rfl
  obtain ⟨l, as, ps, W, rfl, el, pr, few, h32, hW, q⟩ := h
  have ln : as.length = ps.length := Paired.length pr
  refine ⟨_, (pss_cons (ps_expr (pe_fn C_refuse_full hr rfl (pa_cons (pv 0) (pa_cons (pv 1) pa_nil st_name) st_name)))
    (pss_cons (ps_set (i := 2) sc_parted.nd rfl (Or.inl rfl) (pe_tup (pa_cons pe_dnewT (pa_cons pe_dnewT pa_nil st_dict) st_dict)))
    (pss_cons (ps_set (i := 3) sc_parted.nd rfl (Or.inl rfl) (pe_lst pa_nil))
    (pss_cons (ps_for PassesOwn.never rfl (pi_enum K rfl T.m_enumerate (pa_cons (pv 0) pa_nil st_name)) (pg2K K rfl sc_parted.nd (Nm.mk (i := 4) rfl (Or.inl rfl) (Or.inl rfl)) (Nm.mk (i := 5) rfl (Or.inl rfl) (Or.inl rfl)))
    (pss_cons (ps_set (i := 6) sc_parted.nd rfl (Or.inl rfl) (pe_fn C_first_left hr rfl (pa_cons (pe_ix (ix_tupK K) (pv 2) pe_int (fun _ _ => rfl)) (pa_cons (pe_ix (ix_tupK K) (pv 5) pe_int (fun _ _ => rfl)) pa_nil st_sub) st_sub)))
    (pss_cons (ps_set (i := 7) sc_parted.nd rfl (Or.inl rfl) (pe_fn C_first_left hr rfl (pa_cons (pe_ix (ix_tupK K) (pv 2) pe_int (fun _ _ => rfl)) (pa_cons (pe_ix (ix_tupK K) (pv 5) pe_int (fun _ _ => rfl)) pa_nil st_sub) st_sub)))
    (pss_cons (ps_expr (pe_fn C_exchange hr rfl (pa_cons (pv 0) (pa_cons (pv 2) (pa_cons (pv 3) (pa_cons (pe_fn C_chain_along hr rfl (pa_cons (pv 0) (pa_cons (pv 2) (pa_cons (pe_ix (ix_tupK K) (pv 5) pe_int (fun _ _ => rfl)) (pa_cons (pv 6) (pa_cons (pv 7) pa_nil st_name) st_name) st_sub) st_name) st_name)) (pa_cons (pv 6) (pa_cons (pv 7) pa_nil st_name) st_name) st_call) st_name) st_name) st_name)))
    (pss_cons (ps_expr (pe_bmK K PySem.F.plainAttrs_list PySem.F.slot_list_append PySem.F.type_list_append mt_appendR (pv 3) (pa_cons (pv 6) pa_nil st_name)))
    (pss_one (ps_expr (pe_fn C_take hr rfl (pa_cons (pv 2) (pa_cons (pv 4) (pa_cons (pv 5) (pa_cons (pv 6) pa_nil st_name) st_name) st_name) st_name)))))))))
    (pss_one (ps_ret (pv 3))))))), ?_⟩
  refine ⟨_, rfl, _, rfl, l, as, ps, W, rfl, SqL.of el, pr, few, h32, hW, fun H0 s0 => ?_⟩
  refine fun d0 hd0 => fun d1 hd1 => ?_
  have s1 := s0.trans (same_new hd0 (.dT []))
  have s2 := s1.trans (same_new hd1 (.dT []))
  have e0 := same_new hd1 (.dT []) _ _ (upd_same (H := H0) (a := d0) (o := .dT []))
  have e1 := upd_same (H := upd H0 d0 (.dT [])) (a := d1) (o := .dT [])
  have nd01 : d0 ≠ d1 := ne_of_none (upd_same (H := H0) (a := d0) (o := .dT [])) hd1
  have fr : ∀ {G : Hp} {x : Addr}, Same H G → G x = none → H x = none := fun {G x} s z => by
    cases y : H x with
    | none => rfl
    | some u => rw [s _ _ y] at z; cases z
  have f0 := fr s0 hd0
  have f1 := fr s1 hd1
  generalize upd (upd H0 d0 (.dT [])) d1 (.dT []) = H2 at s2 e0 e1 ⊢
  refine ⟨(by show 2 ≤ sizeLine; decide), fun tk htk => ?_⟩
  have s3 := s2.trans (same_new htk (.tup [.ref d0, .ref d1]))
  have t3 : Tk (upd H2 tk (.tup [.ref d0, .ref d1])) tk d0 d1 [] [] := ⟨upd_same, same_new htk _ _ _ e0, same_new htk _ _ _ e1, nd01⟩
  generalize upd H2 tk (.tup [.ref d0, .ref d1]) = H3 at s3 t3 ⊢
  refine ⟨(by show 0 ≤ sizeLine; decide), fun nl hnl => ?_⟩
  have fn := fr s3 hnl
  have s4 := s3.trans (same_new hnl (.lst []))
  have t4 := t3.same (same_new hnl (.lst []))
  have en := upd_same (H := H3) (a := nl) (o := .lst [])
  generalize upd H3 nl (.lst []) = H4 at s4 t4 en ⊢
  refine ⟨_, rfl, l, _, rfl, SqL.of (s4 _ _ el), ?_⟩
  refine for_enum (xs := as.map V.ref) (fun i σ H' => Same H H' ∧ (∃ (ns : List Int) (kv0 kv1 : List (List Key × V)), Tk H' tk d0 d1 kv0 kv1 ∧ H' nl = some (.lst (ns.map V.int)) ∧ ns.length = i ∧ kv0.length ≤ 65 * i ∧ kv1.length ≤ 65 * i ∧ DT kv0 (RI 0 ps) (nuL ns) (· < i) ∧ DT kv1 (RI 1 ps) (nuL ns) (· < i) ∧ Num (RI 0 ps) (RI 1 ps) i (nuL ns) ∧ ∀ j, j < i → 0 ≤ nuL ns j ∧ nuL ns j < W) ∧ ∃ v4 v5 v6 v7, σ = [some (.ref l), some (.int W), some (.ref tk), some (.ref nl), v4, v5, v6, v7])
    ⟨s4, ⟨[], [], [], t4, en, rfl, Nat.le_refl _, Nat.le_refl _, ⟨fun i z => absurd z (Nat.not_lt_zero _), fun r x v z => nomatch z⟩, ⟨fun i z => absurd z (Nat.not_lt_zero _), fun r x v z => nomatch z⟩, ⟨fun i j z => absurd z (Nat.not_lt_zero _), fun i j z => absurd z (Nat.not_lt_zero _)⟩, fun j z => absurd z (Nat.not_lt_zero _)⟩, none, none, none, none, rfl⟩ (fun i σ H' _ g => SqL.of (g.1 _ _ el)) ?_ ?_
  · rintro i x σ H' p hx ⟨s5, ⟨ns, kv0, kv1, t5, en5, hlen, z0, z1, D0, D1, N, bd⟩, v4, v5, v6, v7, rfl⟩ hp
    rw [List.getElem?_map] at hx
    obtain ⟨a, ha, rfl⟩ := Option.map_eq_some_iff.mp hx
    obtain ⟨pp, hpp, pa⟩ := paired_at pr i a ha
    have hi := (List.getElem?_eq_some_iff.mp hpp).1
    have r0 : RI 0 ps i = pp.1 := RI_at hpp
    have r1 : RI 1 ps i = pp.2 := RI_at hpp
    refine ⟨p, [.int (i : Nat), .ref a], rfl, SqT.of upd_same, rfl, .int (i : Nat), [.ref a], rfl, .ref a, [], rfl, rfl, ?_⟩
    have s6' := same_new hp (.tup [.int (i : Nat), .ref a])
    have s6 := s5.trans s6'
    have t6 := t5.same s6'
    have en6 := s6' _ _ en5
    generalize upd H' p (.tup [.int (i : Nat), .ref a]) = H6 at s6 t6 en6 ⊢
    have fl : ∀ (side r : Int), ((List.range i).filter fun j => decide (RI side ps j = r)).length ≤ i := fun side r => Nat.le_trans (List.length_filter_le ..) (by rw [List.length_range]; exact Nat.le_refl _)
    refine ⟨_, rfl, tk, _, _, _, rfl, rfl, SqT.of t6.tk, rfl, _, rfl, a, _, _, _, rfl, rfl, SqT.of (s6 _ _ pa), rfl, d0, kv0, pp.1, rfl, t6.e0, fun x hx => Nat.le_trans (left_few D0 hx) (Nat.le_trans (fl _ _) (by omega)), fun na H7 s7 ha1 ha2 => ?_⟩
    have t7 := t6.same s7
    refine ⟨_, rfl, tk, _, _, _, rfl, rfl, SqT.of t7.tk, rfl, _, rfl, a, _, _, _, rfl, rfl, SqT.of (s7 _ _ (s6 _ _ pa)), rfl, d1, kv1, pp.2, rfl, t7.e1, fun x hx => Nat.le_trans (left_few D1 hx) (Nat.le_trans (fl _ _) (by omega)), fun nb H8 s8 hb1 hb2 => ?_⟩
    have t8 := t7.same s8
    have s68 := (s6.trans s7).trans s8
    have aW : ((na : Nat) : Int) < W := by
      have h1 := left_few D0 ha1
      have h2 := cnt_more hi r0
      have h3 := hW 0 pp.1 (.inl rfl)
      omega
    have bW : ((nb : Nat) : Int) < W := by
      have h1 := left_few D1 hb1
      have h2 := cnt_more hi r1
      have h3 := hW 1 pp.2 (.inr rfl)
      omega
    have ha3 : ∀ j, j < i → RI 0 ps j = pp.1 → nuL ns j ≠ (na : Nat) := fun j h1 h2 h3 => by
      have := D0.1 j h1
      rw [h2, h3, ha2] at this
      cases this
    have hb3 : ∀ j, j < i → RI 1 ps j = pp.2 → nuL ns j ≠ (nb : Nat) := fun j h1 h2 h3 => by
      have := D1.1 j h1
      rw [h2, h3, hb2] at this
      cases this
    have pa8 := s68 _ _ pa
    have en8 := s8 _ _ (s7 _ _ en6)
    refine ⟨_, rfl, _, rfl, _, rfl, _, rfl, _, rfl, _, rfl, a, _, _, _, rfl, rfl, SqT.of pa8, rfl, _, rfl, _, rfl, l, tk, d0, d1, as, ps, kv0, kv1, nuL ns, i, pp.2, (na : Nat), (nb : Nat), rfl, SqL.of (s68 _ _ el), pr.same s68, by omega, few, t8, D0, D1, N, hb3, fun cl cs H9 s9 hcl ecl ch => ?_⟩
    have t9 := t8.same s9
    have s69 := s68.trans s9
    have en9 := s9 _ _ en8
    have hln : l ≠ nl := ne_of_none el fn
    have hcn : cl ≠ nl := fun z => by rw [z, en8] at hcl; cases hcl
    subst hlen
    refine ⟨_, rfl, _, rfl, l, tk, nl, cl, d0, d1, as, ps, kv0, kv1, ns, cs, pp.2, (na : Nat), (nb : Nat), rfl, SqL.of (s69 _ _ el), pr.same s69, by omega, few, t9, hln, hcn, en9, ecl, s69 _ _ el, by omega, by omega, D0, D1, N, hb3, ch, fun ns' kv0' kv1' HA sA tA enA lA y0 y1 nA E0 E1 => ?_⟩
    have sHA : Same H HA := fun b u z => sA b u (ne_of_none z f0) (ne_of_none z f1) (ne_of_none z fn) (s69 b u z)
    have nn0 : nl ≠ d0 := fun z => by have := tA.e0; rw [← z, enA] at this; cases this
    have nn1 : nl ≠ d1 := fun z => by have := tA.e1; rw [← z, enA] at this; cases this
    have ntn : tk ≠ nl := fun z => by have := tA.tk; rw [z, enA] at this; cases this
    refine ⟨_, rfl, .inl ⟨rfl, _, SqL.of enA⟩, _, rfl, nl, _, _, rfl, rfl, enA, small1000 (by rw [List.length_map]; omega), ?_⟩
    have sB : Same H (upd HA nl (.lst (ns'.map V.int ++ [.int ((na : Nat) : Int)]))) := Same.put sHA fn
    have tB : Tk (upd HA nl (.lst (ns'.map V.int ++ [.int ((na : Nat) : Int)]))) tk d0 d1 kv0' kv1' := ⟨by rw [upd_ne ntn]; exact tA.tk, by rw [upd_ne (Ne.symm nn0)]; exact tA.e0, by rw [upd_ne (Ne.symm nn1)]; exact tA.e1, tA.ne⟩
    have enB : upd HA nl (.lst (ns'.map V.int ++ [.int ((na : Nat) : Int)])) nl = some (.lst ((ns' ++ [((na : Nat) : Int)]).map V.int)) := by rw [upd_same, List.map_append]; rfl
    generalize upd HA nl (.lst (ns'.map V.int ++ [.int ((na : Nat) : Int)])) = HB at sB tB enB ⊢
    refine ⟨_, rfl, _, rfl, _, rfl, _, rfl, tk, d0, d1, a, kv0', kv1', pp, ns.length, ((na : Nat) : Int), rfl, tB, sB _ _ pa, by omega, by omega, fun HC sC tC => ?_⟩
    have sHC : Same H HC := fun b u z => sC b u (ne_of_none z f0) (ne_of_none z f1) (sB b u z)
    have N' := swapped N hb3 ch nA
    have g0 := swapped0 ha3 ch nA
    have g1 := swapped1 hb3 ch nA
    obtain ⟨m1, m2⟩ := nu_snoc (ns := ns') (x := ((na : Nat) : Int))
    rw [lA] at m1 m2
    refine ⟨sHC, ⟨ns' ++ [((na : Nat) : Int)], _, _, tC, sC _ _ nn0 nn1 enB, by rw [List.length_append, List.length_singleton, lA], Nat.le_trans (length_putK ..) (by omega), Nat.le_trans (length_putK ..) (by omega), ?_, ?_, N'.snoc (fun j h1 h2 => g0 j h1 (by rw [h2, r0])) (fun j h1 h2 => g1 j h1 (by rw [h2, r1])) m1 m2, fun j hj => ?_⟩, _, _, _, _, rfl⟩
    · rw [← r0]
      exact E0.put (Nat.lt_irrefl _) (fun j h1 h2 => g0 j h1 (by rw [h2, r0])) m1 m2 fun j => by omega
    · rw [← r1]
      exact E1.put (Nat.lt_irrefl _) (fun j h1 h2 => g1 j h1 (by rw [h2, r1])) m1 m2 fun j => by omega
    · by_cases e : j = ns.length
      · rw [e, m2]
        exact ⟨by omega, aW⟩
      · rw [m1 j (by omega), nA j (by omega)]
        split
        · rcases swp_in (a := ((na : Nat) : Int)) (b := ((nb : Nat) : Int)) (nuL ns j) with y | y <;> rw [y] <;> exact ⟨by omega, by omega⟩
        · exact bd j (by omega)
  · rintro σ H' ⟨s5, ⟨ns, kv0, kv1, t5, en5, hlen, z0, z1, D0, D1, N, bd⟩, v4, v5, v6, v7, rfl⟩
    rw [List.length_map, ln] at hlen N bd
    exact ⟨_, rfl, q nl ns H' s5 fn en5 hlen N bd⟩
end
abbrev Prs := List (Int × Int)
abbrev Trs := List ((Int × Int) × Int)
structure TurnsOk (n : Int) (ps : Prs) : Prop where
  bd : ∀ p ∈ ps, (0 ≤ p.1 ∧ p.1 < n) ∧ 0 ≤ p.2 ∧ p.2 < n
  n1 : (ps.map Prod.fst).Nodup
  n2 : (ps.map Prod.snd).Nodup
def firstsOf (S : Int) (ts : Trs) (i : Nat) : Prs := (ts.filter fun t => decide (t.1.1 / S = (i : Int))).map fun t => (t.1.1 % S, t.2)
def lastsOf (S : Int) (ts : Trs) (i : Nat) : Prs := (ts.filter fun t => decide (t.1.2 / S = (i : Int))).map fun t => (t.2, t.1.2 % S)
def partOf (S : Int) (ts : Trs) (k : Nat) : Prs := (ts.filter fun t => decide (t.2 = (k : Int))).map fun t => (t.1.1 / S, t.1.2 / S)
structure NumT (S : Int) (ts : Trs) : Prop where
  bd : ∀ t ∈ ts, 0 ≤ t.2 ∧ t.2 < S
  ap : ts.Pairwise fun t u => t.2 = u.2 → t.1.1 / S ≠ u.1.1 / S ∧ t.1.2 / S ≠ u.1.2 / S
theorem nd_fm {α : Type} {l : List α} {p : α → Bool} {f : α → Int × Int} {g : Int × Int → Int} (h : l.Pairwise fun t u => p t = true → p u = true → g (f t) ≠ g (f u)) : (((l.filter p).map f).map g).Nodup := by
  unfold List.Nodup
  rw [List.pairwise_map, List.pairwise_map, List.pairwise_filter]
  exact h
theorem TurnsOk.pw {n : Int} {ts : Trs} (h : TurnsOk n (ts.map Prod.fst)) : ts.Pairwise fun t u => t.1.1 ≠ u.1.1 ∧ t.1.2 ≠ u.1.2 := by
  have h1 := h.n1
  have h2 := h.n2
  unfold List.Nodup at h1 h2
  rw [List.pairwise_map, List.pairwise_map] at h1 h2
  exact h1.and h2
theorem TurnsOk.t {n : Int} {ts : Trs} (h : TurnsOk n (ts.map Prod.fst)) {t : (Int × Int) × Int} (ht : t ∈ ts) : (0 ≤ t.1.1 ∧ t.1.1 < n) ∧ 0 ≤ t.1.2 ∧ t.1.2 < n := h.bd t.1 (List.mem_map.mpr ⟨t, ht, rfl⟩)
theorem same_of {S x y : Int} (h1 : x / S = y / S) (h2 : x % S = y % S) : x = y := by
  have e1 := Int.emod_add_mul_ediv x S
  have e2 := Int.emod_add_mul_ediv y S
  rw [h1, h2] at e1
  exact e1.symm.trans e2
theorem racks_lt {L S x : Int} (s2 : 2 ≤ S) (x0 : 0 ≤ x) (h : x < L) : 0 ≤ x / S ∧ x / S < (L + S - 1) / S := by
  refine ⟨Int.ediv_nonneg x0 (by omega), ?_⟩
  have e : (L + S - 1) / S = (L - 1) / S + 1 := by
    rw [show L + S - 1 = (L - 1) + S * 1 by omega, Int.add_mul_ediv_left _ _ (show S ≠ 0 by omega)]
  have := Int.ediv_le_ediv (show 0 < S by omega) (show x ≤ L - 1 by omega)
  omega
theorem part_ok {L S : Int} {ts : Trs} (s2 : 2 ≤ S) (h : TurnsOk L (ts.map Prod.fst)) (hn : NumT S ts) (k : Nat) : TurnsOk ((L + S - 1) / S) (partOf S ts k) := by
  refine ⟨fun p hp => ?_, nd_fm (hn.ap.imp fun {t u} z h1 h2 => (z ((of_decide_eq_true h1).trans (of_decide_eq_true h2).symm)).1), nd_fm (hn.ap.imp fun {t u} z h1 h2 => (z ((of_decide_eq_true h1).trans (of_decide_eq_true h2).symm)).2)⟩
  obtain ⟨t, ht, rfl⟩ := List.mem_map.mp hp
  have := h.t (List.mem_filter.mp ht).1
  exact ⟨racks_lt s2 this.1.1 this.1.2, racks_lt s2 this.2.1 this.2.2⟩
theorem modS_in {S : Int} (s2 : 2 ≤ S) (x : Int) : 0 ≤ x % S ∧ x % S < S := ⟨Int.emod_nonneg x (by omega), Int.emod_lt_of_pos x (by omega)⟩
theorem firsts_ok {L S : Int} {ts : Trs} (s2 : 2 ≤ S) (h : TurnsOk L (ts.map Prod.fst)) (hn : NumT S ts) (i : Nat) : TurnsOk S (firstsOf S ts i) := by
  refine ⟨fun p hp => ?_, nd_fm (h.pw.imp fun {t u} z h1 h2 e => z.1 (same_of ((of_decide_eq_true h1).trans (of_decide_eq_true h2).symm) e)), nd_fm (hn.ap.imp fun {t u} z h1 h2 e => (z e).1 ((of_decide_eq_true h1).trans (of_decide_eq_true h2).symm))⟩
  obtain ⟨t, ht, rfl⟩ := List.mem_map.mp hp
  exact ⟨modS_in s2 _, hn.bd t (List.mem_filter.mp ht).1⟩
theorem lasts_ok {L S : Int} {ts : Trs} (s2 : 2 ≤ S) (h : TurnsOk L (ts.map Prod.fst)) (hn : NumT S ts) (i : Nat) : TurnsOk S (lastsOf S ts i) := by
  refine ⟨fun p hp => ?_, nd_fm (hn.ap.imp fun {t u} z h1 h2 e => (z e).2 ((of_decide_eq_true h1).trans (of_decide_eq_true h2).symm)), nd_fm (h.pw.imp fun {t u} z h1 h2 e => z.2 (same_of ((of_decide_eq_true h1).trans (of_decide_eq_true h2).symm) e))⟩
  obtain ⟨t, ht, rfl⟩ := List.mem_map.mp hp
  exact ⟨hn.bd t (List.mem_filter.mp ht).1, modS_in s2 _⟩
theorem fm_snoc {α : Type} {l : List α} {x : α} {p : α → Bool} {f : α → Int × Int} : ((l ++ [x]).filter p).map f = (l.filter p).map f ++ if p x = true then [f x] else [] := by
  rw [List.filter_append, List.map_append, List.filter_cons, List.filter_nil]
  split <;> rfl
def BarsAt (H : Hp) (l : Addr) (bs : Prs) : Prop := ∃ as : List Addr, H l = some (.lst (as.map V.ref)) ∧ PrsAt H as bs
def SortOf (bs q : Prs) : Prop := bs.Perm q ∧ bs.Pairwise fun a b => a.1 < b.1
def RackAt (H : Hp) (L : Int) (ps : Prs) (a : Addr) : Prop := ∃ (l : Addr) (bs : Prs), H a = some (.tup [.str "rack", .int L, .ref l]) ∧ BarsAt H l bs ∧ SortOf bs ps
def Sorts (H : Hp) (fs : List Addr) (f : Nat → Prs) : Prop := ∀ (i : Nat) (fa : Addr), fs[i]? = some fa → ∃ bs, BarsAt H fa bs ∧ SortOf bs (f i)
def NestAt (H : Hp) (S : Int) : Nat → Int → Prs → Addr → Prop
  | 0, L, ps, a => RackAt H L ps a
  | d + 1, L, ps, a => (L ≤ S ∧ RackAt H L ps a) ∨ (¬ L ≤ S ∧ ∃ (ts : Trs) (fl al ll : Addr) (fs ms ls : List Addr), ts.map Prod.fst = ps ∧ NumT S ts ∧ H a = some (.tup [.str "hall", .int L, .int S, .ref fl, .ref al, .ref ll]) ∧
      H fl = some (.lst (fs.map V.ref)) ∧ H al = some (.lst (ms.map V.ref)) ∧ H ll = some (.lst (ls.map V.ref)) ∧
      ((fs.length : Nat) : Int) = (L + S - 1) / S ∧ ((ls.length : Nat) : Int) = (L + S - 1) / S ∧ ((ms.length : Nat) : Int) = S ∧
      Sorts H fs (firstsOf S ts) ∧ Sorts H ls (lastsOf S ts) ∧ ∀ (k : Nat) (ma : Addr), ms[k]? = some ma → NestAt H S d ((L + S - 1) / S) (partOf S ts k) ma)
theorem BarsAt.same {H H' : Hp} {l : Addr} {bs : Prs} (h : BarsAt H l bs) (s : Same H H') : BarsAt H' l bs := let ⟨as, e, p⟩ := h; ⟨as, s _ _ e, p.same s⟩
theorem RackAt.same {H H' : Hp} {L : Int} {ps : Prs} {a : Addr} (h : RackAt H L ps a) (s : Same H H') : RackAt H' L ps a := let ⟨l, bs, e, b, o⟩ := h; ⟨l, bs, s _ _ e, b.same s, o⟩
theorem Sorts.same {H H' : Hp} {fs : List Addr} {f : Nat → Prs} (h : Sorts H fs f) (s : Same H H') : Sorts H' fs f := fun i fa e => let ⟨bs, b, o⟩ := h i fa e; ⟨bs, b.same s, o⟩
theorem NestAt.same {H H' : Hp} {S : Int} (s : Same H H') : ∀ {d : Nat} {L : Int} {ps : Prs} {a : Addr}, NestAt H S d L ps a → NestAt H' S d L ps a
  | 0, _, _, _, h => RackAt.same h s
  | d + 1, L, ps, a, h => by
    rcases h with ⟨c, h⟩ | ⟨c, ts, fl, al, ll, fs, ms, ls, e1, e2, e3, e4, e5, e6, e7, e8, e9, f1, f2, f3⟩
    · exact .inl ⟨c, h.same s⟩
    · exact .inr ⟨c, ts, fl, al, ll, fs, ms, ls, e1, e2, s _ _ e3, s _ _ e4, s _ _ e5, s _ _ e6, e7, e8, e9, f1.same s, f2.same s, fun k ma z => NestAt.same s (f3 k ma z)⟩
theorem sort_prs {K : PySem.W.Frag} {H : Hp} {Q : VK} {l : Addr} {ps : Prs} {n : Int} (hb : BarsAt H l ps) (few : ps.length ≤ 64) (ok : TurnsOk n ps) (hn : n ≤ 1000)
    (q : ∀ (as' : List Addr) (bs : Prs), PrsAt H as' bs → SortOf bs ps → ∀ m, H m = none → Q (.ref m) (upd H m (.lst (as'.map V.ref)))) : rSortedD6 K [.ref l] H Q := by
  obtain ⟨as, el, pr⟩ := hb
  have ln : as.length = ps.length := Paired.length pr
  refine ⟨l, as, ps.map fun p => [p.1, p.2], 2, rfl, SqL.of el, paired_map (Paired.mapP pr fun a p z => SqT.of (show H a = some (.tup ([p.1, p.2].map V.int)) from z)), by omega, by decide, fun d hd => ?_, fun as' ds' hP hperm hs m hm => ?_⟩
  · obtain ⟨p, hp, rfl⟩ := List.mem_map.mp hd
    have := ok.bd p hp
    refine ⟨rfl, fun x hx => ?_⟩
    rcases List.mem_cons.mp hx with z | z
    · subst z; omega
    · rw [List.mem_singleton] at z; subst z; omega
  · have all2 : ∀ d ∈ ds', ∃ p ∈ ps, d = [p.1, p.2] := fun d hd => by
      obtain ⟨p, hp, e⟩ := List.mem_map.mp (hperm.mem_iff.mp hd)
      exact ⟨p, hp, e.symm⟩
    let un : List Int → Int × Int := fun d => (d.getD 0 0, d.getD 1 0)
    have pm : (ds'.map un).Perm ps := by
      have := hperm.map un
      rw [List.map_map] at this
      rwa [show (un ∘ fun p : Int × Int => [p.1, p.2]) = id from rfl, List.map_id] at this
    refine q as' (ds'.map un) ?_ ⟨pm, ?_⟩ m hm
    · have := hP (fun a d => ∃ p : Int × Int, d = [p.1, p.2] ∧ PrAt H a p) (paired_map (Paired.mapP pr fun a p z => ⟨p, rfl, z⟩))
      refine paired_map (Paired.mapP this fun a d z => ?_)
      obtain ⟨p, rfl, z⟩ := z
      exact z
    · have nd : ((ds'.map un).map Prod.fst).Nodup := (pm.map Prod.fst).nodup_iff.mpr ok.n1
      unfold List.Nodup at nd
      rw [List.pairwise_map, List.pairwise_map] at nd
      rw [List.pairwise_map]
      refine (hs.and nd).imp_of_mem fun {a b} ha hb z => ?_
      obtain ⟨p, hp, rfl⟩ := all2 a ha
      obtain ⟨p', hp', rfl⟩ := all2 b hb
      obtain ⟨z1, z2⟩ := z
      have z2 : p.1 ≠ p'.1 := z2
      show p.1 < p'.1
      have b1 := ok.bd p hp
      have b2 := ok.bd p' hp'
      have z1 : p.1 * 1000 ^ 1 + (p.2 * 1000 ^ 0 + 0) ≤ p'.1 * 1000 ^ 1 + (p'.2 * 1000 ^ 0 + 0) := z1
      omega
theorem same_none {H H' : Hp} {l : Addr} (s : Same H H') (h : H' l = none) : H l = none := by
  cases e : H l with
  | none => rfl
  | some u => rw [s _ _ e] at h; cases h
def Bins (G : Hp) (fs : List Addr) (f : Nat → Prs) : Prop := ∀ (i : Nat) (fa : Addr), fs[i]? = some fa → BarsAt G fa (f i)
theorem Bins.same {G G' : Hp} {fs : List Addr} {f : Nat → Prs} (h : Bins G fs f) (s : Same G G') : Bins G' fs f := fun i fa e => (h i fa e).same s
theorem upd_tups {G : Hp} {fa : Addr} {xs : List V} {o : HO} (e : G fa = some (.lst xs)) (a : Addr) (zs : List V) (z : G a = some (.tup zs)) : upd G fa o a = some (.tup zs) := by
  rw [upd_ne (fun y => by rw [y, e] at z; cases z)]
  exact z
theorem Bins.off {G : Hp} {fs : List Addr} {f : Nat → Prs} {fa : Addr} {xs : List V} {o : HO} (h : Bins G fs f) (hn : fa ∉ fs) (e : G fa = some (.lst xs)) : Bins (upd G fa o) fs f := fun i x hx => by
  obtain ⟨as, e', p⟩ := h i x hx
  have ne : x ≠ fa := fun z => hn (by rw [← z]; exact List.mem_of_getElem? hx)
  exact ⟨as, by rw [upd_ne ne]; exact e', p.mono (upd_tups e)⟩
theorem Bins.add {G : Hp} {fs : List Addr} {f : Nat → Prs} {fa t : Addr} {as : List Addr} {i : Nat} {p : Int × Int} (h : Bins G fs f) (nd : fs.Nodup) (hi : fs[i]? = some fa) (e : G fa = some (.lst (as.map V.ref))) (pr : PrsAt G as (f i)) (ht : PrAt G t p) :
    Bins (upd G fa (.lst (as.map V.ref ++ [.ref t]))) fs (fun j => if j = i then f j ++ [p] else f j) := fun j x hx => by
  by_cases c : j = i
  · subst c
    rw [hi] at hx
    cases hx
    dsimp only
    rw [if_pos rfl]
    exact ⟨as ++ [t], by rw [upd_same, List.map_append]; rfl, (pr.mono (upd_tups e)).snoc (upd_tups e _ _ ht)⟩
  · dsimp only
    rw [if_neg c]
    obtain ⟨as', e', p'⟩ := h j x hx
    refine ⟨as', ?_, p'.mono (upd_tups e)⟩
    rw [upd_ne ?_]
    · exact e'
    · intro z
      subst z
      obtain ⟨h1, h2⟩ := List.getElem?_eq_some_iff.mp hx
      obtain ⟨h3, h4⟩ := List.getElem?_eq_some_iff.mp hi
      have e1 := nd.idxOf_getElem j h1
      have e2 := nd.idxOf_getElem i h3
      rw [h2] at e1
      rw [h4] at e2
      omega
theorem comp_news {n : Nat} {v : Option V} {H : Hp} {Q : VK} (hn : n ≤ sizeLine)
    (q : ∀ (fs : List Addr) (p : Addr) (G : Hp), fs.length = n → fs.Nodup → (∀ a ∈ fs, H a = none ∧ G a = some (.lst [])) → Same H G → H p = none → p ∉ fs → G p = some (.lst (fs.map V.ref)) → Q (.ref p) G) : CompGo (Itr 0 n) (gName 0) tYes (tLst tNil) Q [v] H := by
  refine comp_range (fun i acc σ G => Same H G ∧ (∃ fs : List Addr, acc = fs.map V.ref ∧ fs.length = i ∧ fs.Nodup ∧ ∀ a ∈ fs, H a = none ∧ G a = some (.lst [])) ∧ ∃ v, σ = [v]) ⟨Same.refl _, ⟨[], rfl, rfl, List.nodup_nil, fun a h => by cases h⟩, _, rfl⟩ hn ?_ ?_ ?_
  · rintro i acc σ G ⟨_, ⟨fs, rfl, hl, _⟩, _⟩
    rw [List.length_map]
    exact Nat.le_of_eq hl
  · rintro i acc σ G hi ⟨s, ⟨fs, rfl, hl, nd, hf⟩, v, rfl⟩
    refine ⟨(by show 0 ≤ sizeLine; decide), fun p hp => ?_⟩
    have s1 := same_new hp (.lst [])
    refine ⟨s.trans s1, ⟨fs ++ [p], by rw [List.map_append]; rfl, by rw [List.length_append, hl]; rfl, ?_, fun a ha => ?_⟩, _, rfl⟩
    · rw [List.nodup_append]
      exact ⟨nd, by simp, fun a ha b hb => by rw [List.mem_singleton] at hb; rw [hb]; exact fun z => by rw [z] at ha; rw [(hf p ha).2] at hp; cases hp⟩
    · rcases List.mem_append.mp ha with z | z
      · exact ⟨(hf a z).1, s1 _ _ (hf a z).2⟩
      · rw [List.mem_singleton] at z
        rw [z]
        exact ⟨same_none s hp, upd_same⟩
  · rintro acc σ G ⟨s, ⟨fs, rfl, hl, nd, hf⟩, v, rfl⟩ p hp
    have s1 := same_new hp (.lst (fs.map V.ref))
    exact q fs p _ hl nd (fun a ha => ⟨(hf a ha).1, s1 _ _ (hf a ha).2⟩) (s.trans s1) (same_none s hp) (fun z => by rw [(hf p z).2] at hp; cases hp) upd_same
theorem nd_le : ∀ {l xs : List Int}, l.Nodup → (∀ c ∈ l, c ∈ xs) → l.length ≤ xs.length
  | [], _, _, _ => Nat.zero_le _
  | a :: t, xs, nd, sub => by
    rw [List.nodup_cons] at nd
    have h1 : ∀ c ∈ t, c ∈ xs.erase a := fun c hc => (List.mem_erase_of_ne fun z => nd.1 (by rw [← z]; exact hc)).mpr (sub c (List.mem_cons_of_mem _ hc))
    have h2 := nd_le nd.2 h1
    have ha := sub a List.mem_cons_self
    rw [List.length_erase_of_mem ha] at h2
    have h3 := List.length_pos_of_mem ha
    rw [List.length_cons]
    omega
theorem few_turns {S : Int} (s2 : 2 ≤ S) (g : Int × Int → Int) (ps : Prs) (nd : (ps.map g).Nodup) (r : Int) : (((ps.map fun p => g p / S).count r : Nat) : Int) ≤ S := by
  have h1 : (ps.map fun p => g p / S).count r = ((ps.filter fun p => decide (g p / S = r)).map fun p => g p % S).length := by
    rw [List.length_map, List.count_eq_countP, List.countP_map, List.countP_eq_length_filter]
    congr 1
  have h2 : ((ps.filter fun p => decide (g p / S = r)).map fun p => g p % S).Nodup := by
    unfold List.Nodup at nd ⊢
    rw [List.pairwise_map] at nd
    rw [List.pairwise_map, List.pairwise_filter]
    exact nd.imp fun {t u} z h1 h2 e => z (same_of ((of_decide_eq_true h1).trans (of_decide_eq_true h2).symm) e)
  have h3 := nd_le (xs := (List.range S.toNat).map fun (i : Nat) => (i : Int)) h2 fun c hc => by
    obtain ⟨p, _, rfl⟩ := List.mem_map.mp hc
    have := modS_in s2 (g p)
    exact List.mem_map.mpr ⟨(g p % S).toNat, by rw [List.mem_range]; omega, by omega⟩
  rw [List.length_map (as := List.range S.toNat), List.length_range] at h3
  rw [h1]
  omega
theorem num_t {S : Int} {ps : Prs} {ns : List Int} (hl : ns.length = ps.length) (hN : Num (RI 0 (ps.map fun p => (p.1 / S, p.2 / S))) (RI 1 (ps.map fun p => (p.1 / S, p.2 / S))) (ps.map fun p => (p.1 / S, p.2 / S)).length (nuL ns)) (hb : ∀ i, i < (ps.map fun p => (p.1 / S, p.2 / S)).length → 0 ≤ nuL ns i ∧ nuL ns i < S) : NumT S (ps.zip ns) := by
  rw [List.length_map] at hN hb
  have at_ : ∀ i (h : i < (ps.zip ns).length), (ps.zip ns)[i].2 = nuL ns i ∧ RI 0 (ps.map fun p => (p.1 / S, p.2 / S)) i = (ps.zip ns)[i].1.1 / S ∧ RI 1 (ps.map fun p => (p.1 / S, p.2 / S)) i = (ps.zip ns)[i].1.2 / S := fun i h => by
    rw [List.length_zip] at h
    have h1 : i < ps.length := by omega
    have h2 : i < ns.length := by omega
    have e : (ps.map fun p => (p.1 / S, p.2 / S))[i]? = some (ps[i].1 / S, ps[i].2 / S) := by rw [List.getElem?_map, List.getElem?_eq_getElem h1]; rfl
    refine ⟨?_, ?_, ?_⟩
    · rw [List.getElem_zip]
      simp [nuL, h2]
    · rw [RI_at e, List.getElem_zip]
      rfl
    · rw [RI_at e, List.getElem_zip]
      rfl
  refine ⟨fun t ht => ?_, List.pairwise_iff_getElem.mpr fun i j hi hj hij e => ?_⟩
  · obtain ⟨i, hi, rfl⟩ := List.mem_iff_getElem.mp ht
    rw [(at_ i hi).1]
    rw [List.length_zip] at hi
    exact hb i (by omega)
  · obtain ⟨a1, a2, a3⟩ := at_ i hi
    obtain ⟨b1, b2, b3⟩ := at_ j hj
    rw [List.length_zip] at hi hj
    rw [a1, b1] at e
    refine ⟨fun z => ?_, fun z => ?_⟩
    · have := hN.p0 i j (by omega) (by omega) e (by rw [a2, b2]; exact z)
      omega
    · have := hN.p1 i j (by omega) (by omega) e (by rw [a3, b3]; exact z)
      omega
structure Lay (H : Hp) (fl ll wl nl : Addr) (fs ls ws : List Addr) : Prop where
  n1 : fs.Nodup
  n2 : ls.Nodup
  n3 : ws.Nodup
  a12 : ∀ a, a ∈ fs → a ∉ ls
  a13 : ∀ a, a ∈ fs → a ∉ ws
  a23 : ∀ a, a ∈ ls → a ∉ ws
  fr : ∀ a, a ∈ fs ∨ a ∈ ls ∨ a ∈ ws → H a = none ∧ a ≠ fl ∧ a ≠ ll ∧ a ≠ wl ∧ a ≠ nl
structure Pot (H G : Hp) (fl ll wl nl : Addr) (fs ls ws : List Addr) (ns : List Int) (f g h : Nat → Prs) : Prop where
  same : Same H G
  efl : G fl = some (.lst (fs.map V.ref))
  ell : G ll = some (.lst (ls.map V.ref))
  ewl : G wl = some (.lst (ws.map V.ref))
  enl : G nl = some (.lst (ns.map V.int))
  b1 : Bins G fs f
  b2 : Bins G ls g
  b3 : Bins G ws h
section
variable {H G G' : Hp} {fl ll wl nl : Addr} {fs ls ws : List Addr} {ns : List Int} {f g h : Nat → Prs}
theorem Pot.sm (P : Pot H G fl ll wl nl fs ls ws ns f g h) (s : Same G G') : Pot H G' fl ll wl nl fs ls ws ns f g h := ⟨P.same.trans s, s _ _ P.efl, s _ _ P.ell, s _ _ P.ewl, s _ _ P.enl, P.b1.same s, P.b2.same s, P.b3.same s⟩
theorem Pot.up {fa : Addr} {o : HO} (P : Pot H G fl ll wl nl fs ls ws ns f g h) (hf : H fa = none ∧ fa ≠ fl ∧ fa ≠ ll ∧ fa ≠ wl ∧ fa ≠ nl) {f' g' h' : Nat → Prs} (b1 : Bins (upd G fa o) fs f') (b2 : Bins (upd G fa o) ls g') (b3 : Bins (upd G fa o) ws h') : Pot H (upd G fa o) fl ll wl nl fs ls ws ns f' g' h' :=
  ⟨(fun b u z => by rw [upd_ne (ne_of_none z hf.1)]; exact P.same b u z), by rw [upd_ne hf.2.1.symm]; exact P.efl, by rw [upd_ne hf.2.2.1.symm]; exact P.ell, by rw [upd_ne hf.2.2.2.1.symm]; exact P.ewl, by rw [upd_ne hf.2.2.2.2.symm]; exact P.enl, b1, b2, b3⟩
theorem Pot.add1 (P : Pot H G fl ll wl nl fs ls ws ns f g h) (Ly : Lay H fl ll wl nl fs ls ws) {i : Nat} {fa : Addr} (hi : fs[i]? = some fa) : ∃ as : List Addr, G fa = some (.lst (as.map V.ref)) ∧ as.length = (f i).length ∧ ∀ (t : Addr) (p : Int × Int), PrAt G t p → Pot H (upd G fa (.lst (as.map V.ref ++ [.ref t]))) fl ll wl nl fs ls ws ns (fun j => if j = i then f j ++ [p] else f j) g h := by
  obtain ⟨as, e, pr⟩ := P.b1 i fa hi
  have hm := List.mem_of_getElem? hi
  exact ⟨as, e, Paired.length pr, fun t p ht => P.up (Ly.fr fa (.inl hm)) (P.b1.add Ly.n1 hi e pr ht) (P.b2.off (Ly.a12 fa hm) e) (P.b3.off (Ly.a13 fa hm) e)⟩
theorem Pot.add2 (P : Pot H G fl ll wl nl fs ls ws ns f g h) (Ly : Lay H fl ll wl nl fs ls ws) {i : Nat} {fa : Addr} (hi : ls[i]? = some fa) : ∃ as : List Addr, G fa = some (.lst (as.map V.ref)) ∧ as.length = (g i).length ∧ ∀ (t : Addr) (p : Int × Int), PrAt G t p → Pot H (upd G fa (.lst (as.map V.ref ++ [.ref t]))) fl ll wl nl fs ls ws ns f (fun j => if j = i then g j ++ [p] else g j) h := by
  obtain ⟨as, e, pr⟩ := P.b2 i fa hi
  have hm := List.mem_of_getElem? hi
  exact ⟨as, e, Paired.length pr, fun t p ht => P.up (Ly.fr fa (.inr (.inl hm))) (P.b1.off (fun z => Ly.a12 fa z hm) e) (P.b2.add Ly.n2 hi e pr ht) (P.b3.off (Ly.a23 fa hm) e)⟩
theorem Pot.add3 (P : Pot H G fl ll wl nl fs ls ws ns f g h) (Ly : Lay H fl ll wl nl fs ls ws) {i : Nat} {fa : Addr} (hi : ws[i]? = some fa) : ∃ as : List Addr, G fa = some (.lst (as.map V.ref)) ∧ as.length = (h i).length ∧ ∀ (t : Addr) (p : Int × Int), PrAt G t p → Pot H (upd G fa (.lst (as.map V.ref ++ [.ref t]))) fl ll wl nl fs ls ws ns f g (fun j => if j = i then h j ++ [p] else h j) := by
  obtain ⟨as, e, pr⟩ := P.b3 i fa hi
  have hm := List.mem_of_getElem? hi
  exact ⟨as, e, Paired.length pr, fun t p ht => P.up (Ly.fr fa (.inr (.inr hm))) (P.b1.off (fun z => Ly.a13 fa z hm) e) (P.b2.off (fun z => Ly.a23 fa z hm) e) (P.b3.add Ly.n3 hi e pr ht)⟩
end
theorem fm_at {α : Type} {ts : List α} {t : α} {v : α → Int} {f : α → Int × Int} {i : Nat} (hv : v t = (i : Int)) : (fun j : Nat => if j = i then ((ts.filter fun t => decide (v t = (j : Int))).map f) ++ [f t] else (ts.filter fun t => decide (v t = (j : Int))).map f) = fun j : Nat => ((ts ++ [t]).filter fun t => decide (v t = (j : Int))).map f := by
  funext j
  rw [fm_snoc]
  by_cases c : j = i
  · subst c
    rw [if_pos rfl, if_pos (decide_eq_true hv)]
  · rw [if_neg c, if_neg (fun z => c ?_), List.append_nil]
    have := of_decide_eq_true z
    omega
theorem fm_len {α : Type} (ts : List α) (p : α → Bool) (f : α → Int × Int) : ((ts.filter p).map f).length ≤ ts.length := by
  rw [List.length_map]
  exact List.length_filter_le _ _
theorem pair_snoc {α β : Type} {R : α → β → Prop} {as : List α} {bs : List β} {a : α} {b : β} (h : Paired R as bs) (r : R a b) : Paired R (as ++ [a]) (bs ++ [b]) := by
  induction h with
  | nil => exact .cons r .nil
  | cons h t ih => exact .cons h ih
def LstL (H : Hp) (x : Addr) : Prop := ∃ as : List Addr, H x = some (.lst (as.map V.ref)) ∧ as.length ≤ 64
def RackL (H : Hp) (a : Addr) (ads : List Addr) : Prop := ∃ (L : Int) (l : Addr), H a = some (.tup [.str "rack", .int L, .ref l]) ∧ LstL H l ∧ ads = [l]
def LstsAt (H : Hp) : Nat → Addr → List Addr → Prop
  | 0, a, ads => RackL H a ads
  | d + 1, a, ads => RackL H a ads ∨ ∃ (L S : Int) (fl al ll : Addr) (fs ms ls : List Addr) (adss : List (List Addr)), H a = some (.tup [.str "hall", .int L, .int S, .ref fl, .ref al, .ref ll]) ∧
      H fl = some (.lst (fs.map V.ref)) ∧ H al = some (.lst (ms.map V.ref)) ∧ H ll = some (.lst (ls.map V.ref)) ∧ (∀ x ∈ fs, LstL H x) ∧ (∀ x ∈ ls, LstL H x) ∧ (0 < fs.length ∧ fs.length ≤ 64) ∧ (0 < ls.length ∧ ls.length ≤ 64) ∧ ((ms.length : Nat) : Int) = S ∧ (2 ≤ S ∧ S ≤ 8) ∧
      Paired (LstsAt H d) ms adss ∧ ads = (al :: adss.flatten) ++ ((fl :: fs) ++ (ll :: ls))
theorem LstL.same {H H' : Hp} {x : Addr} (s : Same H H') (h : LstL H x) : LstL H' x := let ⟨as, e, n⟩ := h; ⟨as, s _ _ e, n⟩
theorem RackL.same {H H' : Hp} {a : Addr} {ads : List Addr} (s : Same H H') (h : RackL H a ads) : RackL H' a ads := let ⟨L, l, e, e2, z⟩ := h; ⟨L, l, s _ _ e, e2.same s, z⟩
theorem LstsAt.same {H H' : Hp} (s : Same H H') : ∀ {d : Nat} {a : Addr} {ads : List Addr}, LstsAt H d a ads → LstsAt H' d a ads := by
  intro d
  induction d with
  | zero => exact fun h => RackL.same s h
  | succ d ih =>
    intro a ads h
    rcases h with h | ⟨L, S, fl, al, ll, fs, ms, ls, adss, e, e1, e2, e3, f1, f2, n1, n2, n3, n4, pd, z⟩
    · exact .inl (h.same s)
    · exact .inr ⟨L, S, fl, al, ll, fs, ms, ls, adss, s _ _ e, s _ _ e1, s _ _ e2, s _ _ e3, fun x hx => (f1 x hx).same s, fun x hx => (f2 x hx).same s, n1, n2, n3, n4, Paired.mapP pd fun _ _ z => ih z, z⟩
theorem LstsAt.rack {H : Hp} {d : Nat} {a : Addr} {ads : List Addr} (h : RackL H a ads) : LstsAt H d a ads := by
  cases d with
  | zero => exact h
  | succ d => exact .inl h
def News (H H' : Hp) (ads : List Addr) : Prop := ads.Nodup ∧ ∀ z ∈ ads, H z = none ∧ ∃ u, H' z = some u
theorem News.nil {H H' : Hp} : News H H' [] := ⟨List.nodup_nil, fun z hz => nomatch hz⟩
theorem News.app {H G G' : Hp} {as bs : List Addr} (s : Same H G) (s' : Same G G') (h : News H G as) (h' : News G G' bs) : News H G' (as ++ bs) := by
  refine ⟨List.nodup_append.mpr ⟨h.1, h'.1, fun x hx y hy e => ?_⟩, fun z hz => ?_⟩
  · obtain ⟨u, hu⟩ := (h.2 x hx).2
    have := (h'.2 y hy).1
    rw [← e, hu] at this
    cases this
  · rcases List.mem_append.mp hz with c | c
    · exact ⟨(h.2 z c).1, (h.2 z c).2.imp fun u hu => s' _ _ hu⟩
    · exact ⟨same_none s (h'.2 z c).1, (h'.2 z c).2⟩
theorem News.one {H : Hp} {a : Addr} {o : HO} (h : H a = none) : News H (upd H a o) [a] := ⟨by simp, fun z hz => by rw [List.mem_singleton] at hz; subst hz; exact ⟨h, _, upd_same⟩⟩
theorem News.wide {H0 H G : Hp} {as : List Addr} (s : Same H0 H) (h : News H G as) : News H0 G as := ⟨h.1, fun z hz => ⟨same_none s (h.2 z hz).1, (h.2 z hz).2⟩⟩
theorem News.on {H G G' : Hp} {as : List Addr} (s : Same G G') (h : News H G as) : News H G' as := ⟨h.1, fun z hz => ⟨(h.2 z hz).1, (h.2 z hz).2.imp fun u hu => s _ _ hu⟩⟩
theorem News.perm {H G : Hp} {as bs : List Addr} (p : bs.Perm as) (h : News H G as) : News H G bs := ⟨p.nodup_iff.mpr h.1, fun z hz => h.2 z (p.mem_iff.mp hz)⟩
def LO (H H' : Hp) (d : Nat) (a : Addr) : Prop := ∃ ads, LstsAt H' d a ads ∧ News H H' ads
theorem comp_own {K : PySem.W.Frag} {a : Addr} {as : List Addr} {te : TE} {v : Option V} {σ : L2.St} {H : Hp} {Q : VK} (R : Hp → Nat → Addr → Prop) (T : Hp → Addr → List Addr → Prop) (mono : ∀ G G' k x, Same G G' → R G k x → R G' k x) (monoT : ∀ G G' x ads, Same G G' → T G x ads → T G' x ads) (hl : H a = some (.lst (as.map V.ref))) (hz : as.length ≤ sizeLine)
    (step : ∀ (i : Nat) (x : Addr) (G : Hp), as[i]? = some x → Same H G → ∀ Q' : VK, (∀ y G' ads, Same G G' → R G' i y → T G' y ads → News G G' ads → Q' (.ref y) G') → te (some (.ref x) :: σ) G Q')
    (q : ∀ (ms : List Addr) (adss : List (List Addr)) (p : Addr) (G : Hp), ms.length = as.length → (∀ k x, ms[k]? = some x → R G k x) → Paired (T G) ms adss → News H G (adss.flatten ++ [p]) → Same H G → G p = some (.lst (ms.map V.ref)) → Q (.ref p) G) : CompGo (Itl K a) (gName 0) tYes te Q (v :: σ) H := by
  refine comp_list (xs := as.map V.ref) (fun i acc σ' G => Same H G ∧ (∃ (ms : List Addr) (adss : List (List Addr)), acc = ms.map V.ref ∧ ms.length = i ∧ (∀ k x, ms[k]? = some x → R G k x) ∧ Paired (T G) ms adss ∧ News H G adss.flatten) ∧ ∃ v, σ' = v :: σ) ⟨Same.refl _, ⟨[], [], rfl, rfl, (fun k x h => by cases h), .nil, News.nil⟩, _, rfl⟩ ?_ ?_ ?_ ?_ ?_
  · rw [List.length_map]; exact hz
  · rintro i acc σ' G ⟨_, ⟨ms, adss, rfl, hl, _⟩, _⟩
    rw [List.length_map]
    exact Nat.le_of_eq hl
  · rintro i acc σ' G _ ⟨s, _⟩
    exact SqL.of (s _ _ hl)
  · rintro i x acc σ' G hx ⟨s, ⟨ms, adss, rfl, hl, hR, hT, hn⟩, v, rfl⟩
    rw [List.getElem?_map] at hx
    obtain ⟨x, hx', rfl⟩ := Option.map_eq_some_iff.mp hx
    refine step i x G hx' s _ fun y G' ads s' hy ty ny => ?_
    refine ⟨s.trans s', ⟨ms ++ [y], adss ++ [ads], by rw [List.map_append]; rfl, by rw [List.length_append, hl]; rfl, fun k z hk => ?_, pair_snoc (Paired.mapP hT fun _ _ w => monoT _ _ _ _ s' w) ty, ?_⟩, _, rfl⟩
    · by_cases c : k < ms.length
      · rw [List.getElem?_append_left c] at hk
        exact mono _ _ _ _ s' (hR k z hk)
      · rw [List.getElem?_append_right (by omega)] at hk
        have : k - ms.length = 0 := by
          have := (List.getElem?_eq_some_iff.mp hk).1
          rw [List.length_singleton] at this
          omega
        rw [this] at hk
        cases hk
        rw [show k = i by omega]
        exact hy
    · rw [List.flatten_append, List.flatten_singleton]
      exact hn.app s s' ny
  rintro acc σ' G ⟨s, ⟨ms, adss, rfl, hl, hR, hT, hn⟩, v, rfl⟩ p hp
  have s2 := same_new hp (.lst (ms.map V.ref))
  exact q ms adss p _ (by rw [hl, List.length_map]) (fun k x hk => mono _ _ _ _ s2 (hR k x hk)) (Paired.mapP hT fun _ _ w => monoT _ _ _ _ s2 w) (hn.app s s2 (News.one hp)) (s.trans s2) upd_same
def spPlain : Sp := fun vs H Q _ => ∃ L S D : Int, vs = [.int L, .int S, .int D] ∧ ∀ b : Bool, (b = true ↔ D = 0 ∨ L ≤ S) → Q (.bl b) H
def spRacksFor : Sp := fun vs H Q _ => ∃ L S : Int, vs = [.int L, .int S] ∧ 2 ≤ S ∧ S ≤ 8 ∧ Q (.int ((L + S - 1) / S)) H
def spRN (n : Nat) : Sp := fun vs H Q _ => ∃ (L S : Int) (d : Nat) (l : Addr) (ps : Prs), vs = [.int L, .int S, .ref l, .int (d : Nat)] ∧ d ≤ n ∧ (0 ≤ L ∧ L ≤ 64) ∧ (2 ≤ S ∧ S ≤ 8) ∧ BarsAt H l ps ∧ ps.length ≤ 64 ∧ TurnsOk L ps ∧ ∀ (a : Addr) (H' : Hp), Same H H' → NestAt H' S d L ps a → LO H H' d a → Q (.ref a) H'
def spHN (n : Nat) : Sp := fun vs H Q _ => ∃ (L S : Int) (d : Nat) (l : Addr) (ps : Prs), vs = [.int L, .int S, .ref l, .int (d + 1 : Nat)] ∧ d ≤ n ∧ (0 ≤ L ∧ L ≤ 64) ∧ (2 ≤ S ∧ S ≤ 8) ∧ ¬ L ≤ S ∧ BarsAt H l ps ∧ ps.length ≤ 64 ∧ TurnsOk L ps ∧ ∀ (a : Addr) (H' : Hp), Same H H' → NestAt H' S (d + 1) L ps a → LO H H' (d + 1) a → Q (.ref a) H'
theorem own_flat {G : Hp} {ms : List Addr} {adss : List (List Addr)} (h : Paired (fun x ads => ads = [x] ∧ LstL G x) ms adss) : adss.flatten = ms := by
  induction h with
  | nil => rfl
  | cons r t ih => rw [List.flatten_cons, r.1, ih]; rfl
theorem own_all {G : Hp} {ms : List Addr} {adss : List (List Addr)} (h : Paired (fun x ads => ads = [x] ∧ LstL G x) ms adss) : ∀ x ∈ ms, LstL G x := by
  induction h with
  | nil => exact fun x hx => nomatch hx
  | cons r t ih =>
    intro x hx
    rcases List.mem_cons.mp hx with z | z
    · rw [z]; exact r.2
    · exact ih x z
theorem rk_in {L S : Int} (s2 : 2 ≤ S) (l0 : 0 ≤ L) (l64 : L ≤ 64) : 0 ≤ (L + S - 1) / S ∧ (L + S - 1) / S ≤ 64 := by
  refine ⟨Int.ediv_nonneg (by omega) (by omega), ?_⟩
  have : (L + S - 1) / S < 65 := Int.ediv_lt_of_lt_mul (by omega) (by omega)
  omega
section
variable {P : Program} {w : World} {K : PySem.W.Frag} {mg : Str → Option Value} {base : Heap}
theorem sc_is_plain : FnScope ["lines", "small", "depth"] ["lines", "small", "depth"] (defScope (top 21)) := ⟨rfl, rfl, rfl, by decide +kernel, rfl, by decide +kernel, by decide +kernel⟩
theorem ok_plain (T : Txt K mg) (D : Def K mg "is_plain" (top 21) ["lines", "small", "depth"]) : Callee P w K mg base 1 "is_plain" ["lines", "small", "depth"] spPlain := by
  refine D.ok sc_is_plain (fun vs H Q E h => ?_) (fun f cdv A outer s H vs Q E hr h => ?_)
  · obtain ⟨L, S, D, rfl, _⟩ := h
    rfl
  obtain ⟨L, S, D, rfl, q⟩ := h
  refine ⟨_, (pss_one (ps_ret (pe_or (pe_cmpR op_eq (pv 2) pe_int (nomark _)) (pe_one (pe_cmpR op_le (pv 0) (pv 1) (nomark _)))))), ?_⟩
  refine ⟨_, rfl, rfl, _, rfl, ?_⟩
  refine ite2 (fun c => ?_) (fun c => ?_)
  · have c' : D = 0 := V.int.inj (of_decide_eq_true c)
    exact q true ⟨fun _ => .inl c', fun _ => rfl⟩
  · have c' : D ≠ 0 := fun z => c (decide_eq_true (by rw [z]))
    refine ⟨_, rfl, _, rfl, _, _, rfl, rfl, q _ ⟨fun z => .inr (of_decide_eq_true z), fun z => decide_eq_true (z.resolve_left c')⟩⟩
theorem sc_racks_for : FnScope ["lines", "small"] ["lines", "small"] (defScope (top 22)) := ⟨rfl, rfl, rfl, by decide +kernel, rfl, by decide +kernel, by decide +kernel⟩
theorem ok_rfor (T : Txt K mg) (D : Def K mg "racks_for" (top 22) ["lines", "small"]) : Callee P w K mg base 1 "racks_for" ["lines", "small"] spRacksFor := by
  refine D.ok sc_racks_for (fun vs H Q E h => ?_) (fun f cdv A outer s H vs Q E hr h => ?_)
  · obtain ⟨L, S, rfl, _⟩ := h
    rfl
  obtain ⟨L, S, rfl, s2, s8, q⟩ := h
  refine ⟨_, (pss_one (ps_ret (pe_op op_fdiv (pe_op op_sub (pe_op op_add (pv 0) (pv 1)) pe_int) (pv 1)))), ?_⟩
  exact ⟨_, rfl, _, rfl, _, _, rfl, rfl, _, _, rfl, rfl, _, rfl, _, _, rfl, rfl, ⟨by omega, by omega⟩, q⟩
theorem callee_never {x : Str} {st : Stmt} {ps : List Str} (D : Def K mg x st ps) (k : Nat) : L2.Callee P w K mg base k x ps (fun _ _ _ _ => False) := by
  obtain ⟨f, fd, F, b, m⟩ := D.ex
  exact ⟨f, fd, ⟨fun _ _ _ _ h => h.elim, fun _ _ _ _ _ _ _ _ _ _ _ _ _ h => h.elim⟩, b, F.kp, m⟩
theorem sc_right_nest : FnScope ["lines", "small", "turns", "depth"] ["lines", "small", "turns", "depth"] (defScope (top 24)) := ⟨rfl, rfl, rfl, by decide +kernel, rfl, by decide +kernel, by decide +kernel⟩
theorem rn_body (T : Txt K mg) (n k : Nat) (hk : 1 ≤ k) (sp : Sp) (C_is_plain : Callee P w K mg base 1 "is_plain" ["lines", "small", "depth"] spPlain) (C_hall_nest : Callee P w K mg base k "hall_nest" ["lines", "small", "turns", "depth"] sp) (D : Def K mg "right_nest" (top 24) ["lines", "small", "turns", "depth"]) (hsp : ∀ m, n = m + 1 → sp = spHN m) : Callee P w K mg base (k+1) "right_nest" ["lines", "small", "turns", "depth"] (spRN n) := by
  refine D.ok sc_right_nest (fun vs H Q E h => ?_) (fun f cdv A outer s H vs Q E hr h => ?_)
  · obtain ⟨L, S, d, l, ps, rfl, _⟩ := h
    rfl
  obtain ⟨L, S, d, l, ps, rfl, hd, hL, hS, hb, few, ok, q⟩ := h
  refine ⟨_, (pss_cons (ps_if (pt_truK K (pe_fn C_is_plain hr rfl (pa_cons (pv 0) (pa_cons (pv 1) (pa_cons (pv 3) pa_nil st_name) st_name) st_name) (by omega)) (fun _ => rfl)) (pss_one (ps_ret (pe_tup (pa_cons pe_str (pa_cons (pv 0) (pa_cons (pe_callB (call_sortedD6 K) rfl T.m_sorted boot_sorted (pa_cons (pv 2) pa_nil st_name)) pa_nil st_call) st_name) st_const)))) pss_nil)
    (pss_one (ps_ret (pe_fn C_hall_nest hr rfl (pa_cons (pv 0) (pa_cons (pv 1) (pa_cons (pv 2) (pa_cons (pv 3) pa_nil st_name) st_name) st_name) st_name) (by omega))))), ?_⟩
  refine ⟨_, rfl, _, rfl, _, rfl, L, S, _, rfl, fun b hb' => ⟨_, rfl, ?_⟩⟩
  by_cases c : d = 0 ∨ L ≤ S
  · obtain rfl : b = true := hb'.mpr (by omega)
    refine iteT ⟨_, rfl, _, rfl, ?_⟩
    dsimp only [tNil]
    refine sort_prs (K := K) hb (by omega) ok (by omega) fun as' bs pr so m hm => ?_
    have s1 := same_new hm (.lst (as'.map V.ref))
    refine ⟨(by show 3 ≤ sizeLine; decide), fun t ht => ?_⟩
    have s2 := same_new ht (.tup [.str "rack", .int L, .ref m])
    have R : RackAt (upd (upd H m (.lst (as'.map V.ref))) t (.tup [.str "rack", .int L, .ref m])) L ps t := ⟨m, bs, upd_same, ⟨as', s2 _ _ upd_same, (pr.same s1).same s2⟩, so⟩
    refine q t _ (s1.trans s2) ?_ ⟨[m], LstsAt.rack ⟨L, m, upd_same, ⟨as', s2 _ _ upd_same, by rw [Paired.length pr, so.1.length_eq]; exact few⟩, rfl⟩, (News.one hm).on s2⟩
    match d, c with
    | 0, _ => exact R
    | d + 1, c => exact .inl ⟨c.resolve_left (by omega), R⟩
  · obtain rfl : b = false := Bool.eq_false_iff.mpr fun z => c (by have := hb'.mp z; omega)
    match d, hd, c, q with
    | 0, _, c, _ => exact absurd (.inl rfl) c
    | d + 1, hd, c, q =>
      obtain ⟨m, rfl⟩ : ∃ m, n = m + 1 := ⟨n - 1, by omega⟩
      obtain rfl := hsp m rfl
      exact iteF ⟨_, rfl, _, rfl, _, rfl, _, rfl, L, S, d, l, ps, rfl, by omega, hL, hS, fun z => c (.inr z), hb, few, ok, q⟩
theorem sc_hall_nest : FnScope ["lines", "small", "turns", "depth", "many", "firsts", "lasts", "within", "numbers", "turn", "k", "start", "goal", "amids"] ["lines", "small", "turns", "depth"] (defScope (top 23)) := ⟨rfl, rfl, rfl, by decide +kernel, rfl, by decide +kernel, by decide +kernel⟩
theorem hn_body (T : Txt K mg) (n k : Nat) (hk : 3 ≤ k) (C_racks_for : Callee P w K mg base 1 "racks_for" ["lines", "small"] spRacksFor) (C_parted : Callee P w K mg base 3 "parted" ["pairs", "ways"] spParted) (C_right_nest : Callee P w K mg base k "right_nest" ["lines", "small", "turns", "depth"] (spRN n)) (D : Def K mg "hall_nest" (top 23) ["lines", "small", "turns", "depth"]) : Callee P w K mg base (k+1) "hall_nest" ["lines", "small", "turns", "depth"] (spHN n) := by
  refine D.ok sc_hall_nest (fun vs H Q E h => ?_) (fun f cdv A outer s H vs Q E hr h => ?_)
  · obtain ⟨L, S, d, l, ps, rfl, _⟩ := h
    rfl
  obtain ⟨L, S, d, l, ps, rfl, hd, hL, hS, hLS, hb, few, ok, q⟩ := h
  refine ⟨_, (pss_cons (ps_set (i := 4) sc_hall_nest.nd rfl (Or.inr rfl) (pe_fn C_racks_for hr rfl (pa_cons (pv 0) (pa_cons (pv 1) pa_nil st_name) st_name) (by omega)))
    (pss_cons (ps_comp (i := 5) (own := ["i"]) (fr := []) rfl sc_hall_nest.nd rfl rfl (show CompScope ["lines", "small", "turns", "depth", "many", "firsts", "lasts", "within", "numbers", "turn", "k", "start", "goal", "amids"] (defScope (top 23)) _ _ _ from ⟨rfl, by decide +kernel, by decide +kernel, by decide +kernel, by decide +kernel⟩) (pi_range1 rfl T.m_range (pa_cons (pv 4) pa_nil st_name)) (fun cl C s H ex => ⟨(pg_name (i := 0) (show (["i"] : List Str).Nodup from by decide +kernel) rfl (Or.inl rfl) (Or.inr rfl)), pif_nil, (pe_lst pa_nil)⟩) rfl)
    (pss_cons (ps_comp (i := 6) (own := ["j"]) (fr := []) rfl sc_hall_nest.nd rfl rfl (show CompScope ["lines", "small", "turns", "depth", "many", "firsts", "lasts", "within", "numbers", "turn", "k", "start", "goal", "amids"] (defScope (top 23)) _ _ _ from ⟨rfl, by decide +kernel, by decide +kernel, by decide +kernel, by decide +kernel⟩) (pi_range1 rfl T.m_range (pa_cons (pv 4) pa_nil st_name)) (fun cl C s H ex => ⟨(pg_name (i := 0) (show (["j"] : List Str).Nodup from by decide +kernel) rfl (Or.inl rfl) (Or.inr rfl)), pif_nil, (pe_lst pa_nil)⟩) rfl)
    (pss_cons (ps_comp (i := 7) (own := ["k"]) (fr := []) rfl sc_hall_nest.nd rfl rfl (show CompScope ["lines", "small", "turns", "depth", "many", "firsts", "lasts", "within", "numbers", "turn", "k", "start", "goal", "amids"] (defScope (top 23)) _ _ _ from ⟨rfl, by decide +kernel, by decide +kernel, by decide +kernel, by decide +kernel⟩) (pi_range1 rfl T.m_range (pa_cons (pv 1) pa_nil st_name)) (fun cl C s H ex => ⟨(pg_name (i := 0) (show (["k"] : List Str).Nodup from by decide +kernel) rfl (Or.inl rfl) (Or.inr rfl)), pif_nil, (pe_lst pa_nil)⟩) rfl)
    (pss_cons (ps_set (i := 8) sc_hall_nest.nd rfl (Or.inl rfl) (pe_fn C_parted hr rfl (pa_cons (pe_comp (own := ["one", "other"]) (fr := [(1, "small")]) rfl (show CompScope ["lines", "small", "turns", "depth", "many", "firsts", "lasts", "within", "numbers", "turn", "k", "start", "goal", "amids"] (defScope (top 23)) _ _ _ from ⟨rfl, by decide +kernel, by decide +kernel, by decide +kernel, by decide +kernel⟩) (pi_listK K (pv 2)) (fun cl C s H ex => ⟨(pg2K K rfl (show (["one", "other", "small"] : List Str).Nodup from by decide +kernel) (Nm.mk (i := 0) rfl (Or.inl rfl) (Or.inr rfl)) (Nm.mk (i := 1) rfl (Or.inl rfl) (Or.inr rfl))), pif_nil, (pe_tup (pa_cons (pe_op op_fdiv (pv 0) (pv 2)) (pa_cons (pe_op op_fdiv (pv 1) (pv 2)) pa_nil st_bin) st_bin))⟩)) (pa_cons (pv 1) pa_nil st_name) st_comp) (by omega)))
    (pss_cons (ps_for PassesOwn.never rfl (pi_zipK false K rfl T.m_zip (pa_cons (pv 2) (pa_cons (pv 8) pa_nil st_name) st_name)) (pg2K K rfl sc_hall_nest.nd (Nm.mk (i := 9) rfl (Or.inl rfl) (Or.inl rfl)) (Nm.mk (i := 10) rfl (Or.inl rfl) (Or.inl rfl)))
    (pss_cons (ps_set (i := 11) sc_hall_nest.nd rfl (Or.inl rfl) (pe_callB call_divmod rfl T.m_divmod boot_divmod (pa_cons (pe_ix (ix_tupK K) (pv 9) pe_int (fun _ _ => rfl)) (pa_cons (pv 1) pa_nil st_name) st_sub)))
    (pss_cons (ps_set (i := 12) sc_hall_nest.nd rfl (Or.inl rfl) (pe_callB call_divmod rfl T.m_divmod boot_divmod (pa_cons (pe_ix (ix_tupK K) (pv 9) pe_int (fun _ _ => rfl)) (pa_cons (pv 1) pa_nil st_name) st_sub)))
    (pss_cons (ps_expr (pe_bmK K PySem.F.plainAttrs_list PySem.F.slot_list_append PySem.F.type_list_append mt_appendR (pe_ix (ix_listK K) (pv 5) (pe_ix (ix_tupK K) (pv 11) pe_int (fun _ _ => rfl)) (fun _ _ => rfl)) (pa_cons (pe_tup (pa_cons (pe_ix (ix_tupK K) (pv 11) pe_int (fun _ _ => rfl)) (pa_cons (pv 10) pa_nil st_name) st_sub)) pa_nil st_tup)))
    (pss_cons (ps_expr (pe_bmK K PySem.F.plainAttrs_list PySem.F.slot_list_append PySem.F.type_list_append mt_appendR (pe_ix (ix_listK K) (pv 6) (pe_ix (ix_tupK K) (pv 12) pe_int (fun _ _ => rfl)) (fun _ _ => rfl)) (pa_cons (pe_tup (pa_cons (pv 10) (pa_cons (pe_ix (ix_tupK K) (pv 12) pe_int (fun _ _ => rfl)) pa_nil st_sub) st_name)) pa_nil st_tup)))
    (pss_one (ps_expr (pe_bmK K PySem.F.plainAttrs_list PySem.F.slot_list_append PySem.F.type_list_append mt_appendR (pe_ix (ix_listK K) (pv 7) (pv 10) (fun _ _ => rfl)) (pa_cons (pe_tup (pa_cons (pe_ix (ix_tupK K) (pv 11) pe_int (fun _ _ => rfl)) (pa_cons (pe_ix (ix_tupK K) (pv 12) pe_int (fun _ _ => rfl)) pa_nil st_sub) st_sub)) pa_nil st_tup)))))))))
    (pss_cons (ps_comp (i := 13) (own := ["some"]) (fr := [(4, "many"), (1, "small"), (3, "depth")]) rfl sc_hall_nest.nd rfl rfl (show CompScope ["lines", "small", "turns", "depth", "many", "firsts", "lasts", "within", "numbers", "turn", "k", "start", "goal", "amids"] (defScope (top 23)) _ _ _ from ⟨rfl, by decide +kernel, by decide +kernel, by decide +kernel, by decide +kernel⟩) (pi_listK K (pv 7)) (fun cl C s H ex => ⟨(pg_name (i := 0) (show (["some", "many", "small", "depth"] : List Str).Nodup from by decide +kernel) rfl (Or.inl rfl) (Or.inr rfl)), pif_nil, (pe_fn C_right_nest hr rfl (pa_cons (pv 1) (pa_cons (pv 2) (pa_cons (pv 0) (pa_cons (pe_op op_sub (pv 3) pe_int) pa_nil st_bin) st_name) st_name) st_name) (by omega))⟩) rfl)
    (pss_one (ps_ret (pe_tup (pa_cons pe_str (pa_cons (pv 0) (pa_cons (pv 1) (pa_cons (pe_comp (own := ["bars"]) (fr := []) rfl (show CompScope ["lines", "small", "turns", "depth", "many", "firsts", "lasts", "within", "numbers", "turn", "k", "start", "goal", "amids"] (defScope (top 23)) _ _ _ from ⟨rfl, by decide +kernel, by decide +kernel, by decide +kernel, by decide +kernel⟩) (pi_listK K (pv 5)) (fun cl C s H ex => ⟨(pg_name (i := 0) (show (["bars"] : List Str).Nodup from by decide +kernel) rfl (Or.inl rfl) (Or.inr rfl)), pif_nil, (pe_callB (call_sortedD6 K) rfl T.m_sorted boot_sorted (pa_cons (pv 0) pa_nil st_name))⟩)) (pa_cons (pv 13) (pa_cons (pe_comp (own := ["bars"]) (fr := []) rfl (show CompScope ["lines", "small", "turns", "depth", "many", "firsts", "lasts", "within", "numbers", "turn", "k", "start", "goal", "amids"] (defScope (top 23)) _ _ _ from ⟨rfl, by decide +kernel, by decide +kernel, by decide +kernel, by decide +kernel⟩) (pi_listK K (pv 6)) (fun cl C s H ex => ⟨(pg_name (i := 0) (show (["bars"] : List Str).Nodup from by decide +kernel) rfl (Or.inl rfl) (Or.inr rfl)), pif_nil, (pe_callB (call_sortedD6 K) rfl T.m_sorted boot_sorted (pa_cons (pv 0) pa_nil st_name))⟩)) pa_nil st_comp) st_name) st_comp) st_name) st_name) st_const))))))))))), ?_⟩
  obtain ⟨m0, m64⟩ := rk_in hS.1 hL.1 hL.2
  refine ⟨_, rfl, _, rfl, L, S, rfl, hS.1, hS.2, ?_⟩
  obtain ⟨m, hm⟩ := Int.eq_ofNat_of_zero_le m0
  rw [hm]
  dsimp only [gName, tNext]
  refine ⟨_, rfl, _, rfl, by omega, by omega, ?_⟩
  rw [Int.toNat_natCast]
  refine comp_news (Nat.le_trans (show m ≤ 64 by omega) (by decide)) fun fs fl G1 lf ndf hf s1 hfl nfl efl => ?_
  dsimp only [gName, tNext]
  refine ⟨_, rfl, _, rfl, by omega, by omega, ?_⟩
  rw [Int.toNat_natCast]
  refine comp_news (Nat.le_trans (show m ≤ 64 by omega) (by decide)) fun ls ll G2 lls ndl hlf s2 hll nll ell => ?_
  dsimp only [gName, tNext]
  obtain ⟨z, hz⟩ := Int.eq_ofNat_of_zero_le (show 0 ≤ S by omega)
  refine ⟨_, rfl, _, rfl, by omega, by omega, ?_⟩
  refine comp_news (Nat.le_trans (show S.toNat ≤ 64 by omega) (by decide)) fun ws wl G3 lw ndw hwf s3 hwl nwl ewl => ?_
  dsimp only [gName, tNext]
  obtain ⟨as, el, pr⟩ := hb
  have ln : as.length = ps.length := Paired.length pr
  have s13 := s1.trans (s2.trans s3)
  refine ⟨_, rfl, l, rfl, ⟨_, SqL.of (s13 _ _ el)⟩, ?_⟩
  refine comp_list (xs := as.map V.ref) (fun i acc σ G => Same G3 G ∧ (∃ qs : List Addr, acc = qs.map V.ref ∧ PrsAt G qs ((ps.take i).map fun p => (p.1 / S, p.2 / S))) ∧ ∃ v0 v1, σ = [v0, v1, some (.int S)]) ⟨Same.refl _, ⟨[], rfl, .nil⟩, _, _, rfl⟩ ?_ ?_ ?_ ?_ ?_
  · rw [List.length_map, ln]; exact Nat.le_trans few (by decide)
  · rintro i acc σ G ⟨_, ⟨qs, rfl, p⟩, _⟩
    have := Paired.length p
    rw [List.length_map, List.length_take] at this
    rw [List.length_map]
    omega
  · rintro i acc σ G _ ⟨s, _⟩
    exact SqL.of (s _ _ (s13 _ _ el))
  · rintro i x acc σ G hx ⟨s, ⟨qs, rfl, pq⟩, v0, v1, rfl⟩
    rw [List.getElem?_map] at hx
    obtain ⟨x, hx', rfl⟩ := Option.map_eq_some_iff.mp hx
    obtain ⟨p, hp, ex⟩ := paired_at pr i x hx'
    have ex3 : G x = some (.tup [.int p.1, .int p.2]) := s _ _ (s13 _ _ ex)
    refine ⟨x, _, rfl, SqT.of ex3, rfl, _, _, rfl, _, _, rfl, rfl, ?_⟩
    refine ⟨_, rfl, _, rfl, _, _, rfl, rfl, ⟨by omega, by omega⟩, _, rfl, _, rfl, _, _, rfl, rfl, ⟨by omega, by omega⟩, (by show 2 ≤ sizeLine; decide), fun t ht => ?_⟩
    have s4 := same_new ht (.tup [.int (p.1 / S), .int (p.2 / S)])
    refine ⟨s.trans s4, ⟨qs ++ [t], by rw [List.map_append]; rfl, ?_⟩, _, _, rfl⟩
    rw [List.take_succ, hp, Option.toList_some, List.map_append]
    exact (pq.same s4).snoc upd_same
  rintro acc σ G4 ⟨s4, ⟨qs, rfl, pq⟩, v0, v1, rfl⟩ ql hql
  rw [List.length_map, ln, List.take_length] at pq
  have s5 := same_new hql (.lst (qs.map V.ref))
  have eql := upd_same (H := G4) (a := ql) (o := .lst (qs.map V.ref))
  have pq5 := pq.same s5
  have s45 := s4.trans s5
  generalize upd G4 ql _ = G5 at s5 eql pq5 s45 ⊢
  clear s4 s5 pq hql
  refine ⟨_, rfl, ql, qs, _, S, rfl, eql, pq5, by rw [List.length_map]; exact few, fun side r hs hr => ?_, fun side r hs => ?_, fun nl ns G6 s6 hnl enl hlen hN hbn => ?_⟩
  · have d32 : ∀ x : Int, 0 ≤ x → x < L → 0 ≤ x / S ∧ x / S < 32 := fun x x0 xL => ⟨Int.ediv_nonneg x0 (by omega), Int.ediv_lt_of_lt_mul (by omega) (by omega)⟩
    obtain ⟨y, hy, rfl⟩ := List.mem_map.mp hr
    obtain ⟨p, hp, rfl⟩ := List.mem_map.mp hy
    have b := ok.bd p hp
    rcases hs with rfl | rfl
    · exact d32 _ b.1.1 b.1.2
    · exact d32 _ b.2.1 b.2.2
  · rcases hs with rfl | rfl
    · have := few_turns hS.1 Prod.fst ps ok.n1 r
      show ((((ps.map fun p => (p.1 / S, p.2 / S)).map (sdI 0)).count r : Nat) : Int) ≤ S
      rw [List.map_map]
      exact this
    · have := few_turns hS.1 Prod.snd ps ok.n2 r
      show ((((ps.map fun p => (p.1 / S, p.2 / S)).map (sdI 1)).count r : Nat) : Int) ≤ S
      rw [List.map_map]
      exact this
  rw [List.length_map] at hlen
  have NT := num_t hlen hN hbn
  dsimp only [gName, tNext]
  have s26 : Same G2 G6 := s3.trans (s45.trans s6)
  have s16 : Same G1 G6 := s2.trans s26
  have Ly : Lay H fl ll wl nl fs ls ws := by
    have k1 : ∀ a, a ∈ fs → G1 a = some (.lst []) := fun a h => (hf a h).2
    have k2 : ∀ a, a ∈ ls → G1 a = none ∧ G2 a = some (.lst []) := fun a h => hlf a h
    have k3 : ∀ a, a ∈ ws → G2 a = none ∧ G3 a = some (.lst []) := fun a h => hwf a h
    have no : ∀ {G : Hp} {a b : Addr} {u : HO}, G a = none → G b = some u → a ≠ b := fun h1 h2 z => by rw [z, h2] at h1; cases h1
    refine ⟨ndf, ndl, ndw, fun a h1 h2 => ?_, fun a h1 h2 => ?_, fun a h1 h2 => ?_, fun a h => ?_⟩
    · exact no (k2 a h2).1 (k1 a h1) rfl
    · exact no (k3 a h2).1 (s2 _ _ (k1 a h1)) rfl
    · exact no (k3 a h2).1 (k2 a h1).2 rfl
    · rcases h with h | h | h
      · exact ⟨(hf a h).1, fun z => nfl (z ▸ h), (no hll (k1 a h)).symm, (no hwl (s2 _ _ (k1 a h))).symm, (no hnl ((s3.trans s45) _ _ (s2 _ _ (k1 a h)))).symm⟩
      · exact ⟨same_none s1 (k2 a h).1, no (k2 a h).1 efl, fun z => nll (z ▸ h), (no hwl (k2 a h).2).symm, (no hnl ((s3.trans s45) _ _ (k2 a h).2)).symm⟩
      · exact ⟨same_none (s1.trans s2) (k3 a h).1, no (k3 a h).1 (s2 _ _ efl), no (k3 a h).1 ell, fun z => nwl (z ▸ h), (no hnl (s45 _ _ (k3 a h).2)).symm⟩
  have P0 : Pot H G6 fl ll wl nl fs ls ws ns (firstsOf S []) (lastsOf S []) (partOf S []) := by
    refine ⟨s13.trans (s45.trans s6), s16 _ _ efl, s26 _ _ ell, (s45.trans s6) _ _ ewl, enl, fun i a h => ⟨[], ?_, .nil⟩, fun i a h => ⟨[], ?_, .nil⟩, fun i a h => ⟨[], ?_, .nil⟩⟩
    · exact s16 _ _ (hf a (List.mem_of_getElem? h)).2
    · exact s26 _ _ (hlf a (List.mem_of_getElem? h)).2
    · exact (s45.trans s6) _ _ (hwf a (List.mem_of_getElem? h)).2
  have lz : (ps.zip ns).length = ps.length := by rw [List.length_zip, hlen, Nat.min_self]
  have mz : (ps.zip ns).map Prod.fst = ps := List.map_fst_zip (by omega)
  clear hf hlf hwf efl ell ewl enl s6 s45 s3 s2 s1 hN hbn nfl nll nwl hfl hll hwl hnl s26 s16 eql pq5
  refine seq_cut (fun σ G => ∃ v9 v10 v11 v12, Pot H G fl ll wl nl fs ls ws ns (firstsOf S (ps.zip ns)) (lastsOf S (ps.zip ns)) (partOf S (ps.zip ns)) ∧ σ = [some (.int L), some (.int S), some (.ref l), some (.int ((d + 1 : Nat) : Int)), some (.int ((m : Nat) : Int)), some (.ref fl), some (.ref ll), some (.ref wl), some (.ref nl), v9, v10, v11, v12, none]) (fun R rest => ?_) ?_
  · refine ⟨_, rfl, _, rfl, l, nl, _, _, rfl, SqL.of (P0.same _ _ el), SqL.of P0.enl, ?_⟩
    refine for_zip (b := false) (xs := as.map V.ref) (ys := ns.map V.int) (fun i σ G => ∃ v9 v10 v11 v12, Pot H G fl ll wl nl fs ls ws ns (firstsOf S ((ps.zip ns).take i)) (lastsOf S ((ps.zip ns).take i)) (partOf S ((ps.zip ns).take i)) ∧ σ = [some (.int L), some (.int S), some (.ref l), some (.int ((d + 1 : Nat) : Int)), some (.int ((m : Nat) : Int)), some (.ref fl), some (.ref ll), some (.ref wl), some (.ref nl), v9, v10, v11, v12, none]) (by rw [List.length_map, List.length_map]; omega) ⟨_, _, _, _, P0, rfl⟩ ?_ ?_ ?_
    · rintro i σ G _ ⟨_, _, _, _, P, _⟩
      exact ⟨SqL.of (P.same _ _ el), SqL.of P.enl⟩
    · rintro i x y σ G p hx hy ⟨v9, v10, v11, v12, P, rfl⟩ hp
      rw [List.getElem?_map] at hx hy
      obtain ⟨a, ha, rfl⟩ := Option.map_eq_some_iff.mp hx
      obtain ⟨kk, hkk, rfl⟩ := Option.map_eq_some_iff.mp hy
      obtain ⟨q2, hq, ea⟩ := paired_at pr i a ha
      have hti : (ps.zip ns)[i]? = some (q2, kk) := by rw [List.getElem?_zip_eq_some]; exact ⟨hq, hkk⟩
      have bq := ok.bd q2 (List.mem_of_getElem? hq)
      have bk := NT.bd _ (List.mem_of_getElem? hti)
      have bk : 0 ≤ kk ∧ kk < S := bk
      obtain ⟨x0, x1⟩ := racks_lt hS.1 bq.1.1 bq.1.2
      obtain ⟨y0, y1⟩ := racks_lt hS.1 bq.2.1 bq.2.2
      obtain ⟨i1, hi1⟩ := Int.eq_ofNat_of_zero_le x0
      obtain ⟨i2, hi2⟩ := Int.eq_ofNat_of_zero_le y0
      obtain ⟨i3, hi3⟩ := Int.eq_ofNat_of_zero_le bk.1
      have l1 : i1 < fs.length := by omega
      have l2 : i2 < ls.length := by omega
      have l3 : i3 < ws.length := by omega
      have at_ : ∀ (zs : List Addr) (i : Nat) (h : i < zs.length), atI (zs.map V.ref) (i : Int) = some (.ref zs[i]) := fun zs i h => atI_nat (by rw [List.getElem?_map, List.getElem?_eq_getElem h]; rfl)
      have P1 := P.sm (same_new hp (.tup [.ref a, .int kk]))
      have ep := upd_same (H := G) (a := p) (o := .tup [.ref a, .int kk])
      refine ⟨p, _, rfl, SqT.of ep, rfl, _, _, rfl, _, _, rfl, rfl, ?_⟩
      generalize upd G p _ = G1 at P1 ep ⊢
      have ea1 : G1 a = some (.tup [.int q2.1, .int q2.2]) := P1.same _ _ ea
      refine ⟨_, rfl, a, _, _, _, rfl, rfl, SqT.of ea1, rfl, _, rfl, _, _, rfl, ⟨by omega, by omega⟩, fun t1 ht1 => ?_⟩
      have P2 := P1.sm (same_new ht1 (.tup [.int (q2.1 / S), .int (q2.1 % S)]))
      have e1 := upd_same (H := G1) (a := t1) (o := .tup [.int (q2.1 / S), .int (q2.1 % S)])
      dsimp only [gName, tNext]
      generalize upd G1 t1 _ = G2 at P2 e1 ⊢
      have ea2 : G2 a = some (.tup [.int q2.1, .int q2.2]) := P2.same _ _ ea
      refine ⟨_, rfl, a, _, _, _, rfl, rfl, SqT.of ea2, rfl, _, rfl, _, _, rfl, ⟨by omega, by omega⟩, fun t2 ht2 => ?_⟩
      have sq := same_new ht2 (.tup [.int (q2.2 / S), .int (q2.2 % S)])
      have P3 := P2.sm sq
      have e13 := sq _ _ e1
      have e2 := upd_same (H := G2) (a := t2) (o := .tup [.int (q2.2 / S), .int (q2.2 % S)])
      dsimp only [gName, tNext]
      generalize upd G2 t2 _ = G3 at P3 e13 e2 ⊢
      rw [hi1] at e13
      rw [hi2] at e2
      clear P1 P2 e1 ea1 ea2 ep P sq ht1 ht2 hp
      obtain ⟨as1, g1, ln1, add1⟩ := P3.add1 Ly (List.getElem?_eq_getElem l1)
      refine ⟨_, rfl, _, rfl, t1, _, _, _, rfl, rfl, SqT.of e13, rfl, fl, _, _, _, rfl, rfl, SqL.of P3.efl, at_ fs i1 l1, .inl ⟨rfl, _, SqL.of g1⟩, _, rfl, t1, _, _, _, rfl, rfl, SqT.of e13, rfl, _, rfl, (by show 2 ≤ sizeLine; decide), fun b1 hb1 => ?_⟩
      have sb := same_new hb1 (.tup [.int (q2.1 % S), .int kk])
      have P4 := P3.sm sb
      have e14 := sb _ _ e13
      have e24 := sb _ _ e2
      have eb := upd_same (H := G3) (a := b1) (o := .tup [.int (q2.1 % S), .int kk])
      generalize upd G3 b1 _ = G4 at P4 e14 e24 eb ⊢
      clear P3 add1 g1 e13 e2 sb hb1
      obtain ⟨as2, g2, ln2, add2⟩ := P4.add1 Ly (List.getElem?_eq_getElem l1)
      have small : ∀ (as : List Addr) (v : (Int × Int) × Int → Int) (f : (Int × Int) × Int → Int × Int) (j : Nat), as.length = ((((ps.zip ns).take i).filter fun t => decide (v t = (j : Int))).map f).length → (as.map V.ref).length < sizeLine := fun as v f j h => by
        rw [List.length_map, h]
        refine Nat.lt_of_le_of_lt (fm_len _ _ _) ?_
        rw [List.length_take, lz]
        exact Nat.lt_of_le_of_lt (Nat.le_trans (Nat.min_le_right _ _) few) (by decide)
      refine ⟨fs[i1], _, .ref b1, rfl, rfl, g2, small as2 _ _ i1 ln2, ?_⟩
      have P5 := add2 b1 (q2.1 % S, kk) eb
      have e15 := upd_tups (o := .lst (as2.map V.ref ++ [.ref b1])) g2 _ _ e14
      have e25 := upd_tups (o := .lst (as2.map V.ref ++ [.ref b1])) g2 _ _ e24
      generalize upd G4 fs[i1] _ = G5 at P5 e15 e25 ⊢
      clear P4 add2 g2 e14 e24 eb
      obtain ⟨as3, g3, ln3, add3⟩ := P5.add2 Ly (List.getElem?_eq_getElem l2)
      refine ⟨_, rfl, _, rfl, t2, _, _, _, rfl, rfl, SqT.of e25, rfl, ll, _, _, _, rfl, rfl, SqL.of P5.ell, at_ ls i2 l2, .inl ⟨rfl, _, SqL.of g3⟩, _, rfl, _, rfl, t2, _, _, _, rfl, rfl, SqT.of e25, rfl, (by show 2 ≤ sizeLine; decide), fun b2 hb2 => ?_⟩
      have sb := same_new hb2 (.tup [.int kk, .int (q2.2 % S)])
      have P6 := P5.sm sb
      have e16 := sb _ _ e15
      have e26 := sb _ _ e25
      have eb := upd_same (H := G5) (a := b2) (o := .tup [.int kk, .int (q2.2 % S)])
      generalize upd G5 b2 _ = G6' at P6 e16 e26 eb ⊢
      clear P5 add3 g3 ln3 e15 e25 sb hb2
      obtain ⟨as3, g3, ln3, add3⟩ := P6.add2 Ly (List.getElem?_eq_getElem l2)
      refine ⟨ls[i2], _, .ref b2, rfl, rfl, g3, small as3 _ _ i2 ln3, ?_⟩
      have P7 := add3 b2 (kk, q2.2 % S) eb
      have e17 := upd_tups (o := .lst (as3.map V.ref ++ [.ref b2])) g3 _ _ e16
      have e27 := upd_tups (o := .lst (as3.map V.ref ++ [.ref b2])) g3 _ _ e26
      generalize upd G6' ls[i2] _ = G7 at P7 e17 e27 ⊢
      clear P6 add3 g3 e16 e26 eb
      obtain ⟨as4, g4, ln4, add4⟩ := P7.add3 Ly (List.getElem?_eq_getElem l3)
      refine ⟨_, rfl, _, rfl, wl, _, _, _, rfl, rfl, SqL.of P7.ewl, (show atI (ws.map V.ref) kk = some (.ref ws[i3]) from by rw [hi3]; exact at_ ws i3 l3), .inl ⟨rfl, _, SqL.of g4⟩, _, rfl, t1, _, _, _, rfl, rfl, SqT.of e17, rfl, _, rfl, t2, _, _, _, rfl, rfl, SqT.of e27, rfl, (by show 2 ≤ sizeLine; decide), fun b3 hb3 => ?_⟩
      have sb := same_new hb3 (.tup [.int (i1 : Int), .int (i2 : Int)])
      have P8 := P7.sm sb
      have eb := upd_same (H := G7) (a := b3) (o := .tup [.int (i1 : Int), .int (i2 : Int)])
      generalize upd G7 b3 _ = G8 at P8 eb ⊢
      clear P7 add4 g4 ln4 sb hb3 e17 e27
      obtain ⟨as4, g4, ln4, add4⟩ := P8.add3 Ly (List.getElem?_eq_getElem l3)
      refine ⟨ws[i3], _, .ref b3, rfl, rfl, g4, small as4 _ _ i3 ln4, ?_⟩
      have P9 := add4 b3 ((i1 : Int), (i2 : Int)) eb
      refine ⟨_, _, _, _, ?_, rfl⟩
      rw [List.take_succ, hti, Option.toList_some]
      have f1 := fm_at (ts := (ps.zip ns).take i) (t := (q2, kk)) (v := fun t => t.1.1 / S) (f := fun t => (t.1.1 % S, t.2)) hi1
      have f2 := fm_at (ts := (ps.zip ns).take i) (t := (q2, kk)) (v := fun t => t.1.2 / S) (f := fun t => (t.2, t.1.2 % S)) hi2
      have f3 := fm_at (ts := (ps.zip ns).take i) (t := (q2, kk)) (v := fun t => t.2) (f := fun t => (t.1.1 / S, t.1.2 / S)) hi3
      show Pot H _ fl ll wl nl fs ls ws ns (fun j => firstsOf S ((ps.zip ns).take i ++ [(q2, kk)]) j) (fun j => lastsOf S ((ps.zip ns).take i ++ [(q2, kk)]) j) (fun j => partOf S ((ps.zip ns).take i ++ [(q2, kk)]) j)
      unfold firstsOf lastsOf partOf
      rw [← f1, ← f2, ← f3]
      dsimp only
      rw [hi1, hi2]
      exact P9
    · rintro σ G ⟨v9, v10, v11, v12, P, rfl⟩
      rw [List.length_map, ln, ← lz, List.take_length] at P
      exact rest _ _ ⟨_, _, _, _, P, rfl⟩
  rintro σ G ⟨v9, v10, v11, v12, P, rfl⟩
  refine ⟨_, rfl, wl, rfl, ⟨_, SqL.of P.ewl⟩, ?_⟩
  have okz : TurnsOk L ((ps.zip ns).map Prod.fst) := by rw [mz]; exact ok
  have fewz : ∀ (p : (Int × Int) × Int → Bool) (f : (Int × Int) × Int → Int × Int), (((ps.zip ns).filter p).map f).length ≤ 64 := fun p f => Nat.le_trans (fm_len _ _ _) (by rw [lz]; exact few)
  refine comp_own (fun G k x => NestAt G S d ((L + S - 1) / S) (partOf S (ps.zip ns) k) x) (fun G x ads => LstsAt G d x ads) (fun G G' k x s h => NestAt.same s h) (fun G G' x ads s h => LstsAt.same s h) P.ewl (Nat.le_trans (show ws.length ≤ 8 by omega) (by decide)) (fun i x G' hx s Q' k' => ?_) fun ms adss al G' lm hms hlm nwm s eal => ?_
  · have hbx := (P.b3 i x hx).same s
    refine ⟨_, rfl, _, rfl, _, rfl, _, rfl, _, _, rfl, rfl, (m : Int), S, d, x, partOf S (ps.zip ns) i, ?_, hd, ⟨by omega, by omega⟩, hS, hbx, fewz _ _, by rw [← hm]; exact part_ok hS.1 okz NT i, fun a G'' s' hN hO => let ⟨ads, h1, h2⟩ := hO; k' a G'' ads s' (by rw [hm]; exact hN) h1 h2⟩
    show [V.int (m : Int), V.int S, V.ref x, V.int (((d + 1 : Nat) : Int) - 1)] = _
    rw [show ((d + 1 : Nat) : Int) - 1 = (d : Int) by omega]
  dsimp only [gName, tNext]
  have PS := P.same
  have P2 := P.sm s
  clear P
  refine ⟨_, rfl, _, rfl, ?_⟩
  refine ⟨_, rfl, fl, rfl, ⟨_, SqL.of P2.efl⟩, ?_⟩
  refine comp_own (fun G k x => ∃ bs, BarsAt G x bs ∧ SortOf bs (firstsOf S (ps.zip ns) k)) (fun G x ads => ads = [x] ∧ LstL G x) (fun G G' k x s ⟨bs, h1, h2⟩ => ⟨bs, h1.same s, h2⟩) (fun G G' x ads s h => ⟨h.1, h.2.same s⟩) P2.efl (Nat.le_trans (show fs.length ≤ 64 by omega) (by decide)) (fun i x G2' hx s2 Q' k' => ?_) fun gs gss gl G2' lg hgs hgo nwg s2 egl => ?_
  · have hbx := (P2.b1 i x hx).same s2
    refine ⟨_, rfl, ?_⟩
    dsimp only [tNil]
    exact sort_prs (K := K) hbx (fewz _ _) (firsts_ok hS.1 okz NT i) (by omega) fun as' bs pr' so mm hmm => k' mm _ [mm] (same_new hmm _) ⟨bs, ⟨as', upd_same, pr'.same (same_new hmm _)⟩, so⟩ ⟨rfl, as', upd_same, by rw [Paired.length pr', so.1.length_eq]; exact fewz _ _⟩ (News.one hmm)
  have P3 := P2.sm s2
  refine ⟨_, rfl, ?_⟩
  refine ⟨_, rfl, ll, rfl, ⟨_, SqL.of P3.ell⟩, ?_⟩
  refine comp_own (fun G k x => ∃ bs, BarsAt G x bs ∧ SortOf bs (lastsOf S (ps.zip ns) k)) (fun G x ads => ads = [x] ∧ LstL G x) (fun G G' k x s ⟨bs, h1, h2⟩ => ⟨bs, h1.same s, h2⟩) (fun G G' x ads s h => ⟨h.1, h.2.same s⟩) P3.ell (Nat.le_trans (show ls.length ≤ 64 by omega) (by decide)) (fun i x G3' hx s3 Q' k' => ?_) fun hs hss hl G3' lh hhs hho nwh s3 ehl => ?_
  · have hbx := (P3.b2 i x hx).same s3
    refine ⟨_, rfl, ?_⟩
    dsimp only [tNil]
    exact sort_prs (K := K) hbx (fewz _ _) (lasts_ok hS.1 okz NT i) (by omega) fun as' bs pr' so mm hmm => k' mm _ [mm] (same_new hmm _) ⟨bs, ⟨as', upd_same, pr'.same (same_new hmm _)⟩, so⟩ ⟨rfl, as', upd_same, by rw [Paired.length pr', so.1.length_eq]; exact fewz _ _⟩ (News.one hmm)
  refine ⟨(by show 6 ≤ sizeLine; decide), fun t ht => ?_⟩
  have s4 := same_new ht (.tup [.str "hall", .int L, .int S, .ref gl, .ref al, .ref hl])
  refine q t _ ((P3.sm s3).sm s4).same (.inr ⟨hLS, ps.zip ns, gl, al, hl, gs, ms, hs, mz, NT, upd_same, (s3.trans s4) _ _ egl, (s2.trans (s3.trans s4)) _ _ eal, s4 _ _ ehl, by rw [lg, lf, hm], by rw [lh, lls, hm], by rw [lm]; omega, ?_, ?_, ?_⟩) ?_
  · exact Sorts.same (H := G2') (fun i fa e => hgs i fa e) (s3.trans s4)
  · exact Sorts.same (H := G3') (fun i fa e => hhs i fa e) s4
  · exact fun k' ma e => NestAt.same (s2.trans (s3.trans s4)) (hms k' ma e)
  · have m1 : 1 ≤ (L + S - 1) / S := Int.le_ediv_of_mul_le (by omega) (by omega)
    have eg := own_flat hgo
    have eh := own_flat hho
    rw [eg] at nwg
    rw [eh] at nwh
    have nw := ((nwm.app s s2 nwg).app (s.trans s2) s3 nwh).on s4
    refine ⟨(al :: adss.flatten) ++ ((gl :: gs) ++ (hl :: hs)), .inr ⟨L, S, gl, al, hl, gs, ms, hs, adss, upd_same, (s3.trans s4) _ _ egl, (s2.trans (s3.trans s4)) _ _ eal, s4 _ _ ehl, fun x hx => (own_all hgo x hx).same (s3.trans s4), fun x hx => (own_all hho x hx).same s4, ⟨by omega, by omega⟩, ⟨by omega, by omega⟩, by rw [lm]; omega, hS, Paired.mapP hlm fun _ _ w => LstsAt.same (s2.trans (s3.trans s4)) w, rfl⟩, (News.perm ?_ nw).wide PS⟩
    rw [List.append_assoc]
    exact (List.perm_append_singleton _ _).symm.append ((List.perm_append_singleton _ _).symm.append (List.perm_append_singleton _ _).symm)
theorem ok_rn (T : Txt K mg) (C_is_plain : Callee P w K mg base 1 "is_plain" ["lines", "small", "depth"] spPlain) (C_racks_for : Callee P w K mg base 1 "racks_for" ["lines", "small"] spRacksFor) (C_parted : Callee P w K mg base 3 "parted" ["pairs", "ways"] spParted) (D1 : Def K mg "right_nest" (top 24) ["lines", "small", "turns", "depth"]) (D2 : Def K mg "hall_nest" (top 23) ["lines", "small", "turns", "depth"]) : ∀ n : Nat, Callee P w K mg base (2*n+4) "right_nest" ["lines", "small", "turns", "depth"] (spRN n)
  | 0 => rn_body T 0 3 (by decide) _ C_is_plain (callee_never D2 3) D1 fun m h => nomatch h
  | n + 1 => rn_body T (n + 1) (2 * n + 5) (by omega) _ C_is_plain (hn_body T n (2 * n + 4) (by omega) C_racks_for C_parted (ok_rn T C_is_plain C_racks_for C_parted D1 D2 n) D2) D1 fun m h => by cases h; rfl
end
inductive PartIs (K : PySem.W.Frag) (H : Hp) : V → Prop where
  | int (i : Int) : PartIs K H (.int i)
  | odd {x : V} {t : Value} {b1 b2 : Bool} (ni : ∀ i, x ≠ .int i) (ty : TyOf K H x t) (h1 : PySem.W.kitOne K t (.type "int") = some b1) (h2 : PySem.W.kitOne K t (.type "bool") = some b2) (hb : b1 = false ∨ b2 = true) : PartIs K H x
inductive ThingIs (K : PySem.W.Frag) (H : Hp) : V → Option (List V) → Prop where
  | tup {a : Addr} {xs : List V} (e : H a = some (.tup xs)) (h : ∀ x ∈ xs, PartIs K H x) : ThingIs K H (.ref a) (some xs)
  | no {x : V} {t : Value} (ty : TyOf K H x t) (h : PySem.W.kitOne K t (.type "tuple") = some false) : ThingIs K H x none
theorem TyOf.same {K : PySem.W.Frag} {H H' : Hp} {x : V} {t : Value} (s : Same H H') (h : TyOf K H x t) : TyOf K H' x t := by
  cases h with
  | non => exact .non
  | bl b => exact .bl b
  | int i => exact .int i
  | str y => exact .str y
  | flt y => exact .flt y
  | lst e => exact .lst (s _ _ e)
  | frz e => exact .frz (s _ _ e)
  | tup e => exact .tup (s _ _ e)
  | dK e => exact .dK (s _ _ e)
  | dT e => exact .dT (s _ _ e)
  | ins e a b c d f => exact .ins (s _ _ e) a b c d f
theorem PartIs.same {K : PySem.W.Frag} {H H' : Hp} {x : V} (s : Same H H') (h : PartIs K H x) : PartIs K H' x := by
  cases h with
  | int i => exact .int i
  | odd ni ty h1 h2 hb => exact .odd ni (TyOf.same s ty) h1 h2 hb
theorem ThingIs.same {K : PySem.W.Frag} {H H' : Hp} {x : V} {o : Option (List V)} (s : Same H H') (h : ThingIs K H x o) : ThingIs K H' x o := by
  cases h with
  | tup e q => exact .tup (s _ _ e) fun x hx => PartIs.same s (q x hx)
  | no ty q => exact .no (TyOf.same s ty) q
def wholeIn (x : V) (lo hi : Int) : Bool := match x with
  | .int i => decide (lo ≤ i) && decide (i ≤ hi)
  | _ => false
def isInt : V → Bool
  | .int _ => true
  | _ => false
def spIsWhole (K : PySem.W.Frag) : Sp := fun vs H Q _ => ∃ (x : V) (lo hi : Int), vs = [x, .int lo, .int hi] ∧ PartIs K H x ∧ Q (.bl (wholeIn x lo hi)) H
def spWhole (K : PySem.W.Frag) : Sp := fun vs H Q _ => ∃ x : V, vs = [x] ∧ PartIs K H x ∧ Q (.bl (isInt x)) H
section
variable {P : Program} {w : World} {K : PySem.W.Frag} {mg : Str → Option Value} {base : Heap}
theorem sc_is_number : FnScope ["thing"] ["thing"] (defScope (top 5)) := ⟨rfl, rfl, rfl, by decide +kernel, rfl, by decide +kernel, by decide +kernel⟩
theorem ok_is_number (T : Txt K mg) (D : Def K mg "is_number" (top 5) ["thing"]) : Callee P w K mg base 1 "is_number" ["thing"] (spWhole K) := by
  refine D.ok sc_is_number (fun vs H Q E h => ?_) (fun f cdv A outer s H vs Q E hr h => ?_)
  · obtain ⟨x, rfl, _⟩ := h
    rfl
  obtain ⟨x, rfl, hp, q⟩ := h
  refine ⟨_, (pss_one (ps_ret (pe_and (pe_callB (call_isinstK K) rfl T.m_isinstance boot_isinstance (pa_cons (pv 0) (pa_cons (pe_bltn (v := .ty "int") rfl T.m_int boot_int rfl) pa_nil st_name) st_name)) (pe_one (pe_not (pe_callB (call_isinstK K) rfl T.m_isinstance boot_isinstance (pa_cons (pv 0) (pa_cons (pe_bltn (v := .ty "bool") rfl T.m_bool boot_bool rfl) pa_nil st_name) st_name))))))), ?_⟩
  cases hp with
  | int i =>
    refine ⟨_, rfl, _, _, _, true, rfl, .int i, kit_int_int, _, rfl, iteT ?_⟩
    exact ⟨_, rfl, _, _, _, false, rfl, .int i, kit_int_bool, _, rfl, q⟩
  | @odd _ t b1 b2 ni ty h1 h2 hb =>
    have e : isInt x = false := by
      cases x with
      | int i => exact absurd rfl (ni i)
      | _ => rfl
    rw [e] at q
    refine ⟨_, rfl, _, _, _, b1, rfl, ty, h1, _, rfl, ?_⟩
    cases b1 with
    | false => exact iteF q
    | true =>
      have hb2 : b2 = true := hb.elim (fun z => nomatch z) id
      subst hb2
      exact iteT ⟨_, rfl, _, _, _, true, rfl, ty, h2, _, rfl, q⟩
theorem sc_is_whole : FnScope ["thing", "least", "most"] ["thing", "least", "most"] (defScope (top 6)) := ⟨rfl, rfl, rfl, by decide +kernel, rfl, by decide +kernel, by decide +kernel⟩
theorem ok_is_whole (T : Txt K mg) (C_is_number : Callee P w K mg base 1 "is_number" ["thing"] (spWhole K)) (D : Def K mg "is_whole" (top 6) ["thing", "least", "most"]) : Callee P w K mg base 2 "is_whole" ["thing", "least", "most"] (spIsWhole K) := by
  refine D.ok sc_is_whole (fun vs H Q E h => ?_) (fun f cdv A outer s H vs Q E hr h => ?_)
  · obtain ⟨x, lo, hi, rfl, _⟩ := h
    rfl
  obtain ⟨x, lo, hi, rfl, hp, q⟩ := h
  refine ⟨_, (pss_one (ps_ret (pe_and (pe_fn C_is_number hr rfl (pa_cons (pv 0) pa_nil st_name)) (pe_one (pe_chain op_le op_le (pv 1) (pv 0) (pv 2)))))), ?_⟩
  refine ⟨_, rfl, x, rfl, hp, _, rfl, ?_⟩
  cases hp with
  | int i =>
    refine iteT ?_
    refine ⟨_, rfl, _, rfl, _, _, rfl, rfl, _, rfl, ?_⟩
    refine ite2 (fun c => ?_) (fun c => ?_)
    · refine ⟨_, rfl, _, _, rfl, rfl, ?_⟩
      have e : wholeIn (.int i) lo hi = decide (i ≤ hi) := by show (decide (lo ≤ i) && decide (i ≤ hi)) = _; rw [c, Bool.true_and]
      rw [e] at q
      exact q
    · have e : wholeIn (.int i) lo hi = false := by show (decide (lo ≤ i) && decide (i ≤ hi)) = _; rw [Bool.eq_false_iff.mpr c, Bool.false_and]
      rw [e] at q
      exact q
  | @odd _ t b1 b2 ni ty h1 h2 hb =>
    have e0 : isInt x = false := by
      cases x with
      | int i => exact absurd rfl (ni i)
      | _ => rfl
    have e : wholeIn x lo hi = false := by
      cases x with
      | int i => exact absurd rfl (ni i)
      | _ => rfl
    rw [e] at q
    rw [e0]
    exact iteF q
end
def entryB (o : Option (List V)) (F S : Int) : Bool := match o with
  | some [a, b] => wholeIn a 0 (F - 1) && wholeIn b 0 (S - 1)
  | _ => false
def numP (o : Option (List V)) : Int × Int := match o with
  | some [.int a, .int b] => (a, b)
  | _ => (0, 0)
theorem entry_num {o : Option (List V)} {F S : Int} (h : entryB o F S = true) : o = some [.int (numP o).1, .int (numP o).2] := by
  match o, h with
  | some [a, b], h =>
    have h' : (wholeIn a 0 (F - 1) && wholeIn b 0 (S - 1)) = true := h
    rw [Bool.and_eq_true] at h'
    cases a with
    | int i =>
      cases b with
      | int j => rfl
      | _ => cases h'.2
    | _ => cases h'.1
def badB (ps : List (Int × Int)) (F S : Int) (o : Option (List V)) : Bool := !entryB o F S || (decide ((numP o).1 ∈ ps.map Prod.fst) || decide ((numP o).2 ∈ ps.map Prod.snd))
def firstBad (F S : Int) : List (Option (List V)) → List (Int × Int) → Nat → Option Nat
  | [], _, _ => none
  | o :: os, ps, i => if badB ps F S o = true then some i else firstBad F S os (ps ++ [numP o]) (i + 1)
theorem first_stop {F S : Int} {os : List (Option (List V))} {ps : List (Int × Int)} {i : Nat} {o : Option (List V)} (ho : os[i]? = some o) (b : badB ps F S o = true) : firstBad F S (os.drop i) ps i = some i := by
  have h := List.getElem?_eq_some_iff.mp ho
  rw [List.drop_eq_getElem_cons h.1, h.2]
  unfold firstBad
  rw [if_pos b]
theorem first_on {F S : Int} {os : List (Option (List V))} {ps : List (Int × Int)} {i : Nat} {o : Option (List V)} (ho : os[i]? = some o) (b : badB ps F S o = false) : firstBad F S (os.drop i) ps i = firstBad F S (os.drop (i + 1)) (ps ++ [numP o]) (i + 1) := by
  have h := List.getElem?_eq_some_iff.mp ho
  rw [List.drop_eq_getElem_cons h.1, h.2]
  conv => lhs; unfold firstBad
  rw [if_neg (by rw [b]; decide)]
theorem first_end {F S : Int} {os : List (Option (List V))} {ps : List (Int × Int)} {i : Nat} (h : os.length ≤ i) : firstBad F S (os.drop i) ps i = none := by
  rw [List.drop_eq_nil_of_le h]
  rfl
def optV : Option Nat → V
  | none => .non
  | some i => .int (i : Nat)
def ThingsAt (K : PySem.W.Frag) (H : Hp) (xs : List V) (os : List (Option (List V))) : Prop := Paired (ThingIs K H) xs os
def KeysAre (kvs : List (Key × V)) (ns : List Int) : Prop := ∀ a : Int, (valV kvs (.inl a)).isSome = decide (a ∈ ns)
theorem KeysAre.put {kvs : List (Key × V)} {ns : List Int} {a : Int} {v : V} (h : KeysAre kvs ns) : KeysAre (putK kvs (.inl a) v) (ns ++ [a]) := fun b => by
  rw [valV_put]
  by_cases e : b = a
  · subst e
    rw [if_pos rfl]
    simp
  · rw [if_neg (fun z => e (by injection z)), h b]
    simp [e]
theorem putK_le {kvs : List (Key × V)} {k : Key} {v : V} : (putK kvs k v).length ≤ kvs.length + 1 := by
  unfold putK
  split <;> simp
def spIsEntry (K : PySem.W.Frag) : Sp := fun vs H Q _ => ∃ (x : V) (o : Option (List V)) (F S : Int), vs = [x, .int F, .int S] ∧ ThingIs K H x o ∧ Q (.bl (entryB o F S)) H
def spFirst (K : PySem.W.Frag) : Sp := fun vs H Q _ => ∃ (l : Addr) (xs : List V) (os : List (Option (List V))) (F S : Int), vs = [.ref l, .int F, .int S] ∧ SqL K H l xs ∧ ThingsAt K H xs os ∧ xs.length ≤ 64 ∧ ∀ H', Same H H' → Q (optV (firstBad F S os [] 0)) H'
section
variable {P : Program} {w : World} {K : PySem.W.Frag} {mg : Str → Option Value} {base : Heap}
theorem sc_is_entry : FnScope ["thing", "firsts", "seconds"] ["thing", "firsts", "seconds"] (defScope (top 8)) := ⟨rfl, rfl, rfl, by decide +kernel, rfl, by decide +kernel, by decide +kernel⟩
theorem ok_is_entry (T : Txt K mg) (C_is_whole : Callee P w K mg base 2 "is_whole" ["thing", "least", "most"] (spIsWhole K)) (D : Def K mg "is_entry" (top 8) ["thing", "firsts", "seconds"]) : Callee P w K mg base 3 "is_entry" ["thing", "firsts", "seconds"] (spIsEntry K) := by
  refine D.ok sc_is_entry (fun vs H Q E h => ?_) (fun f cdv A outer s H vs Q E hr h => ?_)
  · obtain ⟨x, o, F, S, rfl, _⟩ := h
    rfl
  obtain ⟨x, o, F, S, rfl, hx, q⟩ := h
  refine ⟨_, (pss_cons (ps_if (PW.pt (pw_or (pt_not (pt_truK K (pe_callB (call_isinstK K) rfl T.m_isinstance boot_isinstance (pa_cons (pv 0) (pa_cons (pe_bltn (v := .ty "tuple") rfl T.m_tuple boot_tuple rfl) pa_nil st_name) st_name)) (fun _ => rfl))) (pw_or1 (pt_cmpR op_ne (pe_callB (call_lenK K) rfl T.m_len boot_len (pa_cons (pv 0) pa_nil st_name)) pe_int (nomark _))))) (pss_one (ps_ret pe_bl)) pss_nil)
    (pss_one (ps_ret (pe_and (pe_fn C_is_whole hr rfl (pa_cons (pe_ix (ix_tupK K) (pv 0) pe_int (fun _ _ => rfl)) (pa_cons pe_int (pa_cons (pe_op op_sub (pv 1) pe_int) pa_nil st_bin) st_const) st_sub)) (pe_one (pe_fn C_is_whole hr rfl (pa_cons (pe_ix (ix_tupK K) (pv 0) pe_int (fun _ _ => rfl)) (pa_cons pe_int (pa_cons (pe_op op_sub (pv 2) pe_int) pa_nil st_bin) st_const) st_sub))))))), ?_⟩
  cases hx with
  | no ty hk => exact ⟨_, rfl, _, _, _, false, rfl, ty, hk, false, rfl, iteT q⟩
  | @tup a xs e hp =>
    refine ⟨_, rfl, _, _, _, true, rfl, .tup e, kit_tup_tup, true, rfl, iteF ?_⟩
    refine ⟨_, rfl, a, _, rfl, .inr (SqT.of e), rfl, _, rfl, ?_⟩
    match xs, e, hp, q with
    | [u, v], e, hp, q =>
      refine iteN (by simp) ?_
      refine ⟨_, rfl, a, _, _, _, rfl, rfl, SqT.of e, rfl, _, rfl, _, _, rfl, rfl, u, 0, F - 1, rfl, hp u (by simp), _, rfl, ?_⟩
      refine ite2 (fun c => ?_) (fun c => ?_)
      · have e' : entryB (some [u, v]) F S = wholeIn v 0 (S - 1) := by
          show (wholeIn u 0 (F - 1) && wholeIn v 0 (S - 1)) = _
          rw [c, Bool.true_and]
        rw [e'] at q
        exact ⟨_, rfl, a, _, _, _, rfl, rfl, SqT.of e, rfl, _, rfl, _, _, rfl, rfl, v, 0, S - 1, rfl, hp v (by simp), q⟩
      · have e' : entryB (some [u, v]) F S = false := by
          show (wholeIn u 0 (F - 1) && wholeIn v 0 (S - 1)) = _
          rw [Bool.eq_false_iff.mpr c]
          rfl
        rw [e'] at q
        exact q
    | [], e, hp, q => exact iteP (by simp) q
    | [u], e, hp, q => exact iteP (by simp) q
    | u :: v :: y :: t, e, hp, q => exact iteP (by simp; omega) q
theorem sc_first_wrong : FnScope ["things", "firsts", "seconds", "ones", "others", "place", "thing"] ["things", "firsts", "seconds"] (defScope (top 9)) := ⟨rfl, rfl, rfl, by decide +kernel, rfl, by decide +kernel, by decide +kernel⟩
set_option maxHeartbeats 2000000 in
theorem ok_first (T : Txt K mg) (C_is_entry : Callee P w K mg base 3 "is_entry" ["thing", "firsts", "seconds"] (spIsEntry K)) (D : Def K mg "first_wrong" (top 9) ["things", "firsts", "seconds"]) : Callee P w K mg base 4 "first_wrong" ["things", "firsts", "seconds"] (spFirst K) := by
  refine D.ok sc_first_wrong (fun vs H Q E h => ?_) (fun f cdv A outer s H vs Q E hr h => ?_)
  · obtain ⟨l, xs, os, F, S, rfl, _⟩ := h
    rfl
  obtain ⟨l, xs, os, F, S, rfl, hl, hT, few, q⟩ := h
  have lx : xs.length = os.length := Paired.length hT
  refine ⟨_, (pss_cons (ps_set (i := 3) sc_first_wrong.nd rfl (Or.inl rfl) pe_dnewK)
    (pss_cons (ps_set (i := 4) sc_first_wrong.nd rfl (Or.inl rfl) pe_dnewK)
    (pss_cons (ps_for PassesOwn.never rfl (pi_enum K rfl T.m_enumerate (pa_cons (pv 0) pa_nil st_name)) (pg2K K rfl sc_first_wrong.nd (Nm.mk (i := 5) rfl (Or.inl rfl) (Or.inl rfl)) (Nm.mk (i := 6) rfl (Or.inl rfl) (Or.inl rfl)))
    (pss_cons (ps_if (PW.pt (pw_or (pt_not (pt_truK K (pe_fn C_is_entry hr rfl (pa_cons (pv 6) (pa_cons (pv 1) (pa_cons (pv 2) pa_nil st_name) st_name) st_name)) (fun _ => rfl))) (pw_or (pt_cmp (pc_din (hu_of hr) (pe_ix (ix_tupK K) (pv 6) pe_int (fun _ _ => rfl)) (pv 3))) (pw_or1 (pt_cmp (pc_din (hu_of hr) (pe_ix (ix_tupK K) (pv 6) pe_int (fun _ _ => rfl)) (pv 4))))))) (pss_one (ps_ret (pv 5))) pss_nil)
    (pss_cons (ps_dput (hu_of hr) (pv 3) (pe_ix (ix_tupK K) (pv 6) pe_int (fun _ _ => rfl)) pe_bl rfl)
    (pss_one (ps_dput (hu_of hr) (pv 4) (pe_ix (ix_tupK K) (pv 6) pe_int (fun _ _ => rfl)) pe_bl rfl)))))
    (pss_one (ps_ret pe_non))))), ?_⟩
  refine fun d1 hd1 => ?_
  have s1 := same_new hd1 (.dK [])
  have e1 := upd_same (H := H) (a := d1) (o := .dK [])
  generalize upd H d1 (.dK []) = H1 at s1 e1 ⊢
  refine fun d2 hd2 => ?_
  have s2' := same_new hd2 (.dK [])
  have e2 := upd_same (H := H1) (a := d2) (o := .dK [])
  generalize upd H1 d2 (.dK []) = H2 at s2' e2 ⊢
  have s2 := s1.trans s2'
  have hd2' : H d2 = none := s1.free hd2
  have n12 : d1 ≠ d2 := ne_of_none e1 hd2
  refine ⟨_, rfl, l, xs, rfl, s2.seq hl, ?_⟩
  refine for_enum (xs := xs) (fun i σ G => Same H G ∧ ∃ (ps : List (Int × Int)) (kv1 kv2 : List (Key × V)) (v5 v6 : Option V), firstBad F S os [] 0 = firstBad F S (os.drop i) ps i ∧ G d1 = some (.dK kv1) ∧ G d2 = some (.dK kv2) ∧ KeysAre kv1 (ps.map Prod.fst) ∧ KeysAre kv2 (ps.map Prod.snd) ∧ kv1.length ≤ i ∧ kv2.length ≤ i ∧ σ = [some (.ref l), some (.int F), some (.int S), some (.ref d1), some (.ref d2), v5, v6])
    ⟨s2, [], [], [], none, none, rfl, s2' _ _ e1, e2, (fun a => rfl), (fun a => rfl), Nat.le_refl _, Nat.le_refl _, rfl⟩ (fun i σ G _ g => g.1.seq hl) ?_ ?_
  · rintro i x σ G p hx ⟨sG, ps, kv1, kv2, v5, v6, fe, f1, f2, k1, k2, l1, l2, rfl⟩ hp
    obtain ⟨o, ho, hth⟩ := paired_at hT i x hx
    have hi := (List.getElem?_eq_some_iff.mp hx).1
    have sp := same_new hp (.tup [.int (i : Nat), x])
    have ep := upd_same (H := G) (a := p) (o := .tup [.int (i : Nat), x])
    have f1' := sp _ _ f1
    have f2' := sp _ _ f2
    have sG' := sG.trans sp
    generalize upd G p (.tup [.int (i : Nat), x]) = G1 at sp ep f1' f2' sG' ⊢
    refine ⟨p, [.int (i : Nat), x], rfl, SqT.of ep, rfl, .int (i : Nat), [x], rfl, x, [], rfl, rfl, ?_⟩
    have bad : badB ps F S o = true → Q (.int (i : Nat)) G1 := fun b => by
      have := q G1 sG'
      rw [fe, first_stop ho b] at this
      exact this
    refine ⟨_, rfl, _, rfl, _, rfl, x, o, F, S, rfl, hth.same sG', ?_⟩
    cases hb : entryB o F S with
    | false =>
      refine ⟨_, rfl, iteT ⟨_, rfl, bad ?_⟩⟩
      unfold badB
      rw [hb]
      rfl
    | true =>
      refine ⟨_, rfl, iteF ?_⟩
      have eo := entry_num hb
      have hth1 := hth.same sG'
      rw [eo] at hth1
      cases hth1 with
      | @tup t _ et hpt =>
      refine ⟨_, rfl, t, _, _, _, rfl, rfl, SqT.of et, rfl, _, rfl, d1, _, rfl, DGet.k (k := .inl (numP o).1) f1', _, rfl, ?_⟩
      rw [k1]
      refine ite2 (fun c1 => ⟨_, rfl, bad ?_⟩) (fun c1 => ?_)
      · unfold badB
        rw [hb, c1]
        rfl
      refine ⟨_, rfl, t, _, _, _, rfl, rfl, SqT.of et, rfl, _, rfl, d2, _, rfl, DGet.k (k := .inl (numP o).2) f2', _, rfl, ?_⟩
      rw [k2]
      refine ite2 (fun c2 => ⟨_, rfl, bad ?_⟩) (fun c2 => ?_)
      · unfold badB
        rw [hb, c2, Bool.or_true]
        rfl
      have nb : badB ps F S o = false := by
        unfold badB
        rw [hb, Bool.eq_false_iff.mpr c1, Bool.eq_false_iff.mpr c2]
        rfl
      refine ⟨_, rfl, _, rfl, t, _, _, _, rfl, rfl, SqT.of et, rfl, d1, _, rfl, DPut.k (k := .inl (numP o).1) f1' (Nat.lt_of_le_of_lt l1 (small1000 (by omega))), ?_⟩
      have nt1 : t ≠ d1 := fun z => by rw [z, f1'] at et; cases et
      have et2 : upd G1 d1 (.dK (putK kv1 (.inl (numP o).1) (.bl true))) t = some (.tup [.int (numP o).1, .int (numP o).2]) := by rw [upd_ne nt1]; exact et
      have f22 : upd G1 d1 (.dK (putK kv1 (.inl (numP o).1) (.bl true))) d2 = some (.dK kv2) := by rw [upd_ne (Ne.symm n12)]; exact f2'
      have f12 := upd_same (H := G1) (a := d1) (o := .dK (putK kv1 (.inl (numP o).1) (.bl true)))
      have sG2 : Same H (upd G1 d1 (.dK (putK kv1 (.inl (numP o).1) (.bl true)))) := Same.put sG' hd1
      generalize upd G1 d1 (.dK (putK kv1 (.inl (numP o).1) (.bl true))) = G2 at et2 f22 f12 sG2 ⊢
      refine ⟨_, rfl, _, rfl, t, _, _, _, rfl, rfl, SqT.of et2, rfl, d2, _, rfl, DPut.k (k := .inl (numP o).2) f22 (Nat.lt_of_le_of_lt l2 (small1000 (by omega))), ?_⟩
      refine ⟨Same.put sG2 hd2', ps ++ [numP o], _, _, _, _, fe.trans (first_on ho nb), by rw [upd_ne n12]; exact f12, upd_same, ?_, ?_, Nat.le_trans putK_le (by omega), Nat.le_trans putK_le (by omega), rfl⟩
      · rw [List.map_append]
        exact k1.put
      · rw [List.map_append]
        exact k2.put
  · rintro σ G ⟨sG, ps, kv1, kv2, v5, v6, fe, f1, f2, k1, k2, l1, l2, rfl⟩
    have := q G sG
    rw [fe, first_end (by omega)] at this
    exact this
end
theorem first_ok {L : Int} : ∀ (ps qs : Prs) (i : Nat), (∀ p ∈ ps, (0 ≤ p.1 ∧ p.1 < L) ∧ 0 ≤ p.2 ∧ p.2 < L) → ((qs ++ ps).map Prod.fst).Nodup → ((qs ++ ps).map Prod.snd).Nodup → firstBad L L (ps.map fun p => some [V.int p.1, V.int p.2]) qs i = none
  | [], _, _, _, _, _ => rfl
  | p :: ps, qs, i, hb, n1, n2 => by
    have bp := hb p (List.mem_cons_self ..)
    have e1 : entryB (some [V.int p.1, V.int p.2]) L L = true := by
      show ((decide (0 ≤ p.1) && decide (p.1 ≤ L - 1)) && (decide (0 ≤ p.2) && decide (p.2 ≤ L - 1))) = true
      rw [decide_eq_true bp.1.1, decide_eq_true (show p.1 ≤ L - 1 by omega), decide_eq_true bp.2.1, decide_eq_true (show p.2 ≤ L - 1 by omega)]
      rfl
    have m1 : ¬ p.1 ∈ qs.map Prod.fst := fun z => by
      rw [List.map_append, List.nodup_append] at n1
      exact n1.2.2 _ z _ (List.mem_cons_self ..) rfl
    have m2 : ¬ p.2 ∈ qs.map Prod.snd := fun z => by
      rw [List.map_append, List.nodup_append] at n2
      exact n2.2.2 _ z _ (List.mem_cons_self ..) rfl
    have nb : badB qs L L (some [V.int p.1, V.int p.2]) = false := by
      unfold badB
      rw [e1, decide_eq_false (show ¬ (numP (some [V.int p.1, V.int p.2])).1 ∈ qs.map Prod.fst from m1), decide_eq_false (show ¬ (numP (some [V.int p.1, V.int p.2])).2 ∈ qs.map Prod.snd from m2)]
      rfl
    rw [List.map_cons]
    unfold firstBad
    rw [if_neg (by rw [nb]; decide)]
    refine first_ok ps (qs ++ [p]) (i + 1) (fun q hq => hb q (List.mem_cons_of_mem _ hq)) ?_ ?_
    · rw [List.append_assoc]; exact n1
    · rw [List.append_assoc]; exact n2
theorem things_refs {β : Type} {R : V → β → Prop} : ∀ {as : List Addr} {bs : List β}, Paired (fun a b => R (.ref a) b) as bs → Paired R (as.map V.ref) bs
  | _, _, .nil => .nil
  | _, _, .cons h t => .cons h (things_refs t)
def spNestOf : Sp := fun vs H Q _ => ∃ (L S : Int) (d : Nat) (l : Addr) (ps : Prs), vs = [.int L, .int S, .ref l, .int (d : Nat)] ∧ d ≤ 6 ∧ (0 ≤ L ∧ L ≤ 64) ∧ (2 ≤ S ∧ S ≤ 8) ∧ BarsAt H l ps ∧ ps.length ≤ 64 ∧ TurnsOk L ps ∧ ∀ (a : Addr) (H' : Hp), Same H H' → NestAt H' S d L ps a → LO H H' d a → Q (.ref a) H'
section
variable {P : Program} {w : World} {K : PySem.W.Frag} {mg : Str → Option Value} {base : Heap}
theorem sc_nest_of : FnScope ["lines", "small", "turns", "depth", "place"] ["lines", "small", "turns", "depth"] (defScope (top 25)) := ⟨rfl, rfl, rfl, by decide +kernel, rfl, by decide +kernel, by decide +kernel⟩
theorem ok_nestof (T : Txt K mg) (C_first_wrong : Callee P w K mg base 4 "first_wrong" ["things", "firsts", "seconds"] (spFirst K)) (C_right_nest : Callee P w K mg base 16 "right_nest" ["lines", "small", "turns", "depth"] (spRN 6)) (D : DefD K mg "nest_of" (top 25) ["lines", "small", "turns", "depth"] [.int 6]) : CalleeD P w K mg base 17 "nest_of" ["lines", "small", "turns", "depth"] [.int 6] spNestOf := by
  refine D.ok sc_nest_of (fun vs H Q E h => ?_) (fun f cdv A outer s H vs Q E hr h => ?_)
  · obtain ⟨L, S, d, l, ps, rfl, _⟩ := h
    rfl
  obtain ⟨L, S, d, l, ps, rfl, hd, hL, hS, hb, few, ok, q⟩ := h
  refine ⟨_, (pss_cons (ps_set (i := 4) sc_nest_of.nd rfl (Or.inl rfl) (pe_fn C_first_wrong hr rfl (pa_cons (pv 2) (pa_cons (pv 0) (pa_cons (pv 0) pa_nil st_name) st_name) st_name)))
    (pss_cons (ps_if (pt_cmpR op_notN (pv 4) pe_non (nomark _)) (pss_one ps_never) pss_nil)
    (pss_one (ps_ret (pe_fn C_right_nest hr rfl (pa_cons (pv 0) (pa_cons (pv 1) (pa_cons (pv 2) (pa_cons (pv 3) pa_nil st_name) st_name) st_name) st_name)))))), ?_⟩
  obtain ⟨as, el, pr⟩ := id hb
  have ln : as.length = ps.length := Paired.length pr
  refine ⟨_, rfl, _, rfl, _, rfl, l, as.map V.ref, ps.map fun p => some [V.int p.1, V.int p.2], L, L, rfl, SqL.of el, ?_, by rw [List.length_map]; omega, fun H1 s1 => ?_⟩
  · refine paired_map (things_refs (Paired.mapP pr fun a p z => ?_))
    exact ThingIs.tup z fun x hx => by
      rcases List.mem_cons.mp hx with y | y
      · rw [y]; exact .int _
      · rw [List.mem_singleton.mp y]; exact .int _
  rw [first_ok ps [] 0 ok.bd ok.n1 ok.n2]
  refine ⟨_, rfl, rfl, _, rfl, iteF ?_⟩
  exact ⟨_, rfl, _, rfl, _, rfl, _, rfl, L, S, d, l, ps, rfl, hd, hL, hS, hb.same s1, few, ok, fun a H' s' hN hO => q a H' (s1.trans s') hN (let ⟨ads, h1, h2⟩ := hO; ⟨ads, h1, h2.wide s1⟩)⟩
end
abbrev Tg := Bool × Addr × Addr
def zf (e : Tg) : Addr := e.2.1
def zg (e : Tg) : Addr := e.2.2
def tagT (ps : List (Addr × Addr)) : List Tg := ps.map fun p => (true, p)
theorem tag_f (ps : List (Addr × Addr)) : (tagT ps).map zf = ps.map Prod.fst := by
  unfold tagT
  rw [List.map_map]
  rfl
theorem tag_g (ps : List (Addr × Addr)) : (tagT ps).map zg = ps.map Prod.snd := by
  unfold tagT
  rw [List.map_map]
  rfl
def ElK (H : Hp) (x y : V) : Prop := (∃ a, x = .ref a ∧ y = .ref a) ∨ ∃ t t', x = .ref t ∧ y = .ref t' ∧ H t = some (.tup [.int 0, .int 0]) ∧ H t' = some (.tup [.int 0, .int 0])
def BarK (c : Nat) (H : Hp) (x x' : Addr) : Prop := ∃ us vs : List V, H x = some (.lst us) ∧ H x' = some (.lst vs) ∧ Paired (ElK H) us vs ∧ us.length ≤ c
def RackK (c : Nat) (H : Hp) (a a' : Addr) (zs : List Tg) : Prop := ∃ (L : Int) (l l' : Addr), H a = some (.tup [.str "rack", .int L, .ref l]) ∧ H a' = some (.tup [.str "rack", .int L, .ref l']) ∧ BarK c H l l' ∧ zs = [(true, l, l')]
def TwinAt (c : Nat) (H : Hp) : Nat → Addr → Addr → List Tg → Prop
  | 0, a, a', zs => RackK c H a a' zs
  | d + 1, a, a', zs => RackK c H a a' zs ∨ ∃ (L S : Int) (fl al ll fl' al' ll' : Addr) (fs ms ls fs' ms' ls' : List Addr) (zss : List (List Tg)), H a = some (.tup [.str "hall", .int L, .int S, .ref fl, .ref al, .ref ll]) ∧ H a' = some (.tup [.str "hall", .int L, .int S, .ref fl', .ref al', .ref ll']) ∧
      (H fl = some (.lst (fs.map V.ref)) ∧ H al = some (.lst (ms.map V.ref)) ∧ H ll = some (.lst (ls.map V.ref))) ∧ (H fl' = some (.lst (fs'.map V.ref)) ∧ H al' = some (.lst (ms'.map V.ref)) ∧ H ll' = some (.lst (ls'.map V.ref))) ∧
      Paired (BarK c H) fs fs' ∧ Paired (BarK c H) ls ls' ∧ (0 < fs.length ∧ fs.length ≤ 64) ∧ (0 < ls.length ∧ ls.length ≤ 64) ∧ ((ms.length : Nat) : Int) = S ∧ (2 ≤ S ∧ S ≤ 8) ∧ ms'.length = ms.length ∧
      Paired (fun (p : Addr × Addr) z => TwinAt c H d p.1 p.2 z) (ms.zip ms') zss ∧ zs = ((false, al, al') :: zss.flatten) ++ (((false, fl, fl') :: tagT (fs.zip fs')) ++ ((false, ll, ll') :: tagT (ls.zip ls')))
theorem ElK.same {H H' : Hp} (s : Same H H') {x y : V} (h : ElK H x y) : ElK H' x y := by
  rcases h with h | ⟨t, t', e1, e2, e3, e4⟩
  · exact .inl h
  · exact .inr ⟨t, t', e1, e2, s _ _ e3, s _ _ e4⟩
theorem BarK.same {c : Nat} {H H' : Hp} (s : Same H H') {x y : Addr} (h : BarK c H x y) : BarK c H' x y := let ⟨us, vs, e1, e2, p, n⟩ := h; ⟨us, vs, s _ _ e1, s _ _ e2, Paired.mapP p fun _ _ z => z.same s, n⟩
theorem TwinAt.same {c : Nat} {H H' : Hp} (s : Same H H') : ∀ {d : Nat} {a a' : Addr} {zs : List Tg}, TwinAt c H d a a' zs → TwinAt c H' d a a' zs := by
  have rk : ∀ {a a' : Addr} {zs : List Tg}, RackK c H a a' zs → RackK c H' a a' zs := fun h => let ⟨L, l, l', e1, e2, e3, z⟩ := h; ⟨L, l, l', s _ _ e1, s _ _ e2, e3.same s, z⟩
  intro d
  induction d with
  | zero => exact fun h => rk h
  | succ d ih =>
    intro a a' zs h
    rcases h with h | ⟨L, S, fl, al, ll, fl', al', ll', fs, ms, ls, fs', ms', ls', zss, e, e', ⟨e1, e2, e3⟩, ⟨f1, f2, f3⟩, p1, p2, n1, n2, n3, n4, n5, pd, z⟩
    · exact .inl (rk h)
    · exact .inr ⟨L, S, fl, al, ll, fl', al', ll', fs, ms, ls, fs', ms', ls', zss, s _ _ e, s _ _ e', ⟨s _ _ e1, s _ _ e2, s _ _ e3⟩, ⟨s _ _ f1, s _ _ f2, s _ _ f3⟩, Paired.mapP p1 fun _ _ w => w.same s, Paired.mapP p2 fun _ _ w => w.same s, n1, n2, n3, n4, n5, Paired.mapP pd fun _ _ w => ih w, z⟩
theorem TwinAt.rack {c : Nat} {H : Hp} {d : Nat} {a a' : Addr} {zs : List Tg} (h : RackK c H a a' zs) : TwinAt c H d a a' zs := by
  cases d with
  | zero => exact h
  | succ d => exact .inl h
theorem refs_elk {H : Hp} (as : List Addr) : Paired (ElK H) (as.map V.ref) (as.map V.ref) := by
  induction as with
  | nil => exact .nil
  | cons a t ih => exact .cons (.inl ⟨a, rfl, rfl⟩) ih
theorem paired_idx {α β : Type} {R : α → β → Prop} {as : List α} {bs : List β} (hl : bs.length = as.length) (h : ∀ (k : Nat) (b : β), bs[k]? = some b → ∃ a, as[k]? = some a ∧ R a b) : Paired R as bs := by
  induction as generalizing bs with
  | nil =>
    cases bs with
    | nil => exact .nil
    | cons _ _ => cases hl
  | cons a t ih =>
    cases bs with
    | nil => cases hl
    | cons b u =>
      obtain ⟨a', e, r⟩ := h 0 b rfl
      cases e
      exact .cons r (ih (Nat.succ.inj hl) fun k x hk => h (k + 1) x hk)
theorem comp_own2 {K : PySem.W.Frag} {a : Addr} {as : List Addr} {te : TE} {v : Option V} {σ : L2.St} {H : Hp} {Q : VK} (R : Hp → Nat → Addr → List Addr → Prop) (mono : ∀ G G' k x ads, Same G G' → R G k x ads → R G' k x ads) (hl : H a = some (.lst (as.map V.ref))) (hz : as.length ≤ sizeLine)
    (step : ∀ (i : Nat) (x : Addr) (G : Hp), as[i]? = some x → Same H G → ∀ Q' : VK, (∀ y G' ads, Same G G' → R G' i y ads → News G G' ads → Q' (.ref y) G') → te (some (.ref x) :: σ) G Q')
    (q : ∀ (ms : List Addr) (bss : List (List Addr)) (p : Addr) (G : Hp), ms.length = as.length → bss.length = as.length → (∀ k x, ms[k]? = some x → ∃ ads, bss[k]? = some ads ∧ R G k x ads) → News H G (bss.flatten ++ [p]) → Same H G → G p = some (.lst (ms.map V.ref)) → Q (.ref p) G) : CompGo (Itl K a) (gName 0) tYes te Q (v :: σ) H := by
  refine comp_list (xs := as.map V.ref) (fun i acc σ' G => Same H G ∧ (∃ (ms : List Addr) (bss : List (List Addr)), acc = ms.map V.ref ∧ ms.length = i ∧ bss.length = i ∧ (∀ k x, ms[k]? = some x → ∃ ads, bss[k]? = some ads ∧ R G k x ads) ∧ News H G bss.flatten) ∧ ∃ v, σ' = v :: σ) ⟨Same.refl _, ⟨[], [], rfl, rfl, rfl, (fun k x h => by cases h), News.nil⟩, _, rfl⟩ ?_ ?_ ?_ ?_ ?_
  · rw [List.length_map]; exact hz
  · rintro i acc σ' G ⟨_, ⟨ms, bss, rfl, hl, _⟩, _⟩
    rw [List.length_map]
    exact Nat.le_of_eq hl
  · rintro i acc σ' G _ ⟨s, _⟩
    exact SqL.of (s _ _ hl)
  · rintro i x acc σ' G hx ⟨s, ⟨ms, bss, rfl, hl, hb, hR, hn⟩, v, rfl⟩
    rw [List.getElem?_map] at hx
    obtain ⟨x, hx', rfl⟩ := Option.map_eq_some_iff.mp hx
    refine step i x G hx' s _ fun y G' ads s' hy ny => ?_
    refine ⟨s.trans s', ⟨ms ++ [y], bss ++ [ads], by rw [List.map_append]; rfl, by rw [List.length_append, hl]; rfl, by rw [List.length_append, hb]; rfl, fun k z hk => ?_, ?_⟩, _, rfl⟩
    · by_cases c : k < ms.length
      · rw [List.getElem?_append_left c] at hk
        obtain ⟨ads', h1, h2⟩ := hR k z hk
        exact ⟨ads', by rw [List.getElem?_append_left (by omega)]; exact h1, mono _ _ _ _ _ s' h2⟩
      · rw [List.getElem?_append_right (by omega)] at hk
        have : k - ms.length = 0 := by
          have := (List.getElem?_eq_some_iff.mp hk).1
          rw [List.length_singleton] at this
          omega
        rw [this] at hk
        cases hk
        obtain rfl : k = i := by omega
        exact ⟨ads, by rw [List.getElem?_append_right (by omega), hb, Nat.sub_self]; rfl, hy⟩
    · rw [List.flatten_append, List.flatten_singleton]
      exact hn.app s s' ny
  rintro acc σ' G ⟨s, ⟨ms, bss, rfl, hl, hb, hR, hn⟩, v, rfl⟩ p hp
  have s2 := same_new hp (.lst (ms.map V.ref))
  exact q ms bss p _ (by rw [hl, List.length_map]) (by rw [hb, List.length_map]) (fun k x hk => let ⟨ads, h1, h2⟩ := hR k x hk; ⟨ads, h1, mono _ _ _ _ _ s2 h2⟩) (hn.app s s2 (News.one hp)) (s.trans s2) upd_same
theorem flat_one {ms : List Addr} {bss : List (List Addr)} (hl : bss.length = ms.length) (h : ∀ (k : Nat) (x : Addr), ms[k]? = some x → bss[k]? = some [x]) : bss.flatten = ms := by
  induction ms generalizing bss with
  | nil =>
    cases bss with
    | nil => rfl
    | cons _ _ => cases hl
  | cons m t ih =>
    cases bss with
    | nil => cases hl
    | cons b u =>
      have := h 0 m rfl
      cases this
      rw [List.flatten_cons, ih (Nat.succ.inj hl) fun k x hk => h (k + 1) x hk]
      rfl
theorem twins_of {c : Nat} {G : Hp} {d : Nat} {ms ms' : List Addr} {ads bds : List (List Addr)} (l1 : ms'.length = ms.length) (l2 : ads.length = ms.length) (l3 : bds.length = ms.length)
    (h : ∀ (k : Nat) (x : Addr), ms'[k]? = some x → ∃ b, bds[k]? = some b ∧ ∃ m zs, ms[k]? = some m ∧ ads[k]? = some (zs.map zf) ∧ TwinAt c G d m x zs ∧ zs.map zg = b) :
    ∃ zss : List (List Tg), Paired (fun (p : Addr × Addr) z => TwinAt c G d p.1 p.2 z) (ms.zip ms') zss ∧ zss.flatten.map zf = ads.flatten ∧ zss.flatten.map zg = bds.flatten := by
  induction ms generalizing ms' ads bds with
  | nil =>
    cases ads with
    | cons _ _ => cases l2
    | nil =>
    cases bds with
    | cons _ _ => cases l3
    | nil => exact ⟨[], .nil, rfl, rfl⟩
  | cons m ms ih =>
    cases ms' with
    | nil => cases l1
    | cons x ms' =>
    cases ads with
    | nil => cases l2
    | cons a ads =>
    cases bds with
    | nil => cases l3
    | cons b bds =>
    obtain ⟨b', e1, m', zs, e2, e3, tw, e4⟩ := h 0 x rfl
    cases e1
    cases e2
    have e3 : a = zs.map zf := Option.some.inj e3
    obtain ⟨zss, p, q1, q2⟩ := ih (Nat.succ.inj l1) (Nat.succ.inj l2) (Nat.succ.inj l3) fun k y hk => h (k + 1) y hk
    exact ⟨zs :: zss, .cons tw p, by rw [List.flatten_cons, List.map_append, q1, List.flatten_cons, e3], by rw [List.flatten_cons, List.map_append, q2, List.flatten_cons, e4]⟩
def spCopied (n : Nat) : Sp := fun vs H Q _ => ∃ (a : Addr) (d : Nat) (ads : List Addr), vs = [.ref a] ∧ d ≤ n ∧ LstsAt H d a ads ∧ ∀ (a' : Addr) (zs : List Tg) (H' : Hp), Same H H' → TwinAt 64 H' d a a' zs → zs.map zf = ads → News H H' (zs.map zg) → Q (.ref a') H'
section
variable {P : Program} {w : World} {K : PySem.W.Frag} {mg : Str → Option Value} {base : Heap}
theorem sc__law_copied : FnScope ["_law_nest", "_law_firsts", "_law_lasts"] ["_law_nest"] (defScope (top 39)) := ⟨rfl, rfl, rfl, by decide +kernel, rfl, by decide +kernel, by decide +kernel⟩
set_option maxHeartbeats 4000000 in
theorem copied_body (T : Txt K mg) (n k : Nat) (sp : Sp) (C__law_copied : Callee P w K mg base k "_law_copied" ["_law_nest"] sp) (D : Def K mg "_law_copied" (top 39) ["_law_nest"]) (hsp : ∀ m, n = m + 1 → sp = spCopied m) : Callee P w K mg base (k+1) "_law_copied" ["_law_nest"] (spCopied n) := by
  refine D.ok sc__law_copied (fun vs H Q E h => ?_) (fun f cdv A outer s H vs Q E hr h => ?_)
  · obtain ⟨a, d, ads, rfl, _⟩ := h
    rfl
  obtain ⟨a, d, ads, rfl, hd, hN, q⟩ := h
  refine ⟨_, (pss_cons (ps_if (pt_cmpR op_eq (pe_ix (ix_tupK K) (pv 0) pe_int (fun _ _ => rfl)) pe_str (nomark _)) (pss_one (ps_ret (pe_tup (pa_cons (pe_ix (ix_tupK K) (pv 0) pe_int (fun _ _ => rfl)) (pa_cons (pe_ix (ix_tupK K) (pv 0) pe_int (fun _ _ => rfl)) (pa_cons (pe_callTy (call_listK K) rfl T.m_list boot_list (pa_cons (pe_ix (ix_tupK K) (pv 0) pe_int (fun _ _ => rfl)) pa_nil st_sub)) pa_nil st_call) st_sub) st_sub)))) pss_nil)
    (pss_cons (ps_comp (i := 1) (own := ["_law_bars_here"]) (fr := []) rfl sc__law_copied.nd rfl rfl (show CompScope ["_law_nest", "_law_firsts", "_law_lasts"] (defScope (top 39)) _ _ _ from ⟨rfl, by decide +kernel, by decide +kernel, by decide +kernel, by decide +kernel⟩) (pi_listK K (pe_ix (ix_tupK K) (pv 0) pe_int (fun _ _ => rfl))) (fun cl C s H ex => ⟨(pg_name (i := 0) (show (["_law_bars_here"] : List Str).Nodup from by decide +kernel) rfl (Or.inl rfl) (Or.inr rfl)), pif_nil, (pe_callTy (call_listK K) rfl T.m_list boot_list (pa_cons (pv 0) pa_nil st_name))⟩) rfl)
    (pss_cons (ps_comp (i := 2) (own := ["_law_bars_here"]) (fr := []) rfl sc__law_copied.nd rfl rfl (show CompScope ["_law_nest", "_law_firsts", "_law_lasts"] (defScope (top 39)) _ _ _ from ⟨rfl, by decide +kernel, by decide +kernel, by decide +kernel, by decide +kernel⟩) (pi_listK K (pe_ix (ix_tupK K) (pv 0) pe_int (fun _ _ => rfl))) (fun cl C s H ex => ⟨(pg_name (i := 0) (show (["_law_bars_here"] : List Str).Nodup from by decide +kernel) rfl (Or.inl rfl) (Or.inr rfl)), pif_nil, (pe_callTy (call_listK K) rfl T.m_list boot_list (pa_cons (pv 0) pa_nil st_name))⟩) rfl)
    (pss_one (ps_ret (pe_tup (pa_cons (pe_ix (ix_tupK K) (pv 0) pe_int (fun _ _ => rfl)) (pa_cons (pe_ix (ix_tupK K) (pv 0) pe_int (fun _ _ => rfl)) (pa_cons (pe_ix (ix_tupK K) (pv 0) pe_int (fun _ _ => rfl)) (pa_cons (pv 1) (pa_cons (pe_comp (own := ["_law_inner"]) (fr := []) rfl (show CompScope ["_law_nest", "_law_firsts", "_law_lasts"] (defScope (top 39)) _ _ _ from ⟨rfl, by decide +kernel, by decide +kernel, by decide +kernel, by decide +kernel⟩) (pi_listK K (pe_ix (ix_tupK K) (pv 0) pe_int (fun _ _ => rfl))) (fun cl C s H ex => ⟨(pg_name (i := 0) (show (["_law_inner"] : List Str).Nodup from by decide +kernel) rfl (Or.inl rfl) (Or.inr rfl)), pif_nil, (pe_fn C__law_copied hr rfl (pa_cons (pv 0) pa_nil st_name) (by omega))⟩)) (pa_cons (pv 2) pa_nil st_name) st_comp) st_name) st_sub) st_sub) st_sub))))))), ?_⟩
  have hN' : RackL H a ads ∨ ∃ d', d = d' + 1 ∧ ¬ RackL H a ads ∧ LstsAt H (d' + 1) a ads := by
    by_cases c : RackL H a ads
    · exact .inl c
    · cases d with
      | zero => exact absurd hN c
      | succ d' => exact .inr ⟨d', rfl, c, hN⟩
  rcases hN' with ⟨L, l, e, ⟨as, el, nl⟩, rfl⟩ | ⟨d', rfl, nR, hN⟩
  · refine ⟨_, rfl, a, _, _, _, rfl, rfl, SqT.of e, rfl, rfl, _, rfl, iteT ?_⟩
    refine ⟨_, rfl, a, _, _, _, rfl, rfl, SqT.of e, rfl, _, rfl, a, _, _, _, rfl, rfl, SqT.of e, rfl, _, rfl, a, _, _, _, rfl, rfl, SqT.of e, rfl, l, _, rfl, .inl (SqL.of el), fun l' hl' => ?_⟩
    refine ⟨(by show 3 ≤ sizeLine; decide), fun t ht => ?_⟩
    have s1 := same_new hl' (.lst (as.map V.ref))
    have s2 := same_new ht (.tup [.str "rack", .int L, .ref l'])
    refine q t [(true, l, l')] _ (s1.trans s2) (TwinAt.rack ⟨L, l, l', (s1.trans s2) _ _ e, upd_same, ⟨_, _, (s1.trans s2) _ _ el, s2 _ _ upd_same, refs_elk as, by rw [List.length_map]; exact nl⟩, rfl⟩) rfl ?_
    exact (News.one hl').on s2
  rcases hN with h | ⟨L, S, fl, al, ll, fs, ms, ls, adss, e, efl, eal, ell, f1, f2, n1, n2, n3, n4, pd, rfl⟩
  · exact absurd h nR
  obtain ⟨m, rfl⟩ : ∃ m, n = m + 1 := ⟨n - 1, by omega⟩
  obtain rfl := hsp m rfl
  refine ⟨_, rfl, a, _, _, _, rfl, rfl, SqT.of e, rfl, rfl, _, rfl, iteN (fun z => absurd (V.str.inj (of_decide_eq_true z)) (by decide)) ?_⟩
  refine ⟨_, rfl, a, _, _, _, rfl, rfl, SqT.of e, rfl, fl, rfl, ⟨_, SqL.of efl⟩, ?_⟩
  refine comp_own2 (fun G k x ads => ads = [x] ∧ ∃ f, fs[k]? = some f ∧ BarK 64 G f x) (fun G G' k x ads s ⟨h0, f, h1, h2⟩ => ⟨h0, f, h1, h2.same s⟩) efl (Nat.le_trans n1.2 (by decide)) (fun i x G hx s Q' k' => ?_) fun gs gss gl G1 lg lgs hgs nwg s1 egl => ?_
  · obtain ⟨as, ex, nx⟩ := f1 x (List.mem_of_getElem? hx)
    refine ⟨_, rfl, x, _, rfl, .inl (SqL.of (s _ _ ex)), fun y hy => ?_⟩
    have s' := same_new hy (.lst (as.map V.ref))
    exact k' y _ [y] s' ⟨rfl, x, hx, _, _, s' _ _ (s _ _ ex), upd_same, refs_elk as, by rw [List.length_map]; exact nx⟩ (News.one hy)
  dsimp only [gName, tNext]
  have e1 := s1 _ _ e
  refine ⟨_, rfl, a, _, _, _, rfl, rfl, SqT.of e1, rfl, ll, rfl, ⟨_, SqL.of (s1 _ _ ell)⟩, ?_⟩
  refine comp_own2 (fun G k x ads => ads = [x] ∧ ∃ f, ls[k]? = some f ∧ BarK 64 G f x) (fun G G' k x ads s ⟨h0, f, h1, h2⟩ => ⟨h0, f, h1, h2.same s⟩) (s1 _ _ ell) (Nat.le_trans n2.2 (by decide)) (fun i x G hx s Q' k' => ?_) fun hs hss hl G2 lh lhs hhs nwh s2 ehl => ?_
  · obtain ⟨as, ex0, nx⟩ := f2 x (List.mem_of_getElem? hx)
    have ex := (s1.trans s) _ _ ex0
    refine ⟨_, rfl, x, _, rfl, .inl (SqL.of ex), fun y hy => ?_⟩
    have s' := same_new hy (.lst (as.map V.ref))
    exact k' y _ [y] s' ⟨rfl, x, hx, _, _, s' _ _ ex, upd_same, refs_elk as, by rw [List.length_map]; exact nx⟩ (News.one hy)
  dsimp only [gName, tNext]
  have s12 := s1.trans s2
  have e2 := s12 _ _ e
  have lad : adss.length = ms.length := (Paired.length pd).symm
  refine ⟨_, rfl, a, _, _, _, rfl, rfl, SqT.of e2, rfl, _, rfl, a, _, _, _, rfl, rfl, SqT.of e2, rfl, _, rfl, a, _, _, _, rfl, rfl, SqT.of e2, rfl, _, rfl, _, rfl, a, _, _, _, rfl, rfl, SqT.of e2, rfl, al, rfl, ⟨_, SqL.of (s12 _ _ eal)⟩, ?_⟩
  refine comp_own2 (fun G k x bds => ∃ (m : Addr) (zs : List Tg), ms[k]? = some m ∧ adss[k]? = some (zs.map zf) ∧ TwinAt 64 G d' m x zs ∧ zs.map zg = bds) (fun G G' k x bds s ⟨m, zs, h1, h2, h3, h4⟩ => ⟨m, zs, h1, h2, h3.same s, h4⟩) (s12 _ _ eal) (Nat.le_trans (show ms.length ≤ 8 by omega) (by decide)) (fun i x G hx s Q' k' => ?_) fun ns nss nl G3 ln3 lns hns nwn s3 enl => ?_
  · obtain ⟨ads, hads, hx2⟩ := paired_at pd i x hx
    exact ⟨_, rfl, x, d', ads, rfl, by omega, LstsAt.same (s12.trans s) hx2, fun a' zs G' s' tw z nw => k' a' G' _ s' ⟨x, zs, hx, by rw [hads, z], tw, rfl⟩ nw⟩
  obtain ⟨zss, pz, q1, q2⟩ := twins_of ln3 lad lns hns
  refine ⟨_, rfl, (by show 6 ≤ sizeLine; decide), fun t ht => ?_⟩
  have s4 := same_new ht (.tup [.str "hall", .int L, .int S, .ref gl, .ref nl, .ref hl])
  have s34 := s3.trans s4
  have s24 := s2.trans s34
  have s14 := s1.trans s24
  have pf : Paired (BarK 64 G1) fs gs := paired_idx lg fun k x hk => by
    obtain ⟨ads, _, _, f, h1, h2⟩ := hgs k x hk
    exact ⟨f, h1, h2⟩
  have pl : Paired (BarK 64 G2) ls hs := paired_idx lh fun k x hk => by
    obtain ⟨ads, _, _, f, h1, h2⟩ := hhs k x hk
    exact ⟨f, h1, h2⟩
  have fg : gss.flatten = gs := flat_one (by omega) fun k x hk => let ⟨ads, h1, h2, _⟩ := hgs k x hk; by rw [h1, h2]
  have fh : hss.flatten = hs := flat_one (by omega) fun k x hk => let ⟨ads, h1, h2, _⟩ := hhs k x hk; by rw [h1, h2]
  rw [fg] at nwg
  rw [fh] at nwh
  refine q t (((false, al, nl) :: zss.flatten) ++ (((false, fl, gl) :: tagT (fs.zip gs)) ++ ((false, ll, hl) :: tagT (ls.zip hs)))) _ s14 (.inr ⟨L, S, fl, al, ll, gl, nl, hl, fs, ms, ls, gs, ns, hs, zss, s14 _ _ e, upd_same, ⟨s14 _ _ efl, s14 _ _ eal, s14 _ _ ell⟩, ⟨s24 _ _ egl, s4 _ _ enl, s34 _ _ ehl⟩, Paired.mapP pf fun _ _ z => z.same s24, Paired.mapP pl fun _ _ z => z.same s34, n1, n2, n3, n4, ln3, Paired.mapP pz fun _ _ z => z.same s4, rfl⟩) ?_ ?_
  · rw [List.map_append, List.map_append, List.map_cons, List.map_cons, List.map_cons, q1, tag_f, tag_f, List.map_fst_zip (by omega), List.map_fst_zip (by omega)]
    rfl
  · rw [List.map_append, List.map_append, List.map_cons, List.map_cons, List.map_cons, q2, tag_g, tag_g, List.map_snd_zip (by omega), List.map_snd_zip (by omega)]
    have nw := ((nwg.app s1 s2 nwh).app s12 s3 nwn).on s4
    refine News.perm ?_ nw
    refine (List.perm_append_comm).trans ?_
    exact ((List.perm_append_singleton _ _).symm.append (List.perm_append_singleton _ _).symm).append (List.perm_append_singleton _ _).symm
theorem ok_copied (T : Txt K mg) (D : Def K mg "_law_copied" (top 39) ["_law_nest"]) : ∀ n : Nat, Callee P w K mg base (n+1) "_law_copied" ["_law_nest"] (spCopied n)
  | 0 => copied_body T 0 0 _ (callee_never D 0) D fun m h => nomatch h
  | n + 1 => copied_body T (n + 1) (n + 1) _ (ok_copied T D n) D fun m h => by cases h; rfl
end
def Far (l l' : Addr) (zs : List Tg) : Prop := ∀ e ∈ zs, (zf e = l ↔ zg e = l') ∧ (zf e = l → e.1 = true) ∧ zf e ≠ l' ∧ zg e ≠ l
theorem nodup_inj {α β : Type} {f : α → β} : ∀ {l : List α}, (l.map f).Nodup → ∀ {x y : α}, x ∈ l → y ∈ l → f x = f y → x = y
  | [], _, _, _, hx, _, _ => nomatch hx
  | a :: t, h, x, y, hx, hy, e => by
    rw [List.map_cons, List.nodup_cons] at h
    rcases List.mem_cons.mp hx with e1 | h1 <;> rcases List.mem_cons.mp hy with e2 | h2
    · exact e1.trans e2.symm
    · exact absurd (by rw [← e1, e]; exact List.mem_map_of_mem h2) h.1
    · exact absurd (by rw [← e2, ← e]; exact List.mem_map_of_mem h1) h.1
    · exact nodup_inj h.2 h1 h2 e
theorem far_of {H H' : Hp} {zs : List Tg} {l l' : Addr} (hm : (true, l, l') ∈ zs) (n1 : (zs.map zf).Nodup) (h1 : ∀ x ∈ zs.map zf, ∃ o, H x = some o) (nw : News H H' (zs.map zg)) : Far l l' zs := fun e he => by
  have key : zf e = l → e = (true, l, l') := fun h => nodup_inj n1 he hm h
  have key' : zg e = l' → e = (true, l, l') := fun h => nodup_inj nw.1 he hm h
  refine ⟨⟨fun h => by rw [key h]; rfl, fun h => by rw [key' h]; rfl⟩, fun h => by rw [key h], fun h => ?_, fun h => ?_⟩
  · obtain ⟨o, ho⟩ := h1 _ (List.mem_map_of_mem he)
    have := (nw.2 l' (List.mem_map_of_mem (f := zg) hm)).1
    rw [h, this] at ho
    cases ho
  · obtain ⟨o, ho⟩ := h1 l (List.mem_map_of_mem (f := zf) hm)
    have := (nw.2 _ (List.mem_map_of_mem he)).1
    rw [h, ho] at this
    cases this
structure Put (H H' : Hp) (l l' : Addr) : Prop where
  ex : ∃ (us vs : List V) (t t' : Addr), H l = some (.lst us) ∧ H l' = some (.lst vs) ∧ H' l = some (.lst (us ++ [.ref t])) ∧ H' l' = some (.lst (vs ++ [.ref t'])) ∧ H' t = some (.tup [.int 0, .int 0]) ∧ H' t' = some (.tup [.int 0, .int 0])
  keep : ∀ x o, x ≠ l → x ≠ l' → H x = some o → H' x = some o
theorem Put.tup {H H' : Hp} {l l' : Addr} (p : Put H H' l l') {a : Addr} {xs : List V} (h : H a = some (.tup xs)) : H' a = some (.tup xs) := by
  obtain ⟨us, vs, t, t', e1, e2, _⟩ := p.ex
  refine p.keep _ _ (fun z => ?_) (fun z => ?_) h
  · rw [z, e1] at h; cases h
  · rw [z, e2] at h; cases h
theorem Put.el {H H' : Hp} {l l' : Addr} (p : Put H H' l l') {x y : V} (h : ElK H x y) : ElK H' x y := by
  rcases h with h | ⟨t, t', e1, e2, e3, e4⟩
  · exact .inl h
  · exact .inr ⟨t, t', e1, e2, p.tup e3, p.tup e4⟩
theorem Put.bar {H H' : Hp} {l l' : Addr} (p : Put H H' l l') {c : Nat} {x x' : Addr} (h : BarK c H x x') (f : (x = l ↔ x' = l') ∧ x ≠ l' ∧ x' ≠ l) : BarK (c + 1) H' x x' := by
  obtain ⟨us, vs, e1, e2, pd, n⟩ := h
  have pd' := Paired.mapP pd fun _ _ z => p.el z
  by_cases y : x = l
  · have y' := f.1.mp y
    obtain ⟨us', vs', t, t', i1, i2, i3, i4, i5, i6⟩ := p.ex
    subst y
    subst y'
    rw [e1] at i1
    rw [e2] at i2
    cases i1
    cases i2
    exact ⟨_, _, i3, i4, pair_snoc pd' (.inr ⟨t, t', rfl, rfl, i5, i6⟩), by rw [List.length_append]; exact Nat.succ_le_succ n⟩
  · exact ⟨us, vs, p.keep _ _ y f.2.1 e1, p.keep _ _ f.2.2 (fun z => y (f.1.mpr z)) e2, pd', Nat.le_succ_of_le n⟩
theorem Paired.mapM {α β : Type} {R R' : α → β → Prop} {as : List α} {bs : List β} (h : Paired R as bs) (f : ∀ a b, b ∈ bs → R a b → R' a b) : Paired R' as bs := by
  induction h with
  | nil => exact .nil
  | cons r t ih => exact .cons (f _ _ (List.mem_cons_self ..) r) (ih fun a b hb => f a b (List.mem_cons_of_mem _ hb))
theorem Paired.mapZ {α β : Type} {R R' : α → β → Prop} {as : List α} {bs : List β} (h : Paired R as bs) (f : ∀ a b, (a, b) ∈ as.zip bs → R a b → R' a b) : Paired R' as bs := by
  induction h with
  | nil => exact .nil
  | cons r t ih => exact .cons (f _ _ (List.mem_cons_self ..) r) (ih fun a b hb => f a b (List.mem_cons_of_mem _ hb))
theorem Put.twin {H H' : Hp} {l l' : Addr} (p : Put H H' l l') {c : Nat} : ∀ {d : Nat} {a a' : Addr} {zs : List Tg}, TwinAt c H d a a' zs → Far l l' zs → TwinAt (c + 1) H' d a a' zs := by
  have rk : ∀ {a a' : Addr} {zs : List Tg}, RackK c H a a' zs → Far l l' zs → RackK (c + 1) H' a a' zs := fun h f => by
    obtain ⟨L, l0, l0', e1, e2, e3, rfl⟩ := h
    have := f _ (List.mem_singleton.mpr rfl)
    exact ⟨L, l0, l0', p.tup e1, p.tup e2, p.bar e3 ⟨this.1, this.2.2.1, this.2.2.2⟩, rfl⟩
  intro d
  induction d with
  | zero => exact fun h f => rk h f
  | succ d ih =>
    intro a a' zs h f
    rcases h with h | ⟨L, S, fl, al, ll, fl', al', ll', fs, ms, ls, fs', ms', ls', zss, e, e', ⟨e1, e2, e3⟩, ⟨f1, f2, f3⟩, p1, p2, n1, n2, n3, n4, n5, pd, z⟩
    · exact .inl (rk h f)
    subst z
    have no : ∀ x x', (false, x, x') ∈ ((false, al, al') :: zss.flatten) ++ (((false, fl, fl') :: tagT (fs.zip fs')) ++ ((false, ll, ll') :: tagT (ls.zip ls'))) → (∀ o, H x = some o → H' x = some o) ∧ ∀ o, H x' = some o → H' x' = some o := fun x x' hm => by
      obtain ⟨g1, g2, g3, g4⟩ := f _ hm
      have y : x ≠ l := fun z => nomatch g2 z
      exact ⟨fun o => p.keep x o y g3, fun o => p.keep x' o g4 fun z => y (g1.mpr z)⟩
    have tg : ∀ (us vs : List Addr), (∀ q, q ∈ tagT (us.zip vs) → q ∈ ((false, al, al') :: zss.flatten) ++ (((false, fl, fl') :: tagT (fs.zip fs')) ++ ((false, ll, ll') :: tagT (ls.zip ls')))) → Paired (BarK c H) us vs → Paired (BarK (c + 1) H') us vs := fun us vs hm hp => Paired.mapZ hp fun x y hxy hb => by
      have := f _ (hm (true, x, y) (List.mem_map.mpr ⟨_, hxy, rfl⟩))
      exact p.bar hb ⟨this.1, this.2.2.1, this.2.2.2⟩
    have na := no al al' (List.mem_append_left _ (List.mem_cons_self ..))
    have nf := no fl fl' (List.mem_append_right _ (List.mem_append_left _ (List.mem_cons_self ..)))
    have nl := no ll ll' (List.mem_append_right _ (List.mem_append_right _ (List.mem_cons_self ..)))
    refine .inr ⟨L, S, fl, al, ll, fl', al', ll', fs, ms, ls, fs', ms', ls', zss, p.tup e, p.tup e', ⟨nf.1 _ e1, na.1 _ e2, nl.1 _ e3⟩, ⟨nf.2 _ f1, na.2 _ f2, nl.2 _ f3⟩, tg fs fs' (fun q hq => List.mem_append_right _ (List.mem_append_left _ (List.mem_cons_of_mem _ hq))) p1, tg ls ls' (fun q hq => List.mem_append_right _ (List.mem_append_right _ (List.mem_cons_of_mem _ hq))) p2, n1, n2, n3, n4, n5, ?_, rfl⟩
    exact Paired.mapM pd fun q z hz w => ih w fun e he => f e (List.mem_append_left _ (List.mem_cons_of_mem _ (List.mem_flatten.mpr ⟨z, hz, he⟩)))
theorem el_lk {K : PySem.W.Frag} {H : Hp} {n : Nat} {x y : V} (h : ElK H x y) : LkV K H (n + 1) x y := by
  rcases h with ⟨a, rfl, rfl⟩ | ⟨t, t', rfl, rfl, e1, e2⟩
  · exact LkV.self (.inl rfl)
  · exact .inr ⟨t, t', _, _, rfl, rfl, .inl ⟨SqT.of e1, SqT.of e2⟩, .cons (LkV.self (.inl rfl)) (.cons (LkV.self (.inl rfl)) .nil)⟩
theorem bar_lk {K : PySem.W.Frag} {c : Nat} {H : Hp} {n : Nat} {x y : Addr} (h : BarK c H x y) : LkV K H (n + 2) (.ref x) (.ref y) := by
  obtain ⟨us, vs, e1, e2, pd, _⟩ := h
  exact .inr ⟨x, y, us, vs, rfl, rfl, .inr ⟨SqL.of e1, SqL.of e2⟩, Paired.mapP pd fun _ _ w => el_lk w⟩
theorem refs_lk {K : PySem.W.Frag} {H : Hp} {n : Nat} {as bs : List Addr} (h : Paired (fun x y => LkV K H n (.ref x) (.ref y)) as bs) : Paired (LkV K H n) (as.map V.ref) (bs.map V.ref) := by
  induction h with
  | nil => exact .nil
  | cons r t ih => exact .cons r ih
theorem zip_pair {α β γ : Type} {R : α → β → Prop} {Q : (α × β) → γ → Prop} {as : List α} {bs : List β} {zs : List γ} (hl : bs.length = as.length) (h : Paired Q (as.zip bs) zs) (f : ∀ a b z, Q (a, b) z → R a b) : Paired R as bs := by
  induction as generalizing bs zs with
  | nil =>
    cases bs with
    | nil => exact .nil
    | cons _ _ => cases hl
  | cons a t ih =>
    cases bs with
    | nil => cases hl
    | cons b u =>
      cases h with
      | cons r h => exact .cons (f _ _ _ r) (ih (Nat.succ.inj hl) h)
theorem tw_pd {K : PySem.W.Frag} {c : Nat} {H : Hp} : ∀ {d : Nat} {a a' : Addr} {zs : List Tg} {n : Nat}, TwinAt c H d a a' zs → 2 * d + 3 ≤ n → ∃ xs ys : List V, H a = some (.tup xs) ∧ H a' = some (.tup ys) ∧ Paired (LkV K H n) xs ys := by
  have rk : ∀ {a a' : Addr} {zs : List Tg} {n : Nat}, RackK c H a a' zs → 3 ≤ n → ∃ xs ys : List V, H a = some (.tup xs) ∧ H a' = some (.tup ys) ∧ Paired (LkV K H n) xs ys := fun {a a' zs n} h hn => by
    obtain ⟨L, l, l', e1, e2, e3, _⟩ := h
    obtain ⟨m, rfl⟩ : ∃ m, n = m + 2 := ⟨n - 2, by omega⟩
    exact ⟨_, _, e1, e2, .cons (LkV.self (.inr ⟨_, rfl⟩)) (.cons (LkV.self (.inl rfl)) (.cons (bar_lk e3) .nil))⟩
  intro d
  induction d with
  | zero => exact fun h hn => rk h (by omega)
  | succ d ih =>
    intro a a' zs n h hn
    rcases h with h | ⟨L, S, fl, al, ll, fl', al', ll', fs, ms, ls, fs', ms', ls', zss, e, e', ⟨e1, e2, e3⟩, ⟨f1, f2, f3⟩, p1, p2, n1, n2, n3, n4, n5, pd, z⟩
    · exact rk h (by omega)
    obtain ⟨m, rfl⟩ : ∃ m, n = m + 3 := ⟨n - 3, by omega⟩
    have bars : ∀ {x x' : Addr} {us vs : List Addr}, H x = some (.lst (us.map V.ref)) → H x' = some (.lst (vs.map V.ref)) → Paired (BarK c H) us vs → LkV K H (m + 3) (.ref x) (.ref x') := fun g1 g2 g => .inr ⟨_, _, _, _, rfl, rfl, .inr ⟨SqL.of g1, SqL.of g2⟩, refs_lk (Paired.mapP g fun _ _ w => bar_lk w)⟩
    refine ⟨_, _, e, e', .cons (LkV.self (.inr ⟨_, rfl⟩)) (.cons (LkV.self (.inl rfl)) (.cons (LkV.self (.inl rfl)) (.cons (bars e1 f1 p1) (.cons ?_ (.cons (bars e3 f3 p2) .nil)))))⟩
    refine .inr ⟨_, _, _, _, rfl, rfl, .inr ⟨SqL.of e2, SqL.of f2⟩, refs_lk (zip_pair n5 pd fun x y z w => ?_)⟩
    obtain ⟨xs, ys, g1, g2, g⟩ := ih (n := m + 1) w (by omega)
    exact .inr ⟨x, y, xs, ys, rfl, rfl, .inl ⟨SqT.of g1, SqT.of g2⟩, g⟩
theorem put_of {H : Hp} {l l' t t' : Addr} {us vs : List V} (hl : H l = some (.lst us)) (hl' : H l' = some (.lst vs)) (ne : l ≠ l') (ht : H t = none) (ht' : upd (upd H t (.tup [.int 0, .int 0])) l (.lst (us ++ [.ref t])) t' = none) :
    upd (upd (upd H t (.tup [.int 0, .int 0])) l (.lst (us ++ [.ref t]))) t' (.tup [.int 0, .int 0]) l' = some (.lst vs) ∧
    Put H (upd (upd (upd (upd H t (.tup [.int 0, .int 0])) l (.lst (us ++ [.ref t]))) t' (.tup [.int 0, .int 0])) l' (.lst (vs ++ [.ref t']))) l l' := by
  have n1 : t ≠ l := fun z => by rw [z, hl] at ht; cases ht
  have n2 : t ≠ l' := fun z => by rw [z, hl'] at ht; cases ht
  have n3 : t' ≠ l := fun z => by rw [z, upd_same] at ht'; cases ht'
  have n4 : t' ≠ l' := fun z => by rw [z, upd_ne (Ne.symm ne), upd_ne (Ne.symm n2), hl'] at ht'; cases ht'
  have n5 : t' ≠ t := fun z => by rw [z, upd_ne n1, upd_same] at ht'; cases ht'
  refine ⟨by rw [upd_ne (Ne.symm n4), upd_ne (Ne.symm ne), upd_ne (Ne.symm n2)]; exact hl', ⟨us, vs, t, t', hl, hl', ?_, upd_same, ?_, ?_⟩, fun x o h1 h2 h => ?_⟩
  · rw [upd_ne ne, upd_ne (Ne.symm n3), upd_same]
  · rw [upd_ne n2, upd_ne (Ne.symm n5), upd_ne n1, upd_same]
  · rw [upd_ne n4, upd_same]
  · have n6 : x ≠ t := fun z => by rw [z, ht] at h; cases h
    rw [upd_ne h2, upd_ne (fun z => ?_), upd_ne h1, upd_ne n6]
    · exact h
    · rw [← z, upd_ne h1, upd_ne n6, h] at ht'
      cases ht'
theorem put_mid {H : Hp} {l t : Addr} {o o' : HO} {x : Addr} {u : HO} (h : H x = some u) (ht : H t = none) (n : x ≠ l) : upd (upd H t o) l o' x = some u := by
  rw [upd_ne n, upd_ne fun z => by rw [z, ht] at h; cases h]
  exact h
def spApart : Sp := fun vs H Q _ => ∃ (a : Addr) (num : Int) (d : Nat) (ads : List Addr), vs = [.ref a, .int num] ∧ 0 ≤ num ∧ d ≤ 6 ∧ LstsAt H d a ads ∧ ads.Nodup ∧ (∀ x ∈ ads, ∃ o, H x = some o) ∧ ∀ H', Q (.bl true) H'
section
variable {P : Program} {w : World} {K : PySem.W.Frag} {mg : Str → Option Value} {base : Heap}
theorem sc__law_lists_apart : FnScope ["_law_nest", "_law_number", "_law_twin", "_law_here", "_law_there", "_law_k", "_law_at", "_law_place"] ["_law_nest", "_law_number"] (defScope (top 40)) := ⟨rfl, rfl, rfl, by decide +kernel, rfl, by decide +kernel, by decide +kernel⟩
set_option maxHeartbeats 4000000 in
theorem ok_apart (T : Txt K mg) (C__law_copied : Callee P w K mg base 7 "_law_copied" ["_law_nest"] (spCopied 6)) (D : Def K mg "_law_lists_apart" (top 40) ["_law_nest", "_law_number"]) : Callee P w K mg base 8 "_law_lists_apart" ["_law_nest", "_law_number"] spApart := by
  refine D.ok sc__law_lists_apart (fun vs H Q E h => ?_) (fun f cdv A outer s H vs Q E hr h => ?_)
  · obtain ⟨a, num, d, ads, rfl, _⟩ := h
    rfl
  obtain ⟨a, num, d, ads, rfl, hn, hd, hN, nd, pres, q⟩ := h
  refine ⟨_, (pss_cons (ps_set (i := 2) sc__law_lists_apart.nd rfl (Or.inl rfl) (pe_fn C__law_copied hr rfl (pa_cons (pv 0) pa_nil st_name)))
    (pss_cons (ps_set (i := 3) sc__law_lists_apart.nd rfl (Or.inl rfl) (pv 0))
    (pss_cons (ps_set (i := 4) sc__law_lists_apart.nd rfl (Or.inl rfl) (pv 2))
    (pss_cons (ps_while PassesOwn.never (PW.pt (pw_and (pt_cmpR op_eq (pe_ix (ix_tupK K) (pv 3) pe_int (fun _ _ => rfl)) pe_str (nomark _)) (pw_and1 (pt_cmpR op_gt (pe_op op_mod (pv 1) pe_int) pe_int (nomark _))))) (pss_cons (ps_set (i := 5) sc__law_lists_apart.nd rfl (Or.inl rfl) (pe_op op_mod (pe_op op_fdiv (pv 1) pe_int) (pe_ix (ix_tupK K) (pv 3) pe_int (fun _ _ => rfl))))
    (pss_cons (ps_set (i := 3) sc__law_lists_apart.nd rfl (Or.inl rfl) (pe_ix (ix_listK K) (pe_ix (ix_tupK K) (pv 3) pe_int (fun _ _ => rfl)) (pv 5) (fun _ _ => rfl)))
    (pss_cons (ps_set (i := 4) sc__law_lists_apart.nd rfl (Or.inl rfl) (pe_ix (ix_listK K) (pe_ix (ix_tupK K) (pv 4) pe_int (fun _ _ => rfl)) (pv 5) (fun _ _ => rfl)))
    (pss_one (ps_set (i := 1) sc__law_lists_apart.nd rfl (Or.inl rfl) (pe_op op_fdiv (pv 1) pe_int)))))))
    (pss_cons (ps_set (i := 6) sc__law_lists_apart.nd rfl (Or.inl rfl) pe_int)
    (pss_cons (ps_if (pt_cmpR op_eq (pe_ix (ix_tupK K) (pv 3) pe_int (fun _ _ => rfl)) pe_str (nomark _)) (pss_one (ps_set (i := 6) sc__law_lists_apart.nd rfl (Or.inl rfl) (pe_op op_add pe_int (pe_op op_mul pe_int (pe_op op_mod (pe_op op_fdiv (pv 1) pe_int) pe_int))))) pss_nil)
    (pss_cons (ps_if (pt_cmpR op_eq (pv 6) pe_int (nomark _)) (pss_cons (ps_expr (pe_bmK K PySem.F.plainAttrs_list PySem.F.slot_list_append PySem.F.type_list_append mt_appendR (pe_ix (ix_tupK K) (pv 3) pe_int (fun _ _ => rfl)) (pa_cons (pe_tup (pa_cons pe_int (pa_cons pe_int pa_nil st_const) st_const)) pa_nil st_tup)))
    (pss_one (ps_expr (pe_bmK K PySem.F.plainAttrs_list PySem.F.slot_list_append PySem.F.type_list_append mt_appendR (pe_ix (ix_tupK K) (pv 4) pe_int (fun _ _ => rfl)) (pa_cons (pe_tup (pa_cons pe_int (pa_cons pe_int pa_nil st_const) st_const)) pa_nil st_tup))))) (pss_cons (ps_set (i := 7) sc__law_lists_apart.nd rfl (Or.inl rfl) (pe_op op_mod (pe_op op_fdiv (pv 1) pe_int) (pe_callB (call_lenK K) rfl T.m_len boot_len (pa_cons (pe_ix (ix_tupK K) (pv 3) (pv 6) (fun _ _ => rfl)) pa_nil st_sub))))
    (pss_cons (ps_expr (pe_bmK K PySem.F.plainAttrs_list PySem.F.slot_list_append PySem.F.type_list_append mt_appendR (pe_ix (ix_listK K) (pe_ix (ix_tupK K) (pv 3) (pv 6) (fun _ _ => rfl)) (pv 7) (fun _ _ => rfl)) (pa_cons (pe_tup (pa_cons pe_int (pa_cons pe_int pa_nil st_const) st_const)) pa_nil st_tup)))
    (pss_one (ps_expr (pe_bmK K PySem.F.plainAttrs_list PySem.F.slot_list_append PySem.F.type_list_append mt_appendR (pe_ix (ix_listK K) (pe_ix (ix_tupK K) (pv 4) (pv 6) (fun _ _ => rfl)) (pv 7) (fun _ _ => rfl)) (pa_cons (pe_tup (pa_cons pe_int (pa_cons pe_int pa_nil st_const) st_const)) pa_nil st_tup)))))))
    (pss_one (ps_ret (pe_cmpR (op_eqLk K 20 (Room.unitsLk hr)) (pv 0) (pv 2) (nomark _))))))))))), ?_⟩
  refine ⟨_, rfl, a, d, ads, rfl, hd, hN, fun a' zs H1 s1 tw ez nw => ?_⟩
  have far : ∀ l l', (true, l, l') ∈ zs → Far l l' zs := fun l l' hm => far_of hm (by rw [ez]; exact nd) (by rw [ez]; exact pres) nw
  have fin : ∀ (G : Hp) (l l' : Addr), (true, l, l') ∈ zs → Put H1 G l l' → ∃ xs ys : List V, G a = some (.tup xs) ∧ G a' = some (.tup ys) ∧ Paired (LkV K G 20) xs ys := fun G l l' hm p => tw_pd (p.twin tw (far l l' hm)) (by omega)
  clear hN pres nd ez nw s1
  refine ⟨_, rfl, _, rfl, ?_⟩
  dsimp only [gName, tNext]
  refine seq_cut (fun σ G => G = H1 ∧ ∃ (m : Nat) (h t : Addr) (n : Int) (zs' : List Tg) (v5 : Option V), TwinAt 64 H1 m h t zs' ∧ (∀ e ∈ zs', e ∈ zs) ∧ 0 ≤ n ∧ σ = [some (.ref a), some (.int n), some (.ref a'), some (.ref h), some (.ref t), v5, none, none]) (fun R rest => ?_) ?_
  · refine ⟨fun m σ G => G = H1 ∧ ∃ (h t : Addr) (n : Int) (zs' : List Tg) (v5 : Option V), TwinAt 64 H1 m h t zs' ∧ (∀ e ∈ zs', e ∈ zs) ∧ 0 ≤ n ∧ σ = [some (.ref a), some (.int n), some (.ref a'), some (.ref h), some (.ref t), v5, none, none], ⟨d, rfl, a, a', num, zs, none, tw, fun e he => he, hn, rfl⟩, ?_⟩
    rintro m σ G ⟨rfl, h, t, n, zs', v5, tw', sub, hn', rfl⟩
    have tw0 := tw'
    have rk : RackK 64 G h t zs' ∨ ∃ m', m = m' + 1 ∧ TwinAt 64 G (m' + 1) h t zs' ∧ ¬ RackK 64 G h t zs' := by
      by_cases c : RackK 64 G h t zs'
      · exact .inl c
      · cases m with
        | zero => exact absurd tw' c
        | succ m => exact .inr ⟨m, rfl, tw', c⟩
    rcases rk with ⟨L, l, l', e1, e2, _, _⟩ | ⟨m, rfl, hN, nR⟩
    · exact ⟨_, rfl, h, _, _, _, rfl, rfl, SqT.of e1, rfl, rfl, _, rfl, iteN (fun z => absurd (V.str.inj (of_decide_eq_true z)) (by decide)) (iteF (rest _ _ ⟨rfl, m, h, t, n, zs', v5, tw0, sub, hn', rfl⟩))⟩
    rcases hN with hN | ⟨L, S, fl, al, ll, fl', al', ll', fs, ms, ls, fs', ms', ls', zss, e, e', ⟨e1, e2, e3⟩, ⟨f1, f2, f3⟩, p1, p2, n1, n2, n3, n4, n5, pd, z⟩
    · exact absurd hN nR
    refine ⟨_, rfl, h, _, _, _, rfl, rfl, SqT.of e, rfl, rfl, _, rfl, iteT ?_⟩
    refine ⟨_, rfl, _, _, rfl, rfl, (show (0 : Int) < 3 by decide), _, _, rfl, rfl, _, rfl, ite2 (fun c => ?_) (fun c => rest _ _ ⟨rfl, m + 1, h, t, n, zs', v5, tw0, sub, hn', rfl⟩)⟩
    refine ⟨fun σ' G' => ∃ m', m' < m + 1 ∧ (G' = G ∧ ∃ (h t : Addr) (n : Int) (zs' : List Tg) (v5 : Option V), TwinAt 64 G m' h t zs' ∧ (∀ e ∈ zs', e ∈ zs) ∧ 0 ≤ n ∧ σ' = [some (.ref a), some (.int n), some (.ref a'), some (.ref h), some (.ref t), v5, none, none]), (fun _ _ h => h), ?_⟩
    obtain ⟨k, hk⟩ := Int.eq_ofNat_of_zero_le (Int.emod_nonneg (n / 3) (show S ≠ 0 by omega))
    have hk2 : k < ms.length := by
      have := Int.emod_lt_of_pos (n / 3) (show 0 < S by omega)
      omega
    have hk3 : k < ms'.length := by omega
    have g1 : (ms.map V.ref)[k]? = some (.ref ms[k]) := by rw [List.getElem?_map, List.getElem?_eq_getElem hk2]; rfl
    have g2 : (ms'.map V.ref)[k]? = some (.ref ms'[k]) := by rw [List.getElem?_map, List.getElem?_eq_getElem hk3]; rfl
    have g3 : (ms.zip ms')[k]? = some (ms[k], ms'[k]) := by rw [List.getElem?_eq_getElem (by rw [List.length_zip]; omega), List.getElem_zip]
    obtain ⟨z', hz', tz⟩ := paired_at pd k _ g3
    refine ⟨_, rfl, _, _, rfl, rfl, ⟨by decide, by decide⟩, _, rfl, h, _, _, _, rfl, rfl, SqT.of e, rfl, _, _, rfl, rfl, (show (0 : Int) < S by omega), ?_⟩
    dsimp only [gName]
    rw [hk]
    refine ⟨_, rfl, h, _, _, _, rfl, rfl, SqT.of e, rfl, _, rfl, al, _, _, _, rfl, rfl, SqL.of e2, atI_nat g1, ?_⟩
    refine ⟨_, rfl, t, _, _, _, rfl, rfl, SqT.of e', rfl, _, rfl, al', _, _, _, rfl, rfl, SqL.of f2, atI_nat g2, ?_⟩
    refine ⟨_, rfl, _, _, rfl, rfl, ⟨by decide, by decide⟩, m, Nat.lt_succ_self m, rfl, _, _, _, z', _, tz, fun e he => sub e ?_, Int.ediv_nonneg hn' (by decide), rfl⟩
    rw [z]
    exact List.mem_append_left _ (List.mem_cons_of_mem _ (List.mem_flatten.mpr ⟨z', List.mem_of_getElem? hz', he⟩))
  rintro σ H1 ⟨rfl, m, h, t, n, zs', v5, tw', sub, hn', rfl⟩
  have rk : RackK 64 H1 h t zs' ∨ ∃ m', m = m' + 1 ∧ TwinAt 64 H1 (m' + 1) h t zs' ∧ ¬ RackK 64 H1 h t zs' := by
    by_cases c : RackK 64 H1 h t zs'
    · exact .inl c
    · cases m with
      | zero => exact absurd tw' c
      | succ m => exact .inr ⟨m, rfl, tw', c⟩
  rcases rk with ⟨L, l, l', e1, e2, ⟨us, vs, el, el', pd, nl⟩, z⟩ | ⟨m, rfl, hN, nR⟩
  · have hm : (true, l, l') ∈ zs := sub _ (by rw [z]; exact List.mem_singleton.mpr rfl)
    have ne : l ≠ l' := (far l l' hm _ hm).2.2.1
    refine ⟨_, rfl, h, _, _, _, rfl, rfl, SqT.of e1, rfl, rfl, _, rfl, iteN (fun z => absurd (V.str.inj (of_decide_eq_true z)) (by decide)) ?_⟩
    refine ⟨_, rfl, rfl, _, rfl, iteT ?_⟩
    refine ⟨_, rfl, h, _, _, _, rfl, rfl, SqT.of e1, rfl, .inl ⟨rfl, _, SqL.of el⟩, (by show 2 ≤ sizeLine; decide), fun t0 ht0 => ?_⟩
    refine ⟨l, us, _, rfl, rfl, by rw [upd_ne fun z => by rw [← z, el] at ht0; cases ht0]; exact el, Nat.lt_of_le_of_lt nl (by decide), ?_⟩
    have et : upd (upd H1 t0 (.tup [.int 0, .int 0])) l (.lst (us ++ [.ref t0])) t = some (.tup [.str "rack", .int L, .ref l']) := put_mid e2 ht0 fun z => by rw [z, el] at e2; cases e2
    have el2 : upd (upd H1 t0 (.tup [.int 0, .int 0])) l (.lst (us ++ [.ref t0])) l' = some (.lst vs) := put_mid el' ht0 (Ne.symm ne)
    refine ⟨_, rfl, t, _, _, _, rfl, rfl, SqT.of et, rfl, .inl ⟨rfl, _, SqL.of el2⟩, (by show 2 ≤ sizeLine; decide), fun t1 ht1 => ?_⟩
    obtain ⟨g, p⟩ := put_of el el' ne ht0 ht1
    refine ⟨l', vs, _, rfl, rfl, g, Nat.lt_of_le_of_lt ((Paired.length pd) ▸ nl) (by decide), ?_⟩
    obtain ⟨xs, ys, h1, h2, h3⟩ := fin _ l l' hm p
    exact ⟨_, rfl, _, rfl, a, a', xs, ys, rfl, rfl, .inl ⟨SqT.of h1, SqT.of h2⟩, h3, q _⟩
  rcases hN with hN | ⟨L, S, fl, al, ll, fl', al', ll', fs, ms, ls, fs', ms', ls', zss, e, e', ⟨e1, e2, e3⟩, ⟨f1, f2, f3⟩, p1, p2, n1, n2, n3, n4, n5, pd, z⟩
  · exact absurd hN nR
  have mid : ∃ (X X' : Addr) (us vs : List Addr), atI [V.str "hall", .int L, .int S, .ref fl, .ref al, .ref ll] (3 + 2 * (n / 3 % 2)) = some (.ref X) ∧ atI [V.str "hall", .int L, .int S, .ref fl', .ref al', .ref ll'] (3 + 2 * (n / 3 % 2)) = some (.ref X') ∧ H1 X = some (.lst (us.map V.ref)) ∧ H1 X' = some (.lst (vs.map V.ref)) ∧ Paired (BarK 64 H1) us vs ∧ (0 < us.length ∧ us.length ≤ 64) ∧ (false, X, X') ∈ zs ∧ ∀ q ∈ tagT (us.zip vs), q ∈ zs := by
    have c : n / 3 % 2 = 0 ∨ n / 3 % 2 = 1 := by omega
    rcases c with c | c
    · rw [c]
      exact ⟨fl, fl', fs, fs', rfl, rfl, e1, f1, p1, n1, sub _ (by rw [z]; exact List.mem_append_right _ (List.mem_append_left _ (List.mem_cons_self ..))), fun q hq => sub _ (by rw [z]; exact List.mem_append_right _ (List.mem_append_left _ (List.mem_cons_of_mem _ hq)))⟩
    · rw [c]
      exact ⟨ll, ll', ls, ls', rfl, rfl, e3, f3, p2, n2, sub _ (by rw [z]; exact List.mem_append_right _ (List.mem_append_right _ (List.mem_cons_self ..))), fun q hq => sub _ (by rw [z]; exact List.mem_append_right _ (List.mem_append_right _ (List.mem_cons_of_mem _ hq)))⟩
  obtain ⟨X, X', us, vs, a1, a2, eX, eX', pb, nb, mX, mB⟩ := mid
  have n2' : ¬ decide (V.int (3 + 2 * (n / 3 % 2)) = V.int 2) = true := fun z => by
    have := V.int.inj (of_decide_eq_true z)
    omega
  clear z pd n5 n4 n3 n1 p1 p2 e1 e2 e3 f1 f2 f3
  refine ⟨_, rfl, h, _, _, _, rfl, rfl, SqT.of e, rfl, rfl, _, rfl, iteT ?_⟩
  refine ⟨_, rfl, _, _, rfl, rfl, ⟨by decide, by decide⟩, _, _, rfl, rfl, (show (0 : Int) < 2 by decide), _, _, rfl, rfl, .inl ⟨by decide, by decide⟩, _, _, rfl, rfl, ?_⟩
  refine ⟨_, rfl, rfl, _, rfl, iteN n2' ?_⟩
  obtain ⟨k, hk⟩ := Int.eq_ofNat_of_zero_le (Int.emod_nonneg (n / 6) (show ((us.length : Nat) : Int) ≠ 0 by omega))
  have hk2 : k < us.length := by
    have := Int.emod_lt_of_pos (n / 6) (show (0 : Int) < (us.length : Nat) by omega)
    omega
  obtain ⟨l', hv, ⟨bs, cs, el, el', pd, nl⟩⟩ := paired_at pb k _ (List.getElem?_eq_getElem hk2)
  generalize hl : us[k] = l at el
  have hu : us[k]? = some l := by rw [← hl]; exact List.getElem?_eq_getElem hk2
  have g1 : (us.map V.ref)[k]? = some (.ref l) := by rw [List.getElem?_map, hu]; rfl
  have g2 : (vs.map V.ref)[k]? = some (.ref l') := by rw [List.getElem?_map, hv]; rfl
  have hm : (true, l, l') ∈ zs := mB _ (List.mem_map.mpr ⟨(l, l'), List.mem_of_getElem? (List.getElem?_zip_eq_some.mpr ⟨hu, hv⟩), rfl⟩)
  have ne : l ≠ l' := (far l l' hm _ hm).2.2.1
  refine ⟨_, rfl, _, _, rfl, rfl, ⟨by decide, by decide⟩, _, rfl, _, rfl, h, _, _, _, rfl, rfl, SqT.of e, a1, X, _, rfl, .inl (SqL.of eX), _, _, rfl, rfl, (show (0 : Int) < ((us.map V.ref).length : Nat) by rw [List.length_map]; omega), ?_⟩
  rw [List.length_map]
  dsimp only [gName]
  rw [hk]
  refine ⟨_, rfl, _, rfl, h, _, _, _, rfl, rfl, SqT.of e, a1, _, rfl, X, _, _, _, rfl, rfl, SqL.of eX, atI_nat g1, .inl ⟨rfl, _, SqL.of el⟩, (by show 2 ≤ sizeLine; decide), fun t0 ht0 => ?_⟩
  refine ⟨l, bs, _, rfl, rfl, by rw [upd_ne fun z => by rw [← z, el] at ht0; cases ht0]; exact el, Nat.lt_of_le_of_lt nl (by decide), ?_⟩
  have et : upd (upd H1 t0 (.tup [.int 0, .int 0])) l (.lst (bs ++ [.ref t0])) t = some (.tup [V.str "hall", .int L, .int S, .ref fl', .ref al', .ref ll']) := put_mid e' ht0 fun z => by rw [z, el] at e'; cases e'
  have eX2 : upd (upd H1 t0 (.tup [.int 0, .int 0])) l (.lst (bs ++ [.ref t0])) X' = some (.lst (vs.map V.ref)) := put_mid eX' ht0 (far l l' hm _ mX).2.2.2
  have el2 : upd (upd H1 t0 (.tup [.int 0, .int 0])) l (.lst (bs ++ [.ref t0])) l' = some (.lst cs) := put_mid el' ht0 (Ne.symm ne)
  refine ⟨_, rfl, _, rfl, t, _, _, _, rfl, rfl, SqT.of et, a2, _, rfl, X', _, _, _, rfl, rfl, SqL.of eX2, atI_nat g2, .inl ⟨rfl, _, SqL.of el2⟩, (by show 2 ≤ sizeLine; decide), fun t1 ht1 => ?_⟩
  obtain ⟨g, p⟩ := put_of el el' ne ht0 ht1
  refine ⟨l', cs, _, rfl, rfl, g, Nat.lt_of_le_of_lt ((Paired.length pd) ▸ nl) (by decide), ?_⟩
  obtain ⟨xs, ys, h1, h2, h3⟩ := fin _ l l' hm p
  exact ⟨_, rfl, _, rfl, a, a', xs, ys, rfl, rfl, .inl ⟨SqT.of h1, SqT.of h2⟩, h3, q _⟩
end
theorem kit_lst_lst' {K : PySem.W.Frag} : PySem.W.kitOne K (.type "list") (.type "list") = some true := kit_of (by decide +kernel)
theorem TurnsOk.perm {n : Int} {ps qs : Prs} (h : TurnsOk n ps) (p : qs.Perm ps) : TurnsOk n qs := ⟨fun q hq => h.bd q (p.mem_iff.mp hq), (p.map Prod.fst).nodup_iff.mpr h.n1, (p.map Prod.snd).nodup_iff.mpr h.n2⟩
def spBars : Sp := fun vs H Q _ => ∃ (l : Addr) (bs ps : Prs) (n : Int), vs = [.ref l, .int n, .int n] ∧ BarsAt H l bs ∧ SortOf bs ps ∧ TurnsOk n ps ∧ ps.length ≤ 64 ∧ ∀ H', Same H H' → Q (.bl true) H'
def spRacksB : Sp := fun vs H Q _ => ∃ (fl : Addr) (fs : List Addr) (f : Nat → Prs) (S : Int), vs = [.ref fl, .int ((fs.length : Nat) : Int), .int S] ∧ H fl = some (.lst (fs.map V.ref)) ∧ Sorts H fs f ∧ (∀ i, TurnsOk S (f i) ∧ (f i).length ≤ 64) ∧ ∀ H', Same H H' → Q (.bl true) H'
def spWholeT : Sp := fun vs H Q _ => ∃ i : Int, vs = [.int i] ∧ Q (.bl true) H
section
variable {P : Program} {w : World} {K : PySem.W.Frag} {mg : Str → Option Value} {base : Heap}
theorem sc__law_whole : FnScope ["_law_found"] ["_law_found"] (defScope (top 29)) := ⟨rfl, rfl, rfl, by decide +kernel, rfl, by decide +kernel, by decide +kernel⟩
theorem ok_wholeT (T : Txt K mg) (D : Def K mg "_law_whole" (top 29) ["_law_found"]) : Callee P w K mg base 1 "_law_whole" ["_law_found"] spWholeT := by
  refine D.ok sc__law_whole (fun vs H Q E h => ?_) (fun f cdv A outer s H vs Q E hr h => ?_)
  · obtain ⟨i, rfl, _⟩ := h
    rfl
  obtain ⟨i, rfl, q⟩ := h
  refine ⟨_, (pss_one (ps_ret (pe_and (pe_callB (call_isinstK K) rfl T.m_isinstance boot_isinstance (pa_cons (pv 0) (pa_cons (pe_bltn (v := .ty "int") rfl T.m_int boot_int rfl) pa_nil st_name) st_name)) (pe_one (pe_not (pe_callB (call_isinstK K) rfl T.m_isinstance boot_isinstance (pa_cons (pv 0) (pa_cons (pe_bltn (v := .ty "bool") rfl T.m_bool boot_bool rfl) pa_nil st_name) st_name))))))), ?_⟩
  refine ⟨_, rfl, _, _, _, true, rfl, .int i, kit_int_int, _, rfl, iteT ?_⟩
  exact ⟨_, rfl, _, _, _, false, rfl, .int i, kit_int_bool, _, rfl, q⟩
theorem sc__law_bars : FnScope ["_law_bars_here", "_law_ones", "_law_others", "_law_last", "_law_seen", "_law_bar"] ["_law_bars_here", "_law_ones", "_law_others"] (defScope (top 34)) := ⟨rfl, rfl, rfl, by decide +kernel, rfl, by decide +kernel, by decide +kernel⟩
theorem ok_bars (T : Txt K mg) (C__law_whole : Callee P w K mg base 1 "_law_whole" ["_law_found"] spWholeT) (D : Def K mg "_law_bars" (top 34) ["_law_bars_here", "_law_ones", "_law_others"]) : Callee P w K mg base 2 "_law_bars" ["_law_bars_here", "_law_ones", "_law_others"] spBars := by
  refine D.ok sc__law_bars (fun vs H Q E h => ?_) (fun f cdv A outer s H vs Q E hr h => ?_)
  · obtain ⟨l, bs, ps, n, rfl, _⟩ := h
    rfl
  obtain ⟨l, bs, ps, n, rfl, ⟨as, el, pr⟩, ⟨pm, so⟩, ok0, few, q⟩ := h
  have ok := ok0.perm pm
  have ln : as.length = bs.length := Paired.length pr
  have fb : bs.length ≤ 64 := by rw [pm.length_eq]; exact few
  refine ⟨_, (pss_cons (ps_if (pt_not (pt_truK K (pe_callB (call_isinstK K) rfl T.m_isinstance boot_isinstance (pa_cons (pv 0) (pa_cons (pe_bltn (v := .ty "list") rfl T.m_list boot_list rfl) pa_nil st_name) st_name)) (fun _ => rfl))) (pss_one (ps_ret pe_bl)) pss_nil)
    (pss_cons (ps_set (i := 3) sc__law_bars.nd rfl (Or.inl rfl) (pe_un un_neg pe_int))
    (pss_cons (ps_set (i := 4) sc__law_bars.nd rfl (Or.inl rfl) pe_dnewK)
    (pss_cons (ps_for PassesOwn.never rfl (pi_listK K (pv 0)) (pg_name (i := 5) sc__law_bars.nd rfl (Or.inl rfl))
    (pss_cons (ps_if (PW.pt (pw_or (pt_not (pt_truK K (pe_callB (call_isinstK K) rfl T.m_isinstance boot_isinstance (pa_cons (pv 5) (pa_cons (pe_bltn (v := .ty "tuple") rfl T.m_tuple boot_tuple rfl) pa_nil st_name) st_name)) (fun _ => rfl))) (pw_or (pt_cmpR op_ne (pe_callB (call_lenK K) rfl T.m_len boot_len (pa_cons (pv 5) pa_nil st_name)) pe_int (nomark _)) (pw_or (pt_not (pt_truK K (pe_fn C__law_whole hr rfl (pa_cons (pe_ix (ix_tupK K) (pv 5) pe_int (fun _ _ => rfl)) pa_nil st_sub)) (fun _ => rfl))) (pw_or1 (pt_not (pt_truK K (pe_fn C__law_whole hr rfl (pa_cons (pe_ix (ix_tupK K) (pv 5) pe_int (fun _ _ => rfl)) pa_nil st_sub)) (fun _ => rfl)))))))) (pss_one (ps_ret pe_bl)) pss_nil)
    (pss_cons (ps_if (PW.pt (pw_or (pt_cmpR op_le (pe_ix (ix_tupK K) (pv 5) pe_int (fun _ _ => rfl)) (pv 3) (nomark _)) (pw_or (pt_cmpR op_ge (pe_ix (ix_tupK K) (pv 5) pe_int (fun _ _ => rfl)) (pv 1) (nomark _)) (pw_or (pt_cmpR op_lt (pe_ix (ix_tupK K) (pv 5) pe_int (fun _ _ => rfl)) pe_int (nomark _)) (pw_or (pt_cmpR op_ge (pe_ix (ix_tupK K) (pv 5) pe_int (fun _ _ => rfl)) (pv 2) (nomark _)) (pw_or1 (pt_cmp (pc_din (hu_of hr) (pe_ix (ix_tupK K) (pv 5) pe_int (fun _ _ => rfl)) (pv 4))))))))) (pss_one (ps_ret pe_bl)) pss_nil)
    (pss_cons (ps_set (i := 3) sc__law_bars.nd rfl (Or.inl rfl) (pe_ix (ix_tupK K) (pv 5) pe_int (fun _ _ => rfl)))
    (pss_one (ps_dput (hu_of hr) (pv 4) (pe_ix (ix_tupK K) (pv 5) pe_int (fun _ _ => rfl)) pe_bl rfl))))))
    (pss_one (ps_ret pe_bl)))))), ?_⟩
  refine ⟨_, rfl, _, _, _, true, rfl, .lst el, kit_lst_lst', _, rfl, iteF ?_⟩
  refine ⟨_, rfl, ?_⟩
  refine fun sd hsd => ?_
  dsimp only [gName, tNext]
  have sm : ∀ kvs, Same H (upd H sd (.dK kvs)) := fun kvs => same_new hsd _
  refine ⟨_, rfl, l, rfl, ⟨_, SqL.of (sm _ _ _ el)⟩, ?_⟩
  refine for_list (xs := as.map V.ref) (fun i σ G => ∃ (la : Int) (kvs : List (Key × V)) (v5 : Option V), G = upd H sd (.dK kvs) ∧ (∀ p ∈ bs.drop i, la < p.1) ∧ (∀ y : Int, (valV kvs (.inl y)).isSome = true → ∃ p ∈ bs.take i, p.2 = y) ∧ kvs.length ≤ i ∧ σ = [some (.ref l), some (.int n), some (.int n), some (.int la), some (.ref sd), v5]) ⟨-1, [], _, rfl, fun p hp => ?_, (fun y hy => nomatch hy), Nat.le_refl _, rfl⟩ ?_ ?_ ?_
  · have := (ok.bd p hp).1.1
    omega
  · rintro i σ G _ ⟨la, kvs, v5, rfl, _⟩
    exact SqL.of (sm _ _ _ el)
  · rintro i x σ G hx ⟨la, kvs, v5, rfl, hla, hkv, hlen, rfl⟩
    rw [List.getElem?_map] at hx
    obtain ⟨a, ha, rfl⟩ := Option.map_eq_some_iff.mp hx
    obtain ⟨p, hp, ea⟩ := paired_at pr i a ha
    obtain ⟨hi, hpe⟩ := List.getElem?_eq_some_iff.mp hp
    have ea : upd H sd (.dK kvs) a = some (.tup [.int p.1, .int p.2]) := sm _ _ _ ea
    have bp := ok.bd p (List.mem_of_getElem? hp)
    have dp : bs.drop i = p :: bs.drop (i + 1) := by rw [List.drop_eq_getElem_cons hi, hpe]
    have hlap := hla p (by rw [dp]; exact List.mem_cons_self ..)
    have tk : bs.take (i + 1) = bs.take i ++ [p] := by rw [List.take_succ, hp]; rfl
    refine ⟨_, rfl, _, _, _, true, rfl, .tup ea, kit_tup_tup, _, rfl, iteF ?_⟩
    refine ⟨_, rfl, a, _, rfl, .inr (SqT.of ea), rfl, _, rfl, iteN (by simp) ?_⟩
    refine ⟨_, rfl, a, _, _, _, rfl, rfl, SqT.of ea, rfl, p.1, rfl, _, rfl, iteF ?_⟩
    refine ⟨_, rfl, a, _, _, _, rfl, rfl, SqT.of ea, rfl, p.2, rfl, _, rfl, iteF ?_⟩
    refine ⟨_, rfl, a, _, _, _, rfl, rfl, SqT.of ea, rfl, _, rfl, _, _, rfl, rfl, _, rfl, iteN (fun z => by have := of_decide_eq_true z; omega) ?_⟩
    refine ⟨_, rfl, a, _, _, _, rfl, rfl, SqT.of ea, rfl, _, rfl, _, _, rfl, rfl, _, rfl, iteN (fun z => by have := of_decide_eq_true z; omega) ?_⟩
    refine ⟨_, rfl, a, _, _, _, rfl, rfl, SqT.of ea, rfl, _, _, rfl, rfl, _, rfl, iteN (fun z => by have := of_decide_eq_true z; omega) ?_⟩
    refine ⟨_, rfl, a, _, _, _, rfl, rfl, SqT.of ea, rfl, _, rfl, _, _, rfl, rfl, _, rfl, iteN (fun z => by have := of_decide_eq_true z; omega) ?_⟩
    have no : ¬ (valV kvs (.inl p.2)).isSome = true := fun z => by
      obtain ⟨p', hp', e⟩ := hkv _ z
      have n2 := ok.n2
      rw [← List.take_append_drop i bs, dp, List.map_append, List.nodup_append] at n2
      exact n2.2.2 p'.2 (List.mem_map.mpr ⟨p', hp', rfl⟩) p.2 (List.mem_map.mpr ⟨p, List.mem_cons_self .., rfl⟩) e
    refine ⟨_, rfl, a, _, _, _, rfl, rfl, SqT.of ea, rfl, _, rfl, sd, _, rfl, DGet.k (k := .inl p.2) upd_same, _, rfl, iteN no ?_⟩
    refine ⟨_, rfl, a, _, _, _, rfl, rfl, SqT.of ea, rfl, ?_⟩
    refine ⟨_, rfl, _, rfl, a, _, _, _, rfl, rfl, SqT.of ea, rfl, sd, _, rfl, .inl ⟨kvs, .inl p.2, upd_same, rfl, Nat.lt_of_le_of_lt (Nat.le_trans hlen (show i ≤ 64 by omega)) (by decide), rfl⟩, ?_⟩
    refine ⟨p.1, putK kvs (.inl p.2) (.bl true), _, ?_, fun p' hp' => ?_, fun y hy => ?_, ?_, rfl⟩
    · funext b
      by_cases z : b = sd
      · subst z; rw [upd_same, upd_same]
      · rw [upd_ne z, upd_ne z, upd_ne z]
    · have := so
      rw [← List.take_append_drop i bs, dp, List.pairwise_append] at this
      exact (List.pairwise_cons.mp this.2.1).1 p' hp'
    · rw [valV_put] at hy
      rw [tk]
      by_cases z : (Sum.inl y : Key) = .inl p.2
      · exact ⟨p, List.mem_append_right _ (List.mem_singleton.mpr rfl), (Sum.inl.inj z).symm⟩
      · rw [if_neg z] at hy
        obtain ⟨p', h1, h2⟩ := hkv y hy
        exact ⟨p', List.mem_append_left _ h1, h2⟩
    · unfold putK
      split
      · rw [List.length_map]; omega
      · rw [List.length_append]; show kvs.length + 1 ≤ i + 1; omega
  · rintro σ G ⟨la, kvs, v5, rfl, _, _, _, rfl⟩
    exact q _ (sm _)
theorem sc__law_racks : FnScope ["_law_some", "_law_many", "_law_small", "_law_bars_here"] ["_law_some", "_law_many", "_law_small"] (defScope (top 35)) := ⟨rfl, rfl, rfl, by decide +kernel, rfl, by decide +kernel, by decide +kernel⟩
theorem ok_racksB (T : Txt K mg) (C__law_bars : Callee P w K mg base 2 "_law_bars" ["_law_bars_here", "_law_ones", "_law_others"] spBars) (D : Def K mg "_law_racks" (top 35) ["_law_some", "_law_many", "_law_small"]) : Callee P w K mg base 3 "_law_racks" ["_law_some", "_law_many", "_law_small"] spRacksB := by
  refine D.ok sc__law_racks (fun vs H Q E h => ?_) (fun f cdv A outer s H vs Q E hr h => ?_)
  · obtain ⟨fl, fs, f, S, rfl, _⟩ := h
    rfl
  obtain ⟨fl, fs, f, S, rfl, efl, hs, ok, q⟩ := h
  refine ⟨_, (pss_cons (ps_if (PW.pt (pw_or (pt_not (pt_truK K (pe_callB (call_isinstK K) rfl T.m_isinstance boot_isinstance (pa_cons (pv 0) (pa_cons (pe_bltn (v := .ty "list") rfl T.m_list boot_list rfl) pa_nil st_name) st_name)) (fun _ => rfl))) (pw_or1 (pt_cmpR op_ne (pe_callB (call_lenK K) rfl T.m_len boot_len (pa_cons (pv 0) pa_nil st_name)) (pv 1) (nomark _))))) (pss_one (ps_ret pe_bl)) pss_nil)
    (pss_cons (ps_for PassesOwn.never rfl (pi_listK K (pv 0)) (pg_name (i := 3) sc__law_racks.nd rfl (Or.inl rfl))
    (pss_one (ps_if (pt_not (pt_truK K (pe_fn C__law_bars hr rfl (pa_cons (pv 3) (pa_cons (pv 2) (pa_cons (pv 2) pa_nil st_name) st_name) st_name)) (fun _ => rfl))) (pss_one (ps_ret pe_bl)) pss_nil)))
    (pss_one (ps_ret pe_bl)))), ?_⟩
  refine ⟨_, rfl, _, _, _, true, rfl, .lst efl, kit_lst_lst', _, rfl, iteF ?_⟩
  refine ⟨_, rfl, fl, _, rfl, .inl (SqL.of efl), _, rfl, rfl, _, rfl, iteN (by simp) ?_⟩
  refine ⟨_, rfl, fl, rfl, ⟨_, SqL.of efl⟩, ?_⟩
  refine for_list (xs := fs.map V.ref) (fun i σ G => Same H G ∧ ∃ v3, σ = [some (.ref fl), some (.int ((fs.length : Nat) : Int)), some (.int S), v3]) ⟨Same.refl _, _, rfl⟩ ?_ ?_ ?_
  · rintro i σ G _ ⟨s, _⟩
    exact SqL.of (s _ _ efl)
  · rintro i x σ G hx ⟨s, v3, rfl⟩
    rw [List.getElem?_map] at hx
    obtain ⟨fa, ha, rfl⟩ := Option.map_eq_some_iff.mp hx
    obtain ⟨bs, hb, so⟩ := hs i fa ha
    exact ⟨_, rfl, _, rfl, _, rfl, fa, bs, f i, S, rfl, hb.same s, so, (ok i).1, (ok i).2, fun G' s' => ⟨_, rfl, iteF ⟨s.trans s', _, rfl⟩⟩⟩
  · rintro σ G ⟨s, v3, rfl⟩
    exact q G s
end
theorem NestAt.plain {H : Hp} {S L : Int} {d : Nat} {ps : Prs} {a : Addr} (h : NestAt H S d L ps a) (c : d = 0 ∨ L ≤ S) : RackAt H L ps a := by
  cases d with
  | zero => exact h
  | succ d =>
    have c' := c.resolve_left (Nat.succ_ne_zero d)
    rcases h with ⟨_, h⟩ | ⟨z, _⟩
    · exact h
    · exact absurd c' z
def spShape (n : Nat) : Sp := fun vs H Q _ => ∃ (a : Addr) (L S : Int) (d : Nat) (ps : Prs), vs = [.ref a, .int L, .int S, .int (d : Nat)] ∧ d ≤ n ∧ (0 ≤ L ∧ L ≤ 64) ∧ (2 ≤ S ∧ S ≤ 8) ∧ NestAt H S d L ps a ∧ TurnsOk L ps ∧ ps.length ≤ 64 ∧ ∀ H', Same H H' → Q (.bl true) H'
def lev (S : Int) : Nat → Int → Nat
  | 0, _ => 0
  | d + 1, L => if L ≤ S then 0 else lev S d ((L + S - 1) / S) + 1
theorem lev_plain {S L : Int} {d : Nat} (c : d = 0 ∨ L ≤ S) : lev S d L = 0 := by
  cases d with
  | zero => rfl
  | succ d => exact if_pos (c.resolve_left (Nat.succ_ne_zero d))
def spCount (n : Nat) : Sp := fun vs H Q _ => ∃ (a : Addr) (L S : Int) (d : Nat) (ps : Prs), vs = [.ref a] ∧ d ≤ n ∧ (0 ≤ L ∧ L ≤ 64) ∧ (2 ≤ S ∧ S ≤ 8) ∧ NestAt H S d L ps a ∧ TurnsOk L ps ∧ ps.length ≤ 64 ∧ ∀ H', Same H H' → Q (.int ((ps.length * (2 * lev S d L + 1) : Nat) : Int)) H'
def spLevels : Sp := fun vs H Q _ => ∃ (L S : Int) (d : Nat), vs = [.int L, .int S, .int (d : Nat)] ∧ (0 ≤ L ∧ L ≤ 64) ∧ (2 ≤ S ∧ S ≤ 8) ∧ Q (.int ((lev S d L : Nat) : Int)) H
theorem sum_ind (v : Int) : ∀ m : Nat, 0 ≤ v → v < (m : Int) → ((List.range m).map fun (i : Nat) => if v = (i : Int) then 1 else 0).sum = 1
  | 0, h0, h => by omega
  | m + 1, h0, h => by
    rw [List.range_succ, List.map_append, List.sum_append]
    by_cases c : v = (m : Int)
    · have z : ∀ k : Nat, k ≤ m → ((List.range k).map fun (i : Nat) => if v = (i : Int) then 1 else 0).sum = 0 := fun k => by
        induction k with
        | zero => intro _; rfl
        | succ k ih =>
          intro hk
          rw [List.range_succ, List.map_append, List.sum_append, ih (by omega)]
          simp
          omega
      rw [z m (Nat.le_refl _)]
      simp [c]
    · rw [sum_ind v m h0 (by omega)]
      simp [c]
theorem sum_add {α : Type} (l : List α) (f g : α → Nat) : (l.map fun x => f x + g x).sum = (l.map f).sum + (l.map g).sum := by
  induction l with
  | nil => rfl
  | cons a l ih =>
    simp only [List.map_cons, List.sum_cons, ih]
    omega
theorem sum_bins {α : Type} {v : α → Int} {f : α → Int × Int} {m : Nat} : ∀ {ts : List α}, (∀ t ∈ ts, 0 ≤ v t ∧ v t < (m : Int)) → ((List.range m).map fun (i : Nat) => ((ts.filter fun t => decide (v t = (i : Int))).map f).length).sum = ts.length
  | [], _ => by
    show ((List.range m).map fun _ => 0).sum = 0
    generalize List.range m = l
    induction l with
    | nil => rfl
    | cons a l ih => simpa using ih
  | t :: ts, h => by
    have ih := sum_bins (f := f) (ts := ts) fun u hu => h u (List.mem_cons_of_mem _ hu)
    have e : ∀ i : Nat, (((t :: ts).filter fun t => decide (v t = (i : Int))).map f).length = (if v t = (i : Int) then 1 else 0) + ((ts.filter fun t => decide (v t = (i : Int))).map f).length := fun i => by
      rw [List.filter_cons]
      by_cases c : v t = (i : Int)
      · rw [if_pos (decide_eq_true c), if_pos c, List.map_cons, List.length_cons]
        omega
      · rw [if_neg (by simpa using c), if_neg c, Nat.zero_add]
    simp only [e]
    rw [sum_add, ih, sum_ind (v t) m (h t (List.mem_cons_self ..)).1 (h t (List.mem_cons_self ..)).2, List.length_cons]
    omega
section
variable {P : Program} {w : World} {K : PySem.W.Frag} {mg : Str → Option Value} {base : Heap}
theorem sc__law_shape : FnScope ["_law_nest", "_law_lines", "_law_small", "_law_depth", "_law_many", "_law_inner"] ["_law_nest", "_law_lines", "_law_small", "_law_depth"] (defScope (top 36)) := ⟨rfl, rfl, rfl, by decide +kernel, rfl, by decide +kernel, by decide +kernel⟩
theorem shape_body (T : Txt K mg) (n k : Nat) (hk : 3 ≤ k) (sp : Sp) (C__law_whole : Callee P w K mg base 1 "_law_whole" ["_law_found"] spWholeT) (C__law_bars : Callee P w K mg base 2 "_law_bars" ["_law_bars_here", "_law_ones", "_law_others"] spBars) (C__law_racks : Callee P w K mg base 3 "_law_racks" ["_law_some", "_law_many", "_law_small"] spRacksB) (C__law_shape : Callee P w K mg base k "_law_shape" ["_law_nest", "_law_lines", "_law_small", "_law_depth"] sp) (D : Def K mg "_law_shape" (top 36) ["_law_nest", "_law_lines", "_law_small", "_law_depth"]) (hsp : ∀ m, n = m + 1 → sp = spShape m) : Callee P w K mg base (k+1) "_law_shape" ["_law_nest", "_law_lines", "_law_small", "_law_depth"] (spShape n) := by
  refine D.ok sc__law_shape (fun vs H Q E h => ?_) (fun f cdv A outer s H vs Q E hr h => ?_)
  · obtain ⟨a, L, S, d, ps, rfl, _⟩ := h
    rfl
  obtain ⟨a, L, S, d, ps, rfl, hd, hL, hS, hN, ok, few, q⟩ := h
  refine ⟨_, (pss_cons (ps_if (PW.pt (pw_or (pt_not (pt_truK K (pe_callB (call_isinstK K) rfl T.m_isinstance boot_isinstance (pa_cons (pv 0) (pa_cons (pe_bltn (v := .ty "tuple") rfl T.m_tuple boot_tuple rfl) pa_nil st_name) st_name)) (fun _ => rfl))) (pw_or (pt_cmpR op_lt (pe_callB (call_lenK K) rfl T.m_len boot_len (pa_cons (pv 0) pa_nil st_name)) pe_int (nomark _)) (pw_or (pt_not (pt_truK K (pe_fn C__law_whole hr rfl (pa_cons (pe_ix (ix_tupK K) (pv 0) pe_int (fun _ _ => rfl)) pa_nil st_sub) (by omega)) (fun _ => rfl))) (pw_or1 (pt_cmpR op_ne (pe_ix (ix_tupK K) (pv 0) pe_int (fun _ _ => rfl)) (pv 1) (nomark _))))))) (pss_one (ps_ret pe_bl)) pss_nil)
    (pss_cons (ps_if (PW.pt (pw_or (pt_cmpR op_eq (pv 3) pe_int (nomark _)) (pw_or1 (pt_cmpR op_le (pv 1) (pv 2) (nomark _))))) (pss_one (ps_ret (pe_and (pe_cmpR op_eq (pe_callB (call_lenK K) rfl T.m_len boot_len (pa_cons (pv 0) pa_nil st_name)) pe_int (nomark _)) (pe_and (pe_cmpR op_eq (pe_ix (ix_tupK K) (pv 0) pe_int (fun _ _ => rfl)) pe_str (nomark _)) (pe_one (pe_fn C__law_bars hr rfl (pa_cons (pe_ix (ix_tupK K) (pv 0) pe_int (fun _ _ => rfl)) (pa_cons (pv 1) (pa_cons (pv 1) pa_nil st_name) st_name) st_sub) (by omega))))))) pss_nil)
    (pss_cons (ps_if (PW.pt (pw_or (pt_cmpR op_ne (pe_callB (call_lenK K) rfl T.m_len boot_len (pa_cons (pv 0) pa_nil st_name)) pe_int (nomark _)) (pw_or (pt_cmpR op_ne (pe_ix (ix_tupK K) (pv 0) pe_int (fun _ _ => rfl)) pe_str (nomark _)) (pw_or (pt_not (pt_truK K (pe_fn C__law_whole hr rfl (pa_cons (pe_ix (ix_tupK K) (pv 0) pe_int (fun _ _ => rfl)) pa_nil st_sub) (by omega)) (fun _ => rfl))) (pw_or1 (pt_cmpR op_ne (pe_ix (ix_tupK K) (pv 0) pe_int (fun _ _ => rfl)) (pv 2) (nomark _))))))) (pss_one (ps_ret pe_bl)) pss_nil)
    (pss_cons (ps_set (i := 4) sc__law_shape.nd rfl (Or.inl rfl) (pe_op op_fdiv (pe_op op_sub (pe_op op_add (pv 1) (pv 2)) pe_int) (pv 2)))
    (pss_cons (ps_if (PW.pt (pw_or (pt_not (pt_truK K (pe_fn C__law_racks hr rfl (pa_cons (pe_ix (ix_tupK K) (pv 0) pe_int (fun _ _ => rfl)) (pa_cons (pv 4) (pa_cons (pv 2) pa_nil st_name) st_name) st_sub) (by omega)) (fun _ => rfl))) (pw_or1 (pt_not (pt_truK K (pe_fn C__law_racks hr rfl (pa_cons (pe_ix (ix_tupK K) (pv 0) pe_int (fun _ _ => rfl)) (pa_cons (pv 4) (pa_cons (pv 2) pa_nil st_name) st_name) st_sub) (by omega)) (fun _ => rfl)))))) (pss_one (ps_ret pe_bl)) pss_nil)
    (pss_cons (ps_if (PW.pt (pw_or (pt_not (pt_truK K (pe_callB (call_isinstK K) rfl T.m_isinstance boot_isinstance (pa_cons (pe_ix (ix_tupK K) (pv 0) pe_int (fun _ _ => rfl)) (pa_cons (pe_bltn (v := .ty "list") rfl T.m_list boot_list rfl) pa_nil st_name) st_sub)) (fun _ => rfl))) (pw_or1 (pt_cmpR op_ne (pe_callB (call_lenK K) rfl T.m_len boot_len (pa_cons (pe_ix (ix_tupK K) (pv 0) pe_int (fun _ _ => rfl)) pa_nil st_sub)) (pv 2) (nomark _))))) (pss_one (ps_ret pe_bl)) pss_nil)
    (pss_cons (ps_for PassesOwn.never rfl (pi_listK K (pe_ix (ix_tupK K) (pv 0) pe_int (fun _ _ => rfl))) (pg_name (i := 5) sc__law_shape.nd rfl (Or.inl rfl))
    (pss_one (ps_if (pt_not (pt_truK K (pe_fn C__law_shape hr rfl (pa_cons (pv 5) (pa_cons (pv 4) (pa_cons (pv 2) (pa_cons (pe_op op_sub (pv 3) pe_int) pa_nil st_bin) st_name) st_name) st_name) (by omega)) (fun _ => rfl))) (pss_one (ps_ret pe_bl)) pss_nil)))
    (pss_one (ps_ret pe_bl))))))))), ?_⟩
  by_cases c : d = 0 ∨ L ≤ S
  · obtain ⟨l, bs, e, hb, so⟩ := hN.plain c
    refine ⟨_, rfl, _, _, _, true, rfl, .tup e, kit_tup_tup, _, rfl, iteF ?_⟩
    refine ⟨_, rfl, a, _, rfl, .inr (SqT.of e), _, _, rfl, rfl, _, rfl, iteN (fun z => by have := of_decide_eq_true z; simp at this) ?_⟩
    refine ⟨_, rfl, a, _, _, _, rfl, rfl, SqT.of e, rfl, L, rfl, _, rfl, iteF ?_⟩
    refine ⟨_, rfl, a, _, _, _, rfl, rfl, SqT.of e, rfl, _, rfl, rfl, _, rfl, iteN (by simp) ?_⟩
    have fin : tRet (tAndV (tOp rEq (tCB (rLenSeq K) (tCons (tVar 0) tNil)) (tC (.int 3))) (tAndV (tOp rEq (tOp (rIxT K) (tVar 0) (tC (.int 0))) (tC (.str "rack"))) (tCall spBars [] E0 (tCons (tOp (rIxT K) (tVar 0) (tC (.int 2))) (tCons (tVar 1) (tCons (tVar 1) tNil)))))) { nx := fun _ H' => Q .non H', rt := Q } [some (.ref a), some (.int L), some (.int S), some (.int (d : Nat)), none, none] H := by
      refine ⟨_, rfl, a, _, rfl, .inr (SqT.of e), rfl, _, rfl, iteT ?_⟩
      refine ⟨_, rfl, a, _, _, _, rfl, rfl, SqT.of e, rfl, rfl, _, rfl, iteT ?_⟩
      exact ⟨_, rfl, a, _, _, _, rfl, rfl, SqT.of e, rfl, _, rfl, _, rfl, l, bs, ps, L, rfl, hb, so, ok, few, q⟩
    refine ⟨_, rfl, rfl, _, rfl, ite2 (fun _ => fin) (fun z => ?_)⟩
    refine ⟨_, rfl, _, rfl, _, _, rfl, rfl, _, rfl, ite2 (fun _ => fin) (fun z2 => ?_)⟩
    exfalso
    rcases c with c | c
    · exact z (decide_eq_true (by rw [c]; rfl))
    · exact z2 (decide_eq_true c)
  · match d, hd, c, hN, q with
    | 0, _, c, _, _ => exact absurd (.inl rfl) c
    | d + 1, hd, c, hN, q =>
      have c' : ¬ L ≤ S := fun z => c (.inr z)
      rcases hN with ⟨z, _⟩ | ⟨_, ts, fl, al, ll, fs, ms, ls, rfl, NT, e, efl, eal, ell, lf, lls, lm, f1, f2, f3⟩
      · exact absurd z c'
      obtain ⟨m, rfl⟩ : ∃ m, n = m + 1 := ⟨n - 1, by omega⟩
      obtain rfl := hsp m rfl
      obtain ⟨r0, r1⟩ := rk_in hS.1 hL.1 hL.2
      have fewz : ∀ (p : (Int × Int) × Int → Bool) (f : (Int × Int) × Int → Int × Int), ((ts.filter p).map f).length ≤ 64 := fun p f => Nat.le_trans (fm_len _ _ _) (by rw [List.length_map] at few; exact few)
      refine ⟨_, rfl, _, _, _, true, rfl, .tup e, kit_tup_tup, _, rfl, iteF ?_⟩
      refine ⟨_, rfl, a, _, rfl, .inr (SqT.of e), _, _, rfl, rfl, _, rfl, iteN (fun z => by have := of_decide_eq_true z; simp at this) ?_⟩
      refine ⟨_, rfl, a, _, _, _, rfl, rfl, SqT.of e, rfl, L, rfl, _, rfl, iteF ?_⟩
      refine ⟨_, rfl, a, _, _, _, rfl, rfl, SqT.of e, rfl, _, rfl, rfl, _, rfl, iteN (by simp) ?_⟩
      refine ⟨_, rfl, rfl, _, rfl, iteN (fun z => by have := V.int.inj (of_decide_eq_true z); omega) ?_⟩
      refine ⟨_, rfl, _, rfl, _, _, rfl, rfl, _, rfl, iteN (fun z => c' (of_decide_eq_true z)) ?_⟩
      refine ⟨_, rfl, a, _, rfl, .inr (SqT.of e), rfl, _, rfl, iteN (by simp) ?_⟩
      refine ⟨_, rfl, a, _, _, _, rfl, rfl, SqT.of e, rfl, rfl, _, rfl, iteN (by simp) ?_⟩
      refine ⟨_, rfl, a, _, _, _, rfl, rfl, SqT.of e, rfl, S, rfl, _, rfl, iteF ?_⟩
      refine ⟨_, rfl, a, _, _, _, rfl, rfl, SqT.of e, rfl, _, rfl, rfl, _, rfl, iteN (by simp) ?_⟩
      refine ⟨_, rfl, _, rfl, _, _, rfl, rfl, _, _, rfl, rfl, _, rfl, _, _, rfl, rfl, ⟨by omega, by omega⟩, ?_⟩
      refine ⟨_, rfl, a, _, _, _, rfl, rfl, SqT.of e, rfl, _, rfl, _, rfl, fl, fs, firstsOf S ts, S, (show [V.ref fl, V.int ((L + S - 1) / S), V.int S] = _ by rw [lf]), efl, f1, fun i => ⟨firsts_ok hS.1 ok NT i, fewz _ _⟩, fun G1 s1 => ⟨_, rfl, iteF ?_⟩⟩
      refine ⟨_, rfl, a, _, _, _, rfl, rfl, SqT.of (s1 _ _ e), rfl, _, rfl, _, rfl, ll, ls, lastsOf S ts, S, (show [V.ref ll, V.int ((L + S - 1) / S), V.int S] = _ by rw [lls]), s1 _ _ ell, f2.same s1, fun i => ⟨lasts_ok hS.1 ok NT i, fewz _ _⟩, fun G2 s2 => ⟨_, rfl, iteF ?_⟩⟩
      have s12 := s1.trans s2
      have e2 := s12 _ _ e
      have eal2 := s12 _ _ eal
      refine ⟨_, rfl, a, _, _, _, rfl, rfl, SqT.of e2, rfl, _, _, _, true, rfl, .lst eal2, kit_lst_lst', _, rfl, iteF ?_⟩
      refine ⟨_, rfl, a, _, _, _, rfl, rfl, SqT.of e2, rfl, al, _, rfl, .inl (SqL.of eal2), _, rfl, rfl, _, rfl, iteN (by simp [lm]) ?_⟩
      refine ⟨_, rfl, a, _, _, _, rfl, rfl, SqT.of e2, rfl, al, rfl, ⟨_, SqL.of eal2⟩, ?_⟩
      refine for_list (xs := ms.map V.ref) (fun i σ G => Same G2 G ∧ ∃ v5, σ = [some (.ref a), some (.int L), some (.int S), some (.int ((d + 1 : Nat) : Int)), some (.int ((L + S - 1) / S)), v5]) ⟨Same.refl _, _, rfl⟩ ?_ ?_ ?_
      · rintro i σ G _ ⟨s, _⟩
        exact SqL.of (s _ _ eal2)
      · rintro i x σ G hx ⟨s, v5, rfl⟩
        rw [List.getElem?_map] at hx
        obtain ⟨ma, ha, rfl⟩ := Option.map_eq_some_iff.mp hx
        refine ⟨_, rfl, _, rfl, _, rfl, _, rfl, _, _, rfl, rfl, ma, (L + S - 1) / S, S, d, partOf S ts i, (show [V.ref ma, V.int ((L + S - 1) / S), V.int S, V.int (((d + 1 : Nat) : Int) - 1)] = _ by rw [show ((d + 1 : Nat) : Int) - 1 = (d : Int) by omega]), by omega, ⟨r0, r1⟩, hS, NestAt.same (s12.trans s) (f3 i ma ha), part_ok hS.1 ok NT i, fewz _ _, fun G' s' => ⟨_, rfl, iteF ⟨s.trans s', _, rfl⟩⟩⟩
      · rintro σ G ⟨s, v5, rfl⟩
        exact q G (s12.trans s)
theorem ok_shape (T : Txt K mg) (C__law_whole : Callee P w K mg base 1 "_law_whole" ["_law_found"] spWholeT) (C__law_bars : Callee P w K mg base 2 "_law_bars" ["_law_bars_here", "_law_ones", "_law_others"] spBars) (C__law_racks : Callee P w K mg base 3 "_law_racks" ["_law_some", "_law_many", "_law_small"] spRacksB) (D : Def K mg "_law_shape" (top 36) ["_law_nest", "_law_lines", "_law_small", "_law_depth"]) : ∀ n : Nat, Callee P w K mg base (n+4) "_law_shape" ["_law_nest", "_law_lines", "_law_small", "_law_depth"] (spShape n)
  | 0 => shape_body T 0 3 (by decide) _ C__law_whole C__law_bars C__law_racks (callee_never D 3) D fun m h => nomatch h
  | n + 1 => shape_body T (n + 1) (n + 4) (by omega) _ C__law_whole C__law_bars C__law_racks (ok_shape T C__law_whole C__law_bars C__law_racks D n) D fun m h => by cases h; rfl
end
theorem cast_sum (l : List Nat) (f : Nat → Nat) : (l.map fun i => ((f i : Nat) : Int)).sum = ((l.map f).sum : Nat) := by
  induction l with
  | nil => rfl
  | cons a l ih =>
    simp only [List.map_cons, List.sum_cons, ih]
    omega
theorem Sorts.len {H : Hp} {fs : List Addr} {f : Nat → Prs} (h : Sorts H fs f) {i : Nat} {x : Addr} (hx : fs[i]? = some x) : ∃ as : List Addr, H x = some (.lst (as.map V.ref)) ∧ as.length = (f i).length := by
  obtain ⟨bs, ⟨as, e, p⟩, o⟩ := h i x hx
  exact ⟨as, e, (Paired.length p).trans o.1.length_eq⟩
section
variable {P : Program} {w : World} {K : PySem.W.Frag} {mg : Str → Option Value} {base : Heap}
theorem sc__law_levels : FnScope ["_law_lines", "_law_small", "_law_depth", "_law_many"] ["_law_lines", "_law_small", "_law_depth"] (defScope (top 38)) := ⟨rfl, rfl, rfl, by decide +kernel, rfl, by decide +kernel, by decide +kernel⟩
theorem ok_levels (T : Txt K mg) (D : Def K mg "_law_levels" (top 38) ["_law_lines", "_law_small", "_law_depth"]) : Callee P w K mg base 1 "_law_levels" ["_law_lines", "_law_small", "_law_depth"] spLevels := by
  refine D.ok sc__law_levels (fun vs H Q E h => ?_) (fun f cdv A outer s H vs Q E hr h => ?_)
  · obtain ⟨L, S, d, rfl, _⟩ := h
    rfl
  obtain ⟨L, S, d, rfl, hL, hS, q⟩ := h
  refine ⟨_, (pss_cons (ps_set (i := 3) sc__law_levels.nd rfl (Or.inl rfl) pe_int)
    (pss_cons (ps_while PassesOwn.never (PW.pt (pw_and (pt_cmpR op_gt (pv 2) (pv 3) (nomark _)) (pw_and1 (pt_cmpR op_gt (pv 0) (pv 1) (nomark _))))) (pss_cons (ps_set (i := 0) sc__law_levels.nd rfl (Or.inl rfl) (pe_op op_fdiv (pe_op op_sub (pe_op op_add (pv 0) (pv 1)) pe_int) (pv 1)))
    (pss_one (ps_set (i := 3) sc__law_levels.nd rfl (Or.inl rfl) (pe_op op_add (pv 3) pe_int)))))
    (pss_one (ps_ret (pv 3))))), ?_⟩
  refine ⟨fun m σ H' => H' = H ∧ ∃ (L' : Int) (k : Nat), (0 ≤ L' ∧ L' ≤ 64) ∧ k + m = d ∧ k + lev S m L' = lev S d L ∧ σ = [some (.int L'), some (.int S), some (.int (d : Nat)), some (.int (k : Nat))], ⟨d, rfl, L, 0, hL, Nat.zero_add _, Nat.zero_add _, rfl⟩, ?_⟩
  rintro m σ H' ⟨rfl, L', k, hL', hk, hl, rfl⟩
  refine ⟨_, rfl, _, rfl, _, _, rfl, rfl, _, rfl, ite2 (fun c => ?_) (fun c => ?_)⟩
  · have c' : ((d : Nat) : Int) > ((k : Nat) : Int) := of_decide_eq_true c
    obtain ⟨m, rfl⟩ : ∃ m', m = m' + 1 := ⟨m - 1, by omega⟩
    refine ⟨_, rfl, _, rfl, _, _, rfl, rfl, _, rfl, ite2 (fun c2 => ?_) (fun c2 => ?_)⟩
    · have c2' : L' > S := of_decide_eq_true c2
      have e : lev S (m + 1) L' = lev S m ((L' + S - 1) / S) + 1 := if_neg (by omega)
      rw [e] at hl
      refine ⟨fun σ' G => ∃ m', m' < m + 1 ∧ (G = H' ∧ ∃ (L' : Int) (k : Nat), (0 ≤ L' ∧ L' ≤ 64) ∧ k + m' = d ∧ k + lev S m' L' = lev S d L ∧ σ' = [some (.int L'), some (.int S), some (.int (d : Nat)), some (.int (k : Nat))]), (fun _ _ h => h), ?_⟩
      refine ⟨_, rfl, _, rfl, _, _, rfl, rfl, _, _, rfl, rfl, _, rfl, _, _, rfl, rfl, ⟨by omega, by omega⟩, ?_⟩
      refine ⟨_, rfl, _, _, rfl, rfl, m, Nat.lt_succ_self m, rfl, (L' + S - 1) / S, k + 1, rk_in hS.1 hL'.1 hL'.2, by omega, by omega, rfl⟩
    · have c2' : L' ≤ S := by
        have : ¬ L' > S := fun z => c2 (decide_eq_true z)
        omega
      rw [lev_plain (.inr c2')] at hl
      rw [← hl] at q
      exact ⟨_, rfl, q⟩
  · have c' : ¬ ((d : Nat) : Int) > ((k : Nat) : Int) := fun z => c (decide_eq_true z)
    have m0 : m = 0 := by omega
    rw [lev_plain (.inl m0)] at hl
    rw [← hl] at q
    exact iteF ⟨_, rfl, q⟩
theorem sc__law_count : FnScope ["_law_nest", "_law_total", "_law_inner"] ["_law_nest"] (defScope (top 37)) := ⟨rfl, rfl, rfl, by decide +kernel, rfl, by decide +kernel, by decide +kernel⟩
theorem count_body (T : Txt K mg) (n k : Nat) (sp : Sp) (C__law_count : Callee P w K mg base k "_law_count" ["_law_nest"] sp) (D : Def K mg "_law_count" (top 37) ["_law_nest"]) (hsp : ∀ m, n = m + 1 → sp = spCount m) : Callee P w K mg base (k+1) "_law_count" ["_law_nest"] (spCount n) := by
  refine D.ok sc__law_count (fun vs H Q E h => ?_) (fun f cdv A outer s H vs Q E hr h => ?_)
  · obtain ⟨a, L, S, d, ps, rfl, _⟩ := h
    rfl
  obtain ⟨a, L, S, d, ps, rfl, hd, hL, hS, hN, ok, few, q⟩ := h
  refine ⟨_, (pss_cons (ps_if (pt_cmpR op_eq (pe_ix (ix_tupK K) (pv 0) pe_int (fun _ _ => rfl)) pe_str (nomark _)) (pss_one (ps_ret (pe_callB (call_lenK K) rfl T.m_len boot_len (pa_cons (pe_ix (ix_tupK K) (pv 0) pe_int (fun _ _ => rfl)) pa_nil st_sub)))) pss_nil)
    (pss_cons (ps_set (i := 1) sc__law_count.nd rfl (Or.inl rfl) (pe_callB (call_sumK K rfl) rfl T.m_sum boot_sum (pa_cons (pe_comp (own := ["_law_bars_here"]) (fr := []) rfl (show CompScope ["_law_nest", "_law_total", "_law_inner"] (defScope (top 37)) _ _ _ from ⟨rfl, by decide +kernel, by decide +kernel, by decide +kernel, by decide +kernel⟩) (pi_listK K (pe_op op_cat (pe_ix (ix_tupK K) (pv 0) pe_int (fun _ _ => rfl)) (pe_ix (ix_tupK K) (pv 0) pe_int (fun _ _ => rfl)))) (fun cl C s H ex => ⟨(pg_name (i := 0) (show (["_law_bars_here"] : List Str).Nodup from by decide +kernel) rfl (Or.inl rfl) (Or.inr rfl)), pif_nil, (pe_callB (call_lenK K) rfl T.m_len boot_len (pa_cons (pv 0) pa_nil st_name))⟩)) pa_nil st_comp)))
    (pss_cons (ps_for PassesOwn.never rfl (pi_listK K (pe_ix (ix_tupK K) (pv 0) pe_int (fun _ _ => rfl))) (pg_name (i := 2) sc__law_count.nd rfl (Or.inl rfl))
    (pss_one (ps_set (i := 1) sc__law_count.nd rfl (Or.inl rfl) (pe_op op_add (pv 1) (pe_fn C__law_count hr rfl (pa_cons (pv 2) pa_nil st_name) (by omega))))))
    (pss_one (ps_ret (pv 1)))))), ?_⟩
  by_cases c : d = 0 ∨ L ≤ S
  · obtain ⟨l, bs, e, ⟨as, el, pr⟩, so⟩ := hN.plain c
    refine ⟨_, rfl, a, _, _, _, rfl, rfl, SqT.of e, rfl, rfl, _, rfl, iteT ?_⟩
    refine ⟨_, rfl, a, _, _, _, rfl, rfl, SqT.of e, rfl, l, _, rfl, .inl (SqL.of el), ?_⟩
    have h1 : (as.map V.ref).length = ps.length := by rw [List.length_map, Paired.length pr, so.1.length_eq]
    rw [h1]
    have := q H (Same.refl _)
    rw [lev_plain c, Nat.mul_zero, Nat.zero_add, Nat.mul_one] at this
    exact this
  · match d, hd, c, hN, q with
    | 0, _, c, _, _ => exact absurd (.inl rfl) c
    | d + 1, hd, c, hN, q =>
      have c' : ¬ L ≤ S := fun z => c (.inr z)
      rcases hN with ⟨z, _⟩ | ⟨_, ts, fl, al, ll, fs, ms, ls, rfl, NT, e, efl, eal, ell, lf, lls, lm, f1, f2, f3⟩
      · exact absurd z c'
      obtain ⟨m, rfl⟩ : ∃ m, n = m + 1 := ⟨n - 1, by omega⟩
      obtain rfl := hsp m rfl
      obtain ⟨r0, r1⟩ := rk_in hS.1 hL.1 hL.2
      have fewt : ts.length ≤ 64 := by rw [List.length_map] at few; exact few
      refine ⟨_, rfl, a, _, _, _, rfl, rfl, SqT.of e, rfl, rfl, _, rfl, iteN (fun z => absurd (V.str.inj (of_decide_eq_true z)) (by decide)) ?_⟩
      refine ⟨_, rfl, a, _, _, _, rfl, rfl, SqT.of e, rfl, _, rfl, a, _, _, _, rfl, rfl, SqT.of e, rfl, fl, ll, _, _, rfl, rfl, efl, ell, ?_, fun cl hcl => ?_⟩
      · rw [List.length_map, List.length_map]
        exact Nat.le_trans (show fs.length + ls.length ≤ 128 by omega) (by decide)
      have s1 := same_new hcl (.lst (fs.map V.ref ++ ls.map V.ref))
      have ecl := upd_same (H := H) (a := cl) (o := .lst (fs.map V.ref ++ ls.map V.ref))
      generalize upd H cl _ = G1 at s1 ecl ⊢
      rw [← List.map_append] at ecl
      have lens : ∀ i x, (fs ++ ls)[i]? = some x → ∃ as : List Addr, G1 x = some (.lst (as.map V.ref)) ∧ (((List.range fs.length).map fun i => (((firstsOf S ts i).length : Nat) : Int)) ++ (List.range ls.length).map fun i => (((lastsOf S ts i).length : Nat) : Int))[i]? = some ((as.length : Nat) : Int) := fun i x hx => by
        by_cases ci : i < fs.length
        · rw [List.getElem?_append_left ci] at hx
          obtain ⟨as, ea, la⟩ := f1.len hx
          refine ⟨as, s1 _ _ ea, ?_⟩
          rw [List.getElem?_append_left (by rw [List.length_map, List.length_range]; exact ci), List.getElem?_map, List.getElem?_range ci, la]
          rfl
        · rw [List.getElem?_append_right (by omega)] at hx
          obtain ⟨as, ea, la⟩ := f2.len hx
          refine ⟨as, s1 _ _ ea, ?_⟩
          have := (List.getElem?_eq_some_iff.mp hx).1
          rw [List.getElem?_append_right (by rw [List.length_map, List.length_range]; omega), List.getElem?_map, List.length_map, List.length_range, List.getElem?_range this, la]
          rfl
      generalize hns : (((List.range fs.length).map fun i => (((firstsOf S ts i).length : Nat) : Int)) ++ (List.range ls.length).map fun i => (((lastsOf S ts i).length : Nat) : Int)) = lns at lens
      have hsum : lns.sum = ((2 * ts.length : Nat) : Int) := by
        rw [← hns, List.sum_append, cast_sum (List.range fs.length) (fun i => (firstsOf S ts i).length), cast_sum (List.range ls.length) (fun i => (lastsOf S ts i).length)]
        have h1 := sum_bins (ts := ts) (v := fun t => t.1.1 / S) (f := fun t => (t.1.1 % S, t.2)) (m := fs.length) fun t ht => by rw [lf]; exact racks_lt hS.1 (ok.t ht).1.1 (ok.t ht).1.2
        have h2 := sum_bins (ts := ts) (v := fun t => t.1.2 / S) (f := fun t => (t.2, t.1.2 % S)) (m := ls.length) fun t ht => by rw [lls]; exact racks_lt hS.1 (ok.t ht).2.1 (ok.t ht).2.2
        unfold firstsOf lastsOf
        rw [h1, h2]
        omega
      have hll : lns.length = (fs ++ ls).length := by rw [← hns]; simp
      refine ⟨cl, rfl, ⟨_, SqL.of ecl⟩, ?_⟩
      refine comp_list (xs := (fs ++ ls).map V.ref) (fun i acc σ G => G = G1 ∧ acc = (lns.take i).map V.int ∧ ∃ v, σ = [v]) ⟨rfl, rfl, _, rfl⟩ ?_ ?_ ?_ ?_ ?_
      · rw [List.length_map, List.length_append]
        exact Nat.le_trans (show fs.length + ls.length ≤ 128 by omega) (by decide)
      · rintro i acc σ G ⟨_, rfl, _⟩
        rw [List.length_map, List.length_take]
        omega
      · rintro i acc σ G _ ⟨rfl, _⟩
        exact SqL.of ecl
      · rintro i x acc σ G hx ⟨rfl, rfl, v, rfl⟩
        rw [List.getElem?_map] at hx
        obtain ⟨x, hx', rfl⟩ := Option.map_eq_some_iff.mp hx
        obtain ⟨as, ea, la⟩ := lens i x hx'
        refine ⟨_, rfl, x, _, rfl, .inl (SqL.of ea), rfl, ?_, _, rfl⟩
        rw [List.take_succ, la, Option.toList_some, List.map_append, List.length_map]
        rfl
      rintro acc σ G ⟨rfl, rfl, v, rfl⟩ nl hnl
      rw [List.length_map, ← hll, List.take_length]
      have s2 := same_new hnl (.lst (lns.map V.int))
      refine ⟨nl, lns, rfl, SqL.of upd_same, ?_⟩
      rw [hsum]
      dsimp only [gName, tNext]
      have s12 := s1.trans s2
      generalize upd G nl _ = G2 at s2 s12 ⊢
      have e2 := s12 _ _ e
      have eal2 := s12 _ _ eal
      refine ⟨_, rfl, a, _, _, _, rfl, rfl, SqT.of e2, rfl, al, rfl, ⟨_, SqL.of eal2⟩, ?_⟩
      refine for_list (xs := ms.map V.ref) (fun i σ G => Same G2 G ∧ ∃ v2, σ = [some (.ref a), some (.int ((2 * ts.length + ((List.range i).map fun k => (partOf S ts k).length).sum * (2 * lev S d ((L + S - 1) / S) + 1) : Nat) : Int)), v2]) ⟨Same.refl _, _, by simp; rfl⟩ ?_ ?_ ?_
      · rintro i σ G _ ⟨s, _⟩
        exact SqL.of (s _ _ eal2)
      · rintro i x σ G hx ⟨s, v2, rfl⟩
        rw [List.getElem?_map] at hx
        obtain ⟨ma, ha, rfl⟩ := Option.map_eq_some_iff.mp hx
        refine ⟨_, rfl, _, rfl, ma, (L + S - 1) / S, S, d, partOf S ts i, rfl, by omega, ⟨r0, r1⟩, hS, NestAt.same (s12.trans s) (f3 i ma ha), part_ok hS.1 ok NT i, Nat.le_trans (fm_len _ _ _) fewt, fun G' s' => ?_⟩
        refine ⟨_, _, rfl, rfl, s.trans s', some (.ref ma), ?_⟩
        have ee : (((2 * ts.length + ((List.range i).map fun k => (partOf S ts k).length).sum * (2 * lev S d ((L + S - 1) / S) + 1) : Nat) : Int) + (((partOf S ts i).length * (2 * lev S d ((L + S - 1) / S) + 1) : Nat) : Int)) = ((2 * ts.length + ((List.range (i + 1)).map fun k => (partOf S ts k).length).sum * (2 * lev S d ((L + S - 1) / S) + 1) : Nat) : Int) := by
          generalize 2 * lev S d ((L + S - 1) / S) + 1 = v
          rw [List.range_succ, List.map_append, List.sum_append, Nat.add_mul]
          simp
          omega
        rw [← ee]
        rfl
      · rintro σ G ⟨s, v2, rfl⟩
        refine ⟨_, rfl, ?_⟩
        have h3 := sum_bins (ts := ts) (v := fun t => t.2) (f := fun t => (t.1.1 / S, t.1.2 / S)) (m := ms.length) fun t ht => by rw [lm]; exact NT.bd t ht
        have h4 : ((List.range ms.length).map fun k => (partOf S ts k).length).sum = ts.length := h3
        rw [List.length_map, h4]
        have := q G (s12.trans s)
        rw [show lev S (d + 1) L = lev S d ((L + S - 1) / S) + 1 from if_neg c', List.length_map] at this
        rw [show 2 * ts.length + ts.length * (2 * lev S d ((L + S - 1) / S) + 1) = ts.length * (2 * (lev S d ((L + S - 1) / S) + 1) + 1) by
          generalize lev S d ((L + S - 1) / S) = v
          rw [show 2 * (v + 1) + 1 = (2 * v + 1) + 2 by omega]
          generalize 2 * v + 1 = u
          rw [Nat.mul_add]
          omega]
        exact this
theorem ok_count (T : Txt K mg) (D : Def K mg "_law_count" (top 37) ["_law_nest"]) : ∀ n : Nat, Callee P w K mg base (n+1) "_law_count" ["_law_nest"] (spCount n)
  | 0 => count_body T 0 0 _ (callee_never D 0) D fun m h => nomatch h
  | n + 1 => count_body T (n + 1) (n + 1) _ (ok_count T D n) D fun m h => by cases h; rfl
end
def Left (F : Int) (cs fs : List Int) : Prop := (cs ++ fs).Nodup ∧ ∀ x ∈ cs ++ fs, 0 ≤ x ∧ x < F
theorem Left.pop {F x : Int} {cs cs' fs : List Int} (h : Left F cs fs) (p : (x :: cs').Perm cs) : Left F cs' (fs ++ [x]) := by
  have q : (cs' ++ (fs ++ [x])).Perm (cs ++ fs) := by
    have h1 : (cs' ++ (fs ++ [x])).Perm ([x] ++ (cs' ++ fs)) := by
      rw [← List.append_assoc]
      exact List.perm_append_comm
    have h2 : ([x] ++ (cs' ++ fs)).Perm (cs ++ fs) := by
      rw [← List.append_assoc]
      exact List.Perm.append_right fs p
    exact h1.trans h2
  exact ⟨q.nodup_iff.mpr h.1, fun y hy => h.2 y (q.mem_iff.mp hy)⟩
theorem left_all {F : Int} (h0 : 0 ≤ F) : Left F ((List.range F.toNat).map fun (k : Nat) => (k : Int)) [] := by
  rw [Left, List.append_nil]
  refine ⟨?_, fun x hx => ?_⟩
  · rw [List.nodup_iff_pairwise_ne, List.pairwise_map]
    exact List.nodup_range.imp fun {a b} h z => h (by omega)
  · obtain ⟨k, hk, rfl⟩ := List.mem_map.mp hx
    have := List.mem_range.mp hk
    omega
theorem pop_ok {bs : List Int} {i : Nat} (hi : i < bs.length) : seqIndex? (i : Int) (bs.map V.int).length = some i ∧ (bs.map V.int)[i]? = some (.int (bs[i]'hi)) ∧ (bs.map V.int).eraseIdx i = (bs.eraseIdx i).map V.int := by
  refine ⟨?_, by rw [List.getElem?_map, List.getElem?_eq_getElem hi]; rfl, ?_⟩
  · unfold seqIndex?
    rw [List.length_map]
    simp
    omega
  · rw [List.eraseIdx_eq_take_drop_succ, List.eraseIdx_eq_take_drop_succ, List.map_append, List.map_take, List.map_drop]
theorem erase_perm {cs : List Int} {j : Nat} (hj : j < cs.length) : (cs[j]'hj :: cs.eraseIdx j).Perm cs := by
  have e : cs = cs.take j ++ cs[j]'hj :: cs.drop (j + 1) := by rw [← List.drop_eq_getElem_cons hj, List.take_append_drop]
  rw [List.eraseIdx_eq_take_drop_succ]
  conv => rhs; rw [e]
  exact List.perm_middle.symm
theorem pop_at {G : Hp} {l : Addr} {cs : List Int} {i : Int} {Q : VK} (e : G l = some (.lst (cs.map V.int))) (few : cs.length ≤ 200) (h0 : 0 ≤ i) (h1 : i < (cs.length : Nat)) (q : ∀ (x : Int) (cs' : List Int), (x :: cs').Perm cs → Q (.int x) (upd G l (.lst (cs'.map V.int)))) : rPopAt (.ref l) [.int i] G Q := by
  obtain ⟨j, rfl⟩ := Int.eq_ofNat_of_zero_le h0
  have hj : j < cs.length := by omega
  obtain ⟨p1, p2, p3⟩ := pop_ok hj
  refine ⟨l, _, _, j, _, rfl, rfl, e, by omega, by omega, p1, p2, ?_⟩
  rw [p3]
  exact q _ _ (erase_perm hj)
section
variable {P : Program} {w : World} {K : PySem.W.Frag} {mg : Str → Option Value} {base : Heap}
theorem list_range {G : Hp} {F : Int} {Q : VK} (h0 : 0 ≤ F) (h1 : F ≤ 144) (q : ∀ (l : Addr) (G' : Hp), Same G G' → G l = none → G' l = some (.lst (((List.range F.toNat).map fun (k : Nat) => (k : Int)).map V.int)) → Q (.ref l) G') : ∀ r, G r = none → rOfRng [.ref r] (upd G r (RngO r F)) Q := by
  intro r hr1
  have s1 := same_new hr1 (RngO r F)
  have er : upd G r (RngO r F) r = some (RngO r (F.toNat : Nat)) := by rw [upd_same, Int.toNat_of_nonneg h0]
  refine ⟨r, F.toNat, rfl, er, by omega, fun l0 hl0 => ?_⟩
  refine q l0 _ (s1.trans (same_new hl0 _)) (s1.free hl0) ?_
  rw [upd_same, List.map_map]
  rfl
end
def spSizes (K : PySem.W.Frag) : Sp := fun vs H Q _ => ∃ (a : Addr) (ns : List Int), vs = [.ref a] ∧ SqL K H a (ns.map V.int) ∧ ∀ (t : Addr) (L S : Int) (d : Nat) (H' : Hp), Same H H' → H' t = some (.tup [.int L, .int S, .int (d : Nat)]) → (1 ≤ L ∧ L ≤ 64) → (2 ≤ S ∧ S ≤ 8) → d ≤ 6 → Q (.ref t) H'
section
variable {P : Program} {w : World} {K : PySem.W.Frag} {mg : Str → Option Value} {base : Heap}
theorem sc__law_sizes : FnScope ["_law_script", "_law_left", "_law_lines", "_law_small", "_law_number"] ["_law_script"] (defScope (top 31)) := ⟨rfl, rfl, rfl, by decide +kernel, rfl, by decide +kernel, by decide +kernel⟩
theorem ok_sizes (T : Txt K mg) (C__law_cell_at : Callee P w K mg base 1 "_law_cell_at" ["_law_script", "_law_k"] (spCell K)) (C__law_mixed : Callee P w K mg base 1 "_law_mixed" ["_law_cell", "_law_k"] spMixed) (C__law_digit : Callee P w K mg base 1 "_law_digit" ["_law_left", "_law_many"] spDigit) (D : Def K mg "_law_sizes" (top 31) ["_law_script"]) : Callee P w K mg base 2 "_law_sizes" ["_law_script"] (spSizes K) := by
  refine D.ok sc__law_sizes (fun vs H Q E h => ?_) (fun f cdv A outer s H vs Q E hr h => ?_)
  · obtain ⟨a, ns, rfl, _⟩ := h
    rfl
  obtain ⟨a, ns, rfl, hS, q⟩ := h
  refine ⟨_, (pss_cons (ps_if (pt_cmpR op_eq (pe_op op_mod (pe_fn C__law_cell_at hr rfl (pa_cons (pv 0) (pa_cons pe_int pa_nil st_const) st_name)) pe_int) pe_int (nomark _)) (pss_cons (ps_set (i := 1) sc__law_sizes.nd rfl (Or.inl rfl) (pe_lst (pa_cons (pe_op op_fdiv (pe_callB call_abs rfl T.m_abs boot_abs (pa_cons (pe_fn C__law_cell_at hr rfl (pa_cons (pv 0) (pa_cons pe_int pa_nil st_const) st_name)) pa_nil st_call)) pe_int) pa_nil st_bin)))
    (pss_cons (ps_set (i := 2) sc__law_sizes.nd rfl (Or.inl rfl) (pe_op op_add pe_int (pe_fn C__law_digit hr rfl (pa_cons (pv 1) (pa_cons pe_int pa_nil st_const) st_name))))
    (pss_cons (ps_set (i := 3) sc__law_sizes.nd rfl (Or.inl rfl) (pe_op op_add pe_int (pe_fn C__law_digit hr rfl (pa_cons (pv 1) (pa_cons pe_int pa_nil st_const) st_name))))
    (pss_one (ps_ret (pe_tup (pa_cons (pv 2) (pa_cons (pv 3) (pa_cons (pe_fn C__law_digit hr rfl (pa_cons (pv 1) (pa_cons pe_int pa_nil st_const) st_name)) pa_nil st_call) st_name) st_name))))))) pss_nil)
    (pss_cons (ps_set (i := 4) sc__law_sizes.nd rfl (Or.inl rfl) (pe_fn C__law_mixed hr rfl (pa_cons (pe_fn C__law_cell_at hr rfl (pa_cons (pv 0) (pa_cons pe_int pa_nil st_const) st_name)) (pa_cons pe_int pa_nil st_const) st_call)))
    (pss_cons (ps_set (i := 2) sc__law_sizes.nd rfl (Or.inl rfl) (pe_op op_add pe_int (pe_op op_mod (pv 4) (pe_ix (ix_listK K) (pe_lst (pa_cons pe_int (pa_cons pe_int (pa_cons pe_int pa_nil st_const) st_const) st_const)) (pe_op op_mod (pe_fn C__law_cell_at hr rfl (pa_cons (pv 0) (pa_cons pe_int pa_nil st_const) st_name)) pe_int) (fun _ _ => rfl)))))
    (pss_cons (ps_set (i := 3) sc__law_sizes.nd rfl (Or.inl rfl) (pe_op op_add pe_int (pe_op op_mul (pe_op op_mod (pe_op op_fdiv (pv 4) pe_int) pe_int) (pe_op op_mod (pe_op op_fdiv (pv 4) pe_int) pe_int))))
    (pss_one (ps_ret (pe_tup (pa_cons (pv 2) (pa_cons (pv 3) (pa_cons (pe_op op_mod (pe_fn C__law_mixed hr rfl (pa_cons (pe_fn C__law_cell_at hr rfl (pa_cons (pv 0) (pa_cons pe_int pa_nil st_const) st_name)) (pa_cons pe_int pa_nil st_const) st_call)) pe_int) pa_nil st_bin) st_name) st_name)))))))), ?_⟩
  refine ⟨_, rfl, a, ns, 0, rfl, hS, _, _, rfl, rfl, (by show (0 : Int) < 2; decide), rfl, _, rfl, ?_⟩
  refine ite2 (fun _ => ?_) (fun _ => ?_)
  · refine ⟨_, rfl, a, ns, 0, rfl, hS, _, rfl, _, _, rfl, rfl, ⟨by decide, by decide⟩, (by show 1 ≤ sizeLine; decide), fun l hl => ?_⟩
    dsimp only
    generalize (if cell ns 0 < 0 then -cell ns 0 else cell ns 0) / 2 = n0
    have s1 := same_new hl (.lst [.int n0])
    have el := upd_same (H := H) (a := l) (o := .lst [.int n0])
    generalize upd H l (.lst [.int n0]) = H1 at s1 el ⊢
    refine ⟨_, rfl, l, n0, 64, rfl, el, by decide, by decide, _, _, rfl, rfl, ?_⟩
    refine ⟨_, rfl, l, _, 7, rfl, upd_same, by decide, by decide, _, _, rfl, rfl, ?_⟩
    refine ⟨_, rfl, _, rfl, _, rfl, l, _, 7, rfl, upd_same, by decide, by decide, (by show 3 ≤ sizeLine; decide), fun t ht => ?_⟩
    have k1 := Int.emod_nonneg (n0 / 64 / 7) (show (7 : Int) ≠ 0 by decide)
    have k2 := Int.emod_lt_of_pos (n0 / 64 / 7) (show (0 : Int) < 7 by decide)
    obtain ⟨d, hd⟩ := Int.eq_ofNat_of_zero_le k1
    dsimp only
    rw [hd] at k2 ⊢
    refine q t (1 + n0 % 64) (2 + n0 / 64 % 7) d _ (fun b u z => ?_) upd_same ⟨by omega, by omega⟩ ⟨by omega, by omega⟩ (by omega)
    exact same_new ht _ _ _ (Same.put (Same.put (Same.put s1 hl) hl) hl b u z)
  · refine ⟨_, rfl, a, ns, 0, rfl, hS, cell ns 0, 0, rfl, by decide, fun v v0 v1 => ?_⟩
    have w3 : ∃ i : Nat, cell ns 0 % 3 = (i : Int) ∧ i < 3 := by
      obtain ⟨i, hi⟩ := Int.eq_ofNat_of_zero_le (Int.emod_nonneg (cell ns 0) (show (3 : Int) ≠ 0 by decide))
      exact ⟨i, hi, by have := Int.emod_lt_of_pos (cell ns 0) (show (0 : Int) < 3 by decide); omega⟩
    obtain ⟨i, hi, hi3⟩ := w3
    obtain ⟨m, hm, m20⟩ : ∃ m : Int, ([20, 20, 64].map V.int)[i]? = some (.int m) ∧ (m = 20 ∨ m = 64) := by
      match i, hi3 with
      | 0, _ => exact ⟨20, rfl, .inl rfl⟩
      | 1, _ => exact ⟨20, rfl, .inl rfl⟩
      | 2, _ => exact ⟨64, rfl, .inr rfl⟩
    refine ⟨_, rfl, (by show 3 ≤ sizeLine; decide), fun dl hdl => ?_⟩
    have s1 := same_new hdl (.lst [.int 20, .int 20, .int 64])
    have ed := upd_same (H := H) (a := dl) (o := .lst ([20, 20, 64].map V.int))
    change upd H dl (.lst [.int 20, .int 20, .int 64]) dl = _ at ed
    generalize upd H dl (.lst [.int 20, .int 20, .int 64]) = H1 at s1 ed ⊢
    have hS1 := s1.seq hS
    refine ⟨_, rfl, a, ns, 0, rfl, hS1, _, _, rfl, rfl, (by show (0 : Int) < 3; decide), dl, _, _, _, rfl, rfl, SqL.of ed, by rw [hi]; exact atI_nat hm, _, _, rfl, rfl, by omega, _, _, rfl, rfl, ?_⟩
    have r1 := Int.emod_nonneg (v / 64) (show (7 : Int) ≠ 0 by decide)
    have r2 := Int.emod_lt_of_pos (v / 64) (show (0 : Int) < 7 by decide)
    have r3 : v / 448 % 2 = 0 ∨ v / 448 % 2 = 1 := by omega
    refine ⟨_, rfl, _, _, rfl, rfl, ⟨by decide, by decide⟩, _, _, rfl, rfl, (by show (0 : Int) < 7; decide), _, rfl, _, _, rfl, rfl, ⟨by decide, by decide⟩, _, _, rfl, rfl, (by show (0 : Int) < 2; decide), _, _, rfl, rfl, .inl ⟨by omega, by omega⟩, _, _, rfl, rfl, ?_⟩
    refine ⟨_, rfl, _, rfl, _, rfl, a, ns, 1, rfl, hS1, cell ns 1, 1, rfl, by decide, fun v' v0' v1' => ?_⟩
    refine ⟨_, _, rfl, rfl, (by show (0 : Int) < 7; decide), (by show 3 ≤ sizeLine; decide), fun t ht => ?_⟩
    have k1 := Int.emod_nonneg v' (show (7 : Int) ≠ 0 by decide)
    have k2 := Int.emod_lt_of_pos v' (show (0 : Int) < 7 by decide)
    obtain ⟨d, hd⟩ := Int.eq_ofNat_of_zero_le k1
    dsimp only
    rw [hd] at k2 ⊢
    have q1 := Int.emod_nonneg v (show m ≠ 0 by omega)
    have q2 := Int.emod_lt_of_pos v (show 0 < m by omega)
    refine q t (1 + v % m) (2 + v / 64 % 7 * (v / 448 % 2)) d _ (s1.trans (same_new ht _)) upd_same ⟨by omega, by omega⟩ ?_ (by omega)
    rcases r3 with r | r <;> rw [r] <;> omega
end
theorem Left.perm {F : Int} {cs fs fs' : List Int} (h : Left F cs fs) (p : fs'.Perm fs) : Left F cs fs' :=
  ⟨(List.Perm.append_left cs p).nodup_iff.mpr h.1, fun x hx => h.2 x ((List.Perm.append_left cs p).mem_iff.mp hx)⟩
theorem Left.drop {F x : Int} {cs cs' fs : List Int} (h : Left F cs fs) (p : (x :: cs').Perm cs) : Left F cs' fs := by
  have q := List.Perm.append_right fs p
  have n := q.nodup_iff.mpr h.1
  rw [List.cons_append] at n
  exact ⟨(List.nodup_cons.mp n).2, fun y hy => h.2 y (q.mem_iff.mp (List.mem_cons_of_mem _ hy))⟩
theorem pr_ins {F : Addr → Int × Int → Prop} {a : Addr} {p : Int × Int} {as : List Addr} {ps : List (Int × Int)} (h : Paired F as ps) (e : F a p) (j : Nat) : Paired F (as.take j ++ a :: as.drop j) (ps.take j ++ p :: ps.drop j) := by
  induction j generalizing as ps with
  | zero => exact .cons e h
  | succ j ih =>
    cases h with
    | nil => exact .cons e .nil
    | cons r t => exact .cons r (ih t)
theorem ins_perm {α : Type} (l : List α) (x : α) (j : Nat) : (l.take j ++ x :: l.drop j).Perm (l ++ [x]) := by
  refine List.perm_middle.trans ?_
  rw [List.take_append_drop]
  exact (List.perm_append_singleton x l).symm
theorem turns_ok {L : Int} {ps : List (Int × Int)} {cs es : List Int} (l1 : Left L cs (ps.map Prod.fst)) (l2 : Left L es (ps.map Prod.snd)) : TurnsOk L ps :=
  ⟨fun p hp => ⟨l1.2 _ (List.mem_append_right _ (List.mem_map_of_mem hp)), l2.2 _ (List.mem_append_right _ (List.mem_map_of_mem hp))⟩, (List.nodup_append.mp l1.1).2.1, (List.nodup_append.mp l2.1).2.1⟩
theorem left_from {L : Int} {i : Nat} {fs : List Int} (n : fs.Nodup) (b : ∀ x ∈ fs, 0 ≤ x ∧ x < (i : Int)) (hi : (i : Int) ≤ L) : Left L [] fs :=
  ⟨n, fun x hx => by have := b x hx; omega⟩
def spFreeT : Sp := fun vs H Q _ => ∃ (l : Addr) (L n : Int), vs = [.int L, .ref l] ∧ 1 ≤ L ∧ L ≤ 64 ∧ H l = some (.lst [.int n]) ∧ ∀ (r : Addr) (ps : Prs) (H' : Hp), SameX l H H' → BarsAt H' r ps → TurnsOk L ps → ps.length ≤ 64 → Q (.ref r) H'
section
variable {P : Program} {w : World} {K : PySem.W.Frag} {mg : Str → Option Value} {base : Heap}
theorem sc__law_free_turns : FnScope ["_law_lines", "_law_left", "_law_others", "_law_found", "_law_one", "_law_to"] ["_law_lines", "_law_left"] (defScope (top 32)) := ⟨rfl, rfl, rfl, by decide +kernel, rfl, by decide +kernel, by decide +kernel⟩
set_option maxHeartbeats 2000000 in
theorem ok_freeT (T : Txt K mg) (C__law_digit : Callee P w K mg base 1 "_law_digit" ["_law_left", "_law_many"] spDigit) (D : Def K mg "_law_free_turns" (top 32) ["_law_lines", "_law_left"]) : Callee P w K mg base 2 "_law_free_turns" ["_law_lines", "_law_left"] spFreeT := by
  refine D.ok sc__law_free_turns (fun vs H Q E h => ?_) (fun f cdv A outer s H vs Q E hr h => ?_)
  · obtain ⟨l, L, n, rfl, _⟩ := h
    rfl
  obtain ⟨l, L, n, rfl, L1, L64, el, q⟩ := h
  refine ⟨_, (pss_cons (ps_set (i := 2) sc__law_free_turns.nd rfl (Or.inl rfl) (pe_callTy (call_list_rng rfl) rfl T.m_list boot_list (pa_cons (pe_callTy call_range_new rfl T.m_range boot_range (pa_cons (pv 0) pa_nil st_name)) pa_nil st_call)))
    (pss_cons (ps_set (i := 3) sc__law_free_turns.nd rfl (Or.inl rfl) (pe_lst pa_nil))
    (pss_cons (ps_for PassesOwn.never rfl (pi_range1 rfl T.m_range (pa_cons (pv 0) pa_nil st_name)) (pg_name (i := 4) sc__law_free_turns.nd rfl (Or.inl rfl))
    (pss_cons (ps_set (i := 5) sc__law_free_turns.nd rfl (Or.inl rfl) (pe_bmK K PySem.F.plainAttrs_list PySem.F.slot_list_pop PySem.F.type_list_pop mt_popAtR (pv 2) (pa_cons (pe_fn C__law_digit hr rfl (pa_cons (pv 1) (pa_cons (pe_callB (call_lenK K) rfl T.m_len boot_len (pa_cons (pv 2) pa_nil st_name)) pa_nil st_call) st_name)) pa_nil st_call)))
    (pss_one (ps_if (pt_cmpR op_eq (pe_fn C__law_digit hr rfl (pa_cons (pv 1) (pa_cons pe_int pa_nil st_const) st_name)) pe_int (nomark _)) (pss_one (ps_expr (pe_bmK K PySem.F.plainAttrs_list PySem.F.slot_list_insert PySem.F.type_list_insert mt_insertR (pv 3) (pa_cons (pe_fn C__law_digit hr rfl (pa_cons (pv 1) (pa_cons (pe_op op_add (pe_callB (call_lenK K) rfl T.m_len boot_len (pa_cons (pv 3) pa_nil st_name)) pe_int) pa_nil st_bin) st_name)) (pa_cons (pe_tup (pa_cons (pv 4) (pa_cons (pv 5) pa_nil st_name) st_name)) pa_nil st_tup) st_call)))) pss_nil))))
    (pss_one (ps_ret (pv 3)))))), ?_⟩
  refine ⟨_, rfl, _, rfl, ?_⟩
  dsimp only [tNil]
  refine list_range (F := L) (by omega) (by omega) fun lo H1 s1 hlo eo => ?_
  refine ⟨(by show 0 ≤ sizeLine; decide), fun r hr0 => ?_⟩
  have s2' := same_new hr0 (.lst [])
  have er := upd_same (H := H1) (a := r) (o := .lst [])
  have eo2 := s2' _ _ eo
  generalize upd H1 r (.lst []) = H2 at s2' er eo2 ⊢
  have s2 := s1.trans s2'
  have hr00 := s1.free hr0
  have nlo : l ≠ lo := ne_of_none el hlo
  have nlr : l ≠ r := ne_of_none el hr00
  have nor : lo ≠ r := ne_of_none eo hr0
  refine ⟨_, rfl, _, rfl, by omega, by omega, ?_⟩
  refine for_range (lo := 0) (n := L.toNat) (fun i σ G => SameX l H G ∧ (∃ n', G l = some (.lst [.int n'])) ∧ (∃ as ps es, G r = some (.lst (as.map V.ref)) ∧ PrsAt G as ps ∧ G lo = some (.lst (es.map V.int)) ∧ es.length + i = L.toNat ∧ Left L es (ps.map Prod.snd) ∧ (ps.map Prod.fst).Nodup ∧ (∀ x ∈ ps.map Prod.fst, 0 ≤ x ∧ x < (i : Int)) ∧ ps.length ≤ i) ∧ ∃ v4 v5, σ = [some (.int L), some (.ref l), some (.ref lo), some (.ref r), v4, v5])
    ⟨fun b u nb z => s2 _ _ z, ⟨n, s2 _ _ el⟩, ⟨[], [], _, er, .nil, eo2, by rw [List.length_map, List.length_range]; omega, left_all (by omega), List.nodup_nil, (fun x hx => absurd hx List.not_mem_nil), Nat.le_refl _⟩, none, none, rfl⟩ ?_ ?_
  · rintro i σ G hi ⟨sx, ⟨n', eL⟩, ⟨as, ps, es, e1, e2, e3, len, LL, nd, bd, pl⟩, v4, v5, rfl⟩
    rw [Int.zero_add]
    have pe : 0 < es.length := by omega
    have la : as.length = ps.length := Paired.length e2
    have hm1 := mod_in (x := n') (d := ((es.map V.int).length : Int)) (by rw [List.length_map]; omega)
    refine ⟨_, rfl, .inl ⟨rfl, _, SqL.of e3⟩, _, rfl, _, rfl, lo, _, rfl, .inl (SqL.of e3), l, n', _, rfl, eL, by rw [List.length_map]; omega, by rw [List.length_map]; omega, ?_⟩
    have g1 : ∀ b u, b ≠ l → G b = some u → upd G l (.lst [.int (n' / ((es.map V.int).length : Int))]) b = some u := fun b u nb z => by rw [upd_ne nb]; exact z
    have gl := upd_same (H := G) (a := l) (o := .lst [.int (n' / ((es.map V.int).length : Int))])
    dsimp only
    generalize n' % ((es.map V.int).length : Int) = j1 at hm1 ⊢
    generalize n' / ((es.map V.int).length : Int) = q1 at g1 gl ⊢
    generalize upd G l (.lst [.int q1]) = G3 at g1 gl ⊢
    rw [List.length_map] at hm1
    dsimp only [tNil]
    refine pop_at (g1 _ _ (Ne.symm nlo) e3) (by omega) hm1.1 hm1.2 fun x es' pm => ?_
    have lx : es'.length + 1 = es.length := pm.length_eq
    have eo4 := upd_same (H := G3) (a := lo) (o := .lst (es'.map V.int))
    have g2 : ∀ b u, b ≠ l → b ≠ lo → G b = some u → upd G3 lo (.lst (es'.map V.int)) b = some u := fun b u n1 n2 z => by rw [upd_ne n2]; exact g1 b u n1 z
    have gl2 : upd G3 lo (.lst (es'.map V.int)) l = some (.lst [.int q1]) := by rw [upd_ne nlo]; exact gl
    generalize upd G3 lo (.lst (es'.map V.int)) = G4 at eo4 g2 gl2 ⊢
    clear g1 gl
    refine ⟨_, rfl, l, q1, 2, rfl, gl2, by decide, by decide, rfl, _, rfl, ?_⟩
    have g3 : ∀ b u, b ≠ l → b ≠ lo → G b = some u → upd G4 l (.lst [.int (q1 / 2)]) b = some u := fun b u n1 n2 z => by rw [upd_ne n1]; exact g2 b u n1 n2 z
    have gl3 := upd_same (H := G4) (a := l) (o := .lst [.int (q1 / 2)])
    have eo5 : upd G4 l (.lst [.int (q1 / 2)]) lo = some (.lst (es'.map V.int)) := by rw [upd_ne (Ne.symm nlo)]; exact eo4
    generalize upd G4 l (.lst [.int (q1 / 2)]) = G5 at g3 gl3 eo5 ⊢
    clear g2 gl2 eo4
    have e15 := g3 _ _ (Ne.symm nlr) (Ne.symm nor) e1
    have tups : ∀ a xs, G a = some (.tup xs) → G5 a = some (.tup xs) := fun a xs z => g3 _ _ (fun y => by rw [y, eL] at z; cases z) (fun y => by rw [y, e3] at z; cases z) z
    have sx5 : SameX l H G5 := fun b u nb z => g3 b u nb (ne_of_none z hlo) (sx b u nb z)
    refine ite2 (fun _ => ?_) (fun _ => ?_)
    rotate_left
    · exact ⟨sx5, ⟨_, gl3⟩, ⟨as, ps, es', e15, e2.mono tups, eo5, by omega, LL.drop pm, nd, fun y hy => by have := bd y hy; omega, by omega⟩, _, _, rfl⟩
    have hm2 := mod_in (x := q1 / 2) (d := ((as.map V.ref).length : Int) + 1) (by omega)
    refine ⟨_, rfl, .inl ⟨rfl, _, SqL.of e15⟩, _, rfl, _, rfl, r, _, rfl, .inl (SqL.of e15), _, _, rfl, rfl, l, _, _, rfl, gl3, by show (0 : Int) < ((as.map V.ref).length : Int) + 1; omega, by show ((as.map V.ref).length : Int) + 1 < 1000; rw [List.length_map]; omega, ?_⟩
    have g4 : ∀ b u, b ≠ l → G5 b = some u → upd G5 l (.lst [.int (q1 / 2 / (((as.map V.ref).length : Int) + 1))]) b = some u := fun b u n1 z => by rw [upd_ne n1]; exact z
    have gl4 := upd_same (H := G5) (a := l) (o := .lst [.int (q1 / 2 / (((as.map V.ref).length : Int) + 1))])
    dsimp only
    generalize q1 / 2 % (((as.map V.ref).length : Int) + 1) = j2 at hm2 ⊢
    generalize q1 / 2 / (((as.map V.ref).length : Int) + 1) = q2 at g4 gl4 ⊢
    generalize upd G5 l (.lst [.int q2]) = G6 at g4 gl4 ⊢
    refine ⟨_, rfl, _, rfl, (by show 2 ≤ sizeLine; decide), fun tp htp => ?_⟩
    have t7 := same_new htp (.tup [.int (i : Int), .int x])
    have etp := upd_same (H := G6) (a := tp) (o := .tup [.int (i : Int), .int x])
    generalize upd G6 tp (.tup [.int (i : Int), .int x]) = G7 at t7 etp ⊢
    have e17 := t7 _ _ (g4 _ _ (Ne.symm nlr) e15)
    refine ⟨r, _, j2, .ref tp, rfl, rfl, e17, hm2.1, by omega, small1000 (by rw [List.length_map]; omega), ?_⟩
    have tup2 : ∀ a xs, G a = some (.tup xs) → upd G7 r (.lst ((as.map V.ref).take j2.toNat ++ .ref tp :: (as.map V.ref).drop j2.toNat)) a = some (.tup xs) := fun a xs z => by
      have z5 := tups a xs z
      rw [upd_ne (fun y => by rw [y, e15] at z5; cases z5)]
      exact t7 _ _ (g4 _ _ (fun y => by rw [y, gl3] at z5; cases z5) z5)
    have pf : ((ps.take j2.toNat ++ ((i : Int), x) :: ps.drop j2.toNat).map Prod.fst).Perm (ps.map Prod.fst ++ [(i : Int)]) := by
      exact ((ins_perm ps ((i : Int), x) j2.toNat).map Prod.fst).trans (by rw [List.map_append]; exact List.Perm.refl _)
    have pg : ((ps.take j2.toNat ++ ((i : Int), x) :: ps.drop j2.toNat).map Prod.snd).Perm (ps.map Prod.snd ++ [x]) := by
      exact ((ins_perm ps ((i : Int), x) j2.toNat).map Prod.snd).trans (by rw [List.map_append]; exact List.Perm.refl _)
    refine ⟨fun b u nb z => ?_, ⟨q2, by rw [upd_ne nlr]; exact t7 _ _ gl4⟩, ⟨as.take j2.toNat ++ tp :: as.drop j2.toNat, ps.take j2.toNat ++ ((i : Int), x) :: ps.drop j2.toNat, es', by rw [upd_same, List.map_append, List.map_cons, List.map_take, List.map_drop], ?_, by rw [upd_ne nor]; exact t7 _ _ (g4 _ _ (Ne.symm nlo) eo5), by omega, (LL.pop pm).perm pg, ?_, fun y hy => ?_, ?_⟩, _, _, rfl⟩
    · rw [upd_ne (ne_of_none z hr00)]
      exact t7 _ _ (g4 _ _ nb (sx5 b u nb z))
    · refine pr_ins (e2.mono tup2) ?_ _
      show upd G7 r _ tp = _
      rw [upd_ne (fun y => by rw [y, e17] at etp; cases etp)]
      exact etp
    · refine pf.nodup_iff.mpr (List.nodup_append.mpr ⟨nd, by simp, fun y hy z hz e => ?_⟩)
      rw [List.mem_singleton] at hz
      have := bd y hy
      omega
    · rcases List.mem_append.mp (pf.mem_iff.mp hy) with h1 | h1
      · have := bd y h1; omega
      · rw [List.mem_singleton] at h1; omega
    · have := (ins_perm ps ((i : Int), x) j2.toNat).length_eq
      have e : (ps ++ [((i : Int), x)]).length = ps.length + 1 := by simp
      omega
  · rintro σ G ⟨sx, _, ⟨as, ps, es, e1, e2, e3, len, LL, nd, bd, pl⟩, v4, v5, rfl⟩
    exact ⟨_, rfl, q r ps G sx ⟨as, e1, e2⟩ (turns_ok (left_from nd bd (by omega)) LL) (by omega)⟩
end
def spTurns (K : PySem.W.Frag) : Sp := fun vs H Q _ => ∃ (a : Addr) (ns : List Int) (L : Int), vs = [.ref a, .int L, .int 3, .int 63] ∧ SqL K H a (ns.map V.int) ∧ ns.length ≤ 63 ∧ 1 ≤ L ∧ L ≤ 64 ∧ ∀ (r : Addr) (ps : Prs) (H' : Hp), Same H H' → BarsAt H' r ps → TurnsOk L ps → ps.length ≤ 64 → Q (.ref r) H'
theorem pop_nat {G : Hp} {l : Addr} {cs : List Int} {j : Nat} {Q : VK} (e : G l = some (.lst (cs.map V.int))) (few : cs.length ≤ 200) (hj : j < cs.length) (q : Q (.int (cs[j]'hj)) (upd G l (.lst ((cs.eraseIdx j).map V.int)))) : rPopAt (.ref l) [.int (j : Int)] G Q := by
  obtain ⟨p1, p2, p3⟩ := pop_ok hj
  refine ⟨l, _, _, j, _, rfl, rfl, e, by omega, by omega, p1, p2, ?_⟩
  rw [p3]
  exact q
theorem mod_nat {x : Int} {d : Nat} (h : 0 < d) : ∃ j : Nat, x % (d : Int) = (j : Int) ∧ j < d := by
  obtain ⟨j, hj⟩ := Int.eq_ofNat_of_zero_le (Int.emod_nonneg x (show (d : Int) ≠ 0 by omega))
  have := Int.emod_lt_of_pos x (show (0 : Int) < (d : Int) by omega)
  exact ⟨j, hj, by omega⟩
section
variable {P : Program} {w : World} {K : PySem.W.Frag} {mg : Str → Option Value} {base : Heap}
theorem sc__law_turns : FnScope ["_law_script", "_law_lines", "_law_start", "_law_last", "_law_shape_here", "_law_ones", "_law_others", "_law_found", "_law_k", "_law_number", "_law_at", "_law_to"] ["_law_script", "_law_lines", "_law_start", "_law_last"] (defScope (top 33)) := ⟨rfl, rfl, rfl, by decide +kernel, rfl, by decide +kernel, by decide +kernel⟩
set_option maxHeartbeats 2000000 in
theorem ok_turns (T : Txt K mg) (C__law_cell_at : Callee P w K mg base 1 "_law_cell_at" ["_law_script", "_law_k"] (spCell K)) (C__law_mixed : Callee P w K mg base 1 "_law_mixed" ["_law_cell", "_law_k"] spMixed) (C__law_free_turns : Callee P w K mg base 2 "_law_free_turns" ["_law_lines", "_law_left"] spFreeT) (D : Def K mg "_law_turns" (top 33) ["_law_script", "_law_lines", "_law_start", "_law_last"]) : Callee P w K mg base 3 "_law_turns" ["_law_script", "_law_lines", "_law_start", "_law_last"] (spTurns K) := by
  refine D.ok sc__law_turns (fun vs H Q E h => ?_) (fun f cdv A outer s H vs Q E hr h => ?_)
  · obtain ⟨a, ns, L, rfl, _⟩ := h
    rfl
  obtain ⟨a, ns, L, rfl, hS, n63, L1, L64, q⟩ := h
  refine ⟨_, (pss_cons (ps_if (pt_cmpR op_eq (pe_op op_mod (pe_fn C__law_cell_at hr rfl (pa_cons (pv 0) (pa_cons pe_int pa_nil st_const) st_name)) pe_int) pe_int (nomark _)) (pss_one (ps_ret (pe_fn C__law_free_turns hr rfl (pa_cons (pv 1) (pa_cons (pe_lst (pa_cons (pe_callB call_abs rfl T.m_abs boot_abs (pa_cons (pe_fn C__law_cell_at hr rfl (pa_cons (pv 0) (pa_cons (pv 2) pa_nil st_name) st_name)) pa_nil st_call)) pa_nil st_call)) pa_nil st_list) st_name)))) pss_nil)
    (pss_cons (ps_set (i := 4) sc__law_turns.nd rfl (Or.inl rfl) (pe_op op_mod (pe_fn C__law_cell_at hr rfl (pa_cons (pv 0) (pa_cons pe_int pa_nil st_const) st_name)) pe_int))
    (pss_cons (ps_set (i := 5) sc__law_turns.nd rfl (Or.inl rfl) (pe_callTy (call_list_rng rfl) rfl T.m_list boot_list (pa_cons (pe_callTy call_range_new rfl T.m_range boot_range (pa_cons (pv 1) pa_nil st_name)) pa_nil st_call)))
    (pss_cons (ps_set (i := 6) sc__law_turns.nd rfl (Or.inl rfl) (pe_callTy (call_list_rng rfl) rfl T.m_list boot_list (pa_cons (pe_callTy call_range_new rfl T.m_range boot_range (pa_cons (pv 1) pa_nil st_name)) pa_nil st_call)))
    (pss_cons (ps_set (i := 7) sc__law_turns.nd rfl (Or.inl rfl) (pe_lst pa_nil))
    (pss_cons (ps_for PassesOwn.never rfl (pi_range2 rfl T.m_range (pa_cons (pv 2) (pa_cons (pe_callB (call_min2 rfl) rfl T.m_min boot_min (pa_cons (pe_callB (call_lenK K) rfl T.m_len boot_len (pa_cons (pv 0) pa_nil st_name)) (pa_cons (pv 3) pa_nil st_name) st_call)) pa_nil st_call) st_name)) (pg_name (i := 8) sc__law_turns.nd rfl (Or.inl rfl))
    (pss_one (ps_if (pt_cmpR (op_neNilK K (Room.units0 hr)) (pv 5) (pe_lst pa_nil) (nomark _)) (pss_cons (ps_set (i := 9) sc__law_turns.nd rfl (Or.inl rfl) (pe_fn C__law_mixed hr rfl (pa_cons (pe_ix (ix_listK K) (pv 0) (pv 8) (fun _ _ => rfl)) (pa_cons (pv 8) pa_nil st_name) st_sub)))
    (pss_cons (ps_set (i := 10) sc__law_turns.nd rfl (Or.inl rfl) (pe_op op_mod (pv 9) (pe_callB (call_lenK K) rfl T.m_len boot_len (pa_cons (pv 5) pa_nil st_name))))
    (pss_cons (ps_set (i := 11) sc__law_turns.nd rfl (Or.inl rfl) (pe_op op_mod (pe_op op_fdiv (pv 9) pe_int) (pe_callB (call_lenK K) rfl T.m_len boot_len (pa_cons (pv 6) pa_nil st_name))))
    (pss_cons (ps_if (pt_cmpR op_eq (pv 4) pe_int (nomark _)) (pss_cons (ps_set (i := 10) sc__law_turns.nd rfl (Or.inl rfl) pe_int)
    (pss_one (ps_set (i := 11) sc__law_turns.nd rfl (Or.inl rfl) (pe_op op_sub (pe_callB (call_lenK K) rfl T.m_len boot_len (pa_cons (pv 6) pa_nil st_name)) pe_int)))) pss_nil)
    (pss_cons (ps_if (pt_cmpR op_eq (pv 4) pe_int (nomark _)) (pss_cons (ps_set (i := 10) sc__law_turns.nd rfl (Or.inl rfl) (pe_op op_sub (pe_callB (call_lenK K) rfl T.m_len boot_len (pa_cons (pv 5) pa_nil st_name)) pe_int))
    (pss_one (ps_set (i := 11) sc__law_turns.nd rfl (Or.inl rfl) (pv 10)))) pss_nil)
    (pss_cons (ps_if (pt_cmpR op_gt (pe_op op_mod (pe_op op_fdiv (pv 9) pe_int) pe_int) pe_int (nomark _)) (pss_one (ps_expr (pe_bmK K PySem.F.plainAttrs_list PySem.F.slot_list_append PySem.F.type_list_append mt_appendR (pv 7) (pa_cons (pe_tup (pa_cons (pe_ix (ix_listK K) (pv 5) (pv 10) (fun _ _ => rfl)) (pa_cons (pe_ix (ix_listK K) (pv 6) (pv 11) (fun _ _ => rfl)) pa_nil st_sub) st_sub)) pa_nil st_tup)))) pss_nil)
    (pss_cons (ps_expr (pe_bmK K PySem.F.plainAttrs_list PySem.F.slot_list_pop PySem.F.type_list_pop mt_popAtR (pv 5) (pa_cons (pv 10) pa_nil st_name)))
    (pss_one (ps_expr (pe_bmK K PySem.F.plainAttrs_list PySem.F.slot_list_pop PySem.F.type_list_pop mt_popAtR (pv 6) (pa_cons (pv 11) pa_nil st_name))))))))))) pss_nil)))
    (pss_one (ps_ret (pv 7))))))))), ?_⟩
  refine ⟨_, rfl, a, ns, 0, rfl, hS, _, _, rfl, rfl, (by show (0 : Int) < 2; decide), rfl, _, rfl, ?_⟩
  refine ite2 (fun _ => ?_) (fun _ => ?_)
  · refine ⟨_, rfl, _, rfl, _, rfl, a, ns, 3, rfl, hS, _, rfl, (by show 1 ≤ sizeLine; decide), fun l hl => ?_⟩
    refine ⟨l, L, _, rfl, L1, L64, upd_same, fun r ps H' sx hb ok few => q r ps H' (fun b u z => ?_) hb ok few⟩
    exact sx b u (ne_of_none z hl) (same_new hl _ _ _ z)
  · refine ⟨_, rfl, a, ns, 2, rfl, hS, _, _, rfl, rfl, (by show (0 : Int) < 4; decide), ?_⟩
    dsimp only [gName, tNext]
    generalize cell ns 2 % 4 = sh
    refine ⟨_, rfl, _, rfl, ?_⟩
    dsimp only [tNil]
    refine list_range (F := L) (by omega) (by omega) fun l1 H1 s1 hl1 ec => ?_
    refine ⟨_, rfl, _, rfl, ?_⟩
    dsimp only [tNil]
    refine list_range (F := L) (by omega) (by omega) fun l2 H2 s2' hl2 ee => ?_
    refine ⟨(by show 0 ≤ sizeLine; decide), fun r hr0 => ?_⟩
    have s2 := s1.trans s2'
    have s3' := same_new hr0 (.lst [])
    have er := upd_same (H := H2) (a := r) (o := .lst [])
    have ec2 := s2' _ _ ec
    have ec3 := s3' _ _ ec2
    have ee3 := s3' _ _ ee
    generalize upd H2 r (.lst []) = H3 at s3' er ec3 ee3 ⊢
    have s3 := s2.trans s3'
    have hr00 := s2.free hr0
    have hl20 := s1.free hl2
    have n12 : l1 ≠ l2 := ne_of_none ec hl2
    have n1r : l1 ≠ r := ne_of_none ec2 hr0
    have n2r : l2 ≠ r := ne_of_none ee hr0
    have hS3 := s3.seq hS
    refine ⟨_, rfl, _, rfl, a, _, rfl, .inl hS3, _, rfl, _, _, rfl, _, _, rfl, ⟨by decide, by decide, ?_, ?_⟩, ?_⟩
    · show -(2 ^ 62) ≤ (if 63 < (((ns.map V.int).length : Nat) : Int) then 63 else (((ns.map V.int).length : Nat) : Int))
      split <;> omega
    · rw [List.length_map]
      show (if 63 < ((ns.length : Nat) : Int) then 63 else ((ns.length : Nat) : Int)) < 2 ^ 62
      split <;> omega
    rw [List.length_map]
    have bnd : ∀ i : Nat, i < ((if (63 : Int) < ((ns.length : Nat) : Int) then 63 else ((ns.length : Nat) : Int)) - 3).toNat → 3 + i < ns.length ∧ i < 60 := fun i hi => by
      split at hi <;> omega
    have len0 : ((List.range L.toNat).map fun (k : Nat) => (k : Int)).length ≤ 64 := by rw [List.length_map, List.length_range]; omega
    refine for_range (lo := 3) (fun i σ G => Same H G ∧ i ≤ 60 ∧ (∃ as ps cs es, G r = some (.lst (as.map V.ref)) ∧ PrsAt G as ps ∧ G l1 = some (.lst (cs.map V.int)) ∧ G l2 = some (.lst (es.map V.int)) ∧ cs.length ≤ 64 ∧ es.length = cs.length ∧ Left L cs (ps.map Prod.fst) ∧ Left L es (ps.map Prod.snd) ∧ ps.length ≤ i) ∧ ∃ v8 v9 v10 v11, σ = [some (.ref a), some (.int L), some (.int 3), some (.int 63), some (.int sh), some (.ref l1), some (.ref l2), some (.ref r), v8, v9, v10, v11])
      ⟨s3, by decide, ⟨[], [], _, _, er, .nil, ec3, ee3, len0, rfl, left_all (by omega), left_all (by omega), Nat.le_refl _⟩, none, none, none, none, rfl⟩ ?_ ?_
    · rintro i σ G hi ⟨sG, i60, ⟨as, ps, cs, es, e1, e2, e3, e4, lc1, lc2, A1, A2, pl⟩, v8, v9, v10, v11, rfl⟩
      obtain ⟨hi1, hi2⟩ := bnd i hi
      have e6 : (3 + (i : Int)) = ((3 + i : Nat) : Int) := by omega
      rw [e6]
      refine ⟨_, rfl, (by show 0 ≤ sizeLine; decide), fun z1 hz1 => ?_⟩
      have t1 := same_new hz1 (.lst [])
      have f1 := upd_same (H := G) (a := z1) (o := .lst [])
      generalize upd G z1 (.lst []) = G1 at t1 f1 ⊢
      refine ⟨l1, z1, _, rfl, rfl, SqL.of (t1 _ _ e3), SqL.of f1, _, rfl, ?_⟩
      replace sG := sG.trans t1
      replace e1 := t1 _ _ e1
      replace e2 := PrsAt.same t1 e2
      replace e3 := t1 _ _ e3
      replace e4 := t1 _ _ e4
      clear t1 f1 hz1
      refine ite2 (fun z => ?_) (fun z => ?_)
      rotate_left
      · exact ⟨sG, by omega, ⟨as, ps, cs, es, e1, e2, e3, e4, lc1, lc2, A1, A2, by omega⟩, _, _, _, _, rfl⟩
      have pc : 0 < cs.length := by
        cases cs with
        | nil => exact absurd z (by decide)
        | cons x t => exact Nat.succ_pos _
      refine ⟨_, rfl, _, rfl, a, _, _, _, rfl, rfl, sG.seq hS, at_nat hi1, _, rfl, _, 3 + i, rfl, by omega, fun vv w0 w1 => ?_⟩
      obtain ⟨x, hx, hx'⟩ := mod_nat (x := vv) (d := (cs.map V.int).length) (by rw [List.length_map]; exact pc)
      obtain ⟨y, hy, hy'⟩ := mod_nat (x := vv / 64) (d := (es.map V.int).length) (by rw [List.length_map]; omega)
      refine ⟨_, rfl, _, rfl, l1, _, rfl, .inl (SqL.of e3), _, _, rfl, rfl, (by show (0 : Int) < ((cs.map V.int).length : Int); rw [List.length_map]; omega), ?_⟩
      refine ⟨_, rfl, _, _, rfl, rfl, ⟨by decide, by decide⟩, _, rfl, l2, _, rfl, .inl (SqL.of e4), _, _, rfl, rfl, (by show (0 : Int) < ((es.map V.int).length : Int); rw [List.length_map]; omega), ?_⟩
      rw [List.length_map] at hx' hy'
      dsimp only [gName, tNext]
      rw [hx, hy]
      clear hx hy
      refine seq_cut (fun σ G' => G' = G1 ∧ ∃ x y : Nat, x < cs.length ∧ y < es.length ∧ σ = [some (.ref a), some (.int L), some (.int 3), some (.int 63), some (.int sh), some (.ref l1), some (.ref l2), some (.ref r), some (.int ((3 + i : Nat) : Int)), some (.int vv), some (.int (x : Int)), some (.int (y : Int))]) (fun R rest => ?_) ?_
      · refine ⟨_, rfl, rfl, _, rfl, ite2 (fun _ => ?_) (fun _ => rest _ _ ⟨rfl, x, y, hx', hy', rfl⟩)⟩
        refine ⟨_, rfl, l2, _, rfl, .inl (SqL.of e4), _, _, rfl, rfl, rest _ _ ⟨rfl, 0, es.length - 1, pc, by omega, ?_⟩⟩
        rw [List.length_map]
        dsimp only
        rw [show ((es.length : Nat) : Int) - 1 = ((es.length - 1 : Nat) : Int) by omega]
        rfl
      rintro _ G1 ⟨rfl, x, y, hx', hy', rfl⟩
      refine seq_cut (fun σ G' => G' = G1 ∧ ∃ x y : Nat, x < cs.length ∧ y < es.length ∧ σ = [some (.ref a), some (.int L), some (.int 3), some (.int 63), some (.int sh), some (.ref l1), some (.ref l2), some (.ref r), some (.int ((3 + i : Nat) : Int)), some (.int vv), some (.int (x : Int)), some (.int (y : Int))]) (fun R rest => ?_) ?_
      · refine ⟨_, rfl, rfl, _, rfl, ite2 (fun _ => ?_) (fun _ => rest _ _ ⟨rfl, x, y, hx', hy', rfl⟩)⟩
        refine ⟨_, rfl, l1, _, rfl, .inl (SqL.of e3), _, _, rfl, rfl, _, rfl, rest _ _ ⟨rfl, cs.length - 1, cs.length - 1, by omega, by omega, ?_⟩⟩
        rw [List.length_map]
        dsimp only
        rw [show ((cs.length : Nat) : Int) - 1 = ((cs.length - 1 : Nat) : Int) by omega]
        rfl
      rintro _ G1 ⟨rfl, x, y, hx', hy', rfl⟩
      have la : as.length = ps.length := Paired.length e2
      refine seq_cut (fun σ G' => (∀ b u, b ≠ r → G1 b = some u → G' b = some u) ∧ (∃ as' ps', G' r = some (.lst (as'.map V.ref)) ∧ PrsAt G' as' ps' ∧ (ps' = ps ∨ ps' = ps ++ [(cs[x], es[y])])) ∧ σ = [some (.ref a), some (.int L), some (.int 3), some (.int 63), some (.int sh), some (.ref l1), some (.ref l2), some (.ref r), some (.int ((3 + i : Nat) : Int)), some (.int vv), some (.int (x : Int)), some (.int (y : Int))]) (fun R rest => ?_) ?_
      · refine ⟨_, rfl, _, _, rfl, rfl, ⟨by decide, by decide⟩, _, _, rfl, rfl, (by show (0 : Int) < 9; decide), _, _, rfl, rfl, _, rfl, ite2 (fun _ => ?_) (fun _ => rest _ _ ⟨fun b u _ z => z, ⟨as, ps, e1, e2, .inl rfl⟩, rfl⟩)⟩
        refine ⟨_, rfl, .inl ⟨rfl, _, SqL.of e1⟩, _, rfl, _, rfl, l1, _, _, _, rfl, rfl, SqL.of e3, atI_nat (by rw [List.getElem?_map, List.getElem?_eq_getElem hx']; rfl), _, rfl, _, rfl, l2, _, _, _, rfl, rfl, SqL.of e4, atI_nat (by rw [List.getElem?_map, List.getElem?_eq_getElem hy']; rfl), (by show 2 ≤ sizeLine; decide), fun tp htp => ?_⟩
        have t7 := same_new htp (.tup [.int cs[x], .int es[y]])
        have etp := upd_same (H := G1) (a := tp) (o := .tup [.int cs[x], .int es[y]])
        generalize upd G1 tp (.tup [.int cs[x], .int es[y]]) = G7 at t7 etp ⊢
        have e17 := t7 _ _ e1
        refine ⟨r, _, _, rfl, rfl, e17, small1000 (by rw [List.length_map]; omega), rest _ _ ⟨fun b u nb z => by rw [upd_ne nb]; exact t7 _ _ z, ⟨as ++ [tp], _, by rw [upd_same, List.map_append]; rfl, PrsAt.snoc (p := (cs[x], es[y])) (e2.mono fun a' xs z => ?_) ?_, .inr rfl⟩, rfl⟩⟩
        · rw [upd_ne (fun w => by rw [w, e1] at z; cases z)]
          exact t7 _ _ z
        · rw [upd_ne (fun w => by rw [w, e17] at etp; cases etp)]
          exact etp
      rintro _ G2 ⟨k2, ⟨as', ps', g1, g2, hps⟩, rfl⟩
      have c2 := k2 _ _ n1r e3
      have d2 := k2 _ _ n2r e4
      refine ⟨_, rfl, .inl ⟨rfl, _, SqL.of c2⟩, _, rfl, ?_⟩
      dsimp only [tNil]
      refine pop_nat c2 (by omega) hx' ?_
      refine ⟨_, rfl, .inl ⟨rfl, _, SqL.of (by rw [upd_ne (Ne.symm n12)]; exact d2)⟩, _, rfl, ?_⟩
      dsimp only [tNil]
      refine pop_nat (by rw [upd_ne (Ne.symm n12)]; exact d2) (by omega) hy' ?_
      have tup2 : ∀ a' xs, G2 a' = some (.tup xs) → upd (upd G2 l1 (.lst ((cs.eraseIdx x).map V.int))) l2 (.lst ((es.eraseIdx y).map V.int)) a' = some (.tup xs) := fun a' xs z => by
        rw [upd_ne (fun w => by rw [w, d2] at z; cases z), upd_ne (fun w => by rw [w, c2] at z; cases z)]
        exact z
      have lx := (erase_perm hx').length_eq
      have ly := (erase_perm hy').length_eq
      rw [List.length_cons] at lx ly
      refine ⟨fun b u z => ?_, by omega, ⟨as', ps', cs.eraseIdx x, es.eraseIdx y, by rw [upd_ne (Ne.symm n2r), upd_ne (Ne.symm n1r)]; exact g1, g2.mono tup2, by rw [upd_ne n12, upd_same], upd_same, by omega, by omega, ?_, ?_, ?_⟩, _, _, _, _, rfl⟩
      · rw [upd_ne (ne_of_none z hl20), upd_ne (ne_of_none z hl1)]
        exact k2 b u (ne_of_none z hr00) (sG b u z)
      · rcases hps with rfl | rfl
        · exact A1.drop (erase_perm hx')
        · rw [List.map_append]
          exact A1.pop (erase_perm hx')
      · rcases hps with rfl | rfl
        · exact A2.drop (erase_perm hy')
        · rw [List.map_append]
          exact A2.pop (erase_perm hy')
      · rcases hps with rfl | rfl
        · omega
        · rw [List.length_append, List.length_singleton]; omega
    · rintro σ G ⟨sG, i60, ⟨as, ps, cs, es, e1, e2, e3, e4, lc1, lc2, A1, A2, pl⟩, v8, v9, v10, v11, rfl⟩
      have := bnd
      exact ⟨_, rfl, q r ps G sG ⟨as, e1, e2⟩ (turns_ok A1 A2) (by omega)⟩
end
theorem pair_rev {α β : Type} {R : α → β → Prop} {as : List α} {ds : List β} (h : Paired R as ds) : Paired R as.reverse ds.reverse := by
  induction h with
  | nil => exact .nil
  | cons r t ih => rw [List.reverse_cons, List.reverse_cons]; exact pair_snoc ih r
theorem cnt_ne (n m : Nat) : ¬ (!decide (V.int ((n * (2 * m + 1) : Nat) : Int) = V.int (((n : Nat) : Int) * (2 * ((m : Nat) : Int) + 1)))) = true := by
  have e : ((n * (2 * m + 1) : Nat) : Int) = ((n : Nat) : Int) * (2 * ((m : Nat) : Int) + 1) := by
    rw [Int.natCast_mul, Int.natCast_add, Int.natCast_mul]
    rfl
  rw [e]
  simp
section
variable {P : Program} {w : World} {K : PySem.W.Frag} {mg : Str → Option Value} {base : Heap}
theorem sc_law : FnScope ["_law_script", "_law_lines", "_law_small", "_law_depth", "_law_turns_here", "_law_handed", "_law_nest", "_law_other", "_law_number"] ["_law_script"] (defScope (top 41)) := ⟨rfl, rfl, rfl, by decide +kernel, rfl, by decide +kernel, by decide +kernel⟩
set_option maxHeartbeats 4000000 in
theorem ok_law (T : Txt K mg) (C__law_cell_at : Callee P w K mg base 1 "_law_cell_at" ["_law_script", "_law_k"] (spCell K)) (C__law_mixed : Callee P w K mg base 1 "_law_mixed" ["_law_cell", "_law_k"] spMixed) (C__law_sizes : Callee P w K mg base 2 "_law_sizes" ["_law_script"] (spSizes K)) (C__law_turns : Callee P w K mg base 3 "_law_turns" ["_law_script", "_law_lines", "_law_start", "_law_last"] (spTurns K)) (C_nest_of : CalleeD P w K mg base 17 "nest_of" ["lines", "small", "turns", "depth"] [.int 6] spNestOf) (C__law_shape : Callee P w K mg base 10 "_law_shape" ["_law_nest", "_law_lines", "_law_small", "_law_depth"] (spShape 6)) (C__law_count : Callee P w K mg base 7 "_law_count" ["_law_nest"] (spCount 6)) (C__law_levels : Callee P w K mg base 1 "_law_levels" ["_law_lines", "_law_small", "_law_depth"] spLevels) (C__law_lists_apart : Callee P w K mg base 8 "_law_lists_apart" ["_law_nest", "_law_number"] spApart) {f : Addr} {fd : FuncData} (F : Fun K "law" "law" (top 41) f fd) : FnOk P w K mg base CX0 18 f fd ["_law_script"] (spLaw K) := by
  refine F.ok sc_law (fun vs H Q E h => ?_) (fun cdv A outer s H vs Q E hr h => ?_)
  · obtain ⟨a, ns, rfl, _⟩ := h
    rfl
  obtain ⟨a, ns, rfl, hS, h63, q⟩ := h
  refine ⟨_, (pss_cons (ps_asg (pe_fn C__law_sizes hr rfl (pa_cons (pv 0) pa_nil st_name)) (pg3K K rfl sc_law.nd (Nm.mk (i := 1) rfl (Or.inl rfl) (Or.inl rfl)) (Nm.mk (i := 2) rfl (Or.inl rfl) (Or.inl rfl)) (Nm.mk (i := 3) rfl (Or.inl rfl) (Or.inl rfl))))
    (pss_cons (ps_set (i := 4) sc_law.nd rfl (Or.inl rfl) (pe_fn C__law_turns hr rfl (pa_cons (pv 0) (pa_cons (pv 1) (pa_cons pe_int (pa_cons pe_int pa_nil st_const) st_const) st_name) st_name)))
    (pss_cons (ps_set (i := 5) sc_law.nd rfl (Or.inl rfl) (pe_callTy (call_listK K) rfl T.m_list boot_list (pa_cons (pv 4) pa_nil st_name)))
    (pss_cons (ps_set (i := 6) sc_law.nd rfl (Or.inl rfl) (pe_fn C_nest_of.all hr rfl (pa_cons (pv 1) (pa_cons (pv 2) (pa_cons (pv 5) (pa_cons (pv 3) pa_nil st_name) st_name) st_name) st_name)))
    (pss_cons (ps_if (PW.pt (pw_or (pt_not (pt_truK K (pe_fn C__law_shape hr rfl (pa_cons (pv 6) (pa_cons (pv 1) (pa_cons (pv 2) (pa_cons (pv 3) pa_nil st_name) st_name) st_name) st_name)) (fun _ => rfl))) (pw_or1 (pt_cmpR (op_neSelfK K (Room.units0 hr)) (pv 5) (pv 4) (nomark _))))) (pss_one (ps_ret pe_bl)) pss_nil)
    (pss_cons (ps_if (pt_cmpR op_ne (pe_fn C__law_count hr rfl (pa_cons (pv 6) pa_nil st_name)) (pe_op op_mul (pe_callB (call_lenK K) rfl T.m_len boot_len (pa_cons (pv 4) pa_nil st_name)) (pe_op op_add (pe_op op_mul pe_int (pe_fn C__law_levels hr rfl (pa_cons (pv 1) (pa_cons (pv 2) (pa_cons (pv 3) pa_nil st_name) st_name) st_name))) pe_int)) (nomark _)) (pss_one (ps_ret pe_bl)) pss_nil)
    (pss_cons (ps_set (i := 7) sc_law.nd rfl (Or.inl rfl) (pe_fnD 0 C_nest_of hr rfl (pa_cons (pv 1) (pa_cons (pv 2) (pa_cons (pe_callTy (call_list_revLK K rfl) rfl T.m_list boot_list (pa_cons (pe_callTy (call_reversedLK K) rfl T.m_reversed boot_reversed (pa_cons (pv 4) pa_nil st_name)) pa_nil st_call)) pa_nil st_call) st_name) st_name)))
    (pss_cons (ps_if (pt_not (pt_truK K (pe_fn C__law_shape hr rfl (pa_cons (pv 7) (pa_cons (pv 1) (pa_cons (pv 2) (pa_cons pe_int pa_nil st_const) st_name) st_name) st_name)) (fun _ => rfl))) (pss_one (ps_ret pe_bl)) pss_nil)
    (pss_cons (ps_if (pt_cmpR op_ne (pe_fn C__law_count hr rfl (pa_cons (pv 7) pa_nil st_name)) (pe_op op_mul (pe_callB (call_lenK K) rfl T.m_len boot_len (pa_cons (pv 4) pa_nil st_name)) (pe_op op_add (pe_op op_mul pe_int (pe_fn C__law_levels hr rfl (pa_cons (pv 1) (pa_cons (pv 2) (pa_cons pe_int pa_nil st_const) st_name) st_name))) pe_int)) (nomark _)) (pss_one (ps_ret pe_bl)) pss_nil)
    (pss_cons (ps_set (i := 8) sc_law.nd rfl (Or.inl rfl) (pe_fn C__law_mixed hr rfl (pa_cons (pe_fn C__law_cell_at hr rfl (pa_cons (pv 0) (pa_cons pe_int pa_nil st_const) st_name)) (pa_cons pe_int pa_nil st_const) st_call)))
    (pss_cons (ps_if (pt_cmpR op_eq (pe_op op_mod (pe_fn C__law_cell_at hr rfl (pa_cons (pv 0) (pa_cons pe_int pa_nil st_const) st_name)) pe_int) pe_int (nomark _)) (pss_one (ps_set (i := 8) sc_law.nd rfl (Or.inl rfl) (pe_callB call_abs rfl T.m_abs boot_abs (pa_cons (pe_fn C__law_cell_at hr rfl (pa_cons (pv 0) (pa_cons pe_int pa_nil st_const) st_name)) pa_nil st_call)))) pss_nil)
    (pss_one (ps_ret (pe_fn C__law_lists_apart hr rfl (pa_cons (pv 6) (pa_cons (pv 8) pa_nil st_name) st_name))))))))))))))), ?_⟩
  refine ⟨_, rfl, a, ns, rfl, hS, fun t L S d H1 s1 et hL hSm hd => ?_⟩
  refine ⟨t, _, rfl, SqT.of et, rfl, _, _, rfl, _, _, rfl, _, _, rfl, rfl, ?_⟩
  refine ⟨_, rfl, _, rfl, a, ns, L, rfl, s1.seq hS, h63, hL.1, hL.2, fun tl ps H2 s2 hb tok few => ?_⟩
  have hS2 := (s1.trans s2).seq hS
  obtain ⟨as, el, pr⟩ := id hb
  have ln : as.length = ps.length := Paired.length pr
  have lm : (as.map V.ref).length = ps.length := (List.length_map _).trans ln
  clear hS et s1 s2
  refine ⟨_, rfl, tl, _, rfl, .inl (SqL.of el), fun cl hcl => ?_⟩
  have s3 := same_new hcl (.lst (as.map V.ref))
  have ec3 := upd_same (H := H2) (a := cl) (o := .lst (as.map V.ref))
  have hS3 := s3.seq hS2
  have el3 := s3 _ _ el
  have pr3 := PrsAt.same s3 pr
  generalize upd H2 cl (.lst (as.map V.ref)) = H3 at s3 ec3 hS3 el3 pr3 ⊢
  clear hS2 el pr hb hcl s3
  dsimp only [gName]
  refine ⟨_, rfl, _, rfl, _, rfl, _, rfl, L, S, d, cl, ps, rfl, hd, ⟨by omega, hL.2⟩, hSm, ⟨as, ec3, pr3⟩, few, tok, fun a' H4 s4 hN hO => ?_⟩
  obtain ⟨ads, hA, nA⟩ := hO
  have pA : ∀ x ∈ ads, ∃ o, H4 x = some o := fun x hx => (nA.2 x hx).2
  have hS4 := s4.seq hS3
  have el4 := s4 _ _ el3
  have ec4 := s4 _ _ ec3
  have pr4 := PrsAt.same s4 pr3
  clear hS3 el3 ec3 pr3
  refine ⟨_, rfl, _, rfl, _, rfl, _, rfl, a', L, S, d, ps, rfl, hd, ⟨by omega, hL.2⟩, hSm, hN, tok, few, fun H5 s5 => ⟨_, rfl, iteF ?_⟩⟩
  refine ⟨_, rfl, _, rfl, cl, tl, _, rfl, rfl, SqL.of (s5 _ _ ec4), SqL.of (s5 _ _ el4), by simp [selfV], _, rfl, iteF ?_⟩
  have hS5 := s5.seq hS4
  have el5 := s5 _ _ el4
  have pr5 := PrsAt.same s5 pr4
  have hN5 := NestAt.same s5 hN
  clear hS4 el4 ec4 pr4 hN
  refine ⟨_, rfl, a', L, S, d, ps, rfl, hd, ⟨by omega, hL.2⟩, hSm, hN5, tok, few, fun H6 s6 => ?_⟩
  refine ⟨_, rfl, tl, _, rfl, .inl (SqL.of (s6 _ _ el5)), _, rfl, _, rfl, _, rfl, L, S, d, rfl, ⟨by omega, hL.2⟩, hSm, _, _, rfl, rfl, .inl ⟨by decide, by decide⟩, _, _, rfl, rfl, _, _, rfl, rfl, .inl ⟨by omega, by omega⟩, rfl, _, rfl, iteN (by rw [lm]; exact cnt_ne ps.length (lev S d L)) ?_⟩
  have hS6 := s6.seq hS5
  have el6 := s6 _ _ el5
  have pr6 := PrsAt.same s6 pr5
  have s46 := s5.trans s6
  clear hS5 el5 pr5 hN5 s5 s6
  refine ⟨_, rfl, _, rfl, _, rfl, tl, _, rfl, SqL.of el6, fun l4 hl4 => ?_⟩
  have nl4 : tl ≠ l4 := ne_of_none el6 hl4
  refine ⟨l4, tl, _, rfl, upd_same, SqL.of (by rw [upd_ne nl4]; exact el6), nl4, fun l5 hl5 => ?_⟩
  have u4 : Same H6 (upd (upd (upd H6 l4 (RevL l4 tl (as.map V.ref).length)) l4 JunkO) l5 (.lst (as.map V.ref).reverse)) := Same.put (Same.put (same_new hl4 _) hl4) (same_none (same_new hl4 _) hl5)
  have e5 := upd_same (H := upd (upd H6 l4 (RevL l4 tl (as.map V.ref).length)) l4 JunkO) (a := l5) (o := .lst (as.map V.ref).reverse)
  generalize upd (upd (upd H6 l4 (RevL l4 tl (as.map V.ref).length)) l4 JunkO) l5 (.lst (as.map V.ref).reverse) = G4 at u4 e5 ⊢
  rw [← List.map_reverse] at e5
  have tok' : TurnsOk L ps.reverse := tok.perm (List.reverse_perm ps)
  have few' : ps.reverse.length ≤ 64 := by rw [List.length_reverse]; exact few
  refine ⟨L, S, 6, l5, ps.reverse, rfl, Nat.le_refl _, ⟨by omega, hL.2⟩, hSm, ⟨as.reverse, e5, pair_rev (PrsAt.same u4 pr6)⟩, few', tok', fun b H7 s7 hM _ => ?_⟩
  have s67 := u4.trans s7
  have hS7 := s67.seq hS6
  have el7 := s67 _ _ el6
  have s47 := s46.trans s67
  clear hS6 el6 pr6 s46 s67 u4 s7 e5
  refine ⟨_, rfl, _, rfl, _, rfl, b, L, S, 6, ps.reverse, rfl, Nat.le_refl _, ⟨by omega, hL.2⟩, hSm, hM, tok', few', fun H8 s8 => ⟨_, rfl, iteF ?_⟩⟩
  have hM8 := NestAt.same s8 hM
  refine ⟨_, rfl, b, L, S, 6, ps.reverse, rfl, Nat.le_refl _, ⟨by omega, hL.2⟩, hSm, hM8, tok', few', fun H9 s9 => ?_⟩
  have s79 := s8.trans s9
  have hS9 := s79.seq hS7
  have s49 := s47.trans s79
  refine ⟨_, rfl, tl, _, rfl, .inl (SqL.of (s79 _ _ el7)), _, rfl, _, rfl, L, S, 6, rfl, ⟨by omega, hL.2⟩, hSm, _, _, rfl, rfl, .inl ⟨by decide, by decide⟩, _, _, rfl, rfl, _, _, rfl, rfl, .inl ⟨by omega, by omega⟩, rfl, _, rfl, iteN (by rw [lm, List.length_reverse]; exact cnt_ne ps.length (lev S 6 L)) ?_⟩
  have fin : ∀ num : Int, 0 ≤ num → spApart [.ref a', .int num] H9 Q E := fun num hn => ⟨a', num, d, ads, rfl, hn, hd, LstsAt.same s49 hA, nA.1, fun x hx => let ⟨o, ho⟩ := pA x hx; ⟨o, s49 _ _ ho⟩, q⟩
  refine ⟨_, rfl, a, ns, 2, rfl, hS9, _, 5, rfl, by decide, fun v hv _ => ?_⟩
  refine ⟨_, rfl, a, ns, 0, rfl, hS9, _, _, rfl, rfl, (show (0 : Int) < 2 by decide), rfl, _, rfl, ite2 (fun c => ?_) (fun c => ?_)⟩
  · refine ⟨_, rfl, a, ns, 2, rfl, hS9, _, rfl, ?_⟩
    exact ⟨_, rfl, _, rfl, fin _ (by split <;> omega)⟩
  · exact ⟨_, rfl, _, rfl, fin v hv⟩
end
section
variable {l : PySem.W.OpenLaw} {w : World} {K : PySem.W.Frag} {h : Heap} {mg : Str → Option Value}
theorem def_mk {x : Str} {st : Stmt} {ps : List Str} {f : Addr} {oc : Value} {od an : Option Addr} {sl : Array (Option Value)} {kV dc pm cd ct : Value} (X : K.In h) (G : h.Ns mainGlobals mg) (a : PySem.W.nsIn K mainGlobals x = some (some (.ref f)))
    (l : K.lookup f = some ⟨oc, od, .func (PySem.W.fnOf x x (defArgs st) (defBody st) (defScope st) .none kV dc pm an cd ct), sl⟩) (c : PySem.W.codeIn K cd x = true) (k : PySem.W.keepIn K (.ref f) = true)
    (b : ∀ us : List Value, us.length = ps.length → bindArgs (PySem.W.fnOf x x (defArgs st) (defBody st) (defScope st) .none kV dc pm an cd ct) ⟨us, []⟩ = pure (ps.zip us)) : Def K mg x st ps :=
  ⟨f, _, fun_mk l c k, .all b, PySem.W.mg_of X G a⟩
theorem all_mk {fa f1 f2 f3 f4 f5 f6 f7 f8 f9 f10 f11 f12 f13 f14 f15 f16 f17 f18 f19 f20 f21 f22 f23 f24 f25 f26 f27 f28 f29 f30 f31 f32  C_HallError C_TooFull C_NoTurns  : Addr} (X : K.In h) (G : h.Ns mainGlobals mg) (hfa : mg "law" = some (.ref fa))
    {od1 an1 od2 an2 od3 an3 od4 an4 od5 an5 od6 an6 od7 an7 od8 an8 od9 an9 od10 an10 od11 an11 od12 an12 od13 an13 od14 an14 od15 an15 od16 an16 od17 an17 od18 an18 od19 an19 od20 an20 od21 an21 od22 an22 od23 an23 od24 an24 od25 an25 od26 an26 od27 an27 od28 an28 od29 an29 od30 an30 od31 an31 od32 an32 : Option Addr} {sl1 sl2 sl3 sl4 sl5 sl6 sl7 sl8 sl9 sl10 sl11 sl12 sl13 sl14 sl15 sl16 sl17 sl18 sl19 sl20 sl21 sl22 sl23 sl24 sl25 sl26 sl27 sl28 sl29 sl30 sl31 sl32 : Array (Option Value)} {oc1 kV1 dc1 pm1 cd1 ct1 oc2 kV2 dc2 pm2 cd2 ct2 oc3 kV3 dc3 pm3 cd3 ct3 oc4 kV4 dc4 pm4 cd4 ct4 oc5 kV5 dc5 pm5 cd5 ct5 oc6 kV6 dc6 pm6 cd6 ct6 oc7 kV7 dc7 pm7 cd7 ct7 oc8 kV8 dc8 pm8 cd8 ct8 oc9 kV9 dc9 pm9 cd9 ct9 oc10 kV10 dc10 pm10 cd10 ct10 oc11 kV11 dc11 pm11 cd11 ct11 oc12 kV12 dc12 pm12 cd12 ct12 oc13 kV13 dc13 pm13 cd13 ct13 oc14 kV14 dc14 pm14 cd14 ct14 oc15 kV15 dc15 pm15 cd15 ct15 oc16 kV16 dc16 pm16 cd16 ct16 oc17 kV17 dc17 pm17 cd17 ct17 oc18 kV18 dc18 pm18 cd18 ct18 oc19 kV19 dc19 pm19 cd19 ct19 oc20 kV20 dc20 pm20 cd20 ct20 oc21 kV21 dc21 pm21 cd21 ct21 oc22 kV22 dc22 pm22 cd22 ct22 oc23 kV23 dc23 pm23 cd23 ct23 oc24 kV24 dc24 pm24 cd24 ct24 oc25 kV25 dc25 pm25 cd25 ct25 oc26 kV26 dc26 pm26 cd26 ct26 oc27 kV27 dc27 pm27 cd27 ct27 oc28 kV28 dc28 pm28 cd28 ct28 oc29 kV29 dc29 pm29 cd29 ct29 oc30 kV30 dc30 pm30 cd30 ct30 oc31 kV31 dc31 pm31 cd31 ct31 oc32 kV32 dc32 pm32 cd32 ct32 : Value}
    {dv17 : Addr} {odv17 : Option Addr} {slv17 : Array (Option Value)} {nv17 : Nat} {td17_0 : Tok}
    (a1 : PySem.W.nsIn K mainGlobals "is_number" = some (some (.ref f1))) (l1 : K.lookup f1 = some ⟨oc1, od1, .func (PySem.W.fnOf "is_number" "is_number" (defArgs (top 5)) (defBody (top 5)) (defScope (top 5)) .none kV1 dc1 pm1 an1 cd1 ct1), sl1⟩) (c1 : PySem.W.codeIn K cd1 "is_number" = true) (k1 : PySem.W.keepIn K (.ref f1) = true)
    (a2 : PySem.W.nsIn K mainGlobals "is_whole" = some (some (.ref f2))) (l2 : K.lookup f2 = some ⟨oc2, od2, .func (PySem.W.fnOf "is_whole" "is_whole" (defArgs (top 6)) (defBody (top 6)) (defScope (top 6)) .none kV2 dc2 pm2 an2 cd2 ct2), sl2⟩) (c2 : PySem.W.codeIn K cd2 "is_whole" = true) (k2 : PySem.W.keepIn K (.ref f2) = true)
    (a3 : PySem.W.nsIn K mainGlobals "is_entry" = some (some (.ref f3))) (l3 : K.lookup f3 = some ⟨oc3, od3, .func (PySem.W.fnOf "is_entry" "is_entry" (defArgs (top 8)) (defBody (top 8)) (defScope (top 8)) .none kV3 dc3 pm3 an3 cd3 ct3), sl3⟩) (c3 : PySem.W.codeIn K cd3 "is_entry" = true) (k3 : PySem.W.keepIn K (.ref f3) = true)
    (a4 : PySem.W.nsIn K mainGlobals "first_wrong" = some (some (.ref f4))) (l4 : K.lookup f4 = some ⟨oc4, od4, .func (PySem.W.fnOf "first_wrong" "first_wrong" (defArgs (top 9)) (defBody (top 9)) (defScope (top 9)) .none kV4 dc4 pm4 an4 cd4 ct4), sl4⟩) (c4 : PySem.W.codeIn K cd4 "first_wrong" = true) (k4 : PySem.W.keepIn K (.ref f4) = true)
    (a5 : PySem.W.nsIn K mainGlobals "side_weights" = some (some (.ref f5))) (l5 : K.lookup f5 = some ⟨oc5, od5, .func (PySem.W.fnOf "side_weights" "side_weights" (defArgs (top 11)) (defBody (top 11)) (defScope (top 11)) .none kV5 dc5 pm5 an5 cd5 ct5), sl5⟩) (c5 : PySem.W.codeIn K cd5 "side_weights" = true) (k5 : PySem.W.keepIn K (.ref f5) = true)
    (a6 : PySem.W.nsIn K mainGlobals "refuse_full" = some (some (.ref f6))) (l6 : K.lookup f6 = some ⟨oc6, od6, .func (PySem.W.fnOf "refuse_full" "refuse_full" (defArgs (top 13)) (defBody (top 13)) (defScope (top 13)) .none kV6 dc6 pm6 an6 cd6 ct6), sl6⟩) (c6 : PySem.W.codeIn K cd6 "refuse_full" = true) (k6 : PySem.W.keepIn K (.ref f6) = true)
    (a7 : PySem.W.nsIn K mainGlobals "take" = some (some (.ref f7))) (l7 : K.lookup f7 = some ⟨oc7, od7, .func (PySem.W.fnOf "take" "take" (defArgs (top 14)) (defBody (top 14)) (defScope (top 14)) .none kV7 dc7 pm7 an7 cd7 ct7), sl7⟩) (c7 : PySem.W.codeIn K cd7 "take" = true) (k7 : PySem.W.keepIn K (.ref f7) = true)
    (a8 : PySem.W.nsIn K mainGlobals "leave" = some (some (.ref f8))) (l8 : K.lookup f8 = some ⟨oc8, od8, .func (PySem.W.fnOf "leave" "leave" (defArgs (top 15)) (defBody (top 15)) (defScope (top 15)) .none kV8 dc8 pm8 an8 cd8 ct8), sl8⟩) (c8 : PySem.W.codeIn K cd8 "leave" = true) (k8 : PySem.W.keepIn K (.ref f8) = true)
    (a9 : PySem.W.nsIn K mainGlobals "first_left" = some (some (.ref f9))) (l9 : K.lookup f9 = some ⟨oc9, od9, .func (PySem.W.fnOf "first_left" "first_left" (defArgs (top 16)) (defBody (top 16)) (defScope (top 16)) .none kV9 dc9 pm9 an9 cd9 ct9), sl9⟩) (c9 : PySem.W.codeIn K cd9 "first_left" = true) (k9 : PySem.W.keepIn K (.ref f9) = true)
    (a10 : PySem.W.nsIn K mainGlobals "chain_along" = some (some (.ref f10))) (l10 : K.lookup f10 = some ⟨oc10, od10, .func (PySem.W.fnOf "chain_along" "chain_along" (defArgs (top 17)) (defBody (top 17)) (defScope (top 17)) .none kV10 dc10 pm10 an10 cd10 ct10), sl10⟩) (c10 : PySem.W.codeIn K cd10 "chain_along" = true) (k10 : PySem.W.keepIn K (.ref f10) = true)
    (a11 : PySem.W.nsIn K mainGlobals "exchange" = some (some (.ref f11))) (l11 : K.lookup f11 = some ⟨oc11, od11, .func (PySem.W.fnOf "exchange" "exchange" (defArgs (top 18)) (defBody (top 18)) (defScope (top 18)) .none kV11 dc11 pm11 an11 cd11 ct11), sl11⟩) (c11 : PySem.W.codeIn K cd11 "exchange" = true) (k11 : PySem.W.keepIn K (.ref f11) = true)
    (a12 : PySem.W.nsIn K mainGlobals "parted" = some (some (.ref f12))) (l12 : K.lookup f12 = some ⟨oc12, od12, .func (PySem.W.fnOf "parted" "parted" (defArgs (top 19)) (defBody (top 19)) (defScope (top 19)) .none kV12 dc12 pm12 an12 cd12 ct12), sl12⟩) (c12 : PySem.W.codeIn K cd12 "parted" = true) (k12 : PySem.W.keepIn K (.ref f12) = true)
    (a13 : PySem.W.nsIn K mainGlobals "is_plain" = some (some (.ref f13))) (l13 : K.lookup f13 = some ⟨oc13, od13, .func (PySem.W.fnOf "is_plain" "is_plain" (defArgs (top 21)) (defBody (top 21)) (defScope (top 21)) .none kV13 dc13 pm13 an13 cd13 ct13), sl13⟩) (c13 : PySem.W.codeIn K cd13 "is_plain" = true) (k13 : PySem.W.keepIn K (.ref f13) = true)
    (a14 : PySem.W.nsIn K mainGlobals "racks_for" = some (some (.ref f14))) (l14 : K.lookup f14 = some ⟨oc14, od14, .func (PySem.W.fnOf "racks_for" "racks_for" (defArgs (top 22)) (defBody (top 22)) (defScope (top 22)) .none kV14 dc14 pm14 an14 cd14 ct14), sl14⟩) (c14 : PySem.W.codeIn K cd14 "racks_for" = true) (k14 : PySem.W.keepIn K (.ref f14) = true)
    (a15 : PySem.W.nsIn K mainGlobals "hall_nest" = some (some (.ref f15))) (l15 : K.lookup f15 = some ⟨oc15, od15, .func (PySem.W.fnOf "hall_nest" "hall_nest" (defArgs (top 23)) (defBody (top 23)) (defScope (top 23)) .none kV15 dc15 pm15 an15 cd15 ct15), sl15⟩) (c15 : PySem.W.codeIn K cd15 "hall_nest" = true) (k15 : PySem.W.keepIn K (.ref f15) = true)
    (a16 : PySem.W.nsIn K mainGlobals "right_nest" = some (some (.ref f16))) (l16 : K.lookup f16 = some ⟨oc16, od16, .func (PySem.W.fnOf "right_nest" "right_nest" (defArgs (top 24)) (defBody (top 24)) (defScope (top 24)) .none kV16 dc16 pm16 an16 cd16 ct16), sl16⟩) (c16 : PySem.W.codeIn K cd16 "right_nest" = true) (k16 : PySem.W.keepIn K (.ref f16) = true)
    (dl17 : K.lookup dv17 = some ⟨.type "tuple", odv17, .seq #[.int 6 td17_0] nv17, slv17⟩)
    (a17 : PySem.W.nsIn K mainGlobals "nest_of" = some (some (.ref f17))) (l17 : K.lookup f17 = some ⟨oc17, od17, .func (PySem.W.fnOf "nest_of" "nest_of" (defArgs (top 25)) (defBody (top 25)) (defScope (top 25)) (.ref dv17) kV17 dc17 pm17 an17 cd17 ct17), sl17⟩) (c17 : PySem.W.codeIn K cd17 "nest_of" = true) (k17 : PySem.W.keepIn K (.ref f17) = true)
    (a18 : PySem.W.nsIn K mainGlobals "_law_cell_at" = some (some (.ref f18))) (l18 : K.lookup f18 = some ⟨oc18, od18, .func (PySem.W.fnOf "_law_cell_at" "_law_cell_at" (defArgs (top 27)) (defBody (top 27)) (defScope (top 27)) .none kV18 dc18 pm18 an18 cd18 ct18), sl18⟩) (c18 : PySem.W.codeIn K cd18 "_law_cell_at" = true) (k18 : PySem.W.keepIn K (.ref f18) = true)
    (a19 : PySem.W.nsIn K mainGlobals "_law_mixed" = some (some (.ref f19))) (l19 : K.lookup f19 = some ⟨oc19, od19, .func (PySem.W.fnOf "_law_mixed" "_law_mixed" (defArgs (top 28)) (defBody (top 28)) (defScope (top 28)) .none kV19 dc19 pm19 an19 cd19 ct19), sl19⟩) (c19 : PySem.W.codeIn K cd19 "_law_mixed" = true) (k19 : PySem.W.keepIn K (.ref f19) = true)
    (a20 : PySem.W.nsIn K mainGlobals "_law_whole" = some (some (.ref f20))) (l20 : K.lookup f20 = some ⟨oc20, od20, .func (PySem.W.fnOf "_law_whole" "_law_whole" (defArgs (top 29)) (defBody (top 29)) (defScope (top 29)) .none kV20 dc20 pm20 an20 cd20 ct20), sl20⟩) (c20 : PySem.W.codeIn K cd20 "_law_whole" = true) (k20 : PySem.W.keepIn K (.ref f20) = true)
    (a21 : PySem.W.nsIn K mainGlobals "_law_digit" = some (some (.ref f21))) (l21 : K.lookup f21 = some ⟨oc21, od21, .func (PySem.W.fnOf "_law_digit" "_law_digit" (defArgs (top 30)) (defBody (top 30)) (defScope (top 30)) .none kV21 dc21 pm21 an21 cd21 ct21), sl21⟩) (c21 : PySem.W.codeIn K cd21 "_law_digit" = true) (k21 : PySem.W.keepIn K (.ref f21) = true)
    (a22 : PySem.W.nsIn K mainGlobals "_law_sizes" = some (some (.ref f22))) (l22 : K.lookup f22 = some ⟨oc22, od22, .func (PySem.W.fnOf "_law_sizes" "_law_sizes" (defArgs (top 31)) (defBody (top 31)) (defScope (top 31)) .none kV22 dc22 pm22 an22 cd22 ct22), sl22⟩) (c22 : PySem.W.codeIn K cd22 "_law_sizes" = true) (k22 : PySem.W.keepIn K (.ref f22) = true)
    (a23 : PySem.W.nsIn K mainGlobals "_law_free_turns" = some (some (.ref f23))) (l23 : K.lookup f23 = some ⟨oc23, od23, .func (PySem.W.fnOf "_law_free_turns" "_law_free_turns" (defArgs (top 32)) (defBody (top 32)) (defScope (top 32)) .none kV23 dc23 pm23 an23 cd23 ct23), sl23⟩) (c23 : PySem.W.codeIn K cd23 "_law_free_turns" = true) (k23 : PySem.W.keepIn K (.ref f23) = true)
    (a24 : PySem.W.nsIn K mainGlobals "_law_turns" = some (some (.ref f24))) (l24 : K.lookup f24 = some ⟨oc24, od24, .func (PySem.W.fnOf "_law_turns" "_law_turns" (defArgs (top 33)) (defBody (top 33)) (defScope (top 33)) .none kV24 dc24 pm24 an24 cd24 ct24), sl24⟩) (c24 : PySem.W.codeIn K cd24 "_law_turns" = true) (k24 : PySem.W.keepIn K (.ref f24) = true)
    (a25 : PySem.W.nsIn K mainGlobals "_law_bars" = some (some (.ref f25))) (l25 : K.lookup f25 = some ⟨oc25, od25, .func (PySem.W.fnOf "_law_bars" "_law_bars" (defArgs (top 34)) (defBody (top 34)) (defScope (top 34)) .none kV25 dc25 pm25 an25 cd25 ct25), sl25⟩) (c25 : PySem.W.codeIn K cd25 "_law_bars" = true) (k25 : PySem.W.keepIn K (.ref f25) = true)
    (a26 : PySem.W.nsIn K mainGlobals "_law_racks" = some (some (.ref f26))) (l26 : K.lookup f26 = some ⟨oc26, od26, .func (PySem.W.fnOf "_law_racks" "_law_racks" (defArgs (top 35)) (defBody (top 35)) (defScope (top 35)) .none kV26 dc26 pm26 an26 cd26 ct26), sl26⟩) (c26 : PySem.W.codeIn K cd26 "_law_racks" = true) (k26 : PySem.W.keepIn K (.ref f26) = true)
    (a27 : PySem.W.nsIn K mainGlobals "_law_shape" = some (some (.ref f27))) (l27 : K.lookup f27 = some ⟨oc27, od27, .func (PySem.W.fnOf "_law_shape" "_law_shape" (defArgs (top 36)) (defBody (top 36)) (defScope (top 36)) .none kV27 dc27 pm27 an27 cd27 ct27), sl27⟩) (c27 : PySem.W.codeIn K cd27 "_law_shape" = true) (k27 : PySem.W.keepIn K (.ref f27) = true)
    (a28 : PySem.W.nsIn K mainGlobals "_law_count" = some (some (.ref f28))) (l28 : K.lookup f28 = some ⟨oc28, od28, .func (PySem.W.fnOf "_law_count" "_law_count" (defArgs (top 37)) (defBody (top 37)) (defScope (top 37)) .none kV28 dc28 pm28 an28 cd28 ct28), sl28⟩) (c28 : PySem.W.codeIn K cd28 "_law_count" = true) (k28 : PySem.W.keepIn K (.ref f28) = true)
    (a29 : PySem.W.nsIn K mainGlobals "_law_levels" = some (some (.ref f29))) (l29 : K.lookup f29 = some ⟨oc29, od29, .func (PySem.W.fnOf "_law_levels" "_law_levels" (defArgs (top 38)) (defBody (top 38)) (defScope (top 38)) .none kV29 dc29 pm29 an29 cd29 ct29), sl29⟩) (c29 : PySem.W.codeIn K cd29 "_law_levels" = true) (k29 : PySem.W.keepIn K (.ref f29) = true)
    (a30 : PySem.W.nsIn K mainGlobals "_law_copied" = some (some (.ref f30))) (l30 : K.lookup f30 = some ⟨oc30, od30, .func (PySem.W.fnOf "_law_copied" "_law_copied" (defArgs (top 39)) (defBody (top 39)) (defScope (top 39)) .none kV30 dc30 pm30 an30 cd30 ct30), sl30⟩) (c30 : PySem.W.codeIn K cd30 "_law_copied" = true) (k30 : PySem.W.keepIn K (.ref f30) = true)
    (a31 : PySem.W.nsIn K mainGlobals "_law_lists_apart" = some (some (.ref f31))) (l31 : K.lookup f31 = some ⟨oc31, od31, .func (PySem.W.fnOf "_law_lists_apart" "_law_lists_apart" (defArgs (top 40)) (defBody (top 40)) (defScope (top 40)) .none kV31 dc31 pm31 an31 cd31 ct31), sl31⟩) (c31 : PySem.W.codeIn K cd31 "_law_lists_apart" = true) (k31 : PySem.W.keepIn K (.ref f31) = true)
    (a32 : PySem.W.nsIn K mainGlobals "law" = some (some (.ref f32))) (l32 : K.lookup f32 = some ⟨oc32, od32, .func (PySem.W.fnOf "law" "law" (defArgs (top 41)) (defBody (top 41)) (defScope (top 41)) .none kV32 dc32 pm32 an32 cd32 ct32), sl32⟩) (c32 : PySem.W.codeIn K cd32 "law" = true) (k32 : PySem.W.keepIn K (.ref f32) = true)
    (q_HallError_at : PySem.W.nsIn K mainGlobals "HallError" = some (some (.ref C_HallError)))
    (q_TooFull_at : PySem.W.nsIn K mainGlobals "TooFull" = some (some (.ref C_TooFull)))
    (q_NoTurns_at : PySem.W.nsIn K mainGlobals "NoTurns" = some (some (.ref C_NoTurns)))
    (z_len : PySem.W.nsIn K mainGlobals "len" = some none) (z_isinstance : PySem.W.nsIn K mainGlobals "isinstance" = some none) (z_int : PySem.W.nsIn K mainGlobals "int" = some none) (z_bool : PySem.W.nsIn K mainGlobals "bool" = some none) (z_tuple : PySem.W.nsIn K mainGlobals "tuple" = some none) (z_list : PySem.W.nsIn K mainGlobals "list" = some none) (z_range : PySem.W.nsIn K mainGlobals "range" = some none) (z_abs : PySem.W.nsIn K mainGlobals "abs" = some none) (z_min : PySem.W.nsIn K mainGlobals "min" = some none) (z_sorted : PySem.W.nsIn K mainGlobals "sorted" = some none) (z_zip : PySem.W.nsIn K mainGlobals "zip" = some none) (z_enumerate : PySem.W.nsIn K mainGlobals "enumerate" = some none) (z_divmod : PySem.W.nsIn K mainGlobals "divmod" = some none) (z_sum : PySem.W.nsIn K mainGlobals "sum" = some none) (z_reversed : PySem.W.nsIn K mainGlobals "reversed" = some none) (z_ValueError : PySem.W.nsIn K mainGlobals "ValueError" = some none) :
    ∃ fd : FuncData, (∀ (s : Shared) (v : Value), BindsTo s fd ⟨[v], []⟩ [("_law_script", v)]) ∧ ∀ base : Heap, K.In base → base.Ns mainGlobals mg → FnOk l.prog w K mg base CX0 18 fa fd ["_law_script"] (spLaw K) := by
  have e := hfa.symm.trans (PySem.W.mg_of X G a32)
  cases e
  have T : Txt K mg := ⟨PySem.W.mg_none_of X G z_len, PySem.W.mg_none_of X G z_isinstance, PySem.W.mg_none_of X G z_int, PySem.W.mg_none_of X G z_bool, PySem.W.mg_none_of X G z_tuple, PySem.W.mg_none_of X G z_list, PySem.W.mg_none_of X G z_range, PySem.W.mg_none_of X G z_abs, PySem.W.mg_none_of X G z_min, PySem.W.mg_none_of X G z_sorted, PySem.W.mg_none_of X G z_zip, PySem.W.mg_none_of X G z_enumerate, PySem.W.mg_none_of X G z_divmod, PySem.W.mg_none_of X G z_sum, PySem.W.mg_none_of X G z_reversed, PySem.W.mg_none_of X G z_ValueError⟩
  have Z : TxtC K mg C_HallError C_TooFull C_NoTurns := ⟨PySem.W.mg_of X G q_HallError_at, PySem.W.mg_of X G q_TooFull_at, PySem.W.mg_of X G q_NoTurns_at⟩
  have D_is_number : Def K mg "is_number" (top 5) ["thing"] := def_mk X G a1 l1 c1 k1 fun us hl => match us, hl with | [_], _ => rfl
  have D_is_whole : Def K mg "is_whole" (top 6) ["thing", "least", "most"] := def_mk X G a2 l2 c2 k2 fun us hl => match us, hl with | [_, _, _], _ => rfl
  have D_is_entry : Def K mg "is_entry" (top 8) ["thing", "firsts", "seconds"] := def_mk X G a3 l3 c3 k3 fun us hl => match us, hl with | [_, _, _], _ => rfl
  have D_first_wrong : Def K mg "first_wrong" (top 9) ["things", "firsts", "seconds"] := def_mk X G a4 l4 c4 k4 fun us hl => match us, hl with | [_, _, _], _ => rfl
  have D_side_weights : Def K mg "side_weights" (top 11) ["pairs", "side"] := def_mk X G a5 l5 c5 k5 fun us hl => match us, hl with | [_, _], _ => rfl
  have D_refuse_full : Def K mg "refuse_full" (top 13) ["pairs", "ways"] := def_mk X G a6 l6 c6 k6 fun us hl => match us, hl with | [_, _], _ => rfl
  have D_take : Def K mg "take" (top 14) ["taken", "place", "pair", "number"] := def_mk X G a7 l7 c7 k7 fun us hl => match us, hl with | [_, _, _, _], _ => rfl
  have D_leave : Def K mg "leave" (top 15) ["taken", "pair", "number"] := def_mk X G a8 l8 c8 k8 fun us hl => match us, hl with | [_, _, _], _ => rfl
  have D_first_left : Def K mg "first_left" (top 16) ["places", "rack"] := def_mk X G a9 l9 c9 k9 fun us hl => match us, hl with | [_, _], _ => rfl
  have D_chain_along : Def K mg "chain_along" (top 17) ["pairs", "taken", "rack", "a", "b"] := def_mk X G a10 l10 c10 k10 fun us hl => match us, hl with | [_, _, _, _, _], _ => rfl
  have D_exchange : Def K mg "exchange" (top 18) ["pairs", "taken", "numbers", "chain", "a", "b"] := def_mk X G a11 l11 c11 k11 fun us hl => match us, hl with | [_, _, _, _, _, _], _ => rfl
  have D_parted : Def K mg "parted" (top 19) ["pairs", "ways"] := def_mk X G a12 l12 c12 k12 fun us hl => match us, hl with | [_, _], _ => rfl
  have D_is_plain : Def K mg "is_plain" (top 21) ["lines", "small", "depth"] := def_mk X G a13 l13 c13 k13 fun us hl => match us, hl with | [_, _, _], _ => rfl
  have D_racks_for : Def K mg "racks_for" (top 22) ["lines", "small"] := def_mk X G a14 l14 c14 k14 fun us hl => match us, hl with | [_, _], _ => rfl
  have D_hall_nest : Def K mg "hall_nest" (top 23) ["lines", "small", "turns", "depth"] := def_mk X G a15 l15 c15 k15 fun us hl => match us, hl with | [_, _, _, _], _ => rfl
  have D_right_nest : Def K mg "right_nest" (top 24) ["lines", "small", "turns", "depth"] := def_mk X G a16 l16 c16 k16 fun us hl => match us, hl with | [_, _, _, _], _ => rfl
  have D_nest_of : DefD K mg "nest_of" (top 25) ["lines", "small", "turns", "depth"] [.int 6] := ⟨f17, _, ⟨_, _, _, _, _, _, _, _, _, _, rfl, l17, c17⟩, k17, fun m hm => match m, hm with | 0, _ => ⟨[.int 6 td17_0], (.cons ⟨_, rfl⟩ .nil), fun s us X hl => match us, (show us.length = 3 from by simpa using hl) with | [_, _, _], _ => BindsTo.of_defaults rfl (X _ _ dl17) rfl rfl rfl⟩ | 1, _ => ⟨[], .nil, fun s us X hl => match us, (show us.length = 4 from by simpa using hl) with | [_, _, _, _], _ => BindsTo.of_defaults rfl (X _ _ dl17) rfl rfl rfl⟩ | _ + 2, h => absurd h (by simp), PySem.W.mg_of X G a17⟩
  have D__law_cell_at : Def K mg "_law_cell_at" (top 27) ["_law_script", "_law_k"] := def_mk X G a18 l18 c18 k18 fun us hl => match us, hl with | [_, _], _ => rfl
  have D__law_mixed : Def K mg "_law_mixed" (top 28) ["_law_cell", "_law_k"] := def_mk X G a19 l19 c19 k19 fun us hl => match us, hl with | [_, _], _ => rfl
  have D__law_whole : Def K mg "_law_whole" (top 29) ["_law_found"] := def_mk X G a20 l20 c20 k20 fun us hl => match us, hl with | [_], _ => rfl
  have D__law_digit : Def K mg "_law_digit" (top 30) ["_law_left", "_law_many"] := def_mk X G a21 l21 c21 k21 fun us hl => match us, hl with | [_, _], _ => rfl
  have D__law_sizes : Def K mg "_law_sizes" (top 31) ["_law_script"] := def_mk X G a22 l22 c22 k22 fun us hl => match us, hl with | [_], _ => rfl
  have D__law_free_turns : Def K mg "_law_free_turns" (top 32) ["_law_lines", "_law_left"] := def_mk X G a23 l23 c23 k23 fun us hl => match us, hl with | [_, _], _ => rfl
  have D__law_turns : Def K mg "_law_turns" (top 33) ["_law_script", "_law_lines", "_law_start", "_law_last"] := def_mk X G a24 l24 c24 k24 fun us hl => match us, hl with | [_, _, _, _], _ => rfl
  have D__law_bars : Def K mg "_law_bars" (top 34) ["_law_bars_here", "_law_ones", "_law_others"] := def_mk X G a25 l25 c25 k25 fun us hl => match us, hl with | [_, _, _], _ => rfl
  have D__law_racks : Def K mg "_law_racks" (top 35) ["_law_some", "_law_many", "_law_small"] := def_mk X G a26 l26 c26 k26 fun us hl => match us, hl with | [_, _, _], _ => rfl
  have D__law_shape : Def K mg "_law_shape" (top 36) ["_law_nest", "_law_lines", "_law_small", "_law_depth"] := def_mk X G a27 l27 c27 k27 fun us hl => match us, hl with | [_, _, _, _], _ => rfl
  have D__law_count : Def K mg "_law_count" (top 37) ["_law_nest"] := def_mk X G a28 l28 c28 k28 fun us hl => match us, hl with | [_], _ => rfl
  have D__law_levels : Def K mg "_law_levels" (top 38) ["_law_lines", "_law_small", "_law_depth"] := def_mk X G a29 l29 c29 k29 fun us hl => match us, hl with | [_, _, _], _ => rfl
  have D__law_copied : Def K mg "_law_copied" (top 39) ["_law_nest"] := def_mk X G a30 l30 c30 k30 fun us hl => match us, hl with | [_], _ => rfl
  have D__law_lists_apart : Def K mg "_law_lists_apart" (top 40) ["_law_nest", "_law_number"] := def_mk X G a31 l31 c31 k31 fun us hl => match us, hl with | [_, _], _ => rfl
  have F := fun_mk (st := top 41) l32 c32 k32
  refine ⟨PySem.W.fnOf "law" "law" (defArgs (top 41)) (defBody (top 41)) (defScope (top 41)) .none kV32 dc32 pm32 an32 cd32 ct32, fun s v => .of_eq rfl, fun base _ _ => ?_⟩
  have C_cell := ok_cell (P := l.prog) (w := w) (base := base) T D__law_cell_at
  have C_mix := ok_mixed (P := l.prog) (w := w) (base := base) T D__law_mixed
  have C_dig := ok_digit (P := l.prog) (w := w) (base := base) T D__law_digit
  have C_take := ok_take (P := l.prog) (w := w) (base := base) T D_take
  have C_side := ok_side (P := l.prog) (w := w) (base := base) T D_side_weights
  have C_part := ok_parted T (ok_refuse T C_side D_refuse_full) (ok_left T D_first_left) (ok_chain T D_chain_along) (ok_exch T C_take (ok_leave T D_leave) D_exchange) C_take D_parted
  have C_rn := ok_rn T (ok_plain T D_is_plain) (ok_rfor T D_racks_for) C_part D_right_nest D_hall_nest 6
  have C_isn := ok_is_number (P := l.prog) (w := w) (base := base) T D_is_number
  have C_fw := ok_first T (ok_is_entry T (ok_is_whole T C_isn D_is_whole) D_is_entry) D_first_wrong
  have C_no := ok_nestof T C_fw C_rn D_nest_of
  have C_wh := ok_wholeT (P := l.prog) (w := w) (base := base) T D__law_whole
  have C_ba := ok_bars T C_wh D__law_bars
  have C_sh := ok_shape T C_wh C_ba (ok_racksB T C_ba D__law_racks) D__law_shape 6
  exact ok_law T C_cell C_mix (ok_sizes T C_cell C_mix C_dig D__law_sizes) (ok_turns T C_cell C_mix (ok_freeT T C_dig D__law_free_turns) D__law_turns) C_no C_sh (ok_count T D__law_count 6) (ok_levels T D__law_levels) (ok_apart T (ok_copied T D__law_copied 6) D__law_lists_apart) F
end
theorem walk {l : PySem.W.OpenLaw} {q : Program} {loose : List Str} {XP : (Str → Option Value) → Heap → Prop} {YP : World → Heap → Prop} {d : DefRec} {K : Params → PySem.W.Frag} (hn : l.most = some 63) (hdf : d.params.defaults = [])
    (hY : ∀ (w : World) (h : Heap), YP w h → (K w.params).In h)
    (F : ∀ (w : World) (mg : Str → Option Value) (fa : Addr) (h : Heap), (K w.params).In h → h.Ns mainGlobals mg → mg d.name = some (.ref fa) →
      ∃ fd : FuncData, (∀ (s : Shared) (u : Value), BindsTo s fd ⟨[u], []⟩ [("_law_script", u)]) ∧ ∀ base : Heap, (K w.params).In base → base.Ns mainGlobals mg → FnOk l.prog w (K w.params) mg base CX0 18 fa fd ["_law_script"] (spLaw (K w.params))) :
    PySem.W.WalkO q loose XP YP l.row.toRowW d [] (fun f vs => PySem.call f vs) :=
  L2.walk_of (n := 63) (k := 18) (x := "_law_script") (CX := fun _ => CX0) (sp := fun w => spLaw (K w.params)) hn (by decide) hdf ⟨rfl, by decide, by decide⟩ hY F (fun _ _ a ns hl _ hS => ⟨a, ns, rfl, hS, hl, fun _ => rfl⟩) fun _ _ _ _ _ z => z
end My
open PySem PySem.W PyProof.Rows
set_option maxRecDepth 100000 in
set_option maxHeartbeats 0 in
theorem PySem.Challenge.cw_crossracks_k52_nests_in_form_holds : PySem.Challenge.rw_crossracks_k52_nests_in_form.Holds := by
  w_on; o_law; k_head; (case hw => w_witness2)
  k_fill
  refine My.walk (l := PySem.Challenge.rw_crossracks_k52_nests_in_form) rfl rfl (fun w h Y => PySem.W.kIn_of Y) ?F
  case F =>
    intro w mg fa h KX G hmg
    refine' My.all_mk KX G hmg ?a1 ?l1 ?c1 ?k1 ?a2 ?l2 ?c2 ?k2 ?a3 ?l3 ?c3 ?k3 ?a4 ?l4 ?c4 ?k4 ?a5 ?l5 ?c5 ?k5 ?a6 ?l6 ?c6 ?k6 ?a7 ?l7 ?c7 ?k7 ?a8 ?l8 ?c8 ?k8 ?a9 ?l9 ?c9 ?k9 ?a10 ?l10 ?c10 ?k10 ?a11 ?l11 ?c11 ?k11 ?a12 ?l12 ?c12 ?k12 ?a13 ?l13 ?c13 ?k13 ?a14 ?l14 ?c14 ?k14 ?a15 ?l15 ?c15 ?k15 ?a16 ?l16 ?c16 ?k16 ?dl17 ?a17 ?l17 ?c17 ?k17 ?a18 ?l18 ?c18 ?k18 ?a19 ?l19 ?c19 ?k19 ?a20 ?l20 ?c20 ?k20 ?a21 ?l21 ?c21 ?k21 ?a22 ?l22 ?c22 ?k22 ?a23 ?l23 ?c23 ?k23 ?a24 ?l24 ?c24 ?k24 ?a25 ?l25 ?c25 ?k25 ?a26 ?l26 ?c26 ?k26 ?a27 ?l27 ?c27 ?k27 ?a28 ?l28 ?c28 ?k28 ?a29 ?l29 ?c29 ?k29 ?a30 ?l30 ?c30 ?k30 ?a31 ?l31 ?c31 ?k31 ?a32 ?l32 ?c32 ?k32   ?q_HallError_at ?q_TooFull_at ?q_NoTurns_at ?z_len ?z_isinstance ?z_int ?z_bool ?z_tuple ?z_list ?z_range ?z_abs ?z_min ?z_sorted ?z_zip ?z_enumerate ?z_divmod ?z_sum ?z_reversed ?z_ValueError
    (case a1 => k_is); (case l1 => k_is); (case c1 => k_is); (case k1 => k_is)
    (case a2 => k_is); (case l2 => k_is); (case c2 => k_is); (case k2 => k_is)
    (case a3 => k_is); (case l3 => k_is); (case c3 => k_is); (case k3 => k_is)
    (case a4 => k_is); (case l4 => k_is); (case c4 => k_is); (case k4 => k_is)
    (case a5 => k_is); (case l5 => k_is); (case c5 => k_is); (case k5 => k_is)
    (case a6 => k_is); (case l6 => k_is); (case c6 => k_is); (case k6 => k_is)
    (case a7 => k_is); (case l7 => k_is); (case c7 => k_is); (case k7 => k_is)
    (case a8 => k_is); (case l8 => k_is); (case c8 => k_is); (case k8 => k_is)
    (case a9 => k_is); (case l9 => k_is); (case c9 => k_is); (case k9 => k_is)
    (case a10 => k_is); (case l10 => k_is); (case c10 => k_is); (case k10 => k_is)
    (case a11 => k_is); (case l11 => k_is); (case c11 => k_is); (case k11 => k_is)
    (case a12 => k_is); (case l12 => k_is); (case c12 => k_is); (case k12 => k_is)
    (case a13 => k_is); (case l13 => k_is); (case c13 => k_is); (case k13 => k_is)
    (case a14 => k_is); (case l14 => k_is); (case c14 => k_is); (case k14 => k_is)
    (case a15 => k_is); (case l15 => k_is); (case c15 => k_is); (case k15 => k_is)
    (case a16 => k_is); (case l16 => k_is); (case c16 => k_is); (case k16 => k_is)
    (case a17 => k_is); (case l17 => k_is); (case dl17 => k_is); (case c17 => k_is); (case k17 => k_is)
    (case a18 => k_is); (case l18 => k_is); (case c18 => k_is); (case k18 => k_is)
    (case a19 => k_is); (case l19 => k_is); (case c19 => k_is); (case k19 => k_is)
    (case a20 => k_is); (case l20 => k_is); (case c20 => k_is); (case k20 => k_is)
    (case a21 => k_is); (case l21 => k_is); (case c21 => k_is); (case k21 => k_is)
    (case a22 => k_is); (case l22 => k_is); (case c22 => k_is); (case k22 => k_is)
    (case a23 => k_is); (case l23 => k_is); (case c23 => k_is); (case k23 => k_is)
    (case a24 => k_is); (case l24 => k_is); (case c24 => k_is); (case k24 => k_is)
    (case a25 => k_is); (case l25 => k_is); (case c25 => k_is); (case k25 => k_is)
    (case a26 => k_is); (case l26 => k_is); (case c26 => k_is); (case k26 => k_is)
    (case a27 => k_is); (case l27 => k_is); (case c27 => k_is); (case k27 => k_is)
    (case a28 => k_is); (case l28 => k_is); (case c28 => k_is); (case k28 => k_is)
    (case a29 => k_is); (case l29 => k_is); (case c29 => k_is); (case k29 => k_is)
    (case a30 => k_is); (case l30 => k_is); (case c30 => k_is); (case k30 => k_is)
    (case a31 => k_is); (case l31 => k_is); (case c31 => k_is); (case k31 => k_is)
    (case a32 => k_is); (case l32 => k_is); (case c32 => k_is); (case k32 => k_is)
    (case q_HallError_at => k_is)
    (case q_TooFull_at => k_is)
    (case q_NoTurns_at => k_is)
    (case z_len => k_is)
    (case z_isinstance => k_is)
    (case z_int => k_is)
    (case z_bool => k_is)
    (case z_tuple => k_is)
    (case z_list => k_is)
    (case z_range => k_is)
    (case z_abs => k_is)
    (case z_min => k_is)
    (case z_sorted => k_is)
    (case z_zip => k_is)
    (case z_enumerate => k_is)
    (case z_divmod => k_is)
    (case z_sum => k_is)
    (case z_reversed => k_is)
    (case z_ValueError => k_is)
