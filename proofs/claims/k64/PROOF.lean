import PyProof.Rows.All
import Wide.All
import OpenK.AllK
import Wide.FinOn
import Lean
import PyProof.EqAt
import PyProof.EqKinds
import PyProof.TupleCall
import PySem.SetOps
import PyProof.SetKind
import PyProof.CollectWalk
import PyProof.FactsAll.set
import PyProof.ForAny
import PyProof.Rows.SortWalk
import PyProof.Rows.SetFrom
import KE.KSortAsk
import KE.KSortTup
import KE.KDictList
import KE.KMinBuiltin
import PyProof.EnumMake
import PyProof.NsDelKeeps
import PyProof.ExcInit
import PyProof.ExcClass2
import PyProof.MeetsStr
import PyProof.MeetsStr2
import PyProof.StrLawsIn
import PyProof.StrLawsOcc
import PyProof.StrLawsOccR
import PyProof.CallStr
import PyProof.SliceStr2
import KE.KIntText
import KE.IntTextLaws
import PyProof.FString4
import PyProof.StrLawsRepr
import PyProof.StrWalks
import PyProof.FString
import PyProof.TupleKey
import PyProof.IsRules
import KE.KRevIter
import PyProof.WalksMore
import KE.KLam
import KE.KNestM
import PyProof.TupleOfSeq
import KE.KSortKey
import PyProof.AttrMissHeap
import KE.KDictOf
import PyProof.Rows.MinMaxN
import KE.KNest
import PySem.Challenge.RW_crossracks_k64_hunted
set_option Elab.async false
set_option linter.all false
set_option maxRecDepth 100000
namespace L2
open PySem PySem.Spec PyProof.Rows
abbrev Key := Sum Int Str
def keyIs : Key → Value → Bool
  | .inl k, v => Value.isInt k v
  | .inr x, v => Value.isStrOf x v
def keyH (w : World) : Key → Int
  | .inl k => hashInt k
  | .inr x => hashStr w x
theorem keyIs_shape : ∀ {k : Key} {v : Value}, keyIs k v = true → (∃ i t, k = Sum.inl i ∧ v = Value.int i t) ∨ (∃ x t, k = Sum.inr x ∧ v = Value.str x t)
  | .inl i, v, h => by
    obtain ⟨t, e⟩ := Value.isInt_shape (k := i) (v := v) h
    exact .inl ⟨i, t, rfl, e⟩
  | .inr x, v, h => by
    obtain ⟨t, e⟩ := Value.isStrOf_shape (x := x) (v := v) h
    exact .inr ⟨x, t, rfl, e⟩
theorem keyIs_int (i : Int) (t : Tok) : keyIs (.inl i) (.int i t) = true := by simp [keyIs, Value.isInt]
theorem keyIs_str (x : Str) (t : Tok) : keyIs (.inr x) (.str x t) = true := by simp [keyIs, Value.isStrOf]
theorem key_ll (a b : Int) : decide ((Sum.inl a : Key) = Sum.inl b) = (a == b) := by
  by_cases e : a = b
  · subst e; simp
  · have h : ¬ (Sum.inl a : Key) = Sum.inl b := fun q => e (Sum.inl.inj q)
    rw [decide_eq_false h]
    exact (beq_eq_false_iff_ne.mpr e).symm
theorem key_rr (a b : Str) : decide ((Sum.inr a : Key) = Sum.inr b) = decide (a = b) := by
  by_cases e : a = b
  · subst e; simp
  · have h : ¬ (Sum.inr a : Key) = Sum.inr b := fun q => e (Sum.inr.inj q)
    rw [decide_eq_false h, decide_eq_false e]
theorem key_lr (a : Int) (b : Str) : decide ((Sum.inl a : Key) = Sum.inr b) = false := decide_eq_false (fun q => nomatch q)
theorem key_rl (a : Str) (b : Int) : decide ((Sum.inr a : Key) = Sum.inl b) = false := decide_eq_false (fun q => nomatch q)
def mixKind (prog : Program) (w : World) : PySem.KeyKind prog w Key where
  is := keyIs
  hash := keyH w
  inj := fun v a b ha hb => by
    rcases keyIs_shape ha with ⟨i, t, rfl, rfl⟩ | ⟨x, t, rfl, rfl⟩
    · rcases keyIs_shape hb with ⟨j, u, rfl, e⟩ | ⟨y, u, rfl, e⟩
      · injection e with e1 _; rw [e1]
      · exact nomatch e
    · rcases keyIs_shape hb with ⟨j, u, rfl, e⟩ | ⟨y, u, rfl, e⟩
      · exact nomatch e
      · injection e with e1 _; rw [e1]
  byValue := fun k v h => by
    rcases keyIs_shape h with ⟨i, t, rfl, rfl⟩ | ⟨x, t, rfl, rfl⟩ <;> rfl
  pyHash := fun hv h => by
    rcases keyIs_shape hv with ⟨i, t, rfl, rfl⟩ | ⟨x, t, rfl, rfl⟩
    · exact wpAny_pyHash_int h
    · exact wpAny_pyHash_str h
  eqBool := fun hu hv h => by
    rcases keyIs_shape hu with ⟨i, t, rfl, rfl⟩ | ⟨x, t, rfl, rfl⟩
    · rcases keyIs_shape hv with ⟨j, u, rfl, rfl⟩ | ⟨y, u, rfl, rfl⟩
      · rw [key_ll] at h; exact wpAny_eqBool_int h
      · rw [key_lr] at h; exact SeqAt.EqAt.int_str i t y u _ _ _ _ h
    · rcases keyIs_shape hv with ⟨j, u, rfl, rfl⟩ | ⟨y, u, rfl, rfl⟩
      · rw [key_rl] at h; exact SeqAt.EqAt.str_int x t j u _ _ _ _ h
      · rw [key_rr] at h; exact wpAny_eqBool_str h
  «strs» := fun k x t v h => by
    rcases keyIs_shape h with ⟨i, u, rfl, e⟩ | ⟨y, u, rfl, e⟩
    · exact nomatch e
    · injection e with e1 _
      subst e1
      cases v <;> rfl
theorem mixKind_int (prog : Program) (w : World) (i : Int) (t : Tok) : (mixKind prog w).is (.inl i) (.int i t) = true := keyIs_int i t
theorem mixKind_str (prog : Program) (w : World) (x : Str) (t : Tok) : (mixKind prog w).is (.inr x) (.str x t) = true := keyIs_str x t
end L2
namespace L2
open PySem PySem.Spec PyProof.Rows
inductive V where
  | non | bl (b : Bool) | int (i : Int) | str (x : Str) | byt (b : Array UInt8) | flt (b : UInt64) | ref (a : Addr) | ty (n : String)
  deriving DecidableEq
def RelV : V → Value → Prop
  | .non, u => u = Value.none
  | .bl b, u => u = Value.bool b
  | .int i, u => ∃ t, u = Value.int i t
  | .str x, u => ∃ t, u = Value.str x t
  | .byt b, u => ∃ t, u = Value.bytes b t
  | .flt b, u => ∃ t, u = Value.float b t
  | .ref a, u => u = Value.ref a
  | .ty n, u => u = Value.type n
abbrev Vals : List V → List Value → Prop := Paired RelV
theorem Vals.length {xs : List V} {us : List Value} (r : Vals xs us) : xs.length = us.length := Paired.length r
theorem Vals.get : ∀ {xs : List V} {us : List Value} {i : Nat} {x : V}, Vals xs us → xs[i]? = some x → ∃ u, us[i]? = some u ∧ RelV x u
  | _, _, _, _, .nil, e => by simp at e
  | _, _, 0, _, .cons r _, e => by simp at e; subst e; exact ⟨_, rfl, r⟩
  | _, _, i + 1, x, .cons _ t, e => by
    obtain ⟨u, h1, h2⟩ := Vals.get (i := i) (x := x) t (by simpa using e)
    exact ⟨u, by simpa using h1, h2⟩
theorem Vals.append : ∀ {xs ys : List V} {us ws : List Value}, Vals xs us → Vals ys ws → Vals (xs ++ ys) (us ++ ws)
  | _, _, _, _, .nil, s => s
  | _, _, _, _, .cons r t, s => .cons r (Vals.append t s)
theorem Vals.take : ∀ {xs : List V} {us : List Value} (n : Nat), Vals xs us → Vals (xs.take n) (us.take n)
  | _, _, 0, _ => .nil
  | _, _, _ + 1, .nil => .nil
  | _, _, n + 1, .cons r t => .cons r (Vals.take n t)
theorem Vals.drop : ∀ {xs : List V} {us : List Value} (n : Nat), Vals xs us → Vals (xs.drop n) (us.drop n)
  | _, _, 0, r => r
  | _, _, _ + 1, .nil => .nil
  | _, _, n + 1, .cons _ t => Vals.drop n t
def RelO : Option V → Option Value → Prop
  | some v, some u => RelV v u
  | none, none => True
  | _, _ => False
def KV {κ : Type} : List (κ × V) → List (κ × Value) → Prop := Paired fun (p : κ × V) (q : κ × Value) => p.1 = q.1 ∧ RelV p.2 q.2
def kV : Key → V
  | .inl i => .int i
  | .inr x => .str x
inductive HO where
  /-- a list -/
  | lst (xs : List V)
  /-- a tuple (never changes) -/
  | tup (xs : List V)
  /-- a dict whose keys are ints and texts; one whose keys are tuples of ints and texts (the empty one is both) -/
  | dK (kvs : List (Key × V)) | dT (kvs : List (List Key × V))
  /-- a set of ints: its members, its size -/
  | set (S : Int → Bool) (n : Nat)
  /-- an instance of the class at C, its dict at dx, its attributes -/
  | ins (C dx : Addr) (fs : List (Str × V))
  /-- the dict of the instance at x -/
  | own (x : Addr)
  /-- the dict of an exception -/
  | xd (fs : List (Str × V))
  /-- a bound method, f of x -/
  | met (f x : Addr)
  /-- a range object lo, lo + 1, .. below hi -/
  | rng (lo hi : Int)
  /-- a thing that is known to the object (the script; a dict while a loop walks it): read, never written while it is so -/
  | frz (o : Obj) (u : HO)
  /-- a code object's table -/
  | tbl (ps : Array Value)
  /-- any other thing, by what is true of its one object (a def of one's own: SetO a S n := HO.ext fun h => ..) -/
  | ext (φ : Heap → Prop)
abbrev Hp := Addr → Option HO
def upd (H : Hp) (a : Addr) (o : HO) : Hp := fun b => if b = a then some o else H b
theorem upd_same {H : Hp} {a : Addr} {o : HO} : upd H a o a = some o := by unfold upd; rw [if_pos rfl]
theorem upd_ne {H : Hp} {a b : Addr} {o : HO} (h : b ≠ a) : upd H a o b = H b := by unfold upd; rw [if_neg h]
theorem ne_of {H : Hp} {a b : Addr} {o u : HO} (h : H a = some o) (h' : H b = some u) (d : o ≠ u) : a ≠ b := by
  intro e; subst e; rw [h] at h'; exact d (Option.some.inj h')
theorem ne_of_none {H : Hp} {a b : Addr} {o : HO} (h : H a = some o) (h' : H b = none) : a ≠ b := by
  intro e; subst e; rw [h] at h'; cases h'
section
variable (P : Program) (w : World)
def ObjOk (H : Hp) (h : Heap) (a : Addr) : HO → Prop
  | .lst xs => xs.length ≤ sizeLine ∧ ∃ (its : List Value) (n : Nat), Vals xs its ∧ h.get? a = some { cls := .type "list", data := .seq its.toArray n }
  | .tup xs => xs.length ≤ sizeLine ∧ ∃ its : List Value, Vals xs its ∧ IsTup h a its.toArray
  | .dK kvs => kvs.length ≤ sizeLine ∧ (a == sysModules) = false ∧ ∃ vs, KV kvs vs ∧ h.DictOf (mixKind P w) a vs
  | .dT kvs => kvs.length ≤ sizeLine ∧ (a == sysModules) = false ∧ ∃ xs : List (List Key × Addr × Value),
      Paired (fun (p : List Key × V) (q : List Key × Addr × Value) => p.1 = q.1 ∧ H q.2.1 = some (.tup (p.1.map kV)) ∧ RelV p.2 q.2.2) kvs xs ∧
      ∃ o es ep, h.get? a = some o ∧ o.ExactDict ∧ o.data = .dict es ep ∧ es.toList = xs.map (entryOfKey (tupleKind (mixKind P w))) ∧ (xs.map (·.1)).Nodup
  | .set S n => h.SetOf (intKind P w) a S n
  | .ins C dx fs => H dx = some (.own a) ∧ fs.length ≤ 1000 ∧ dx ≠ a ∧ h.get? a = some (PySem.W.instObj C dx) ∧
      ∃ mA, h.Ns1 dx mA ∧ (∀ f, RelO (fs.lookup f) (mA f)) ∧ PySem.Within mA (fs.map (·.1))
  | .own _ => ∃ o, h.get? a = some o
  | .xd fs => ∃ mA, h.Ns1 a mA ∧ ∀ f, RelO (fs.lookup f) (mA f)
  | .rng lo hi => ∃ t u v, h.get? a = some { cls := .type "range", data := .fields #[.int lo t, .int hi u, .int 1 v] }
  | .frz o u => h.get? a = some o ∧ ObjOk H h a u
  | .tbl ps => h.get? a = some { cls := .none, data := .fields ps }
  | .met f x => h.get? a = some (PySem.W.methodObj (.ref f) (.ref x))
  | .ext φ => φ h ∧ (∃ o, h.get? a = some o) ∧ ∀ h1 h2 : Heap, φ h1 → (∀ o, h1.get? a = some o → h2.get? a = some o) → φ h2
def HOk (H : Hp) (h : Heap) : Prop := ∀ a o, H a = some o → ObjOk P w H h a o
end
section
variable {P : Program} {w : World} {H H' : Hp} {h h' : Heap} {a : Addr} {o : HO}
theorem ObjOk.lt (x : ObjOk P w H h a o) : a < h.objs.size := by
  cases o with
  | lst xs => obtain ⟨_, _, _, _, e⟩ := x; exact Heap.lt_size e
  | tup xs => obtain ⟨_, _, _, p⟩ := x; exact p.lt
  | dK kvs => obtain ⟨_, _, _, _, o, _, _, e, _⟩ := x; exact Heap.lt_size e
  | dT kvs => obtain ⟨_, _, _, _, o, _, _, e, _⟩ := x; exact Heap.lt_size e
  | set S n => obtain ⟨o, _, _, _, e, _⟩ := x; exact Heap.lt_size e
  | ins C dx fs => obtain ⟨_, _, _, e, _⟩ := x; exact Heap.lt_size e
  | own y => obtain ⟨_, e⟩ := x; exact Heap.lt_size e
  | xd fs => obtain ⟨_, ⟨_, _, _, e, _⟩, _⟩ := x; exact Heap.lt_size e
  | rng lo hi => obtain ⟨_, _, _, e⟩ := x; exact Heap.lt_size e
  | frz ob u => obtain ⟨e, _⟩ := x; exact Heap.lt_size e
  | tbl ps => exact Heap.lt_size (show h.get? a = some _ from x)
  | met f y => exact Heap.lt_size (show h.get? a = some _ from x)
  | ext φ => obtain ⟨_, ⟨_, e⟩, _⟩ := x; exact Heap.lt_size e
theorem Paired.mapP {α β : Type} {F G : α → β → Prop} : ∀ {l₁ : List α} {l₂ : List β}, Paired F l₁ l₂ → (∀ a b, F a b → G a b) → Paired G l₁ l₂
  | _, _, .nil, _ => .nil
  | _, _, .cons r t, f => .cons (f _ _ r) (Paired.mapP t f)
theorem ObjOk.stay (x : ObjOk P w H h a o) (k : ∀ b u, (b = a ∨ H b = some (.own a)) → h.get? b = some u → h'.get? b = some u)
    (ho : ∀ b, H b = some (.own a) → H' b = some (.own a)) (ht : ∀ b xs, H b = some (.tup xs) → H' b = some (.tup xs)) : ObjOk P w H' h' a o := by
  induction o with
  | lst xs => obtain ⟨z, its, n, r, e⟩ := x; exact ⟨z, its, n, r, k _ _ (.inl rfl) e⟩
  | tup xs => obtain ⟨z, its, r, ob, e, c⟩ := x; exact ⟨z, its, r, ob, k _ _ (.inl rfl) e, c⟩
  | dK kvs => obtain ⟨z, y, vs, r, ob, es, ep, e, c⟩ := x; exact ⟨z, y, vs, r, ob, es, ep, k _ _ (.inl rfl) e, c⟩
  | dT kvs =>
    obtain ⟨z, y, xs, r, ob, es, ep, e, c⟩ := x
    exact ⟨z, y, xs, Paired.mapP r fun p q z => ⟨z.1, ht _ _ z.2.1, z.2.2⟩, ob, es, ep, k _ _ (.inl rfl) e, c⟩
  | set S n => obtain ⟨ob, es, ep, t, e, c⟩ := x; exact ⟨ob, es, ep, t, k _ _ (.inl rfl) e, c⟩
  | ins C dx fs =>
    obtain ⟨d, z, ne, e, mA, ⟨od, es, ep, e2, c⟩, r⟩ := x
    exact ⟨ho _ d, z, ne, k _ _ (.inl rfl) e, mA, ⟨od, es, ep, k _ _ (.inr d) e2, c⟩, r⟩
  | own y => obtain ⟨ob, e⟩ := x; exact ⟨ob, k _ _ (.inl rfl) e⟩
  | xd fs => obtain ⟨mA, ⟨od, es, ep, e, c⟩, r⟩ := x; exact ⟨mA, ⟨od, es, ep, k _ _ (.inl rfl) e, c⟩, r⟩
  | rng lo hi => obtain ⟨t, u, v, e⟩ := x; exact ⟨t, u, v, k _ _ (.inl rfl) e⟩
  | frz ob u ih => obtain ⟨e, q⟩ := x; exact ⟨k _ _ (.inl rfl) e, ih q⟩
  | tbl ps =>
    have e : h.get? a = some { cls := .none, data := .fields ps } := x
    show h'.get? a = some { cls := .none, data := .fields ps }
    exact k a _ (.inl rfl) e
  | met f y =>
    have e : h.get? a = some (PySem.W.methodObj (.ref f) (.ref y)) := x
    show h'.get? a = some (PySem.W.methodObj (.ref f) (.ref y))
    exact k a _ (.inl rfl) e
  | ext φ => obtain ⟨p, ⟨o, e⟩, st⟩ := x; exact ⟨st _ _ p fun o q => k _ _ (.inl rfl) q, ⟨o, k _ _ (.inl rfl) e⟩, st⟩
theorem HOk.lt (x : HOk P w H h) (e : H a = some o) : a < h.objs.size := (x a o e).lt
theorem HOk.fresh (x : HOk P w H h) (e : h.objs.size ≤ a) : H a = none := by
  cases q : H a with
  | none => rfl
  | some u => exact absurd (Nat.lt_of_lt_of_le (x.lt q) e) (Nat.lt_irrefl _)
theorem HOk.kept (x : HOk P w H h) (k : ∀ b u, h.get? b = some u → h'.get? b = some u) : HOk P w H h' := fun a o e =>
  (x a o e).stay (fun b u _ q => k b u q) (fun _ q => q) fun _ _ q => q
theorem HOk.laid (x : HOk P w H h) (k : ∀ b u, h.get? b = some u → h'.get? b = some u) (hp : h.objs.size ≤ a) (new : ObjOk P w (upd H a o) h' a o) : HOk P w (upd H a o) h' := fun b u e => by
  have hn := x.fresh hp
  by_cases hb : b = a
  · subst hb; rw [upd_same] at e; cases e; exact new
  · rw [upd_ne hb] at e
    exact (x b u e).stay (fun c v _ q => k c v q) (fun c q => by rw [upd_ne (ne_of_none q hn)]; exact q) fun c xs q => by rw [upd_ne (ne_of_none q hn)]; exact q
end
def Rd (H : Hp) (a : Addr) (u : HO) : Prop := H a = some u ∨ ∃ o, H a = some (.frz o u)
theorem Rd.ok {P : Program} {w : World} {H : Hp} {h : Heap} {a : Addr} {u : HO} (r : Rd H a u) (x : HOk P w H h) : ObjOk P w H h a u := by
  rcases r with r | ⟨o, r⟩
  · exact x a u r
  · obtain ⟨_, q⟩ := x a _ r
    exact q
def Mut : Option HO → Prop
  | some (.lst _) => True
  | some (.dK _) => True
  | some (.dT _) => True
  | some (.set _ _) => True
  | some (.ins _ _ _) => True
  | some (.ext _) => True
  | _ => False
section
variable {P : Program} {w : World} {H : Hp} {h h' : Heap} {x e : Addr} {o' : HO}
theorem HOk.write (ok : HOk P w H h) (mu : Mut (H x)) (he : e = x ∨ H e = some (.own x)) (k : ∀ b u, b ≠ e → h.get? b = some u → h'.get? b = some u) (heo : ∃ u, h'.get? e = some u)
    (new : ObjOk P w (upd H x o') h' x o') : HOk P w (upd H x o') h' := fun b u q => by
  have nown : ∀ c y, H c = some (.own y) → c ≠ x := fun c y r z => by subst z; rw [r] at mu; exact mu
  have ntup : ∀ c xs, H c = some (.tup xs) → c ≠ x := fun c xs r z => by subst z; rw [r] at mu; exact mu
  by_cases hb : b = x
  · subst hb; rw [upd_same] at q; cases q; exact new
  · rw [upd_ne hb] at q
    by_cases hbe : b = e
    · have q' : H b = some (.own x) := by
        rcases he with z | z
        · exact absurd (hbe.trans z) hb
        · rw [hbe]; exact z
      rw [q] at q'; cases q'
      obtain ⟨v, hv⟩ := heo
      exact ⟨v, by rw [hbe]; exact hv⟩
    · refine (ok b u q).stay (fun c v hc r => k c v ?_ r) (fun c r => by rw [upd_ne (nown c b r)]; exact r) fun c xs r => by rw [upd_ne (ntup c xs r)]; exact r
      rcases hc with rfl | hc
      · exact hbe
      · rintro rfl
        rcases he with z | z
        · exact nown c b hc z
        · rw [hc] at z; cases z; exact hb rfl
end
structure Un (fs ex : List Addr) (H H' : Hp) (h h' : Heap) : Prop where
  keep : ∀ b o, h.get? b = some o → H b = none → b ∉ fs → b ∉ ex → h'.get? b = some o
  slot : ∀ b o, h.get? b = some o → H b = none → b ∈ fs → b ∉ ex → ∃ sl, h'.get? b = some { o with slots := sl }
  free : ∀ b o, h.get? b = some o → H b = none → b ∉ ex → H' b = none
  there : ∀ b o, h.get? b = some o → b ∉ ex → ∃ o', h'.get? b = some o'
  tups : ∀ b xs, H b = some (.tup xs) → H' b = some (.tup xs)
  frzs : ∀ b o u, H b = some (.frz o u) → H' b = some (.frz o u)
  tbls : ∀ b ps, H b = some (.tbl ps) → ∃ more, H' b = some (.tbl (ps ++ more))
section
variable {fs fs' ex ex' : List Addr} {H H1 H2 : Hp} {h h1 h2 h' : Heap} {a x e : Addr} {o : HO}
theorem Un.any (u : Un fs ex H H1 h h1) {b : Addr} {ob : Obj} (q : h.get? b = some ob) (n : H b = none) (hx : b ∉ ex) : ∃ sl, h1.get? b = some { ob with slots := sl } := by
  by_cases hb : b ∈ fs
  · exact u.slot b ob q n hb hx
  · exact ⟨ob.slots, u.keep b ob q n hb hx⟩
theorem Un.kept (k : ∀ b u, h.get? b = some u → h'.get? b = some u) : Un fs ex H H h h' :=
  ⟨fun b ob q _ _ _ => k b ob q, fun b ob q _ _ _ => ⟨ob.slots, k b ob q⟩, fun _ _ _ n _ => n, fun b ob q _ => ⟨ob, k b ob q⟩, fun _ _ q => q, fun _ _ _ q => q, fun _ ps q => ⟨#[], by rw [q]; simp⟩⟩
theorem Un.refl : Un fs ex H H h h := Un.kept fun _ _ q => q
theorem Un.laid (k : ∀ b u, h.get? b = some u → h'.get? b = some u) (hp : h.objs.size ≤ a) (hn : H a = none) : Un fs ex H (upd H a o) h h' where
  keep := fun b u q _ _ _ => k b u q
  slot := fun b u q _ _ _ => ⟨u.slots, k b u q⟩
  free := fun b u q n _ => by rw [upd_ne (Nat.ne_of_lt (Nat.lt_of_lt_of_le (Heap.lt_size q) hp))]; exact n
  there := fun b u q _ => ⟨u, k b u q⟩
  tups := fun b xs q => by rw [upd_ne (ne_of_none q hn)]; exact q
  frzs := fun b u xs q => by rw [upd_ne (ne_of_none q hn)]; exact q
  tbls := fun b ps q => ⟨#[], by rw [upd_ne (ne_of_none q hn), q]; simp⟩
theorem Un.write (mu : Mut (H x)) (he : e = x ∨ H e = some (.own x)) (k : ∀ b u, b ≠ e → h.get? b = some u → h'.get? b = some u) (heo : ∃ u, h'.get? e = some u) : Un fs ex H (upd H x o) h h' := by
  have hx : ∀ b, H b = none → b ≠ x := fun b n z => by subst z; rw [n] at mu; exact mu
  have hb : ∀ b, H b = none → b ≠ e := fun b n z => by
    subst z
    rcases he with r | r
    · exact hx b n r
    · rw [n] at r; cases r
  have hm : ∀ b u, H b = some u → ¬ Mut (some u) → b ≠ x := fun b u q nm z => by subst z; rw [q] at mu; exact nm mu
  refine ⟨fun b u q n _ _ => k b u (hb b n) q, fun b u q n _ _ => ⟨u.slots, k b u (hb b n) q⟩, fun b u q n _ => by rw [upd_ne (hx b n)]; exact n, fun b u q _ => ?_,
    fun b xs q => by rw [upd_ne (hm b _ q fun z => z)]; exact q, fun b u xs q => by rw [upd_ne (hm b _ q fun z => z)]; exact q, fun b ps q => ⟨#[], by rw [upd_ne (hm b _ q fun z => z), q]; simp⟩⟩
  by_cases hbe : b = e
  · subst hbe; exact heo
  · exact ⟨u, k b u hbe q⟩
end
def trk (h : Heap) (H : Hp) : List Addr := (List.range h.objs.size).filter fun a => (H a).isSome
def hidT (h : Heap) (H : Hp) : Heap := PySem.W.hideAll h (trk h H)
theorem hidT_size (h : Heap) (H : Hp) : (hidT h H).objs.size = h.objs.size := PySem.W.hideAll_size _ _
theorem hidT_get {h : Heap} {H : Hp} {b : Addr} {o : Obj} (e : h.get? b = some o) (n : H b = none) : (hidT h H).get? b = some o :=
  PySem.W.hideAll_get _ e fun hm => by
    have q : (H b).isSome = true := (List.mem_filter.mp hm).2
    rw [n] at q; simp at q
theorem of_hidT {h : Heap} {H : Hp} {b : Addr} {o : Obj} (e : (hidT h H).get? b = some o) : h.get? b = some o ∧ H b = none := by
  have e' : h.get? b = some o := PySem.W.of_hideAll (trk h H) e
  refine ⟨e', ?_⟩
  cases q : H b with
  | none => rfl
  | some x =>
    have hm : b ∈ trk h H := List.mem_filter.mpr ⟨List.mem_range.mpr (Heap.lt_size e'), by simp [q]⟩
    have z : (hidT h H).get? b = none := PySem.W.hideAll_none (trk h H) hm
    rw [z] at e; cases e
end L2
namespace L2
open PySem PySem.Spec PyProof.Rows
structure Mod (K : PySem.W.Frag) (mg : Str → Option Value) (base : Heap) : Prop where
  kin : K.In base
  glob : base.Ns mainGlobals mg
  blt : ∃ mb, base.Ns builtinsNs mb ∧ ∀ x : Str, x ≠ "__name__" → mb x = bootBuiltins x
  nolimit : base.NoLimit
structure Cx where
  prog : Program
  w : World
  K : PySem.W.Frag
  mg : Str → Option Value
  base : Heap
  A : Around
  N : List Str
  s₀ : Shared
  H₀ : Hp
  env : Env
  outer : List Env
  stack : List Env
  ex : List Addr
  fn : Str → Bool
  calm : Bool
  pn : List (Addr × Obj)
  xe : Value → Shared → Prop
def frs (l : List Env) : List Addr := l.filterMap (·.frame)
abbrev Cx.fs (X : Cx) : List Addr := frs X.outer
def Vis (sc : Scope) (x : Str) : Prop := sc.names.lookup x = some .local ∨ sc.names.lookup x = some .cell ∨ sc.names.lookup x = some .free
def Loc (sc : Scope) (x : Str) : Prop := sc.names.lookup x = some .local ∨ sc.names.lookup x = some .cell
def Look (env : Env) (h : Heap) (m : Str → Option Value) (x : Str) (u : Value) : Prop :=
  (env.kindOf x = some .local ∧ m x = some u) ∨ ((env.kindOf x = some .cell ∨ env.kindOf x = some .free) ∧ ∃ c, env.cells.lookup x = some c ∧ h.IsCell c (some u))
structure Cx.Ok (X : Cx) : Prop where
  mod : Mod X.K X.mg X.base
  kind : X.env.scope.kind = .function
  glob : X.env.globals = mainGlobals
  blt : X.env.builtins = builtinsNs
  above : X.s₀.heap.objs.size ≤ X.env.locals
  inj : ∀ x y c, X.env.cells.lookup x = some c → X.env.cells.lookup y = some c → x = y
  has : ∀ x, (X.env.kindOf x = some .cell ∨ X.env.kindOf x = some .free) → ∃ c, X.env.cells.lookup x = some c
  cab : ∀ x c, X.fn x = true → X.env.cells.lookup x = some c → X.s₀.heap.objs.size ≤ c
  hd : X.calm = true → X.A.handled = none
  frames : X.A.frames = some X.stack
  stk : X.stack = X.outer ∨ (X.stack = X.env :: X.outer ∧ X.env.frame = some X.env.locals)
  exf : ∀ b ∈ X.ex, b ≠ X.env.locals ∧ ∀ x c, X.env.cells.lookup x = some c → c ≠ b
  bs : ∀ b o, X.base.get? b = some o → X.s₀.heap.get? b = some o ∧ X.H₀ b = none
  bsz : X.base.objs.size ≤ X.s₀.heap.objs.size
  noex : ∀ b o, X.base.get? b = some o → b ∉ X.ex
  exfs : ∀ b ∈ X.ex, b ∉ X.fs
  funs : X.s₀.heap.FunFrames X.base X.outer
  frf : ∀ b ∈ X.fs, X.H₀ b = none
structure Inv (X : Cx) (pins : List (Addr × Obj)) (σ : List (Option V)) (H : Hp) (s : Shared) : Prop where
  ok : X.Ok
  os : s.os = X.s₀.os
  bare : AllBare s.gens
  base : Un X.fs X.ex X.H₀ H X.s₀.heap s.heap
  loc : ∃ m, s.heap.Ns X.env.locals m ∧ ∀ (i : Nat) (x : Str) (v : V), X.N[i]? = some x → σ[i]? = some (some v) → Vis X.env.scope x → ∃ u, RelV v u ∧ Look X.env s.heap m x u
  cell : ∀ x c, X.env.cells.lookup x = some c → ∃ v, s.heap.IsCell c v
  free : H X.env.locals = none
  freeC : ∀ x c, X.env.cells.lookup x = some c → H c = none
  pin : ∀ p ∈ X.pn ++ pins, s.heap.get? p.1 = some p.2 ∧ H p.1 = none ∧ p.1 ≠ X.env.locals ∧ p.1 ∉ X.fs ∧ ∀ v, p.2.data ≠ .cell v
  hok : HOk X.prog X.w H s.heap
  len : σ.length = X.N.length
section
variable {X : Cx} {pins : List (Addr × Obj)} {σ : List (Option V)} {H H' : Hp} {s : Shared} {h' : Heap}
theorem Cx.Ok.nofr (ok : X.Ok) {b : Addr} {o : Obj} (e : X.base.get? b = some o) : b ∉ X.fs := fun hb => by
  have := (ok.funs.mem hb).1
  rw [e] at this; cases this
theorem Inv.bs (I : Inv X pins σ H s) : ∀ b o, X.base.get? b = some o → s.heap.get? b = some o ∧ H b = none := fun b o e =>
  ⟨I.base.keep b o (I.ok.bs b o e).1 (I.ok.bs b o e).2 (I.ok.nofr e) (I.ok.noex b o e), I.base.free b o (I.ok.bs b o e).1 (I.ok.bs b o e).2 (I.ok.noex b o e)⟩
theorem Inv.bk (I : Inv X pins σ H s) : ∀ b o, X.base.get? b = some o → s.heap.get? b = some o := fun b o e => (I.bs b o e).1
theorem Inv.mod (I : Inv X pins σ H s) : Mod X.K X.mg X.base := I.ok.mod
theorem Inv.kIn (I : Inv X pins σ H s) : X.K.In s.heap := I.ok.mod.kin.keeps I.bk
theorem Inv.nolimit (I : Inv X pins σ H s) : s.heap.NoLimit := I.ok.mod.nolimit.keeps I.bk
theorem Inv.lt (I : Inv X pins σ H s) : X.env.locals < s.heap.objs.size := let ⟨_, hn, _⟩ := I.loc; hn.lt
theorem Inv.sz (I : Inv X pins σ H s) : X.s₀.heap.objs.size ≤ s.heap.objs.size := Nat.le_trans I.ok.above (Nat.le_of_lt I.lt)
theorem Inv.nofs (I : Inv X pins σ H s) {a : Addr} (h : s.heap.objs.size ≤ a) : a ∉ X.fs := fun hb => by
  obtain ⟨_, o, ho, _⟩ := I.ok.funs.mem hb
  exact absurd (Nat.lt_of_lt_of_le (Heap.lt_size ho) (Nat.le_trans I.sz h)) (Nat.lt_irrefl _)
theorem Inv.cne (I : Inv X pins σ H s) : ∀ x c, X.env.cells.lookup x = some c → c ≠ X.env.locals := fun x c e z => by
  obtain ⟨v, o, ho, hd⟩ := I.cell x c e
  obtain ⟨m, ⟨o', es, ep, ho', hd', _⟩, _⟩ := I.loc
  rw [z, ho'] at ho; cases ho; rw [hd'] at hd; cases hd
theorem Inv.funs (I : Inv X pins σ H s) : s.heap.FunFrames X.base X.outer := by
  have all : ∀ (l : List Env), (∀ b ∈ frs l, b ∈ X.fs) → X.s₀.heap.FunFrames X.base l → s.heap.FunFrames X.base l := by
    intro l
    induction l with
    | nil => intro _ _; trivial
    | cons env r ih =>
      intro hs hl
      obtain ⟨hk, ⟨L, o, hf, hn, ho, hd⟩, hr⟩ := hl
      have hL : L ∈ X.fs := hs L (by unfold frs; rw [List.filterMap_cons, hf]; exact List.mem_cons_self)
      obtain ⟨sl, e⟩ := I.base.slot L o ho (I.ok.frf L hL) hL fun z => I.ok.exfs L z hL
      exact ⟨hk, ⟨L, _, hf, hn, e, hd⟩, ih (fun b hb => hs b (by unfold frs; rw [List.filterMap_cons, hf]; exact List.mem_cons_of_mem _ hb)) hr⟩
  exact all X.outer (fun _ hb => hb) I.ok.funs
theorem Inv.stack (I : Inv X pins σ H s) : s.heap.FunFrames X.base X.stack := by
  rcases I.ok.stk with e | ⟨e, hf⟩
  · rw [e]; exact I.funs
  · rw [e]
    obtain ⟨m, hn, _⟩ := I.loc
    refine .cons (by rw [I.ok.kind]; decide) hf hn ?_ I.funs
    exact Heap.get?_none_of_le (Nat.le_trans I.ok.bsz I.ok.above)
theorem Inv.stkSub (I : Inv X pins σ H s) : ∀ b ∈ frs X.stack, b ∈ X.env.locals :: X.fs := fun b hb => by
  rcases I.ok.stk with e | ⟨e, hf⟩
  · rw [e] at hb; exact List.mem_cons_of_mem _ hb
  · rw [e] at hb
    unfold frs at hb
    rw [List.filterMap_cons, hf] at hb
    exact hb
theorem Inv.stkFree (I : Inv X pins σ H s) : ∀ b ∈ frs X.stack, H b = none := fun b hb => by
  rcases List.mem_cons.mp (I.stkSub b hb) with e | hb
  · rw [e]; exact I.free
  · obtain ⟨_, o, ho, _⟩ := I.ok.funs.mem hb
    exact I.base.free b o ho (I.ok.frf b hb) fun z => I.ok.exfs b z hb
theorem Inv.step {g' : Array GenState} {t' : Nat} {d' : Drawn} {ch : List Addr} (I : Inv X pins σ H s)
    (hch : ∀ b ∈ ch, (b ∈ X.ex ∨ X.s₀.heap.objs.size ≤ b) ∧ b ≠ X.env.locals ∧ (∀ x c, X.env.cells.lookup x = some c → c ≠ b) ∧ ∀ p ∈ X.pn ++ pins, p.1 ≠ b)
    (keep : ∀ b o, b ≠ X.env.locals → b ∉ X.fs → b ∉ ch → s.heap.get? b = some o → H b = none → h'.get? b = some o)
    (slot : ∀ b o, b ≠ X.env.locals → b ∈ X.fs → b ∉ ch → s.heap.get? b = some o → H b = none → ∃ sl, h'.get? b = some { o with slots := sl }) (free : ∀ b o, b ∉ ch → s.heap.get? b = some o → H b = none → H' b = none)
    (there : ∀ b o, b ∉ ch → s.heap.get? b = some o → ∃ o', h'.get? b = some o')
    (tups : ∀ b xs, H b = some (.tup xs) → H' b = some (.tup xs)) (frzs : ∀ b o u, H b = some (.frz o u) → H' b = some (.frz o u)) (tbls : ∀ b ps, H b = some (.tbl ps) → ∃ more, H' b = some (.tbl (ps ++ more)))
    (ns : ∀ m, s.heap.Ns X.env.locals m → h'.Ns X.env.locals m) (hok : HOk X.prog X.w H' h') (hg : AllBare g') :
    Inv X pins σ H' { s with heap := h', gens := g', drawn := d', toks := t' } := by
  have neL : ∀ b o, X.s₀.heap.get? b = some o → b ≠ X.env.locals := fun b o e => Nat.ne_of_lt (Nat.lt_of_lt_of_le (Heap.lt_size e) I.ok.above)
  have neC : ∀ b o, X.s₀.heap.get? b = some o → b ∉ X.ex → b ∉ ch := fun b o e hx hb => by
    rcases (hch b hb).1 with z | z
    · exact hx z
    · exact absurd (Nat.lt_of_lt_of_le (Heap.lt_size e) z) (Nat.lt_irrefl _)
  have cellK : ∀ x c, X.env.cells.lookup x = some c → ∀ v, s.heap.IsCell c v → h'.IsCell c v := fun x c e v ⟨o, ho, hd⟩ => by
    have nch : c ∉ ch := fun z => (hch c z).2.2.1 x c e rfl
    by_cases hc : c ∈ X.fs
    · obtain ⟨sl, q⟩ := slot c o (I.cne x c e) hc nch ho (I.freeC x c e)
      exact ⟨_, q, hd⟩
    · exact ⟨o, keep c o (I.cne x c e) hc nch ho (I.freeC x c e), hd⟩
  refine ⟨I.ok, I.os, hg, ⟨fun b o e n hb hx => ?_, fun b o e n hb hx => ?_, fun b o e n hx => ?_, fun b o e hx => ?_, fun b xs e => tups b xs (I.base.tups b xs e), fun b o xs e => frzs b o xs (I.base.frzs b o xs e), fun b ps e => ?_⟩, ?_, fun x c e => ?_, ?_, fun x c e => ?_, fun p hp => ?_, hok, I.len⟩
  · exact keep b o (neL b o e) hb (neC b o e hx) (I.base.keep b o e n hb hx) (I.base.free b o e n hx)
  · obtain ⟨sl, e1⟩ := I.base.slot b o e n hb hx
    obtain ⟨sl', e2⟩ := slot b _ (neL b o e) hb (neC b o e hx) e1 (I.base.free b o e n hx)
    exact ⟨sl', e2⟩
  · obtain ⟨o', e1⟩ := I.base.there b o e hx
    exact free b o' (neC b o e hx) e1 (I.base.free b o e n hx)
  · obtain ⟨o', e1⟩ := I.base.there b o e hx
    exact there b o' (neC b o e hx) e1
  · obtain ⟨m1, e1⟩ := I.base.tbls b ps e
    obtain ⟨m2, e2⟩ := tbls b _ e1
    exact ⟨m1 ++ m2, by rw [e2, Array.append_assoc]⟩
  · obtain ⟨m, hn, hl⟩ := I.loc
    refine ⟨m, ns m hn, fun i x v e1 e2 e3 => ?_⟩
    obtain ⟨u, r, l⟩ := hl i x v e1 e2 e3
    refine ⟨u, r, ?_⟩
    rcases l with l | ⟨k, c, e, z⟩
    · exact .inl l
    · exact .inr ⟨k, c, e, cellK x c e _ z⟩
  · obtain ⟨v, z⟩ := I.cell x c e
    exact ⟨v, cellK x c e v z⟩
  · obtain ⟨m, ⟨o, _, _, ho, _⟩, _⟩ := I.loc
    exact free _ o (fun z => (hch _ z).2.1 rfl) ho I.free
  · obtain ⟨v, o, ho, hd⟩ := I.cell x c e
    exact free c o (fun z => (hch c z).2.2.1 x c e rfl) ho (I.freeC x c e)
  · obtain ⟨e, n, ne, nf, d⟩ := I.pin p hp
    have nch : p.1 ∉ ch := fun z => (hch p.1 z).2.2.2 p hp rfl
    exact ⟨keep p.1 p.2 ne nf nch e n, free p.1 p.2 nch e n, ne, nf, d⟩
theorem Inv.un {t' : Nat} (I : Inv X pins σ H s) (u : Un X.fs [] H H' s.heap h') (hok : HOk X.prog X.w H' h') : Inv X pins σ H' { s with heap := h', toks := t' } := by
  obtain ⟨m, ⟨o, es, ep, ho, r⟩, _⟩ := id I.loc
  obtain ⟨sl, hL⟩ := u.any ho I.free (by simp)
  exact I.step (g' := s.gens) (d' := s.drawn) (ch := []) (fun _ z => nomatch z) (fun b o _ hb _ e n => u.keep b o e n hb (by simp)) (fun b o _ hb _ e n => u.slot b o e n hb (by simp)) (fun b o _ e n => u.free b o e n (by simp)) (fun b o _ e => u.there b o e (by simp)) u.tups u.frzs u.tbls (fun m' hm => by
    obtain ⟨o', es', ep', ho', r'⟩ := hm
    rw [ho] at ho'; cases ho'
    exact ⟨_, es', ep', hL, r'⟩) hok I.bare
theorem Inv.call {g' : Array GenState} {t' : Nat} {d' : Drawn} {ch : List Addr} (I : Inv X pins σ H s) (u : Un (frs X.stack) ch H H' s.heap h') (hok : HOk X.prog X.w H' h') (hg : AllBare g')
    (hch : ∀ b ∈ ch, (b ∈ X.ex ∨ X.s₀.heap.objs.size ≤ b) ∧ b ≠ X.env.locals ∧ (∀ x c, X.env.cells.lookup x = some c → c ≠ b) ∧ ∀ p ∈ X.pn ++ pins, p.1 ≠ b) :
    Inv X pins σ H' { s with heap := h', gens := g', drawn := d', toks := t' } := by
  obtain ⟨m, ⟨o, es, ep, ho, r⟩, _⟩ := id I.loc
  obtain ⟨sl, hL⟩ := u.any ho I.free fun z => (hch _ z).2.1 rfl
  exact I.step (ch := ch) hch (fun b o hL hb hc e n => u.keep b o e n (fun z => (List.mem_cons.mp (I.stkSub b z)).elim hL hb) hc) (fun b o _ _ hc e n => u.any e n hc) (fun b o hc e n => u.free b o e n hc) (fun b o hc e => u.there b o e hc) u.tups u.frzs u.tbls (fun m' hm => by
    obtain ⟨o', es', ep', ho', r'⟩ := hm
    rw [ho] at ho'; cases ho'
    exact ⟨_, es', ep', hL, r'⟩) hok hg
theorem Inv.turned {t' : Nat} {it : Addr} (I : Inv X pins σ H s) (k : ∀ b o, b ≠ it → s.heap.get? b = some o → h'.get? b = some o) (hn : H it = none) (hL : it ≠ X.env.locals)
    (h1 : it ∈ X.ex ∨ X.s₀.heap.objs.size ≤ it) (h2 : ∀ x c, X.env.cells.lookup x = some c → c ≠ it) (h3 : ∀ p ∈ X.pn ++ pins, p.1 ≠ it) : Inv X pins σ H { s with heap := h', toks := t' } := by
  have nit : ∀ b u, H b = some u → b ≠ it := fun b u e z => by rw [z, hn] at e; cases e
  refine I.step (g' := s.gens) (d' := s.drawn) (ch := [it]) (fun b hb => ?_) (fun b o _ _ hc e _ => k b o (fun z => hc (by simp [z])) e) (fun b o _ _ hc e _ => ⟨o.slots, k b o (fun z => hc (by simp [z])) e⟩) (fun _ _ _ _ n => n)
    (fun b o hc e => ⟨o, k b o (fun z => hc (by simp [z])) e⟩) (fun _ _ e => e) (fun _ _ _ e => e) (fun b ps e => ⟨#[], by rw [e]; simp⟩) (fun m hm => ?_) (fun b u e => ?_) I.bare
  · have e : b = it := by simpa using hb
    subst e
    exact ⟨h1, hL, h2, h3⟩
  · obtain ⟨o, es, ep, ho, r⟩ := hm
    exact ⟨o, es, ep, k _ o (Ne.symm hL) ho, r⟩
  · refine (I.hok b u e).stay (fun c v hc q => k c v ?_ q) (fun _ q => q) fun _ _ q => q
    rcases hc with z | z
    · rw [z]; exact nit b u e
    · exact nit c _ z
theorem Inv.tok (I : Inv X pins σ H s) (t : Nat) : Inv X pins σ H { s with toks := t } := I.un (h' := s.heap) (t' := t) Un.refl I.hok
theorem Inv.kept {t' : Nat} (I : Inv X pins σ H s) (k : ∀ b u, s.heap.get? b = some u → h'.get? b = some u) : Inv X pins σ H { s with heap := h', toks := t' } := I.un (Un.kept k) (I.hok.kept k)
theorem Inv.laid {a : Addr} {o : HO} {t' : Nat} (I : Inv X pins σ H s) (k : ∀ b u, s.heap.get? b = some u → h'.get? b = some u) (hp : s.heap.objs.size ≤ a) (new : ObjOk X.prog X.w (upd H a o) h' a o) :
    Inv X pins σ (upd H a o) { s with heap := h', toks := t' } := I.un (Un.laid k hp (I.hok.fresh hp)) (I.hok.laid k hp new)
theorem Inv.write {x e : Addr} {o : HO} {t' : Nat} (I : Inv X pins σ H s) (mu : Mut (H x)) (he : e = x ∨ H e = some (.own x)) (k : ∀ b u, b ≠ e → s.heap.get? b = some u → h'.get? b = some u) (heo : ∃ u, h'.get? e = some u)
    (new : ObjOk X.prog X.w (upd H x o) h' x o) : Inv X pins σ (upd H x o) { s with heap := h', toks := t' } := I.un (Un.write mu he k heo) (I.hok.write mu he k heo new)
theorem Inv.pins_of {pins' : List (Addr × Obj)} (I : Inv X pins σ H s) (h : ∀ p ∈ pins', s.heap.get? p.1 = some p.2 ∧ H p.1 = none ∧ p.1 ≠ X.env.locals ∧ p.1 ∉ X.fs ∧ ∀ v, p.2.data ≠ .cell v) : Inv X pins' σ H s :=
  ⟨I.ok, I.os, I.bare, I.base, I.loc, I.cell, I.free, I.freeC, fun p hp => (List.mem_append.mp hp).elim (fun z => I.pin p (List.mem_append_left _ z)) (h p), I.hok, I.len⟩
theorem nodup_ix {N : List Str} (hN : N.Nodup) {i j : Nat} {x : Str} (a : N[i]? = some x) (b : N[j]? = some x) : i = j := by
  obtain ⟨h1, e1⟩ := List.getElem?_eq_some_iff.mp a
  obtain ⟨h2, e2⟩ := List.getElem?_eq_some_iff.mp b
  exact (List.getElem_inj hN).mp (e1.trans e2.symm)
theorem store_ok2 {M : Model} {A : Around} {E : Value → Shared → Prop} {i : Nat} {x : Str} {v : V} {u : Value} {Q : Unit → Shared → Prop} (I : Inv X pins σ H s) (hN : X.N.Nodup) (hi : X.N[i]? = some x) (hx : Loc X.env.scope x) (r : RelV v u)
    (h : ∀ s', Inv X pins (σ.set i (some v)) H s' → (∃ a, Heap.SameBut a s.heap s'.heap ∧ (a = X.env.locals ∨ X.env.cells.lookup x = some a)) → Q () s') (hf : X.fn x = true ∨ X.env.scope.names.lookup x = some .local := by first | exact .inl rfl | exact .inr rfl | assumption) : wpAny M A (storeName X.env x u) Q E s := by
  obtain ⟨m, hn, hl⟩ := id I.loc
  have hcls : (X.env.scope.kind == .class || (X.env.scope.kind == .module && X.env.locals != X.env.globals)) = false := by rw [I.ok.kind]; rfl
  have hiσ : i < σ.length := by rw [I.len]; exact (List.getElem?_eq_some_iff.mp hi).1
  have cne := I.cne
  have tracked : ∀ {a : Addr} {h' : Heap}, (∃ o, s.heap.get? a = some o ∧ H a = none) → Heap.SameBut a s.heap h' → HOk X.prog X.w H h' := fun {a h'} ha hs b ob e => by
    obtain ⟨_, _, hfree⟩ := ha
    refine (I.hok b ob e).stay (fun c w' hc q => (hs.2 c ?_).trans q) (fun _ q => q) fun _ _ q => q
    rintro rfl
    rcases hc with rfl | hc
    · rw [hfree] at e; cases e
    · rw [hfree] at hc; cases hc
  rcases hx with hk | hk
  · refine wpAny_storeName_local hk hn (fun h' hn' hs => ?_) hcls
    obtain ⟨oL, _, _, hoL, _⟩ := id hn
    refine h _ ⟨I.ok, I.os, I.bare, ⟨fun b o e n hb hx => ?_, fun b o e n hb hx => ?_, I.base.free, fun b o e hx => ?_, I.base.tups, I.base.frzs, I.base.tbls⟩, ⟨_, hn', fun j y v' e1 e2 e3 => ?_⟩, fun y c e => ?_, I.free, I.freeC, fun p hp => ?_, tracked ⟨oL, hoL, I.free⟩ hs, by simpa using I.len⟩ ⟨_, hs, .inl rfl⟩
    · exact (hs.2 b (Nat.ne_of_lt (Nat.lt_of_lt_of_le (Heap.lt_size e) I.ok.above))).trans (I.base.keep b o e n hb hx)
    · obtain ⟨sl, e1⟩ := I.base.slot b o e n hb hx
      exact ⟨sl, (hs.2 b (Nat.ne_of_lt (Nat.lt_of_lt_of_le (Heap.lt_size e) I.ok.above))).trans e1⟩
    · obtain ⟨o', e1⟩ := I.base.there b o e hx
      exact ⟨o', (hs.2 b (Nat.ne_of_lt (Nat.lt_of_lt_of_le (Heap.lt_size e) I.ok.above))).trans e1⟩
    · by_cases hj : j = i
      · subst hj
        rw [hi] at e1; cases e1
        rw [List.getElem?_set_self hiσ] at e2
        cases e2
        exact ⟨u, r, .inl ⟨hk, by simp⟩⟩
      · rw [List.getElem?_set_ne (Ne.symm hj)] at e2
        obtain ⟨u', r', q⟩ := hl j y v' e1 e2 e3
        refine ⟨u', r', ?_⟩
        rcases q with ⟨k, e⟩ | ⟨k, c, e, z⟩
        · refine .inl ⟨k, ?_⟩
          have : y ≠ x := fun e => hj (nodup_ix hN e1 (e ▸ hi))
          simp [this, e]
        · exact .inr ⟨k, c, e, z.sameBut hs (cne y c e)⟩
    · obtain ⟨w', z⟩ := I.cell y c e
      exact ⟨w', z.sameBut hs (cne y c e)⟩
    · obtain ⟨e, n, ne, nf, d⟩ := I.pin p hp
      exact ⟨(hs.2 p.1 ne).trans e, n, ne, nf, d⟩
  · have hfn : X.fn x = true := by
      rcases hf with z | z
      · exact z
      · rw [z] at hk; cases hk
    obtain ⟨c, hc⟩ := I.ok.has x (.inl hk)
    obtain ⟨w', z⟩ := I.cell x c hc
    refine wpAny_storeName_cell I.ok.kind hk hc z (fun h' hc' hs => ?_)
    obtain ⟨oc, hoc, hocd⟩ := id z
    refine h { s with heap := h' } ⟨I.ok, I.os, I.bare, ⟨fun b o e n hb hx => ?_, fun b o e n hb hx => ?_, I.base.free, fun b o e hx => ?_, I.base.tups, I.base.frzs, I.base.tbls⟩, ⟨m, hn.sameBut hs (Ne.symm (cne x c hc)), fun j y v' e1 e2 e3 => ?_⟩, fun y c' e => ?_, I.free, I.freeC, fun p hp => ?_, tracked ⟨oc, hoc, I.freeC x c hc⟩ hs, by simpa using I.len⟩ ⟨c, hs, .inr hc⟩
    · exact (hs.2 b (Nat.ne_of_lt (Nat.lt_of_lt_of_le (Heap.lt_size e) (I.ok.cab x c hfn hc)))).trans (I.base.keep b o e n hb hx)
    · obtain ⟨sl, e1⟩ := I.base.slot b o e n hb hx
      exact ⟨sl, (hs.2 b (Nat.ne_of_lt (Nat.lt_of_lt_of_le (Heap.lt_size e) (I.ok.cab x c hfn hc)))).trans e1⟩
    · obtain ⟨o', e1⟩ := I.base.there b o e hx
      exact ⟨o', (hs.2 b (Nat.ne_of_lt (Nat.lt_of_lt_of_le (Heap.lt_size e) (I.ok.cab x c hfn hc)))).trans e1⟩
    · by_cases hj : j = i
      · subst hj
        rw [hi] at e1; cases e1
        rw [List.getElem?_set_self hiσ] at e2
        cases e2
        exact ⟨u, r, .inr ⟨.inl hk, c, hc, hc'⟩⟩
      · rw [List.getElem?_set_ne (Ne.symm hj)] at e2
        obtain ⟨u', r', q⟩ := hl j y v' e1 e2 e3
        refine ⟨u', r', ?_⟩
        rcases q with q | ⟨k, c', e, z'⟩
        · exact .inl q
        · refine .inr ⟨k, c', e, z'.sameBut hs ?_⟩
          rintro rfl
          exact hj (nodup_ix hN e1 (I.ok.inj _ _ _ e hc ▸ hi))
    · by_cases hcc : c' = c
      · subst hcc; exact ⟨_, hc'⟩
      · obtain ⟨w2, z2⟩ := I.cell y c' e
        exact ⟨w2, z2.sameBut hs hcc⟩
    · obtain ⟨e, n, ne, nf, d⟩ := I.pin p hp
      refine ⟨(hs.2 p.1 ?_).trans e, n, ne, nf, d⟩
      intro q
      rw [q, hoc] at e
      have q' : oc = p.2 := Option.some.inj e
      exact d w' (by rw [← q']; exact hocd)
theorem store_ok {M : Model} {A : Around} {E : Value → Shared → Prop} {i : Nat} {x : Str} {v : V} {u : Value} {Q : Unit → Shared → Prop} (I : Inv X pins σ H s) (hN : X.N.Nodup) (hi : X.N[i]? = some x) (hx : Loc X.env.scope x) (r : RelV v u)
    (h : ∀ s', Inv X pins (σ.set i (some v)) H s' → Q () s') (hf : X.fn x = true ∨ X.env.scope.names.lookup x = some .local := by first | exact .inl rfl | exact .inr rfl | assumption) : wpAny M A (storeName X.env x u) Q E s :=
  store_ok2 I hN hi hx r (fun s' I' _ => h s' I') hf
theorem Inv.call' {s' : Shared} {ch : List Addr} (I : Inv X pins σ H s) (ho : s'.os = s.os) (u : Un (frs X.stack) ch H H' s.heap s'.heap) (hok : HOk X.prog X.w H' s'.heap) (hg : AllBare s'.gens)
    (hch : ∀ b ∈ ch, (b ∈ X.ex ∨ X.s₀.heap.objs.size ≤ b) ∧ b ≠ X.env.locals ∧ (∀ x c, X.env.cells.lookup x = some c → c ≠ b) ∧ ∀ p ∈ X.pn ++ pins, p.1 ≠ b) : Inv X pins σ H' s' := by
  obtain ⟨h', g', d', t', o'⟩ := s'
  have e : o' = s.os := ho
  subst e
  exact I.call (g' := g') (t' := t') (d' := d') u hok hg hch
end
abbrev XK := Value → Option Addr → Hp → Prop
abbrev St := List (Option V)
abbrev VK := V → Hp → Prop
abbrev TE := St → Hp → VK → Prop
abbrev TT := St → Hp → (Bool → Hp → Prop) → Prop
abbrev TA := St → Hp → (List V → Hp → Prop) → Prop
structure Ends where
  nx : St → Hp → Prop
  rt : VK
  bk : St → Hp → Prop := fun _ _ => False
  ct : St → Hp → Prop := fun _ _ => False
abbrev TS := Ends → St → Hp → Prop
def EP (X : Cx) (pins : List (Addr × Obj)) (σ : St) (Q : VK) (u : Value) (s' : Shared) : Prop := ∃ v H', Inv X pins σ H' s' ∧ RelV v u ∧ Q v H'
def TP (X : Cx) (pins : List (Addr × Obj)) (σ : St) (Q : Bool → Hp → Prop) (b : Bool) (s' : Shared) : Prop := ∃ H', Inv X pins σ H' s' ∧ Q b H'
def AP (X : Cx) (pins : List (Addr × Obj)) (σ : St) (Q : List V → Hp → Prop) (us : List Value) (s' : Shared) : Prop := ∃ vs H', Inv X pins σ H' s' ∧ Vals vs us ∧ Q vs H'
def SP (X : Cx) (pins : List (Addr × Obj)) (D : Ends) (f : Flow) (s' : Shared) : Prop :=
  match f with
  | .next => ∃ σ' H', Inv X pins σ' H' s' ∧ D.nx σ' H'
  | .brk => ∃ σ' H', Inv X pins σ' H' s' ∧ D.bk σ' H'
  | .cont => ∃ σ' H', Inv X pins σ' H' s' ∧ D.ct σ' H'
  | .ret u => ∃ v σ' H', Inv X pins σ' H' s' ∧ RelV v u ∧ D.rt v H'
def PE (X : Cx) (e : Expr) (t : TE) : Prop :=
  ∀ (pins : List (Addr × Obj)) (s : Shared) (σ : St) (H : Hp) (Q : VK), Inv X pins σ H s → t σ H Q → wpAny (model X.prog X.w) X.A (eval e X.env) (EP X pins σ Q) X.xe s
def PT (X : Cx) (e : Expr) (t : TT) : Prop :=
  ∀ (pins : List (Addr × Obj)) (s : Shared) (σ : St) (H : Hp) (Q : Bool → Hp → Prop), Inv X pins σ H s → t σ H Q → wpAny (model X.prog X.w) X.A (isTrue e X.env (eval e X.env)) (TP X pins σ Q) X.xe s
def PW (X : Cx) (e : Expr) (t : TT) : Prop :=
  ∀ (whole : Sem Value) (pins : List (Addr × Obj)) (s : Shared) (σ : St) (H : Hp) (Q : Bool → Hp → Prop), Inv X pins σ H s → t σ H Q → wpAny (model X.prog X.w) X.A (isTrue e X.env whole) (TP X pins σ Q) X.xe s
theorem PW.pt {X : Cx} {e : Expr} {t : TT} (h : PW X e t) : PT X e t := h _
def PA (X : Cx) (es : List Expr) (t : TA) : Prop :=
  ∀ (pos : Pos) (pins : List (Addr × Obj)) (s : Shared) (σ : St) (H : Hp) (Q : List V → Hp → Prop), Inv X pins σ H s → t σ H Q → wpAny (model X.prog X.w) X.A (spliced (backTo pos (starEach es X.env))) (AP X pins σ Q) X.xe s
def PS (X : Cx) (st : Stmt) (t : TS) : Prop :=
  ∀ (pins : List (Addr × Obj)) (s : Shared) (σ : St) (H : Hp) (D : Ends), Inv X pins σ H s → t D σ H → wpAny (model X.prog X.w) X.A (exec st X.env) (SP X pins D) X.xe s
def PSs (X : Cx) (st : List Stmt) (t : TS) : Prop :=
  ∀ (pins : List (Addr × Obj)) (s : Shared) (σ : St) (H : Hp) (D : Ends), Inv X pins σ H s → t D σ H → wpAny (model X.prog X.w) X.A (execs st X.env) (SP X pins D) X.xe s
theorem thn {α : Type} {t : Sem α} {Q Q' : α → Shared → Prop} {M : Model} {A : Around} {E : Value → Shared → Prop} {s : Shared} (h : wpAny M A t Q E s) (hQ : ∀ a s, Q a s → Q' a s) : wpAny M A t Q' E s := wpAny_mono h hQ fun _ _ x => x
end L2
namespace L2
open PySem PySem.Spec PyProof.Rows
section
variable {X : Cx}
theorem bin {a b : Expr} {ta tb : TE} (ha : PE X a ta) (hb : PE X b tb) {pins : List (Addr × Obj)} {s : Shared} {σ : St} {H : Hp} {R : V → V → Hp → Prop} (I : Inv X pins σ H s) (h : ta σ H fun x H1 => tb σ H1 fun y H2 => R x y H2)
    {α : Type} {Q : α → Shared → Prop} {f : Value → Value → Sem α}
    (hf : ∀ v u s2 x y H2, Inv X pins σ H2 s2 → RelV x v → RelV y u → R x y H2 → wpAny (model X.prog X.w) X.A (f v u) Q X.xe s2) :
    wpAny (model X.prog X.w) X.A (eval a X.env) (fun v s₁ => wpAny (model X.prog X.w) X.A (eval b X.env) (fun u s₂ => wpAny (model X.prog X.w) X.A (f v u) Q X.xe s₂) X.xe s₁) X.xe s := by
  refine thn (ha pins s σ H _ I h) fun v s1 ⟨x, H1, I1, r1, q1⟩ => ?_
  refine thn (hb pins s1 σ H1 _ I1 q1) fun u s2 ⟨y, H2, I2, r2, q2⟩ => ?_
  exact hf v u s2 x y H2 I2 r1 r2 q2
def tVar (i : Nat) : TE := fun σ H Q => ∃ v, σ[i]? = some (some v) ∧ Q v H
def tC (v : V) : TE := fun _ H Q => Q v H
theorem pe_var {i : Nat} {x : Str} {pos : Pos} (hN : X.N[i]? = some x) (hv : Vis X.env.scope x) (hd : (x == ("__debug__" : Str)) = false := by decide) (hcd : (x == ("__classdict__" : Str)) = false := by decide) : PE X (.Name x pos) (tVar i) := by
  intro pins s σ H Q I h
  obtain ⟨v, e, h⟩ := h
  obtain ⟨m, hn, hl⟩ := I.loc
  obtain ⟨u, r, l⟩ := hl i x v hN e hv
  have fin : EP X pins σ Q u s := ⟨v, H, I, r, h⟩
  rcases l with ⟨hk, hm⟩ | ⟨hk, c, hc, hcell⟩
  · exact wpAny_Name (wpAny_loadName_local I.ok.kind hk hn hm fin) hd
  · rcases hk with hk | hk
    · exact wpAny_Name (wpAny_loadName_cell I.ok.kind hk hc hcell fin) hd
    · exact wpAny_Name (wpAny_loadName_free I.ok.kind hk hc hcell fin hcd) hd
theorem pe_int {i j pos} : PE X (.Constant (.int i) j pos) (tC (.int i)) := fun _ _ _ H _ I h => wpAny_Constant_int ⟨.int i, H, I.tok _, ⟨_, rfl⟩, h⟩
theorem pe_bl {b j pos} : PE X (.Constant (.bool b) j pos) (tC (.bl b)) := fun _ _ _ H _ I h => Constant_bool ⟨.bl b, H, I, rfl, h⟩
theorem pe_non {j pos} : PE X (.Constant .none j pos) (tC .non) := fun _ _ _ H _ I h => Constant_none ⟨.non, H, I, rfl, h⟩
theorem pe_str {x j pos} : PE X (.Constant (.str x) j pos) (tC (.str x)) := fun _ _ _ H _ I h => Calls.Constant_str ⟨.str x, H, I.tok _, ⟨_, rfl⟩, h⟩
def Gl (X : Cx) (x : Str) : Prop := X.env.kindOf x = some .globalImplicit
theorem ld_glob {E : Value → Shared → Prop} {pins : List (Addr × Obj)} {s : Shared} {σ : St} {H : Hp} {x : Str} {u : Value} {pos : Pos} {Q : Value → Shared → Prop} (I : Inv X pins σ H s) (hg : Gl X x) (hm : X.mg x = some u) (h : Q u s)
    (hd : (x == ("__debug__" : Str)) = false := by decide) : wpAny (model X.prog X.w) X.A (eval (.Name x pos) X.env) Q E s :=
  Calls.Name_function_global I.ok.kind hg (Calls.loadGlobal_global (by rw [I.ok.glob]; exact I.mod.glob.keeps I.bk) hm h) hd
theorem ld_blt {E : Value → Shared → Prop} {pins : List (Addr × Obj)} {s : Shared} {σ : St} {H : Hp} {x : Str} {u : Value} {pos : Pos} {Q : Value → Shared → Prop} (I : Inv X pins σ H s) (hg : Gl X x) (hm : X.mg x = none) (hv : bootBuiltins x = some u) (h : Q u s)
    (hn : x ≠ "__name__" := by decide) (hd : (x == ("__debug__" : Str)) = false := by decide) : wpAny (model X.prog X.w) X.A (eval (.Name x pos) X.env) Q E s := by
  obtain ⟨mb, h1, h2⟩ := I.mod.blt
  exact Calls.Name_function_global I.ok.kind hg (Calls.loadGlobal_builtin (by rw [I.ok.glob]; exact I.mod.glob.keeps I.bk) hm (by rw [I.ok.blt]; exact h1.keeps I.bk) ((h2 x hn).trans hv) h) hd
theorem pe_bltn {x : Str} {v : V} {u : Value} {pos : Pos} (hg : Gl X x) (hm : X.mg x = none) (hv : bootBuiltins x = some u) (r : RelV v u) (hn : x ≠ "__name__" := by decide) (hd : (x == ("__debug__" : Str)) = false := by decide) : PE X (.Name x pos) (tC v) :=
  fun _ _ _ H _ I h => ld_blt I hg hm hv ⟨v, H, I, r, h⟩ hn hd
variable {a b : Expr} {ta tb : TE} {pos : Pos}
def PC (X : Cx) (op : CmpOp) (a b : Expr) (t : TE) : Prop :=
  ∀ (pins : List (Addr × Obj)) (s : Shared) (σ : St) (H : Hp) (Q : VK), Inv X pins σ H s → t σ H Q →
    wpAny (model X.prog X.w) X.A (eval a X.env) (fun v s₁ => wpAny (model X.prog X.w) X.A (eval b X.env) (fun u s₂ => wpAny (model X.prog X.w) X.A (compareOp op v u) (EP X pins σ Q) X.xe s₂) X.xe s₁) X.xe s
def tB (t : TE) : TT := fun σ H Q => t σ H fun x H1 => ∃ c, x = .bl c ∧ Q c H1
theorem pt_cmp {op : CmpOp} {t : TE} (h : PC X op a b t) (h1 : behindInMarks op b = false := by first | exact nobehind _ (by decide) (by decide) | rfl) : PT X (.Compare a [op] [b] pos) (tB t) := by
  intro pins s σ H Q I hw
  refine wpAny_isTrue_Compare1 (thn (h pins s σ H _ I hw) fun v s1 h1 => thn h1 fun u s2 h2 => thn h2 fun c s3 ⟨x, H1, I1, r1, q1⟩ => ?_) h1
  obtain ⟨d, rfl, q⟩ := q1
  cases r1
  exact wpAny_truthy_bool ⟨H1, I1, q⟩
variable {tA tB' : TT} {rest : List Expr}
def tAnd (t u : TT) : TT := fun σ H Q => t σ H fun c H1 => if c = true then u σ H1 Q else Q false H1
def tOr (t u : TT) : TT := fun σ H Q => t σ H fun c H1 => if c = true then Q true H1 else u σ H1 Q
def tNot (t : TT) : TT := fun σ H Q => t σ H fun c H1 => Q (!c) H1
theorem pw_and1 (ha : PT X a tA) : PW X (.BoolOp .And [a] pos) tA := by
  intro wh pins s σ H Q I h
  refine isTrue_and (thn (ha pins s σ H Q I h) fun c s1 e => ?_)
  cases c with
  | true => exact isTrue_and_nil e
  | false => exact e
theorem pw_or1 (ha : PT X a tA) : PW X (.BoolOp .Or [a] pos) tA := by
  intro wh pins s σ H Q I h
  refine isTrue_or (thn (ha pins s σ H Q I h) fun c s1 e => ?_)
  cases c with
  | false => exact isTrue_or_nil e
  | true => exact e
theorem pw_and (ha : PT X a tA) (hb : PW X (.BoolOp .And (b :: rest) pos) tB') : PW X (.BoolOp .And (a :: b :: rest) pos) (tAnd tA tB') := by
  intro wh pins s σ H Q I h
  refine isTrue_and (thn (ha pins s σ H _ I h) fun c s1 ⟨H1, I1, q1⟩ => ?_)
  cases c with
  | true => exact hb wh pins s1 σ H1 Q I1 q1
  | false => exact ⟨H1, I1, q1⟩
theorem pw_or (ha : PT X a tA) (hb : PW X (.BoolOp .Or (b :: rest) pos) tB') : PW X (.BoolOp .Or (a :: b :: rest) pos) (tOr tA tB') := by
  intro wh pins s σ H Q I h
  refine isTrue_or (thn (ha pins s σ H _ I h) fun c s1 ⟨H1, I1, q1⟩ => ?_)
  cases c with
  | true => exact ⟨H1, I1, q1⟩
  | false => exact hb wh pins s1 σ H1 Q I1 q1
theorem pt_not (ha : PT X a tA) : PT X (.UnaryOp .Not a pos) (tNot tA) := by
  intro pins s σ H Q I h
  exact isTrue_not (ha pins s σ H (fun c H1 => Q (!c) H1) I h)
def tAndV (ta tb : TE) : TE := fun σ H Q => ta σ H fun x H1 => ∃ c, x = .bl c ∧ if c = true then tb σ H1 Q else Q (.bl false) H1
def tNotV (ta : TE) : TE := fun σ H Q => ta σ H fun x H1 => ∃ c, x = .bl c ∧ Q (.bl (!c)) H1
theorem pe_one {op} {t : TE} (h : PE X a t) : PE X (.BoolOp op [a] pos) t := fun pins s σ H Q I hw => BoolOp_one (h pins s σ H Q I hw)
theorem pe_and (ha : PE X a ta) (hb : PE X (.BoolOp .And (b :: rest) pos) tb) : PE X (.BoolOp .And (a :: b :: rest) pos) (tAndV ta tb) := by
  intro pins s σ H Q I h
  refine BoolOp_and (thn (ha pins s σ H _ I h) fun v s1 ⟨x, H1, I1, r1, q1⟩ => ?_)
  obtain ⟨c, rfl, q1⟩ := q1
  cases r1
  refine wpAny_truthy_bool ?_
  cases c with
  | true => exact hb pins s1 σ H1 Q I1 q1
  | false => exact ⟨.bl false, H1, I1, rfl, q1⟩
theorem pe_not (ha : PE X a ta) : PE X (.UnaryOp .Not a pos) (tNotV ta) := by
  intro pins s σ H Q I h
  refine UnaryOp_ (thn (ha pins s σ H _ I h) fun v s1 ⟨x, H1, I1, r1, q1⟩ => ?_)
  obtain ⟨c, rfl, q1⟩ := q1
  cases r1
  exact not_of (wpAny_truthy_bool ⟨.bl (!c), H1, I1, rfl, q1⟩)
end
end L2
namespace L2
open PySem PySem.Spec PyProof.Rows
def SqL (K : PySem.W.Frag) (H : Hp) (a : Addr) (xs : List V) : Prop :=
  Rd H a (.lst xs) ∨
    ∃ (o : Obj) (its : Array Value) (n : Nat), K.lookup a = some o ∧ o.cls = .type "list" ∧ o.dict = none ∧ o.data = .seq its n ∧ its.size ≤ sizeLine ∧ Vals xs its.toList
def SqT (K : PySem.W.Frag) (H : Hp) (a : Addr) (xs : List V) : Prop :=
  Rd H a (.tup xs) ∨
    ∃ (o : Obj) (its : Array Value) (n : Nat), K.lookup a = some o ∧ o.cls = .type "tuple" ∧ o.data = .seq its n ∧ its.size ≤ sizeLine ∧ Vals xs its.toList
def absV : Value → Option V
  | .none => some .non
  | .bool b => some (.bl b)
  | .int i _ => some (.int i)
  | .str x _ => some (.str x)
  | .bytes b _ => some (.byt b)
  | .float b _ => some (.flt b)
  | .ref a => some (.ref a)
  | .type n => some (.ty n)
  | _ => none
theorem RelV.abs {x : V} {u : Value} (r : RelV x u) : absV u = some x := by
  cases x with
  | non => cases r; rfl
  | bl _ => cases r; rfl
  | int _ => obtain ⟨t, rfl⟩ := r; rfl
  | str _ => obtain ⟨t, rfl⟩ := r; rfl
  | byt _ => obtain ⟨t, rfl⟩ := r; rfl
  | flt _ => obtain ⟨t, rfl⟩ := r; rfl
  | ref _ => cases r; rfl
  | ty _ => cases r; rfl
theorem RelV.inj {x y : V} {u : Value} (r : RelV x u) (q : RelV y u) : x = y := Option.some.inj (r.abs.symm.trans q.abs)
theorem Vals.inj : ∀ {xs ys : List V} {us : List Value}, Vals xs us → Vals ys us → xs = ys
  | _, _, _, .nil, .nil => rfl
  | _, _, _, .cons r t, .cons r' t' => by rw [r.inj r', Vals.inj t t']
section
variable {X : Cx} {pins : List (Addr × Obj)} {σ : St} {H : Hp} {s : Shared} {a : Addr} {xs ys : List V}
theorem SqL.of {K : PySem.W.Frag} (h : H a = some (.lst xs)) : SqL K H a xs := .inl (.inl h)
theorem SqT.of {K : PySem.W.Frag} (h : H a = some (.tup xs)) : SqT K H a xs := .inl (.inl h)
theorem Inv.list (I : Inv X pins σ H s) (h : SqL X.K H a xs) : ∃ its : List Value, Vals xs its ∧ PlainL s.heap a its.toArray ∧ xs.length ≤ sizeLine := by
  rcases h with h | ⟨o, its, n, hk, hc, hd, hs, hz, r⟩
  · obtain ⟨z, its, n, r, e⟩ := h.ok I.hok
    exact ⟨its, r, ⟨_, n, e, rfl, rfl, rfl⟩, z⟩
  · refine ⟨its.toList, r, ⟨o, n, I.kIn a o hk, hc, hd, by simpa using hs⟩, ?_⟩
    have e := r.length
    simp only [Array.length_toList] at e
    omega
theorem Inv.tuple (I : Inv X pins σ H s) (h : SqT X.K H a xs) : ∃ its : List Value, Vals xs its ∧ IsTup s.heap a its.toArray ∧ xs.length ≤ sizeLine := by
  rcases h with h | ⟨o, its, n, hk, hc, hs, hz, r⟩
  · obtain ⟨z, its, r, p⟩ := h.ok I.hok
    exact ⟨its, r, p, z⟩
  · refine ⟨its.toList, r, ⟨o, I.kIn a o hk, hc, n, by simpa using hs⟩, ?_⟩
    have e := r.length
    simp only [Array.length_toList] at e
    omega
theorem Inv.list_inj (I : Inv X pins σ H s) (h : SqL X.K H a xs) (h' : SqL X.K H a ys) : xs = ys := by
  obtain ⟨its, r, ⟨o, n, e, _, _, d⟩, _⟩ := I.list h
  obtain ⟨its', r', ⟨o', n', e', _, _, d'⟩, _⟩ := I.list h'
  rw [e] at e'; cases e'
  rw [d] at d'
  injection d' with d1 _
  have : its = its' := by simpa using congrArg Array.toList d1
  subst this
  exact r.inj r'
theorem Inv.tuple_inj (I : Inv X pins σ H s) (h : SqT X.K H a xs) (h' : SqT X.K H a ys) : xs = ys := by
  obtain ⟨its, r, ⟨o, e, _, n, d⟩, _⟩ := I.tuple h
  obtain ⟨its', r', ⟨o', e', _, n', d'⟩, _⟩ := I.tuple h'
  rw [e] at e'; cases e'
  rw [d] at d'
  injection d' with d1 _
  have : its = its' := by simpa using congrArg Array.toList d1
  subst this
  exact r.inj r'
end
abbrev Cx.wish (X : Cx) (E : Value → Shared → Prop) : Cx := { X with xe := E }
abbrev Cx.nox (X : Cx) : Cx := X.wish fun _ _ => False
theorem Cx.Ok.wish {X : Cx} (ok : X.Ok) (E : Value → Shared → Prop) : (X.wish E).Ok :=
  ⟨ok.mod, ok.kind, ok.glob, ok.blt, ok.above, ok.inj, ok.has, ok.cab, ok.hd, ok.frames, ok.stk, ok.exf, ok.bs, ok.bsz, ok.noex, ok.exfs, ok.funs, ok.frf⟩
theorem Cx.Ok.unwish {X : Cx} {E : Value → Shared → Prop} (ok : (X.wish E).Ok) : X.Ok :=
  ⟨ok.mod, ok.kind, ok.glob, ok.blt, ok.above, ok.inj, ok.has, ok.cab, ok.hd, ok.frames, ok.stk, ok.exf, ok.bs, ok.bsz, ok.noex, ok.exfs, ok.funs, ok.frf⟩
section
variable {X : Cx} {pins : List (Addr × Obj)} {σ : St} {H : Hp} {s : Shared} {E : Value → Shared → Prop}
theorem Inv.wish (I : Inv X pins σ H s) (E : Value → Shared → Prop) : Inv (X.wish E) pins σ H s := ⟨I.ok.wish E, I.os, I.bare, I.base, I.loc, I.cell, I.free, I.freeC, I.pin, I.hok, I.len⟩
theorem Inv.unwish (I : Inv (X.wish E) pins σ H s) : Inv X pins σ H s := ⟨I.ok.unwish, I.os, I.bare, I.base, I.loc, I.cell, I.free, I.freeC, I.pin, I.hok, I.len⟩
theorem SP.unwish {D : Ends} {f : Flow} {s' : Shared} (h : SP (X.wish E) pins D f s') : SP X pins D f s' := by
  cases f with
  | next => obtain ⟨σ', H', I, q⟩ := h; exact ⟨σ', H', I.unwish, q⟩
  | brk => obtain ⟨σ', H', I, q⟩ := h; exact ⟨σ', H', I.unwish, q⟩
  | cont => obtain ⟨σ', H', I, q⟩ := h; exact ⟨σ', H', I.unwish, q⟩
  | ret u => obtain ⟨v, σ', H', I, r, q⟩ := h; exact ⟨v, σ', H', I.unwish, r, q⟩
theorem PSs.nox {st : List Stmt} {t : TS} (h : PSs X.nox st t) : PSs X st t := fun pins s σ H D I hw =>
  wpAny_mono (h pins s σ H D (I.wish _) hw) (fun _ _ q => q.unwish) fun _ _ z => False.elim z
end
section
variable {X : Cx} {st : Stmt} {rest : List Stmt} {t u : TS} {e : Expr} {te : TE} {pos : Pos}
def tNext : TS := fun D σ H => D.nx σ H
def tSeq (t u : TS) : TS := fun D σ H => t { D with nx := u D } σ H
theorem pss_nil : PSs X [] tNext := fun _ _ σ H _ I h => wpAny_execs_nil ⟨σ, H, I, h⟩
theorem pss_cons (h1 : PS X st t) (h2 : PSs X rest u) : PSs X (st :: rest) (tSeq t u) := by
  intro pins s σ H D I h
  refine wpAny_execs_cons (thn (h1 pins s σ H { D with nx := u D } I h) fun f s1 q => ?_)
  cases f with
  | next =>
    obtain ⟨σ', H', I', q⟩ := q
    exact h2 pins s1 σ' H' D I' q
  | ret v => exact q
  | brk => exact q
  | cont => exact q
theorem pss_one (h1 : PS X st t) : PSs X [st] t := by
  intro pins s σ H D I h
  refine wpAny_execs_cons (thn (h1 pins s σ H D I h) fun f s1 q => ?_)
  cases f with
  | next => exact wpAny_execs_nil q
  | ret v => exact q
  | brk => exact q
  | cont => exact q
theorem ps_pass : PS X (.Pass pos) tNext := fun _ _ σ H _ I h => wpAny_Pass ⟨σ, H, I, h⟩
theorem Inv.quiet {pins : List (Addr × Obj)} {σ : St} {H : Hp} {s : Shared} (I : Inv X pins σ H s) : interactive X.env = false := by simp [interactive, I.ok.kind]
def tDrop (te : TE) : TS := fun D σ H => te σ H fun _ H1 => D.nx σ H1
theorem ps_expr (he : PE X e te) (hs : swapsWith e none pos.line X.env = pure false := by rfl) : PS X (.Expr e pos) (tDrop te) := by
  intro pins s σ H D I h
  exact wpAny_Expr_any (thn (he pins s σ H _ I h) fun v s1 ⟨x, H1, I1, r1, q1⟩ => ⟨σ, H1, I1, q1⟩) I.quiet hs
def tRet (te : TE) : TS := fun D σ H => te σ H D.rt
theorem ps_ret (he : PE X e te) : PS X (.Return (some e) pos) (tRet te) := by
  intro pins s σ H D I h
  exact wpAny_Return_some (thn (he pins s σ H _ I h) fun v s1 ⟨x, H1, I1, r1, q1⟩ => ⟨x, σ, H1, I1, r1, q1⟩)
def tIfS (c : TT) (t u : TS) : TS := fun D σ H => c σ H fun b H1 => if b = true then t D σ H1 else u D σ H1
theorem ps_if {c : Expr} {a b : List Stmt} {tc : TT} (hc : PT X c tc) (ha : PSs X a t) (hb : PSs X b u) : PS X (.If c a b pos) (tIfS tc t u) := by
  intro pins s σ H D I h
  refine wpAny_If (thn (hc pins s σ H _ I h) fun d s1 ⟨H1, I1, q1⟩ => ?_)
  cases d with
  | true => exact ha pins s1 σ H1 D I1 q1
  | false => exact hb pins s1 σ H1 D I1 q1
end
abbrev TG := V → St → Hp → (St → Hp → Prop) → Prop
def PG (X : Cx) (target : Expr) (t : TG) : Prop :=
  ∀ (pins : List (Addr × Obj)) (s : Shared) (σ : St) (H : Hp) (v : V) (u : Value) (Q : St → Hp → Prop), Inv X pins σ H s → RelV v u → t v σ H Q →
    wpAny (model X.prog X.w) X.A (assign target X.env u) (fun _ s' => ∃ σ' H', Inv X pins σ' H' s' ∧ Q σ' H') X.xe s
section
variable {X : Cx} {pos : Pos}
def gName (i : Nat) : TG := fun v σ H Q => Q (σ.set i (some v)) H
theorem pg_name {i : Nat} {x : Str} (hN : X.N.Nodup) (hi : X.N[i]? = some x) (hx : Loc X.env.scope x) (hf : X.fn x = true ∨ X.env.scope.names.lookup x = some .local := by first | exact .inl rfl | exact .inr rfl | assumption) : PG X (.Name x pos) (gName i) := by
  intro pins s σ H v u Q I r h
  exact wpAny_assign_Name (store_ok I hN hi hx r (fun s' I' => ⟨_, H, I', h⟩) hf)
def tAsg (te : TE) (g : TG) : TS := fun D σ H => te σ H fun x H1 => g x σ H1 D.nx
theorem ps_set {i : Nat} {x : Str} {e : Expr} {te : TE} {pos' : Pos} (hN : X.N.Nodup) (hi : X.N[i]? = some x) (hx : Loc X.env.scope x) (he : PE X e te) (hs : swapsWith e (some (.Name x pos')) pos.line X.env = pure false := by rfl) (hf : X.fn x = true ∨ X.env.scope.names.lookup x = some .local := by first | exact .inl rfl | exact .inr rfl | assumption) :
    PS X (.Assign [.Name x pos'] e pos) (tAsg te (gName i)) := by
  intro pins s σ H D I h
  refine wpAny_Assign_Name (thn (he pins s σ H _ I h) fun v s1 ⟨y, H1, I1, r1, q1⟩ => ?_) hs
  exact store_ok I1 hN hi hx r1 (fun s2 I2 => ⟨_, H1, I2, q1⟩) hf
end
structure It where
  go : Nat → Hp → Prop
  yld : Nat → Hp → V → Hp → Prop
  stop : Nat → Hp → Prop
def FpOk (X : Cx) (pins : List (Addr × Obj)) (H : Hp) (b : Addr) : Prop :=
  H b = none ∧ b ≠ X.env.locals ∧ b ∉ X.fs ∧ (b ∈ X.ex ∨ X.s₀.heap.objs.size ≤ b) ∧ (∀ x c, X.env.cells.lookup x = some c → c ≠ b) ∧ ∀ p ∈ X.pn ++ pins, p.1 ≠ b
theorem Inv.fpOk {X : Cx} {pins : List (Addr × Obj)} {σ : St} {H H' : Hp} {s : Shared} {b : Addr} (I : Inv X pins σ H s) (hb : s.heap.objs.size ≤ b) (hn : H' b = none) : FpOk X pins H' b := by
  refine ⟨hn, Nat.ne_of_gt (Nat.lt_of_lt_of_le I.lt hb), I.nofs hb, .inr (Nat.le_trans I.sz hb), fun x c e z => ?_, fun p hp z => ?_⟩
  · obtain ⟨v, q⟩ := I.cell x c e
    exact absurd (Nat.lt_of_lt_of_le q.lt (by rw [z]; exact hb)) (Nat.lt_irrefl _)
  · exact absurd (Nat.lt_of_lt_of_le (Heap.lt_size (I.pin p hp).1) (by rw [z]; exact hb)) (Nat.lt_irrefl _)
structure Turn (P : Program) (w : World) (K : PySem.W.Frag) (tg : Expr) (J : It) (fp : List Addr) (it : Addr) (tn : Nat → Heap → Prop) : Prop where
  mem : it ∈ fp
  obj : ∀ i h, tn i h → ∀ b ∈ fp, ∃ o, h.get? b = some o ∧ ∀ v, o.data ≠ .cell v
  keep : ∀ i h h', tn i h → (∀ b ∈ fp, ∀ o, h.get? b = some o → h'.get? b = some o) → tn i h'
  item : ∀ (X : Cx), X.prog = P → X.w = w → X.K = K → X.calm = true → ∀ (i : Nat) (pins : List (Addr × Obj)) (s : Shared) (σ : St) (H : Hp) (E : Value → Shared → Prop), Inv X pins σ H s → (∀ b ∈ fp, FpOk X pins H b) → tn i s.heap → J.go i H →
    wpAny (model P w) X.A (pyNext (.ref it)) (fun r s1 => ∃ u, r = some u ∧
      wpAny (model P w) X.A (letOwnedTupleGo tg (.ref it) u) (fun _ s2 => ∃ x H', Inv X pins σ H' s2 ∧ RelV x u ∧ J.yld i H x H' ∧ tn (i + 1) s2.heap ∧ ∀ b ∈ fp, H' b = none) E s1) E s
  done : ∀ (X : Cx), X.prog = P → X.w = w → X.K = K → X.calm = true → ∀ (i : Nat) (pins : List (Addr × Obj)) (s : Shared) (σ : St) (H : Hp) (E : Value → Shared → Prop), Inv X pins σ H s → (∀ b ∈ fp, FpOk X pins H b) → tn i s.heap → J.stop i H →
    wpAny (model P w) X.A (pyNext (.ref it)) (fun r s1 => r = none ∧ Inv X pins σ H s1) E s
  self : ∀ (A : Around) (i : Nat) (s : Shared) (Q : Value → Shared → Prop) (E : Value → Shared → Prop), tn i s.heap → Q (.ref it) s → wpAny (model P w) A (pyIter (.ref it)) Q E s
abbrev TI := St → Hp → (It → Hp → Prop) → Prop
def PIE (X : Cx) (pins : List (Addr × Obj)) (σ : St) (tg : Expr) (R : It → Hp → Prop) (itv : Value) (s2 : Shared) : Prop :=
  ∃ (it : Addr) (fp : List Addr) (tn : Nat → Heap → Prop) (J : It) (H' : Hp), itv = .ref it ∧ Inv X pins σ H' s2 ∧ Turn X.prog X.w X.K tg J fp it tn ∧ tn 0 s2.heap ∧ (∀ b ∈ fp, FpOk X pins H' b) ∧ R J H'
def PI (X : Cx) (tg iter : Expr) (wi : TI) : Prop :=
  ∀ (pins : List (Addr × Obj)) (s : Shared) (σ : St) (H : Hp) (R : It → Hp → Prop), Inv X pins σ H s → wi σ H R →
    wpAny (model X.prog X.w) X.A (eval iter X.env) (fun v s1 => wpAny (model X.prog X.w) X.A (pyIter v) (PIE X pins σ tg R) X.xe s1) X.xe s
theorem go_of {M : Model} {A : Around} {E : Value → Shared → Prop} {s : Shared} {tg : Expr} {it : Addr} {u : Value} {o : Obj} {n : String} {vs : Array Value} {Q : Unit → Shared → Prop} (ho : s.heap.get? it = some o) (hc : o.cls = .type n) (hd : o.data = .fields vs)
    (hn : ["enumerate", "zip", "dict_itemiterator", "dict_reverseitemiterator", "odict_iterator", "itertools.zip_longest", "itertools.pairwise"].contains n = false) (hQ : Q () s) : wpAny M A (letOwnedTupleGo tg (.ref it) u) Q E s := by
  unfold letOwnedTupleGo
  cases tg <;> first
    | exact wpAny_pure hQ
    | (cases u <;> first
        | exact wpAny_pure hQ
        | (refine wpAny_bind (wpAny_load ho ?_)
           rw [hc, hd]
           show wpAny M A (if (["enumerate", "zip", "dict_itemiterator", "dict_reverseitemiterator", "odict_iterator", "itertools.zip_longest", "itertools.pairwise"].contains n && vs[0]? == some (rawInt _)) = true then _ else _) Q E s
           rw [if_neg (by intro h; rw [hn, Bool.false_and] at h; cases h)]
           exact wpAny_pure hQ))
def Itl (K : PySem.W.Frag) (a : Addr) : It :=
  ⟨fun i H => ∃ xs x, SqL K H a xs ∧ xs[i]? = some x, fun i H x H' => H' = H ∧ ∀ xs, SqL K H a xs → xs[i]? = some x, fun i H => ∃ xs, SqL K H a xs ∧ xs.length ≤ i⟩
def Itt (K : PySem.W.Frag) (a : Addr) : It :=
  ⟨fun i H => ∃ xs x, SqT K H a xs ∧ xs[i]? = some x, fun i H x H' => H' = H ∧ ∀ xs, SqT K H a xs → xs[i]? = some x, fun i H => ∃ xs, SqT K H a xs ∧ xs.length ≤ i⟩
def Itr (lo : Int) (n : Nat) : It := ⟨fun i _ => i < n, fun i H x H' => H' = H ∧ x = .int (lo + i), fun i _ => n ≤ i⟩
theorem turn_list {P : Program} {w : World} {K : PySem.W.Frag} {tg : Expr} (a it : Addr) : Turn P w K tg (Itl K a) [it] it (fun i h => h.IsListIter it a i) where
  mem := by simp
  obj := fun i h st b hb => by
    have e : b = it := by simpa using hb
    subst e
    obtain ⟨o, e, c, d⟩ := st
    exact ⟨o, e, fun v z => by rw [d] at z; cases z⟩
  keep := fun i h h' st k => st.at fun o e => k it (by simp) o e
  item := by
    intro X hP hw hK hc i pins s σ H E I hf st hg
    subst hP hw hK
    obtain ⟨xs, x, hq, hx⟩ := hg
    obtain ⟨its, rv, p, hz⟩ := I.list hq
    obtain ⟨u, hu, ru⟩ := rv.get hx
    obtain ⟨f0, f1, f2, f3, f4, f5⟩ := hf it (by simp)
    refine wpAny_pyNext_list_item st p.isList (x := u) (by simpa using hu) fun h' st' sb => ?_
    have I1 : Inv X pins σ H { s with heap := h' } := I.turned (t' := s.toks) (fun b o hb e => (sb.2 b hb).trans e) f0 f1 f3 f4 f5
    obtain ⟨o, e, c, d⟩ := id st'
    exact ⟨u, rfl, go_of (s := { s with heap := h' }) e c d (by decide) ⟨x, H, I1, ru, ⟨rfl, fun ys hy => by rw [I.list_inj hy hq]; exact hx⟩, st', fun b hb => (hf b hb).1⟩⟩
  done := by
    intro X hP hw hK hc i pins s σ H E I hf st hg
    subst hP hw hK
    obtain ⟨xs, hq, hx⟩ := hg
    obtain ⟨its, rv, p, hz⟩ := I.list hq
    obtain ⟨f0, f1, f2, f3, f4, f5⟩ := hf it (by simp)
    have hl := rv.length
    exact wpAny_pyNext_list_end (I.ok.hd hc) st p.isList (by simp; omega) fun h' eb => ⟨rfl, I.turned (t' := s.toks) (fun b o hb e => eb b o hb e) f0 f1 f3 f4 f5⟩
  self := fun _ _ _ _ _ st h => wpAny_pyIter_listiter st h
theorem turn_tuple {P : Program} {w : World} {K : PySem.W.Frag} {tg : Expr} (a it : Addr) : Turn P w K tg (Itt K a) [it] it (fun i h => h.IsTupleIter it a i) where
  mem := by simp
  obj := fun i h st b hb => by
    have e : b = it := by simpa using hb
    subst e
    obtain ⟨o, e, c, d⟩ := st
    exact ⟨o, e, fun v z => by rw [d] at z; cases z⟩
  keep := fun i h h' st k => st.at fun o e => k it (by simp) o e
  item := by
    intro X hP hw hK hc i pins s σ H E I hf st hg
    subst hP hw hK
    obtain ⟨xs, x, hq, hx⟩ := hg
    obtain ⟨its, rv, p, hz⟩ := I.tuple hq
    obtain ⟨u, hu, ru⟩ := rv.get hx
    obtain ⟨f0, f1, f2, f3, f4, f5⟩ := hf it (by simp)
    refine wpAny_pyNext_tuple_item st (show s.heap.IsTuple a its.toArray from p) (x := u) (by simpa using hu) fun h' st' sb => ?_
    have I1 : Inv X pins σ H { s with heap := h' } := I.turned (t' := s.toks) (fun b o hb e => (sb.2 b hb).trans e) f0 f1 f3 f4 f5
    obtain ⟨o, e, c, d⟩ := id st'
    exact ⟨u, rfl, go_of (s := { s with heap := h' }) e c d (by decide) ⟨x, H, I1, ru, ⟨rfl, fun ys hy => by rw [I.tuple_inj hy hq]; exact hx⟩, st', fun b hb => (hf b hb).1⟩⟩
  done := by
    intro X hP hw hK hc i pins s σ H E I hf st hg
    subst hP hw hK
    obtain ⟨xs, hq, hx⟩ := hg
    obtain ⟨its, rv, p, hz⟩ := I.tuple hq
    obtain ⟨f0, f1, f2, f3, f4, f5⟩ := hf it (by simp)
    have hl := rv.length
    exact wpAny_pyNext_tuple_end (I.ok.hd hc) st (show s.heap.IsTuple a its.toArray from p) (by simp; omega) fun h' eb => ⟨rfl, I.turned (t' := s.toks) (fun b o hb e => eb b o hb e) f0 f1 f3 f4 f5⟩
  self := fun _ _ _ _ _ st h => wpAny_pyIter_tupleiter st h
theorem turn_range {P : Program} {w : World} {K : PySem.W.Frag} {tg : Expr} (it : Addr) (lo : Int) (n : Nat) : Turn P w K tg (Itr lo n) [it] it (fun i h => IsRangeIter h it (lo + (i : Nat) * 1) ((n : Int) - (i : Nat)) 1) where
  mem := by simp
  obj := fun i h st b hb => by
    have e : b = it := by simpa using hb
    subst e
    exact ⟨_, st, fun v z => by
      have z' : Data.fields _ = Data.cell v := z
      cases z'⟩
  keep := fun i h h' st k => k it (by simp) _ st
  item := by
    intro X hP hw hK hc i pins s σ H E I hf st hg
    subst hP hw hK
    obtain ⟨f0, f1, f2, f3, f4, f5⟩ := hf it (by simp)
    have W := Walks.range (prog := X.prog) (w := X.w) (I.ok.hd hc) it lo 1 n
    refine W.item i s _ _ hg st fun v h' tk hv st' kk => ?_
    obtain ⟨t, rfl⟩ := hv
    have I1 : Inv X pins σ H { s with heap := h', toks := tk } := I.turned (fun b o hb e => kk b o (by simpa using hb) e) f0 f1 f3 f4 f5
    refine ⟨_, rfl, go_of (s := { s with heap := h', toks := tk }) (n := "range_iterator") st' rfl rfl (by decide) ⟨.int (lo + i), H, I1, ⟨t, ?_⟩, ⟨rfl, rfl⟩, st', fun b hb => (hf b hb).1⟩⟩
    rw [Int.mul_one]
  done := by
    intro X hP hw hK hc i pins s σ H E I hf st hg
    subst hP hw hK
    obtain ⟨f0, f1, f2, f3, f4, f5⟩ := hf it (by simp)
    exact wpAny_pyNext_range_end (I.ok.hd hc) st (by have : n ≤ i := hg; omega) fun h' eb => ⟨rfl, I.turned (t' := s.toks) (fun b o hb e => eb b o hb e) f0 f1 f3 f4 f5⟩
  self := fun _ _ _ _ _ st h => wpAny_pyIter_rangeiter st h
end L2
namespace L2
open PySem PySem.Spec PyProof.Rows
section
variable {X : Cx} {tg : Expr}
def iList (K : PySem.W.Frag) (tl : TE) : TI := fun σ H R => tl σ H fun x H1 => ∃ a, x = .ref a ∧ (∃ xs, SqL K H1 a xs) ∧ R (Itl K a) H1
def iTup (K : PySem.W.Frag) (tl : TE) : TI := fun σ H R => tl σ H fun x H1 => ∃ a, x = .ref a ∧ (∃ xs, SqT K H1 a xs) ∧ R (Itt K a) H1
theorem pi_list {l : Expr} {tl : TE} (hl : PE X l tl) : PI X tg l (iList X.K tl) := by
  intro pins s σ H R I h
  refine thn (hl pins s σ H _ I h) fun v s1 ⟨x, H1, I1, r1, q1⟩ => ?_
  obtain ⟨a, e, ⟨xs, hq⟩, q⟩ := q1
  subst e
  cases r1
  obtain ⟨its, rv, p, hz⟩ := I1.list hq
  refine wpAny_pyIter_list p.isList ?_
  refine ⟨s1.heap.objs.size, [s1.heap.objs.size], _, _, H1, rfl, I1.kept (t' := s1.toks) fun b o e => Heap.get?_push_of_some _ e, turn_list a _, ⟨_, Heap.get?_push_size _ rfl, rfl, rfl⟩, fun b hb => ?_, q⟩
  have e : b = s1.heap.objs.size := by simpa using hb
  subst e
  exact I1.fpOk (Nat.le_refl _) (I1.hok.fresh (Nat.le_refl _))
theorem pi_tup {l : Expr} {tl : TE} (hl : PE X l tl) : PI X tg l (iTup X.K tl) := by
  intro pins s σ H R I h
  refine thn (hl pins s σ H _ I h) fun v s1 ⟨x, H1, I1, r1, q1⟩ => ?_
  obtain ⟨a, e, ⟨xs, hq⟩, q⟩ := q1
  subst e
  cases r1
  obtain ⟨its, rv, p, hz⟩ := I1.tuple hq
  refine wpAny_pyIter_tuple (show s1.heap.IsTuple a its.toArray from p) ?_
  refine ⟨s1.heap.objs.size, [s1.heap.objs.size], _, _, H1, rfl, I1.kept (t' := s1.toks) fun b o e => Heap.get?_push_of_some _ e, turn_tuple a _, ⟨_, Heap.get?_push_size _ rfl, rfl, rfl⟩, fun b hb => ?_, q⟩
  have e : b = s1.heap.objs.size := by simpa using hb
  subst e
  exact I1.fpOk (Nat.le_refl _) (I1.hok.fresh (Nat.le_refl _))
theorem range_it {pins : List (Addr × Obj)} {σ : St} {H : Hp} {s : Shared} {R : It → Hp → Prop} {E : Value → Shared → Prop} {lo hi : Int} {t u v : Tok} {tk : Nat} (I : Inv X pins σ H s) (h1 : -(2 ^ 62) ≤ lo) (h2 : lo < 2 ^ 62) (h3 : -(2 ^ 62) ≤ hi) (h4 : hi < 2 ^ 62)
    (q : R (Itr lo (hi - lo).toNat) H) : wpAny (model X.prog X.w) X.A (pyIter (.ref s.heap.objs.size)) (PIE X pins σ tg R) E { s with heap := s.heap.push { cls := .type "range", data := .fields #[.int lo t, .int hi u, .int 1 v] }, toks := tk } := by
  refine wpAny_pyIter_range (IsRange.new ..) (small_one h1 h2 h3 h4) ?_
  have I1 : Inv X pins σ H { s with heap := s.heap.push { cls := .type "range", data := .fields #[.int lo t, .int hi u, .int 1 v] }, toks := tk } := I.kept fun b o e => Heap.get?_push_of_some _ e
  refine ⟨(s.heap.push { cls := .type "range", data := .fields #[.int lo t, .int hi u, .int 1 v] }).objs.size, [(s.heap.push { cls := .type "range", data := .fields #[.int lo t, .int hi u, .int 1 v] }).objs.size], _, _, H, rfl,
    I1.kept (t' := tk) fun b o e => Heap.get?_push_of_some _ e, turn_range _ lo (hi - lo).toNat, ?_, fun b hb => ?_, q⟩
  · have e1 : lo + ((0 : Nat) : Int) * 1 = lo := by simp
    have e2 : (((hi - lo).toNat : Nat) : Int) - ((0 : Nat) : Int) = Builtin.Range.rangeSize lo hi 1 := by rw [rangeSize_one]; split <;> omega
    show IsRangeIter _ _ (lo + ((0 : Nat) : Int) * 1) ((((hi - lo).toNat : Nat) : Int) - ((0 : Nat) : Int)) 1
    rw [e1, e2]
    exact Heap.get?_push_size _ rfl
  · have e : b = (s.heap.push { cls := .type "range", data := .fields #[.int lo t, .int hi u, .int 1 v] }).objs.size := by simpa using hb
    subst e
    exact I1.fpOk (Nat.le_refl _) (I1.hok.fresh (Nat.le_refl _))
def iRng1 (ta : TA) : TI := fun σ H R => ta σ H fun vs H1 => ∃ j : Int, vs = [.int j] ∧ -(2 ^ 62) ≤ j ∧ j < 2 ^ 62 ∧ R (Itr 0 j.toNat) H1
theorem pi_range1 {a : Expr} {ta : TA} {p pos : Pos} (hg : Gl X "range") (hm : X.mg "range" = none) (ha : PA X [a] ta) (hs : starEach [a] X.env = [(false, eval a X.env)] := by rfl) : PI X tg (.Call (.Name "range" p) [a] [] pos) (iRng1 ta) := by
  intro pins s σ H R I h
  refine Call_ (ld_blt I hg hm boot_range (PyProof.Rows.callWith_type1 (thn (ha pos pins s σ H _ I h) fun us s1 ⟨vs, H1, I1, r1, q1⟩ => ?_) hs rfl))
  obtain ⟨j, e, q1, q2, q⟩ := q1
  subst e
  cases r1 with
  | cons r rr =>
    cases rr
    obtain ⟨t, rfl⟩ := r
    exact call_range_1 (range_it I1 (by omega) (by omega) q1 q2 (by simpa using q))
def tFor (wi : TI) (g : TG) (tb : TS) : TS := fun D σ H => wi σ H fun J H1 => ∃ W : Nat → Nat → St → Hp → Prop, (∃ m, W 0 m σ H1) ∧ ∀ i m σ H, W i m σ H →
  (J.stop i H ∧ D.nx σ H) ∨ (J.go i H ∧ ∃ N : St → Hp → Prop, (∀ σ' H', N σ' H' → ∃ m', m' < m ∧ W (i + 1) m' σ' H') ∧ ∀ x H', J.yld i H x H' → g x σ H' fun σ2 H2 => tb { D with nx := N, ct := N, bk := D.nx } σ2 H2)
def pinsAt (fp : List Addr) (h : Heap) : List (Addr × Obj) := fp.filterMap fun b => (h.get? b).map fun o => (b, o)
theorem mem_pinsAt {fp : List Addr} {h : Heap} {b : Addr} {o : Obj} (hb : b ∈ fp) (e : h.get? b = some o) : (b, o) ∈ pinsAt fp h := List.mem_filterMap.mpr ⟨b, hb, by rw [e]; rfl⟩
theorem of_pinsAt {fp : List Addr} {h : Heap} {p : Addr × Obj} (hp : p ∈ pinsAt fp h) : p.1 ∈ fp ∧ h.get? p.1 = some p.2 := by
  obtain ⟨b, hb, e⟩ := List.mem_filterMap.mp hp
  cases q : h.get? b with
  | none => rw [q] at e; cases e
  | some o =>
    rw [q] at e
    have e' : (b, o) = p := Option.some.inj e
    subst e'
    exact ⟨hb, q⟩
theorem Inv.pinned {pins : List (Addr × Obj)} {σ : St} {H : Hp} {s : Shared} {fp : List Addr} (I : Inv X pins σ H s) (hf : ∀ b ∈ fp, FpOk X pins H b) (ho : ∀ b ∈ fp, ∃ o, s.heap.get? b = some o ∧ ∀ v, o.data ≠ .cell v) : Inv X (pins ++ pinsAt fp s.heap) σ H s :=
  I.pins_of fun p hp => (List.mem_append.mp hp).elim (fun z => I.pin p (List.mem_append_right _ z)) fun z => by
    obtain ⟨hb, e⟩ := of_pinsAt z
    obtain ⟨f0, f1, f2, _⟩ := hf p.1 hb
    obtain ⟨o, e', d⟩ := ho p.1 hb
    rw [e] at e'; cases e'
    exact ⟨e, f0, f1, f2, d⟩
theorem Inv.unpinned {pins pl : List (Addr × Obj)} {σ : St} {H : Hp} {s : Shared} (I : Inv X (pins ++ pl) σ H s) : Inv X pins σ H s := I.pins_of fun p hp => I.pin p (List.mem_append_right _ (List.mem_append_left _ hp))
theorem ps_for {iter : Expr} {body : List Stmt} {wi : TI} {g : TG} {tb : TS} {pos : Pos} (hp : PassesOwn (model X.prog X.w) X.A X.env X.xe) (hc : X.calm = true) (hi : PI X tg iter wi) (hg : PG X tg g) (hb : PSs X body tb)
    (hs : ∀ x, foldedSetIterable iter X.env x = pure x := by intro _; rfl) : PS X (.For tg iter body [] pos) (tFor wi g tb) := by
  intro pins s σ H D I h
  refine wpAny_For (thn (hi pins s σ H _ I h) fun v s1 h1 => thn h1 fun itv s2 h2 => ?_) hs
  obtain ⟨it, fp, tn, J, H2, e, I2, T, st2, f2, W, ⟨m0, w0⟩, turn⟩ := h2
  subst e
  have stat : ∀ {H' : Hp}, (∀ b ∈ fp, H' b = none) → ∀ b ∈ fp, FpOk X pins H' b := fun hn b hb => ⟨hn b hb, (f2 b hb).2⟩
  refine codeAny_forLoop_any (fun n s' => ∃ i σ' H', Inv X pins σ' H' s' ∧ tn i s'.heap ∧ (∀ b ∈ fp, H' b = none) ∧ W i n σ' H') ?_ m0 ⟨0, σ, H2, I2, st2, fun b hb => (f2 b hb).1, w0⟩
  rintro n s3 ⟨i, σ3, H3, I3, st3, fr3, w3⟩
  rcases turn i n σ3 H3 w3 with ⟨stop, qn⟩ | ⟨go, N, hN, step⟩
  · refine wpAny_passesOwn hp (thn (T.done X rfl rfl rfl hc i pins s3 σ3 H3 X.xe I3 (stat fr3) st3 stop) fun r s4 ⟨hr, I4⟩ => ?_)
    subst hr
    exact wpAny_execs_nil ⟨σ3, H3, I4, qn⟩
  · refine wpAny_passesOwn hp (thn (T.item X rfl rfl rfl hc i pins s3 σ3 H3 X.xe I3 (stat fr3) st3 go) fun r s4 ⟨u, hr, h4⟩ => ?_)
    subst hr
    refine wpAny_passesOwn hp (thn h4 fun _ s5 ⟨x, H5, I5, r5, y5, st5, fr5⟩ => ?_)
    have I5' := I5.pinned (stat fr5) (T.obj _ _ st5)
    refine wpAny_passesOwn hp (thn (hg _ s5 σ3 H5 x u _ I5' r5 (step x H5 y5)) fun _ s6 ⟨σ6, H6, I6, q6⟩ => ?_)
    refine wpAny_passesOwn hp (thn (hb _ s6 σ6 H6 _ I6 q6) fun f s7 q7 => ?_)
    have again : ∀ {σ7 : St} {H7 : Hp}, Inv X (pins ++ pinsAt fp s5.heap) σ7 H7 s7 → N σ7 H7 → ∃ m, m < n ∧ ∃ i σ' H', Inv X pins σ' H' s7 ∧ tn i s7.heap ∧ (∀ b ∈ fp, H' b = none) ∧ W i m σ' H' := fun {σ7 H7} I7 n7 => by
      obtain ⟨m', hm, w7⟩ := hN σ7 H7 n7
      refine ⟨m', hm, i + 1, σ7, H7, I7.unpinned, T.keep _ _ _ st5 fun b hb o e => (I7.pin (b, o) (List.mem_append_right _ (List.mem_append_right _ (mem_pinsAt hb e)))).1, fun b hb => ?_, w7⟩
      obtain ⟨o, e, d⟩ := T.obj _ _ st5 b hb
      exact (I7.pin (b, o) (List.mem_append_right _ (List.mem_append_right _ (mem_pinsAt hb e)))).2.1
    cases f with
    | next => obtain ⟨σ7, H7, I7, n7⟩ := q7; exact again I7 n7
    | cont => obtain ⟨σ7, H7, I7, n7⟩ := q7; exact again I7 n7
    | brk => obtain ⟨σ7, H7, I7, q7⟩ := q7; exact ⟨σ7, H7, I7.unpinned, q7⟩
    | ret v => obtain ⟨x7, σ7, H7, I7, r7, q7⟩ := q7; exact ⟨x7, σ7, H7, I7.unpinned, r7, q7⟩
end
theorem for_list {K : PySem.W.Frag} {a : Addr} {xs : List V} {g : TG} {tb : TS} {D : Ends} {σ : St} {H : Hp} (Pv : Nat → St → Hp → Prop) (h0 : Pv 0 σ H) (hl : ∀ i σ H, i ≤ xs.length → Pv i σ H → SqL K H a xs)
    (hs : ∀ i x σ H, xs[i]? = some x → Pv i σ H → g x σ H fun σ2 H2 => tb { D with nx := Pv (i + 1), ct := Pv (i + 1), bk := D.nx } σ2 H2) (hd : ∀ σ H, Pv xs.length σ H → D.nx σ H) :
    ∃ W : Nat → Nat → St → Hp → Prop, (∃ m, W 0 m σ H) ∧ ∀ i m σ H, W i m σ H →
      ((Itl K a).stop i H ∧ D.nx σ H) ∨ ((Itl K a).go i H ∧ ∃ N : St → Hp → Prop, (∀ σ' H', N σ' H' → ∃ m', m' < m ∧ W (i + 1) m' σ' H') ∧ ∀ x H', (Itl K a).yld i H x H' → g x σ H' fun σ2 H2 => tb { D with nx := N, ct := N, bk := D.nx } σ2 H2) := by
  refine ⟨fun i m σ H => m = xs.length - i ∧ i ≤ xs.length ∧ Pv i σ H, ⟨xs.length, by simp, Nat.zero_le _, h0⟩, ?_⟩
  rintro i m σ H ⟨rfl, hi, p⟩
  have q := hl i σ H hi p
  by_cases hlt : i < xs.length
  · refine .inr ⟨⟨xs, xs[i], q, by simp [hlt]⟩, Pv (i + 1), fun σ' H' p' => ⟨xs.length - (i + 1), by omega, rfl, hlt, p'⟩, fun x H' y => ?_⟩
    obtain ⟨e, y⟩ := y
    subst e
    exact hs i x σ _ (y xs q) p
  · have e : i = xs.length := by omega
    subst e
    exact .inl ⟨⟨xs, q, Nat.le_refl _⟩, hd σ H p⟩
theorem for_tup {K : PySem.W.Frag} {a : Addr} {xs : List V} {g : TG} {tb : TS} {D : Ends} {σ : St} {H : Hp} (Pv : Nat → St → Hp → Prop) (h0 : Pv 0 σ H) (hl : ∀ i σ H, i ≤ xs.length → Pv i σ H → SqT K H a xs)
    (hs : ∀ i x σ H, xs[i]? = some x → Pv i σ H → g x σ H fun σ2 H2 => tb { D with nx := Pv (i + 1), ct := Pv (i + 1), bk := D.nx } σ2 H2) (hd : ∀ σ H, Pv xs.length σ H → D.nx σ H) :
    ∃ W : Nat → Nat → St → Hp → Prop, (∃ m, W 0 m σ H) ∧ ∀ i m σ H, W i m σ H →
      ((Itt K a).stop i H ∧ D.nx σ H) ∨ ((Itt K a).go i H ∧ ∃ N : St → Hp → Prop, (∀ σ' H', N σ' H' → ∃ m', m' < m ∧ W (i + 1) m' σ' H') ∧ ∀ x H', (Itt K a).yld i H x H' → g x σ H' fun σ2 H2 => tb { D with nx := N, ct := N, bk := D.nx } σ2 H2) := by
  refine ⟨fun i m σ H => m = xs.length - i ∧ i ≤ xs.length ∧ Pv i σ H, ⟨xs.length, by simp, Nat.zero_le _, h0⟩, ?_⟩
  rintro i m σ H ⟨rfl, hi, p⟩
  have q := hl i σ H hi p
  by_cases hlt : i < xs.length
  · refine .inr ⟨⟨xs, xs[i], q, by simp [hlt]⟩, Pv (i + 1), fun σ' H' p' => ⟨xs.length - (i + 1), by omega, rfl, hlt, p'⟩, fun x H' y => ?_⟩
    obtain ⟨e, y⟩ := y
    subst e
    exact hs i x σ _ (y xs q) p
  · have e : i = xs.length := by omega
    subst e
    exact .inl ⟨⟨xs, q, Nat.le_refl _⟩, hd σ H p⟩
theorem for_range {lo : Int} {n : Nat} {g : TG} {tb : TS} {D : Ends} {σ : St} {H : Hp} (Pv : Nat → St → Hp → Prop) (h0 : Pv 0 σ H)
    (hs : ∀ i σ H, i < n → Pv i σ H → g (.int (lo + i)) σ H fun σ2 H2 => tb { D with nx := Pv (i + 1), ct := Pv (i + 1), bk := D.nx } σ2 H2) (hd : ∀ σ H, Pv n σ H → D.nx σ H) :
    ∃ W : Nat → Nat → St → Hp → Prop, (∃ m, W 0 m σ H) ∧ ∀ i m σ H, W i m σ H →
      ((Itr lo n).stop i H ∧ D.nx σ H) ∨ ((Itr lo n).go i H ∧ ∃ N : St → Hp → Prop, (∀ σ' H', N σ' H' → ∃ m', m' < m ∧ W (i + 1) m' σ' H') ∧ ∀ x H', (Itr lo n).yld i H x H' → g x σ H' fun σ2 H2 => tb { D with nx := N, ct := N, bk := D.nx } σ2 H2) := by
  refine ⟨fun i m σ H => m = n - i ∧ i ≤ n ∧ Pv i σ H, ⟨n, by simp, Nat.zero_le _, h0⟩, ?_⟩
  rintro i m σ H ⟨rfl, hi, p⟩
  by_cases hlt : i < n
  · refine .inr ⟨hlt, Pv (i + 1), fun σ' H' p' => ⟨n - (i + 1), by omega, rfl, hlt, p'⟩, fun x H' y => ?_⟩
    obtain ⟨e, y⟩ := y
    subst e y
    exact hs i σ _ hlt p
  · have e : i = n := by omega
    subst e
    exact .inl ⟨Nat.le_refl _, hd σ H p⟩
end L2
namespace L2
open PySem PySem.Spec PyProof.Rows
abbrev R2 := V → V → Hp → VK → Prop
def OpR (X : Cx) (f : Value → Value → Sem Value) (r : R2) : Prop :=
  ∀ (pins : List (Addr × Obj)) (s : Shared) (σ : St) (H : Hp) (x y : V) (v u : Value) (Q : VK), Inv X pins σ H s → RelV x v → RelV y u → r x y H Q →
    wpAny (model X.prog X.w) X.A (f v u) (EP X pins σ Q) X.xe s
def CallR (X : Cx) (f : Value) (r : List V → Hp → VK → Prop) : Prop :=
  ∀ (pins : List (Addr × Obj)) (s : Shared) (σ : St) (H : Hp) (xs : List V) (us : List Value) (Q : VK), Inv X pins σ H s → Vals xs us → r xs H Q →
    wpAny (model X.prog X.w) X.A (call f us) (EP X pins σ Q) X.xe s
def TruR (X : Cx) (r : V → Hp → (Bool → Hp → Prop) → Prop) : Prop :=
  ∀ (pins : List (Addr × Obj)) (s : Shared) (σ : St) (H : Hp) (x : V) (v : Value) (Q : Bool → Hp → Prop), Inv X pins σ H s → RelV x v → r x H Q →
    wpAny (model X.prog X.w) X.A (truthy v) (TP X pins σ Q) X.xe s
def tOp (r : R2) (ta tb : TE) : TE := fun σ H Q => ta σ H fun x H1 => tb σ H1 fun y H2 => r x y H2 Q
def rI (C : Int → Int → Prop) (g : Int → Int → V) : R2 := fun x y H Q => ∃ i j, x = .int i ∧ y = .int j ∧ C i j ∧ Q (g i j) H
def rI0 (g : Int → Int → V) : R2 := fun x y H Q => ∃ i j, x = .int i ∧ y = .int j ∧ Q (g i j) H
section
variable {X : Cx} {a b c : Expr} {ta tb tc : TE} {pos : Pos}
theorem binT (ha : PE X a ta) (hb : PE X b tb) {pins : List (Addr × Obj)} {s : Shared} {σ : St} {H : Hp} {R : V → V → Hp → Prop} (I : Inv X pins σ H s)
    (h : ta σ H fun x H1 => tb σ H1 fun y H2 => R x y H2) {Q : Value → Shared → Prop} {f : Value → Value → Sem Value}
    (hf : ∀ v u s2 x y H2, Inv X pins σ H2 s2 → RelV x v → RelV y u → R x y H2 → wpAny (model X.prog X.w) X.A (f v u) Q X.xe s2) :
    wpAny (model X.prog X.w) X.A (eval a X.env) (fun v s₁ => wpAny (model X.prog X.w) X.A (eval b X.env) (fun u s₂ => wpAny (model X.prog X.w) X.A (f v u) Q X.xe s₂) X.xe s₁) X.xe s := by
  refine thn (ha pins s σ H _ I h) fun v s1 ⟨x, H1, I1, r1, q1⟩ => ?_
  refine thn (hb pins s1 σ H1 _ I1 q1) fun u s2 ⟨y, H2, I2, r2, q2⟩ => ?_
  exact hf v u s2 x y H2 I2 r1 r2 q2
theorem pe_op {op : Operator} {r : R2} (ho : OpR X (binaryOp op) r) (ha : PE X a ta) (hb : PE X b tb) : PE X (.BinOp a op b pos) (tOp r ta tb) := by
  intro pins s σ H Q I h
  exact wpAny_BinOp (binT ha hb I h fun v u s2 x y H2 I2 rx ry q => ho pins s2 σ H2 x y v u Q I2 rx ry q)
theorem opI {f : Value → Value → Sem Value} {C : Int → Int → Prop} {g : Int → Int → Int}
    (rule : ∀ (i j : Int) (t u : Tok) (s : Shared) (Q : Value → Shared → Prop) (E : Value → Shared → Prop), C i j → Q (.int (g i j) s.toks) { s with toks := s.toks + 1 } → wpAny (model X.prog X.w) X.A (f (.int i t) (.int j u)) Q E s) :
    OpR X f (rI C fun i j => .int (g i j)) := by
  intro pins s σ H x y v u Q I rx ry h
  obtain ⟨i, j, rfl, rfl, hc, q⟩ := h
  obtain ⟨t, rfl⟩ := rx
  obtain ⟨t', rfl⟩ := ry
  exact rule i j t t' s _ _ hc ⟨.int (g i j), H, I.tok _, ⟨_, rfl⟩, q⟩
theorem opI0 {f : Value → Value → Sem Value} {g : Int → Int → Int}
    (rule : ∀ (i j : Int) (t u : Tok) (s : Shared) (Q : Value → Shared → Prop) (E : Value → Shared → Prop), Q (.int (g i j) s.toks) { s with toks := s.toks + 1 } → wpAny (model X.prog X.w) X.A (f (.int i t) (.int j u)) Q E s) :
    OpR X f (rI0 fun i j => .int (g i j)) := by
  intro pins s σ H x y v u Q I rx ry h
  obtain ⟨i, j, rfl, rfl, q⟩ := h
  obtain ⟨t, rfl⟩ := rx
  obtain ⟨t', rfl⟩ := ry
  exact rule i j t t' s _ _ ⟨.int (g i j), H, I.tok _, ⟨_, rfl⟩, q⟩
theorem opB0 {f : Value → Value → Sem Value} {g : Int → Int → Bool}
    (rule : ∀ (i j : Int) (t u : Tok) (s : Shared) (Q : Value → Shared → Prop) (E : Value → Shared → Prop), Q (.bool (g i j)) s → wpAny (model X.prog X.w) X.A (f (.int i t) (.int j u)) Q E s) :
    OpR X f (rI0 fun i j => .bl (g i j)) := by
  intro pins s σ H x y v u Q I rx ry h
  obtain ⟨i, j, rfl, rfl, q⟩ := h
  obtain ⟨t, rfl⟩ := rx
  obtain ⟨t', rfl⟩ := ry
  exact rule i j t t' s _ _ ⟨.bl (g i j), H, I, rfl, q⟩
def CDiv (i j : Int) : Prop := 0 < j ∧ j < 1073741824
def CMul (i j : Int) : Prop := (-(2 ^ 64) < i ∧ i < 2 ^ 64) ∨ (-(2 ^ 64) < j ∧ j < 2 ^ 64)
theorem CMul.ok {i j : Int} (h : CMul i j) : IntMulOk i j := by
  rcases h with ⟨h1, h2⟩ | ⟨h1, h2⟩
  · exact .of_left (intBits_le_64 h1 h2)
  · exact .of_right (intBits_le_64 h1 h2)
theorem op_add : OpR X (binaryOp .Add) (rI0 fun i j => .int (i + j)) := opI0 fun _ _ _ _ _ _ _ q => add_int q
theorem op_sub : OpR X (binaryOp .Sub) (rI0 fun i j => .int (i - j)) := opI0 fun _ _ _ _ _ _ _ q => sub_int q
theorem op_mul : OpR X (binaryOp .Mult) (rI CMul fun i j => .int (i * j)) := opI fun _ _ _ _ _ _ _ hc q => mul_int q hc.ok
theorem op_fdiv : OpR X (binaryOp .FloorDiv) (rI CDiv fun i j => .int (i / j)) := opI fun i j _ _ _ _ _ hc q => by
  have h1 : (0 : Int) < j := hc.1
  have h2 : j < 1073741824 := hc.2
  exact floordiv_int (by omega) (by rw [Int.fdiv_eq_ediv_of_nonneg i (by omega)]; exact q) (.inl (PyProof.noPylong_small (by omega)))
theorem op_mod : OpR X (binaryOp .Mod) (rI (fun _ j => 0 < j) fun i j => .int (i % j)) := opI fun i j _ _ _ _ _ hc q => by
  have h1 : (0 : Int) < j := hc
  exact mod_int' (by omega) (by rw [Int.fmod_eq_emod_of_nonneg i (by omega)]; exact q)
end
def scal : V → V → Bool
  | .non, .non => true | .non, .int _ => true | .int _, .non => true | .non, .bl _ => true | .bl _, .non => true | .non, .str _ => true | .str _, .non => true
  | .int _, .int _ => true | .bl _, .bl _ => true | .str _, .str _ => true | .byt _, .byt _ => true
  | .int _, .str _ => true | .str _, .int _ => true | .bl _, .str _ => true | .str _, .bl _ => true
  | _, _ => false
def rEq : R2 := fun x y H Q => scal x y = true ∧ Q (.bl (decide (x = y))) H
def rNe : R2 := fun x y H Q => scal x y = true ∧ Q (.bl (!decide (x = y))) H
theorem dec_int {i j : Int} : decide (V.int i = V.int j) = (i == j) := by
  rw [Bool.eq_iff_iff]
  simp
theorem dec_bl {i j : Bool} : decide (V.bl i = V.bl j) = (i == j) := by
  rw [Bool.eq_iff_iff]
  simp
theorem dec_str {i j : Str} : decide (V.str i = V.str j) = (i == j) := by
  rw [Bool.eq_iff_iff]
  simp
theorem dec_byt {i j : Array UInt8} : decide (V.byt i = V.byt j) = (i.toList == j.toList) := by
  rw [Bool.eq_iff_iff]
  cases i
  cases j
  simp
section
variable {X : Cx} {a b c : Expr} {ta tb tc : TE} {pos : Pos}
theorem fin_bl {pins : List (Addr × Obj)} {σ : St} {H : Hp} {s : Shared} {Q : VK} {k k' : Bool} (I : Inv X pins σ H s) (q : Q (.bl k) H) (e : k = k') : EP X pins σ Q (.bool k') s := by
  subst e
  exact ⟨.bl k, H, I, rfl, q⟩
theorem op_eq : OpR X (compareOp .Eq) rEq := by
  intro pins s σ H x y v u Q I rx ry h
  obtain ⟨hs, q⟩ := h
  cases x with
  | non =>
    cases rx
    cases y with
    | non => cases ry; exact PySem.EqNone.eq_none_none (fin_bl I q (by simp))
    | bl j => cases ry; exact PySem.EqNone.eq_none_bool (fin_bl I q (by simp))
    | int j => obtain ⟨t', rfl⟩ := ry; exact PySem.EqNone.eq_none_int (fin_bl I q (by simp))
    | str j => obtain ⟨t', rfl⟩ := ry; exact PySem.EqNone.eq_none_str (fin_bl I q (by simp))
    | _ => exact absurd (show false = true from hs) Bool.false_ne_true
  | bl i =>
    cases rx
    cases y with
    | non => cases ry; exact PySem.EqNone.eq_bool_none (fin_bl I q (by simp))
    | bl j => cases ry; exact eq_bool (fin_bl I q dec_bl)
    | str j => obtain ⟨t', rfl⟩ := ry; exact PySem.EqMixed.eq_bool_str (fin_bl I q (by simp))
    | _ => exact absurd (show false = true from hs) Bool.false_ne_true
  | int i =>
    obtain ⟨t, rfl⟩ := rx
    cases y with
    | non => cases ry; exact PySem.EqNone.eq_int_none (fin_bl I q (by simp))
    | int j => obtain ⟨t', rfl⟩ := ry; exact eq_int (fin_bl I q dec_int)
    | str j => obtain ⟨t', rfl⟩ := ry; exact PySem.EqMixed.eq_int_str (fin_bl I q (by simp))
    | _ => exact absurd (show false = true from hs) Bool.false_ne_true
  | str i =>
    obtain ⟨t, rfl⟩ := rx
    cases y with
    | non => cases ry; exact PySem.EqNone.eq_str_none (fin_bl I q (by simp))
    | bl j => cases ry; exact PySem.EqMixed.eq_str_bool (fin_bl I q (by simp))
    | int j => obtain ⟨t', rfl⟩ := ry; exact PySem.EqMixed.eq_str_int (fin_bl I q (by simp))
    | str j => obtain ⟨t', rfl⟩ := ry; exact eq_str (fin_bl I q dec_str)
    | _ => exact absurd (show false = true from hs) Bool.false_ne_true
  | byt i =>
    obtain ⟨t, rfl⟩ := rx
    cases y with
    | byt j => obtain ⟨t', rfl⟩ := ry; exact PySem.W.eq_bytes (fin_bl I q dec_byt)
    | _ => exact absurd (show false = true from hs) Bool.false_ne_true
  | _ => cases y <;> exact absurd (show false = true from hs) Bool.false_ne_true
theorem op_ne : OpR X (compareOp .NotEq) rNe := by
  intro pins s σ H x y v u Q I rx ry h
  obtain ⟨hs, q⟩ := h
  cases x with
  | non =>
    cases rx
    cases y with
    | non => cases ry; exact PySem.EqNone.ne_none_none (fin_bl I q (by simp))
    | bl j => cases ry; exact PySem.EqNone.ne_none_bool (fin_bl I q (by simp))
    | int j => obtain ⟨t', rfl⟩ := ry; exact PySem.EqNone.ne_none_int (fin_bl I q (by simp))
    | str j => obtain ⟨t', rfl⟩ := ry; exact PySem.EqNone.ne_none_str (fin_bl I q (by simp))
    | _ => exact absurd (show false = true from hs) Bool.false_ne_true
  | bl i =>
    cases rx
    cases y with
    | non => cases ry; exact PySem.EqNone.ne_bool_none (fin_bl I q (by simp))
    | bl j => cases ry; exact ne_bool (fin_bl I q (congrArg not dec_bl))
    | str j => obtain ⟨t', rfl⟩ := ry; exact PySem.EqMixed.ne_bool_str (fin_bl I q (by simp))
    | _ => exact absurd (show false = true from hs) Bool.false_ne_true
  | int i =>
    obtain ⟨t, rfl⟩ := rx
    cases y with
    | non => cases ry; exact PySem.EqNone.ne_int_none (fin_bl I q (by simp))
    | int j => obtain ⟨t', rfl⟩ := ry; exact ne_int (fin_bl I q (congrArg not dec_int))
    | str j => obtain ⟨t', rfl⟩ := ry; exact PySem.EqMixed.ne_int_str (fin_bl I q (by simp))
    | _ => exact absurd (show false = true from hs) Bool.false_ne_true
  | str i =>
    obtain ⟨t, rfl⟩ := rx
    cases y with
    | non => cases ry; exact PySem.EqNone.ne_str_none (fin_bl I q (by simp))
    | bl j => cases ry; exact PySem.EqMixed.ne_str_bool (fin_bl I q (by simp))
    | int j => obtain ⟨t', rfl⟩ := ry; exact PySem.EqMixed.ne_str_int (fin_bl I q (by simp))
    | str j => obtain ⟨t', rfl⟩ := ry; exact ne_str (fin_bl I q (congrArg not dec_str))
    | _ => exact absurd (show false = true from hs) Bool.false_ne_true
  | byt i =>
    obtain ⟨t, rfl⟩ := rx
    cases y with
    | byt j => obtain ⟨t', rfl⟩ := ry; exact PySem.W.ne_bytes (fin_bl I q (congrArg not dec_byt))
    | _ => exact absurd (show false = true from hs) Bool.false_ne_true
  | _ => cases y <;> exact absurd (show false = true from hs) Bool.false_ne_true
theorem op_lt : OpR X (compareOp .Lt) (rI0 fun i j => .bl (decide (i < j))) := opB0 fun _ _ _ _ _ _ _ q => lt_int q
theorem op_gt : OpR X (compareOp .Gt) (rI0 fun i j => .bl (decide (j < i))) := opB0 fun _ _ _ _ _ _ _ q => gt_int q
theorem op_isN : OpR X (compareOp .Is) (fun x y H Q => y = .non ∧ Q (.bl (decide (x = .non))) H) := by
  intro pins s σ H x y v u Q I rx ry h
  obtain ⟨rfl, q⟩ := h
  cases ry
  refine is_none_gen (fin_bl I q ?_)
  cases x <;> first
    | (cases rx; rfl)
    | (obtain ⟨t, rfl⟩ := rx; rfl)
theorem op_notN : OpR X (compareOp .IsNot) (fun x y H Q => y = .non ∧ Q (.bl (!decide (x = .non))) H) := by
  intro pins s σ H x y v u Q I rx ry h
  obtain ⟨rfl, q⟩ := h
  cases ry
  refine isnot_none_gen (fin_bl I q ?_)
  cases x <;> first
    | (cases rx; rfl)
    | (obtain ⟨t, rfl⟩ := rx; rfl)
theorem nomark (b : Expr) {op : CmpOp} (h : op ≠ .In := by decide) (h2 : op ≠ .NotIn := by decide) : behindInMarks op b = false := by
  have e1 : (op == CmpOp.In) = false := by cases op <;> first | rfl | exact absurd rfl h
  have e2 : (op == CmpOp.NotIn) = false := by cases op <;> first | rfl | exact absurd rfl h2
  cases b <;> simp [behindInMarks, e1, e2]
theorem pe_cmpR {op : CmpOp} {r : R2} (ho : OpR X (compareOp op) r) (ha : PE X a ta) (hb : PE X b tb) (hm : behindInMarks op b = false) : PE X (.Compare a [op] [b] pos) (tOp r ta tb) := by
  intro pins s σ H Q I h
  exact wpAny_Compare1 (binT ha hb I h fun v u s2 x y H2 I2 rx ry q => ho pins s2 σ H2 x y v u Q I2 rx ry q) hm
def tTest (t : TE) : TT := fun σ H Q => t σ H fun x H' => ∃ k, x = .bl k ∧ Q k H'
theorem pt_cmpR {op : CmpOp} {r : R2} (ho : OpR X (compareOp op) r) (ha : PE X a ta) (hb : PE X b tb) (hm : behindInMarks op b = false) : PT X (.Compare a [op] [b] pos) (tTest (tOp r ta tb)) := by
  intro pins s σ H Q I h
  refine wpAny_isTrue_Compare1 (thn (ha pins s σ H _ I h) fun v s1 ⟨x, H1, I1, r1, q1⟩ => thn (hb pins s1 σ H1 _ I1 q1) fun u s2 ⟨y, H2, I2, r2, q2⟩ =>
    thn (ho pins s2 σ H2 x y v u _ I2 r1 r2 q2) fun c s3 ⟨z, H3, I3, r3, k, e, q3⟩ => ?_) hm
  subst e
  cases r3
  exact wpAny_truthy_bool ⟨H3, I3, q3⟩
def TruV (K : PySem.W.Frag) (x : V) (H : Hp) (k : Bool) : Prop :=
  match x with
  | .non => k = false
  | .bl b => k = b
  | .int i => k = (i != 0)
  | .str y => y.length ≤ sizeLine ∧ k = ((y.length : Int) != 0)
  | .byt y => y.size ≤ sizeLine ∧ k = ((y.size : Int) != 0)
  | .ref p => (∃ xs, SqL K H p xs ∧ k = !xs.isEmpty) ∨ (∃ xs, SqT K H p xs ∧ k = !xs.isEmpty) ∨ ∃ kvs, H p = some (.dK kvs) ∧ k = !kvs.isEmpty
  | _ => False
theorem isEmpty_kv {κ : Type} {kvs : List (κ × V)} {vs : List (κ × Value)} (r : KV kvs vs) : (!vs.isEmpty) = !kvs.isEmpty := by
  cases r <;> rfl
theorem isEmpty_of {xs : List V} {its : List Value} (r : Vals xs its) : (!its.toArray.isEmpty) = !xs.isEmpty := by
  cases r <;> simp
theorem line63 : (sizeLine : Nat) < 2 ^ 63 := by rw [sizeLine_eq]; decide
theorem tru_ok : TruR X (fun x H Q => ∃ k, TruV X.K x H k ∧ Q k H) := by
  intro pins s σ H x v Q I rx h
  obtain ⟨k, e, q⟩ := h
  have hl := line63
  have hs : sizeLine = 16777216 := sizeLine_eq
  cases x with
  | non =>
    cases rx
    have e' : k = false := e
    subst e'
    exact truthy_none ⟨H, I, q⟩
  | bl b =>
    cases rx
    have e' : k = b := e
    subst e'
    exact wpAny_truthy_bool ⟨H, I, q⟩
  | int i =>
    obtain ⟨t, rfl⟩ := rx
    have e' : k = (i != 0) := e
    subst e'
    exact PySem.P.truthy_int ⟨H, I, q⟩
  | str y =>
    obtain ⟨t, rfl⟩ := rx
    obtain ⟨hy, e'⟩ : y.length ≤ sizeLine ∧ k = ((y.length : Int) != 0) := e
    subst e'
    exact PySem.P.truthy_str (by omega) ⟨H, I.tok _, q⟩
  | byt y =>
    obtain ⟨t, rfl⟩ := rx
    obtain ⟨hy, e'⟩ : y.size ≤ sizeLine ∧ k = ((y.size : Int) != 0) := e
    subst e'
    exact PySem.W.truthy_bytes (by omega) ⟨H, I.tok _, q⟩
  | ref p =>
    cases rx
    have e' : (∃ xs, SqL X.K H p xs ∧ k = !xs.isEmpty) ∨ (∃ xs, SqT X.K H p xs ∧ k = !xs.isEmpty) ∨ ∃ kvs, H p = some (.dK kvs) ∧ k = !kvs.isEmpty := e
    rcases e' with ⟨xs, hx, e'⟩ | ⟨xs, hx, e'⟩ | ⟨kvs, hx, e'⟩
    · subst e'
      obtain ⟨its, r, pl, hz⟩ := I.list hx
      have hlen := r.length
      exact wpAny_truthy_list pl.isList (by simp only [List.size_toArray]; omega) ⟨H, I.tok _, by rw [isEmpty_of r]; exact q⟩
    · subst e'
      obtain ⟨its, r, pl, hz⟩ := I.tuple hx
      have hlen := r.length
      exact truthy_tuple pl (by simp only [List.size_toArray]; omega) ⟨H, I.tok _, by rw [isEmpty_of r]; exact q⟩
    · subst e'
      obtain ⟨hz, hS, vs, r, m⟩ : kvs.length ≤ sizeLine ∧ (p == sysModules) = false ∧ ∃ vs, KV kvs vs ∧ s.heap.DictOf (mixKind X.prog X.w) p vs := I.hok p _ hx
      have hlen : kvs.length = vs.length := Paired.length r
      exact wpAny_truthy_dict hS m (by omega) ⟨H, I.tok _, by rw [isEmpty_kv r]; exact q⟩
  | _ => exact (show False from e).elim
theorem pt_truth (ha : PE X a ta) (he : ∀ whole, isTrue a X.env whole = (do let v ← whole; standAt a.pos; holding [v] (truthy v))) :
    PT X a (fun σ H Q => ta σ H fun x H' => ∃ k, TruV X.K x H' k ∧ Q k H') := by
  intro pins s σ H Q I h
  exact isTrue_plain (thn (ha pins s σ H _ I h) fun v s1 ⟨x, H1, I1, r1, q1⟩ => tru_ok pins s1 σ H1 x v Q I1 r1 q1) (he _)
theorem vals1 {x : V} {us : List Value} (r : Vals [x] us) : ∃ u, us = [u] ∧ RelV x u := by
  cases r with
  | cons r1 r2 => cases r2; exact ⟨_, rfl, r1⟩
theorem vals2 {x y : V} {us : List Value} (r : Vals [x, y] us) : ∃ u w', us = [u, w'] ∧ RelV x u ∧ RelV y w' := by
  cases r with
  | cons r1 r2 =>
    cases r2 with
    | cons r3 r4 => cases r4; exact ⟨_, _, rfl, r1, r3⟩
theorem call_abs : CallR X (.builtin "abs") (fun xs H Q => ∃ i, xs = [.int i] ∧ Q (.int (if i < 0 then -i else i)) H) := by
  intro pins s σ H xs us Q I r h
  obtain ⟨i, rfl, q⟩ := h
  obtain ⟨u, rfl, t, rfl⟩ := vals1 r
  exact call_abs_int fun u tk => ⟨.int (if i < 0 then -i else i), H, I.tok _, ⟨_, rfl⟩, q⟩
theorem call_min2 (hc : X.calm = true) : CallR X (.builtin "min") (fun xs H Q => ∃ i j, xs = [.int i, .int j] ∧ Q (.int (if j < i then j else i)) H) := by
  intro pins s σ H xs us Q I r h
  obtain ⟨i, j, rfl, q⟩ := h
  obtain ⟨u, w', rfl, ⟨t, rfl⟩, ⟨t', rfl⟩⟩ := vals2 r
  refine min_two_ints (I.ok.hd hc) fun h' tk k => ⟨_, H, I.kept k, ?_, q⟩
  by_cases hj : j < i
  · rw [if_pos hj, if_pos hj]; exact ⟨_, rfl⟩
  · rw [if_neg hj, if_neg hj]; exact ⟨_, rfl⟩
end
end L2
namespace L2
open PySem PySem.Spec PyProof.Rows
structure ObjM (h : Heap) (x dx C : Addr) (mA : Str → Option Value) : Prop where
  obj : h.get? x = some (PySem.W.instObj C dx)
  ns : h.Ns1 dx mA
  ne : dx ≠ x
theorem lookIn_ns {h : Heap} {dx : Addr} {mA : Str → Option Value} (n : h.Ns1 dx mA) : ∃ od, h.get? dx = some od ∧ ∀ name, PySem.W.lookIn name od = some (mA name) := by
  obtain ⟨o, es, ep, ho, hd, hk, _, hm⟩ := n
  refine ⟨o, ho, fun name => ?_⟩
  have e := hm name
  unfold nsFind findBy at e
  rw [← Array.find?_toList] at e
  unfold PySem.W.lookIn
  rw [hd]
  dsimp only
  split
  · rename_i y q
    rw [q] at e
    exact congrArg some e
  · rename_i q
    rw [q] at e
    have a : es.toList.any (·.refKey) = false := by
      rw [List.any_eq_false]
      intro y hy
      obtain ⟨z, t, hkey⟩ := hk y (Array.mem_toList_iff.mp hy)
      simp [DictEntry.refKey, hkey]
    have a' : ¬ es.toList.any (·.refKey) = true := by rw [a]; exact Bool.false_ne_true
    rw [if_neg a']
    exact congrArg some e
theorem ObjM.look {h : Heap} {x dx C : Addr} {mA : Str → Option Value} (I : ObjM h x dx C mA) : ∃ od, PySem.W.InstAt h x (PySem.W.instObj C dx) C (some od) ∧ ∀ name, PySem.W.lookIn name od = some (mA name) :=
  let ⟨od, ho, hl⟩ := lookIn_ns I.ns
  ⟨od, ⟨I.obj, rfl, rfl, ho⟩, hl⟩
section
variable {prog : Program} {w : World} {A : Around} {E : Value → Shared → Prop} {s : Shared} {K : PySem.W.Frag} {x dx C f : Addr} {mA : Str → Option Value} {name : Str} {v : Value}
theorem get_map {expr : Bool} {Q : Value → Shared → Prop} (X : K.In s.heap) (I : ObjM s.heap x dx C mA) (hg : PySem.W.plainGet K C name = true) (hh : PySem.W.hasDictIn K C = true)
    (ha : PySem.W.findIn K (.ref C) name = some none) (hv : mA name = some v) (hv' : PySem.W.handedIn v = true) (h : Q v { s with toks := s.toks + 1 }) :
    wpAny (model prog w) A (getAttr (.ref x) name expr) Q E s := by
  obtain ⟨od, J, hl⟩ := I.look
  exact PySem.W.get_value X J (PySem.W.plainGet_of hg).1 (PySem.W.findObj_own hh ha rfl (by rw [hl, hv])) hv' h
theorem get_meth {pl : Sem Bool} {Q : Value × List Value → Shared → Prop} (X : K.In s.heap) (I : ObjM s.heap x dx C mA) (hg : PySem.W.plainGet K C name = true)
    (hf : PySem.W.findIn K (.ref C) name = some (some (.ref f))) (ht : PySem.W.isFn K (.ref f) = true) (hv : mA name = none) (h : Q (.ref f, [.ref x]) s) :
    wpAny (model prog w) A (getMethod (.ref x) name pl) Q E s := by
  obtain ⟨od, J, hl⟩ := I.look
  exact PySem.W.method_fn X J (PySem.W.plainGet_of hg).1 (PySem.W.plainGet_of hg).2 hf (beq_iff_eq.mp ht) (by show (PySem.W.lookIn name od).map (·.isSome) = some false; rw [hl, hv]; rfl) h
theorem set_map {ns : List Str} {Q : Unit → Shared → Prop} (X : K.In s.heap) (I : ObjM s.heap x dx C mA)
    (hs : PySem.W.findIn K (.ref C) "__setattr__" = some (some (.builtin "object.__setattr__"))) (hp : PySem.W.plainOver K C = true) (ht : PySem.W.takerIn K C name = some none) (hh : PySem.W.hasDictIn K C = true)
    (hw : PySem.Within mA ns) (hsz : ns.length ≤ sizeLine)
    (h : ∀ h', ObjM h' x dx C (fun y => if y = name then some v else mA y) → Heap.SameBut dx s.heap h' → Q () { s with heap := h', toks := s.toks + 2 }) :
    wpAny (model prog w) A (setAttr (.ref x) name v) Q E s := by
  obtain ⟨od, J, hl⟩ := I.look
  refine PySem.W.set_plain X J hs (PySem.W.osa_open (s := { s with toks := s.toks + 1 }) (r := none) X J hp ht fun b => ?_)
  obtain ⟨cd, hc, hd'⟩ := PySem.W.any_some hh
  have hx : s.heap.get? x = some ⟨.ref C, some dx, .plain, #[]⟩ := I.obj
  refine wpAny_bind (wpAny_pure (wpAny_bind (wpAny_bind (wpAny_loadPart hx (wpAny_bind (PySem.W.Looks.here (s := { s with toks := s.toks + 1 }) (PySem.W.looks_clsIn X hc) ?_))))))
  rw [hd']
  refine wpAny_pure (a := some dx) (wpAny_bind (wpAny_pure (wpAny_bind ?_)))
  refine wpAny_nsSet1 (s := { s with toks := s.toks + 1 }) I.ns fun h' hn2 hs2 => ?_
  obtain ⟨oD, esD, epD, hoD, hdD, hcD⟩ := hn2.count (PySem.Within.cons name v hw)
  refine wpAny_bind (wpAny_lookBehind hoD (by rw [hdD]; exact pastItsLine_dict (Nat.le_trans hcD (by rw [List.length_cons]; omega))) ?_)
  exact wpAny_pure (h _ ⟨(hs2.2 _ (Ne.symm I.ne)).trans I.obj, hn2, I.ne⟩ hs2)
theorem make_map {R : Result → Shared → Prop} {vs : List Value} {kw : List (Str × Value)} (X : K.In s.heap) (hm : PySem.W.makesIn K C = true)
    (hi : PySem.W.findIn K (.ref C) "__init__" = some (some (.ref f))) (hf : PySem.W.typeIn K (.ref f) = some (.type "function"))
    (h : codeAny (model prog w) (A.under (.builtin "type.__call__" ⟨.ref C :: vs, kw⟩)) (.call (.ref f) ⟨.ref (s.heap.objs.size + 1) :: vs, kw⟩) (PySem.W.InitBack (s.heap.objs.size + 1) R)
      { s with heap := (s.heap.push PySem.W.emptyDict).push (PySem.W.instObj C s.heap.objs.size) }) :
    codeAny (model prog w) A (.call (.ref C) ⟨vs, kw⟩) R s := by
  obtain ⟨hh, g, d, t, os⟩ := s
  exact PySem.W.make_core (PySem.W.makes_of X hm) (PySem.W.looks_findIn X hi) (fun self => PySem.W.bind_fn X self hf) (.inl rfl) h
end
def putF (f : Str) (v : V) : List (Str × V) → List (Str × V)
  | [] => [(f, v)]
  | (g, x) :: r => if g = f then (g, v) :: r else (g, x) :: putF f v r
theorem lookup_putF (f g : Str) (v : V) : ∀ fs : List (Str × V), (putF f v fs).lookup g = if g = f then some v else fs.lookup g
  | [] => by
    show List.lookup g [(f, v)] = _
    by_cases h : g = f
    · have hb : (g == f) = true := beq_iff_eq.mpr h
      simp only [List.lookup, hb, if_pos h]
    · have hb : (g == f) = false := beq_eq_false_iff_ne.mpr h
      simp only [List.lookup, hb, if_neg h]
  | (k, x) :: r => by
    have ih := lookup_putF f g v r
    rw [show putF f v ((k, x) :: r) = (if k = f then (k, v) :: r else (k, x) :: putF f v r) from rfl]
    by_cases hk : k = f
    · rw [if_pos hk]
      by_cases h : g = k
      · have hb : (g == k) = true := beq_iff_eq.mpr h
        simp only [List.lookup, hb, if_pos (h.trans hk)]
      · have hb : (g == k) = false := beq_eq_false_iff_ne.mpr h
        simp only [List.lookup, hb, if_neg (fun e : g = f => h (e.trans hk.symm))]
    · rw [if_neg hk]
      by_cases h : g = k
      · have hb : (g == k) = true := beq_iff_eq.mpr h
        simp only [List.lookup, hb, if_neg (fun e : g = f => hk (h.symm.trans e))]
      · have hb : (g == k) = false := beq_eq_false_iff_ne.mpr h
        simp only [List.lookup, hb]
        exact ih
theorem keys_putF (f : Str) (v : V) : ∀ fs : List (Str × V), f ∈ (putF f v fs).map (·.1) ∧ ∀ g, g ∈ fs.map (·.1) → g ∈ (putF f v fs).map (·.1)
  | [] => ⟨by simp [putF], fun g h => by simp at h⟩
  | (k, x) :: r => by
    obtain ⟨i1, i2⟩ := keys_putF f v r
    rw [show putF f v ((k, x) :: r) = (if k = f then (k, v) :: r else (k, x) :: putF f v r) from rfl]
    by_cases hk : k = f
    · rw [if_pos hk]
      subst hk
      exact ⟨by simp, fun g h => by simpa using h⟩
    · rw [if_neg hk]
      refine ⟨?_, fun g h => ?_⟩
      · rw [List.map_cons]
        exact List.mem_cons_of_mem _ i1
      · rw [List.map_cons] at h ⊢
        rcases List.mem_cons.mp h with e | e
        · exact List.mem_cons.mpr (.inl e)
        · exact List.mem_cons_of_mem _ (i2 g e)
theorem length_putF (f : Str) (v : V) : ∀ fs : List (Str × V), (putF f v fs).length ≤ fs.length + 1
  | [] => by simp [putF]
  | (k, x) :: r => by
    have ih := length_putF f v r
    rw [show putF f v ((k, x) :: r) = (if k = f then (k, v) :: r else (k, x) :: putF f v r) from rfl]
    by_cases hk : k = f
    · rw [if_pos hk, List.length_cons, List.length_cons]; omega
    · rw [if_neg hk, List.length_cons, List.length_cons]; omega
theorem RelO.some_of {v : V} {o : Option Value} (r : RelO (some v) o) : ∃ u, o = some u ∧ RelV v u := by
  cases o with
  | none => exact (show False from r).elim
  | some u => exact ⟨u, rfl, r⟩
theorem RelO.none_of {o : Option Value} (r : RelO none o) : o = none := by
  cases o with
  | none => rfl
  | some u => exact (show False from r).elim
theorem handed_of {v : V} {u : Value} (r : RelV v u) : PySem.W.handedIn u = true := by
  cases v with
  | non => cases (show u = Value.none from r); rfl
  | bl b => cases (show u = Value.bool b from r); rfl
  | int i => obtain ⟨t, e⟩ := (show ∃ t, u = Value.int i t from r); cases e; rfl
  | str x => obtain ⟨t, e⟩ := (show ∃ t, u = Value.str x t from r); cases e; rfl
  | byt b => obtain ⟨t, e⟩ := (show ∃ t, u = Value.bytes b t from r); cases e; rfl
  | flt b => obtain ⟨t, e⟩ := (show ∃ t, u = Value.float b t from r); cases e; rfl
  | ref a => cases (show u = Value.ref a from r); rfl
  | ty n => cases (show u = Value.type n from r); rfl
section
variable {P : Program} {w : World} {H H' : Hp} {h h' : Heap} {a C dx : Addr} {fs fs' : List (Str × V)}
theorem ins_get (hok : HOk P w H h) (e : H a = some (.ins C dx fs)) : ∃ mA, ObjM h a dx C mA ∧ (∀ f, RelO (fs.lookup f) (mA f)) ∧ PySem.Within mA (fs.map (·.1)) ∧ fs.length ≤ 1000 ∧ H dx = some (.own a) := by
  obtain ⟨d, z, ne, ob, mA, n, r, q⟩ := (show ObjOk P w H h a (.ins C dx fs) from hok a _ e)
  exact ⟨mA, ⟨ob, n, ne⟩, r, q, z, d⟩
end
structure Cls (K : PySem.W.Frag) (C : Addr) : Prop where
  pg : PySem.W.plainGet K C Str.empty = true
  hd : PySem.W.hasDictIn K C = true
  po : PySem.W.plainOver K C = true
  sa : PySem.W.findIn K (.ref C) "__setattr__" = some (some (.builtin "object.__setattr__"))
theorem Cls.get {K : PySem.W.Frag} {C : Addr} (c : Cls K C) (f : Str) : PySem.W.plainGet K C f = true := c.pg
def NoAttr (K : PySem.W.Frag) (C : Addr) (f : Str) : Prop := PySem.W.findIn K (.ref C) f = some none
theorem NoAttr.taker {K : PySem.W.Frag} {C : Addr} {f : Str} (n : NoAttr K C f) : PySem.W.takerIn K C f = some none := by
  unfold PySem.W.takerIn
  rw [show PySem.W.findIn K (.ref C) f = some none from n]
  rfl
structure Meth (K : PySem.W.Frag) (C : Addr) (m : Str) (f : Addr) : Prop where
  at_ : PySem.W.findIn K (.ref C) m = some (some (.ref f))
  fn : PySem.W.isFn K (.ref f) = true
  kp : PySem.W.keepIn K (.ref f) = true
section
variable {X : Cx} {pins : List (Addr × Obj)} {σ : St} {H : Hp} {s : Shared} {a C dx : Addr} {fs : List (Str × V)} {f : Str} {v : V} {A : Around} {E : Value → Shared → Prop}
theorem getattr_ok {b : Bool} {Q : Value → Shared → Prop} (I : Inv X pins σ H s) (e : H a = some (.ins C dx fs)) (c : Cls X.K C) (n : NoAttr X.K C f) (l : fs.lookup f = some v)
    (h : ∀ u s', Inv X pins σ H s' → RelV v u → Q u s') : wpAny (model X.prog X.w) A (getAttr (.ref a) f b) Q E s := by
  obtain ⟨mA, O, r, _, _, _⟩ := ins_get I.hok e
  obtain ⟨u, hu, ru⟩ := RelO.some_of (v := v) (o := mA f) (by rw [← l]; exact r f)
  exact get_map I.kIn O (c.get f) c.hd n hu (handed_of ru) (h u _ (I.tok _) ru)
theorem getmeth_ok {m : Str} {g : Addr} {pl : Sem Bool} {Q : Value × List Value → Shared → Prop} (I : Inv X pins σ H s) (e : H a = some (.ins C dx fs)) (c : Cls X.K C) (k : Meth X.K C m g) (l : fs.lookup m = none)
    (h : Q (.ref g, [.ref a]) s) : wpAny (model X.prog X.w) A (getMethod (.ref a) m pl) Q E s := by
  obtain ⟨mA, O, r, _, _, _⟩ := ins_get I.hok e
  have hn : mA m = none := RelO.none_of (by rw [← l]; exact r m)
  exact get_meth I.kIn O (c.get m) k.at_ k.fn hn h
theorem setattr_ok {y : V} {u : Value} {Q : Unit → Shared → Prop} (I : Inv X pins σ H s) (e : H a = some (.ins C dx fs)) (c : Cls X.K C) (n : NoAttr X.K C f) (hl : fs.length < 1000) (ry : RelV y u)
    (h : ∀ s', Inv X pins σ (upd H a (.ins C dx (putF f y fs))) s' → Q () s') : wpAny (model X.prog X.w) A (setAttr (.ref a) f u) Q E s := by
  obtain ⟨mA, O, r, wi, _, ho⟩ := ins_get I.hok e
  have hz : (fs.map (·.1)).length ≤ sizeLine := by rw [List.length_map, sizeLine_eq]; omega
  refine set_map I.kIn O c.sa c.po n.taker c.hd wi hz fun h' O' sb => h _ ?_
  have hd : ∃ o, h'.get? dx = some o := let ⟨o, _, _, e', _⟩ := O'.ns; ⟨o, e'⟩
  refine I.write (x := a) (e := dx) (by rw [e]; exact True.intro) (.inr ho) (fun b q hb z => (sb.2 b hb).trans z) hd ?_
  refine ⟨by rw [upd_ne O.ne]; exact ho, ?_, O.ne, O'.obj, _, O'.ns, fun g => ?_, fun g hg => ?_⟩
  · have := length_putF f y fs; omega
  · show RelO ((putF f y fs).lookup g) (if g = f then some u else mA g)
    rw [lookup_putF]
    by_cases q : g = f
    · rw [if_pos q, if_pos q]; exact ry
    · rw [if_neg q, if_neg q]; exact r g
  · by_cases q : g = f
    · rw [q]; exact (keys_putF f y fs).1
    · refine (keys_putF f y fs).2 g (wi g fun z => hg ?_)
      show (if g = f then some u else mA g) = none
      rw [if_neg q]; exact z
theorem Inv.made (I : Inv X pins σ H s) : Inv X pins σ (upd (upd H s.heap.objs.size (.own (s.heap.objs.size + 1))) (s.heap.objs.size + 1) (.ins C s.heap.objs.size []))
    { s with heap := (s.heap.push PySem.W.emptyDict).push (PySem.W.instObj C s.heap.objs.size) } := by
  have e1 : (s.heap.push PySem.W.emptyDict).get? s.heap.objs.size = some PySem.W.emptyDict := Heap.get?_push_size s.heap rfl
  have e2 : ((s.heap.push PySem.W.emptyDict).push (PySem.W.instObj C s.heap.objs.size)).get? (s.heap.objs.size + 1) = some (PySem.W.instObj C s.heap.objs.size) := by
    have := Heap.get?_push_size (s.heap.push PySem.W.emptyDict) (o := PySem.W.instObj C s.heap.objs.size) rfl
    rwa [Heap.size_push] at this
  have e3 : (s.heap.push PySem.W.emptyDict).Ns s.heap.objs.size (fun _ => none) := ⟨PySem.W.emptyDict, #[], _, e1, rfl, (fun e he => absurd he (by simp)), fun _ => rfl⟩
  have I1 := I.laid (a := s.heap.objs.size) (o := .own (s.heap.objs.size + 1)) (h' := s.heap.push PySem.W.emptyDict) (t' := s.toks) (fun b u q => Heap.get?_push_of_some _ q) (Nat.le_refl _) ⟨_, e1⟩
  refine I1.laid (a := s.heap.objs.size + 1) (o := .ins C s.heap.objs.size []) (t' := s.toks) (fun b u q => Heap.get?_push_of_some _ q) (Nat.le_of_eq (Heap.size_push _ _)) ?_
  have ne : s.heap.objs.size ≠ s.heap.objs.size + 1 := Nat.ne_of_lt (Nat.lt_succ_self _)
  refine ⟨by rw [upd_ne ne, upd_same], Nat.zero_le _, ne, e2, fun _ => none, (Heap.Ns1.of_empty e3).at fun o q => Heap.get?_push_of_some _ q, fun _ => True.intro, fun y hy => absurd rfl hy⟩
theorem attr_of {prog : Program} {w : World} {env : Env} {e : Expr} {f : Str} {pos : Pos} {s : Shared} {Q : Value → Shared → Prop} (hb : attributeBase e f env (eval e env) = eval e env)
    (h : wpAny (model prog w) A (eval e env) (fun o s₁ => wpAny (model prog w) A (getAttr o f true) Q E s₁) E s) : wpAny (model prog w) A (eval (.Attribute e f pos) env) Q E s :=
  Attribute_any_ h (by rw [arm_eval_Attribute, hb])
end
def tFld (K : PySem.W.Frag) (ta : TE) (f : Str) : TE := fun σ H Q => ta σ H fun x H1 => ∃ a C dx fs v, x = .ref a ∧ H1 a = some (.ins C dx fs) ∧ Cls K C ∧ NoAttr K C f ∧ fs.lookup f = some v ∧ Q v H1
def sFld (K : PySem.W.Frag) (ta tv : TE) (f : Str) : TS := fun D σ H => tv σ H fun y H1 => ta σ H1 fun x H2 => ∃ a C dx fs, x = .ref a ∧ H2 a = some (.ins C dx fs) ∧ Cls K C ∧ NoAttr K C f ∧ fs.length < 1000 ∧
  D.nx σ (upd H2 a (.ins C dx (putF f y fs)))
def InOp (X : Cx) (op : Operator) (rd : V → V → Hp → VK → Prop) : Prop :=
  ∀ (pins : List (Addr × Obj)) (s : Shared) (σ : St) (H : Hp) (x y : V) (u v : Value) (Q : VK), Inv X pins σ H s → RelV x u → RelV y v → rd x y H Q → wpAny (model X.prog X.w) X.A (inplaceOp op u v) (EP X pins σ Q) X.xe s
section
variable {X : Cx} {o e value : Expr} {f : Str} {pos pos' tpos : Pos} {ta tv : TE}
theorem pe_fld (he : PE X e ta) (hb : attributeBase e f X.env (eval e X.env) = eval e X.env) : PE X (.Attribute e f pos) (tFld X.K ta f) := by
  intro pins s σ H Q I h
  refine attr_of hb (thn (he pins s σ H _ I h) fun u s1 ⟨x, H1, I1, rx, a, C, dx, fs, v, ex, ea, c, n, l, q⟩ => ?_)
  subst ex
  obtain rfl : u = Value.ref a := rx
  exact getattr_ok I1 ea c n l fun u' s2 I2 ru => ⟨v, H1, I2, ru, q⟩
theorem ps_fld (ha : PE X o ta) (hv : PE X value tv) (hs : swapsWith value (some (.Attribute o f pos')) pos.line X.env = pure false) : PS X (.Assign [.Attribute o f pos'] value pos) (sFld X.K ta tv f) := by
  intro pins s σ H D I h
  refine plainObj_wpAny_Assign_Attribute (thn (hv pins s σ H _ I h) fun u s1 ⟨y, H1, I1, ry, q⟩ => thn (ha pins s1 σ H1 _ I1 q) fun ov s2 ⟨x, H2, I2, rx, a, C, dx, fs, ex, ea, c, n, l, q2⟩ => ?_) hs
  subst ex
  obtain rfl : ov = Value.ref a := rx
  exact setattr_ok I2 ea c n l ry fun s3 I3 => ⟨σ, _, I3, q2⟩
def rAdd : V → V → Hp → VK → Prop := fun x y H Q => ∃ i j, x = .int i ∧ y = .int j ∧ Q (.int (i + j)) H
theorem in_add : InOp X .Add rAdd := by
  rintro pins s σ H x y u v Q I rx ry ⟨i, j, rfl, rfl, q⟩
  obtain ⟨t, rfl⟩ := (show ∃ t, u = Value.int i t from rx)
  obtain ⟨t', rfl⟩ := (show ∃ t', v = Value.int j t' from ry)
  exact PyProof.Rows.iadd_int ⟨.int (i + j), H, I.tok _, ⟨_, rfl⟩, q⟩
theorem methcall_of {pl : Sem Bool} {m : Str} {apos : Pos} {args : List Expr} {pins : List (Addr × Obj)} {s : Shared} {σ : St} {H : Hp} {Q : Value → Shared → Prop} {te : TE} (he : PE X e te) (I : Inv X pins σ H s)
    (h : te σ H fun x H1 => ∃ a C dx fs g, x = .ref a ∧ H1 a = some (.ins C dx fs) ∧ Cls X.K C ∧ Meth X.K C m g ∧ fs.lookup m = none ∧
      ∀ s1, Inv X pins σ H1 s1 → wpAny (model X.prog X.w) X.A (callWith pos (.ref g) [.ref a] (backTo pos (starEach args X.env)) (backToKw pos (keywordEach [] X.env))) Q X.xe s1)
    (ht : eval (.Call (.Attribute e m apos) args [] pos) X.env = (do
      let ov ← eval e X.env
      standAt apos.atName
      let (f, first) ← holding [ov] (getMethod ov m pl)
      callWith pos f first (backTo pos (starEach args X.env)) (backToKw pos (keywordEach [] X.env)))) :
    wpAny (model X.prog X.w) X.A (eval (.Call (.Attribute e m apos) args [] pos) X.env) Q X.xe s := by
  refine PySem.W.methodCall_KW (pl := pl) (thn (he pins s σ H _ I h) fun u s1 ⟨x, H1, I1, rx, a, C, dx, fs, g, ex, ea, c, k, l, q⟩ => ?_) ht
  subst ex
  obtain rfl : u = Value.ref a := rx
  exact getmeth_ok I1 ea c k l (q s1 I1)
end
section
variable {X : Cx} {pins : List (Addr × Obj)} {σ : St} {H : Hp} {s : Shared} {A : Around} {E : Value → Shared → Prop} {Q : Value → Shared → Prop} {c : Value} {b : Bool}
inductive TyOf (K : PySem.W.Frag) (H : Hp) : V → Value → Prop where
  | non : TyOf K H .non (.type "NoneType")
  | bl (x : Bool) : TyOf K H (.bl x) (.type "bool")
  | int (i : Int) : TyOf K H (.int i) (.type "int")
  | str (x : Str) : TyOf K H (.str x) (.type "str")
  | flt (x : UInt64) : TyOf K H (.flt x) (.type "float")
  | lst {a : Addr} {xs : List V} (e : H a = some (.lst xs)) : TyOf K H (.ref a) (.type "list")
  | frz {a : Addr} {o : Obj} {xs : List V} (e : H a = some (.frz o (.lst xs))) : TyOf K H (.ref a) (.type "list")
  | tup {a : Addr} {xs : List V} (e : H a = some (.tup xs)) : TyOf K H (.ref a) (.type "tuple")
  | dK {a : Addr} {kvs : List (Key × V)} (e : H a = some (.dK kvs)) : TyOf K H (.ref a) (.type "dict")
  | dT {a : Addr} {kvs : List (List Key × V)} (e : H a = some (.dT kvs)) : TyOf K H (.ref a) (.type "dict")
  | ins {a C dx : Addr} {fs : List (Str × V)} (e : H a = some (.ins C dx fs)) (cl : Cls K C) (ha : PySem.W.findIn K (.ref C) "__class__" = some (some (.builtin "object.__class__")))
      (hn : PySem.W.specialIn K (.builtin "object.__class__") "__get__" = some (some (.builtin "getset_descriptor.__get__"))) (htk : PySem.W.takesIn K (.builtin "object.__class__") = some true)
      (hm : PySem.W.mroIn K C (.type "object") = some true) : TyOf K H (.ref a) (.ref C)
theorem isinst_ok {x : V} {u t : Value} (I : Inv X pins σ H s) (rx : RelV x u) (ty : TyOf X.K H x t) (e : PySem.W.kitOne X.K t c = some b) (h : ∀ tk, Q (.bool b) { s with toks := tk }) :
    wpAny (model X.prog X.w) A (call (.builtin "isinstance") [u, c]) Q E s := by
  cases ty with
  | non => cases (show u = Value.none from rx); exact PySem.W.kia_one PySem.W.kitx_none I.kIn True.intro e (fun z => nomatch z) h
  | bl y => cases (show u = Value.bool y from rx); exact PySem.W.kia_one PySem.W.kitx_bool I.kIn True.intro e (fun z => nomatch z) h
  | int i => obtain ⟨t, q⟩ := (show ∃ t, u = Value.int i t from rx); cases q; exact PySem.W.kia_one PySem.W.kitx_int I.kIn True.intro e (fun z => nomatch z) h
  | str y => obtain ⟨t, q⟩ := (show ∃ t, u = Value.str y t from rx); cases q; exact PySem.W.kia_one PySem.W.kitx_str I.kIn True.intro e (fun z => nomatch z) h
  | flt y => obtain ⟨t, q⟩ := (show ∃ t, u = Value.float y t from rx); cases q; exact PySem.W.kia_one PySem.W.kitx_float I.kIn True.intro e (fun z => nomatch z) h
  | @lst a xs ea =>
    cases (show u = Value.ref a from rx)
    obtain ⟨_, _, n, _, h1⟩ := (show ObjOk X.prog X.w H s.heap a (.lst xs) from I.hok a _ ea)
    exact PySem.W.kia_one PySem.W.kitx_list I.kIn ⟨_, h1, rfl⟩ e (fun z => nomatch z) h
  | @frz a ob xs ea =>
    cases (show u = Value.ref a from rx)
    obtain ⟨_, _, _, n, _, h1⟩ := (show ObjOk X.prog X.w H s.heap a (.frz ob (.lst xs)) from I.hok a _ ea)
    exact PySem.W.kia_one PySem.W.kitx_list I.kIn ⟨_, h1, rfl⟩ e (fun z => nomatch z) h
  | @tup a xs ea =>
    cases (show u = Value.ref a from rx)
    obtain ⟨_, _, _, p⟩ := (show ObjOk X.prog X.w H s.heap a (.tup xs) from I.hok a _ ea)
    obtain ⟨o, h1, h2, _⟩ := p
    exact PySem.W.kia_one PySem.W.kitx_tuple I.kIn ⟨o, h1, h2⟩ e (fun z => nomatch z) h
  | @dK a kvs ea =>
    cases (show u = Value.ref a from rx)
    obtain ⟨_, _, vs, _, p⟩ := (show ObjOk X.prog X.w H s.heap a (.dK kvs) from I.hok a _ ea)
    obtain ⟨o, es, ep, h1, h2, _⟩ := p
    exact PySem.W.kia_one PySem.W.kitx_dict I.kIn ⟨o, h1, h2.1⟩ e (fun z => nomatch z) h
  | @dT a kvs ea =>
    cases (show u = Value.ref a from rx)
    obtain ⟨_, _, xs, _, o, es, ep, h1, h2, _⟩ := (show ObjOk X.prog X.w H s.heap a (.dT kvs) from I.hok a _ ea)
    exact PySem.W.kia_one PySem.W.kitx_dict I.kIn ⟨o, h1, h2.1⟩ e (fun z => nomatch z) h
  | @ins a C dx fs ea cl ha hn htk hm =>
    cases (show u = Value.ref a from rx)
    obtain ⟨mA, O, _⟩ := ins_get I.hok ea
    obtain ⟨od, J, _⟩ := O.look
    exact PySem.W.kia_one (PySem.W.kitx_own (cl.get _) cl.hd ha hn htk hm) I.kIn J e (fun z => nomatch z) h
end
end L2
namespace L2
open PySem PySem.Spec PyProof.Rows
structure Room (k : Nat) (A : Around) : Prop where
  hd : A.handled = none
  dp : A.depth + 3 * k + 5 < recursionLimit
  un : A.units + 16 * k + 200 < cLine
theorem Room.mono {j k : Nat} {A : Around} (r : Room k A) (h : j ≤ k) : Room j A := ⟨r.hd, by have := r.dp; omega, by have := r.un; omega⟩
theorem Room.deeper {k : Nat} {A : Around} (r : Room (k + 1) A) (env : Env) : Room k (A.deeper env) :=
  ⟨r.hd, by have := r.dp; show A.depth + 1 + 3 * k + 5 < _; omega, by have := r.un; show A.units + 3 + 16 * k + 200 < _; omega⟩
theorem Room.in1 {k : Nat} {A : Around} (r : Room (k + 1) A) : Room k A.in1 :=
  ⟨r.hd, by have := r.dp; show A.depth + 3 * k + 5 < _; omega, by have := r.un; show A.units + 1 + 16 * k + 200 < _; omega⟩
theorem make_depth {A : Around} {C : Addr} {us : List Value} {kw : List (Str × Value)} : (A.under (.builtin "type.__call__" ⟨.ref C :: us, kw⟩)).depth = A.depth + 1 := by
  first | rfl | simp [Around.under, Code.weight, Code.isCreation, Code.isGuard, Code.isCaller, Code.frames, Code.isFrame, guardIds]
theorem make_units {A : Around} {C : Addr} {us : List Value} {kw : List (Str × Value)} : (A.under (.builtin "type.__call__" ⟨.ref C :: us, kw⟩)).units = A.units + 1 := by
  first | rfl | simp [Around.under, Code.cUnits, Code.frames, Code.isFrame]
theorem Room.make {k : Nat} {A : Around} (r : Room (k + 1) A) (C : Addr) (us : List Value) (kw : List (Str × Value)) : Room k (A.under (.builtin "type.__call__" ⟨.ref C :: us, kw⟩)) :=
  ⟨r.hd, by have := r.dp; rw [make_depth]; omega, by have := r.un; rw [make_units]; omega⟩
theorem Room.depth {k : Nat} {A : Around} (r : Room k A) : A.depth < recursionLimit := by have := r.dp; omega
theorem Room.units {k : Nat} {A : Around} (r : Room k A) : A.units + 64 < cLine := by have := r.un; omega
theorem Room.units0 {k : Nat} {A : Around} (r : Room k A) : A.units < cLine := by have := r.un; omega
def tNil : TA := fun _ H Q => Q [] H
def tCons (ta : TE) (tr : TA) : TA := fun σ H Q => ta σ H fun x H1 => tr σ H1 fun xs H2 => Q (x :: xs) H2
section
variable {X : Cx} {e : Expr} {es : List Expr} {te : TE} {t : TA} {pos : Pos}
theorem pa_nil : PA X [] tNil := fun _ _ _ _ H Q I h => Calls.spliced_nil ⟨[], H, I, .nil, h⟩
theorem pa_cons (ha : PE X e te) (hr : PA X es t) (hs : starEach (e :: es) X.env = (false, eval e X.env) :: starEach es X.env := by rfl) : PA X (e :: es) (tCons te t) := by
  intro pos pins s σ H Q I h
  rw [hs]
  show wpAny _ _ (spliced ((false, eval e X.env) :: backTo pos (starEach es X.env))) _ _ s
  refine Calls.spliced_cons (thn (ha pins s σ H _ I h) fun u s1 ⟨x, H1, I1, r1, q1⟩ => ?_)
  exact thn (hr pos pins s1 σ H1 _ I1 q1) fun us s2 ⟨xs, H2, I2, r2, q2⟩ => ⟨x :: xs, H2, I2, .cons r1 r2, q2⟩
def tTup (t : TA) : TE := fun σ H Q => t σ H fun xs H1 => xs.length ≤ sizeLine ∧ ∀ p, H1 p = none → Q (.ref p) (upd H1 p (.tup xs))
def tLst (t : TA) : TE := fun σ H Q => t σ H fun xs H1 => xs.length ≤ sizeLine ∧ ∀ p, H1 p = none → Q (.ref p) (upd H1 p (.lst xs))
theorem pe_tup {x1} (h : PA X es t) : PE X (.Tuple es x1 pos) (tTup t) := by
  intro pins s σ H Q I hq
  refine wpAny_Tuple_spliced (thn (h pos pins s σ H _ I hq) fun us s1 ⟨xs, H1, I1, r, z, q⟩ => ⟨by rw [← r.length]; exact z, ?_⟩)
  have hf : H1 s1.heap.objs.size = none := I1.hok.fresh (Nat.le_refl _)
  refine ⟨.ref s1.heap.objs.size, upd H1 s1.heap.objs.size (.tup xs), I1.laid (t' := s1.toks) (fun b u e => Heap.get?_push_of_some _ e) (Nat.le_refl _) ?_, rfl, q _ hf⟩
  exact ⟨z, us, r, ⟨_, Heap.get?_push_size _ rfl, rfl, _, rfl⟩⟩
theorem pe_lst (h : PA X es t) : PE X (.List es pos) (tLst t) := by
  intro pins s σ H Q I hq
  refine wpAny_List_spliced (thn (h pos pins s σ H _ I hq) fun us s1 ⟨xs, H1, I1, r, z, q⟩ => ⟨by rw [← r.length]; exact z, ?_⟩)
  have hf : H1 s1.heap.objs.size = none := I1.hok.fresh (Nat.le_refl _)
  refine ⟨.ref s1.heap.objs.size, upd H1 s1.heap.objs.size (.lst xs), I1.laid (t' := s1.toks) (fun b u e => Heap.get?_push_of_some _ e) (Nat.le_refl _) ?_, rfl, q _ hf⟩
  exact ⟨z, us, 0, r, Heap.get?_push_size _ rfl⟩
end
abbrev Sp := List V → Hp → VK → XK → Prop
abbrev CXT := List Env → Hp → Shared → XK → Value → Shared → Prop
structure Env0 (P : Program) (w : World) (K : PySem.W.Frag) (mg : Str → Option Value) (base : Heap) (A : Around) (outer : List Env) (s : Shared) (H : Hp) : Prop where
  frames : A.frames = some outer
  mod : Mod K mg base
  bs : ∀ b o, base.get? b = some o → s.heap.get? b = some o ∧ H b = none
  bsz : base.objs.size ≤ s.heap.objs.size
  funs : s.heap.FunFrames base outer
  frf : ∀ b ∈ frs outer, H b = none
  hok : HOk P w H s.heap
  bare : AllBare s.gens
def CE (outer : List Env) (P : Program) (w : World) (H : Hp) (s : Shared) (Q : VK) (u : Value) (s' : Shared) : Prop :=
  ∃ v H', s'.os = s.os ∧ AllBare s'.gens ∧ Un (frs outer) [] H H' s.heap s'.heap ∧ HOk P w H' s'.heap ∧ RelV v u ∧ Q v H'
def CR (CX : CXT) (outer : List Env) (P : Program) (w : World) (H : Hp) (s : Shared) (Q : VK) (E : XK) (r : Result) (s' : Shared) : Prop :=
  match r with
  | .ok (.ret u) => CE outer P w H s Q u s'
  | .ok _ => False
  | .error e => CX outer H s E e s'
structure FnOk (P : Program) (w : World) (K : PySem.W.Frag) (mg : Str → Option Value) (base : Heap) (CX : CXT) (k : Nat) (f : Addr) (fd : FuncData) (ps : List Str) (sp : Sp) : Prop where
  len : ∀ vs H Q E, sp vs H Q E → vs.length = ps.length
  run : ∀ (A : Around) (outer : List Env) (s : Shared) (H : Hp) (args : Args) (us : List Value) (vs : List V) (Q : VK) (E : XK), Room k A → Env0 P w K mg base A outer s H → BindsTo s fd args (ps.zip us) → Vals vs us → sp vs H Q E →
    codeAny (model P w) A (.call (.ref f) args) (CR CX outer P w H s Q E) s
theorem Env0.make {P : Program} {w : World} {K : PySem.W.Frag} {mg : Str → Option Value} {base : Heap} {A : Around} {outer : List Env} {s : Shared} {H : Hp} (e : Env0 P w K mg base A outer s H) (C : Addr) (us : List Value) (kw : List (Str × Value)) :
    Env0 P w K mg base (A.under (.builtin "type.__call__" ⟨.ref C :: us, kw⟩)) outer s H := ⟨by first | exact e.frames | (simpa [Around.under, Code.envs, Code.isFrame, pushEnvs] using e.frames), e.mod, e.bs, e.bsz, e.funs, e.frf, e.hok, e.bare⟩
section
variable {X : Cx} {pins : List (Addr × Obj)} {σ : St} {H : Hp} {s s' : Shared}
theorem Inv.env0 (I : Inv X pins σ H s) : Env0 X.prog X.w X.K X.mg X.base X.A X.stack s H :=
  ⟨I.ok.frames, I.ok.mod, I.bs, Nat.le_trans I.ok.bsz I.sz, I.stack, I.stkFree, I.hok, I.bare⟩
theorem Inv.after {Q : VK} {u : Value} (I : Inv X pins σ H s) (h : CE X.stack X.prog X.w H s Q u s') : EP X pins σ Q u s' := by
  obtain ⟨v, H', os, bare, un, hok, r, q⟩ := h
  obtain ⟨hh, g, d, t, os'⟩ := s'
  obtain rfl : os' = s.os := os
  exact ⟨v, H', I.call (h' := hh) (g' := g) (d' := d) (t' := t) (ch := []) un hok bare (fun b z => absurd z (by simp)), r, q⟩
end
def tCall (sp : Sp) (dvs : List V) (E : XK) (t : TA) : TE := fun σ H Q => t σ H fun vs H1 => sp (vs ++ dvs) H1 Q E
def tMeth (C : Addr) (m : Str) (sp : Sp) (dvs : List V) (E : XK) (ta : TE) (t : TA) : TE := fun σ H Q => ta σ H fun x H1 => ∃ a dx fs, x = .ref a ∧ H1 a = some (.ins C dx fs) ∧ fs.lookup m = none ∧
  t σ H1 fun vs H2 => sp (x :: (vs ++ dvs)) H2 Q E
def tMake (C : Addr) (sp : Sp) (dvs : List V) (E : XK) (t : TA) : TE := fun σ H Q => t σ H fun vs H1 => ∀ x dx, H1 x = none → H1 dx = none → dx ≠ x →
  sp (.ref x :: (vs ++ dvs)) (upd (upd H1 dx (.own x)) x (.ins C dx [])) (fun v H2 => v = .non ∧ Q (.ref x) H2) E
def Binds (K : PySem.W.Frag) (fd : FuncData) (ps : List Str) (ds : List Value) : Prop :=
  ∀ (s : Shared) (us : List Value), K.In s.heap → (us ++ ds).length = ps.length → BindsTo s fd ⟨us, []⟩ (ps.zip (us ++ ds))
theorem Binds.all {K : PySem.W.Frag} {fd : FuncData} {ps : List Str} (h : ∀ us : List Value, us.length = ps.length → bindArgs fd ⟨us, []⟩ = pure (ps.zip us)) : Binds K fd ps [] := fun s us _ hl => by
  rw [List.append_nil] at hl ⊢
  exact .of_eq (h us hl)
def Passes (CX : CXT) (X : Cx) (E : XK) : Prop := ∀ (pins : List (Addr × Obj)) (σ : St) (H : Hp) (s : Shared) (e : Value) (s' : Shared), Inv X pins σ H s → CX X.stack H s E e s' → X.xe e s'
section
variable {X : Cx} {CX : CXT} {k : Nat} {f C : Addr} {fd : FuncData} {ps : List Str} {sp : Sp} {dvs : List V} {ds : List Value} {E : XK} {x m : Str} {p pos apos : Pos} {e o : Expr} {es : List Expr} {ta : TE} {t : TA}
theorem run_fn {pins : List (Addr × Obj)} {σ : St} {H : Hp} {s : Shared} {Q : VK} {us : List Value} {vs : List V} (F : FnOk X.prog X.w X.K X.mg X.base CX k f fd ps sp) (hr : Room k X.A) (hb : Binds X.K fd ps ds) (hd : Vals dvs ds) (hx : Passes CX X E)
    (I : Inv X pins σ H s) (r : Vals vs us) (h : sp (vs ++ dvs) H Q E) : wpAny (model X.prog X.w) X.A (call (.ref f) us) (EP X pins σ Q) X.xe s := by
  have r2 : Vals (vs ++ dvs) (us ++ ds) := r.append hd
  have hl : (us ++ ds).length = ps.length := by rw [← r2.length]; exact F.len _ _ _ _ h
  refine wpAny_call (codeAny_mono (F.run X.A X.stack s H ⟨us, []⟩ (us ++ ds) (vs ++ dvs) Q E hr I.env0 (hb s us I.kIn hl) r2 h) fun r s' hq => ?_)
  cases r with
  | error e => exact hx pins σ H s e s' I hq
  | ok fl =>
    cases fl with
    | ret u => exact I.after hq
    | next => exact False.elim hq
    | brk => exact False.elim hq
    | cont => exact False.elim hq
theorem pe_call (F : FnOk X.prog X.w X.K X.mg X.base CX k f fd ps sp) (hr : Room k X.A) (hg : Gl X x) (hm : X.mg x = some (.ref f)) (hk : PySem.W.keepIn X.K (.ref f) = true) (hb : Binds X.K fd ps ds) (hd : Vals dvs ds) (hx : Passes CX X E)
    (ha : PA X (e :: es) t) (hdb : (x == ("__debug__" : Str)) = false := by decide) (he : starEach (e :: es) X.env = (false, eval e X.env) :: starEach es X.env := by rfl) (hpl : (backTo pos (starEach es X.env)).any (·.1) = false := by rfl) :
    PE X (.Call (.Name x p) (e :: es) [] pos) (tCall sp dvs E t) := by
  intro pins s σ H Q I h
  refine wpAny_Call_Name_kw (ld_glob I hg hm ?_ hdb)
  refine PySem.W.callWith_K (h₀ := X.base) I.ok.mod.kin hk (thn (ha pos pins s σ H _ I h) fun us s1 ⟨vs, H1, I1, r, q⟩ => ⟨I1.kIn, ?_⟩) he hpl
  exact run_fn F hr hb hd hx I1 r q
theorem pe_meth {pl : Sem Bool} (he : PE X o ta) (c : Cls X.K C) (hm : Meth X.K C m f) (F : FnOk X.prog X.w X.K X.mg X.base CX k f fd ps sp) (hr : Room k X.A) (hb : Binds X.K fd ps ds) (hd : Vals dvs ds) (hx : Passes CX X E) (ha : PA X (e :: es) t)
    (hst : starEach (e :: es) X.env = (false, eval e X.env) :: starEach es X.env := by rfl) (hpl : (backTo pos (starEach es X.env)).any (·.1) = false := by rfl)
    (ht : eval (.Call (.Attribute o m apos) (e :: es) [] pos) X.env = (do
      let ov ← eval o X.env
      standAt apos.atName
      let (f, first) ← holding [ov] (getMethod ov m pl)
      callWith pos f first (backTo pos (starEach (e :: es) X.env)) (backToKw pos (keywordEach [] X.env))) := by rfl) :
    PE X (.Call (.Attribute o m apos) (e :: es) [] pos) (tMeth C m sp dvs E ta t) := by
  intro pins s σ H Q I h
  refine PySem.W.methodCall_KW (pl := pl) (thn (he pins s σ H _ I h) fun u s1 ⟨x, H1, I1, rx, a, dx, fs, ex, ea, l, q⟩ => ?_) ht
  subst ex
  obtain rfl : u = Value.ref a := rx
  refine getmeth_ok I1 ea c hm l ?_
  refine PySem.W.callWith_K (first := [.ref a]) (h₀ := X.base) I.ok.mod.kin hm.kp (thn (ha pos pins s1 σ H1 _ I1 q) fun us s2 ⟨vs, H2, I2, r, q2⟩ => ⟨I2.kIn, ?_⟩) hst hpl
  exact run_fn (us := .ref a :: us) (vs := .ref a :: vs) F hr hb hd hx I2 (.cons rfl r) q2
theorem pe_meth0 {pl : Sem Bool} (he : PE X o ta) (c : Cls X.K C) (hm : Meth X.K C m f) (F : FnOk X.prog X.w X.K X.mg X.base CX k f fd ps sp) (hr : Room k X.A) (hb : Binds X.K fd ps ds) (hd : Vals dvs ds) (hx : Passes CX X E)
    (ht : eval (.Call (.Attribute o m apos) [] [] pos) X.env = (do
      let ov ← eval o X.env
      standAt apos.atName
      let (f, first) ← holding [ov] (getMethod ov m pl)
      callWith pos f first (backTo pos (starEach [] X.env)) (backToKw pos (keywordEach [] X.env))) := by rfl) :
    PE X (.Call (.Attribute o m apos) [] [] pos) (tMeth C m sp dvs E ta tNil) := by
  intro pins s σ H Q I h
  refine PySem.W.methodCall_KW (pl := pl) (thn (he pins s σ H _ I h) fun u s1 ⟨x, H1, I1, rx, a, dx, fs, ex, ea, l, q⟩ => ?_) ht
  subst ex
  obtain rfl : u = Value.ref a := rx
  refine getmeth_ok I1 ea c hm l ?_
  exact PySem.W.callWith_K0 (first := [.ref a]) I1.kIn hm.kp (run_fn (us := [.ref a]) (vs := [.ref a]) F hr hb hd hx I1 (.cons rfl .nil) q)
structure Mk (K : PySem.W.Frag) (C f : Addr) : Prop where
  makes : PySem.W.makesIn K C = true
  init : PySem.W.findIn K (.ref C) "__init__" = some (some (.ref f))
  fn : PySem.W.isFn K (.ref f) = true
  kp : PySem.W.keepIn K (.ref C) = true
theorem run_make {pins : List (Addr × Obj)} {σ : St} {H : Hp} {s : Shared} {Q : VK} {us : List Value} {vs : List V} (M : Mk X.K C f) (F : FnOk X.prog X.w X.K X.mg X.base CX k f fd ps sp) (hr : Room (k + 1) X.A) (hb : Binds X.K fd ps ds) (hd : Vals dvs ds)
    (hx : Passes CX X E) (I : Inv X pins σ H s) (r : Vals vs us)
    (h : ∀ x dx, H x = none → H dx = none → dx ≠ x → sp (.ref x :: (vs ++ dvs)) (upd (upd H dx (.own x)) x (.ins C dx [])) (fun v H2 => v = .non ∧ Q (.ref x) H2) E) :
    wpAny (model X.prog X.w) X.A (call (.ref C) us) (EP X pins σ Q) X.xe s := by
  have hq := h (s.heap.objs.size + 1) s.heap.objs.size (I.hok.fresh (Nat.le_succ _)) (I.hok.fresh (Nat.le_refl _)) (Nat.ne_of_lt (Nat.lt_succ_self _))
  have I2 := Inv.made (C := C) I
  have r2 : Vals (V.ref (s.heap.objs.size + 1) :: (vs ++ dvs)) (Value.ref (s.heap.objs.size + 1) :: (us ++ ds)) := .cons rfl (r.append hd)
  have hl : (Value.ref (s.heap.objs.size + 1) :: us ++ ds).length = ps.length := by
    have e := r2.length
    rw [F.len _ _ _ _ hq] at e
    exact e.symm
  refine wpAny_call (make_map (f := f) I.kIn M.makes M.init (beq_iff_eq.mp M.fn) (codeAny_mono (F.run _ X.stack _ _ ⟨Value.ref (s.heap.objs.size + 1) :: us, []⟩ (Value.ref (s.heap.objs.size + 1) :: (us ++ ds)) _ _ E (hr.make C us [])
    (I2.env0.make C us []) (hb _ (Value.ref (s.heap.objs.size + 1) :: us) I2.kIn hl) r2 hq) fun r s' hq' => ?_))
  cases r with
  | error e => exact hx pins σ _ _ e s' I2 hq'
  | ok fl =>
    cases fl with
    | ret u =>
      obtain ⟨v, H', I3, rv, ev, q3⟩ := I2.after hq'
      subst ev
      exact ⟨rv, ⟨V.ref (s.heap.objs.size + 1), H', I3, rfl, q3⟩⟩
    | next => exact False.elim hq'
    | brk => exact False.elim hq'
    | cont => exact False.elim hq'
theorem pe_make (M : Mk X.K C f) (F : FnOk X.prog X.w X.K X.mg X.base CX k f fd ps sp) (hr : Room (k + 1) X.A) (hg : Gl X x) (hm : X.mg x = some (.ref C)) (hb : Binds X.K fd ps ds) (hd : Vals dvs ds) (hx : Passes CX X E)
    (ha : PA X (e :: es) t) (hdb : (x == ("__debug__" : Str)) = false := by decide) (he : starEach (e :: es) X.env = (false, eval e X.env) :: starEach es X.env := by rfl) (hpl : (backTo pos (starEach es X.env)).any (·.1) = false := by rfl) :
    PE X (.Call (.Name x p) (e :: es) [] pos) (tMake C sp dvs E t) := by
  intro pins s σ H Q I h
  refine wpAny_Call_Name_kw (ld_glob I hg hm ?_ hdb)
  refine PySem.W.callWith_K (h₀ := X.base) I.ok.mod.kin M.kp (thn (ha pos pins s σ H _ I h) fun us s1 ⟨vs, H1, I1, r, q⟩ => ⟨I1.kIn, ?_⟩) he hpl
  exact run_make M F hr hb hd hx I1 r q
end
structure FnScope (N P : List Str) (sc : Scope) : Prop where
  kind : sc.kind = .function
  co : sc.isCoroutine = false
  gen : sc.isGenerator = false
  nd : N.Nodup
  pre : N.take P.length = P
  par : ∀ x ∈ P, sc.names.lookup x = some .local ∨ sc.names.lookup x = some .cell
  nofree : ∀ y ∈ sc.names, y.2 ≠ .free
theorem bindL_out {kindOf : Str → Option NameKind} {x : Str} : ∀ {binds : List (Str × Value)} {m : Str → Option Value}, (∀ v, (x, v) ∉ binds) → bindL kindOf binds m x = m x
  | [], _, _ => rfl
  | (n, v) :: r, m, h => by
    unfold bindL
    rw [bindL_out fun w hw => h w (List.mem_cons_of_mem _ hw)]
    split
    · have : x ≠ n := by rintro rfl; exact h v List.mem_cons_self
      simp [this]
    · rfl
theorem bindC_out {kindOf : Str → Option NameKind} {x : Str} : ∀ {binds : List (Str × Value)} {m : Str → Option Value}, (∀ v, (x, v) ∉ binds) → bindC kindOf binds m x = m x
  | [], _, _ => rfl
  | (n, v) :: r, m, h => by
    unfold bindC
    rw [bindC_out fun w hw => h w (List.mem_cons_of_mem _ hw)]
    split
    · rfl
    · have : x ≠ n := by rintro rfl; exact h v List.mem_cons_self
      simp [this]
theorem bindL_get {kindOf : Str → Option NameKind} {x : Str} {v : Value} : ∀ {P : List Str} {vs : List Value} {i : Nat} {m : Str → Option Value}, P.Nodup → P[i]? = some x → vs[i]? = some v → kindOf x = some .local →
    bindL kindOf (P.zip vs) m x = some v
  | [], _, _, _, _, h, _, _ => by simp at h
  | _ :: _, [], _, _, _, _, h, _ => by simp at h
  | p :: P, w :: vs, 0, m, nd, h1, h2, hk => by
    simp at h1 h2; subst h1; subst h2
    show bindL kindOf ((p, w) :: P.zip vs) m p = _
    unfold bindL
    rw [bindL_out fun v hv => (List.nodup_cons.mp nd).1 (List.of_mem_zip hv).1, if_pos hk]
    simp
  | p :: P, w :: vs, i + 1, m, nd, h1, h2, hk => by
    show bindL kindOf ((p, w) :: P.zip vs) m x = _
    unfold bindL
    exact bindL_get (i := i) (List.nodup_cons.mp nd).2 (by simpa using h1) (by simpa using h2) hk
theorem bindC_get {kindOf : Str → Option NameKind} {x : Str} {v : Value} : ∀ {P : List Str} {vs : List Value} {i : Nat} {m : Str → Option Value}, P.Nodup → P[i]? = some x → vs[i]? = some v → kindOf x ≠ some .local →
    bindC kindOf (P.zip vs) m x = some v
  | [], _, _, _, _, h, _, _ => by simp at h
  | _ :: _, [], _, _, _, _, h, _ => by simp at h
  | p :: P, w :: vs, 0, m, nd, h1, h2, hk => by
    simp at h1 h2; subst h1; subst h2
    show bindC kindOf ((p, w) :: P.zip vs) m p = _
    unfold bindC
    rw [bindC_out fun v hv => (List.nodup_cons.mp nd).1 (List.of_mem_zip hv).1, if_neg hk]
    simp
  | p :: P, w :: vs, i + 1, m, nd, h1, h2, hk => by
    show bindC kindOf ((p, w) :: P.zip vs) m x = _
    unfold bindC
    exact bindC_get (i := i) (List.nodup_cons.mp nd).2 (by simpa using h1) (by simpa using h2) hk
def start (N : List Str) (vs : List V) : St := vs.map some ++ List.replicate (N.length - vs.length) none
def cxOf (CX : CXT) (P : Program) (w : World) (K : PySem.W.Frag) (mg : Str → Option Value) (base : Heap) (N : List Str) (qual : Str) (scope : Scope) (f : Addr) (cd : Value) (A : Around) (outer : List Env) (s : Shared) (H : Hp) (E : XK) : Cx where
  prog := P
  w := w
  K := K
  mg := mg
  base := base
  A := A.deeper (envOfC qual scope s.heap.objs.size f cd)
  N := N
  s₀ := s
  H₀ := H
  env := envOfC qual scope s.heap.objs.size f cd
  outer := outer
  stack := envOfC qual scope s.heap.objs.size f cd :: outer
  ex := []
  calm := true
  fn := fun _ => true
  pn := []
  xe := fun e s' => wpAny (model P w) (A.deeper (envOfC qual scope s.heap.objs.size f cd)) (leaving (envOfC qual scope s.heap.objs.size f cd) e) (fun _ s'' => CX outer H s E e s'') (fun e' s'' => CX outer H s E e' s'') s'
theorem cell_has {sc : Scope} {n : Nat} {x : Str} (h : sc.names.lookup x = some .cell) : ∃ c, (cellsFrom n sc.names []).lookup x = some c := by
  have q := PySem.W.cellsFrom_some sc.names n [] (.inl h)
  exact Option.isSome_iff_exists.mp q
theorem inv_start {CX : CXT} {P : Program} {w : World} {K : PySem.W.Frag} {mg : Str → Option Value} {base : Heap} {N ps : List Str} {qual : Str} {scope : Scope} {f : Addr} {cd : Value} {A : Around} {outer : List Env} {s s1 : Shared} {H : Hp} {E : XK} {us : List Value} {vs : List V}
    (S : FnScope N ps scope) (hd : A.handled = none) (e0 : Env0 P w K mg base A outer s H) (hl : vs.length = ps.length) (r : Vals vs us)
    (x : InCallC s s.heap.objs.size (bindL (envOfC qual scope s.heap.objs.size f cd).kindOf (ps.zip us) fun _ => none) (cellsFrom (s.heap.objs.size + 1) scope.names []) (bindC (envOfC qual scope s.heap.objs.size f cd).kindOf (ps.zip us) fun _ => none) s1) :
    Inv (cxOf CX P w K mg base N qual scope f cd A outer s H E) [] (start N vs) H s1 := by
  have hpl : ps.length ≤ N.length := by have := congrArg List.length S.pre; rw [List.length_take] at this; omega
  obtain ⟨h1, tk, rfl, hk⟩ := x.done
  have noA : ∀ b : Addr, b ∉ (cxOf CX P w K mg base N qual scope f cd A outer s H E).ex := fun b z => absurd (show b ∈ ([] : List Addr) from z) (by simp)
  refine ⟨⟨e0.mod, S.kind, rfl, rfl, Nat.le_refl _, fun y z c h1 h2 => ?_, fun y hy => ?_, fun y c _ h => ?_, fun _ => hd, Around.frames_deeper e0.frames, .inr ⟨rfl, rfl⟩, fun b z => absurd z (noA b), e0.bs, e0.bsz, fun b _ _ => noA b, fun b z => absurd z (noA b), e0.funs, e0.frf⟩,
    rfl, e0.bare, Un.kept hk, ⟨_, x.toInCall.ns, fun i y v h1 h2 h3 => ?_⟩, fun y c h => ⟨_, x.cell y c h⟩, e0.hok.fresh (Nat.le_refl _), fun y c h => ?_, fun p hp => absurd (show p ∈ ([] : List (Addr × Obj)) from hp) (by simp), e0.hok.kept hk, ?_⟩
  · exact name_of_addr x.apart (PySem.mem_of_lookup h1) (PySem.mem_of_lookup h2)
  · have hy : scope.names.lookup y = some .cell ∨ scope.names.lookup y = some .free := hy
    rcases hy with hy | hy
    · exact cell_has hy
    · exact absurd rfl (S.nofree _ (PySem.mem_of_lookup hy))
  · exact Nat.le_of_lt (x.above y c (PySem.mem_of_lookup h))
  · have hi : i < vs.length := by
      unfold start at h2
      by_cases hi : i < vs.length
      · exact hi
      · rw [List.getElem?_append_right (by simpa using hi)] at h2
        rw [List.getElem?_replicate] at h2
        split at h2 <;> cases h2
    have ha : vs[i]? = some v := by
      unfold start at h2
      rw [List.getElem?_append_left (by simpa using hi), List.getElem?_map] at h2
      cases e : vs[i]? with
      | none => rw [e] at h2; cases h2
      | some a => rw [e] at h2; cases h2; rfl
    obtain ⟨u, hu, rv⟩ := r.get ha
    have hp : ps[i]? = some y := by
      rw [← S.pre, List.getElem?_take_of_lt (by omega)]; exact h1
    have ndP : ps.Nodup := by rw [← S.pre]; exact S.nd.sublist (List.take_sublist _ _)
    refine ⟨u, rv, ?_⟩
    rcases S.par y (List.mem_of_getElem? hp) with k | k
    · exact .inl ⟨k, bindL_get ndP hp hu k⟩
    · obtain ⟨c, e⟩ := cell_has (n := s.heap.objs.size + 1) k
      refine .inr ⟨.inl k, c, e, ?_⟩
      have q := x.cell y c e
      rw [bindC_get ndP hp hu (by show scope.names.lookup y ≠ _; rw [k]; decide)] at q
      exact q
  · exact e0.hok.fresh (Nat.le_of_lt (x.above y c (PySem.mem_of_lookup h)))
  · unfold start
    show _ = N.length
    rw [List.length_append, List.length_map, List.length_replicate]
    omega
theorem fn_of {CX : CXT} {P : Program} {w : World} {K : PySem.W.Frag} {mg : Str → Option Value} {base : Heap} {k : Nat} {f : Addr} {name qual : Str} {params : Arguments} {body : List Stmt} {scope : Scope} {dV kV doc pm cdv ct oc : Value} {an od : Option Addr}
    {osl : Array (Option Value)} {N ps : List Str} {sp : Sp} (lk : K.lookup f = some ⟨oc, od, .func (PySem.W.fnOf name qual params body scope dV kV doc pm an cdv ct), osl⟩) (hcd : PySem.W.codeIn K cdv qual = true) (S : FnScope N ps scope)
    (len : ∀ vs H Q E, sp vs H Q E → vs.length = ps.length)
    (hbody : ∀ (A : Around) (outer : List Env) (s : Shared) (H : Hp) (vs : List V) (Q : VK) (E : XK), Room k (A.deeper (envOfC qual scope s.heap.objs.size f cdv)) → sp vs H Q E →
      ∃ t, PSs (cxOf CX P w K mg base N qual scope f cdv A outer s H E) body t ∧ t { nx := fun _ H' => Q .non H', rt := Q } (start N vs) H) :
    FnOk P w K mg base CX (k + 1) f (PySem.W.fnOf name qual params body scope dV kV doc pm an cdv ct) ps sp := by
  refine ⟨len, fun A outer s H args us vs Q E hr e0 hb r hsp => ?_⟩
  have hl := len _ _ _ _ hsp
  have KX : K.In s.heap := e0.mod.kin.keeps fun b o e => (e0.bs b o e).1
  have lim : s.heap.NoLimit := e0.mod.nolimit.keeps fun b o e => (e0.bs b o e).1
  have hkind : ∀ y ∈ ps.zip us, scope.names.lookup y.1 = some .local ∨ (scope.names.lookup y.1 = some .cell ∧ ((cellsFrom (s.heap.objs.size + 1) scope.names []).lookup y.1).isSome = true) := fun ⟨n, v⟩ hy => by
    rcases S.par n (List.of_mem_zip hy).1 with q | q
    · exact .inl q
    · exact .inr ⟨q, PySem.W.cellsFrom_some _ _ _ (.inl q)⟩
  refine codeAny_call_function hr.depth (KX _ _ lk) rfl S.co S.gen rfl (PySem.W.codeRec_of KX hcd) (hb _ _ _ _ ?_)
  refine wpAny_newFunctionEnv_cells S.kind hkind fun env he s1 x => ?_
  subst he
  refine ⟨lim.keeps x.toInCall.keep, codeAny_func ?_⟩
  obtain ⟨t, ht, hq⟩ := hbody A outer s H vs Q E (hr.deeper _) hsp
  have I : Inv (cxOf CX P w K mg base N qual scope f cdv A outer s H E) [] (start N vs) H s1 := inv_start S hr.hd e0 hl r x
  refine wpAny_mono (ht [] s1 (start N vs) H _ I hq) (fun fl s' hs => ?_) fun e s' hs => hs
  have fin : ∀ {σ' : St} {H' : Hp} {v : V} {u : Value}, Inv (cxOf CX P w K mg base N qual scope f cdv A outer s H E) [] σ' H' s' → RelV v u → Q v H' → CE outer P w H s Q u s' :=
    fun {σ' H' v u} J rv q => ⟨v, H', J.os, J.bare, J.base, J.hok, rv, q⟩
  cases fl with
  | ret u =>
    obtain ⟨v, σ', H', J, rv, q⟩ := hs
    exact fin J rv q
  | next =>
    obtain ⟨σ', H', J, q⟩ := hs
    exact fin (v := V.non) (u := Value.none) J rfl q
  | brk =>
    obtain ⟨_, _, _, q⟩ := hs
    exact False.elim q
  | cont =>
    obtain ⟨_, _, _, q⟩ := hs
    exact False.elim q
end L2
namespace L2
open PySem PySem.Spec PyProof.Rows
section
variable {X : Cx} {x : Str} {p pos : Pos} {e : Expr} {es : List Expr} {t : TA} {id T : String} {r : List V → Hp → VK → Prop}
def tCB (r : List V → Hp → VK → Prop) (t : TA) : TE := fun σ H Q => t σ H fun vs H1 => r vs H1 Q
theorem pe_callB (hc : CallR X (.builtin id) r) (hg : Gl X x) (hm : X.mg x = none) (hv : bootBuiltins x = some (.builtin id)) (ha : PA X (e :: es) t) (hn : x ≠ "__name__" := by decide) (hdb : (x == ("__debug__" : Str)) = false := by decide)
    (he : starEach (e :: es) X.env = (false, eval e X.env) :: starEach es X.env := by rfl) (hpl : (backTo pos (starEach es X.env)).any (·.1) = false := by rfl) : PE X (.Call (.Name x p) (e :: es) [] pos) (tCB r t) := by
  intro pins s σ H Q I h
  refine wpAny_Call_Name_kw (ld_blt I hg hm hv ?_ hn hdb)
  exact PyProof.Rows.callWith_builtin1 (thn (ha pos pins s σ H _ I h) fun us s1 ⟨vs, H1, I1, r1, q1⟩ => hc pins s1 σ H1 vs us Q I1 r1 q1) he hpl
theorem pe_callTy (hc : CallR X (.type T) r) (hg : Gl X x) (hm : X.mg x = none) (hv : bootBuiltins x = some (.type T)) (ha : PA X (e :: es) t) (hn : x ≠ "__name__" := by decide) (hdb : (x == ("__debug__" : Str)) = false := by decide)
    (he : starEach (e :: es) X.env = (false, eval e X.env) :: starEach es X.env := by rfl) (hpl : (backTo pos (starEach es X.env)).any (·.1) = false := by rfl) : PE X (.Call (.Name x p) (e :: es) [] pos) (tCB r t) := by
  intro pins s σ H Q I h
  refine wpAny_Call_Name_kw (ld_blt I hg hm hv ?_ hn hdb)
  exact PyProof.Rows.callWith_type1 (thn (ha pos pins s σ H _ I h) fun us s1 ⟨vs, H1, I1, r1, q1⟩ => hc pins s1 σ H1 vs us Q I1 r1 q1) he hpl
end
end L2
namespace HT
open PySem PyProof.Rows
section
variable {prog : Program} {w : World} {A : Around} {E : Value → Shared → Prop} {s : Shared}
theorem cat_tup {t b : Addr} {vs ws : List Value} {Q : Value → Shared → Prop} (ht : IsTup s.heap t vs.toArray) (hb : IsTup s.heap b ws.toArray) (hv : vs ≠ [])
    (h1 : ws = [] → Q (.ref t) s) (h2 : ws ≠ [] → Q (.ref s.heap.objs.size) { s with heap := s.heap.push { cls := .type "tuple", data := .seq (vs ++ ws).toArray } })
    (hsz : vs.length + ws.length ≤ sizeLine) : wpAny (model prog w) A (binaryOp .Add (.ref t) (.ref b)) Q E s := by
  obtain ⟨⟨cls, dd, data, sl⟩, ho, hc, n, hd⟩ := id ht
  obtain ⟨⟨cls2, dd2, data2, sl2⟩, ho2, hc2, n2, hd2⟩ := id hb
  simp only at hc hd hc2 hd2
  subst hc hd hc2 hd2
  have e : vs.toArray ++ ws.toArray = (vs ++ ws).toArray := by simp
  by_cases hw : ws = []
  · exact concat_meets ⟨_, ho, rfl⟩ ⟨_, ho2, rfl⟩ noFill_tuple_add seq_tuple_add PySem.F.slot_tuple_add PySem.F.entry_tuple_add (PySem.F.args_tuple_add_2 _ _)
      (tuple_addW1 t b vs.toArray ws.toArray n n2 dd dd2 sl sl2 (by simpa using hv) (by simp [hw])) ⟨ho, ho2, h1 hw⟩
  · refine concat_meets ⟨_, ho, rfl⟩ ⟨_, ho2, rfl⟩ noFill_tuple_add seq_tuple_add PySem.F.slot_tuple_add PySem.F.entry_tuple_add (PySem.F.args_tuple_add_2 _ _)
      (tuple_addW2 t b vs.toArray ws.toArray n n2 dd dd2 sl sl2 (by simpa using hv) (by simpa using hw) (by rw [List.size_toArray, List.size_toArray]; exact hsz)) ⟨ho, ho2, ?_⟩
    rw [e]
    exact h2 hw
def sIx (n d : Nat) : Option Int → Nat
  | none => d
  | some v => if v < 0 then (v + (n : Int)).toNat else min v.toNat n
theorem sIx_none (n d : Nat) : sIx n d none = d := rfl
theorem sIx_nat (n d k : Nat) : sIx n d (some (k : Int)) = min k n := by
  show (if (k : Int) < 0 then ((k : Int) + (n : Int)).toNat else min (k : Int).toNat n) = min k n
  rw [if_neg (by omega), Int.toNat_natCast]
theorem sIx_le (n d : Nat) (hd : d ≤ n) (o : Option Int) : sIx n d o ≤ n := by
  cases o with
  | none => exact hd
  | some v =>
    show (if v < 0 then (v + (n : Int)).toNat else min v.toNat n) ≤ n
    by_cases hv : v < 0
    · rw [if_pos hv]; omega
    · rw [if_neg hv]; exact Nat.min_le_right _ _
theorem clip_eq (v : Int) (n d : Nat) : (if v < 0 then max (v + (n : Int)) 0 else min v (n : Int)) = ((sIx n d (some v) : Nat) : Int) := by
  show (if v < 0 then max (v + (n : Int)) 0 else min v (n : Int)) = (((if v < 0 then (v + (n : Int)).toNat else min v.toNat n) : Nat) : Int)
  by_cases hv : v < 0
  · simp only [if_pos hv]; omega
  · simp only [if_neg hv]; omega
theorem adjust_gen (lo hi : Option Int) (n : Nat) : Builtin.Slice.sliceAdjust lo hi 1 (n : Int) = (((sIx n 0 lo : Nat) : Int), ((sIx n n hi : Nat) : Int)) := by
  have h1 : ¬ ((1 : Int) < 0) := by omega
  unfold Builtin.Slice.sliceAdjust
  simp only [h1, if_false]
  refine Prod.ext ?_ ?_
  · cases lo with
    | none => rfl
    | some v => exact clip_eq v n 0
  · cases hi with
    | none => rfl
    | some v => exact clip_eq v n n
theorem places_gen (i j : Nat) : Builtin.Slice.slicePlaces (i : Int) (j : Int) 1 = j - i := by
  unfold Builtin.Slice.slicePlaces
  have h1 : (1 : Int) > 0 := by omega
  simp only [h1, if_true, Int.ediv_one]
  split <;> omega
theorem slicePart_ {v : Value} {o : Option Int} {Q : Option Int → Shared → Prop} (p : IsPart v o) (h : Q o s) : wpAny (model prog w) A (Builtin.Slice.slicePartIndex v) Q E s := by
  cases p with
  | none => exact slicePart_none h
  | int i t => exact slicePart_int h
theorem sliceApplied_gen {sl : Addr} {vl vu : Value} {lo hi : Option Int} {n : Nat} {Q : Int × Int × Nat → Shared → Prop} (hs : s.heap.IsSliceOf sl vl vu .none) (pl : IsPart vl lo) (pu : IsPart vu hi)
    (h : Q (((sIx n 0 lo : Nat) : Int), 1, sIx n n hi - sIx n 0 lo) s) : wpAny (model prog w) A (Builtin.Slice.sliceApplied (.ref sl) (pure (n : Int))) Q E s := by
  obtain ⟨os, hos, hcs, hds⟩ := id hs
  unfold Builtin.Slice.sliceApplied Builtin.Slice.sliceFields
  refine wpAny_bind (wpAny_bind (wpAny_field hos hds (x := vl) rfl (wpAny_bind (wpAny_field hos hds (x := vu) rfl (wpAny_bind (wpAny_field hos hds (x := .none) rfl (wpAny_pure ?_)))))))
  refine wpAny_bind (slicePart_none ?_)
  show wpAny _ _ (if ((1 : Int) == 0) = true then _ else _) _ _ s
  rw [if_neg (by decide)]
  refine wpAny_bind (slicePart_ pl (wpAny_bind (slicePart_ pu (wpAny_bind (wpAny_pure ?_)))))
  show wpAny _ _ (match Builtin.Slice.sliceAdjust lo hi 1 (n : Int) with | (lo, hi) => pure (lo, (1 : Int), Builtin.Slice.slicePlaces lo hi 1)) _ _ s
  rw [adjust_gen lo hi n]
  show wpAny _ _ (pure (((sIx n 0 lo : Nat) : Int), (1 : Int), Builtin.Slice.slicePlaces ((sIx n 0 lo : Nat) : Int) ((sIx n n hi : Nat) : Int) 1)) _ _ s
  rw [places_gen]
  exact wpAny_pure h
theorem pick_gen (xs : Array Value) (i k : Nat) : ((List.range k).filterMap fun (m : Nat) => xs[((i : Int) + (m : Int) * 1).toNat]?).toArray = ((xs.toList.drop i).take k).toArray := by
  have e : (fun (m : Nat) => xs[((i : Int) + (m : Int) * 1).toNat]?) = fun m => xs[i + m]? := by
    funext m
    have : ((i : Int) + (m : Int) * 1).toNat = i + m := by omega
    rw [this]
  rw [e]
  have := pick_run xs i k
  rw [List.filterMap_map] at this
  have e2 : ((fun x => xs[x]?) ∘ fun x => i + x) = fun m => xs[i + m]? := rfl
  rw [e2] at this
  rw [this]
theorem getItem_tuple_cut {t sl : Addr} {items : Array Value} {vl vu : Value} {lo hi : Option Int} {Q : Value → Shared → Prop} (ht : IsTup s.heap t items) (hs : s.heap.IsSliceOf sl vl vu .none) (pl : IsPart vl lo) (pu : IsPart vu hi)
    (hw : ¬ (sIx items.size 0 lo = 0 ∧ sIx items.size items.size hi = items.size))
    (h : Q (.ref s.heap.objs.size) { s with heap := s.heap.push { cls := .type "tuple", data := .seq ((items.toList.drop (sIx items.size 0 lo)).take (sIx items.size items.size hi - sIx items.size 0 lo)).toArray } })
    (hsz : items.size ≤ sizeLine) : wpAny (model prog w) A (getItem (.ref t) (.ref sl)) Q E s := by
  have htake : sizeOk (.seq ((items.toList.drop (sIx items.size 0 lo)).take (sIx items.size items.size hi - sIx items.size 0 lo)).toArray) := by
    show ((items.toList.drop (sIx items.size 0 lo)).take (sIx items.size items.size hi - sIx items.size 0 lo)).toArray.size ≤ sizeLine
    rw [List.size_toArray, List.length_take, List.length_drop, Array.length_toList]
    omega
  have hj : sIx items.size items.size hi ≤ items.size := sIx_le _ _ (Nat.le_refl _) hi
  obtain ⟨os, hos, hcs, hds⟩ := id hs
  have hTs : s.TypeIs (.ref sl) "slice" := ⟨os, hos, hcs⟩
  unfold getItem
  try with_reducible refine wpAny_holding ?_
  first | refine wpAny_bind (wpAny_pure ?_) | skip
  refine wpAny_bind (wpAny_sequenceKey ht.typeIs (by decide) ?_)
  refine wpAny_bind (wpAny_callSpecial?_slot (name := Str.ofString "__getitem__") ht.typeIs PyProof.Rows.slot_tuple_getitem
    (wpAny_call_entry PyProof.Rows.slot_tuple_getitem ht.typeIs entry_tuple_getitem ?_ (args_tuple_getitem _ _)))
  show wpAny _ _ (Builtin.Tuple.tupleItemsOf (.ref t) >>= _) _ _ s
  refine wpAny_bind (tupleItemsOf_ ht ?_)
  refine wpAny_bind (wpAny_typeOf hTs ?_)
  rw [if_pos (by decide)]
  refine wpAny_bind (sliceApplied_gen hs pl pu ?_)
  have hno : ¬ ((((sIx items.size 0 lo : Nat) : Int) == 0 && (1 : Int) == 1 && (sIx items.size items.size hi - sIx items.size 0 lo) == items.size) = true) := by
    intro q
    rw [Bool.and_eq_true, Bool.and_eq_true] at q
    have q1 : ((sIx items.size 0 lo : Nat) : Int) = 0 := eq_of_beq q.1.1
    have q2 : sIx items.size items.size hi - sIx items.size 0 lo = items.size := eq_of_beq q.2
    exact hw ⟨by omega, by omega⟩
  show wpAny _ _ (if (((sIx items.size 0 lo : Nat) : Int) == 0 && (1 : Int) == 1 && (sIx items.size items.size hi - sIx items.size 0 lo) == items.size) = true then _ else _) _ _ s
  rw [if_neg hno, pick_gen]
  first
    | exact wpAny_bind (m := Builtin.Tuple.tupleExact _) (wpAny_newObj_type (wpAny_pure ⟨_, rfl, wpAny_pure h⟩) htake)
    | exact wpAny_bind (m := Builtin.Tuple.tupleExact _) (wpAny_newObj_type (wpAny_bind (wpAny_pure (wpAny_pure ⟨_, rfl, wpAny_pure h⟩))) htake)
    | exact wpAny_bind (wpAny_bind (m := Builtin.Tuple.tupleExact _) (wpAny_newObj_type (wpAny_pure (wpAny_pure ⟨_, rfl, wpAny_pure h⟩)) htake))
    | exact wpAny_bind (wpAny_bind (m := Builtin.Tuple.tupleExact _) (wpAny_newObj_type (wpAny_pure ⟨_, rfl, wpAny_pure h⟩) htake))
end
end HT
namespace L2
open PySem PySem.Spec PyProof.Rows
abbrev TO := St → Hp → (Option Int → Hp → Prop) → Prop
def PO (X : Cx) (e : Option Expr) (t : TO) : Prop :=
  ∀ (pins : List (Addr × Obj)) (s : Shared) (σ : St) (H : Hp) (Q : Option Int → Hp → Prop), Inv X pins σ H s → t σ H Q →
    wpAny (model X.prog X.w) X.A (evalPart e X.env) (fun u s' => ∃ o H', Inv X pins σ H' s' ∧ IsPart u o ∧ Q o H') X.xe s
def tNoPart : TO := fun _ H Q => Q none H
def tPart (t : TE) : TO := fun σ H Q => t σ H fun x H1 => ∃ i, x = .int i ∧ Q (some i) H1
theorem intsAre_of {ns : List Int} : ∀ {us : List Value}, Vals (ns.map V.int) us → IntsAre us ns := by
  induction ns with
  | nil => intro us r; rw [List.map_nil] at r; cases r; exact .nil
  | cons n ns ih =>
    intro us r
    rw [List.map_cons] at r
    cases r with
    | cons r1 r2 =>
      obtain ⟨t, e⟩ := r1
      subst e
      exact .cons n t (ih r2)
section
variable {X : Cx} {e : Expr} {te : TE} {lo hi : Option Expr} {tl th : TO} {pos p2 : Pos}
theorem po_none : PO X none tNoPart := by
  intro pins s σ H Q I h
  rw [evalPart_none]
  exact wpAny_pure ⟨none, H, I, .none, h⟩
theorem po_some (h : PE X e te) : PO X (some e) (tPart te) := by
  intro pins s σ H Q I hw
  rw [evalPart_some]
  refine thn (h pins s σ H _ I hw) fun u s1 ⟨x, H1, I1, r1, q1⟩ => ?_
  obtain ⟨i, rfl, q⟩ := q1
  obtain ⟨t, rfl⟩ := r1
  exact ⟨some i, H1, I1, .int i t, q⟩
def SlR (X : Cx) (r : V → Option Int → Option Int → Hp → VK → Prop) : Prop :=
  ∀ (pins : List (Addr × Obj)) (s : Shared) (σ : St) (H : Hp) (x : V) (v vl vu : Value) (lo hi : Option Int) (sl : Addr) (Q : VK), Inv X pins σ H s → RelV x v → s.heap.IsSliceOf sl vl vu .none → IsPart vl lo → IsPart vu hi → r x lo hi H Q →
    ∃ T id, typeLookup (.type T) "__getitem__" = pure (some (.builtin id)) ∧ s.TypeIs v T ∧ wpAny (model X.prog X.w) X.A (getItem v (.ref sl)) (EP X pins σ Q) X.xe s
def tSl (r : V → Option Int → Option Int → Hp → VK → Prop) (te : TE) (tl th : TO) : TE := fun σ H Q => te σ H fun x H1 => tl σ H1 fun l H2 => th σ H2 fun u H3 => r x l u H3 Q
theorem pe_slice {r : V → Option Int → Option Int → Hp → VK → Prop} (hr : SlR X r) (he : PE X e te) (hl : PO X lo tl) (hu : PO X hi th) : PE X (.Subscript e (.Slice lo hi none p2) pos) (tSl r te tl th) := by
  intro pins s σ H Q I h
  refine Subscript_ (thn (he pins s σ H _ I h) fun v s1 ⟨x, H1, I1, r1, q1⟩ => ?_)
  refine wpAny_Slice (thn (hl pins s1 σ H1 _ I1 q1) fun vl s2 ⟨l, H2, I2, pl, q2⟩ => thn (hu pins s2 σ H2 _ I2 q2) fun vu s3 ⟨u, H3, I3, pu, q3⟩ => ?_)
  rw [evalPart_none]
  refine wpAny_pure ?_
  have I4 : Inv X pins σ H3 { s3 with heap := s3.heap.push { cls := .type "slice", data := .fields #[vl, vu, .none] } } := I3.kept (t' := s3.toks) fun b ob q => Heap.get?_push_of_some _ q
  obtain ⟨T, id, hT, ht, hg⟩ := hr pins { s3 with heap := s3.heap.push { cls := .type "slice", data := .fields #[vl, vu, .none] } } σ H3 x v vl vu l u s3.heap.objs.size Q I4 r1 (Heap.IsSliceOf.new ..) pl pu q3
  show wpAny (model X.prog X.w) X.A (subscriptTail e (.Slice lo hi none p2) v (.ref s3.heap.objs.size)) (EP X pins σ Q) X.xe { s3 with heap := s3.heap.push { cls := .type "slice", data := .fields #[vl, vu, .none] } }
  exact tail_any (ops := [.ref s3.heap.objs.size, v]) ht hT hg (by with_unfolding_all rfl)
def cutV (xs : List V) (lo hi : Option Int) : List V := (xs.drop (HT.sIx xs.length 0 lo)).take (HT.sIx xs.length xs.length hi - HT.sIx xs.length 0 lo)
theorem cutV_length (xs : List V) (lo hi : Option Int) : (cutV xs lo hi).length ≤ xs.length := by
  unfold cutV
  rw [List.length_take, List.length_drop]
  omega
def rSlT (K : PySem.W.Frag) : V → Option Int → Option Int → Hp → VK → Prop := fun x lo hi H Q => ∃ a xs, x = .ref a ∧ SqT K H a xs ∧
  ¬ (HT.sIx xs.length 0 lo = 0 ∧ HT.sIx xs.length xs.length hi = xs.length) ∧ ∀ p, H p = none → Q (.ref p) (upd H p (.tup (cutV xs lo hi)))
theorem sl_tup : SlR X (rSlT X.K) := by
  intro pins s σ H x v vl vu lo hi sl Q I rx hs pl pu h
  obtain ⟨a, xs, rfl, hx, hw, q⟩ := h
  cases rx
  obtain ⟨its, r, ht, hz⟩ := I.tuple hx
  have hlen : its.toArray.size = xs.length := by rw [List.size_toArray]; exact r.length.symm
  refine ⟨"tuple", _, PyProof.Rows.slot_tuple_getitem.lookup, ht.typeIs, ?_⟩
  refine HT.getItem_tuple_cut ht hs pl pu (by rw [hlen]; exact hw) ?_ (by rw [hlen]; exact hz)
  rw [hlen]
  refine ⟨.ref s.heap.objs.size, _, I.laid (t' := s.toks) (o := .tup (cutV xs lo hi)) (fun b ob q => Heap.get?_push_of_some _ q) (Nat.le_refl _) ?_, rfl, q _ (I.hok.fresh (Nat.le_refl _))⟩
  exact ⟨Nat.le_trans (cutV_length xs lo hi) hz, _, (r.drop (HT.sIx xs.length 0 lo)).take (HT.sIx xs.length xs.length hi - HT.sIx xs.length 0 lo), IsTup.new _ _⟩
def rCatT (K : PySem.W.Frag) : R2 := fun x y H Q => ∃ a b xs ys, x = .ref a ∧ y = .ref b ∧ SqT K H a xs ∧ SqT K H b ys ∧ xs ≠ [] ∧ xs.length + ys.length ≤ sizeLine ∧
  (ys = [] → Q (.ref a) H) ∧ (ys ≠ [] → ∀ p, H p = none → Q (.ref p) (upd H p (.tup (xs ++ ys))))
theorem Vals.nil_iff {xs : List V} {us : List Value} (r : Vals xs us) : us = [] ↔ xs = [] := by
  cases r with
  | nil => simp
  | cons _ _ => simp
theorem op_catT : OpR X (binaryOp .Add) (rCatT X.K) := by
  intro pins s σ H x y v u Q I rx ry h
  obtain ⟨a, b, xs, ys, rfl, rfl, ha, hb, hx, hz, q1, q2⟩ := h
  cases rx
  cases ry
  obtain ⟨its, r1, p1, _⟩ := I.tuple ha
  obtain ⟨its2, r2, p2, _⟩ := I.tuple hb
  refine HT.cat_tup p1 p2 (fun z => hx (r1.nil_iff.mp z)) (fun z => ⟨.ref a, H, I, rfl, q1 (r2.nil_iff.mp z)⟩) (fun z => ?_) (by rw [← r1.length, ← r2.length]; exact hz)
  refine ⟨.ref s.heap.objs.size, _, I.laid (t' := s.toks) (o := .tup (xs ++ ys)) (fun b ob q => Heap.get?_push_of_some _ q) (Nat.le_refl _) ?_, rfl, q2 (fun w => z (r2.nil_iff.mpr w)) _ (I.hok.fresh (Nat.le_refl _))⟩
  exact ⟨by rw [List.length_append]; exact hz, _, r1.append r2, IsTup.new _ _⟩
end
end L2
namespace L2
open PySem PySem.Spec PyProof.Rows
def ixN (n : Nat) (i : Int) : Option Nat := if 0 ≤ i then (if i < n then some i.toNat else none) else if -(n : Int) ≤ i then some (i + n).toNat else none
def atI {α : Type} (xs : List α) (i : Int) : Option α := (ixN xs.length i).bind fun j => xs[j]?
theorem ixN_seq {n : Nat} {i : Int} {j : Nat} (h : ixN n i = some j) : seqIndex? i n = some j ∧ j < n ∧ -(n : Int) ≤ i ∧ i < n := by
  unfold ixN at h
  by_cases h0 : 0 ≤ i
  · rw [if_pos h0] at h
    by_cases h1 : i < n
    · rw [if_pos h1] at h
      have e : i.toNat = j := Option.some.inj h
      exact ⟨by rw [seqIndex_of h0 h1, e], by omega, by omega, h1⟩
    · rw [if_neg h1] at h; cases h
  · rw [if_neg h0] at h
    by_cases h1 : -(n : Int) ≤ i
    · rw [if_pos h1] at h
      have e : (i + n).toNat = j := Option.some.inj h
      exact ⟨by rw [seqIndex_neg (by omega) h1, e], by omega, h1, by omega⟩
    · rw [if_neg h1] at h; cases h
theorem atI_get {α : Type} {xs : List α} {i : Int} {v : α} (h : atI xs i = some v) : ∃ j, seqIndex? i xs.length = some j ∧ xs[j]? = some v ∧ j < xs.length ∧ -(xs.length : Int) ≤ i ∧ i < xs.length := by
  unfold atI at h
  cases e : ixN xs.length i with
  | none => rw [e] at h; cases h
  | some j =>
    rw [e] at h
    obtain ⟨h1, h2, h3, h4⟩ := ixN_seq e
    exact ⟨j, h1, h, h2, h3, h4⟩
theorem atI_nat {α : Type} {xs : List α} {j : Nat} {v : α} (h : xs[j]? = some v) : atI xs (j : Int) = some v := by
  have hj : j < xs.length := (List.getElem?_eq_some_iff.mp h).1
  have e : ixN xs.length (j : Int) = some j := by
    unfold ixN
    rw [if_pos (by omega), if_pos (by omega)]; simp
  unfold atI; rw [e]; exact h
def PlainIx (b : Expr) : Prop := ∀ o i, subscripted b false o i = operate [o, i] (getItem o i)
def IxR (X : Cx) (r : R2) : Prop :=
  ∀ (value slice : Expr) (pins : List (Addr × Obj)) (s : Shared) (σ : St) (H : Hp) (x y : V) (v u : Value) (Q : VK), Inv X pins σ H s → RelV x v → RelV y u → r x y H Q →
    subscripted slice false v u = operate [v, u] (getItem v u) → wpAny (model X.prog X.w) X.A (subscriptTail value slice v u) (EP X pins σ Q) X.xe s
def MtR (X : Cx) (id : String) (r : V → List V → Hp → VK → Prop) : Prop :=
  ∀ (pins : List (Addr × Obj)) (s : Shared) (σ : St) (H : Hp) (x : V) (xs : List V) (v : Value) (us : List Value) (Q : VK), Inv X pins σ H s → RelV x v → Vals xs us → r x xs H Q →
    wpAny (model X.prog X.w) X.A (call (.builtin id) (v :: us)) (EP X pins σ Q) X.xe s
section
variable {X : Cx} {a b : Expr} {ta tb : TE} {pos : Pos}
theorem pe_ix {r : R2} (hr : IxR X r) (ha : PE X a ta) (hb : PE X b tb) (hs : PlainIx b) : PE X (.Subscript a b pos) (tOp r ta tb) := by
  intro pins s σ H Q I h
  exact Subscript_ (binT ha hb I h fun v u s2 x y H2 I2 rx ry q => hr a b pins s2 σ H2 x y v u Q I2 rx ry q (hs _ _))
def rIxL (K : PySem.W.Frag) : R2 := fun x y H Q => ∃ p xs i v, x = .ref p ∧ y = .int i ∧ SqL K H p xs ∧ atI xs i = some v ∧ Q v H
def rIxT (K : PySem.W.Frag) : R2 := fun x y H Q => ∃ p xs i v, x = .ref p ∧ y = .int i ∧ SqT K H p xs ∧ atI xs i = some v ∧ Q v H
theorem ix_list : IxR X (rIxL X.K) := by
  intro value slice pins s σ H x y v u Q I rx ry h hs
  obtain ⟨p, xs, i, z, rfl, rfl, hq, he, q⟩ := h
  cases rx
  obtain ⟨t, rfl⟩ := ry
  obtain ⟨its, r, pl, hz⟩ := I.list hq
  obtain ⟨j, h1, h2, h3, h4, h5⟩ := atI_get he
  obtain ⟨w, ew, rw'⟩ := r.get h2
  have hl := r.length
  have hn := line63
  have fin : EP X pins σ Q w s := ⟨z, H, I, rw', q⟩
  by_cases h0 : 0 ≤ i
  · have hj : i.toNat = j := by
      rw [seqIndex_of h0 h5] at h1
      exact Option.some.inj h1
    exact item_listR pl.isList h0 (by omega) (by rw [hj]; simpa using ew) fin hs
  · have hj : (i + (its.toArray.size : Int)).toNat = j := by
      rw [seqIndex_neg (by omega) h4] at h1
      rw [List.size_toArray, ← hl]
      exact Option.some.inj h1
    exact subscriptTail_builtinR (x := w) pl.isList.typeIs slot_list_getitem.lookup
      (wpAny_getItem_list_neg (Q := fun r s' => r = w ∧ EP X pins σ Q r s') pl.isList (by omega) (by rw [List.size_toArray] <;> omega) (by omega) (by rw [hj]; simpa using ew) ⟨rfl, fin⟩) hs
theorem ix_tup : IxR X (rIxT X.K) := by
  intro value slice pins s σ H x y v u Q I rx ry h hs
  obtain ⟨p, xs, i, z, rfl, rfl, hq, he, q⟩ := h
  cases rx
  obtain ⟨t, rfl⟩ := ry
  obtain ⟨its, r, pl, hz⟩ := I.tuple hq
  obtain ⟨j, h1, h2, h3, h4, h5⟩ := atI_get he
  obtain ⟨w, ew, rw'⟩ := r.get h2
  have hl := r.length
  have hn := line63
  have fin : EP X pins σ Q w s := ⟨z, H, I, rw', q⟩
  exact subscriptTail_builtinR (x := w) pl.typeIs slot_tuple_getitem.lookup
    (getItem_tuple (j := j) (Q := fun r s' => r = w ∧ EP X pins σ Q r s') pl (by omega) (by omega) (by rw [List.size_toArray, ← hl]; exact h1) (by simpa using ew) ⟨rfl, fin⟩) hs
theorem slice_bounds (lo hi : Option Int) (n : Nat) : (sliceBounds lo hi none n).1 = ((HT.sIx n 0 lo : Nat) : Int) ∧ (sliceBounds lo hi none n).2.1 = ((HT.sIx n n hi : Nat) : Int) ∧ (sliceBounds lo hi none n).2.2 = 1 := by
  refine ⟨?_, ?_, rfl⟩
  · cases lo with
    | none => simp [sliceBounds, HT.sIx]
    | some i =>
      simp only [sliceBounds, HT.sIx, Option.getD_none, show (1 : Int) > 0 by decide, if_true]
      by_cases h : i < 0
      · simp only [h, if_true] <;> omega
      · simp only [h, if_false] <;> omega
  · cases hi with
    | none => simp [sliceBounds, HT.sIx]
    | some i =>
      simp only [sliceBounds, HT.sIx, Option.getD_none, show (1 : Int) > 0 by decide, if_true]
      by_cases h : i < 0
      · simp only [h, if_true] <;> omega
      · simp only [h, if_false] <;> omega
theorem slicePick_cut (its : List Value) (lo hi : Option Int) : slicePick its.toArray lo hi none = ((its.drop (HT.sIx its.length 0 lo)).take (HT.sIx its.length its.length hi - HT.sIx its.length 0 lo)).toArray := by
  obtain ⟨h1, h2, h3⟩ := slice_bounds lo hi its.toArray.size
  unfold slicePick
  rw [h1, h2, h3]
  simp only [sliceRange_one, pick_run, List.size_toArray] <;> rfl
def rSlL (K : PySem.W.Frag) : V → Option Int → Option Int → Hp → VK → Prop := fun x lo hi H Q => ∃ a xs, x = .ref a ∧ SqL K H a xs ∧ ∀ p, H p = none → Q (.ref p) (upd H p (.lst (cutV xs lo hi)))
theorem sl_list : SlR X (rSlL X.K) := by
  intro pins s σ H x v vl vu lo hi sl Q I rx hs pl pu h
  obtain ⟨a, xs, rfl, hx, q⟩ := h
  cases rx
  obtain ⟨its, r, ht, hz⟩ := I.list hx
  have hlen := r.length
  refine ⟨"list", _, slot_list_getitem.lookup, ht.isList.typeIs, ?_⟩
  refine wpAny_getItem_list_slice ht.isList hs pl pu .none (by simp) ?_ (by rw [List.size_toArray] <;> omega)
  rw [slicePick_cut, ← hlen]
  refine ⟨.ref s.heap.objs.size, _, I.laid (t' := s.toks) (o := .lst (cutV xs lo hi)) (fun b ob q => Heap.get?_push_of_some _ q) (Nat.le_refl _) ?_, rfl, q _ (I.hok.fresh (Nat.le_refl _))⟩
  exact ⟨Nat.le_trans (cutV_length xs lo hi) hz, _, 0, (r.drop (HT.sIx xs.length 0 lo)).take (HT.sIx xs.length xs.length hi - HT.sIx xs.length 0 lo), Heap.get?_push_size _ rfl⟩
def flatV : V → Bool
  | .non => true
  | .bl _ => true
  | .int _ => true
  | .str _ => true
  | _ => false
def eqV : V → V → Bool
  | .non, .non => true
  | .bl a, .bl b => a == b
  | .bl a, .int b => (if a then 1 else 0) == b
  | .int a, .bl b => a == (if b then 1 else 0)
  | .int a, .int b => a == b
  | .str a, .str b => a == b
  | _, _ => false
theorem eqAt_V {A : Around} {s : Shared} {y x : V} {u v : Value} (ry : RelV y u) (rx : RelV x v) (fy : flatV y = true) (fx : flatV x = true) : SeqAt.EqAt A s u v (eqV y x) := by
  cases y with
  | non =>
    cases ry
    cases x with
    | non => cases rx; exact SeqAt.EqAt.same _
    | bl b => cases rx; exact SeqAt.EqAt.none_bool b
    | int b => obtain ⟨t, rfl⟩ := rx; exact SeqAt.EqAt.none_int b t
    | str b => obtain ⟨t, rfl⟩ := rx; exact SeqAt.EqAt.none_str b t
    | _ => exact absurd (show false = true from fx) Bool.false_ne_true
  | bl a =>
    cases ry
    cases x with
    | non => cases rx; exact SeqAt.EqAt.bool_none a
    | bl b => cases rx; exact SeqAt.EqAt.bool_bool a b
    | int b => obtain ⟨t, rfl⟩ := rx; exact SeqAt.EqAt.bool_int a b t
    | str b => obtain ⟨t, rfl⟩ := rx; exact SeqAt.EqAt.bool_str a b t
    | _ => exact absurd (show false = true from fx) Bool.false_ne_true
  | int a =>
    obtain ⟨t', rfl⟩ := ry
    cases x with
    | non => cases rx; exact SeqAt.EqAt.int_none a t'
    | bl b => cases rx; exact SeqAt.EqAt.int_bool a t' b
    | int b => obtain ⟨t, rfl⟩ := rx; exact SeqAt.EqAt.int_int a t' b t
    | str b => obtain ⟨t, rfl⟩ := rx; exact SeqAt.EqAt.int_str a t' b t
    | _ => exact absurd (show false = true from fx) Bool.false_ne_true
  | str a =>
    obtain ⟨t', rfl⟩ := ry
    cases x with
    | non => cases rx; exact SeqAt.EqAt.str_none a t'
    | bl b => cases rx; exact SeqAt.EqAt.str_bool a t' b
    | int b => obtain ⟨t, rfl⟩ := rx; exact SeqAt.EqAt.str_int a t' b t
    | str b => obtain ⟨t, rfl⟩ := rx; exact SeqAt.EqAt.str_str a t' b t
    | _ => exact absurd (show false = true from fx) Bool.false_ne_true
  | _ => exact absurd (show false = true from fy) Bool.false_ne_true
def eqU (x : V) (u : Value) : Bool := match u with
  | .none => eqV .non x
  | .bool b => eqV (.bl b) x
  | .int i _ => eqV (.int i) x
  | .str z _ => eqV (.str z) x
  | _ => false
theorem eqU_of {x y : V} {u : Value} (r : RelV y u) (f : flatV y = true) : eqU x u = eqV y x := by
  cases y with
  | non => cases r; rfl
  | bl b => cases r; rfl
  | int i => obtain ⟨t, rfl⟩ := r; rfl
  | str z => obtain ⟨t, rfl⟩ := r; rfl
  | _ => exact absurd (show false = true from f) Bool.false_ne_true
theorem any_eqU {x : V} : ∀ {xs : List V} {us : List Value}, Vals xs us → xs.all flatV = true → us.any (eqU x) = xs.any fun y => eqV y x
  | _, _, .nil, _ => rfl
  | y :: xs, u :: us, .cons r t, f => by
    rw [List.all_cons, Bool.and_eq_true] at f
    rw [List.any_cons, List.any_cons, eqU_of r f.1, any_eqU t f.2]
theorem mem_eqAt {A : Around} {s : Shared} {x : V} {v : Value} (rx : RelV x v) (fx : flatV x = true) : ∀ {xs : List V} {us : List Value}, Vals xs us → xs.all flatV = true → ∀ u ∈ us, SeqAt.EqAt A s u v (eqU x u)
  | _, _, .nil, _ => fun u hu => by cases hu
  | y :: xs, u :: us, .cons r t, f => fun u' hu => by
    rw [List.all_cons, Bool.and_eq_true] at f
    rcases List.mem_cons.mp hu with rfl | hu
    · rw [eqU_of r f.1]; exact eqAt_V r rx f.1 fx
    · exact mem_eqAt rx fx t f.2 u' hu
def inV (x : V) (xs : List V) : Bool := xs.any fun y => eqV y x
def rIn (K : PySem.W.Frag) (neg : Bool) : R2 := fun x y H Q => ∃ p xs, y = .ref p ∧ (SqL K H p xs ∨ SqT K H p xs) ∧ flatV x = true ∧ xs.all flatV = true ∧ Q (.bl (if neg then !inV x xs else inV x xs)) H
theorem op_notIn_seq : OpR X (compareOp .NotIn) (rIn X.K true) := by
  intro pins s σ H x y v u Q I rx ry h
  obtain ⟨p, xs, rfl, hq, fx, fs, q⟩ := h
  cases ry
  rcases hq with hq | hq
  · obtain ⟨its, r, pl, hz⟩ := I.list hq
    refine SeqAt.notIn_listAt (eqU x) pl.isList (fun w hw => mem_eqAt rx fx r fs w (by simpa using hw)) ⟨.bl _, H, I, rfl, ?_⟩
    rw [show its.toArray.any (eqU x) = its.any (eqU x) by simp, any_eqU r fs]
    exact q
  · obtain ⟨its, r, pl, hz⟩ := I.tuple hq
    refine SeqAt.notIn_tupleAt (eqU x) pl (fun w hw => mem_eqAt rx fx r fs w (by simpa using hw)) ⟨.bl _, H, I, rfl, ?_⟩
    rw [show its.toArray.any (eqU x) = its.any (eqU x) by simp, any_eqU r fs]
    exact q
theorem call_len_seq : CallR X (.builtin "len") (fun xs H Q => ∃ p ys, xs = [.ref p] ∧ (SqL X.K H p ys ∨ SqT X.K H p ys) ∧ Q (.int ys.length) H) := by
  intro pins s σ H xs us Q I r h
  obtain ⟨p, ys, rfl, hq, q⟩ := h
  obtain ⟨u, rfl, rx⟩ := vals1 r
  cases rx
  have hn := line63
  rcases hq with hq | hq
  · obtain ⟨its, r', pl, hz⟩ := I.list hq
    have hlen := r'.length
    exact Calls.call_len_list pl.isList (by simp only [List.size_toArray] <;> omega) ⟨.int ys.length, H, I.tok _, ⟨s.toks + 1, by rw [List.size_toArray, hlen]⟩, q⟩
  · obtain ⟨its, r', pl, hz⟩ := I.tuple hq
    have hlen := r'.length
    exact len_tuple pl (by simp only [List.size_toArray] <;> omega) ⟨.int ys.length, H, I.tok _, ⟨s.toks + 1, by rw [List.size_toArray, hlen]⟩, q⟩
theorem call_list_of : CallR X (.type "list") (fun xs H Q => ∃ p ys, xs = [.ref p] ∧ (SqL X.K H p ys ∨ SqT X.K H p ys) ∧ ∀ l, H l = none → Q (.ref l) (upd H l (.lst ys))) := by
  intro pins s σ H xs us Q I r h
  obtain ⟨p, ys, rfl, hq, q⟩ := h
  obtain ⟨u, rfl, rx⟩ := vals1 r
  cases rx
  have fin : ∀ (its : List Value), Vals ys its → ys.length ≤ sizeLine → ∀ (h' : Heap) (c' : Nat), (∀ b o', s.heap.get? b = some o' → h'.get? b = some o') →
      h'.get? s.heap.objs.size = some { cls := .type "list", dict := none, data := .seq its.toArray c', slots := #[] } → EP X pins σ Q (.ref s.heap.objs.size) { s with heap := h' } := fun its r' hz h' c' kp e =>
    ⟨.ref s.heap.objs.size, _, I.laid (t' := s.toks) kp (Nat.le_refl _) (show ObjOk X.prog X.w _ h' _ (.lst ys) from ⟨hz, its, c', r', e⟩), rfl, q _ (I.hok.fresh (Nat.le_refl _))⟩
  rcases hq with hq | hq
  · obtain ⟨its, r', pl, hz⟩ := I.list hq
    have hlen := r'.length
    obtain ⟨o, ho, hc, n, hd⟩ := pl.isList
    exact call_list_seq p (.inl rfl) ho hc hd (fun h' c' kp e => fin its r' hz h' c' kp e) (by simp only [List.size_toArray] <;> omega)
  · obtain ⟨its, r', pl, hz⟩ := I.tuple hq
    have hlen := r'.length
    obtain ⟨o, ho, hc, n, hd⟩ := pl
    exact call_list_seq p (.inr rfl) ho hc hd (fun h' c' kp e => fin its r' hz h' c' kp e) (by simp only [List.size_toArray] <;> omega)
def tyV (K : PySem.W.Frag) (T : String) (x : V) (H : Hp) : Prop := match x with
  | .str _ => T = "str"
  | .int _ => T = "int"
  | .ref p => (T = "list" ∧ ∃ xs, SqL K H p xs) ∨ (T = "tuple" ∧ ∃ o, K.lookup p = some o ∧ o.cls = .type "tuple" ∧ o.dict = none) ∨
      (T = "dict" ∧ ((∃ kvs, H p = some (.dK kvs)) ∨ ∃ kvs, H p = some (.dT kvs))) ∨ (T = "set" ∧ ∃ S n, H p = some (.set S n))
  | _ => False
theorem tyV_is {pins : List (Addr × Obj)} {σ : St} {H : Hp} {s : Shared} {T : String} {x : V} {v : Value} (I : Inv X pins σ H s) (r : RelV x v) (ty : tyV X.K T x H) :
    s.TypeIs v T ∧ ∀ a, v = .ref a → ∃ ob, s.heap.get? a = some ob ∧ ob.dict = none := by
  cases x with
  | str z =>
    obtain ⟨t, rfl⟩ := r
    cases (show T = "str" from ty)
    exact ⟨typeIs_str s z t, fun _ e => nomatch e⟩
  | int i =>
    obtain ⟨t, rfl⟩ := r
    cases (show T = "int" from ty)
    exact ⟨typeIs_int s i t, fun _ e => nomatch e⟩
  | ref p =>
    cases r
    rcases ty with ⟨rfl, xs, hq⟩ | ⟨rfl, o, hk, hc, hd⟩ | ⟨rfl, hk⟩ | ⟨rfl, S, n, hk⟩
    · obtain ⟨its, _, pl, _⟩ := I.list hq
      refine ⟨pl.isList.typeIs, fun a e => ?_⟩
      cases e
      obtain ⟨o, n, e, c, hd, _⟩ := pl
      exact ⟨o, e, hd⟩
    · refine ⟨⟨o, I.kIn p o hk, hc⟩, fun a e => ?_⟩
      cases e
      exact ⟨o, I.kIn _ o hk, hd⟩
    · have z : ∃ o, s.heap.get? p = some o ∧ o.ExactDict := by
        rcases hk with ⟨kvs, hk⟩ | ⟨kvs, hk⟩
        · obtain ⟨_, _, _, _, o, _, _, e, ex, _⟩ := I.hok p _ hk
          exact ⟨o, e, ex⟩
        · obtain ⟨_, _, _, _, o, _, _, e, ex, _⟩ := I.hok p _ hk
          exact ⟨o, e, ex⟩
      obtain ⟨o, e, ex⟩ := z
      refine ⟨⟨o, e, ex.1⟩, fun a e2 => ?_⟩
      cases e2
      exact ⟨o, e, ex.2.1⟩
    · obtain ⟨o, _, _, _, e, ex, _⟩ := I.hok p _ hk
      refine ⟨⟨o, e, ex.1⟩, fun a e2 => ?_⟩
      cases e2
      exact ⟨o, e, ex.2.1⟩
  | _ => exact False.elim ty
def tBM (K : PySem.W.Frag) (T : String) (r : V → List V → Hp → VK → Prop) (to : TE) (t : TA) : TE := fun σ H Q => to σ H fun x H1 => tyV K T x H1 ∧ t σ H1 fun xs H2 => r x xs H2 Q
variable {o e : Expr} {es : List Expr} {to : TE} {t : TA} {name : Str} {apos cpos : Pos} {T id : String} {r : V → List V → Hp → VK → Prop}
theorem pe_bm (pa : PlainAttrs T) (slot : Slot T name id) (hty : typeOf (.builtin id) = pure (.type "method_descriptor")) (hm : MtR X id r) (ho : PE X o to) (ha : PA X (e :: es) t)
    (hbase : attributeBase o name X.env (eval o X.env) = eval o X.env := by rfl)
    (hfew : ((backTo cpos (starEach (e :: es) X.env)).all (fun x => !x.1) && (backToKw cpos (keywordEach [] X.env)).all (fun x => x.1.isSome)
      && decide ((e :: es).length + ([] : List Keyword).length + (if ([] : List Keyword).isEmpty then 0 else 1) < 30)) = true := by rfl)
    (hline : (apos.endLine == cpos.line) = true := by rfl) (hs : starEach (e :: es) X.env = (false, eval e X.env) :: starEach es X.env := by rfl) (hplain : (backTo cpos (starEach es X.env)).any (·.1) = false := by rfl) :
    PE X (.Call (.Attribute o name apos) (e :: es) [] cpos) (tBM X.K T r to t) := by
  intro pins s σ H Q I h
  refine wpAny_Call_method_late hbase hfew hline rfl (thn (ho pins s σ H _ I h) fun v s1 ⟨x, H1, I1, r1, ty, q1⟩ => ?_)
  obtain ⟨h1, h2⟩ := tyV_is I1 r1 ty
  refine ⟨T, id, pa, slot, hty, h1, h2, ?_⟩
  have hA := ha cpos pins s1 σ H1 _ I1 q1
  rw [hs] at hA ⊢
  refine Calls.callWith_builtin (by show (false || (backTo cpos (starEach es X.env)).any (·.1)) = false; rw [hplain] <;> rfl) (Calls.evalArgs_plain ?_)
  exact thn hA fun us s2 ⟨vs, H2, I2, r2, q2⟩ => hm pins s2 σ H2 x vs v us Q I2 r1 r2 q2
end
end L2
namespace L2
open PySem PySem.Spec PyProof.Rows
def MtM (X : Cx) (id : String) (r : V → List V → Hp → VK → Prop) : Prop :=
  ∀ (pins : List (Addr × Obj)) (s : Shared) (σ : St) (H : Hp) (x : V) (xs : List V) (v : Value) (us : List Value) (Q : VK), Inv X pins σ H s → RelV x v → Vals xs us → r x xs H Q →
    wpAny (model X.prog X.w) X.A (call (.builtin id) (v :: us)) (EP X pins σ Q) X.xe s
theorem Vals.one : ∀ {x : V} {us : List Value}, Vals [x] us → ∃ u, us = [u] ∧ RelV x u
  | _, _, .cons r .nil => ⟨_, rfl, r⟩
section
variable {X : Cx} {pins : List (Addr × Obj)} {σ : St} {H : Hp} {s : Shared} {l b : Addr} {xs ys zs : List V}
theorem Inv.lset {its its' : List Value} {n : Nat} {f : Array Value → Array Value} {t' : Nat} (I : Inv X pins σ H s) (hH : H l = some (.lst xs))
    (e : s.heap.get? l = some { cls := .type "list", data := .seq its.toArray n }) (hf : f its.toArray = its'.toArray) (hv : Vals ys its') (hz : ys.length ≤ sizeLine) :
    Inv X pins σ (upd H l (.lst ys)) { s with heap := s.heap.update l (Obj.mapSeq f), toks := t' } := by
  have q := PySem.IsL.update e f
  rw [hf] at q
  refine I.write (x := l) (e := l) (by rw [hH]; exact trivial) (.inl rfl) (fun b' u hb hu => (Heap.get?_update_other s.heap (Obj.mapSeq f) (Ne.symm hb)).trans hu) ⟨_, q⟩ ?_
  exact ⟨hz, its', _, hv, q⟩
theorem Inv.lnew {its : List Value} {t' : Nat} (I : Inv X pins σ H s) (hv : Vals ys its) (hz : ys.length ≤ sizeLine) :
    Inv X pins σ (upd H s.heap.objs.size (.lst ys)) { s with heap := s.heap.push { cls := .type "list", data := .seq its.toArray }, toks := t' } :=
  I.laid (fun _ _ q => Heap.get?_push_of_some _ q) (Nat.le_refl _) ⟨hz, its, 0, hv, Heap.get?_push_size _ rfl⟩
theorem Inv.fresh (I : Inv X pins σ H s) : H s.heap.objs.size = none := I.hok.fresh (Nat.le_refl _)
theorem Inv.lstM (I : Inv X pins σ H s) (hH : H l = some (.lst xs)) : xs.length ≤ sizeLine ∧ ∃ (its : List Value) (n : Nat), Vals xs its ∧ xs.length = its.length ∧ s.heap.get? l = some { cls := .type "list", data := .seq its.toArray n } := by
  obtain ⟨z, its, n, r, e⟩ := I.hok l _ hH
  exact ⟨z, its, n, r, r.length, e⟩
end
section
variable {X : Cx}
def rAppend : V → List V → Hp → VK → Prop := fun x vs H Q => ∃ l xs y, x = .ref l ∧ vs = [y] ∧ H l = some (.lst xs) ∧ xs.length < sizeLine ∧ Q .non (upd H l (.lst (xs ++ [y])))
theorem mt_append : MtM X "list.append" rAppend := by
  intro pins s σ H x vs v us Q I rx rv h
  obtain ⟨l, xs, y, rfl, rfl, hH, hz, q⟩ := h
  cases rx
  obtain ⟨u, rfl, ru⟩ := rv.one
  obtain ⟨z, its, n, r, hl, e⟩ := I.lstM hH
  refine call_meets F.slot_list_append ⟨_, e, rfl⟩ F.entry_list_append (F.args_list_append_2 _ _) (PySem.list_append l its.toArray n u (by rw [List.size_toArray]; omega)) ⟨e, ?_⟩
  refine ⟨.non, _, I.lset (its' := its ++ [u]) hH e (by simp) (r.append (.cons ru .nil)) ?_, rfl, q⟩
  rw [List.length_append, List.length_singleton]
  omega
def rCat : R2 := fun x y H Q => ∃ l b xs zs, x = .ref l ∧ y = .ref b ∧ H l = some (.lst xs) ∧ H b = some (.lst zs) ∧ xs.length + zs.length ≤ sizeLine ∧ ∀ p, H p = none → Q (.ref p) (upd H p (.lst (xs ++ zs)))
theorem op_cat : OpR X (binaryOp .Add) rCat := by
  intro pins s σ H x y v u Q I rx ry h
  obtain ⟨l, b, xs, zs, rfl, rfl, hH, hB, hz, q⟩ := h
  cases rx
  cases ry
  obtain ⟨z, its, n, r, hl, e⟩ := I.lstM hH
  obtain ⟨z2, its2, n2, r2, hl2, e2⟩ := I.lstM hB
  refine PySem.P.add_list e e2 ?_ (by rw [List.size_toArray, List.size_toArray]; omega)
  have ea : its.toArray ++ its2.toArray = (its ++ its2).toArray := by simp
  rw [ea]
  exact ⟨.ref _, _, I.lnew (t' := s.toks) (r.append r2) (by rw [List.length_append]; omega), rfl, q _ I.fresh⟩
end
end L2
namespace Att
open PySem PySem.W PySem.Calls PyProof.Rows
theorem ints_of_wellAll {P : Params} {h : Heap} : ∀ (ns : List Int) (vs : List Value), WellAll P h vs (ns.map WData.int) → IntsAre vs ns := by
  intro ns
  induction ns with
  | nil =>
    intro vs w
    rw [List.map_nil] at w
    cases w
    exact .nil
  | cons n ns ih =>
    intro vs w
    rw [List.map_cons] at w
    cases w with
    | cons a b =>
      cases a
      exact .cons _ _ (ih _ b)
theorem script_of {l : OpenLaw} {n : Nat} (hn : l.most = some n) {P : Params} {h : Heap} {args : List WData} {vals : List Value}
    (hpre : l.row.toRowW.claim.pre args = true) (hwl : WellAll P h vals args) :
    ∃ a vs ns, vals = [Value.ref a] ∧ args = [WData.list (ns.map WData.int)] ∧ h.get? a = some { cls := .type "list", data := .seq vs.toArray } ∧ IntsAre vs ns ∧ ns.length ≤ n := by
  have hsh : WShape.hasAll [] args [.list .int] = true := (pre_splitW hpre).1
  have hc : l.pre.holds [] { args := args } = true := (pre_splitW hpre).2
  obtain ⟨d, r, rfl, h1, h2⟩ := hasAllW_cons hsh
  obtain rfl := hasAllW_nil h2
  obtain ⟨xs, rfl, h3⟩ := hasW_list h1
  obtain ⟨ns, rfl⟩ := items_int h3
  have hlen : ns.length ≤ n := by
    unfold OpenLaw.pre at hc
    have h4 : (WTm.not (.lt (.lit (.int (n : Int))) (.len (.arg 0)))).holds [] { args := [.list (ns.map .int)] } = true := by
      have h4 := (holds_andW hc).1
      rw [hn] at h4
      exact h4
    have h5 := condW_of h4 (w_not (w_lt w_lit (w_len_list (w_arg rfl))))
    rw [List.length_map] at h5
    refine Nat.le_of_not_lt fun q => ?_
    have q' : (n : Int) < ((ns.length : Nat) : Int) := by omega
    first
      | (rw [decide_eq_true q'] at h5; exact absurd h5 (by decide))
      | (simp at h5; omega)
  cases hwl with
  | cons w1 w2 =>
    cases w2
    cases w1 with
    | list ho hall => exact ⟨_, _, ns, rfl, rfl, ho, ints_of_wellAll ns _ hall, hlen⟩
theorem post_true (l : OpenLaw) (args : List WData) : l.row.toRowW.claim.post args (.bool true) args = true :=
  postW_of (r := l.row.toRowW) (X := (true == true))
    (show WShape.has [] (.bool true) .bool = true by first | rfl | decide | simp [WShape.has, WShape.arms, WShape.armsAll])
    (show (WTm.eq .res (.lit (.bool true))).value [] { args := args, res := some (.bool true), after := args } = some (.bool (true == true)) from w_eq_bool (w_res rfl) w_lit) rfl
theorem attach_call {l : OpenLaw} {n : Nat} {q : Program} {loose : List Str} {XP : (Str → Option Value) → Heap → Prop} {YP : World → Heap → Prop} {d : DefRec}
    (hn : l.most = some n) (hdf : d.params.defaults = [])
    (call : ∀ (w : World) (s₀ s₁ : Shared) (mg mb : Str → Option Value) (fa : Addr) (o : Obj) (pm cd doc : Value) (a : Addr) (vs : List Value) (ns : List Int),
      Ground q loose [] XP w s₀ mg mb s₁.heap → YP w s₁.heap →
      s₁.heap.get? fa = some o → o.data = .func (docDef d.name d.params d.body d.scope pm cd doc) → s₁.heap.CodeRec cd d.name → mg d.name = some (.ref fa) →
      s₁.heap.get? a = some { cls := .type "list", data := .seq vs.toArray } → IntsAre vs ns → ns.length ≤ n → s₁.gens = #[] →
      codeAny (model l.prog w) callerA (.call (.ref fa) ⟨[.ref a], []⟩) (fun r s' => r = .ok (.ret (.bool true)) ∧ OldK s₁.heap s'.heap ∧ s'.os = s₁.os ∧ AllBare s'.gens) s₁) :
    WalkO q loose XP YP l.row.toRowW d [] (fun f vs => PySem.call f vs) := by
  intro w s₀ s₁ mg mb G Y fa o pm cd doc dV kV ho hd hcd hD hmg hg args vals as hpre hlay hrd hwl hlo
  obtain rfl : dV = .none := Dflts.none hD hdf
  obtain rfl : kV = .none := Dflts.noKw hD
  obtain ⟨a, vs, ns, rfl, rfl, hobj, hints, hlen⟩ := script_of hn hpre hwl
  refine enter_call (codeAny_mono (call w s₀ s₁ mg mb fa o pm cd doc a vs ns G Y ho (fd_plain hd) hcd hmg hobj hints hlen hg) fun r s' hq => ?_)
  obtain ⟨rfl, h2, h3, h4⟩ := hq
  exact ⟨.inl ⟨.bool true, .bool true, [], rfl, fun _ => rfl, .bool true, post_true l _, fun _ => ⟨List.Pairwise.nil, fun _ hm => (nomatch hm)⟩⟩, h2, h3, h4⟩
end Att
namespace L2
open PySem PySem.Spec PyProof.Rows
theorem vals_ints : ∀ {vs : List Value} {ns : List Int}, IntsAre vs ns → Vals (ns.map V.int) vs
  | _, _, .nil => .nil
  | _, _, .cons n t h => .cons ⟨t, rfl⟩ (vals_ints h)
end L2
namespace L2
open PySem PySem.Spec PyProof.Rows
def inClass (s : Stmt) (j : Nat) : Stmt := match s with
  | .ClassDef _ _ _ body _ _ _ _ _ _ _ => body.getD j (.Pass ⟨0, 0, 0, 0⟩)
  | _ => .Pass ⟨0, 0, 0, 0⟩
def defArgs (s : Stmt) : Arguments := match s with
  | .FunctionDef _ a _ _ _ _ _ _ _ _ => a
  | _ => { posonlyargs := [], args := [], vararg := none, kwonlyargs := [], kw_defaults := [], kwarg := none, defaults := [] }
def defBody (s : Stmt) : List Stmt := match s with
  | .FunctionDef _ _ b _ _ _ _ _ _ _ => b
  | _ => []
def defScope (s : Stmt) : Scope := match s with
  | .FunctionDef _ _ _ _ _ _ sc _ _ _ => sc
  | _ => { kind := .function, names := [], isGenerator := false, isCoroutine := false }
abbrev CX0 : CXT := fun _ _ _ _ _ _ => False
abbrev E0 : XK := fun _ _ _ => False
theorem pass0 {X : Cx} : Passes CX0 X E0 := fun _ _ _ _ _ _ _ h => h.elim
structure Fun (K : PySem.W.Frag) (x qual : Str) (st : Stmt) (f : Addr) (fd : FuncData) : Prop where
  ex : ∃ (oc : Value) (od : Option Addr) (kV doc pm : Value) (an : Option Addr) (cdv ct : Value) (osl : Array (Option Value)),
    fd = PySem.W.fnOf x qual (defArgs st) (defBody st) (defScope st) .none kV doc pm an cdv ct ∧ K.lookup f = some ⟨oc, od, .func fd, osl⟩ ∧ PySem.W.codeIn K cdv qual = true
  kp : PySem.W.keepIn K (.ref f) = true
section
variable {P : Program} {w : World} {K : PySem.W.Frag} {mg : Str → Option Value} {base : Heap}
theorem Fun.ok {x qual : Str} {st : Stmt} {f : Addr} {fd : FuncData} {N ps : List Str} {k : Nat} {sp : Sp} (F : Fun K x qual st f fd) (S : FnScope N ps (defScope st)) (len : ∀ vs H Q E, sp vs H Q E → vs.length = ps.length)
    (hbody : ∀ (cdv : Value) (A : Around) (outer : List Env) (s : Shared) (H : Hp) (vs : List V) (Q : VK) (E : XK), Room k (A.deeper (envOfC qual (defScope st) s.heap.objs.size f cdv)) → sp vs H Q E →
      ∃ t, PSs (cxOf CX0 P w K mg base N qual (defScope st) f cdv A outer s H E).nox (defBody st) t ∧ t { nx := fun _ H' => Q .non H', rt := Q } (start N vs) H) : FnOk P w K mg base CX0 (k + 1) f fd ps sp := by
  obtain ⟨oc, od, kV, doc, pm, an, cdv, ct, osl, rfl, lk, hcd⟩ := F.ex
  refine fn_of lk hcd S len fun A outer s H vs Q E hr hsp => ?_
  obtain ⟨t, h, q⟩ := hbody cdv A outer s H vs Q E hr hsp
  exact ⟨t, h.nox, q⟩
theorem fun_mk {x qual : Str} {st : Stmt} {f : Addr} {oc : Value} {od an : Option Addr} {osl : Array (Option Value)} {kV doc pm cdv ct : Value} (l : K.lookup f = some ⟨oc, od, .func (PySem.W.fnOf x qual (defArgs st) (defBody st) (defScope st) .none kV doc pm an cdv ct), osl⟩)
    (c : PySem.W.codeIn K cdv qual = true) (k : PySem.W.keepIn K (.ref f) = true) : Fun K x qual st f (PySem.W.fnOf x qual (defArgs st) (defBody st) (defScope st) .none kV doc pm an cdv ct) := ⟨⟨oc, od, kV, doc, pm, an, cdv, ct, osl, rfl, l, c⟩, k⟩
end
theorem hu_of {A : Around} {k : Nat} (hr : Room k A) : A.units + 1 < cLine := Nat.lt_of_le_of_lt (Nat.add_le_add_left (by decide : 1 ≤ 64) _) hr.units
theorem small1000 {n : Nat} (h : n ≤ 1000) : n < sizeLine := Nat.lt_of_le_of_lt h (by decide)
section
variable {X : Cx}
theorem pv (i : Nat) {x : Str} {pos : Pos} (hN : X.N[i]? = some x := by rfl) (hv : Vis X.env.scope x := by first | exact Or.inl rfl | exact Or.inr (Or.inl rfl) | exact Or.inr (Or.inr rfl)) (hd : (x == ("__debug__" : Str)) = false := by decide)
    (hcd : (x == ("__classdict__" : Str)) = false := by decide) : PE X (.Name x pos) (tVar i) := pe_var hN hv hd hcd
end
theorem iteF {A B : Prop} (h : B) : if false = true then A else B := by
  rw [if_neg Bool.false_ne_true]
  exact h
theorem iteT {A B : Prop} (h : A) : if true = true then A else B := by
  rw [if_pos rfl]
  exact h
theorem ite2 {c A B : Prop} [Decidable c] (h1 : c → A) (h2 : ¬ c → B) : if c then A else B := by
  by_cases h : c
  · rw [if_pos h]
    exact h1 h
  · rw [if_neg h]
    exact h2 h
def Same (H H' : Hp) : Prop := ∀ b o, H b = some o → H' b = some o
theorem Same.refl (H : Hp) : Same H H := fun _ _ h => h
theorem Same.trans {H H1 H2 : Hp} (a : Same H H1) (b : Same H1 H2) : Same H H2 := fun c o h => b c o (a c o h)
theorem Same.seq {K : PySem.W.Frag} {H H' : Hp} {a : Addr} {xs : List V} (e : Same H H') (h : SqL K H a xs) : SqL K H' a xs := by
  rcases h with (h | ⟨o, h⟩) | h
  · exact .inl (.inl (e _ _ h))
  · exact .inl (.inr ⟨o, e _ _ h⟩)
  · exact .inr h
end L2
namespace L2
open PySem PySem.Spec PyProof.Rows
section
variable {κ : Type} [DecidableEq κ]
def valV (kvs : List (κ × V)) (k : κ) : Option V := (kvs.find? fun kv => decide (kv.1 = k)).map (·.2)
def putK (kvs : List (κ × V)) (k : κ) (v : V) : List (κ × V) :=
  if (kvs.any fun kv => decide (kv.1 = k)) = true then kvs.map (fun kv => if kv.1 = k then (kv.1, v) else kv) else kvs ++ [(k, v)]
theorem valV_pos {p : κ × V} {r : List (κ × V)} {k : κ} (e : p.1 = k) : valV (p :: r) k = some p.2 := by simp [valV, List.find?_cons, e]
theorem valV_neg {p : κ × V} {r : List (κ × V)} {k : κ} (e : ¬ p.1 = k) : valV (p :: r) k = valV r k := by simp [valV, List.find?_cons, e]
theorem valV_any (k : κ) : ∀ kvs : List (κ × V), (kvs.any fun kv => decide (kv.1 = k)) = (valV kvs k).isSome
  | [] => rfl
  | p :: r => by
    rw [List.any_cons]
    by_cases e : p.1 = k
    · simp only [valV_pos e, decide_eq_true e, Bool.true_or, Option.isSome_some]
    · rw [valV_neg e, decide_eq_false e, Bool.false_or]; exact valV_any k r
theorem valV_map (k j : κ) (y : V) : ∀ kvs : List (κ × V), valV (kvs.map fun kv => if kv.1 = k then (kv.1, y) else kv) j = (valV kvs j).map fun x => if j = k then y else x
  | [] => rfl
  | p :: r => by
    have ih := valV_map k j y r
    rw [List.map_cons]
    by_cases h : p.1 = k
    · rw [if_pos h]
      by_cases e : p.1 = j
      · rw [valV_pos (p := (p.1, y)) e, valV_pos e, Option.map_some, if_pos (e.symm.trans h)]
      · rw [valV_neg (p := (p.1, y)) e, valV_neg e, ih]
    · rw [if_neg h]
      by_cases e : p.1 = j
      · rw [valV_pos (p := p) e, valV_pos e, Option.map_some, if_neg (fun z => h (e.trans z))]
      · rw [valV_neg (p := p) e, valV_neg e, ih]
theorem valV_snoc (k j : κ) (y : V) : ∀ kvs : List (κ × V), valV kvs k = none → valV (kvs ++ [(k, y)]) j = if j = k then some y else valV kvs j
  | [], _ => by
    by_cases e : k = j
    · rw [if_pos e.symm]; exact valV_pos (p := (k, y)) e
    · rw [if_neg (fun z => e z.symm)]; exact valV_neg (p := (k, y)) e
  | p :: r, hn => by
    rw [List.cons_append]
    have hk : ¬ p.1 = k := fun z => by rw [valV_pos z] at hn; cases hn
    rw [valV_neg hk] at hn
    have ih := valV_snoc k j y r hn
    by_cases e : p.1 = j
    · rw [valV_pos e, valV_pos e, if_neg (fun z => hk (e.trans z))]
    · rw [valV_neg e, valV_neg e, ih]
theorem valV_put (kvs : List (κ × V)) (k j : κ) (y : V) : valV (putK kvs k y) j = if j = k then some y else valV kvs j := by
  unfold putK
  by_cases a : (kvs.any fun kv => decide (kv.1 = k)) = true
  · rw [if_pos a, valV_map]
    rw [valV_any] at a
    by_cases e : j = k
    · obtain ⟨x, hx⟩ := Option.isSome_iff_exists.mp a
      rw [if_pos e, e, hx, Option.map_some, if_pos rfl]
    · rw [if_neg e]
      cases valV kvs j with
      | none => rfl
      | some x => rw [Option.map_some, if_neg e]
  · rw [if_neg a]
    refine valV_snoc k j y kvs ?_
    rw [valV_any] at a
    cases q : valV kvs k with
    | none => rfl
    | some x => rw [q] at a; exact (a rfl).elim
theorem length_putK (kvs : List (κ × V)) (k : κ) (v : V) : (putK kvs k v).length ≤ kvs.length + 1 := by
  unfold putK
  split
  · rw [List.length_map]; omega
  · rw [List.length_append, List.length_cons, List.length_nil]; omega
theorem RelO.isSome_eq {o : Option V} {u : Option Value} (r : RelO o u) : o.isSome = u.isSome := by
  cases o with
  | none => cases u with
    | none => rfl
    | some _ => exact (show False from r).elim
  | some _ => cases u with
    | none => exact (show False from r).elim
    | some _ => rfl
theorem RelO.getD {o : Option V} {u : Option Value} {d : V} {d' : Value} (r : RelO o u) (rd : RelV d d') : RelV (o.getD d) (u.getD d') := by
  cases o with
  | none => cases u with
    | none => exact rd
    | some _ => exact (show False from r).elim
  | some _ => cases u with
    | none => exact (show False from r).elim
    | some _ => exact r
theorem KV.val {kvs : List (κ × V)} {vs : List (κ × Value)} (r : KV kvs vs) (k : κ) : RelO (valV kvs k) (valueAt vs k) := by
  unfold KV at r
  induction r with
  | nil => exact True.intro
  | @cons p q ps qs h t ih =>
    obtain ⟨h1, h2⟩ := h
    by_cases e : p.1 = k
    · have e' : q.1 = k := h1.symm.trans e
      have b : valueAt (q :: qs) k = some q.2 := by simp [valueAt, List.find?_cons, e']
      rw [valV_pos e, b]; exact h2
    · have e' : ¬ q.1 = k := fun z => e (h1.trans z)
      have b : valueAt (q :: qs) k = valueAt qs k := by simp [valueAt, List.find?_cons, e']
      rw [valV_neg e, b]; exact ih
theorem KV.any {kvs : List (κ × V)} {vs : List (κ × Value)} (r : KV kvs vs) (k : κ) : (kvs.any fun kv => decide (kv.1 = k)) = vs.any fun kv => decide (kv.1 = k) := by
  unfold KV at r
  induction r with
  | nil => rfl
  | cons h t ih => rw [List.any_cons, List.any_cons, ih, h.1]
theorem KV.repl {kvs : List (κ × V)} {vs : List (κ × Value)} (r : KV kvs vs) (k : κ) {y : V} {u : Value} (ry : RelV y u) :
    KV (kvs.map fun kv => if kv.1 = k then (kv.1, y) else kv) (vs.map fun kv => if kv.1 = k then (kv.1, u) else kv) := by
  unfold KV at r ⊢
  induction r with
  | nil => exact .nil
  | @cons p q ps qs h t ih =>
    rw [List.map_cons, List.map_cons]
    refine .cons ?_ ih
    obtain ⟨h1, h2⟩ := h
    by_cases e : p.1 = k
    · rw [if_pos e, if_pos (h1.symm.trans e)]; exact ⟨h1, ry⟩
    · rw [if_neg e, if_neg (fun z => e (h1.trans z))]; exact ⟨h1, h2⟩
theorem KV.put {kvs : List (κ × V)} {vs : List (κ × Value)} (r : KV kvs vs) (k : κ) {y : V} {u : Value} (ry : RelV y u) : KV (putK kvs k y) (stored vs k u) := by
  unfold putK stored
  rw [r.any k]
  by_cases e : (vs.any fun kv => decide (kv.1 = k)) = true
  · rw [if_pos e, if_pos e]; exact r.repl k ry
  · rw [if_neg e, if_neg e]; exact Paired.snoc r ⟨rfl, ry⟩
theorem KV.length {kvs : List (κ × V)} {vs : List (κ × Value)} (r : KV kvs vs) : kvs.length = vs.length := Paired.length r
end
theorem kV_is {P : Program} {w : World} {k : Key} {u : Value} (r : RelV (kV k) u) : (mixKind P w).is k u = true := by
  cases k with
  | inl i => obtain ⟨t, e⟩ := (show ∃ t, u = Value.int i t from r); subst e; exact mixKind_int P w i t
  | inr x => obtain ⟨t, e⟩ := (show ∃ t, u = Value.str x t from r); subst e; exact mixKind_str P w x t
theorem items_are {P : Program} {w : World} : ∀ {ks : List Key} {us : List Value}, Vals (ks.map kV) us → ItemsAre (mixKind P w) ks us
  | [], _, r => by rw [List.map_nil] at r; cases r; exact .nil
  | k :: ks, _, r => by
    rw [List.map_cons] at r
    cases r with
    | cons h t => exact .cons (kV_is h) (items_are t)
abbrev KT (H : Hp) : List (List Key × V) → List (List Key × Addr × Value) → Prop := Paired fun p q => p.1 = q.1 ∧ H q.2.1 = some (.tup (p.1.map kV)) ∧ RelV p.2 q.2.2
theorem KT.val {H : Hp} {kvs : List (List Key × V)} {xs : List (List Key × Addr × Value)} (r : KT H kvs xs) (k : List Key) : RelO (valV kvs k) ((atKey xs k).map (·.2)) := by
  induction r with
  | nil => exact True.intro
  | @cons p q ps qs h t ih =>
    obtain ⟨h1, _, h2⟩ := h
    by_cases e : p.1 = k
    · have e' : q.1 = k := h1.symm.trans e
      have b : atKey (q :: qs) k = some q.2 := by simp [atKey, List.find?_cons, e']
      rw [valV_pos e, b]; exact h2
    · have e' : ¬ q.1 = k := fun z => e (h1.trans z)
      have b : atKey (q :: qs) k = atKey qs k := by simp [atKey, List.find?_cons, e']
      rw [valV_neg e, b]; exact ih
theorem KT.repl {H : Hp} {kvs : List (List Key × V)} {xs : List (List Key × Addr × Value)} (r : KT H kvs xs) (k : List Key) {y : V} {u : Value} (ry : RelV y u) :
    KT H (kvs.map fun kv => if kv.1 = k then (kv.1, y) else kv) (xs.map (putAt k u)) := by
  induction r with
  | nil => exact .nil
  | @cons p q ps qs h t ih =>
    rw [List.map_cons, List.map_cons]
    refine .cons ?_ ih
    obtain ⟨h1, h2, h3⟩ := h
    unfold putAt
    by_cases e : p.1 = k
    · rw [if_pos e, if_pos (h1.symm.trans e)]; exact ⟨h1, h2, ry⟩
    · rw [if_neg e, if_neg (fun z => e (h1.trans z))]; exact ⟨h1, h2, h3⟩
theorem KT.put {H : Hp} {kvs : List (List Key × V)} {xs : List (List Key × Addr × Value)} (r : KT H kvs xs) (k : List Key) {b : Addr} {y : V} {u : Value} (hb : H b = some (.tup (k.map kV))) (ry : RelV y u) :
    KT H (putK kvs k y) (storedH xs k b u) := by
  have e : (kvs.any fun kv => decide (kv.1 = k)) = (atKey xs k).isSome := by
    rw [valV_any, (r.val k).isSome_eq, Option.isSome_map]
  unfold putK storedH
  rw [e]
  by_cases q : (atKey xs k).isSome = true
  · rw [if_pos q, if_pos q]; exact r.repl k ry
  · rw [if_neg q, if_neg q]; exact Paired.snoc r ⟨rfl, hb, ry⟩
theorem KT.keeps {H H' : Hp} {kvs : List (List Key × V)} {xs : List (List Key × Addr × Value)} (r : KT H kvs xs) (ht : ∀ b ys, H b = some (.tup ys) → H' b = some (.tup ys)) : KT H' kvs xs :=
  Paired.mapP r fun _ _ z => ⟨z.1, ht _ _ z.2.1, z.2.2⟩
section
variable {P : Program} {w : World} {H : Hp} {h : Heap} {a : Addr}
theorem rd_of {u : HO} (ok : HOk P w H h) (e : Rd H a u) : ObjOk P w H h a u := e.ok ok
theorem dk_rd {kvs : List (Key × V)} (ok : HOk P w H h) (e : Rd H a (.dK kvs)) : kvs.length ≤ sizeLine ∧ (a == sysModules) = false ∧ ∃ vs, KV kvs vs ∧ h.DictOf (mixKind P w) a vs :=
  show ObjOk P w H h a (.dK kvs) from rd_of ok e
theorem dk_of {kvs : List (Key × V)} (ok : HOk P w H h) (e : H a = some (.dK kvs)) : kvs.length ≤ sizeLine ∧ (a == sysModules) = false ∧ ∃ vs, KV kvs vs ∧ h.DictOf (mixKind P w) a vs := dk_rd ok (.inl e)
theorem key_of {ks : List Key} (ok : HOk P w H h) (e : H a = some (.tup (ks.map kV))) : (tupleKind (mixKind P w)).is h ks a := by
  obtain ⟨_, its, r, o, h1, h2, n, h3⟩ := (show ObjOk P w H h a (.tup (ks.map kV)) from ok a _ e)
  exact ⟨o, its.toArray, n, h1, h2, h3, by simpa using items_are r⟩
theorem dt_rd {kvs : List (List Key × V)} (ok : HOk P w H h) (e : Rd H a (.dT kvs)) : kvs.length ≤ sizeLine ∧ (a == sysModules) = false ∧
    ∃ xs, KT H kvs xs ∧ h.DictOfH (tupleKind (mixKind P w)) a xs := by
  obtain ⟨z, y, xs, r, o, es, ep, h1, h2, h3, h4, h5⟩ := (show ObjOk P w H h a (.dT kvs) from rd_of ok e)
  refine ⟨z, y, xs, r, o, es, ep, h1, h2, h3, h4, fun x hx => ?_, h5⟩
  have all : ∀ {l : List (List Key × V)} {m : List (List Key × Addr × Value)}, KT H l m → ∀ x ∈ m, (tupleKind (mixKind P w)).is h x.1 x.2.1 := by
    intro l m q
    induction q with
    | nil => intro x hx; exact nomatch hx
    | @cons p q ps qs hq t ih =>
      intro x hx
      rcases List.mem_cons.mp hx with e | hx
      · subst e
        exact key_of ok (by rw [← hq.1]; exact hq.2.1)
      · exact ih x hx
  exact all r x hx
theorem dt_of {kvs : List (List Key × V)} (ok : HOk P w H h) (e : H a = some (.dT kvs)) : kvs.length ≤ sizeLine ∧ (a == sysModules) = false ∧
    ∃ xs, KT H kvs xs ∧ h.DictOfH (tupleKind (mixKind P w)) a xs := dt_rd ok (.inl e)
end
def DGet (H : Hp) (a : Addr) (y : V) (r : Option V) : Prop :=
  (∃ kvs k, Rd H a (.dK kvs) ∧ y = kV k ∧ r = valV kvs k) ∨ ∃ kvs k b, Rd H a (.dT kvs) ∧ y = .ref b ∧ H b = some (.tup (k.map kV)) ∧ r = valV kvs k
def DPut (H : Hp) (a : Addr) (y v : V) (H' : Hp) : Prop :=
  (∃ kvs k, H a = some (.dK kvs) ∧ y = kV k ∧ kvs.length < sizeLine ∧ H' = upd H a (.dK (putK kvs k v))) ∨
  ∃ kvs k b, H a = some (.dT kvs) ∧ y = .ref b ∧ H b = some (.tup (k.map kV)) ∧ kvs.length < sizeLine ∧ H' = upd H a (.dT (putK kvs k v))
theorem DGet.k {H : Hp} {a : Addr} {kvs : List (Key × V)} {k : Key} (e : H a = some (.dK kvs)) : DGet H a (kV k) (valV kvs k) := .inl ⟨kvs, k, .inl e, rfl, rfl⟩
section
variable {X : Cx} {pins : List (Addr × Obj)} {σ : St} {H : Hp} {s : Shared} {a : Addr} {y v : V} {u r : Value} {o : Option V} {A : Around} {E : Value → Shared → Prop}
theorem Inv.big (I : Inv X pins σ H s) : sysModules < s.heap.objs.size := by
  have h : mainGlobals < s.heap.objs.size := (I.mod.glob.keeps I.bk).lt
  exact Nat.lt_trans (by decide) h
theorem d_getItem {Q : Value → Shared → Prop} (hu : A.units + 1 < cLine) (I : Inv X pins σ H s) (g : DGet H a y (some v)) (ry : RelV y u) (h : ∀ w' s', Inv X pins σ H s' → RelV v w' → Q w' s') :
    wpAny (model X.prog X.w) A (getItem (.ref a) u) Q E s := by
  rcases g with ⟨kvs, k, e, ey, l⟩ | ⟨kvs, k, b, e, ey, eb, l⟩
  · subst ey
    obtain ⟨z, hd, vs, rel, dd⟩ := dk_rd I.hok e
    obtain ⟨w', hw, rw'⟩ := RelO.some_of (v := v) (o := valueAt vs k) (by rw [l]; exact rel.val k)
    exact wpAny_getItem_of (kV_is ry) dd.mapOf hw (h w' _ (I.tok _) rw')
  · subst ey
    cases (show u = Value.ref b from ry)
    obtain ⟨z, hd, xs, rel, dd⟩ := dt_rd I.hok e
    obtain ⟨w', hw, rw'⟩ := RelO.some_of (v := v) (o := (atKey xs k).map (·.2)) (by rw [l]; exact rel.val k)
    obtain ⟨p, hp, hp2⟩ := Option.map_eq_some_iff.mp hw
    refine wpAny_getItem_heap (tupleKind_room_in1 hu) (key_of I.hok eb) dd hp ?_
    rw [hp2]
    exact h w' _ (I.tok _) rw'
theorem d_in {Q : Value → Shared → Prop} (hu : A.units + 1 < cLine) (I : Inv X pins σ H s) (g : DGet H a y o) (ry : RelV y u) (h : ∀ s', Inv X pins σ H s' → Q (.bool o.isSome) s') :
    wpAny (model X.prog X.w) A (compareOp .In u (.ref a)) Q E s := by
  rcases g with ⟨kvs, k, e, ey, l⟩ | ⟨kvs, k, b, e, ey, eb, l⟩
  · subst ey
    obtain ⟨z, hd, vs, rel, dd⟩ := dk_rd I.hok e
    refine wpAny_in_of (kV_is ry) hd dd.mapOf ?_
    rw [← (rel.val k).isSome_eq, ← l]
    exact h _ (I.tok _)
  · subst ey
    cases (show u = Value.ref b from ry)
    obtain ⟨z, hd, xs, rel, dd⟩ := dt_rd I.hok e
    refine wpAny_in_heap (tupleKind_room_in1 hu) (key_of I.hok eb) hd dd ?_
    have q := (rel.val k).isSome_eq
    rw [Option.isSome_map] at q
    rw [← q, ← l]
    exact h _ (I.tok _)
theorem d_write {h' : Heap} {t' : Nat} {ob : HO} (I : Inv X pins σ H s) (mu : Mut (H a)) (hs : Heap.SameBut a s.heap h') (he : ∃ q, h'.get? a = some q) (new : ObjOk X.prog X.w (upd H a ob) h' a ob) :
    Inv X pins σ (upd H a ob) { s with heap := h', toks := t' } :=
  I.write (x := a) (e := a) mu (.inl rfl) (fun b q hb z => (hs.2 b hb).trans z) he new
theorem dk_new {P : Program} {w : World} {H' : Hp} {h' : Heap} {kvs : List (Key × V)} {vs : List (Key × Value)} (z : kvs.length ≤ sizeLine) (hd : (a == sysModules) = false) (rel : KV kvs vs) (dd : h'.DictOf (mixKind P w) a vs) :
    ObjOk P w H' h' a (.dK kvs) := ⟨z, hd, vs, rel, dd⟩
theorem d_setItem {H' : Hp} {Q : Unit → Shared → Prop} (hu : A.units + 1 < cLine) (I : Inv X pins σ H s) (g : DPut H a y v H') (ry : RelV y u) (rv : RelV v r) (h : ∀ s', Inv X pins σ H' s' → Q () s') :
    wpAny (model X.prog X.w) A (setItem (.ref a) u r) Q E s := by
  rcases g with ⟨kvs, k, e, ey, l, eH⟩ | ⟨kvs, k, b, e, ey, eb, l, eH⟩
  · subst ey eH
    obtain ⟨z, hd, vs, rel, dd⟩ := dk_of I.hok e
    have hz : vs.length ≤ sizeLine := by rw [← rel.length]; exact z
    have hl : (putK kvs k v).length ≤ sizeLine := by have := length_putK kvs k v; omega
    refine wpAny_setItem_pairs (hsz := hz) (kV_is ry) dd fun h' dd' hs => h _ ?_
    have he : ∃ q, h'.get? a = some q := let ⟨q, _, _, hq, _⟩ := dd'; ⟨q, hq⟩
    exact d_write I (by rw [e]; exact True.intro) hs he (dk_new hl hd (rel.put k rv) dd')
  · subst ey eH
    cases (show u = Value.ref b from ry)
    obtain ⟨z, hd, xs, rel, dd⟩ := dt_of I.hok e
    have hz : xs.length ≤ sizeLine := by rw [← Paired.length rel]; exact z
    have hl : (putK kvs k v).length ≤ sizeLine := by have := length_putK kvs k v; omega
    refine wpAny_setItem_heap (hsz := hz) (tupleKind_room_in1 hu) (key_of I.hok eb) dd fun h' dd' hs => h _ ?_
    obtain ⟨q, es, ep, hq, h2, h3, h4, _, h5⟩ := dd'
    refine d_write I (by rw [e]; exact True.intro) hs ⟨q, hq⟩ ⟨hl, hd, _, (rel.put k eb rv).keeps fun c ys ec => ?_, q, es, ep, hq, h2, h3, h4, h5⟩
    rw [upd_ne (ne_of ec e (fun z => nomatch z))]
    exact ec
end
def NoSl (i : Expr) : Prop := ∀ ov iv, subscripted i false ov iv = operate [ov, iv] (getItem ov iv)
theorem subD_of {prog : Program} {w : World} {A : Around} {E : Value → Shared → Prop} {s : Shared} {env : Env} {value slice : Expr} {pos : Pos} {T id : String} {Q : Value → Shared → Prop}
    (hl : typeLookup (.type T) "__getitem__" = pure (some (.builtin id))) (hs : NoSl slice)
    (h : wpAny (model prog w) A (eval value env) (fun o s₁ => wpAny (model prog w) A (eval slice env) (fun i s₂ => s₂.TypeIs o T ∧ wpAny (model prog w) A (getItem o i) Q E s₂) E s₁) E s) :
    wpAny (model prog w) A (eval (.Subscript value slice pos) env) Q E s := by
  refine Subscript_ (wpAny_mono h (fun o s₁ h₁ => wpAny_mono h₁ (fun i s₂ h₂ => ?_) fun _ _ x => x) fun _ _ x => x)
  obtain ⟨hT, h₂⟩ := h₂
  unfold subscriptTail
  refine wpAny_bind ?_
  rw [getitemInPython_of_ne hT.not_modules]
  refine wpAny_bind (wpAny_specialOf hT hl ?_)
  have fin : wpAny (model prog w) A (subscripted slice false o i) (fun r s₃ => wpAny (model prog w) A (letTemporaryGo value o r >>= fun _ => pure r) Q E s₃) E s₂ := by
    rw [hs o i]
    exact wpAny_operating (wpAny_mono h₂ (fun r s₃ h₃ => wpAny_bind (wpAny_letTemporaryGo (wpAny_pure h₃))) fun _ _ x => x)
  first
    | exact wpAny_pure (wpAny_bind fin)
    | exact wpAny_bind (wpAny_pure (wpAny_bind fin))
    | exact wpAny_bind fin
theorem dict_typeIs {X : Cx} {pins : List (Addr × Obj)} {σ : St} {H : Hp} {s : Shared} {a : Addr} {y : V} {o : Option V} (I : Inv X pins σ H s) (g : DGet H a y o) : s.TypeIs (.ref a) "dict" := by
  rcases g with ⟨kvs, k, e, _, _⟩ | ⟨kvs, k, b, e, _, _, _⟩
  · obtain ⟨_, _, vs, _, dd⟩ := dk_rd I.hok e
    exact dd.typeIs
  · obtain ⟨_, _, xs, _, dd⟩ := dt_rd I.hok e
    exact dd.typeIs
def tDGet (td ty : TE) : TE := fun σ H Q => td σ H fun x H1 => ty σ H1 fun y H2 => ∃ a v, x = .ref a ∧ DGet H2 a y (some v) ∧ Q v H2
def tDIn (ty td : TE) : TE := fun σ H Q => ty σ H fun y H1 => td σ H1 fun x H2 => ∃ a o, x = .ref a ∧ DGet H2 a y o ∧ Q (.bl o.isSome) H2
def sDPut (td ty tv : TE) : TS := fun D σ H => tv σ H fun v H1 => td σ H1 fun x H2 => ty σ H2 fun y H3 => ∃ a H4, x = .ref a ∧ DPut H3 a y v H4 ∧ D.nx σ H4
def sDAug (td ty tv : TE) (rd : V → V → Hp → VK → Prop) : TS := fun D σ H => td σ H fun x H1 => ty σ H1 fun y H2 => ∃ a v, x = .ref a ∧ DGet H2 a y (some v) ∧
  tv σ H2 fun y2 H3 => rd v y2 H3 fun z H4 => ∃ H5, DPut H4 a y z H5 ∧ D.nx σ H5
section
variable {X : Cx} {o i e value : Expr} {pos pos' tpos : Pos} {td ty tv : TE}
theorem pe_dget (hu : X.A.units + 1 < cLine) (ho : PE X o td) (hi : PE X i ty) (hs : NoSl i) : PE X (.Subscript o i pos) (tDGet td ty) := by
  intro pins s σ H Q I h
  refine subD_of PySem.F.slot_dict_getitem.lookup hs (thn (ho pins s σ H _ I h) fun u s1 ⟨x, H1, I1, rx, q1⟩ => thn (hi pins s1 σ H1 _ I1 q1) fun iv s2 ⟨y, H2, I2, ry, a, v, ex, g, q2⟩ => ?_)
  subst ex
  obtain rfl : u = Value.ref a := rx
  exact ⟨dict_typeIs I2 g, d_getItem hu I2 g ry fun w' s3 I3 rw' => ⟨v, H2, I3, rw', q2⟩⟩
theorem pc_din (hu : X.A.units + 1 < cLine) (hi : PE X i ty) (ho : PE X o td) : PC X .In i o (tDIn ty td) := by
  intro pins s σ H Q I h
  refine thn (hi pins s σ H _ I h) fun iv s1 ⟨y, H1, I1, ry, q1⟩ => thn (ho pins s1 σ H1 _ I1 q1) fun u s2 ⟨x, H2, I2, rx, a, ov, ex, g, q2⟩ => ?_
  subst ex
  obtain rfl : u = Value.ref a := rx
  exact d_in hu I2 g ry fun s3 I3 => ⟨.bl ov.isSome, H2, I3, rfl, q2⟩
theorem ps_dput (hu : X.A.units + 1 < cLine) (ho : PE X o td) (hi : PE X i ty) (hv : PE X value tv) (hs : swapsWith value (some (.Subscript o i pos')) pos.line X.env = pure false) :
    PS X (.Assign [.Subscript o i pos'] value pos) (sDPut td ty tv) := by
  intro pins s σ H D I h
  refine wpAny_Assign_Subscript (thn (hv pins s σ H _ I h) fun r s1 ⟨v, H1, I1, rv, q1⟩ => thn (ho pins s1 σ H1 _ I1 q1) fun u s2 ⟨x, H2, I2, rx, q2⟩ => thn (hi pins s2 σ H2 _ I2 q2) fun iv s3 ⟨y, H3, I3, ry, a, H4, ex, g, q3⟩ => ?_) hs
  subst ex
  obtain rfl : u = Value.ref a := rx
  exact d_setItem hu I3 g ry rv fun s4 I4 => ⟨σ, H4, I4, q3⟩
theorem ps_daug {op : Operator} {rd : V → V → Hp → VK → Prop} (hu : X.A.units + 1 < cLine) (ho : PE X o td) (hi : PE X i ty) (hv : PE X value tv) (hop : InOp X op rd)
    (ha : ∀ ov iv new, augStore i ov iv new = (do holding [new, ov, iv] (setItem ov iv new); release [new, ov, iv] []; pure .next)) : PS X (.AugAssign (.Subscript o i tpos) op value pos) (sDAug td ty tv rd) := by
  intro pins s σ H D I h
  refine wpAny_AugAssign_SubscriptAny (thn (ho pins s σ H _ I h) fun u s1 ⟨x, H1, I1, rx, q1⟩ => thn (hi pins s1 σ H1 _ I1 q1) fun iv s2 ⟨y, H2, I2, ry, a, v, ex, g, q2⟩ => ?_) ha
  subst ex
  obtain rfl : u = Value.ref a := rx
  refine d_getItem hu I2 g ry fun w' s3 I3 rw' => thn (hv pins s3 σ H2 _ I3 q2) fun w2 s4 ⟨y2, H3, I4, ry2, q3⟩ => thn (hop pins s4 σ H3 v y2 w' w2 _ I4 rw' ry2 q3) fun w3 s5 ⟨z, H4, I5, rz, H5, g5, q4⟩ => ?_
  exact d_setItem hu I5 g5 ry rz fun s6 I6 => ⟨σ, H5, I6, q4⟩
end
theorem dk_empty {P : Program} {w : World} {H : Hp} (h : Heap) (hb : sysModules < h.objs.size) : ObjOk P w H (h.push { cls := .type "dict", data := .dict #[] }) h.objs.size (.dK []) :=
  ⟨Nat.zero_le _, beq_eq_false_iff_ne.mpr (Ne.symm (Nat.ne_of_lt hb)), [], .nil, Heap.DictOf.new h⟩
def tDNewK : TE := fun _ H Q => ∀ p, H p = none → Q (.ref p) (upd H p (.dK []))
section
variable {X : Cx} {pos : Pos}
theorem pe_dnewK : PE X (.Dict [] [] pos) tDNewK := fun pins s σ H Q I h =>
  wpAny_Dict_empty ⟨.ref s.heap.objs.size, _, I.laid (a := s.heap.objs.size) (o := .dK []) (t' := s.toks) (fun _ _ q => Heap.get?_push_of_some _ q) (Nat.le_refl _) (dk_empty s.heap I.big), rfl, h _ (I.hok.fresh (Nat.le_refl _))⟩
end
structure M1 (X : Cx) (o : Expr) (m : Str) (apos : Pos) (e : Expr) (cpos : Pos) : Prop where
  base : attributeBase o m X.env (eval o X.env) = eval o X.env
  few : ((backTo cpos (starEach [e] X.env)).all (fun x => !x.1) && (backToKw cpos (keywordEach [] X.env)).all (fun x => x.1.isSome)
    && decide (([e] : List Expr).length + ([] : List Keyword).length + (if ([] : List Keyword).isEmpty then 0 else 1) < 30)) = true
  line : (apos.endLine == cpos.line) = true
  trees : backTo cpos (starEach [e] X.env) = [(false, eval e X.env)]
def IsD (H : Hp) (a : Addr) : Prop := (∃ kvs, Rd H a (.dK kvs)) ∨ ∃ kvs, Rd H a (.dT kvs)
theorem isD_at {X : Cx} {pins : List (Addr × Obj)} {σ : St} {H : Hp} {s : Shared} {a : Addr} (I : Inv X pins σ H s) (d : IsD H a) :
    s.TypeIs (.ref a) "dict" ∧ (∀ b, Value.ref a = .ref b → ∃ ob, s.heap.get? b = some ob ∧ ob.dict = none) ∧ (a == sysModules) = false := by
  rcases d with ⟨kvs, e⟩ | ⟨kvs, e⟩
  · obtain ⟨_, hd, vs, _, dd⟩ := dk_rd I.hok e
    refine ⟨dd.typeIs, fun b q => ?_, hd⟩
    cases q
    obtain ⟨ob, _, _, h1, h2, _⟩ := dd
    exact ⟨ob, h1, h2.2.1⟩
  · obtain ⟨_, hd, xs, _, dd⟩ := dt_rd I.hok e
    refine ⟨dd.typeIs, fun b q => ?_, hd⟩
    cases q
    obtain ⟨ob, _, _, h1, h2, _⟩ := dd
    exact ⟨ob, h1, h2.2.1⟩
section
variable {X : Cx} {pins : List (Addr × Obj)} {σ : St} {H : Hp} {s : Shared} {a : Addr} {y d : V} {u r : Value} {o : Option V} {A : Around} {E : Value → Shared → Prop}
theorem d_get1 {Q : Value → Shared → Prop} (hu : A.units + 1 < cLine) (I : Inv X pins σ H s) (g : DGet H a y o) (ry : RelV y u) (h : ∀ w' s', Inv X pins σ H s' → RelV (o.getD .non) w' → Q w' s') :
    wpAny (model X.prog X.w) A (call (.builtin "dict.get") [.ref a, u]) Q E s := by
  rcases g with ⟨kvs, k, e, ey, l⟩ | ⟨kvs, k, b, e, ey, eb, l⟩
  · subst ey
    obtain ⟨z, hd, vs, rel, dd⟩ := dk_rd I.hok e
    refine call_meetsIn PySem.F.slot_dict_get dd.typeIs PySem.F.entry_dict_get (PySem.F.args_dict_get_2 _ _) (meets_dict_get (mixKind X.prog X.w) a (kV_is ry) hd) ⟨_, dd.mapOf, h _ _ (I.tok _) ?_⟩
    rw [l]
    exact (rel.val k).getD rfl
  · subst ey
    cases (show u = Value.ref b from ry)
    obtain ⟨z, hd, xs, rel, dd⟩ := dt_rd I.hok e
    refine call_meetsIn PySem.F.slot_dict_get dd.typeIs PySem.F.entry_dict_get (PySem.F.args_dict_get_2 _ _) (meetsH_dict_get (tupleKind (mixKind X.prog X.w)) a b hd) ⟨tupleKind_room_in1 hu, k, xs, key_of I.hok eb, dd, h _ _ (I.tok _) ?_⟩
    rw [l]
    exact (rel.val k).getD rfl
end
def tDGet1 (td ty : TE) : TE := fun σ H Q => td σ H fun x H1 => ∃ a, x = .ref a ∧ IsD H1 a ∧ ty σ H1 fun y H2 => ∃ o, DGet H2 a y o ∧ Q (o.getD .non) H2
section
variable {X : Cx} {o e f : Expr} {apos cpos : Pos} {td ty tx : TE}
theorem pe_dget1 (hu : X.A.units + 1 < cLine) (ho : PE X o td) (he : PE X e ty) (m : M1 X o "get" apos e cpos) : PE X (.Call (.Attribute o "get" apos) [e] [] cpos) (tDGet1 td ty) := by
  intro pins s σ H Q I h
  refine wpAny_Call_method m.base m.few m.line PySem.F.plainAttrs_dict PySem.F.slot_dict_get PySem.F.type_dict_get (thn (ho pins s σ H _ I h) fun u s1 ⟨x, H1, I1, rx, a, ex, d, q1⟩ => ?_)
  subst ex
  obtain rfl : u = Value.ref a := rx
  obtain ⟨t1, t2, _⟩ := isD_at I1 d
  refine ⟨t1, t2, ?_⟩
  rw [m.trees]
  refine Calls.callWith_builtin rfl (Calls.evalArgs_plain (Calls.spliced_cons (thn (he pins s1 σ H1 _ I1 q1) fun iv s2 ⟨y, H2, I2, ry, ov, g, q2⟩ => Calls.spliced_nil ?_)))
  exact d_get1 hu I2 g ry fun w' s3 I3 rw' => ⟨_, H2, I3, rw', q2⟩
end
end L2
set_option maxHeartbeats 1000000
namespace L2
open PySem PySem.Spec PyProof.Rows
theorem closure_ok {scope : Scope} {env : Env} (h : ∀ x, (x, NameKind.free) ∈ scope.names → ∃ c, env.cells.lookup x = some c) :
    ∃ cl, closureFor scope env = pure cl ∧ (∀ x c, cl.lookup x = some c → env.cells.lookup x = some c) ∧ ∀ x, (x, NameKind.free) ∈ scope.names → ∃ c, cl.lookup x = some c := by
  have go : ∀ (names : List (Str × NameKind)) (acc : List (Str × Addr)), (∀ x, (x, NameKind.free) ∈ names → ∃ c, env.cells.lookup x = some c) → (∀ x c, acc.lookup x = some c → env.cells.lookup x = some c) →
      ∃ cl, (forIn names acc fun (p : Str × NameKind) (r : List (Str × Addr)) => if p.2 == .free then (do let a ← cellOf env p.1; pure (ForInStep.yield ((p.1, a) :: r))) else pure (ForInStep.yield r) : Sem (List (Str × Addr))) = pure cl ∧
        (∀ x c, cl.lookup x = some c → env.cells.lookup x = some c) ∧ (∀ x c, acc.lookup x = some c → ∃ c', cl.lookup x = some c') ∧ ∀ x, (x, NameKind.free) ∈ names → ∃ c, cl.lookup x = some c := by
    intro names
    induction names with
    | nil => intro acc _ ha; exact ⟨acc, rfl, ha, fun x c e => ⟨c, e⟩, fun x z => nomatch z⟩
    | cons p r ih =>
      intro acc hn ha
      obtain ⟨n, k⟩ := p
      rw [List.forIn_cons]
      cases hk : (k == NameKind.free) with
      | false =>
        obtain ⟨cl, h1, h2, h3, h4⟩ := ih acc (fun x z => hn x (List.mem_cons_of_mem _ z)) ha
        refine ⟨cl, ?_, h2, h3, fun x z => ?_⟩
        · simp only [hk, Bool.false_eq_true, if_false, pure_bind]
          exact h1
        · rcases List.mem_cons.mp z with e | z
          · injection e with e1 e2
            rw [← e2] at hk
            exact absurd hk (by decide)
          · exact h4 x z
      | true =>
        have ek : k = .free := by simpa using hk
        subst ek
        obtain ⟨c, hc⟩ := hn n List.mem_cons_self
        have hcell : cellOf env n = pure c := by unfold cellOf; rw [hc]
        obtain ⟨cl, h1, h2, h3, h4⟩ := ih ((n, c) :: acc) (fun x z => hn x (List.mem_cons_of_mem _ z)) (fun x c' e => by
          rw [List.lookup_cons] at e
          cases hx : x == n with
          | true =>
            rw [hx] at e
            have e' : c = c' := Option.some.inj e
            have ex : x = n := by simpa using hx
            rw [ex, ← e']; exact hc
          | false => rw [hx] at e; exact ha x c' e)
        refine ⟨cl, ?_, h2, fun x c' e => ?_, fun x z => ?_⟩
        · simp only [beq_self_eq_true, if_true, hcell, pure_bind]
          exact h1
        · cases hx : x == n with
          | true => exact h3 x c (by rw [List.lookup_cons, hx])
          | false => exact h3 x c' (by rw [List.lookup_cons, hx]; exact e)
        · rcases List.mem_cons.mp z with e | z
          · injection e with e1 e2
            exact h3 x c (by rw [e1, List.lookup_cons]; simp)
          · exact h4 x z
  obtain ⟨cl, h1, h2, _, h4⟩ := go scope.names [] h (fun x c e => nomatch e)
  refine ⟨cl, ?_, h2, h4⟩
  rw [← h1]
  unfold closureFor
  simp only [bind_pure]
def cxComp (X : Cx) (scope : Scope) (cl : List (Str × Addr)) (C : Addr) (N : List Str) (s : Shared) (H : Hp) (ex : List Addr) : Cx where
  prog := X.prog
  w := X.w
  K := X.K
  mg := X.mg
  base := X.base
  A := X.A
  N := N
  s₀ := s
  H₀ := H
  env := compEnvC scope cl C X.env
  outer := X.stack
  stack := X.stack
  ex := ex
  calm := X.calm
  fn := fun x => match scope.names.lookup x with | some .cell => true | _ => false
  pn := []
  xe := fun _ _ => False
theorem lookup_relabel {env : Env} : ∀ {names : List (Str × NameKind)} {x : Str} {k : NameKind},
    (names.map fun (n, k) => if (k == NameKind.free && env.scope.kind == .function && env.kindOf n == some .cell) then (n, NameKind.cell) else (n, k)).lookup x = some k →
    ∃ k', names.lookup x = some k' ∧ (k' = k ∨ (k' = .free ∧ k = .cell))
  | [], _, _, h => by simp at h
  | (n, kk) :: r, x, k, h => by
    have ih := @lookup_relabel env r x k
    have h' : List.lookup x ((if (kk == NameKind.free && env.scope.kind == .function && env.kindOf n == some .cell) = true then (n, NameKind.cell) else (n, kk)) :: r.map fun (n, k) => if (k == NameKind.free && env.scope.kind == .function && env.kindOf n == some .cell) then (n, NameKind.cell) else (n, k)) = some k := h
    cases hx : x == n with
    | true =>
      by_cases hc : (kk == NameKind.free && env.scope.kind == .function && env.kindOf n == some .cell) = true
      · rw [if_pos hc, List.lookup_cons, hx] at h'
        have e : NameKind.cell = k := Option.some.inj h'
        have hf : kk = .free := by
          rw [Bool.and_eq_true, Bool.and_eq_true] at hc
          simpa using hc.1.1
        exact ⟨kk, by rw [List.lookup_cons, hx], .inr ⟨hf, e.symm⟩⟩
      · rw [if_neg hc, List.lookup_cons, hx] at h'
        exact ⟨kk, by rw [List.lookup_cons, hx], .inl (Option.some.inj h')⟩
    | false =>
      have h2 : List.lookup x (r.map fun (n, k) => if (k == NameKind.free && env.scope.kind == .function && env.kindOf n == some .cell) then (n, NameKind.cell) else (n, k)) = some k := by
        by_cases hc : (kk == NameKind.free && env.scope.kind == .function && env.kindOf n == some .cell) = true
        · rw [if_pos hc, List.lookup_cons, hx] at h'; exact h'
        · rw [if_neg hc, List.lookup_cons, hx] at h'; exact h'
      obtain ⟨k', e1, e2⟩ := ih h2
      exact ⟨k', by rw [List.lookup_cons, hx]; exact e1, e2⟩
structure CompScope (N : List Str) (osc scope : Scope) (own : List Str) (fr : List (Nat × Str)) : Prop where
  kind : scope.kind = .function
  cells : ∀ y ∈ scope.names, y.2 = .cell → scope.names.lookup y.1 = some .cell
  locs : ∀ y ∈ scope.names, y.2 = .local → scope.names.lookup y.1 = some .local
  free : ∀ y ∈ scope.names, y.2 = .free → osc.names.lookup y.1 = some .cell ∨ osc.names.lookup y.1 = some .free
  slot : ∀ p ∈ fr, N[p.1]? = some p.2 ∧ scope.names.lookup p.2 = some .free
theorem HOk.track {P : Program} {w : World} {H : Hp} {h : Heap} {a : Addr} {o : HO} (x : HOk P w H h) (hn : H a = none) (new : ObjOk P w (upd H a o) h a o) : HOk P w (upd H a o) h := fun b u e => by
  by_cases hb : b = a
  · subst hb; rw [upd_same] at e; cases e; exact new
  · rw [upd_ne hb] at e
    exact (x b u e).stay (fun c v _ q => q) (fun c q => by rw [upd_ne (ne_of_none q hn)]; exact q) fun c xs q => by rw [upd_ne (ne_of_none q hn)]; exact q
theorem HOk.but {P : Program} {w : World} {H : Hp} {h h' : Heap} {a : Addr} (x : HOk P w H h) (hn : H a = none) (k : ∀ b o, b ≠ a → h.get? b = some o → h'.get? b = some o) : HOk P w H h' := fun b u e =>
  (x b u e).stay (fun c v hc q => k c v (by
    rintro rfl
    rcases hc with rfl | hc
    · rw [hn] at e; cases e
    · rw [hn] at hc; cases hc) q) (fun _ q => q) fun _ _ q => q
theorem Un.track {fs ex : List Addr} {H H' : Hp} {h h' : Heap} {a : Addr} {o : HO} (u : Un fs ex H H' h h') (ha : h.objs.size ≤ a) (hn : H a = none) : Un fs ex H (upd H' a o) h h' where
  keep := u.keep
  slot := u.slot
  free := fun b ob q n hx => by rw [upd_ne (Nat.ne_of_lt (Nat.lt_of_lt_of_le (Heap.lt_size q) ha))]; exact u.free b ob q n hx
  there := u.there
  tups := fun b xs q => by rw [upd_ne (ne_of_none q hn)]; exact u.tups b xs q
  frzs := fun b ob v q => by rw [upd_ne (ne_of_none q hn)]; exact u.frzs b ob v q
  tbls := fun b ps q => by rw [upd_ne (ne_of_none q hn)]; exact u.tbls b ps q
theorem Un.but {fs ex : List Addr} {H H' : Hp} {h h' h'' : Heap} {a : Addr} (u : Un fs ex H H' h h') (ha : h.objs.size ≤ a) (k : ∀ b o, b ≠ a → h'.get? b = some o → h''.get? b = some o) : Un fs ex H H' h h'' where
  keep := fun b ob q n hb hx => k b ob (Nat.ne_of_lt (Nat.lt_of_lt_of_le (Heap.lt_size q) ha)) (u.keep b ob q n hb hx)
  slot := fun b ob q n hb hx => let ⟨sl, e⟩ := u.slot b ob q n hb hx; ⟨sl, k b _ (Nat.ne_of_lt (Nat.lt_of_lt_of_le (Heap.lt_size q) ha)) e⟩
  free := u.free
  there := fun b ob q hx => let ⟨o', e⟩ := u.there b ob q hx; ⟨o', k b _ (Nat.ne_of_lt (Nat.lt_of_lt_of_le (Heap.lt_size q) ha)) e⟩
  tups := u.tups
  frzs := u.frzs
  tbls := u.tbls
structure NewCells (scope : Scope) (nw : List (Str × Addr)) (h1 : Heap) (C : Addr) : Prop where
  ok : ∀ n c, (n, c) ∈ nw → h1.IsCell c none ∧ C < c
  apart : nw.Pairwise fun x y => x.2 ≠ y.2
  has : ∀ x, scope.names.lookup x = some .cell → ∃ c, nw.lookup x = some c
  of : ∀ x c, nw.lookup x = some c → (x, NameKind.cell) ∈ scope.names
theorem cellsFrom_acc : ∀ (names : List (Str × NameKind)) (n : Nat) (acc : List (Str × Addr)), cellsFrom n names acc = cellsFrom n names [] ++ acc
  | [], _, _ => rfl
  | (x, k) :: r, n, acc => by
    unfold cellsFrom
    split
    · rw [cellsFrom_acc r (n + 1) ((x, n) :: acc), cellsFrom_acc r (n + 1) [(x, n)], List.append_assoc]
      rfl
    · exact cellsFrom_acc r n acc
theorem cellsFrom_of : ∀ (names : List (Str × NameKind)) (n : Nat) (x : Str) (c : Addr), (x, c) ∈ cellsFrom n names [] → (x, NameKind.cell) ∈ names
  | [], _, _, _, h => nomatch h
  | (y, k) :: r, n, x, c, h => by
    unfold cellsFrom at h
    split at h
    · rename_i hk
      rw [cellsFrom_acc] at h
      rcases List.mem_append.mp h with h | h
      · exact List.mem_cons_of_mem _ (cellsFrom_of r _ x c h)
      · rw [List.mem_singleton] at h
        cases h
        have : k = .cell := by simpa using hk
        rw [this]
        exact List.mem_cons_self ..
    · exact List.mem_cons_of_mem _ (cellsFrom_of r _ x c h)
theorem lookup_app {α : Type} {x : Str} {a b : List (Str × α)} {c : α} (h : (a ++ b).lookup x = some c) : a.lookup x = some c ∨ (a.lookup x = none ∧ b.lookup x = some c) := by
  induction a with
  | nil => exact .inr ⟨rfl, h⟩
  | cons p r ih =>
    rw [List.cons_append, List.lookup_cons] at h
    rw [List.lookup_cons]
    cases hx : x == p.1 with
    | true => rw [hx] at h; exact .inl h
    | false => rw [hx] at h; exact ih h
theorem lookup_app_l {α : Type} {x : Str} {a b : List (Str × α)} {c : α} (h : a.lookup x = some c) : (a ++ b).lookup x = some c := by
  induction a with
  | nil => cases h
  | cons p r ih =>
    rw [List.lookup_cons] at h
    rw [List.cons_append, List.lookup_cons]
    cases hx : x == p.1 with
    | true => rw [hx] at h; exact h
    | false => rw [hx] at h; exact ih h
theorem lookup_app_r {α : Type} {x : Str} {a b : List (Str × α)} {c : α} (h : a.lookup x = none) (h2 : b.lookup x = some c) : (a ++ b).lookup x = some c := by
  induction a with
  | nil => exact h2
  | cons p r ih =>
    rw [List.lookup_cons] at h
    rw [List.cons_append, List.lookup_cons]
    cases hx : x == p.1 with
    | true => rw [hx] at h; cases h
    | false => rw [hx] at h; exact ih h
theorem newEnv_around {M : Model} {A : Around} {E : Value → Shared → Prop} {s : Shared} {scope : Scope} {globals : Addr} {closure : List (Str × Addr)} {qual : Str} {outer : Env} {Q : Env → Shared → Prop}
    (hQ : ∀ nw h1, NewCells scope nw h1 s.heap.objs.size → h1.Ns s.heap.objs.size (fun _ => none) → (∀ b o, s.heap.get? b = some o → h1.get? b = some o) →
      Q { scope, locals := s.heap.objs.size, globals, cells := nw ++ closure, qual, func := none, code := outer.code, frame := outer.frame, builtins := outer.builtins } { s with heap := h1 }) :
    wpAny M A (newFunctionEnv scope globals closure [] qual none .none (some outer)) Q E s := by
  simp only [newFunctionEnv, Option.isSome_some, if_true]
  refine wpAny_bind (wpAny_alloc ?_)
  refine wpAny_bind (wpAny_layCells _ (fun name kind cells => by cases hkc : kind == NameKind.cell <;> simp [hkc]) _ _ _ _ ?_)
  have ok := cellsFrom_ok scope.names (s.heap.push { cls := .type "dict", data := .dict #[] }) (s.heap.objs.size + 1) [] ⟨fun _ _ hm => (nomatch hm), List.Pairwise.nil⟩ (by rw [Heap.size_push]; exact Nat.le_refl _)
  rw [Heap.size_push] at ok
  rw [show ({ s with heap := s.heap.push { cls := .type "dict", data := .dict #[] } } : Shared).heap.objs.size = s.heap.objs.size + 1 from Heap.size_push ..]
  rw [List.forIn_nil]
  refine wpAny_bind (wpAny_pure (wpAny_pure ?_))
  rw [cellsFrom_acc]
  exact hQ _ _ ⟨fun n c h => ⟨(ok.empty n c h).1, (ok.empty n c h).2⟩, ok.apart, fun x h => cell_has h, fun x c h => cellsFrom_of _ _ x c (PySem.mem_of_lookup h)⟩
    ((Heap.Ns.new s.heap (.type "dict")).keeps (pushCells_keeps _ _)) fun b o e => pushCells_keeps _ _ b o (Heap.get?_push_of_some _ e)
def PIfs (X : Cx) (ifs : List Expr) (t : TT) : Prop :=
  ∀ (pins : List (Addr × Obj)) (s : Shared) (σ : St) (H : Hp) (Q : Bool → Hp → Prop), Inv X pins σ H s → t σ H Q →
    wpAny (model X.prog X.w) X.A (forIn ifs true fun c r => if r = true then do let ok ← isTrue c X.env (eval c X.env); pure (ForInStep.yield ok) else pure (ForInStep.yield r)) (TP X pins σ Q) X.xe s
def tYes : TT := fun _ H Q => Q true H
theorem pif_nil {X : Cx} : PIfs X [] tYes := fun _ _ _ H Q I h => wpAny_tests_nil ⟨H, I, h⟩
theorem pif_one {X : Cx} {c : Expr} {t : TT} (h : PT X c t) : PIfs X [c] t := fun pins s σ H Q I q => wpAny_tests_one (h pins s σ H Q I q)
def compStart' (own : List Str) (fr : List (Nat × Str)) (σ : St) : St := own.map (fun _ => none) ++ fr.map fun p => (σ[p.1]?).join
def CompGo (J : It) (g : TG) (tt : TT) (te : TE) (Q : VK) (σ₀ : St) (H1 : Hp) : Prop :=
  ∃ W : Nat → Nat → List V → St → Hp → Prop, (∃ m, W 0 m [] σ₀ H1) ∧ ∀ i m acc σ' H', W i m acc σ' H' →
    (J.stop i H' ∧ acc.length ≤ sizeLine ∧ ∀ p, H' p = none → Q (.ref p) (upd H' p (.lst acc))) ∨
    (J.go i H' ∧ acc.length < sizeLine ∧ ∃ N : List V → St → Hp → Prop, (∀ acc σ' H', N acc σ' H' → ∃ m', m' < m ∧ W (i + 1) m' acc σ' H') ∧ ∀ x H'', J.yld i H' x H'' → g x σ' H'' fun σ2 H2 => tt σ2 H2 fun ok H3 => if ok = true then te σ2 H3 fun y H4 => N (acc ++ [y]) σ2 H4 else N acc σ2 H3)
def tComp (own : List Str) (fr : List (Nat × Str)) (wi : TI) (g : TG) (tt : TT) (te : TE) : TE := fun σ H Q => wi σ H fun J H1 => CompGo J g tt te Q (compStart' own fr σ) H1
section
variable {X : Cx} {tg iter elt : Expr} {ifs : List Expr} {scope : Scope} {own : List Str} {fr : List (Nat × Str)} {pos : Pos}
theorem inv_comp {pins : List (Addr × Obj)} {σ : St} {H : Hp} {s : Shared} {cl : List (Str × Addr)} {ex : List Addr} {h1 : Heap} {m : Str → Option Value} {C : Addr} {t' : Nat} (S : CompScope X.N X.env.scope scope own fr) (I : Inv X pins σ H s)
    (hcl : ∀ x c, cl.lookup x = some c → X.env.cells.lookup x = some c) (hcl2 : ∀ x, (x, NameKind.free) ∈ scope.names → ∃ c, cl.lookup x = some c) (hex : ∀ b ∈ ex, FpOk X pins H b ∧ b < s.heap.objs.size)
    (hC : s.heap.objs.size ≤ C) (k : ∀ b o, s.heap.get? b = some o → h1.get? b = some o) (hn : h1.Ns C m) {nw : List (Str × Addr)} (nc : NewCells scope nw h1 C) :
    Inv (cxComp X scope (nw ++ cl) C (own ++ fr.map (·.2)) s H ex) [] (compStart' own fr σ) H { s with heap := h1, toks := t' } := by
  have okX := I.ok
  have isNew : ∀ x c, nw.lookup x = some c → C < c := fun x c e => (nc.ok x c (PySem.mem_of_lookup e)).2
  have isOld : ∀ x c, cl.lookup x = some c → c < C := fun x c e => by
    obtain ⟨v, o, ho, _⟩ := I.cell x c (hcl x c e)
    exact Nat.lt_of_lt_of_le (Heap.lt_size ho) hC
  have hinj : ∀ x y c, (nw ++ cl).lookup x = some c → (nw ++ cl).lookup y = some c → x = y := fun x y c e1 e2 => by
    rcases lookup_app e1 with a | ⟨_, a⟩ <;> rcases lookup_app e2 with b | ⟨_, b⟩
    · exact name_of_addr nc.apart (PySem.mem_of_lookup a) (PySem.mem_of_lookup b)
    · exact absurd (Nat.lt_trans (isNew x c a) (isOld y c b)) (Nat.lt_irrefl _)
    · exact absurd (Nat.lt_trans (isNew y c b) (isOld x c a)) (Nat.lt_irrefl _)
    · exact okX.inj x y c (hcl x c a) (hcl y c b)
  have hasF : ∀ x, (x, NameKind.free) ∈ scope.names → ∃ c, (nw ++ cl).lookup x = some c := fun x hx => by
    obtain ⟨c, e⟩ := hcl2 x hx
    cases z : nw.lookup x with
    | none => exact ⟨c, lookup_app_r z e⟩
    | some c' => exact ⟨c', lookup_app_l z⟩
  refine ⟨⟨okX.mod, ?_, okX.glob, okX.blt, hC, hinj, fun x hx => ?_, fun x c e1 e2 => ?_, okX.hd, okX.frames, .inl rfl, fun b hb => ?_, I.bs, Nat.le_trans okX.bsz I.sz, fun b o e hb => ?_, fun b hb hf => ?_, I.stack, I.stkFree⟩,
    rfl, I.bare, Un.kept k, ⟨m, hn, fun i x v e1 e2 e3 => ?_⟩, fun x c e => ?_, I.hok.fresh hC, fun x c e => ?_, fun p hp => absurd (show p ∈ ([] : List (Addr × Obj)) from hp) (by simp), I.hok.kept k, ?_⟩
  · exact S.kind
  · -- a cell's or a free name
    have hx' : (relabel scope X.env).names.lookup x = some .cell ∨ (relabel scope X.env).names.lookup x = some .free := hx
    have hfree : scope.names.lookup x = some .cell ∨ scope.names.lookup x = some .free := by
      rcases hx' with q | q
      · obtain ⟨k', e1, e2⟩ := lookup_relabel q
        rcases e2 with e2 | ⟨e2, _⟩
        · exact .inl (by rw [e1, e2])
        · exact .inr (by rw [e1, e2])
      · obtain ⟨k', e1, e2⟩ := lookup_relabel q
        rcases e2 with e2 | ⟨e2, e3⟩
        · exact .inr (by rw [e1, e2])
        · cases e3
    rcases hfree with hfree | hfree
    · obtain ⟨c, e⟩ := nc.has x hfree
      exact ⟨c, lookup_app_l e⟩
    · exact hasF x (PySem.mem_of_lookup hfree)
  · -- an own cell is new
    have e1' : (match scope.names.lookup x with | some .cell => true | _ => false) = true := e1
    have hce : scope.names.lookup x = some .cell := by
      split at e1'
      · assumption
      · cases e1'
    obtain ⟨c', e⟩ := nc.has x hce
    have e2' : (nw ++ cl).lookup x = some c := e2
    rw [lookup_app_l e] at e2'
    cases e2'
    exact Nat.le_trans hC (Nat.le_of_lt (isNew x c e))
  · obtain ⟨⟨f0, f1, f2, f3, f4, f5⟩, f6⟩ := hex b hb
    refine ⟨Nat.ne_of_lt (Nat.lt_of_lt_of_le f6 hC), fun x c e => ?_⟩
    rcases lookup_app (show (nw ++ cl).lookup x = some c from e) with a | ⟨_, a⟩
    · exact Nat.ne_of_gt (Nat.lt_trans (Nat.lt_of_lt_of_le f6 hC) (isNew x c a))
    · exact f4 x c (hcl x c a)
  · obtain ⟨⟨f0, f1, f2, f3, f4, f5⟩, f6⟩ := hex b hb
    rcases f3 with f3 | f3
    · exact okX.noex b o e f3
    · exact absurd (Nat.lt_of_lt_of_le (Heap.lt_size e) (Nat.le_trans okX.bsz f3)) (Nat.lt_irrefl _)
  · obtain ⟨⟨f0, f1, f2, f3, f4, f5⟩, f6⟩ := hex b hb
    rcases List.mem_cons.mp (I.stkSub b hf) with z | z
    · exact f1 z
    · exact f2 z
  · -- the values of the free names
    have e1' : (own ++ fr.map (·.2))[i]? = some x := e1
    have hi : own.length ≤ i := by
      by_cases h : i < own.length
      · unfold compStart' at e2
        rw [List.getElem?_append_left (by simpa using h), List.getElem?_map] at e2
        cases q : own[i]? with
        | none => rw [q] at e2; cases e2
        | some z => rw [q] at e2; cases e2
      · omega
    unfold compStart' at e2
    rw [List.getElem?_append_right (by simpa using hi), List.getElem?_map, List.length_map] at e2
    rw [List.getElem?_append_right hi, List.getElem?_map] at e1'
    cases q : fr[i - own.length]? with
    | none => rw [q] at e2; cases e2
    | some p =>
      rw [q] at e2 e1'
      have e1' : p.2 = x := Option.some.inj e1'
      have e2' : (σ[p.1]?).join = some v := Option.some.inj e2
      obtain ⟨hs1, hs2⟩ := S.slot p (List.mem_of_getElem? q)
      rw [e1'] at hs1 hs2
      have e2'' : σ[p.1]? = some (some v) := by
        cases z : σ[p.1]? with
        | none => rw [z] at e2'; cases e2'
        | some y => rw [z] at e2'; exact congrArg some e2'
      obtain ⟨mX, hnX, hlX⟩ := I.loc
      have hfr := S.free (x, .free) (PySem.mem_of_lookup hs2) rfl
      have hvis : Vis X.env.scope x := by
        rcases hfr with z | z
        · exact .inr (.inl z)
        · exact .inr (.inr z)
      obtain ⟨u, r, l⟩ := hlX p.1 x v hs1 e2'' hvis
      refine ⟨u, r, ?_⟩
      have hkc : X.env.kindOf x = some .cell ∨ X.env.kindOf x = some .free := hfr
      rcases l with ⟨kx, _⟩ | ⟨kx, c, hc, z⟩
      · rcases hkc with w | w
        · rw [w] at kx; cases kx
        · rw [w] at kx; cases kx
      · obtain ⟨c', hc'⟩ := hcl2 x (PySem.mem_of_lookup hs2)
        have hcc := hcl x c' hc'
        rw [hc] at hcc
        cases hcc
        have e3' : (relabel scope X.env).names.lookup x = some .local ∨ (relabel scope X.env).names.lookup x = some .cell ∨ (relabel scope X.env).names.lookup x = some .free := e3
        have hnew : nw.lookup x = none := by
          cases z : nw.lookup x with
          | none => rfl
          | some c'' =>
            have := S.cells _ (nc.of x c'' z) rfl
            rw [hs2] at this
            cases this
        refine .inr ⟨?_, c, lookup_app_r hnew hc', ?_⟩
        · rcases e3' with w | w | w
          · obtain ⟨k', q1, q2⟩ := lookup_relabel w
            rw [hs2] at q1
            cases q1
            rcases q2 with q2 | ⟨_, q2⟩ <;> cases q2
          · exact .inl w
          · exact .inr w
        · obtain ⟨o, ho, hd⟩ := z
          exact ⟨o, k _ _ ho, hd⟩
  · rcases lookup_app (show (nw ++ cl).lookup x = some c from e) with a | ⟨_, a⟩
    · exact ⟨none, (nc.ok x c (PySem.mem_of_lookup a)).1⟩
    · obtain ⟨v, o, ho, hd⟩ := I.cell x c (hcl x c a)
      exact ⟨v, o, k _ _ ho, hd⟩
  · rcases lookup_app (show (nw ++ cl).lookup x = some c from e) with a | ⟨_, a⟩
    · exact I.hok.fresh (Nat.le_trans hC (Nat.le_of_lt (isNew x c a)))
    · exact I.freeC x c (hcl x c a)
  · show (compStart' own fr σ).length = (own ++ fr.map (·.2)).length
    unfold compStart'
    rw [List.length_append, List.length_append, List.length_map, List.length_map, List.length_map]
theorem comp_block {pins : List (Addr × Obj)} {σ : St} {H2 : Hp} {s2 : Shared} {cl : List (Str × Addr)} {it : Addr} {fp : List Addr} {tn : Nat → Heap → Prop} {J : It} {g : TG} {tt : TT} {te : TE} {Q : VK} {E : Value → Shared → Prop}
    {RR : Value → Addr → Result → Shared → Prop} (hc : X.calm = true) (S : CompScope X.N X.env.scope scope own fr) (I : Inv X pins σ H2 s2) (hcl : ∀ x c, cl.lookup x = some c → X.env.cells.lookup x = some c)
    (hcl2 : ∀ x, (x, NameKind.free) ∈ scope.names → ∃ c, cl.lookup x = some c) (T : Turn X.prog X.w X.K tg J fp it tn) (st : tn 0 s2.heap) (hfp : ∀ b ∈ fp, FpOk X pins H2 b)
    (hb : ∀ (cl : List (Str × Addr)) (C : Addr) (s : Shared) (H : Hp) (ex : List Addr), PG (cxComp X scope cl C (own ++ fr.map (·.2)) s H ex) tg g ∧ PIfs (cxComp X scope cl C (own ++ fr.map (·.2)) s H ex) ifs tt ∧ PE (cxComp X scope cl C (own ++ fr.map (·.2)) s H ex) elt te)
    (hq : CompGo J g tt te Q (compStart' own fr σ) H2)
    (fin : ∀ (D C : Addr) (s' : Shared) (H' : Hp), (∃ m, s'.heap.Ns C m) → s2.heap.objs.size ≤ C → C ≠ D → H' C = none → Q (.ref D) H' → (∀ h'', (∀ b o, b ≠ C → s'.heap.get? b = some o → h''.get? b = some o) → Inv X pins σ H' { s' with heap := h'' }) → RR (.ref D) C (.ok .next) s') :
    wpAny (model X.prog X.w) X.A (newList []) (fun acc s₃ => wpAny (model X.prog X.w) X.A (newFunctionEnv scope X.env.globals cl [] X.env.qual none .none (some X.env)) (fun cenv s₄ =>
      codeAny (model X.prog X.w) X.A (.compStart (.ListComp elt [⟨tg, iter, ifs, 0⟩] scope pos) 0 (.ref it) acc { cenv with scope := relabel scope X.env }) (RR acc cenv.locals) s₄) E s₃) E s2 := by
  obtain ⟨W, ⟨m0, w0⟩, turn⟩ := hq
  refine wpAny_newObj_type (newEnv_around (fun nw h₁ nc hns₁ hsb₁ => ?_))
  dsimp only at nc hns₁ hsb₁ ⊢
  generalize hH2 : s2.heap.push { cls := .type "list", dict := none, data := .seq ([] : List Value).toArray } = HH at nc hns₁ hsb₁ ⊢
  have hC : HH.objs.size = s2.heap.objs.size + 1 := by rw [← hH2, Heap.size_push]
  have hDC : s2.heap.objs.size ≠ HH.objs.size := by rw [hC]; exact Nat.ne_of_lt (Nat.lt_succ_self _)
  have hCle : s2.heap.objs.size ≤ HH.objs.size := by rw [hC]; exact Nat.le_succ _
  have old : ∀ b o, s2.heap.get? b = some o → h₁.get? b = some o := fun b o e =>
    hsb₁ b o (hH2 ▸ Heap.get?_push_of_some _ e)
  have hacc : h₁.get? s2.heap.objs.size = some { cls := .type "list", data := .seq ([] : List Value).toArray } := hsb₁ _ _ (hH2 ▸ Heap.get?_push_size _ rfl)
  have flt : ∀ b ∈ fp, b < s2.heap.objs.size := fun b hb => by
    obtain ⟨o, e, _⟩ := T.obj _ _ st b hb
    exact Heap.lt_size e
  have hlt : s2.heap.objs.size < HH.objs.size := by rw [hC]; exact Nat.lt_succ_self _
  obtain ⟨D, hD⟩ : ∃ D : Nat, D = s2.heap.objs.size := ⟨_, rfl⟩
  obtain ⟨C, hCC⟩ : ∃ C : Nat, C = HH.objs.size := ⟨_, rfl⟩
  rw [← hD] at hacc ⊢
  rw [← hCC] at nc hns₁ ⊢
  have hDlt : D < C := by rw [hD, hCC]; exact hlt
  have hDs : s2.heap.objs.size ≤ D := Nat.le_of_eq hD.symm
  have hCs : s2.heap.objs.size ≤ C := Nat.le_trans hDs (Nat.le_of_lt hDlt)
  have nDC : D ≠ C := Nat.ne_of_lt hDlt
  have nfD : ∀ b ∈ fp, b ≠ D := fun b hb => Nat.ne_of_lt (Nat.lt_of_lt_of_le (flt b hb) hDs)
  have nfC : ∀ b ∈ fp, b ≠ C := fun b hb => Nat.ne_of_lt (Nat.lt_of_lt_of_le (flt b hb) hCs)
  have I0 : Inv (cxComp X scope (nw ++ cl) C (own ++ fr.map (·.2)) s2 H2 fp) [] (compStart' own fr σ) H2 { s2 with heap := h₁, toks := s2.toks } :=
    inv_comp S I hcl hcl2 (fun b hb => ⟨hfp b hb, flt b hb⟩) hCs old hns₁ nc
  obtain ⟨pg, pt, pe⟩ := hb (nw ++ cl) C s2 H2 fp
  have Dcell : ∀ x c, (nw ++ cl).lookup x = some c → c ≠ D := fun x c e => by
    rcases lookup_app e with a | ⟨_, a⟩
    · exact Nat.ne_of_gt (Nat.lt_trans hDlt (nc.ok x c (PySem.mem_of_lookup a)).2)
    · obtain ⟨v, q⟩ := I.cell x c (hcl x c a)
      exact Nat.ne_of_lt (Nat.lt_of_lt_of_le q.lt hDs)
  have Dstk : D ∉ frs X.stack := fun hf => by
    rcases List.mem_cons.mp (I.stkSub D hf) with z | z
    · have h1 := I.lt
      rw [← z] at h1
      exact Nat.lt_irrefl _ (Nat.lt_of_lt_of_le h1 hDs)
    · exact I.nofs hDs z
  have stat : ∀ {H' : Hp} {pl : List (Addr × Obj)}, (∀ b ∈ fp, H' b = none) → (∀ p ∈ pl, p.1 = D) → ∀ b ∈ fp, FpOk (cxComp X scope (nw ++ cl) C (own ++ fr.map (·.2)) s2 H2 fp) pl H' b := fun {H' pl} hn hpl b hb => by
    obtain ⟨f0, f1, f2, f3, f4, f5⟩ := hfp b hb
    refine ⟨hn b hb, nfC b hb, fun hf => ?_, .inl hb, fun x c e => (by
      rcases lookup_app (show (nw ++ cl).lookup x = some c from e) with a | ⟨_, a⟩
      · exact Nat.ne_of_gt (Nat.lt_trans (Nat.lt_of_lt_of_le (flt b hb) hCs) (nc.ok x c (PySem.mem_of_lookup a)).2)
      · exact f4 x c (hcl x c a)), fun p hp z => ?_⟩
    · rcases List.mem_cons.mp (I.stkSub b hf) with z | z
      · exact f1 z
      · exact f2 z
    · have h1 : p.1 = D := hpl p (by simpa [cxComp] using hp)
      exact nfD b hb (z.symm.trans h1)
  have loop : ∀ s₃ : Shared, s₃ = { s2 with heap := h₁, toks := s2.toks } →
      codeAny (model X.prog X.w) X.A (.compLoop (.ListComp elt [⟨tg, iter, ifs, 0⟩] scope pos) 0 (.ref it) (.ref D) (compEnvC scope (nw ++ cl) C X.env)) (RR (.ref D) C) s₃ := by
    rintro s₃ rfl
    refine codeAny_loop rfl (fun n s' => ∃ i σ' H' acc its k, Inv (cxComp X scope (nw ++ cl) C (own ++ fr.map (·.2)) s2 H2 fp) [] σ' H' s' ∧ tn i s'.heap ∧ (∀ b ∈ fp, H' b = none) ∧ H' D = none ∧
      s'.heap.get? D = some { cls := .type "list", data := .seq its.toArray k } ∧ Vals acc its ∧ W i n acc σ' H') ?_ m0
      ⟨0, _, H2, [], [], 0, I0, T.keep _ _ _ st fun b hb o e => old b o e, fun b hb => (hfp b hb).1, I.hok.fresh hDs, hacc, .nil, w0⟩
    rintro n s' ⟨i, σ', H', acc, its, k, I1, st1, fr1, nD, gD, rv, w1⟩
    show wpAny _ X.A ((compTurn (.ListComp elt [⟨tg, iter, ifs, 0⟩] scope pos) 0 (.ref it) (.ref D) (compEnvC scope (nw ++ cl) C X.env)).onRaise (fun x => do noteFrame x (compEnvC scope (nw ++ cl) C X.env); theTreesLotGoes x)) _ _ s'
    refine wpAny_noted ?_
    rw [compTurn_list]
    have I1' : Inv (cxComp X scope (nw ++ cl) C (own ++ fr.map (·.2)) s2 H2 fp) [(D, { cls := .type "list", data := .seq its.toArray k })] σ' H' s' := I1.pins_of fun p hp => by
      have e : p = (D, { cls := .type "list", data := .seq its.toArray k }) := by simpa using hp
      subst e
      exact ⟨gD, nD, nDC, Dstk, fun v z => nomatch z⟩
    rcases turn i n acc σ' H' w1 with ⟨stop, hz, qq⟩ | ⟨go, hz, NN, hNN, step⟩
    · refine wpAny_bind (wpAny_standAt (wpAny_bind (wpAny_mono (T.done (cxComp X scope (nw ++ cl) C (own ++ fr.map (·.2)) s2 H2 fp) rfl rfl rfl hc i _ s' σ' H' (fun _ _ => False) I1' (stat fr1 (by simp)) st1 stop) (fun r s4 ⟨hr, I4⟩ => ?_) fun _ _ z => z.elim)))
      subst hr
      refine wpAny_pure ?_
      have gD4 := (I4.pin (D, _) (List.mem_append_right _ (List.mem_singleton.mpr rfl))).1
      have hC4 : H' C = none := I4.free
      have hC5 : (upd H' D (.lst acc)) C = none := by rw [upd_ne (Ne.symm nDC)]; exact hC4
      refine fin D C s4 (upd H' D (.lst acc)) ?_ hCs (Ne.symm nDC) hC5 (qq D nD) fun h'' kk => ?_
      · obtain ⟨m, hn, _⟩ := I4.loc
        exact ⟨m, hn⟩
      · have un : Un (frs X.stack) fp H2 (upd H' D (.lst acc)) s2.heap h'' := Un.but (a := C) (Un.track (o := .lst acc) I4.base hDs (I.hok.fresh hDs)) hCs kk
        have hok : HOk X.prog X.w (upd H' D (.lst acc)) s4.heap := HOk.track I4.hok nD ⟨hz, its, k, rv, gD4⟩
        exact I.call' (s' := { s4 with heap := h'' }) (ch := fp) I4.os un (HOk.but hok hC5 kk) I4.bare fun b hb => by
          obtain ⟨f0, f1, f2, f3, f4, f5⟩ := hfp b hb
          exact ⟨f3, f1, f4, f5⟩
    · refine wpAny_bind (wpAny_standAt (wpAny_bind (wpAny_mono (T.item (cxComp X scope (nw ++ cl) C (own ++ fr.map (·.2)) s2 H2 fp) rfl rfl rfl hc i _ s' σ' H' (fun _ _ => False) I1' (stat fr1 (by simp)) st1 go) (fun r s4 ⟨u, hr, h4⟩ => ?_) fun _ _ z => z.elim)))
      subst hr
      refine wpAny_bind (wpAny_mono h4 (fun _ s5 ⟨x, H5, I5, r5, y5, st5, fr5⟩ => ?_) fun _ _ z => z.elim)
      have I5' := I5.pinned (stat fr5 (by simp)) (T.obj _ _ st5)
      refine wpAny_bind (wpAny_mono (pg _ s5 σ' H5 x u _ I5' r5 (step x H5 y5)) (fun _ s6 ⟨σ6, H6, I6, q6⟩ => ?_) fun _ _ z => z.elim)
      refine wpAny_bind (wpAny_mono (pt _ s6 σ6 H6 _ I6 q6) (fun ok s7 ⟨H7, I7, q7⟩ => ?_) fun _ _ z => z.elim)
      have again : ∀ {s8 : Shared} {H8 : Hp} {acc' : List V} {its' : List Value} {k' m' : Nat}, Inv (cxComp X scope (nw ++ cl) C (own ++ fr.map (·.2)) s2 H2 fp) (pinsAt fp s5.heap) σ6 H8 s8 → H8 D = none →
          s8.heap.get? D = some { cls := .type "list", data := .seq its'.toArray k' } → Vals acc' its' → m' < n → W (i + 1) m' acc' σ6 H8 →
          ∃ m, m < n ∧ ∃ i σ' H' acc its k, Inv (cxComp X scope (nw ++ cl) C (own ++ fr.map (·.2)) s2 H2 fp) [] σ' H' s8 ∧ tn i s8.heap ∧ (∀ b ∈ fp, H' b = none) ∧ H' D = none ∧
            s8.heap.get? D = some { cls := .type "list", data := .seq its.toArray k } ∧ Vals acc its ∧ W i m acc σ' H' := fun {s8 H8 acc' its' k' m'} I8 n8 g8 rv8 hm w8 => by
        refine ⟨m', hm, i + 1, σ6, H8, acc', its', k', I8.pins_of (fun p hp => nomatch hp), T.keep _ _ _ st5 fun b hb o e => (I8.pin (b, o) (List.mem_append_right _ (mem_pinsAt hb e))).1, fun b hb => ?_, n8, g8, rv8, w8⟩
        obtain ⟨o, e, d⟩ := T.obj _ _ st5 b hb
        exact (I8.pin (b, o) (List.mem_append_right _ (mem_pinsAt hb e))).2.1
      have dropD : ∀ {s8 : Shared} {H8 : Hp}, Inv (cxComp X scope (nw ++ cl) C (own ++ fr.map (·.2)) s2 H2 fp) ([(D, { cls := .type "list", data := .seq its.toArray k })] ++ pinsAt fp s5.heap) σ6 H8 s8 →
          Inv (cxComp X scope (nw ++ cl) C (own ++ fr.map (·.2)) s2 H2 fp) (pinsAt fp s5.heap) σ6 H8 s8 := fun I8 => I8.pins_of fun p hp => I8.pin p (List.mem_append_right _ (List.mem_append_right _ hp))
      cases ok with
      | false =>
        rw [if_neg Bool.false_ne_true] at q7
        obtain ⟨m', hm, w7⟩ := hNN _ _ _ q7
        have pD := I7.pin (D, _) (List.mem_append_right _ (List.mem_append_left _ (List.mem_singleton.mpr rfl)))
        simp only [Bool.false_eq_true, if_false]
        exact wpAny_pure ⟨rfl, again (dropD I7) pD.2.1 pD.1 rv hm w7⟩
      | true =>
        rw [if_pos rfl] at q7
        simp only [if_true]
        refine wpAny_bind (wpAny_bind (wpAny_mono (pe _ s7 σ6 H7 _ I7 q7) (fun u8 s8 ⟨y, H8, I8, r8, q8⟩ => ?_) fun _ _ z => z.elim))
        obtain ⟨m', hm, w8⟩ := hNN _ _ _ q8
        have pD := I8.pin (D, _) (List.mem_append_right _ (List.mem_append_left _ (List.mem_singleton.mpr rfl)))
        obtain ⟨gD8, nD8, _⟩ := pD
        have hlen := rv.length
        refine wpAny_bind (call_meets F.slot_list_append ⟨_, gD8, rfl⟩ F.entry_list_append (F.args_list_append_2 _ _) (PySem.list_append D its.toArray k u8 (by rw [List.size_toArray]; omega)) ⟨gD8, ?_⟩)
        refine wpAny_pure (wpAny_pure ⟨rfl, ?_⟩)
        have q := PySem.IsL.update gD8 (·.push u8)
        have e9 : its.toArray.push u8 = (its ++ [u8]).toArray := by simp
        rw [e9] at q
        refine again (its' := its ++ [u8]) ((dropD I8).turned (it := D) (t' := _) (fun b o hb e => (Heap.get?_update_other s8.heap _ (Ne.symm hb)).trans e) nD8 nDC (.inr hDs) (fun x c e => Dcell x c e) fun p hp z => ?_) nD8 q (rv.append (.cons r8 .nil)) hm w8
        have hp' : p ∈ pinsAt fp s5.heap := by simpa [cxComp] using hp
        exact nfD p.1 (of_pinsAt hp').1 z
  exact codeAny_compStart_list (loop _ rfl) (T.self _ 0 _ _ _ (T.keep _ _ _ st fun b hb o e => old b o e) (loop _ rfl))
theorem pe_comp {wi : TI} {g : TG} {tt : TT} {te : TE} (hc : X.calm = true) (S : CompScope X.N X.env.scope scope own fr) (hi : PI X tg iter wi)
    (hb : ∀ (cl : List (Str × Addr)) (C : Addr) (s : Shared) (H : Hp) (ex : List Addr), PG (cxComp X scope cl C (own ++ fr.map (·.2)) s H ex) tg g ∧ PIfs (cxComp X scope cl C (own ++ fr.map (·.2)) s H ex) ifs tt ∧ PE (cxComp X scope cl C (own ++ fr.map (·.2)) s H ex) elt te)
    (hs : ∀ x, foldedSetIterable iter X.env x = pure x := by intro _; rfl) : PE X (.ListComp elt [⟨tg, iter, ifs, 0⟩] scope pos) (tComp own fr wi g tt te) := by
  intro pins s σ H Q I h
  obtain ⟨cl, hclos, hcl, hcl2⟩ := closure_ok (scope := scope) (env := X.env) fun x hx => I.ok.has x (S.free (x, .free) hx rfl)
  rw [eval_ListComp]
  refine wpAny_comprehension_free (use := none) rfl hs hclos S.kind S.locs (thn (hi pins s σ H _ I h) fun xv s₁ h₁ => thn h₁ fun itv s₂ h₂ => ?_)
  obtain ⟨it, fp, tn, J, H2, e, I2, T, st2, f2, hq⟩ := h₂
  subst e
  refine comp_block hc S I2 hcl hcl2 T st2 f2 hb hq (RR := fun acc C => compPost (model X.prog X.w) X.A X.xe none (EP X pins σ Q) acc C) fun D C s' H' hn hC1 hCD hC2 q inv => ?_
  obtain ⟨m, hn⟩ := hn
  exact ⟨m, hn, fun h'' sb => ⟨.ref D, H', inv h'' fun b o hb e => sb.extBut b o hb e, rfl, q⟩⟩
theorem ps_comp {i : Nat} {x : Str} {px spos : Pos} {wi : TI} {g : TG} {tt : TT} {te : TE} (hc : X.calm = true) (hN : X.N.Nodup) (hix : X.N[i]? = some x) (hx : X.env.scope.names.lookup x = some .local) (S : CompScope X.N X.env.scope scope own fr) (hi : PI X tg iter wi)
    (hb : ∀ (cl : List (Str × Addr)) (C : Addr) (s : Shared) (H : Hp) (ex : List Addr), PG (cxComp X scope cl C (own ++ fr.map (·.2)) s H ex) tg g ∧ PIfs (cxComp X scope cl C (own ++ fr.map (·.2)) s H ex) ifs tt ∧ PE (cxComp X scope cl C (own ++ fr.map (·.2)) s H ex) elt te)
    (hsw : swapsWith (.ListComp elt [⟨tg, iter, ifs, 0⟩] scope pos) (some (.Name x px)) spos.line X.env = pure true) (hs : ∀ x, foldedSetIterable iter X.env x = pure x := by intro _; rfl) :
    PS X (.Assign [.Name x px] (.ListComp elt [⟨tg, iter, ifs, 0⟩] scope pos) spos) (tAsg (tComp own fr wi g tt te) (gName i)) := by
  intro pins s σ H D I h
  obtain ⟨cl, hclos, hcl, hcl2⟩ := closure_ok (scope := scope) (env := X.env) fun x hx => I.ok.has x (S.free (x, .free) hx rfl)
  rw [exec_Assign_Name_used _ _ _ _ hsw]
  refine wpAny_bind (wpAny_standAt (wpAny_bind ?_))
  show wpAny _ X.A (do let _ ← comprehension (.ListComp elt [⟨tg, iter, ifs, 0⟩] scope pos) scope X.env _ (newList []) false (eval iter X.env) (some (assign (.Name x px) X.env))) _ _ s
  refine wpAny_bind (wpAny_mono (wpAny_comprehension_free (use := some (assign (.Name x px) X.env)) (Q := fun _ s' => SP X pins D .next s') rfl hs hclos S.kind S.locs (thn (hi pins s σ H _ I h) fun xv s₁ h₁ => thn h₁ fun itv s₂ h₂ => ?_)) (fun _ s' hq => wpAny_pure (wpAny_pure hq)) fun _ _ e => e)
  obtain ⟨it, fp, tn, J, H2, e, I2, T, st2, f2, hq⟩ := h₂
  subst e
  refine comp_block (Q := fun x H1 => gName i x σ H1 D.nx) hc S I2 hcl hcl2 T st2 f2 hb hq (RR := fun acc C => compPost (model X.prog X.w) X.A X.xe (some (assign (.Name x px) X.env)) (fun _ s' => SP X pins D .next s') acc C) fun Da C s' H' hn hC1 hCD hC2 q inv => ?_
  obtain ⟨m, hn⟩ := hn
  have I3 : Inv X pins σ H' { s' with heap := s'.heap } := inv s'.heap fun _ _ _ e => e
  show wpAny _ X.A (assign (.Name x px) X.env (.ref Da)) _ _ s'
  refine wpAny_assign_Name (store_ok2 I3 hN hix (.inl hx) (v := .ref Da) rfl (fun s4 I4 ⟨a, sb, ha⟩ => ?_) (.inr hx))
  have hCL : C ≠ X.env.locals := Nat.ne_of_gt (Nat.lt_of_lt_of_le I2.lt hC1)
  have hCc : ∀ y c, X.env.cells.lookup y = some c → c ≠ C := fun y c e => by
    obtain ⟨v, w⟩ := I2.cell y c e
    exact Nat.ne_of_lt (Nat.lt_of_lt_of_le w.lt hC1)
  have haC : C ≠ a := by
    rcases ha with ha | ha
    · rw [ha]; exact hCL
    · exact (hCc _ _ ha).symm
  refine ⟨m, hn.sameBut sb haC, fun h'' sb2 => ⟨_, H', I4.turned (it := C) (t' := s4.toks) (fun b o hb e => sb2.extBut b o hb e) hC2 hCL (.inr (Nat.le_trans I2.sz hC1)) hCc fun p hp z => ?_, q⟩⟩
  exact Nat.ne_of_lt (Nat.lt_of_lt_of_le (Heap.lt_size (I2.pin p hp).1) hC1) z
end
theorem comp_list {K : PySem.W.Frag} {a : Addr} {xs : List V} {g : TG} {tt : TT} {te : TE} {σ₀ : St} {H : Hp} {Q : VK} (Pv : Nat → List V → St → Hp → Prop) (h0 : Pv 0 [] σ₀ H) (hz : xs.length ≤ sizeLine) (hn : ∀ i acc σ H, Pv i acc σ H → acc.length ≤ i)
    (hl : ∀ i acc σ H, i ≤ xs.length → Pv i acc σ H → SqL K H a xs)
    (hs : ∀ i x acc σ H, xs[i]? = some x → Pv i acc σ H → g x σ H fun σ2 H2 => tt σ2 H2 fun ok H3 => if ok = true then te σ2 H3 fun y H4 => Pv (i + 1) (acc ++ [y]) σ2 H4 else Pv (i + 1) acc σ2 H3)
    (hd : ∀ acc σ H, Pv xs.length acc σ H → ∀ p, H p = none → Q (.ref p) (upd H p (.lst acc))) :
    CompGo (Itl K a) g tt te Q σ₀ H := by
  refine ⟨fun i m acc σ H => m = xs.length - i ∧ i ≤ xs.length ∧ Pv i acc σ H, ⟨xs.length, by simp, Nat.zero_le _, h0⟩, ?_⟩
  rintro i m acc σ H ⟨rfl, hi, p⟩
  have q := hl i acc σ H hi p
  have hlen := hn i acc σ H p
  by_cases hlt : i < xs.length
  · refine .inr ⟨⟨xs, xs[i], q, by simp [hlt]⟩, by omega, Pv (i + 1), fun acc' σ' H' p' => ⟨xs.length - (i + 1), by omega, rfl, hlt, p'⟩, fun x H' y => ?_⟩
    obtain ⟨e, y⟩ := y
    subst e
    exact hs i x acc σ _ (y xs q) p
  · have e : i = xs.length := by omega
    subst e
    exact .inl ⟨⟨xs, q, Nat.le_refl _⟩, by omega, hd acc σ H p⟩
theorem comp_tup {K : PySem.W.Frag} {a : Addr} {xs : List V} {g : TG} {tt : TT} {te : TE} {σ₀ : St} {H : Hp} {Q : VK} (Pv : Nat → List V → St → Hp → Prop) (h0 : Pv 0 [] σ₀ H) (hz : xs.length ≤ sizeLine) (hn : ∀ i acc σ H, Pv i acc σ H → acc.length ≤ i)
    (hl : ∀ i acc σ H, i ≤ xs.length → Pv i acc σ H → SqT K H a xs)
    (hs : ∀ i x acc σ H, xs[i]? = some x → Pv i acc σ H → g x σ H fun σ2 H2 => tt σ2 H2 fun ok H3 => if ok = true then te σ2 H3 fun y H4 => Pv (i + 1) (acc ++ [y]) σ2 H4 else Pv (i + 1) acc σ2 H3)
    (hd : ∀ acc σ H, Pv xs.length acc σ H → ∀ p, H p = none → Q (.ref p) (upd H p (.lst acc))) :
    CompGo (Itt K a) g tt te Q σ₀ H := by
  refine ⟨fun i m acc σ H => m = xs.length - i ∧ i ≤ xs.length ∧ Pv i acc σ H, ⟨xs.length, by simp, Nat.zero_le _, h0⟩, ?_⟩
  rintro i m acc σ H ⟨rfl, hi, p⟩
  have q := hl i acc σ H hi p
  have hlen := hn i acc σ H p
  by_cases hlt : i < xs.length
  · refine .inr ⟨⟨xs, xs[i], q, by simp [hlt]⟩, by omega, Pv (i + 1), fun acc' σ' H' p' => ⟨xs.length - (i + 1), by omega, rfl, hlt, p'⟩, fun x H' y => ?_⟩
    obtain ⟨e, y⟩ := y
    subst e
    exact hs i x acc σ _ (y xs q) p
  · have e : i = xs.length := by omega
    subst e
    exact .inl ⟨⟨xs, q, Nat.le_refl _⟩, by omega, hd acc σ H p⟩
theorem comp_range {lo : Int} {n : Nat} {g : TG} {tt : TT} {te : TE} {σ₀ : St} {H : Hp} {Q : VK} (Pv : Nat → List V → St → Hp → Prop) (h0 : Pv 0 [] σ₀ H) (hz : n ≤ sizeLine) (hn : ∀ i acc σ H, Pv i acc σ H → acc.length ≤ i)
    (hs : ∀ i acc σ H, i < n → Pv i acc σ H → g (.int (lo + i)) σ H fun σ2 H2 => tt σ2 H2 fun ok H3 => if ok = true then te σ2 H3 fun y H4 => Pv (i + 1) (acc ++ [y]) σ2 H4 else Pv (i + 1) acc σ2 H3)
    (hd : ∀ acc σ H, Pv n acc σ H → ∀ p, H p = none → Q (.ref p) (upd H p (.lst acc))) :
    CompGo (Itr lo n) g tt te Q σ₀ H := by
  refine ⟨fun i m acc σ H => m = n - i ∧ i ≤ n ∧ Pv i acc σ H, ⟨n, by simp, Nat.zero_le _, h0⟩, ?_⟩
  rintro i m acc σ H ⟨rfl, hi, p⟩
  have hlen := hn i acc σ H p
  by_cases hlt : i < n
  · refine .inr ⟨hlt, by omega, Pv (i + 1), fun acc' σ' H' p' => ⟨n - (i + 1), by omega, rfl, hlt, p'⟩, fun x H' y => ?_⟩
    obtain ⟨e, y⟩ := y
    subst e y
    exact hs i acc σ _ hlt p
  · have e : i = n := by omega
    subst e
    exact .inl ⟨Nat.le_refl _, by omega, hd acc σ H p⟩
end L2
namespace L2
open PySem PySem.Spec PyProof.Rows
theorem iteN {c A B : Prop} [Decidable c] (h : ¬ c) (b : B) : if c then A else B := by rw [if_neg h]; exact b
structure Callee (P : Program) (w : World) (K : PySem.W.Frag) (mg : Str → Option Value) (base : Heap) (k : Nat) (x : Str) (ps : List Str) (sp : Sp) : Prop where
  ex : ∃ (f : Addr) (fd : FuncData), FnOk P w K mg base CX0 k f fd ps sp ∧ Binds K fd ps [] ∧ PySem.W.keepIn K (.ref f) = true ∧ mg x = some (.ref f)
structure Def (K : PySem.W.Frag) (mg : Str → Option Value) (x : Str) (st : Stmt) (ps : List Str) : Prop where
  ex : ∃ (f : Addr) (fd : FuncData), Fun K x x st f fd ∧ Binds K fd ps [] ∧ mg x = some (.ref f)
section
variable {P : Program} {w : World} {K : PySem.W.Frag} {mg : Str → Option Value} {base : Heap}
theorem Def.ok {x : Str} {st : Stmt} {N ps : List Str} {k : Nat} {sp : Sp} (D : Def K mg x st ps) (S : FnScope N ps (defScope st)) (len : ∀ vs H Q E, sp vs H Q E → vs.length = ps.length)
    (hbody : ∀ (f : Addr) (cdv : Value) (A : Around) (outer : List Env) (s : Shared) (H : Hp) (vs : List V) (Q : VK) (E : XK), Room k (A.deeper (envOfC x (defScope st) s.heap.objs.size f cdv)) → sp vs H Q E →
      ∃ t, PSs (cxOf CX0 P w K mg base N x (defScope st) f cdv A outer s H E).nox (defBody st) t ∧ t { nx := fun _ H' => Q .non H', rt := Q } (start N vs) H) : Callee P w K mg base (k + 1) x ps sp := by
  obtain ⟨f, fd, F, b, m⟩ := D.ex
  exact ⟨f, fd, F.ok S len fun cdv A outer s H vs Q E hr h => hbody f cdv A outer s H vs Q E hr h, b, F.kp, m⟩
end
section
variable {X : Cx} {k n : Nat} {ps : List Str} {sp : Sp} {x : Str} {p pos : Pos} {e : Expr} {es : List Expr} {t : TA}
theorem pe_fn (C : Callee X.prog X.w X.K X.mg X.base k x ps sp) (hr : Room n X.A) (hg : Gl X x) (ha : PA X (e :: es) t) (hk : k ≤ n := by decide) (hdb : (x == ("__debug__" : Str)) = false := by decide)
    (he : starEach (e :: es) X.env = (false, eval e X.env) :: starEach es X.env := by rfl) (hpl : (backTo pos (starEach es X.env)).any (·.1) = false := by rfl) :
    PE X (.Call (.Name x p) (e :: es) [] pos) (tCall sp [] E0 t) := by
  obtain ⟨f, fd, F, b, kp, m⟩ := C.ex
  exact pe_call F (hr.mono hk) hg m kp b .nil pass0 ha hdb he hpl
theorem call_isinst : CallR X (.builtin "isinstance") (fun xs H Q => ∃ v T t b, xs = [v, .ty T] ∧ TyOf X.K H v t ∧ PySem.W.kitOne X.K t (.type T) = some b ∧ Q (.bl b) H) := by
  intro pins s σ H xs us Q I r h
  obtain ⟨v, T, t, b, rfl, ty, e, q⟩ := h
  obtain ⟨u, u', rfl, r1, r2⟩ := vals2 r
  cases r2
  exact isinst_ok I r1 ty e fun tk => ⟨.bl b, H, I.tok _, rfl, q⟩
def kitB (S T : String) : Option Bool := if (Value.type S == Value.type T) = true then some true else if PySem.W.kitMeta T = true then (fastBuiltinMro S).map (·.contains (.type T)) else none
theorem kit_of {K : PySem.W.Frag} {S T : String} {b : Bool} (h : kitB S T = some b) : PySem.W.kitOne K (.type S) (.type T) = some b := h
section
variable {K : PySem.W.Frag}
theorem kit_int_int : PySem.W.kitOne K (.type "int") (.type "int") = some true := kit_of (by decide +kernel)
theorem kit_int_bool : PySem.W.kitOne K (.type "int") (.type "bool") = some false := kit_of (by decide +kernel)
end
theorem ints_at {ns : List Int} {us : List Value} (h : IntsAre us ns) : ∀ (i : Nat) (v : Value), us[i]? = some v → ∃ t, v = .int (ns.getD i 0) t := by
  induction h with
  | nil => intro i v e; simp at e
  | cons n t h ih =>
    intro i v e
    cases i with
    | zero => exact ⟨t, by simpa using e.symm⟩
    | succ i =>
      obtain ⟨t', e'⟩ := ih i v (by simpa using e)
      exact ⟨t', by simpa using e'⟩
theorem all_getD (ns ms : List Int) (h : ns.length = ms.length) : ((List.range ns.length).all fun j => ns.getD j 0 == ms.getD j 0) = decide (ns = ms) := by
  rw [Bool.eq_iff_iff, List.all_eq_true, decide_eq_true_iff]
  constructor
  · intro q
    apply List.ext_getElem h
    intro i h1 h2
    have := q i (by simpa using h1)
    simpa [List.getD, h1, h2] using this
  · rintro rfl i hi
    simp
theorem eqAt_ints {A : Around} {s : Shared} {us vs : List Value} {ns ms : List Int} (h : IntsAre us ns) (h' : IntsAre vs ms) : ∀ j (h1 : j < us.toArray.size) (h2 : j < vs.toArray.size), SeqAt.EqAt A s us.toArray[j] vs.toArray[j] (ns.getD j 0 == ms.getD j 0) := fun j h1 h2 => by
  obtain ⟨t, e⟩ := ints_at h j us.toArray[j] (by simp)
  obtain ⟨t', e'⟩ := ints_at h' j vs.toArray[j] (by simp)
  rw [e, e']
  exact SeqAt.EqAt.int_int _ _ _ _
theorem op_neLI (hu : X.A.units < cLine) : OpR X (compareOp .NotEq) (fun x y H Q => ∃ (a b : Addr) (ns ms : List Int), x = .ref a ∧ y = .ref b ∧ SqL X.K H a (ns.map V.int) ∧ SqL X.K H b (ms.map V.int) ∧ Q (.bl (!decide (ns = ms))) H) := by
  intro pins s σ H x y v u Q I rx ry h
  obtain ⟨a, b, ns, ms, rfl, rfl, ha, hb, q⟩ := h
  cases rx
  cases ry
  obtain ⟨its, r1, p1, _⟩ := I.list ha
  obtain ⟨its2, r2, p2, _⟩ := I.list hb
  have i1 : IntsAre its ns := intsAre_of r1
  have i2 : IntsAre its2 ms := intsAre_of r2
  have l1 := i1.length
  have l2 := i2.length
  by_cases hl : ns.length = ms.length
  · refine SeqAt.RcNeAt.lists (e := fun j => ns.getD j 0 == ms.getD j 0) p1.isList p2.isList (by simp only [List.size_toArray]; omega) hu (eqAt_ints i1 i2) X.prog X.w X.xe _ ?_
    rw [List.size_toArray, l1, all_getD ns ms hl]
    exact ⟨.bl _, H, I, rfl, q⟩
  · refine SeqAt.RcNeAt.lists_lengths p1.isList p2.isList (by simp only [List.size_toArray]; simpa using (by omega : its.length ≠ its2.length)) hu X.prog X.w X.xe _ ?_
    have e : decide (ns = ms) = false := decide_eq_false (fun z => hl (by rw [z]))
    rw [e] at q
    exact ⟨.bl true, H, I, rfl, q⟩
theorem op_eqLI (hu : X.A.units < cLine) : OpR X (compareOp .Eq) (fun x y H Q => ∃ (a b : Addr) (ns ms : List Int), x = .ref a ∧ y = .ref b ∧ SqL X.K H a (ns.map V.int) ∧ SqL X.K H b (ms.map V.int) ∧ Q (.bl (decide (ns = ms))) H) := by
  intro pins s σ H x y v u Q I rx ry h
  obtain ⟨a, b, ns, ms, rfl, rfl, ha, hb, q⟩ := h
  cases rx
  cases ry
  obtain ⟨its, r1, p1, _⟩ := I.list ha
  obtain ⟨its2, r2, p2, _⟩ := I.list hb
  have i1 : IntsAre its ns := intsAre_of r1
  have i2 : IntsAre its2 ms := intsAre_of r2
  have l1 := i1.length
  have l2 := i2.length
  by_cases hl : ns.length = ms.length
  · refine SeqAt.RcAt.lists (e := fun j => ns.getD j 0 == ms.getD j 0) p1.isList p2.isList (by simp only [List.size_toArray]; omega) hu (eqAt_ints i1 i2) X.prog X.w X.xe _ ?_
    rw [List.size_toArray, l1, all_getD ns ms hl]
    exact ⟨.bl _, H, I, rfl, q⟩
  · refine SeqAt.RcAt.lists_lengths p1.isList p2.isList (by simp only [List.size_toArray]; simpa using (by omega : its.length ≠ its2.length)) hu X.prog X.w X.xe _ ?_
    have e : decide (ns = ms) = false := decide_eq_false (fun z => hl (by rw [z]))
    rw [e] at q
    exact ⟨.bl false, H, I, rfl, q⟩
end
end L2
namespace L2
open PySem
theorem below_go (xs : Array Nat) (j : Nat) (mono : xs.toList.Pairwise (· < ·)) : ∀ fuel lo hi, hi - lo ≤ fuel → lo ≤ hi → hi ≤ xs.size → (∀ i, i < lo → xs.getD i j < j) → (∀ i, hi ≤ i → i < xs.size → j ≤ xs.getD i j) →
    SetTable.below.go xs j fuel lo hi ≤ xs.size ∧ (∀ i, i < SetTable.below.go xs j fuel lo hi → xs.getD i j < j) ∧ ∀ i, SetTable.below.go xs j fuel lo hi ≤ i → i < xs.size → j ≤ xs.getD i j := by
  have le : ∀ a b, a ≤ b → b < xs.size → xs.getD a j ≤ xs.getD b j := fun a b h hb => by
    rcases Nat.lt_or_eq_of_le h with h | h
    · have := List.pairwise_iff_getElem.mp mono a b (by simp; omega) (by simpa using hb) h
      simp only [Array.getElem_toList] at this
      simp only [Array.getD_eq_getD_getElem?, Array.getElem?_eq_getElem hb, Array.getElem?_eq_getElem (show a < xs.size by omega), Option.getD_some]
      omega
    · rw [h]; exact Nat.le_refl _
  intro fuel
  induction fuel with
  | zero =>
    intro lo hi h1 h2 h3 h4 h5
    have e : lo = hi := by omega
    subst e
    exact ⟨h3, h4, h5⟩
  | succ fuel ih =>
    intro lo hi h1 h2 h3 h4 h5
    unfold SetTable.below.go
    by_cases hl : lo < hi
    · rw [if_pos hl]
      dsimp only
      by_cases hm : xs.getD ((lo + hi) / 2) j < j
      · rw [if_pos hm]
        refine ih _ _ (by omega) (by omega) h3 (fun i hi' => ?_) h5
        exact Nat.lt_of_le_of_lt (le i ((lo + hi) / 2) (by omega) (by omega)) hm
      · rw [if_neg hm]
        refine ih _ _ (by omega) (by omega) (by omega) h4 (fun i hi' hs => ?_)
        exact Nat.le_trans (by omega) (le ((lo + hi) / 2) i hi' hs)
    · rw [if_neg hl]
      have e : lo = hi := by omega
      subst e
      exact ⟨h3, h4, h5⟩
theorem below_spec (xs : Array Nat) (j : Nat) (mono : xs.toList.Pairwise (· < ·)) : SetTable.below xs j ≤ xs.size ∧ (∀ i, i < SetTable.below xs j → xs.getD i j < j) ∧ ∀ i, SetTable.below xs j ≤ i → i < xs.size → j ≤ xs.getD i j :=
  below_go xs j mono xs.size 0 xs.size (by omega) (by omega) (Nat.le_refl _) (fun i h => absurd h (by omega)) (fun i h h' => absurd h' (by omega))
theorem insert_rises (xs : Array Nat) (j : Nat) (mono : xs.toList.Pairwise (· < ·)) (hn : xs[SetTable.below xs j]? ≠ some j) : (SetTable.insertAt xs (SetTable.below xs j) j).toList.Pairwise (· < ·) := by
  obtain ⟨h1, h2, h3⟩ := below_spec xs j mono
  have e : (SetTable.insertAt xs (SetTable.below xs j) j).toList = xs.toList.take (SetTable.below xs j) ++ j :: xs.toList.drop (SetTable.below xs j) := by
    simp [SetTable.insertAt, List.extract_eq_take_drop, List.take_of_length_le]
  rw [e]
  generalize hp : SetTable.below xs j = p at *
  have gt : ∀ i, p ≤ i → (h : i < xs.size) → j < xs[i] := fun i hi h => by
    have q := h3 i hi h
    rw [Array.getD_eq_getD_getElem?, Array.getElem?_eq_getElem h, Option.getD_some] at q
    rcases Nat.lt_or_eq_of_le q with q | q
    · exact q
    · exfalso
      have hps : p < xs.size := by omega
      have q2 := h3 p (Nat.le_refl _) hps
      rw [Array.getD_eq_getD_getElem?, Array.getElem?_eq_getElem hps, Option.getD_some] at q2
      rcases Nat.lt_or_eq_of_le hi with z | z
      · have := List.pairwise_iff_getElem.mp mono p i (by simpa using hps) (by simpa using h) z
        simp only [Array.getElem_toList] at this
        omega
      · subst z
        exact hn (by rw [Array.getElem?_eq_getElem h, ← q])
  rw [List.pairwise_append, List.pairwise_cons]
  refine ⟨mono.sublist (List.take_sublist _ _), ⟨fun a ha => ?_, mono.sublist (List.drop_sublist _ _)⟩, fun a ha b hb => ?_⟩
  · obtain ⟨i, hi, rfl⟩ := List.getElem_of_mem ha
    rw [List.getElem_drop]
    rw [List.length_drop, Array.length_toList] at hi
    have := gt (p + i) (by omega) (by omega)
    simpa using this
  · obtain ⟨i, hi, rfl⟩ := List.getElem_of_mem ha
    rw [List.length_take, Array.length_toList] at hi
    have q := h2 i (by omega)
    rw [Array.getD_eq_getD_getElem?, Array.getElem?_eq_getElem (by omega), Option.getD_some] at q
    rw [List.getElem_take]
    rw [Array.getElem_toList]
    rcases List.mem_cons.mp hb with rfl | hb
    · exact q
    · obtain ⟨k, hk, rfl⟩ := List.getElem_of_mem hb
      rw [List.getElem_drop]
      rw [List.length_drop, Array.length_toList] at hk
      have := gt (p + k) (by omega) (by omega)
      rw [Array.getElem_toList]
      omega
structure JT (L : Bool) (t : SetTable) : Prop where
  led : t.led = L
  dum : t.dummies = #[]
  mono : t.place.toList.Pairwise (· < ·)
theorem has_nil (j : Nat) : SetTable.has #[] j = false := by simp [SetTable.has]
theorem slot_cases (t : SetTable) (j : Nat) (h : t.dummies = #[]) : (t.slot j = .empty ∧ t.place[SetTable.below t.place j]? ≠ some j) ∨ ∃ i, t.slot j = .live i := by
  unfold SetTable.slot
  rw [h, has_nil]
  dsimp only
  by_cases e : (t.place[SetTable.below t.place j]? == some j) = true
  · rw [if_pos e]; exact .inr ⟨_, rfl⟩
  · rw [if_neg e]
    refine .inl ⟨by simp, fun q => e ?_⟩
    rw [q]; simp
theorem probe_empty (t : SetTable) (hd : t.dummies = #[]) (f : Nat → Int) (h : Int) : ∀ (fuel : Nat) (p : SetTable.Probe) (j : Nat) (d : Option Nat), p.dummy = none → SetTable.probe.go t f h fuel p = some (.empty j d) →
    d = none ∧ t.place[SetTable.below t.place j]? ≠ some j := by
  intro fuel
  induction fuel with
  | zero => intro p j d _ e; simp [SetTable.probe.go] at e
  | succ fuel ih =>
    intro p j d hp e
    unfold SetTable.probe.go at e
    rcases slot_cases t p.j hd with ⟨q, q2⟩ | ⟨i, q⟩
    · rw [q] at e
      injection e with e
      injection e with e1 e2
      subst e1
      exact ⟨e2 ▸ hp, q2⟩
    · rw [q] at e
      dsimp only at e
      have ha : (t.advance p).dummy = none := by
        unfold SetTable.advance
        split
        · exact hp
        · exact hp
      split at e
      · cases e
      · exact ih _ j d ha e
theorem standIn_JT {L : Bool} {t : SetTable} (n : Nat) (h : JT L t) : JT L (t.standIn n) where
  led := h.led
  dum := rfl
  mono := by
    show (Array.range n).toList.Pairwise (· < ·)
    rw [Array.toList_range]
    exact List.pairwise_lt_range
theorem layNew_JT {L : Bool} {t : SetTable} (es : Array (Int × Value)) (h : Int) (x : Value) (J : JT L t) : JT L (layNew t es h x).2.1 := by
  unfold layNew
  cases q : t.freeSlot h with
  | none => exact standIn_JT _ J
  | some r =>
    obtain ⟨slot, wasDummy⟩ := r
    dsimp only
    have hs : t.place[SetTable.below t.place slot]? ≠ some slot := by
      unfold SetTable.freeSlot at q
      cases e : t.probe (fun _ => h + 1) h (t.probeStart h) with
      | none => rw [e] at q; cases q
      | some m =>
        rw [e] at q
        cases m with
        | candidate _ _ _ => cases q
        | empty j d =>
          obtain ⟨rfl, z⟩ := probe_empty t J.dum _ h _ _ j d rfl e
          have q1 := Option.some.inj q
          injection q1 with q2 _
          subst q2
          exact z
    have Jp : JT L (t.put slot).1 := by
      refine ⟨J.led, ?_, insert_rises t.place slot J.mono hs⟩
      show (if SetTable.has t.dummies slot = true then _ else t.dummies) = #[]
      rw [J.dum, has_nil]
      rfl
    unfold SetTable.orStandIn
    split
    · exact Jp
    · exact standIn_JT _ Jp
theorem laid_JT {L : Bool} {mask finger moves : Nat} {plain : Bool} {hs : Array Int} {t : SetTable} {o : Array Nat} (h : SetTable.laid mask finger moves L plain hs = some (t, o)) : JT L t := by
  unfold SetTable.laid at h
  cases q : SetTable.layClean mask hs with
  | none => rw [q] at h; cases h
  | some owner =>
    rw [q] at h
    have e := Option.some.inj h
    injection e with e1 _
    subst e1
    refine ⟨rfl, rfl, ?_⟩
    show (List.map (fun x => x.1) ((List.range (mask + 1)).filterMap fun j => (owner.getD j none).map (j, ·))).toArray.toList.Pairwise (· < ·)
    have : ∀ l : List Nat, List.Sublist (List.map (fun x : Nat × Nat => x.1) (l.filterMap fun j => (owner.getD j none).map (j, ·))) l := by
      intro l
      induction l with
      | nil => exact List.Sublist.refl _
      | cons a r ih =>
        rw [List.filterMap_cons]
        cases (owner.getD a none) with
        | none => exact ih.cons _
        | some k => exact ih.cons₂ _
    exact (List.pairwise_lt_range (n := mask + 1)).sublist (by simpa using this (List.range (mask + 1)))
theorem relayAll_JT {L : Bool} {t : SetTable} (es : Array (Int × Value)) (wanted : Nat) (J : JT L t) : JT L (relayAll t es wanted).2.1 := by
  unfold relayAll
  cases q : t.relaid (es.map (·.1)) wanted with
  | none => exact standIn_JT _ J
  | some r =>
    obtain ⟨t', order⟩ := r
    dsimp only
    split
    · unfold SetTable.relaid at q
      rw [J.led] at q
      exact laid_JT q
    · exact standIn_JT _ J
theorem plain_off_JT {L : Bool} {t : SetTable} (J : JT L t) : JT L { t with plain := false } := ⟨J.led, J.dum, J.mono⟩
theorem below_next {xs : Array Nat} (mono : xs.toList.Pairwise (· < ·)) (k : Nat) (hk : k < xs.size) : SetTable.below xs (xs[k] + 1) = k + 1 := by
  obtain ⟨h1, h2, h3⟩ := below_spec xs (xs[k] + 1) mono
  have q1 : ¬ SetTable.below xs (xs[k] + 1) ≤ k := fun q => by
    have := h3 k q hk
    rw [Array.getD_eq_getD_getElem?, Array.getElem?_eq_getElem hk, Option.getD_some] at this
    omega
  have q2 : ¬ k + 1 < SetTable.below xs (xs[k] + 1) := fun q => by
    have hk1 : k + 1 < xs.size := by omega
    have := h2 (k + 1) q
    rw [Array.getD_eq_getD_getElem?, Array.getElem?_eq_getElem hk1, Option.getD_some] at this
    have z := List.pairwise_iff_getElem.mp mono k (k + 1) (by simpa using hk) (by simpa using hk1) (by omega)
    simp only [Array.getElem_toList] at z
    omega
  omega
theorem below_first {xs : Array Nat} (mono : xs.toList.Pairwise (· < ·)) : SetTable.below xs 0 = 0 := by
  obtain ⟨h1, h2, h3⟩ := below_spec xs 0 mono
  rcases Nat.eq_zero_or_pos (SetTable.below xs 0) with h | h
  · exact h
  · exact absurd (h2 0 h) (by omega)
theorem erase_perm {α : Type} : ∀ (l : List α) (i : Nat) (h : i < l.length), List.Perm (l[i] :: l.eraseIdx i) l
  | a :: l, 0, _ => List.Perm.refl _
  | a :: l, i + 1, h => (List.Perm.swap _ _ _).trans ((erase_perm l i (by simpa using h)).cons a)
theorem pickOrder_perm {α : Type} (next : Nat → Nat) (xs : Array α) : List.Perm (pickOrder next xs).toList xs.toList := by
  have go : ∀ (fuel k : Nat) (left : List α) (out : Array α), left.length = fuel → List.Perm (pickOrder.go next fuel k left out).toList (out.toList ++ left) := by
    intro fuel
    induction fuel with
    | zero =>
      intro k left out h
      have e : left = [] := List.eq_nil_of_length_eq_zero h
      subst e
      simp [pickOrder.go]
    | succ fuel ih =>
      intro k left out h
      unfold pickOrder.go
      have hlt : next k % left.length < left.length := Nat.mod_lt _ (by omega)
      rw [List.getElem?_eq_getElem hlt]
      dsimp only
      refine (ih (k + 1) _ _ (by rw [List.length_eraseIdx_of_lt hlt]; omega)).trans ?_
      rw [Array.toList_push, List.append_assoc]
      exact List.Perm.append_left _ (erase_perm left _ hlt)
  exact (go xs.size 0 xs.toList #[] (by simp)).trans (by simp)
end L2
namespace L2
open PySem
section
variable {prog : Program} {w : World} {κ : Type} [DecidableEq κ]
def SetX (knd : KeyKind prog w κ) (h : Heap) (a : Addr) (S : κ → Bool) (n : Nat) : Prop :=
  ∃ o es ep t, h.get? a = some o ∧ o.ExactSet ∧ o.data = .set es ep t ∧ (ElemsOf knd es.toList ∧ (∀ k, S k = true ↔ ∃ e ∈ es.toList, knd.is k e.2 = true) ∧ es.size < scanBound ∧ t.fits es.size = true ∧ es.size = n) ∧ JT (!w.params.followText "set-order") t
variable {knd : KeyKind prog w κ} {A : Around} {E : Value → Shared → Prop} {s : Shared}
theorem SetX.of_get {h h' : Heap} {a : Addr} {S : κ → Bool} {n : Nat} (x : SetX knd h a S n) (k : ∀ o, h.get? a = some o → h'.get? a = some o) : SetX knd h' a S n := by
  obtain ⟨o, es, ep, t, e, r⟩ := x
  exact ⟨o, es, ep, t, k o e, r⟩
theorem SetX.congr {h : Heap} {a : Addr} {S S' : κ → Bool} {n n' : Nat} (x : SetX knd h a S n) (e : ∀ k, S k = S' k) (en : n = n') : SetX knd h a S' n' := by
  obtain rfl : S = S' := funext e
  subst en
  exact x
theorem SetX.new (h : Heap) {l : Bool} (hl : l = !w.params.followText "set-order") : SetX knd (h.push { cls := .type "set", dict := none, data := .set #[] 0 (.fresh 0 0 l) }) h.objs.size (fun _ => false) 0 := by
  refine ⟨_, #[], 0, _, Heap.get?_push_size _ rfl, ⟨rfl, rfl, rfl⟩, rfl, ⟨fun e he => absurd he (by simp), fun k => by simp, by decide, by simp [SetTable.fits, SetTable.fresh, SetTable.fill], rfl⟩, hl, rfl, ?_⟩
  exact List.Pairwise.nil
theorem SetX.store {h : Heap} {a : Addr} {o : Obj} {es es' : Array (Int × Value)} {ep : Nat} {t t' : SetTable} {S : κ → Bool} (ho : h.get? a = some o) (hx : o.ExactSet) (hd : o.data = .set es ep t)
    (el : ElemsOf knd es'.toList) (mem : ∀ k, S k = true ↔ ∃ e ∈ es'.toList, knd.is k e.2 = true) (hb : es'.size < scanBound) (hf : t'.fits es'.size = true) (J : JT (!w.params.followText "set-order") t') :
    (h.update a (Obj.putSet es' t')).get? a = some { o with data := .set es' (ep + 1) t' } ∧ SetX knd (h.update a (Obj.putSet es' t')) a S es'.size := by
  have g : (h.update a (Obj.putSet es' t')).get? a = some { o with data := .set es' (ep + 1) t' } := (SetOf_store (knd := knd) (S' := S) ho hx hd el mem hb hf).1
  exact ⟨g, _, es', ep + 1, t', g, hx, rfl, ⟨el, mem, hb, hf, rfl⟩, J⟩
theorem addTailX {g : Bool → Sem Unit} (hg : ∀ (b : Bool) (s₁ : Shared) (Q' : Unit → Shared → Prop), Q' () s₁ → wpAny (model prog w) A (g b) Q' E s₁)
    {a : Addr} {o : Obj} {es es1 : Array (Int × Value)} {ep : Nat} {t t2 : SetTable} {S : κ → Bool} {wd : Bool} {R : Option Bool → Shared → Prop} (ho : s.heap.get? a = some o) (hx : o.ExactSet) (hd : o.data = .set es ep t)
    (el : ElemsOf knd es1.toList) (mem : ∀ k, S k = true ↔ ∃ e ∈ es1.toList, knd.is k e.2 = true) (hb : es1.size < scanBound) (hf : t2.fits es1.size = true) (J : JT (!w.params.followText "set-order") t2)
    (fin : ∀ h', Heap.SameBut a s.heap h' → SetX knd h' a S es1.size → R (some true) { s with heap := h' }) :
    wpAny (model prog w) A (do
        storeSet a es1 t2
        if (!wd && t2.tooFull) = true then do
            g (relayAll t2 es1 (SetTable.grown es1.size)).2.2
            storeSet a (relayAll t2 es1 (SetTable.grown es1.size)).1 (relayAll t2 es1 (SetTable.grown es1.size)).2.1
            pure (some true)
          else pure (some true)) R E s := by
  obtain ⟨g1, x1⟩ := SetX.store (knd := knd) ho hx hd el mem hb hf J
  have sb1 := Heap.SameBut.update s.heap a (Obj.putSet es1 t2)
  refine wpAny_bind (wpAny_storeSet_of ho hd ?_ (fits_of_scanBound hb))
  by_cases c : (!wd && t2.tooFull) = true
  · rw [if_pos c]
    have pm := relayAll_perm t2 es1 (SetTable.grown es1.size)
    have ft := relayAll_fits t2 es1 (SetTable.grown es1.size)
    have J2 := relayAll_JT (t := t2) es1 (SetTable.grown es1.size) J
    generalize relayAll t2 es1 (SetTable.grown es1.size) = r at pm ft J2 ⊢
    obtain ⟨es2, t3, gave⟩ := r
    dsimp only at pm ft J2 ⊢
    have sz : es2.size = es1.size := by simpa using pm.length_eq
    refine wpAny_bind (hg _ _ _ (wpAny_bind (wpAny_storeSet_of g1 rfl ?_ (by rw [sz]; exact fits_of_scanBound hb))))
    obtain ⟨_, x2⟩ := SetX.store (knd := knd) (S := S) g1 hx rfl (el.perm pm) (fun k => (mem k).trans ⟨fun ⟨e, he, q⟩ => ⟨e, pm.mem_iff.mpr he, q⟩, fun ⟨e, he, q⟩ => ⟨e, pm.mem_iff.mp he, q⟩⟩) (by rw [sz]; exact hb) ft J2
    rw [sz] at x2
    exact wpAny_pure (fin _ (sb1.trans (Heap.SameBut.update _ a _)) x2)
  · rw [if_neg c]
    exact wpAny_pure (fin _ sb1 x1)
theorem addX {a : Addr} {S : κ → Bool} {n : Nat} {k : κ} {x : Value} {Q : Bool → Shared → Prop} (hk : knd.is k x = true) (hsc : x.scannable = true) (hS : SetX knd s.heap a S n) (room : n + 1 < scanBound)
    (fin : ∀ h', Heap.SameBut a s.heap h' → SetX knd h' a (fun k' => S k' || decide (k' = k)) (if S k then n else n + 1) → Q (!S k) { s with heap := h' }) :
    wpAny (model prog w) A (setAddHashed a x (knd.hash k)) Q E s := by
  obtain ⟨o, es, ep, t, ho, hx, hd, ⟨el, mem, hb, hf, hn⟩, J⟩ := hS
  have quiet : ∀ (b : Bool) (s₁ : Shared) (Q' : Unit → Shared → Prop), Q' () s₁ → wpAny (model prog w) A (match b with | true => rule "set.scan.the-table-gave-way" | false => pure ()) Q' E s₁ := fun b s₁ Q' z => by
    cases b
    · exact wpAny_pure z
    · exact wpAny_rule z
  unfold setAddHashed setAddHashedIn
  refine wpAny_holding (wpAny_bind (wpAny_setState_of ho hd hf ?_))
  dsimp only
  rw [if_pos (byScan_of hsc hb el)]
  unfold setAddByScan
  refine wpAny_bind (wpAny_bind (wpAny_rule (wpAny_bind (wpAny_setScan_of hk ho hd hf el ?_))))
  cases found : List.findIdx? (fun e => knd.is k e.2) es.toList with
  | some j =>
    obtain ⟨hj, pj, _⟩ := List.findIdx?_eq_some_iff_getElem.mp found
    have there : S k = true := (mem k).mpr ⟨_, List.getElem_mem hj, pj⟩
    dsimp only
    refine wpAny_pure (wpAny_pure ?_)
    have z := fin s.heap (Heap.SameBut.refl a s.heap) ⟨o, es, ep, t, ho, hx, hd, ⟨el, fun k' => ?_, hb, hf, by rw [there]; exact hn⟩, J⟩
    · rw [there] at z
      exact z
    · rw [← mem k', Bool.or_eq_true, decide_eq_true_eq]
      exact ⟨fun q => q.elim id fun e => by rw [e]; exact there, .inl⟩
  | none =>
    have away : S k = false := by
      cases q : S k with
      | false => rfl
      | true =>
        obtain ⟨e, he, pe⟩ := (mem k).mp q
        exact absurd pe (by simpa using List.findIdx?_eq_none_iff.mp found e he)
    dsimp only
    have pm := layNew_perm t es (knd.hash k) x
    have ft := layNew_fits t es (knd.hash k) x
    have J1 := layNew_JT es (knd.hash k) x J
    generalize layNew t es (knd.hash k) x = r at pm ft J1 ⊢
    obtain ⟨es1, t1, wd, gave⟩ := r
    dsimp only at pm ft J1 ⊢
    rw [Array.toList_push] at pm
    have sz : es1.size = n + 1 := by
      have := pm.length_eq
      rw [List.length_append] at this
      simp at this
      omega
    have last : ∀ h', Heap.SameBut a s.heap h' → SetX knd h' a (fun k' => S k' || decide (k' = k)) es1.size → Q true { s with heap := h' } := fun h' sb q => by
      have z := fin h' sb
      rw [away] at z
      rw [sz] at q
      exact z q
    have go : ∀ t2 : SetTable, t2.fits es1.size = true → JT (!w.params.followText "set-order") t2 → ∀ (R : Option Bool → Shared → Prop), (∀ h', Heap.SameBut a s.heap h' → SetX knd h' a (fun k' => S k' || decide (k' = k)) es1.size → R (some true) { s with heap := h' }) → wpAny (model prog w) A (do
        storeSet a es1 t2
        if (!wd && t2.tooFull) = true then do
            (match (relayAll t2 es1 (SetTable.grown es1.size)).2.2 with | true => rule "set.scan.the-table-gave-way" | false => pure ())
            storeSet a (relayAll t2 es1 (SetTable.grown es1.size)).1 (relayAll t2 es1 (SetTable.grown es1.size)).2.1
            pure (some true)
          else pure (some true)) R E s := fun t2 f2 J2 R hR =>
      addTailX quiet ho hx hd ((el.push hk hsc).perm pm) (mem_push_iff hk mem pm) (by rw [sz]; exact room) f2 J2 hR
    refine wpAny_bind (quiet _ _ _ ?_)
    by_cases c : t1.plain = true
    · rw [if_pos c]
      refine wpAny_bind ?_
      rw [hashByValue_scannable 8 hsc]
      refine wpAny_pure ?_
      refine go _ ?_ ?_ _ fun h' sb q => wpAny_pure (last h' sb q)
      · split
        · exact ft
        · exact SetTable.fits_plain_off ft
      · split
        · exact J1
        · exact plain_off_JT J1
    · rw [if_neg c]
      refine wpAny_bind (wpAny_pure ?_)
      rw [if_pos rfl]
      exact go _ ft J1 _ fun h' sb q => wpAny_pure (last h' sb q)
end
end L2
namespace L2
open PySem
theorem slot_setit_next : Slot "set_iterator" "__next__" "set_iterator.__next__" :=
  .of (owner := "set_iterator") (n := "__next__") (by rw [typeLookup_type, builtinLookup_eq_fast]; kernel_rfl)
    (by decide +kernel) (by decide +kernel) (by decide +kernel)
    (by first | exact .inl (by decide +kernel) | exact .inr (by decide +kernel)) (by rw [isSubtype_type]; kernel_rfl)
theorem slot_setit_iter : Slot "set_iterator" "__iter__" "set_iterator.__iter__" :=
  .of (owner := "set_iterator") (n := "__iter__") (by rw [typeLookup_type, builtinLookup_eq_fast]; kernel_rfl)
    (by decide +kernel) (by decide +kernel) (by decide +kernel)
    (by first | exact .inl (by decide +kernel) | exact .inr (by decide +kernel)) (by rw [isSubtype_type]; kernel_rfl)
theorem entry_setit_next : entryFor table "set_iterator.__next__" = some Builtin.«set_iterator.__next__» := entryFor_of_fast (by kernel_rfl)
theorem entry_setit_iter : entryFor table "set_iterator.__iter__" = some Builtin.«dict_keyiterator.__iter__» :=
  entryFor_alias (id' := "dict_keyiterator.__iter__") (by kernel_rfl)
    (by first | rfl | decide +kernel | (unfold String.splitOn; simp +decide [String.splitOnAux])) (by decide +kernel) (by kernel_rfl)
theorem entry_set_iter' : entryFor table "set.__iter__" = some Builtin.«frozenset.__iter__» :=
  entryFor_alias (id' := "frozenset.__iter__") (by kernel_rfl)
    (by first | rfl | decide +kernel | (unfold String.splitOn; simp +decide [String.splitOnAux])) (by decide +kernel) (by kernel_rfl)
theorem args_setit_next (a : Value) : argsOk "set_iterator.__next__" ⟨[a], []⟩ := by unfold argsOk; kernel_rfl
theorem args_setit_iter (a : Value) : argsOk "set_iterator.__iter__" ⟨[a], []⟩ := by unfold argsOk; kernel_rfl
abbrev setIt (first : Value) (i : Nat) (a : Addr) (n ep : Nat) : Obj := { cls := .type "set_iterator", dict := none, data := .fields #[first, .int i 0, .ref a, .int n 0, .int ep 0], slots := #[] }
section
variable {prog : Program} {w : World} {A : Around} {E : Value → Shared → Prop} {s : Shared} {a I : Addr} {o : Obj} {es : Array (Int × Value)} {ep : Nat} {t : SetTable}
theorem byText_ {Q : Bool → Shared → Prop} (h : Q (w.params.followText "set-order") s) : wpAny (model prog w) A setsByText Q E s := wpAny_bind (wpAny_askSetting (wpAny_pure h))
theorem setWalk_text {Q : Array (Int × Value) → Shared → Prop} (ht : w.params.followText "set-order" = true) (ho : s.heap.get? a = some o) (hd : o.data = .set es ep t) (hf : t.fits es.size = true)
    (h : Q (pickOrder (w.params.setOrder a ep) es) s) : wpAny (model prog w) A (setWalk a) Q E s := by
  unfold setWalk
  refine wpAny_bind (wpAny_setState_of ho hd hf ?_)
  dsimp only
  refine wpAny_bind (byText_ ?_)
  rw [ht]
  simp only [if_true]
  exact wpAny_bind (wpAny_askSetting (wpAny_pure h))
theorem setNext_text {sl k : Nat} {Q : Option (Value × Nat) → Shared → Prop} (ht : w.params.followText "set-order" = true) (ho : s.heap.get? a = some o) (hd : o.data = .set es ep t) (hf : t.fits es.size = true)
    (h : Q (((pickOrder (w.params.setOrder a ep) es)[k]?).map fun e => (e.2, sl)) s) : wpAny (model prog w) A (setNext a sl k ep) Q E s := by
  unfold setNext
  refine wpAny_bind (wpAny_setState_of ho hd hf ?_)
  dsimp only
  refine wpAny_bind (byText_ ?_)
  rw [ht]
  simp only [if_true, bne_self_eq_false, Bool.false_eq_true, if_false]
  exact wpAny_bind (setWalk_text ht ho hd hf (wpAny_pure h))
theorem setNext_plain {sl k : Nat} {Q : Option (Value × Nat) → Shared → Prop} (ht : w.params.followText "set-order" = false) (ho : s.heap.get? a = some o) (hd : o.data = .set es ep t) (hf : t.fits es.size = true) (J : JT true t)
    (hp : (!t.plain && decide (es.size > 1)) = false) (hs : SetTable.below t.place sl = k)
    (h : Q (match es[k]?, t.place[k]? with | some (_, x), some j => some (x, j + 1) | _, _ => none) s) : wpAny (model prog w) A (setNext a sl k ep) Q E s := by
  unfold setNext
  refine wpAny_bind (wpAny_setState_of ho hd hf ?_)
  dsimp only
  refine wpAny_bind (byText_ ?_)
  rw [ht]
  simp only [Bool.false_eq_true, if_false]
  show wpAny _ _ (if (!t.plain && decide (es.size > 1)) = true then unsupported _ else _) _ _ s
  rw [hp]
  simp only [Bool.false_eq_true, if_false]
  refine wpAny_bind ?_
  show wpAny _ _ (if (!t.led && !es.isEmpty) = true then unsupported _ else pure ()) _ _ s
  rw [J.led]
  simp only [Bool.not_true, Bool.false_and, Bool.false_eq_true, if_false]
  refine wpAny_pure ?_
  rw [hs]
  exact wpAny_pure h
theorem setEntries_ {Q : Array (Int × Value) → Shared → Prop} (ho : s.heap.get? a = some o) (hd : o.data = .set es ep t) (hf : t.fits es.size = true) (h : Q es s) : wpAny (model prog w) A (setEntries a) Q E s := by
  unfold setEntries
  exact wpAny_bind (wpAny_setState_of ho hd hf (wpAny_pure h))
theorem setit_item {slot : Nat → Nat} {k n : Nat} {x : Value} {Q : Option Value → Shared → Prop} (hI : s.heap.get? I = some (setIt (.int (slot k : Nat) 0) k a n ep)) (ho : s.heap.get? a = some o) (hd : o.data = .set es ep t) (hf : t.fits es.size = true) (hn : es.size = n)
    (hnx : ∀ (B : Around) (Q' : Option (Value × Nat) → Shared → Prop) (E' : Value → Shared → Prop), Q' (some (x, slot (k + 1))) s → wpAny (model prog w) B (setNext a (slot k) k ep) Q' E' s)
    (hQ : ∀ h', h'.get? I = some (setIt (.int (slot (k + 1) : Nat) 0) (k + 1) a n ep) → Heap.SameBut I s.heap h' → Q (some x) { s with heap := h' }) : wpAny (model prog w) A (pyNext (.ref I)) Q E s := by
  have hT : s.TypeIs (.ref I) "set_iterator" := ⟨_, hI, rfl⟩
  unfold pyNext
  refine wpAny_bind (wpAny_attempt (wpAny_callSpecial?_slot (name := Str.ofString "__next__") hT slot_setit_next
    (wpAny_call_entry slot_setit_next hT entry_setit_next ?_ (args_setit_next _))))
  show wpAny _ _ (fieldsOf (.ref I) >>= _) _ _ s
  refine wpAny_bind (wpAny_fieldsOf hI rfl ?_)
  show wpAny _ _ (setEntries a >>= _) _ _ s
  refine wpAny_bind (setEntries_ ho hd hf ?_)
  rw [hn]
  simp only [bne_self_eq_false, Bool.false_eq_true, if_false]
  show wpAny _ _ (setNext a ((slot k : Nat) : Int).toNat ((k : Nat) : Int).toNat ((ep : Nat) : Int).toNat >>= _) _ _ s
  simp only [Int.toNat_natCast]
  refine wpAny_bind (hnx _ _ _ ?_)
  dsimp only
  refine wpAny_bind (wpAny_setField_rec hI (by simp) fun h1 g1 s1 => ?_)
  refine wpAny_bind (wpAny_setField_rec g1 (by simp) fun h2 g2 s2 => wpAny_pure ⟨x, rfl, wpAny_pure (hQ h2 ?_ (s1.trans s2))⟩)
  rw [g2]
  simp [rawInt]
theorem stop_tail {α : Type} {h1 : Heap} {Q : Option Value → Shared → Prop} (hh : A.handled = none) (hQ : ∀ h', (∀ b ob, h1.get? b = some ob → h'.get? b = some ob) → Q none { s with heap := h' }) :
    wpAny (model prog w) A.in1 (newExc (.type "StopIteration") [] >>= fun e => (raiseNew e : Sem α)) (fun _ _ => False)
      (fun e s' => wpAny (model prog w) A (do if ← isInstance e (.type "StopIteration") then pure none else throw e) Q E s') { s with heap := h1 } := by
  refine wpAny_bind ?_
  simp only [newExc, newTuple]
  refine wpAny_bind (wpAny_newObj_type ?_ (by size_fits))
  refine wpAny_bind (m := firstArgMember _ _) (wpAny_of_eq (a := Value.none) (by first | rfl | (simp only [firstArgMember]; rfl)) ?_)
  refine wpAny_newObj_type ?_ (by size_fits)
  simp only [raiseNew]
  refine wpAny_bind (wpAny_handled ?_)
  rw [show A.in1.handled = none from hh]
  refine wpAny_bind (wpAny_pure (wpAny_throw ?_))
  refine wpAny_bind (wpAny_isInstance (T := "StopIteration") (b := true) ⟨_, Heap.get?_push_size _ rfl, rfl⟩ isSubtype_stop ?_)
  exact wpAny_pure (hQ _ fun b ob e => Heap.get?_push_of_some _ (Heap.get?_push_of_some _ e))
theorem setit_done {first : Nat} {k n : Nat} {Q : Option Value → Shared → Prop} (hh : A.handled = none) (hI : s.heap.get? I = some (setIt (.int (first : Nat) 0) k a n ep)) (ho : s.heap.get? a = some o) (hd : o.data = .set es ep t) (hf : t.fits es.size = true) (hn : es.size = n)
    (hnx : ∀ (B : Around) (Q' : Option (Value × Nat) → Shared → Prop) (E' : Value → Shared → Prop), Q' none s → wpAny (model prog w) B (setNext a first k ep) Q' E' s)
    (hQ : ∀ h', (∀ b ob, b ≠ I → s.heap.get? b = some ob → h'.get? b = some ob) → Q none { s with heap := h' }) : wpAny (model prog w) A (pyNext (.ref I)) Q E s := by
  have hT : s.TypeIs (.ref I) "set_iterator" := ⟨_, hI, rfl⟩
  unfold pyNext
  refine wpAny_bind (wpAny_attempt (wpAny_callSpecial?_slot (name := Str.ofString "__next__") hT slot_setit_next
    (wpAny_call_entry slot_setit_next hT entry_setit_next ?_ (args_setit_next _))))
  show wpAny _ _ (fieldsOf (.ref I) >>= _) _ _ s
  refine wpAny_bind (wpAny_fieldsOf hI rfl ?_)
  show wpAny _ _ (setEntries a >>= _) _ _ s
  refine wpAny_bind (setEntries_ ho hd hf ?_)
  rw [hn]
  simp only [bne_self_eq_false, Bool.false_eq_true, if_false]
  show wpAny _ _ (setNext a ((first : Nat) : Int).toNat ((k : Nat) : Int).toNat ((ep : Nat) : Int).toNat >>= _) _ _ s
  simp only [Int.toNat_natCast]
  refine wpAny_bind (hnx _ _ _ ?_)
  dsimp only
  refine wpAny_bind (wpAny_setField_rec hI (by simp) fun h1 g1 s1 => ?_)
  refine wpAny_mono (stop_tail (Q := Q) (E := E) hh fun h' kp => hQ h' fun b ob hb e => kp b ob (s1.extBut b ob hb e)) (fun _ _ z => z.elim) fun e s' z => z
theorem choose_ {src : Source} {n : Nat} {Q : Nat → Shared → Prop} (hn : n ≠ 0) (h : ∀ i d, i < n → Q i { s with drawn := d }) : wpAny (model prog w) A (choose src n) Q E s :=
  fun _ _ _ => ⟨hn, h _ _ (Nat.mod_lt _ (Nat.pos_of_ne_zero hn))⟩
theorem drawOrder_ {α : Type} : ∀ (n : Nat) (xs : List α) (s : Shared) {Q : List α → Shared → Prop}, xs.length = n → (∀ ys d, ys.Perm xs → Q ys { s with drawn := d }) → wpAny (model prog w) A (drawOrder n xs) Q E s := by
  intro n
  induction n with
  | zero =>
    intro xs s Q hn h
    obtain rfl : xs = [] := List.eq_nil_of_length_eq_zero hn
    exact wpAny_pure (h [] s.drawn (List.Perm.refl _))
  | succ n ih =>
    intro xs s Q hn h
    match xs, hn with
    | x :: r, hn =>
      show wpAny _ _ (choose .order (x :: r).length >>= _) _ _ s
      refine wpAny_bind (choose_ (by simp) fun i d hi => ?_)
      rw [List.getElem?_eq_getElem hi]
      dsimp only
      refine wpAny_bind (ih _ _ (by rw [List.length_eraseIdx_of_lt hi]; omega) fun ys d' pm => wpAny_pure (h _ d' ((pm.cons _).trans (erase_perm (x :: r) i hi))))
theorem setDrawn_ {Q : Bool → Shared → Prop} (ho : s.heap.get? a = some o) (hd : o.data = .set es ep t) (hf : t.fits es.size = true) (h : Q (!w.params.followText "set-order" && (!t.plain && decide (es.size > 1))) s) : wpAny (model prog w) A (setDrawn a) Q E s := by
  unfold setDrawn
  refine wpAny_bind (wpAny_setState_of ho hd hf ?_)
  dsimp only
  exact wpAny_bind (byText_ (wpAny_pure h))
theorem setitD_item {T : Addr} {ps : List Nat} {k n p : Nat} {x : Value} {h0 : Int} {Q : Option Value → Shared → Prop} (hI : s.heap.get? I = some (setIt (.ref T) k a n ep)) (hTu : s.heap.get? T = some { cls := .type "tuple", data := .seq (ps.map fun (i : Nat) => rawInt i).toArray })
    (ho : s.heap.get? a = some o) (hd : o.data = .set es ep t) (hf : t.fits es.size = true) (hn : es.size = n) (hp : ps[k]? = some p) (hx : es[p]? = some (h0, x))
    (hQ : ∀ h', h'.get? I = some (setIt (.ref T) (k + 1) a n ep) → Heap.SameBut I s.heap h' → Q (some x) { s with heap := h' }) : wpAny (model prog w) A (pyNext (.ref I)) Q E s := by
  have hT : s.TypeIs (.ref I) "set_iterator" := ⟨_, hI, rfl⟩
  unfold pyNext
  refine wpAny_bind (wpAny_attempt (wpAny_callSpecial?_slot (name := Str.ofString "__next__") hT slot_setit_next
    (wpAny_call_entry slot_setit_next hT entry_setit_next ?_ (args_setit_next _))))
  show wpAny _ _ (fieldsOf (.ref I) >>= _) _ _ s
  refine wpAny_bind (wpAny_fieldsOf hI rfl ?_)
  show wpAny _ _ (setEntries a >>= _) _ _ s
  refine wpAny_bind (setEntries_ ho hd hf ?_)
  rw [hn]
  simp only [bne_self_eq_false, Bool.false_eq_true, if_false]
  show wpAny _ _ (seqItems? (.ref T) >>= _) _ _ s
  refine wpAny_bind (wpAny_seqItems hTu rfl ?_)
  dsimp only
  have e : (ps.map fun (i : Nat) => rawInt i).toArray[((k : Nat) : Int).toNat]? = some (.int (p : Nat) 0) := by
    rw [Int.toNat_natCast, List.getElem?_toArray, List.getElem?_map, hp]
    rfl
  rw [e]
  dsimp only
  show wpAny _ _ (setNextDrawn a ((p : Nat) : Int).toNat ((ep : Nat) : Int).toNat >>= _) _ _ s
  simp only [Int.toNat_natCast]
  unfold setNextDrawn
  refine wpAny_bind (wpAny_bind (wpAny_setState_of ho hd hf ?_))
  dsimp only
  simp only [bne_self_eq_false, Bool.false_eq_true, if_false, hx]
  refine wpAny_pure ?_
  refine wpAny_bind (wpAny_setField_rec hI (by simp) fun h2 g2 s2 => wpAny_pure ⟨x, rfl, wpAny_pure (hQ h2 ?_ s2)⟩)
  rw [g2]
  simp [rawInt]
theorem setitD_done {T : Addr} {ps : List Nat} {k n : Nat} {Q : Option Value → Shared → Prop} (hh : A.handled = none) (hI : s.heap.get? I = some (setIt (.ref T) k a n ep)) (hTu : s.heap.get? T = some { cls := .type "tuple", data := .seq (ps.map fun (i : Nat) => rawInt i).toArray })
    (ho : s.heap.get? a = some o) (hd : o.data = .set es ep t) (hf : t.fits es.size = true) (hn : es.size = n) (hp : ps[k]? = none)
    (hQ : ∀ h', (∀ b ob, b ≠ I → s.heap.get? b = some ob → h'.get? b = some ob) → Q none { s with heap := h' }) : wpAny (model prog w) A (pyNext (.ref I)) Q E s := by
  have hT : s.TypeIs (.ref I) "set_iterator" := ⟨_, hI, rfl⟩
  unfold pyNext
  refine wpAny_bind (wpAny_attempt (wpAny_callSpecial?_slot (name := Str.ofString "__next__") hT slot_setit_next
    (wpAny_call_entry slot_setit_next hT entry_setit_next ?_ (args_setit_next _))))
  show wpAny _ _ (fieldsOf (.ref I) >>= _) _ _ s
  refine wpAny_bind (wpAny_fieldsOf hI rfl ?_)
  show wpAny _ _ (setEntries a >>= _) _ _ s
  refine wpAny_bind (setEntries_ ho hd hf ?_)
  rw [hn]
  simp only [bne_self_eq_false, Bool.false_eq_true, if_false]
  show wpAny _ _ (seqItems? (.ref T) >>= _) _ _ s
  refine wpAny_bind (wpAny_seqItems hTu rfl ?_)
  dsimp only
  have e : (ps.map fun (i : Nat) => rawInt i).toArray[((k : Nat) : Int).toNat]? = none := by
    rw [Int.toNat_natCast, List.getElem?_toArray, List.getElem?_map, hp]
    rfl
  rw [e]
  dsimp only
  refine wpAny_bind (wpAny_setField_rec hI (by simp) fun h1 g1 s1 => ?_)
  refine wpAny_bind (wpAny_setField_rec g1 (by simp) fun h2 g2 s2 => ?_)
  refine wpAny_mono (stop_tail (Q := Q) (E := E) hh fun h' kp => hQ h' fun b ob hb e => kp b ob (s2.extBut b ob hb (s1.extBut b ob hb e))) (fun _ _ z => z.elim) fun e s' z => z
theorem setit_self {first : Value} {k n : Nat} {Q : Value → Shared → Prop} (hI : s.heap.get? I = some (setIt first k a n ep)) (h : Q (.ref I) s) : wpAny (model prog w) A (pyIter (.ref I)) Q E s := by
  have hT : s.TypeIs (.ref I) "set_iterator" := ⟨_, hI, rfl⟩
  refine wpAny_pyIter_slot hT slot_setit_iter (wpAny_call_entry slot_setit_iter hT entry_setit_iter ?_ (args_setit_iter _))
  show wpAny _ _ (ret (.ref I)) _ _ s
  exact wpAny_pure ⟨_, rfl, "set_iterator", _, hT, slot_setit_next.lookup, h⟩
def SetWalks (prog : Program) (w : World) (A : Around) (a I N : Addr) (n : Nat) (xs : List Value) (s : Shared) : Prop :=
  ∃ (fp : List Addr) (St : Nat → Shared → Prop), WalksS prog w A I fp [I] (fun a b => b = a) n (fun i v => xs[i]? = some v) St ∧ St 0 s ∧ (∀ b ∈ fp, (b = a ∨ N ≤ b) ∧ b < s.heap.objs.size) ∧ I ∈ fp
theorem walks_num {slot : Nat → Nat} {n : Nat} {xs : List Value} (hh : A.handled = none) (hne : a ≠ I) (hd : o.data = .set es ep t) (hf : t.fits es.size = true) (hn : es.size = n) (hxs : xs.length = n)
    (step : ∀ (k : Nat) (s : Shared) (B : Around) (Q' : Option (Value × Nat) → Shared → Prop) (E' : Value → Shared → Prop), k ≤ n → s.heap.get? a = some o → Q' ((xs[k]?).map fun x => (x, slot (k + 1))) s → wpAny (model prog w) B (setNext a (slot k) k ep) Q' E' s) :
    WalksS prog w A I [I, a] [I] (fun a b => b = a) n (fun i v => xs[i]? = some v) (fun k s => s.heap.get? I = some (setIt (.int (slot k : Nat) 0) k a n ep) ∧ s.heap.get? a = some o) where
  sub := fun b hb => by simp at hb; simp [hb]
  grefl := fun _ => rfl
  gtrans := fun _ _ _ p q => q.trans p
  frame := fun i s h' tk st _ kp => ⟨kp I (by simp) _ st.1, kp a (by simp) _ st.2⟩
  item := fun i s Q E hi st hQ => by
    have hx : xs[i]? = some (xs[i]'(by omega)) := List.getElem?_eq_getElem (by omega)
    refine setit_item (x := xs[i]'(by omega)) st.1 st.2 hd hf hn (fun B Q' E' q => step i s B Q' E' (by omega) st.2 (by rw [hx]; exact q)) fun h' g sb => ?_
    exact hQ _ _ hx ⟨g, sb.extBut a o hne st.2⟩ ⟨fun b ob hb e => sb.extBut b ob (fun z => hb (by simp [z])) e, rfl, rfl, rfl, Nat.le_refl _⟩
  done := fun s Q E st hQ => by
    have hx : xs[n]? = none := List.getElem?_eq_none (by omega)
    refine setit_done hh st.1 st.2 hd hf hn (fun B Q' E' q => step n s B Q' E' (Nat.le_refl _) st.2 (by rw [hx]; exact q)) fun h' kp => ?_
    exact hQ _ ⟨fun b ob hb e => kp b ob (fun z => hb (by simp [z])) e, rfl, rfl, rfl, Nat.le_refl _⟩
  self := fun i s Q E st q => setit_self st.1 q
theorem walks_drawn {T : Addr} {ps : List Nat} {n : Nat} {xs : List Value} (hh : A.handled = none) (hne : a ≠ I) (hnT : T ≠ I) (hd : o.data = .set es ep t) (hf : t.fits es.size = true) (hn : es.size = n) (hps : ps.length = n)
    (hx : ∀ (k p : Nat), ps[k]? = some p → ∃ h0 x, es[p]? = some (h0, x) ∧ xs[k]? = some x) :
    WalksS prog w A I [I, a, T] [I] (fun a b => b = a) n (fun i v => xs[i]? = some v) (fun k s => s.heap.get? I = some (setIt (.ref T) k a n ep) ∧ s.heap.get? a = some o ∧ s.heap.get? T = some { cls := .type "tuple", data := .seq (ps.map fun (i : Nat) => rawInt i).toArray }) where
  sub := fun b hb => by simp at hb; simp [hb]
  grefl := fun _ => rfl
  gtrans := fun _ _ _ p q => q.trans p
  frame := fun i s h' tk st _ kp => ⟨kp I (by simp) _ st.1, kp a (by simp) _ st.2.1, kp T (by simp) _ st.2.2⟩
  item := fun i s Q E hi st hQ => by
    have hp : ps[i]? = some (ps[i]'(by omega)) := List.getElem?_eq_getElem (by omega)
    obtain ⟨h0, x, e1, e2⟩ := hx i _ hp
    refine setitD_item st.1 st.2.2 st.2.1 hd hf hn hp e1 fun h' g sb => ?_
    exact hQ _ _ e2 ⟨g, sb.extBut a o hne st.2.1, sb.extBut T _ hnT st.2.2⟩ ⟨fun b ob hb e => sb.extBut b ob (fun z => hb (by simp [z])) e, rfl, rfl, rfl, Nat.le_refl _⟩
  done := fun s Q E st hQ => by
    refine setitD_done hh st.1 st.2.2 st.2.1 hd hf hn (List.getElem?_eq_none (by omega)) fun h' kp => ?_
    exact hQ _ ⟨fun b ob hb e => kp b ob (fun z => hb (by simp [z])) e, rfl, rfl, rfl, Nat.le_refl _⟩
  self := fun i s Q E st q => setit_self st.1 q
theorem pyIter_set {Q : Value → Shared → Prop} (ho : s.heap.get? a = some o) (hx : o.ExactSet) (hd : o.data = .set es ep t) (hf : t.fits es.size = true) (J : JT (!w.params.followText "set-order") t) (hz : es.size ≤ sizeLine)
    (hQ : ∀ (I : Addr) (xs : List Value) (h' : Heap) (d), xs.Perm (es.toList.map (·.2)) → s.heap.objs.size ≤ I → (∀ b ob, s.heap.get? b = some ob → h'.get? b = some ob) →
      (∀ B : Around, B.handled = none → SetWalks prog w B a I s.heap.objs.size es.size xs { s with heap := h', drawn := d }) → Q (.ref I) { s with heap := h', drawn := d }) : wpAny (model prog w) A (pyIter (.ref a)) Q E s := by
  have hT : s.TypeIs (.ref a) "set" := ⟨o, ho, hx.1⟩
  have hal : a < s.heap.objs.size := Heap.lt_size ho
  refine wpAny_pyIter_slot hT F.slot_set_iter (wpAny_call_entry F.slot_set_iter hT entry_set_iter' ?_ (F.args_set_iter_1 _))
  show wpAny _ _ (Builtin.Frozenset.sizeOf a >>= _) _ _ s
  refine wpAny_bind (wpAny_bind (setEntries_ ho hd hf (wpAny_pure ?_)))
  refine wpAny_bind (setDrawn_ ho hd hf ?_)
  by_cases c : (!w.params.followText "set-order" && (!t.plain && decide (es.size > 1))) = true
  · rw [c]
    simp only [if_true]
    refine wpAny_bind (drawOrder_ es.size (List.range es.size) s (by simp) fun ps d pm => ?_)
    have hps : ps.length = es.size := by simpa using pm.length_eq
    simp only [newTuple]
    refine wpAny_bind (wpAny_newObj_type ?_ ?_)
    case refine_2 =>
      show (List.map (fun (i : Nat) => rawInt i) ps).toArray.size ≤ sizeLine
      rw [List.size_toArray, List.length_map, hps]
      exact hz
    have ho' : (s.heap.push { cls := .type "tuple", data := .seq (ps.map fun (i : Nat) => rawInt i).toArray }).get? a = some o := Heap.get?_push_of_some _ ho
    refine wpAny_bind (wpAny_setEpoch_of ho' hd hf ?_)
    refine wpAny_bind (wpAny_newObj_type ?_)
    have eI : (s.heap.push { cls := .type "tuple", data := .seq (ps.map fun (i : Nat) => rawInt i).toArray }).objs.size = s.heap.objs.size + 1 := Heap.size_push ..
    refine wpAny_pure ⟨_, rfl, "set_iterator", _, ⟨_, Heap.get?_push_size _ rfl, rfl⟩, slot_setit_next.lookup, ?_⟩
    refine hQ _ ((ps.map fun p => (es[p]?).map (·.2)).filterMap id) _ d ?_ (by rw [eI]; exact Nat.le_succ _) (fun b ob e => Heap.get?_push_of_some _ (Heap.get?_push_of_some _ e)) fun B hB => ?_
    · refine ((pm.map _).filterMap _).trans ?_
      rw [List.filterMap_map]
      have : (List.range es.size).filterMap (id ∘ fun p => (es[p]?).map (·.2)) = ((List.range es.size).filterMap fun p => es[p]?).map (·.2) := by
        rw [List.map_filterMap]
        rfl
      rw [this, filterMap_getElem?_range]
    · have key : ∀ (l : List Nat), (∀ p ∈ l, p < es.size) → ∀ (k p : Nat), l[k]? = some p → ∃ h0 x, es[p]? = some (h0, x) ∧ ((l.map fun p => (es[p]?).map (·.2)).filterMap id)[k]? = some x := by
        intro l
        induction l with
        | nil => intro _ k p e; simp at e
        | cons q r ih =>
          intro hl k p e
          have hq := hl q List.mem_cons_self
          have eq : es[q]? = some es[q] := Array.getElem?_eq_getElem hq
          have e2 : ((q :: r).map fun p => (es[p]?).map (·.2)).filterMap id = es[q].2 :: (r.map fun p => (es[p]?).map (·.2)).filterMap id := by
            rw [List.map_cons, eq]
            rfl
          rw [e2]
          cases k with
          | zero =>
            have : q = p := by simpa using e
            subst this
            exact ⟨es[q].1, es[q].2, eq, rfl⟩
          | succ k => exact ih (fun p hp => hl p (List.mem_cons_of_mem _ hp)) k p (by simpa using e)
      refine ⟨_, _, walks_drawn (o := o) (T := s.heap.objs.size) (ps := ps) hB (by rw [eI]; exact Nat.ne_of_lt (Nat.lt_succ_of_lt hal)) (by rw [eI]; exact Nat.ne_of_lt (Nat.lt_succ_self _)) hd hf rfl hps (key ps fun p hp => by simpa using pm.mem_iff.mp hp), ⟨Heap.get?_push_size _ rfl, Heap.get?_push_of_some _ ho', Heap.get?_push_of_some _ (Heap.get?_push_size _ rfl)⟩, fun b hb => ?_, by simp⟩
      simp only [List.mem_cons, List.not_mem_nil, or_false] at hb
      rw [Heap.size_push]
      rcases hb with rfl | rfl | rfl
      · exact ⟨.inr (by rw [eI]; exact Nat.le_succ _), Nat.lt_succ_self _⟩
      · exact ⟨.inl rfl, by rw [eI]; exact Nat.lt_succ_of_lt (Nat.lt_succ_of_lt hal)⟩
      · exact ⟨.inr (Nat.le_refl _), by rw [eI]; exact Nat.lt_succ_of_lt (Nat.lt_succ_self _)⟩
  · rw [Bool.eq_false_iff.mpr c]
    simp only [Bool.false_eq_true, if_false]
    refine wpAny_bind (wpAny_pure (wpAny_bind (wpAny_setEpoch_of ho hd hf ?_)))
    refine wpAny_bind (wpAny_newObj_type ?_)
    refine wpAny_pure ⟨_, rfl, "set_iterator", _, ⟨_, Heap.get?_push_size _ rfl, rfl⟩, slot_setit_next.lookup, ?_⟩
    have hne : a ≠ s.heap.objs.size := Nat.ne_of_lt hal
    have go : ∀ (slot : Nat → Nat) (xs : List Value), slot 0 = 0 → xs.Perm (es.toList.map (·.2)) → (∀ (k : Nat) (s : Shared) (B : Around) (Q' : Option (Value × Nat) → Shared → Prop) (E' : Value → Shared → Prop), k ≤ es.size → s.heap.get? a = some o → Q' ((xs[k]?).map fun x => (x, slot (k + 1))) s → wpAny (model prog w) B (setNext a (slot k) k ep) Q' E' s) →
        Q (.ref s.heap.objs.size) { s with heap := s.heap.push (setIt (rawInt 0) 0 a es.size ep) } := fun slot xs h0 pm step => by
      refine hQ _ xs _ s.drawn pm (Nat.le_refl _) (fun b ob e => Heap.get?_push_of_some _ e) fun B hB => ⟨_, _, walks_num (slot := slot) hB hne hd hf rfl (by simpa using pm.length_eq) step, ⟨?_, Heap.get?_push_of_some _ ho⟩, fun b hb => ?_, by simp⟩
      · rw [h0]
        exact Heap.get?_push_size _ rfl
      · simp only [List.mem_cons, List.not_mem_nil, or_false] at hb
        rw [Heap.size_push]
        rcases hb with rfl | rfl
        · exact ⟨.inr (Nat.le_refl _), Nat.lt_succ_self _⟩
        · exact ⟨.inl rfl, Nat.lt_succ_of_lt hal⟩
    cases ht : w.params.followText "set-order" with
    | true =>
      refine go (fun _ => 0) ((pickOrder (w.params.setOrder a ep) es).toList.map (·.2)) rfl ((pickOrder_perm _ es).map _) fun k s' B Q' E' hk ho' q => setNext_text ht ho' hd hf ?_
      have e : (((pickOrder (w.params.setOrder a ep) es).toList.map (·.2))[k]?).map (fun x => (x, 0)) = ((pickOrder (w.params.setOrder a ep) es)[k]?).map fun e => (e.2, 0) := by
        rw [List.getElem?_map, Array.getElem?_toList, Option.map_map]
        rfl
      rw [← e]
      exact q
    | false =>
      rw [ht] at c J
      have hpl : t.place.size = es.size := by
        simp only [SetTable.fits, Bool.and_eq_true, beq_iff_eq] at hf
        exact hf.1
      refine go (fun k => match k with | 0 => 0 | k + 1 => t.place.getD k 0 + 1) (es.toList.map (·.2)) rfl (List.Perm.refl _) fun k s' B Q' E' hk ho' q => setNext_plain ht ho' hd hf J (by simpa using c) ?_ ?_
      · cases k with
        | zero => exact below_first J.mono
        | succ k =>
          have hk' : k < t.place.size := by omega
          have e : t.place.getD k 0 = t.place[k] := by simp [Array.getD, hk']
          show SetTable.below t.place (t.place.getD k 0 + 1) = k + 1
          rw [e]
          exact below_next J.mono k hk'
      · rcases Nat.lt_or_eq_of_le hk with hlt | heq
        · have hk' : k < t.place.size := by omega
          have e2 : t.place.getD k 0 = t.place[k] := by simp [Array.getD, hk']
          have e3 : (es.toList.map (·.2))[k]? = some es[k].2 := by simp [hlt]
          rw [e3] at q
          simp only [Array.getElem?_eq_getElem hlt, Array.getElem?_eq_getElem hk']
          rw [← e2]
          exact q
        · have e3 : (es.toList.map (·.2))[k]? = none := by simp [heq]
          rw [e3] at q
          have e4 : es[k]? = none := by simp [heq]
          simp only [e4]
          exact q
end
end L2
namespace L2
open PySem PyProof.Rows
theorem len_of_set : typeLookup (.type "set") "__len__" = pure (some (.builtin "set.__len__")) := F.slot_set_len.lookup
theorem split_set_len : splitId "set.__len__" = some ("set", "__len__") := by kernel_rfl
section
variable {prog : Program} {w : World} {A : Around} {E : Value → Shared → Prop} {s : Shared} {a : Addr} {o : Obj} {es : Array (Int × Value)} {ep : Nat} {t : SetTable}
theorem hint_set {Q : Bool → Shared → Prop} (hT : s.TypeIs (.ref a) "set") (h : Q false s) : wpAny (model prog w) A (Builtin.List.listLengthHint (.ref a)) Q E s := by
  unfold Builtin.List.listLengthHint
  refine wpAny_bind (wpAny_specialOf hT len_of_set ?_)
  simp only [split_set_len]
  refine wpAny_bind (wpAny_isInstance hT sub_set_self ?_)
  simp only [Bool.not_true, Bool.false_eq_true, if_false]
  show wpAny _ _ (typeOf (.ref a) >>= _) _ _ s
  exact wpAny_bind (wpAny_typeOf hT (wpAny_pure h))
theorem collect_set {Q : List Value → Shared → Prop} (hh : A.handled = none) (ho : s.heap.get? a = some o) (hx : o.ExactSet) (hd : o.data = .set es ep t) (hf : t.fits es.size = true) (J : JT (!w.params.followText "set-order") t) (hz : es.size ≤ sizeLine)
    (hQ : ∀ (h' : Heap) (d) (tk : Nat) (xs : List Value), xs.Perm (es.toList.map (·.2)) → s.heap.objs.size < h'.objs.size → (∀ b ob, s.heap.get? b = some ob → h'.get? b = some ob) → Q xs { s with heap := h', drawn := d, toks := tk }) : wpAny (model prog w) A (collect (.ref a)) Q E s := by
  have hal : a < s.heap.objs.size := Heap.lt_size ho
  unfold collect
  refine wpAny_bind (wpAny_runValue (codeAny_builtin F.entry_proto_collect ?_))
  rw [Around.under_plainId F.plain_proto_collect _]
  show wpAny _ A.in1 (newList [] >>= fun l => again (.builtin "list.__iadd__" ⟨[l, .ref a], []⟩)) _ _ s
  refine wpAny_bind (wpAny_newObj_type ?_)
  refine wpAny_pure ⟨plainId_quiet F.plain_list_iadd _, codeAny_builtin F.entry_list_iadd ?_⟩
  rw [Around.under_plainId F.plain_list_iadd _]
  generalize hH1 : s.heap.push { cls := .type "list", data := .seq ([] : List Value).toArray } = H1
  have sz1 : H1.objs.size = s.heap.objs.size + 1 := by rw [← hH1]; exact Heap.size_push ..
  have old1 : ∀ b ob, s.heap.get? b = some ob → H1.get? b = some ob := fun b ob e => by rw [← hH1]; exact Heap.get?_push_of_some _ e
  have gS : H1.get? s.heap.objs.size = some { cls := .type "list", data := .seq ([] : List Value).toArray } := by rw [← hH1]; exact Heap.get?_push_size _ rfl
  show wpAny _ A.in1 (Builtin.List.listExtendWith (.ref s.heap.objs.size) (.ref a) (.ref s.heap.objs.size)) _ _ { s with heap := H1 }
  unfold Builtin.List.listExtendWith
  have ho1 := old1 a o ho
  refine wpAny_bind (wpAny_typeOf (T := "set") ⟨o, ho1, hx.1⟩ ?_)
  have h1 : Builtin.List.listSameRef (.ref s.heap.objs.size) (.ref a) = false := by simpa [Builtin.List.listSameRef] using Nat.ne_of_gt hal
  have h2 : (Value.type "set" == Value.type "list") = false := by decide
  have h3 : (Value.type "set" == Value.type "tuple") = false := by decide
  simp only [h1, h2, h3, Bool.or_false, Bool.false_eq_true, if_false]
  refine wpAny_bind (pyIter_set (s := { s with heap := H1 }) ho1 hx hd hf J hz fun I xs h' d pm hI old2 walks => ?_)
  refine wpAny_bind (wpAny_holding (hint_set ⟨o, old2 a o ho1, hx.1⟩ ?_))
  show wpAny _ A.in1 (rule "list.extend.makes-room" >>= fun _ => Builtin.List.listTouch (.ref s.heap.objs.size) >>= fun _ =>
    again (.builtin "list.extend.loop" ⟨[.ref s.heap.objs.size, .ref I, .ref s.heap.objs.size], []⟩)) _ _ _
  refine wpAny_bind (wpAny_rule (wpAny_bind ?_))
  have g2 := old2 _ _ gS
  show wpAny _ A.in1 (updateSeq s.heap.objs.size (·.push .none) >>= fun _ => updateSeq s.heap.objs.size (·.pop)) _ _ _
  refine wpAny_bind (wpAny_updateSeq g2 rfl ?_)
  have g3 := Heap.get?_update_self (Obj.mapSeq (·.push Value.none)) g2 rfl
  refine wpAny_updateSeq g3 rfl ?_
  have g4 := Heap.get?_update_self (Obj.mapSeq (·.pop)) g3 rfl
  have oth : ∀ b ob, b ≠ s.heap.objs.size → h'.get? b = some ob → ((h'.update s.heap.objs.size (Obj.mapSeq (·.push Value.none))).update s.heap.objs.size (Obj.mapSeq (·.pop))).get? b = some ob :=
    fun b ob hb e => (Heap.get?_update_other _ _ (Ne.symm hb)).trans ((Heap.get?_update_other _ _ (Ne.symm hb)).trans e)
  obtain ⟨fp, St, W, st, hfp, _⟩ := walks A.in1 hh
  have hSf : s.heap.objs.size ∉ fp := fun hm => by
    rcases (hfp _ hm).1 with e | e
    · exact Nat.lt_irrefl _ (e ▸ hal)
    · have e' : H1.objs.size ≤ s.heap.objs.size := e
      rw [sz1] at e'
      exact Nat.lt_irrefl _ e'
  refine wpAny_pure ⟨plainId_quiet F.plain_extend_loop _, codeAny_extend_loopS W hz _ hSf _ es.size 0 _ _ _ rfl (Nat.zero_le _)
    (W.frame 0 ({ s with heap := h', drawn := d } : Shared) _ s.toks st (Nat.le_refl _) fun b hb ob e => oth b ob (fun z => hSf (z ▸ hb)) e) g4 (ItemsOf.nil _) fun s' acc' c' hm hS' hacc => ?_⟩
  show wpAny _ A (load s.heap.objs.size >>= _) _ _ s'
  refine wpAny_bind (wpAny_load hS' (wpAny_pure ?_))
  have e1 : s'.gens = s.gens := hm.gens
  have e2 : s'.drawn = d := hm.drawn
  have e3 : s'.os = s.os := hm.os
  have es' : s' = { s with heap := s'.heap, drawn := d, toks := s'.toks } := by
    obtain ⟨h0, g0, d0, t0, o0⟩ := s'
    simp only at e1 e2 e3
    subst e1 e2 e3
    rfl
  have exs : acc'.toList = xs := by
    have hl : xs.length = es.size := by simpa using pm.length_eq
    apply List.ext_getElem
    · rw [Array.length_toList, hacc.1, hl]
    · intro i q1 q2
      have this : xs[i]? = some acc'[i] := hacc.2 i acc'[i] (by simp)
      rw [List.getElem?_eq_getElem q2] at this
      simpa using (Option.some.inj this).symm
  have big : s.heap.objs.size < s'.heap.objs.size := Heap.lt_size hS'
  rw [exs, es']
  refine hQ _ d _ xs pm big fun b ob e => ?_
  have hb : b ≠ s.heap.objs.size := Nat.ne_of_lt (Heap.lt_size e)
  refine hm.heap b ob ?_ (oth b ob hb (old2 b ob (old1 b ob e)))
  simp only [List.mem_cons, List.not_mem_nil, or_false, not_or]
  refine ⟨hb, fun z => ?_⟩
  have hI' : H1.objs.size ≤ I := hI
  rw [sz1, ← z] at hI'
  exact Nat.lt_irrefl _ (Nat.lt_of_lt_of_le (Nat.lt_succ_of_lt (Heap.lt_size e)) hI')
theorem ints_of_elems (h : ElemsOf (intKind prog w) es.toList) : ∃ ks : List Int, IntsAre (es.toList.map (·.2)) ks ∧ ∀ k, k ∈ ks ↔ ∃ e ∈ es.toList, (intKind prog w).is k e.2 = true := by
  have go : ∀ l : List (Int × Value), ElemsOf (intKind prog w) l → ∃ ks : List Int, IntsAre (l.map (·.2)) ks ∧ ∀ k, k ∈ ks ↔ ∃ e ∈ l, (intKind prog w).is k e.2 = true := by
    intro l
    induction l with
    | nil => intro _; exact ⟨[], .nil, by simp⟩
    | cons e r ih =>
      intro h
      obtain ⟨ks, h1, h2⟩ := ih h.tail
      obtain ⟨⟨k, hk, _⟩, _⟩ := h.head
      obtain ⟨tk, ek⟩ := Value.isInt_shape (k := k) (v := e.2) hk
      refine ⟨k :: ks, ?_, fun k' => ?_⟩
      · rw [List.map_cons, ek]
        exact .cons k tk h1
      · rw [List.mem_cons, h2 k']
        constructor
        · rintro (rfl | ⟨e', he, q⟩)
          · exact ⟨e, List.mem_cons_self, hk⟩
          · exact ⟨e', List.mem_cons_of_mem _ he, q⟩
        · rintro ⟨e', he, q⟩
          rcases List.mem_cons.mp he with rfl | he
          · exact .inl ((intKind prog w).inj e'.2 k' k q hk)
          · exact .inr ⟨e', he, q⟩
  exact go _ h
theorem IntsAre.perm {vs us : List Value} (p : us.Perm vs) : ∀ {ns : List Int}, IntsAre vs ns → ∃ ms, IntsAre us ms ∧ ms.Perm ns := by
  induction p with
  | nil => intro ns h; exact ⟨ns, h, List.Perm.refl _⟩
  | cons x _ ih =>
    intro ns h
    cases h with
    | cons n t h => obtain ⟨ms, h1, h2⟩ := ih h; exact ⟨n :: ms, .cons n t h1, h2.cons n⟩
  | swap x y l =>
    intro ns h
    cases h with
    | cons n t h => cases h with
      | cons m u h => exact ⟨_, .cons m u (.cons n t h), List.Perm.swap _ _ _⟩
  | trans _ _ ih1 ih2 =>
    intro ns h
    obtain ⟨ms, h1, h2⟩ := ih2 h
    obtain ⟨ls, h3, h4⟩ := ih1 h1
    exact ⟨ls, h3, h4.trans h2⟩
theorem sorted_set {S : Int → Bool} {n : Nat} {Q : Value → Shared → Prop} (hh : A.handled = none) (hS : SetX (intKind prog w) s.heap a S n) (h64 : n < 64)
    (h : ∀ (l : Addr) (h' : Heap) (d) (tk e : Nat) (out : Array Value) (ns : List Int), IntsAre out.toList ns → ns.Pairwise (· ≤ ·) → (∀ k, k ∈ ns ↔ S k = true) → ns.length = n → s.heap.objs.size ≤ l → (∀ b ob, s.heap.get? b = some ob → h'.get? b = some ob) →
      h'.get? l = some (seqObj "list" out e) → Q (.ref l) { s with heap := h', drawn := d, toks := tk }) : wpAny (model prog w) A (call (.builtin "sorted") [.ref a]) Q E s := by
  obtain ⟨o, es, ep, t, ho, hx, hd, ⟨el, mem, hb, hf, hn⟩, J⟩ := hS
  obtain ⟨ks, ik, mk⟩ := ints_of_elems el
  refine Calls.call_function_entry kind_sorted plain_sorted entry_sorted (args_sorted1 _) ?_
  unfold Builtin.«sorted»
  refine wpAny_bind (m := checkCount "sorted" 1 1 _) (wpAny_pure ?_)
  refine wpAny_bind (collect_set hh ho hx hd hf J (fits_of_scanBound hb) fun h1 d tk xs pm big old => ?_)
  obtain ⟨ms, im, pms⟩ := IntsAre.perm pm ik
  have hxl : xs.length = n := by rw [← hn]; simpa using pm.length_eq
  refine wpAny_bind (wpAny_newList ?_ (by rw [hxl]; exact Nat.le_trans (Nat.le_of_lt h64) (by decide)))
  have hoL : (h1.push (seqObj "list" xs.toArray 0)).get? h1.objs.size = some (seqObj "list" xs.toArray 0) := Heap.get?_push_size _ rfl
  show wpAny _ _ _ _ _ { s with heap := h1.push (seqObj "list" xs.toArray 0), drawn := d, toks := tk }
  refine wpAny_bind (wpAny_holding (wpAny_call_entry slot_list_sort ⟨_, hoL, rfl⟩ entry_list_sort (list_sort_tree hoL im (by omega) fun out ns a1 a2 a3 => ⟨_, rfl, ?_⟩) (args_list_sort _)))
  obtain ⟨e, he⟩ := sortedHeap_at (out := out) hoL
  refine wpAny_pure ⟨_, rfl, h h1.objs.size _ d tk e out ns a1 a3 (fun k => ?_) ?_ ?_ (fun b ob q => ?_) he⟩
  · rw [a2.mem_iff, pms.mem_iff, mk k, mem k]
  · rw [a2.length_eq, pms.length_eq, ← ik.length, List.length_map, Array.length_toList, hn]
  · exact Nat.le_of_lt big
  · have q1 := old b ob q
    have hlt := Heap.lt_size q1
    rw [sortedHeap_old (Nat.ne_of_lt hlt) (by rw [Heap.size_push]; exact Nat.lt_succ_of_lt hlt)]
    exact Heap.get?_push_of_some _ q1
end
end L2
namespace L2
open PySem PyProof.Rows
section
variable {prog : Program} {w : World} {A : Around} {R : Result → Shared → Prop} {I : Addr} {fp wr : List Addr} {G : Array GenState → Array GenState → Prop} {n : Nat} {P : Nat → Value → Prop} {St : Nat → Shared → Prop}
abbrev metSet (prog : Program) (w : World) (val : Nat → Int) (i : Nat) (h : Heap) (S : Addr) : Prop := SetX (intKind prog w) h S (fun k => (firstMet val i).any (· == k)) (firstMet val i).length
theorem updLoopX (W : WalksS prog w A.in1 I fp wr G n P St) (S : Addr) (hSf : S ∉ fp) (val : Nat → Int) (hval : ∀ i v, P i v → ∃ t, v = .int (val i) t) (hb : n + 1 < scanBound) :
    ∀ (k i : Nat) (s : Shared), n - i = k → i ≤ n → St i s → metSet prog w val i s.heap S → (∀ s', Moved (S :: wr) G s s' → metSet prog w val n s'.heap S → R (.ok (.ret .none)) s') →
      codeAny (model prog w) A (.builtin "set.update.loop" ⟨[.ref S, .ref I], []⟩) R s := by
  have hSw : S ∉ wr := fun z => hSf (W.sub _ z)
  have sub : ∀ b ∈ wr, b ∈ S :: wr := fun b q => List.mem_cons_of_mem _ q
  intro k
  induction k with
  | zero =>
    intro i s hk hi st x fin
    obtain rfl : i = n := by omega
    refine codeAny_builtin PyProof.Rows.F.entry_set_update_loop ?_
    rw [Around.under_plainId PyProof.Rows.F.plain_set_update_loop _]
    show wpAny _ A.in1 (pyNext (.ref I) >>= _) _ _ s
    refine wpAny_bind (W.done s _ _ st fun s' m => ?_)
    show wpAny _ A.in1 (ret Value.none) _ _ s'
    exact wpAny_pure (fin s' (m.mono sub) (x.of_get fun o e => m.heap S _ hSw e))
  | succ k ih =>
    intro i s hk hi st x fin
    have lt : i < n := by omega
    refine codeAny_builtin PyProof.Rows.F.entry_set_update_loop ?_
    rw [Around.under_plainId PyProof.Rows.F.plain_set_update_loop _]
    show wpAny _ A.in1 (pyNext (.ref I) >>= _) _ _ s
    refine wpAny_bind (W.item i s _ _ lt st fun v s' pv st' m => ?_)
    obtain ⟨t, rfl⟩ := hval i v pv
    have x' : metSet prog w val i s'.heap S := x.of_get fun o e => m.heap S _ hSw e
    show wpAny _ A.in1 (holding [Value.int (val i) t] (setAdd S (.int (val i) t)) >>= _) _ _ s'
    refine wpAny_bind (wpAny_holding ?_)
    unfold setAdd
    refine wpAny_holding (wpAny_bind ((intKind prog w).pyHash (k := val i) (intKind_is _ _ _ _) ?_))
    have room : (firstMet val i).length + 1 < scanBound := by have := firstMet_length_le val i; omega
    refine addX (knd := intKind prog w) (s := { s' with toks := s'.toks + 1 }) (intKind_is _ _ _ _) rfl x' room fun h' sb x2 => ?_
    have x3 : metSet prog w val (i + 1) h' S := x2.congr (fun k' => by rw [firstMet_succ, step_any]) (by rw [firstMet_succ, step_length])
    refine wpAny_pure ⟨plainId_quiet PyProof.Rows.F.plain_set_update_loop _, ih (i + 1) _ (by omega) lt (W.frame _ s' _ _ st' (Nat.le_succ _) fun b hb o e => ?_) x3 fun s'' m2 x4 => ?_⟩
    · rw [sb.2 b (fun z : b = S => hSf (z ▸ hb))]; exact e
    · refine fin s'' (Moved.trans W.gtrans ((m.mono sub).then_heap (Nat.le_succ _) fun b o hb e => ?_) m2) x4
      rw [sb.2 b (fun z : b = S => hb (z ▸ List.mem_cons_self))]; exact e
end
section
variable {prog : Program} {w : World} {A : Around} {E : Value → Shared → Prop} {s : Shared}
abbrev noSet (w : World) : Obj := { cls := .type "set", dict := none, data := .set #[] 0 (.fresh 0 0 (!w.params.followText "set-order")) }
theorem set_new_led (a : Value) {Q : Value → Shared → Prop} (h : Q (.ref s.heap.objs.size) { s with heap := s.heap.push (noSet w) }) :
    codeAny (model prog w) A (.call (.builtin "set.__new__") ⟨[.type "set", a], []⟩) (wants Q E) s := by
  refine codeAny_of_tree ?_
  show wpAny _ A.in1 (do checkBuiltinCall "set.__new__" ⟨[.type "set", a], []⟩; again (.builtin "set.__new__" ⟨[.type "set", a], []⟩)) _ _ s
  refine wpAny_bind (wpAny_of_eq (PySem.F.newCall_set_1 a) (wpAny_pure ⟨plainId_quiet PySem.F.plain_set_new _, codeAny_builtin PySem.F.entry_set_new ?_⟩))
  rw [Around.under_plainId PySem.F.plain_set_new _]
  unfold Builtin.«set.__new__» Builtin.Frozenset.newClass
  have hsub := sub_set_self
  obtain ⟨hp, g, d, tk, os⟩ := s
  dsimp only
  wp_walk
  refine wpAny_askSetting (wpAny_pure ?_)
  dsimp only
  simp only [newObj]
  exact wpAny_bind (wpAny_alloc (wpAny_pure (wpAny_pure h)))
set_option maxHeartbeats 3200000 in
theorem set_of_list {l : Addr} {items : Array Value} {ns : List Int} {Q : Value → Shared → Prop} (hh : A.handled = none) (hl : s.heap.IsList l items) (hi : IntsAre items.toList ns) (hb : items.size + 1 < scanBound)
    (h : ∀ (h' : Heap) (tk : Nat), metSet prog w (fun i => ns.getD i 0) items.size h' s.heap.objs.size → (∀ b o, b < s.heap.objs.size → s.heap.get? b = some o → h'.get? b = some o) → Q (.ref s.heap.objs.size) { s with heap := h', toks := tk }) :
    wpAny (model prog w) A (call (.type "set") [.ref l]) Q E s := by
  obtain ⟨c, tl, hmro⟩ := PySem.F.called_set.mro
  have hmade := PySem.F.called_set.made
  have hsub := PySem.F.called_set.sub
  refine wpAny_call (codeAny_of_tree ?_)
  show wpAny _ _ (callAny (.type "set") _) _ _ _
  refine wpAny_pure ⟨Code.quiet_builtin _ (by decide +kernel), codeAny_builtin PySem.F.entry_type_call ?_⟩
  rw [Around.under_plain (weight_type_call_type "set" [.ref l] []) rfl]
  have h1 := PySem.F.called_set.notType
  have h2 := PySem.F.called_set.canCreate
  have hct := PySem.F.typeCall_set_1 (.ref l)
  repeat (any_goals (first | assumption | wp_step))
  refine codeAny_mono (set_new_led (.ref l) (E := E) (Q := fun obj s₁ => obj = .ref s.heap.objs.size ∧ s₁ = { s with heap := s.heap.push (noSet w) }) ⟨rfl, rfl⟩) fun r s₁ hr => ?_
  cases r with
  | error e => exact hr
  | ok fl =>
    cases fl with
    | ret obj =>
      obtain ⟨rfl, rfl⟩ := hr
      have hS : (s.heap.push (noSet w)).get? s.heap.objs.size = some (noSet w) := Heap.get?_push_size _ rfl
      have hT : Shared.TypeIs { s with heap := s.heap.push (noSet w) } (.ref s.heap.objs.size) "set" := ⟨_, hS, rfl⟩
      have hli := PySem.F.called_set.init.lookup
      have hbi := PySem.F.called_set.init.bind (.ref s.heap.objs.size)
      repeat (any_goals (first | assumption | wp_step))
      refine codeAny_mono (codeAny_call_builtin (R := wants (fun r s₂ => r = .none ∧ ∃ h' tk, s₂ = { s with heap := h', toks := tk } ∧ metSet prog w (fun i => ns.getD i 0) items.size h' s.heap.objs.size ∧
          (∀ b o, b < s.heap.objs.size → s.heap.get? b = some o → h'.get? b = some o)) E) PySem.F.called_set.init.plain PySem.F.entry_set_init (check_set_init_1 hT ?_)) fun r₂ s₂ hr₂ => ?_
      · obtain ⟨ol, hol, hcl, nl, hdl⟩ := id hl
        have hol' : (s.heap.push (noSet w)).get? l = some ol := Heap.get?_push_of_some _ hol
        have hTl : Shared.TypeIs { s with heap := s.heap.push (noSet w) } (.ref l) "list" := ⟨ol, hol', hcl⟩
        have hsls := PySem.F.sub_list_set
        have hslf := PySem.F.sub_list_frozenset
        have hne : (Value.type "list" == Value.type "dict") = false := by decide
        have hl1 : (s.heap.push (noSet w)).IsList l items := ⟨_, hol', hcl, nl, hdl⟩
        unfold Builtin.«set.__init__» noKeywords Builtin.Frozenset.updateFrom
        generalize hPI : pyIter = PI
        wp_walk
        subst hPI
        refine wpAny_pyIter_list hl1 (wpAny_bind (wpAny_runValue ?_))
        have hlS : l < s.heap.objs.size := Heap.lt_size hol
        have hneI : l ≠ (s.heap.push (noSet w)).objs.size := by rw [Heap.size_push]; exact Nat.ne_of_lt (Nat.lt_succ_of_lt hlS)
        have hSf : s.heap.objs.size ∉ [(s.heap.push (noSet w)).objs.size, l] := by
          rw [Heap.size_push]
          simp only [List.mem_cons, List.not_mem_nil, or_false, not_or]
          exact ⟨Nat.ne_of_lt (Nat.lt_succ_self _), Nat.ne_of_gt hlS⟩
        refine updLoopX ((Walks.list (by simpa using hh) _ l hneI items).toS) s.heap.objs.size hSf (fun i => ns.getD i 0) (fun i v hv => PyProof.Rows.IntsAre.int_at hi i v (by rw [Array.getElem?_toList]; exact hv)) hb (items.size - 0) 0 _ (by omega) (Nat.zero_le _)
          ⟨⟨_, Heap.get?_push_size _ rfl, rfl, rfl⟩, (hl1.push _)⟩ ?hS0 ?hR
        case hS0 =>
          exact ((SetX.new (knd := intKind prog w) s.heap rfl).congr (fun _ => rfl) rfl).of_get fun o e => Heap.get?_push_of_some _ e
        case hR =>
          intro s' m x
          obtain ⟨h', g', d', tk', os'⟩ := s'
          have eg : g' = s.gens := m.gens
          have ed : d' = s.drawn := m.drawn
          have eo : os' = s.os := m.os
          subst eg ed eo
          show wpAny _ _ _ _ _ _
          refine wpAny_pure ?_
          show wpAny _ _ (ret Value.none) _ _ _
          refine wpAny_pure ⟨rfl, h', tk', rfl, x, fun b o q e => ?_⟩
          refine m.heap b o ?_ (Heap.get?_push_of_some _ (Heap.get?_push_of_some _ e))
          simp only [List.mem_cons, List.not_mem_nil, or_false, not_or]
          refine ⟨Nat.ne_of_lt q, ?_⟩
          rw [Heap.size_push]
          exact Nat.ne_of_lt (Nat.lt_succ_of_lt q)
      · cases r₂ with
        | error e => exact hr₂
        | ok fl₂ =>
          cases fl₂ with
          | ret r =>
            obtain ⟨rfl, h', tk, rfl, x, kp⟩ := hr₂
            repeat (any_goals (first | assumption | wp_step))
            exact h _ _ x kp
          | _ => exact hr₂.elim
    | _ => exact hr.elim
end
end L2
namespace L2
open PySem PySem.W PyProof.Rows
def ev {α : Type} (lt : Nat → Nat → Bool) : KasT α → α
  | .ret a => a
  | .ask i j k => ev lt (k (lt i j))
theorem ev_bind {α β : Type} (lt : Nat → Nat → Bool) (f : α → KasT β) : ∀ t : KasT α, ev lt (t.bind f) = ev lt (f (ev lt t))
  | .ret _ => rfl
  | .ask i j k => ev_bind lt f (k (lt i j))
section
variable {r : Nat → Int}
abbrev ltR (r : Nat → Int) : Nat → Nat → Bool := fun i j => decide (r i < r j)
abbrev ky (r : Nat → Int) (p : Array Nat) (k : Nat) : Int := r (p.getD k 0)
theorem ev_ask {α : Type} (lt : Nat → Nat → Bool) (i j : Nat) (k : Bool → KasT α) : ev lt (.ask i j k) = ev lt (k (lt i j)) := rfl
theorem ltR_t {i j : Nat} (c : r i < r j) : ltR r i j = true := decide_eq_true c
theorem ltR_f {i j : Nat} (c : ¬ r i < r j) : ltR r i j = false := decide_eq_false c
def Up (r : Nat → Int) (p : Array Nat) (b : Nat) : Prop := ∀ i, 0 < i → i < b → ky r p (i - 1) ≤ ky r p i
def Dn (r : Nat → Int) (p : Array Nat) (b : Nat) : Prop := ∀ i, 0 < i → i < b → ky r p i ≤ ky r p (i - 1)
def Eqs (r : Nat → Int) (p : Array Nat) (a b : Nat) : Prop := ∀ i, a < i → i < b → ky r p i = ky r p (i - 1)
theorem Up.mono {p : Array Nat} {b : Nat} (h : Up r p b) : ∀ i j, i ≤ j → j < b → ky r p i ≤ ky r p j := by
  intro i j hij hj
  induction j with
  | zero =>
    have : i = 0 := by omega
    subst this; exact Int.le_refl _
  | succ j ih =>
    rcases Nat.lt_or_eq_of_le hij with q | q
    · exact Int.le_trans (ih (by omega) (by omega)) (h (j + 1) (by omega) hj)
    · rw [q]; exact Int.le_refl _
theorem Dn.mono {p : Array Nat} {b : Nat} (h : Dn r p b) : ∀ i j, i ≤ j → j < b → ky r p j ≤ ky r p i := by
  intro i j hij hj
  induction j with
  | zero =>
    have : i = 0 := by omega
    subst this; exact Int.le_refl _
  | succ j ih =>
    rcases Nat.lt_or_eq_of_le hij with q | q
    · exact Int.le_trans (h (j + 1) (by omega) hj) (ih (by omega) (by omega))
    · rw [q]; exact Int.le_refl _
theorem Eqs.all {p : Array Nat} {a b : Nat} (h : Eqs r p a b) : ∀ i, a ≤ i → i < b → ky r p i = ky r p a := by
  intro i hi hb
  induction i with
  | zero =>
    have : a = 0 := by omega
    subst this; rfl
  | succ i ih =>
    rcases Nat.lt_or_eq_of_le hi with q | q
    · rw [h (i + 1) q hb]; exact ih (by omega) (by omega)
    · rw [q]
theorem getD_rev {p : Array Nat} {i j : Nat} (hj : j ≤ p.size) (k : Nat) : (kas_rev p i j).getD k 0 = if i ≤ k ∧ k < j then p.getD (i + j - 1 - k) 0 else p.getD k 0 := by
  unfold kas_rev
  have e := getElem?_mirror (xs := p) (i := i) hj ((j - i) / 2) (by omega) k
  rw [Array.getD_eq_getD_getElem?, e]
  by_cases c : i ≤ k ∧ k < j
  · rw [if_pos c]
    by_cases d : i ≤ k ∧ k < i + (j - i) / 2 ∨ j - (j - i) / 2 ≤ k ∧ k < j
    · rw [if_pos d, Array.getD_eq_getD_getElem?]
    · rw [if_neg d]
      have : i + j - 1 - k = k := by omega
      rw [this, Array.getD_eq_getD_getElem?]
  · rw [if_neg c, if_neg (by omega), Array.getD_eq_getD_getElem?]
theorem rev_eqs {p : Array Nat} {i j : Nat} (hj : j ≤ p.size) (h : Eqs r p i j) (k : Nat) : ky r (kas_rev p i j) k = ky r p k := by
  show r _ = r _
  rw [getD_rev hj]
  by_cases c : i ≤ k ∧ k < j
  · rw [if_pos c]
    have e1 : ky r p (i + j - 1 - k) = ky r p i := h.all _ (by omega) (by omega)
    have e2 : ky r p k = ky r p i := h.all _ c.1 c.2
    exact e1.trans e2.symm
  · rw [if_neg c]
theorem rev_size (p : Array Nat) (i j : Nat) : (kas_rev p i j).size = p.size := mirror_size _ _ _ _
theorem rev_perm (p : Array Nat) (i j : Nat) : (kas_rev p i j).Perm p := mirror_perm _ _ _ _
theorem ev_asc (p : Array Nat) : ∀ f n, 1 ≤ n → Up r p n → n ≤ ev (ltR r) (kas_asc p f n) ∧ ev (ltR r) (kas_asc p f n) ≤ n + f ∧ Up r p (ev (ltR r) (kas_asc p f n)) ∧
    (ev (ltR r) (kas_asc p f n) < n + f → ky r p (ev (ltR r) (kas_asc p f n)) < ky r p (ev (ltR r) (kas_asc p f n) - 1)) := by
  intro f
  induction f with
  | zero => intro n h1 h; exact ⟨Nat.le_refl _, Nat.le_refl _, h, fun q => absurd q (Nat.lt_irrefl _)⟩
  | succ f ih =>
    intro n h1 h
    unfold kas_asc
    rw [ev_ask]
    by_cases c : r (p.getD n 0) < r (p.getD (n - 1) 0)
    · rw [ltR_t c, if_pos rfl]
      exact ⟨Nat.le_refl _, by show n ≤ n + (f + 1); omega, h, fun _ => c⟩
    · rw [ltR_f c, if_neg (by simp)]
      obtain ⟨q1, q2, q3, q4⟩ := ih (n + 1) (by omega) (fun i hi hb => by
        rcases Nat.lt_or_eq_of_le (Nat.le_of_lt_succ hb) with z | z
        · exact h i hi z
        · subst z; exact Int.not_lt.mp c)
      exact ⟨by omega, by omega, q3, fun z => q4 (by omega)⟩
theorem ev_desc : ∀ (f : Nat) (p : Array Nat) (n q : Nat), q < n → n + f ≤ p.size → Dn r p n → Eqs r p (n - (q + 1)) n →
    ∃ p' n' q', ev (ltR r) (kas_desc f p n q) = (p', n', q') ∧ q' < n' ∧ n ≤ n' ∧ n' ≤ n + f ∧ p'.size = p.size ∧ p'.Perm p ∧ Dn r p' n' ∧ Eqs r p' (n' - (q' + 1)) n' := by
  intro f
  induction f with
  | zero => intro p n q hq hz hd he; exact ⟨p, n, q, rfl, hq, Nat.le_refl _, Nat.le_refl _, rfl, Array.Perm.refl _, hd, he⟩
  | succ f ih =>
    intro p n q hq hz hd he
    unfold kas_desc
    rw [ev_ask]
    by_cases c : r (p.getD n 0) < r (p.getD (n - 1) 0)
    · rw [ltR_t c, if_pos rfl]
      have step : ∀ p1 : Array Nat, p1.size = p.size → p1.Perm p → (∀ k, ky r p1 k = ky r p k) → ∃ p' n' q', ev (ltR r) (kas_desc f p1 (n + 1) 0) = (p', n', q') ∧ q' < n' ∧ n ≤ n' ∧ n' ≤ n + (f + 1) ∧ p'.size = p.size ∧ p'.Perm p ∧ Dn r p' n' ∧ Eqs r p' (n' - (q' + 1)) n' := fun p1 s1 pm hk => by
        obtain ⟨p', n', q', e, a1, a2, a3, a4, a5, a6, a7⟩ := ih p1 (n + 1) 0 (by omega) (by omega) (fun i hi hb => by
          rw [hk, hk]
          rcases Nat.lt_or_eq_of_le (Nat.le_of_lt_succ hb) with z | z
          · exact hd i hi z
          · subst z; exact Int.le_of_lt c) (fun i hi hb => by omega)
        exact ⟨p', n', q', e, a1, by omega, by omega, a4.trans s1, a5.trans pm, a6, a7⟩
      by_cases cq : q > 0
      · rw [if_pos cq]
        exact step _ (rev_size _ _ _) (rev_perm _ _ _) (rev_eqs (by omega) he)
      · rw [if_neg cq]
        exact step p rfl (Array.Perm.refl _) fun _ => rfl
    · rw [ltR_f c, if_neg (by simp)]
      rw [ev_ask]
      by_cases d : r (p.getD (n - 1) 0) < r (p.getD n 0)
      · rw [ltR_t d, if_pos rfl]
        exact ⟨p, n, q, rfl, hq, Nat.le_refl _, by omega, rfl, Array.Perm.refl _, hd, he⟩
      · rw [ltR_f d, if_neg (by simp)]
        have eqn : ky r p n = ky r p (n - 1) := Int.le_antisymm (Int.not_lt.mp d) (Int.not_lt.mp c)
        obtain ⟨p', n', q', e, a1, a2, a3, a4, a5, a6, a7⟩ := ih p (n + 1) (q + 1) (by omega) (by omega) (fun i hi hb => by
          rcases Nat.lt_or_eq_of_le (Nat.le_of_lt_succ hb) with z | z
          · exact hd i hi z
          · subst z; exact Int.le_of_eq eqn) (fun i hi hb => by
          rcases Nat.lt_or_eq_of_le (Nat.le_of_lt_succ hb) with z | z
          · exact he i (by omega) z
          · subst z; exact eqn)
        exact ⟨p', n', q', e, a1, by omega, by omega, a4, a5, a6, a7⟩
def Run (r : Nat → Int) (p : Array Nat) (nrem : Nat) (x : Nat × Array Nat) : Prop := x.1 ≤ nrem ∧ 1 ≤ x.1 ∧ x.2.size = p.size ∧ x.2.Perm p ∧ Up r x.2 x.1
theorem ev_tail3 {p : Array Nat} {n nrem : Nat} (h1 : 1 ≤ n) (hn : n ≤ nrem) (hz : nrem ≤ p.size) (hd : Dn r p n) : Run r p nrem (ev (ltR r) (kas_tail3 n nrem p)) := by
  unfold kas_tail3
  rw [ev_bind]
  have hu : Up r (kas_rev p 0 n) n := fun i hi hb => by
    show r _ ≤ r _
    rw [getD_rev (by omega), getD_rev (by omega), if_pos (by omega), if_pos (by omega)]
    exact hd.mono (0 + n - 1 - i) (0 + n - 1 - (i - 1)) (by omega) (by omega)
  obtain ⟨a1, a2, a3, _⟩ := ev_asc (kas_rev p 0 n) (nrem - n) n h1 hu
  exact ⟨by show ev (ltR r) _ ≤ _; omega, by show 1 ≤ ev (ltR r) _; omega, rev_size _ _ _, rev_perm _ _ _, a3⟩
theorem Run.of {p p1 : Array Nat} {nrem : Nat} {x : Nat × Array Nat} (h : Run r p1 nrem x) (s : p1.size = p.size) (m : p1.Perm p) : Run r p nrem x := ⟨h.1, h.2.1, h.2.2.1.trans s, h.2.2.2.1.trans m, h.2.2.2.2⟩
theorem ev_descPart {p : Array Nat} {n nrem : Nat} (hn : n + 1 ≤ nrem) (hz : nrem ≤ p.size) (hd : Dn r p (n + 1)) : Run r p nrem (ev (ltR r) (kas_descPart n nrem p)) := by
  unfold kas_descPart
  rw [ev_bind]
  obtain ⟨p', n', q', e, a1, a2, a3, a4, a5, a6, a7⟩ := ev_desc (nrem - (n + 1)) p (n + 1) 0 (by omega) (by omega) hd (fun i hi hb => by omega)
  rw [e]
  dsimp only
  by_cases c : q' > 0
  · rw [if_pos c]
    have k := rev_eqs (r := r) (by omega) a7
    exact (ev_tail3 (p := kas_rev p' (n' - (q' + 1)) n') (by omega) (by omega) (by rw [rev_size]; omega) (fun i hi hb => by rw [k, k]; exact a6 i hi hb)).of ((rev_size _ _ _).trans a4) ((rev_perm _ _ _).trans a5)
  · rw [if_neg c]
    exact (ev_tail3 (p := p') (by omega) (by omega) (by omega) a6).of a4 a5
theorem ev_count {p : Array Nat} {nrem : Nat} (h1 : 1 ≤ nrem) (hz : nrem ≤ p.size) : Run r p nrem (ev (ltR r) (kas_count nrem p)) := by
  unfold kas_count
  rw [ev_bind]
  obtain ⟨a1, a2, a3, a4⟩ := ev_asc (r := r) p (nrem - 1) 1 (Nat.le_refl _) (fun i hi hb => by omega)
  generalize ev (ltR r) (kas_asc p (nrem - 1) 1) = n at *
  by_cases c : (n == nrem) = true
  · rw [if_pos c]
    exact ⟨by show n ≤ nrem; omega, a1, rfl, Array.Perm.refl _, a3⟩
  · rw [if_neg c]
    have hne : n ≠ nrem := by simpa using c
    have stop := a4 (by omega)
    by_cases c2 : n > 1
    · rw [if_pos c2]
      rw [ev_ask]
      by_cases d : r (p.getD 0 0) < r (p.getD (n - 1) 0)
      · rw [ltR_t d, if_pos rfl]
        exact ⟨by show n ≤ nrem; omega, a1, rfl, Array.Perm.refl _, a3⟩
      · rw [ltR_f d, if_neg (by simp)]
        have eqs : Eqs r p 0 n := fun i hi hb => by
          have q1 := a3.mono 0 (i - 1) (by omega) (by omega)
          have q2 := a3.mono (i - 1) i (by omega) hb
          have q3 := a3.mono i (n - 1) (by omega) (by omega)
          have q4 : ky r p (n - 1) ≤ ky r p 0 := Int.not_lt.mp d
          omega
        have k := rev_eqs (r := r) (by omega) eqs
        refine (ev_descPart (p := kas_rev p 0 n) (by omega) (by rw [rev_size]; exact hz) (fun i hi hb => ?_)).of (rev_size _ _ _) (rev_perm _ _ _)
        rw [k, k]
        rcases Nat.lt_or_eq_of_le (Nat.le_of_lt_succ hb) with z | z
        · exact Int.le_of_eq (eqs i hi z)
        · subst z; exact Int.le_of_lt stop
    · rw [if_neg c2]
      obtain rfl : n = 1 := by omega
      exact ev_descPart (by omega) hz (fun i hi hb => by
        obtain rfl : i = 1 := by omega
        exact Int.le_of_lt stop)
theorem ev_place {p : Array Nat} {k : Nat} (hu : Up r p k) : ∀ f l m, m - l ≤ f → l ≤ m → m ≤ k → (∀ i, i < l → ky r p i ≤ ky r p k) → (∀ i, m ≤ i → i < k → ky r p k < ky r p i) →
    ev (ltR r) (kas_place p k f l m) ≤ k ∧ (∀ i, i < ev (ltR r) (kas_place p k f l m) → ky r p i ≤ ky r p k) ∧ ∀ i, ev (ltR r) (kas_place p k f l m) ≤ i → i < k → ky r p k < ky r p i := by
  intro f
  induction f with
  | zero =>
    intro l m h1 h2 h3 h4 h5
    obtain rfl : l = m := by omega
    exact ⟨h3, h4, h5⟩
  | succ f ih =>
    intro l m h1 h2 h3 h4 h5
    unfold kas_place
    by_cases c : l ≥ m
    · rw [if_pos c]
      obtain rfl : l = m := by omega
      exact ⟨h3, h4, h5⟩
    · rw [if_neg c]
      rw [ev_ask]
      by_cases d : r (p.getD k 0) < r (p.getD ((l + m) / 2) 0)
      · rw [ltR_t d, if_pos rfl]
        refine ih l ((l + m) / 2) (by omega) (by omega) (by omega) h4 (fun i hi hb => ?_)
        exact Int.lt_of_lt_of_le d (hu.mono _ i hi hb)
      · rw [ltR_f d, if_neg (by simp)]
        refine ih ((l + m) / 2 + 1) m (by omega) (by omega) h3 (fun i hi => ?_) h5
        exact Int.le_trans (hu.mono i ((l + m) / 2) (by omega) (by omega)) (Int.not_lt.mp d)
theorem getD_bubble {p : Array Nat} {k l : Nat} (hk : k < p.size) (hl : l ≤ k) (i : Nat) : (bubble p k (k - l)).getD i 0 = if i = l then p.getD k 0 else if l < i ∧ i ≤ k then p.getD (i - 1) 0 else p.getD i 0 := by
  have e := getElem?_bubble hk (k - l) (by omega) i
  rw [show k - (k - l) = l by omega] at e
  rw [Array.getD_eq_getD_getElem?, e]
  by_cases c1 : i = l
  · rw [if_pos c1, if_pos c1, Array.getD_eq_getD_getElem?]
  · rw [if_neg c1, if_neg c1]
    by_cases c2 : l < i ∧ i ≤ k
    · rw [if_pos c2, if_pos c2, Array.getD_eq_getD_getElem?]
    · rw [if_neg c2, if_neg c2, Array.getD_eq_getD_getElem?]
def Asks {α : Type} (lt : Nat → Nat → Bool) (n : Nat) : KasT α → Prop
  | .ret _ => True
  | .ask i j k => i < n ∧ j < n ∧ Asks lt n (k (lt i j))
theorem Asks.bind {α β : Type} {lt : Nat → Nat → Bool} {n : Nat} {f : α → KasT β} : ∀ {t : KasT α}, Asks lt n t → Asks lt n (f (ev lt t)) → Asks lt n (t.bind f)
  | .ret _, _, h => h
  | .ask i j k, h, h' => ⟨h.1, h.2.1, Asks.bind (t := k (lt i j)) h.2.2 h'⟩
def InN (n : Nat) (p : Array Nat) : Prop := 0 < n ∧ ∀ x ∈ p.toList, x < n
theorem InN.at {n : Nat} {p : Array Nat} (h : InN n p) (k : Nat) : p.getD k 0 < n := by
  rw [Array.getD_eq_getD_getElem?]
  cases e : p[k]? with
  | none => exact h.1
  | some x => exact h.2 x (by rw [Array.mem_toList_iff]; exact Array.mem_of_getElem? e)
theorem InN.perm {n : Nat} {p p' : Array Nat} (h : InN n p) (m : p'.Perm p) : InN n p' := ⟨h.1, fun x hx => h.2 x (by
  rw [Array.mem_toList_iff] at hx ⊢
  exact (Array.Perm.mem_iff m).mp hx)⟩
variable {n₀ : Nat}
theorem asks_asc {p : Array Nat} (h : InN n₀ p) : ∀ f n, Asks (ltR r) n₀ (kas_asc p f n)
  | 0, _ => True.intro
  | f + 1, n => by
    unfold kas_asc
    refine ⟨h.at _, h.at _, ?_⟩
    dsimp only
    split
    · exact True.intro
    · exact asks_asc h f (n + 1)
theorem asks_desc : ∀ (f : Nat) {p : Array Nat} (n q : Nat), InN n₀ p → Asks (ltR r) n₀ (kas_desc f p n q)
  | 0, _, _, _, _ => True.intro
  | f + 1, p, n, q, h => by
    unfold kas_desc
    refine ⟨h.at _, h.at _, ?_⟩
    dsimp only
    split
    · split
      · exact asks_desc f _ _ (h.perm (rev_perm _ _ _))
      · exact asks_desc f _ _ h
    · refine ⟨h.at _, h.at _, ?_⟩
      dsimp only
      split
      · exact True.intro
      · exact asks_desc f _ _ h
theorem desc_perm : ∀ (f : Nat) (p : Array Nat) (n q : Nat), (ev (ltR r) (kas_desc f p n q)).1.Perm p
  | 0, p, _, _ => Array.Perm.refl _
  | f + 1, p, n, q => by
    unfold kas_desc
    rw [ev_ask]
    split
    · split
      · exact (desc_perm f _ _ _).trans (rev_perm _ _ _)
      · exact desc_perm f _ _ _
    · rw [ev_ask]
      split
      · exact Array.Perm.refl _
      · exact desc_perm f _ _ _
theorem asks_tail3 {p : Array Nat} (n nrem : Nat) (h : InN n₀ p) : Asks (ltR r) n₀ (kas_tail3 n nrem p) := (asks_asc (h.perm (rev_perm _ _ _)) _ _).bind True.intro
theorem asks_descPart {p : Array Nat} (n nrem : Nat) (h : InN n₀ p) : Asks (ltR r) n₀ (kas_descPart n nrem p) := by
  refine (asks_desc _ _ _ h).bind ?_
  have pm := desc_perm (r := r) (nrem - (n + 1)) p (n + 1) 0
  split
  · exact asks_tail3 _ _ ((h.perm pm).perm (rev_perm _ _ _))
  · exact asks_tail3 _ _ (h.perm pm)
theorem asks_count {p : Array Nat} (nrem : Nat) (h : InN n₀ p) : Asks (ltR r) n₀ (kas_count nrem p) := by
  refine (asks_asc h _ _).bind ?_
  split
  · exact True.intro
  · split
    · refine ⟨h.at _, h.at _, ?_⟩
      dsimp only
      split
      · exact True.intro
      · exact asks_descPart _ _ (h.perm (rev_perm _ _ _))
    · exact asks_descPart _ _ h
theorem asks_place {p : Array Nat} {k : Nat} (h : InN n₀ p) : ∀ f l m, Asks (ltR r) n₀ (kas_place p k f l m)
  | 0, _, _ => True.intro
  | f + 1, l, m => by
    unfold kas_place
    split
    · exact True.intro
    · refine ⟨h.at _, h.at _, ?_⟩
      dsimp only
      split
      · exact asks_place h f _ _
      · exact asks_place h f _ _
theorem asks_bin : ∀ (f : Nat) {p : Array Nat} (k : Nat), InN n₀ p → Asks (ltR r) n₀ (kas_bin f p k)
  | 0, _, _, _ => True.intro
  | f + 1, p, k, h => (asks_place h _ _ _).bind (asks_bin f _ (h.perm (bubble_perm _ _ _)))
theorem asks_sort {n : Nat} (hn : 1 ≤ n) : Asks (ltR r) n (kas_sort n) := by
  have h : InN n (List.range n).toArray := ⟨hn, fun x hx => by simpa using hx⟩
  refine (asks_count n h).bind ?_
  obtain ⟨h1, h2, h3, h4, h5⟩ := ev_count (r := r) (p := (List.range n).toArray) (nrem := n) hn (by simp)
  split
  · exact asks_bin _ _ (h.perm h4)
  · exact True.intro
theorem wp_ev {cmp : Nat → Nat → (Bool → Shared → Prop) → Shared → Prop} {J : Shared → Prop} {n : Nat} {lt : Nat → Nat → Bool} {α : Type} (hc : ∀ i j C s, i < n → j < n → J s → (∀ s', J s' → C (lt i j) s') → cmp i j C s) :
    ∀ (t : KasT α) (s : Shared) (Q : α → Shared → Prop), Asks lt n t → J s → (∀ s', J s' → Q (ev lt t) s') → t.kasWp cmp Q s
  | .ret a, s, Q, _, hJ, h => h s hJ
  | .ask i j k, s, Q, ha, hJ, h => hc i j _ s ha.1 ha.2.1 hJ fun s' hJ' => wp_ev hc (k (lt i j)) s' Q ha.2.2 hJ' h
end
end L2
namespace L2
open PySem PySem.Spec PyProof.Rows
def insU (x : Int) : List Int → List Int
  | [] => [x]
  | y :: r => if x < y then x :: y :: r else if x = y then y :: r else y :: insU x r
def sortU (ns : List Int) : List Int := ns.foldr insU []
theorem mem_insU (x k : Int) : ∀ l : List Int, k ∈ insU x l ↔ k = x ∨ k ∈ l
  | [] => by simp [insU]
  | y :: r => by
    unfold insU
    split
    · simp
    · split
      · rename_i h; subst h; simp
      · rw [List.mem_cons, mem_insU x k r, List.mem_cons]
        constructor
        · rintro (h | h | h)
          · exact .inr (.inl h)
          · exact .inl h
          · exact .inr (.inr h)
        · rintro (h | h | h)
          · exact .inr (.inl h)
          · exact .inl h
          · exact .inr (.inr h)
theorem rise_insU (x : Int) : ∀ l : List Int, l.Pairwise (· < ·) → (insU x l).Pairwise (· < ·)
  | [], _ => by simp [insU]
  | y :: r, h => by
    rw [List.pairwise_cons] at h
    unfold insU
    split
    · rename_i hlt
      rw [List.pairwise_cons, List.pairwise_cons]
      refine ⟨fun a ha => ?_, h⟩
      rcases List.mem_cons.mp ha with rfl | ha
      · exact hlt
      · exact Int.lt_trans hlt (h.1 a ha)
    · split
      · rw [List.pairwise_cons]; exact h
      · rename_i h1 h2
        rw [List.pairwise_cons]
        refine ⟨fun a ha => ?_, rise_insU x r h.2⟩
        rcases (mem_insU x a r).mp ha with rfl | ha
        · omega
        · exact h.1 a ha
theorem mem_sortU (k : Int) : ∀ ns : List Int, k ∈ sortU ns ↔ k ∈ ns
  | [] => Iff.rfl
  | x :: r => by
    show k ∈ insU x (sortU r) ↔ _
    rw [mem_insU, mem_sortU k r, List.mem_cons]
theorem rise_sortU : ∀ ns : List Int, (sortU ns).Pairwise (· < ·)
  | [] => List.Pairwise.nil
  | x :: r => rise_insU x _ (rise_sortU r)
theorem nodup_of_rise {l : List Int} (h : l.Pairwise (· < ·)) : l.Nodup := h.imp fun {a b} q e => by rw [e] at q; exact Int.lt_irrefl _ q
theorem perm_of_sub : ∀ (l1 l2 : List Int), l1.Nodup → (∀ x ∈ l1, x ∈ l2) → l2.length ≤ l1.length → l1.Perm l2
  | [], l2, _, _, h => by
    have : l2 = [] := List.eq_nil_of_length_eq_zero (by simpa using h)
    subst this; exact List.Perm.refl _
  | a :: r, l2, hn, hs, hl => by
    rw [List.nodup_cons] at hn
    have ha := hs a List.mem_cons_self
    have p := List.perm_cons_erase ha
    refine ((perm_of_sub r (l2.erase a) hn.2 (fun x hx => ?_) ?_).cons a).trans p.symm
    · have hne : x ≠ a := fun e => hn.1 (e ▸ hx)
      exact (List.mem_erase_of_ne hne).mpr (hs x (List.mem_cons_of_mem _ hx))
    · have := p.length_eq
      rw [List.length_cons] at this hl
      omega
theorem rise_ext : ∀ {l1 l2 : List Int}, l1.Pairwise (· < ·) → l2.Pairwise (· < ·) → (∀ k, k ∈ l1 ↔ k ∈ l2) → l1 = l2
  | [], [], _, _, _ => rfl
  | [], b :: r, _, _, h => absurd ((h b).mpr List.mem_cons_self) (by simp)
  | a :: r, [], _, _, h => absurd ((h a).mp List.mem_cons_self) (by simp)
  | a :: r, b :: t, h1, h2, h => by
    rw [List.pairwise_cons] at h1 h2
    have e : a = b := by
      rcases List.mem_cons.mp ((h a).mp List.mem_cons_self) with q | q
      · exact q
      · rcases List.mem_cons.mp ((h b).mpr List.mem_cons_self) with q' | q'
        · exact q'.symm
        · have z1 := h2.1 a q
          have z2 := h1.1 b q'
          omega
    subst e
    have : r = t := rise_ext h1.2 h2.2 fun k => by
      have q := h k
      rw [List.mem_cons, List.mem_cons] at q
      constructor
      · intro hk
        rcases q.mp (.inr hk) with e | z
        · have := h1.1 k hk; omega
        · exact z
      · intro hk
        rcases q.mpr (.inr hk) with e | z
        · have := h2.1 k hk; omega
        · exact z
    rw [this]
theorem sorted_is {ns' ns : List Int} (hp : ns'.Pairwise (· ≤ ·)) (hm : ∀ k, k ∈ ns' ↔ k ∈ ns) (hl : ns'.length = (sortU ns).length) : ns' = sortU ns := by
  have pm := perm_of_sub (sortU ns) ns' (nodup_of_rise (rise_sortU ns)) (fun x hx => (hm x).mpr ((mem_sortU x ns).mp hx)) (Nat.le_of_eq hl)
  have nd : ns'.Nodup := pm.nodup_iff.mp (nodup_of_rise (rise_sortU ns))
  refine rise_ext ((hp.and nd).imp fun {a b} q => ?_) (rise_sortU ns) fun k => by rw [hm, mem_sortU]
  have := q.1
  have := q.2
  omega
theorem firstMet_mem (ns : List Int) (k : Int) : (firstMet (fun i => ns.getD i 0) ns.length).any (· == k) = decide (k ∈ ns) := by
  rw [firstMet_any]
  have e : (List.range ns.length).map (fun i => ns.getD i 0) = ns := by
    apply List.ext_getElem
    · simp
    · intro i h1 h2
      simp [List.getD, h2]
  rw [e, Bool.eq_iff_iff, List.any_eq_true, decide_eq_true_iff]
  constructor
  · rintro ⟨x, hx, q⟩
    rw [← eq_of_beq q]; exact hx
  · intro h
    exact ⟨k, h, beq_self_eq_true k⟩
theorem firstMet_nodup (val : Nat → Int) : ∀ i, (firstMet val i).Nodup
  | 0 => List.nodup_nil
  | i + 1 => by
    rw [firstMet_succ]
    unfold step_dedup
    have ih := firstMet_nodup val i
    by_cases h : (firstMet val i).any (· == val i) = true
    · rw [if_pos h]; exact ih
    · rw [if_neg h, List.nodup_append]
      refine ⟨ih, by simp, fun a ha b hb e => h ?_⟩
      rw [List.mem_singleton] at hb
      rw [List.any_eq_true]
      exact ⟨a, ha, by rw [e, hb]; exact beq_self_eq_true _⟩
theorem firstMet_len (ns : List Int) : (firstMet (fun i => ns.getD i 0) ns.length).length = (sortU ns).length := by
  have m : ∀ k, k ∈ firstMet (fun i => ns.getD i 0) ns.length ↔ k ∈ ns := fun k => by
    have := firstMet_mem ns k
    rw [Bool.eq_iff_iff, List.any_eq_true, decide_eq_true_iff] at this
    rw [← this]
    exact ⟨fun h => ⟨k, h, beq_self_eq_true k⟩, fun ⟨x, hx, q⟩ => by rw [← eq_of_beq q]; exact hx⟩
  have n1 := firstMet_nodup (fun i => ns.getD i 0) ns.length
  have n2 := nodup_of_rise (rise_sortU ns)
  rcases Nat.le_total (firstMet (fun i => ns.getD i 0) ns.length).length (sortU ns).length with h | h
  · exact (perm_of_sub (sortU ns) _ n2 (fun x hx => (m x).mpr ((mem_sortU x ns).mp hx)) h).length_eq.symm
  · exact (perm_of_sub _ (sortU ns) n1 (fun x hx => (mem_sortU x ns).mpr ((m x).mp hx)) h).length_eq
theorem sortU_len (ns : List Int) : (sortU ns).length ≤ ns.length := by
  induction ns with
  | nil => exact Nat.le_refl _
  | cons x r ih =>
    have : ∀ l : List Int, (insU x l).length ≤ l.length + 1 := by
      intro l
      induction l with
      | nil => simp [insU]
      | cons y t ih =>
        unfold insU; split <;> try split
        all_goals simp only [List.length_cons]
        all_goals omega
    have q := this (sortU r)
    show (insU x (sortU r)).length ≤ _
    rw [List.length_cons]
    omega
section
variable {X : Cx}
def SetO (X : Cx) (l : Addr) (ns : List Int) : HO := .ext fun h => SetX (intKind X.prog X.w) h l (fun k => decide (k ∈ ns)) (sortU ns).length
theorem call_set_ints (hc : X.calm = true) : CallR X (.type "set") (fun xs H Q => ∃ (p : Addr) (ns : List Int), xs = [.ref p] ∧ SqL X.K H p (ns.map V.int) ∧ ns.length < 4000 ∧ ∀ l, H l = none → Q (.ref l) (upd H l (SetO X l ns))) := by
  intro pins s σ H xs us Q I r h
  obtain ⟨p, ns, rfl, hq, hlt, q⟩ := h
  obtain ⟨u, rfl, rx⟩ := vals1 r
  cases rx
  obtain ⟨its, r', pl, hz⟩ := I.list hq
  have hi : IntsAre its ns := intsAre_of r'
  have hlen : its.length = ns.length := hi.length
  refine set_of_list (I.ok.hd hc) pl.isList (ns := ns) (by simpa using hi) (by show its.toArray.size + 1 < 4096; rw [List.size_toArray]; omega) fun h' tk x kp => ?_
  have x' : SetX (intKind X.prog X.w) h' s.heap.objs.size (fun k => decide (k ∈ ns)) (sortU ns).length := x.congr (fun k => by
    rw [List.size_toArray, hlen]; exact firstMet_mem ns k) (by rw [List.size_toArray, hlen]; exact firstMet_len ns)
  have he : ∃ o, h'.get? s.heap.objs.size = some o := let ⟨o, _, _, _, e, _⟩ := x'; ⟨o, e⟩
  exact ⟨.ref s.heap.objs.size, _, I.laid (t' := tk) (o := SetO X s.heap.objs.size ns) (fun b o e => kp b o (Heap.lt_size e) e) (Nat.le_refl _) ⟨x', he, fun h1 h2 y k => y.of_get k⟩, rfl, q _ (I.hok.fresh (Nat.le_refl _))⟩
theorem setO_at {pins : List (Addr × Obj)} {σ : St} {H : Hp} {s : Shared} {p : Addr} {ns : List Int} (I : Inv X pins σ H s) (e : H p = some (SetO X p ns)) : SetX (intKind X.prog X.w) s.heap p (fun k => decide (k ∈ ns)) (sortU ns).length :=
  (show ObjOk X.prog X.w H s.heap p (SetO X p ns) from I.hok p _ e).1
theorem call_sorted_set (hc : X.calm = true) : CallR X (.builtin "sorted") (fun xs H Q => ∃ (p : Addr) (ns : List Int), xs = [.ref p] ∧ H p = some (SetO X p ns) ∧ ns.length < 64 ∧ ∀ l, H l = none → Q (.ref l) (upd H l (.lst ((sortU ns).map V.int)))) := by
  intro pins s σ H xs us Q I r h
  obtain ⟨p, ns, rfl, he, hlt, q⟩ := h
  obtain ⟨u, rfl, rx⟩ := vals1 r
  cases rx
  have hl := sortU_len ns
  refine sorted_set (I.ok.hd hc) (setO_at I he) (by omega) fun l h' d tk e out ns' a1 a2 a3 a4 hlz kp g => ?_
  have e2 : ns' = sortU ns := sorted_is a2 (fun k => by rw [a3, decide_eq_true_iff]) a4
  subst e2
  have fr := I.hok.fresh hlz
  have new : ObjOk X.prog X.w (upd H l (.lst ((sortU ns).map V.int))) h' l (.lst ((sortU ns).map V.int)) := ⟨by rw [List.length_map]; exact Nat.le_of_lt (small1000 (by omega)), out.toList, e, vals_ints a1, by simpa [seqObj] using g⟩
  exact ⟨.ref l, _, I.call' (s' := { s with heap := h', drawn := d, toks := tk }) (ch := []) rfl (Un.track (Un.kept kp) hlz fr) (HOk.track (I.hok.kept kp) fr new) I.bare (fun b z => nomatch z), rfl, q l fr⟩
end
def EqV (X : Cx) (H : Hp) (n : Nat) (x y : V) (b : Bool) : Prop :=
  ∀ (A : Around) (pins : List (Addr × Obj)) (s : Shared) (σ : St) (u v : Value), Inv X pins σ H s → RelV x u → RelV y v → A.units + n < cLine → SeqAt.EqAt A s u v b
structure EqRep (X : Cx) {δ : Type} [DecidableEq δ] (n : Nat) (R : Hp → V → δ → Prop) : Prop where
  eq : ∀ H x y dx dy, R H x dx → R H y dy → EqV X H n x y (decide (dx = dy))
  fn : ∀ pins s σ H x d d', Inv X pins σ H s → R H x d → R H x d' → d = d'
def rInt : Hp → V → Int → Prop := fun _ x i => x = .int i
theorem dec_beq {i j : Int} : (i == j) = decide (i = j) := by rw [Bool.eq_iff_iff]; simp
section
variable {X : Cx}
theorem ep_int : EqRep X 0 rInt where
  eq := fun H x y dx dy hx hy A pins s σ u v I ru rv hu => by
    subst hx hy
    obtain ⟨t, rfl⟩ := ru
    obtain ⟨t', rfl⟩ := rv
    rw [← dec_beq]
    exact SeqAt.EqAt.int_int _ _ _ _
  fn := fun _ _ _ _ x d d' _ h h' => by subst h; injection h'
variable {δ : Type} [DecidableEq δ] {n : Nat} {R : Hp → V → δ → Prop}
theorem paired_at {α β : Type} {Rl : α → β → Prop} : ∀ {xs : List α} {ds : List β}, Paired Rl xs ds → ∀ (i : Nat) (x : α), xs[i]? = some x → ∃ d, ds[i]? = some d ∧ Rl x d
  | _, _, .nil, i, x, h => by simp at h
  | _, _, .cons r t, 0, x, h => by simp at h; subst h; exact ⟨_, rfl, r⟩
  | _, _, .cons r t, i + 1, x, h => by
    obtain ⟨d, e, q⟩ := paired_at t i x (by simpa using h)
    exact ⟨d, by simpa using e, q⟩
theorem items_eq (ep : EqRep X n R) {H : Hp} {A : Around} {pins : List (Addr × Obj)} {s : Shared} {σ : St} (I : Inv X pins σ H s) {xs ys : List V} {ds ds' : List δ} {us vs : List Value} (hx : Paired (R H) xs ds) (hy : Paired (R H) ys ds') (ru : Vals xs us) (rv : Vals ys vs)
    (hu : A.units + n < cLine) : ∀ j (h1 : j < us.toArray.size) (h2 : j < vs.toArray.size), SeqAt.EqAt A s us.toArray[j] vs.toArray[j] (decide (ds[j]? = ds'[j]?)) := fun j h1 h2 => by
  have l1 := ru.length
  have l2 := rv.length
  rw [List.size_toArray] at h1 h2
  have e1 : xs[j]? = some (xs[j]'(by omega)) := List.getElem?_eq_getElem _
  have e2 : ys[j]? = some (ys[j]'(by omega)) := List.getElem?_eq_getElem _
  obtain ⟨d, q1, r1⟩ := paired_at hx j _ e1
  obtain ⟨d', q2, r2⟩ := paired_at hy j _ e2
  obtain ⟨u, w1, s1⟩ := ru.get e1
  obtain ⟨v, w2, s2⟩ := rv.get e2
  have z1 : us.toArray[j] = u := by rw [List.getElem?_eq_getElem h1] at w1; simpa using w1
  have z2 : vs.toArray[j] = v := by rw [List.getElem?_eq_getElem h2] at w2; simpa using w2
  rw [z1, z2, q1, q2]
  have : decide (some d = some d') = decide (d = d') := by rw [Bool.eq_iff_iff]; simp
  rw [this]
  exact ep.eq H _ _ _ _ r1 r2 A pins s σ u v I s1 s2 hu
end
end L2
namespace L2
open PySem PySem.Spec PyProof.Rows
section
variable {es : List Expr} {env : Env} {c : Const} {i : Nat} {p : Pos}
theorem st_const : starEach (.Constant c i p :: es) env = (false, eval (.Constant c i p) env) :: starEach es env := by rw [starEach]; intro a b h; cases h
theorem st_name {x : Str} : starEach (.Name x p :: es) env = (false, eval (.Name x p) env) :: starEach es env := by rw [starEach]; intro a b h; cases h
theorem st_call {f : Expr} {as : List Expr} {ks : List Keyword} : starEach (.Call f as ks p :: es) env = (false, eval (.Call f as ks p) env) :: starEach es env := by rw [starEach]; intro a b h; cases h
theorem st_bin {a b : Expr} {o : Operator} : starEach (.BinOp a o b p :: es) env = (false, eval (.BinOp a o b p) env) :: starEach es env := by rw [starEach]; intro a b h; cases h
theorem st_sub {a b : Expr} : starEach (.Subscript a b p :: es) env = (false, eval (.Subscript a b p) env) :: starEach es env := by rw [starEach]; intro a b h; cases h
theorem st_comp {a : Expr} {g : List Comprehension} {s : Scope} : starEach (.ListComp a g s p :: es) env = (false, eval (.ListComp a g s p) env) :: starEach es env := by rw [starEach]; intro a b h; cases h
theorem st_attr {a : Expr} {x : Str} : starEach (.Attribute a x p :: es) env = (false, eval (.Attribute a x p) env) :: starEach es env := by rw [starEach]; intro a b h; cases h
end
section
variable {X : Cx}
theorem ix_listK (K : PySem.W.Frag) (h : X.K = K := by rfl) : IxR X (rIxL K) := h ▸ ix_list
theorem ix_tupK (K : PySem.W.Frag) (h : X.K = K := by rfl) : IxR X (rIxT K) := h ▸ ix_tup
theorem sl_listK (K : PySem.W.Frag) (h : X.K = K := by rfl) : SlR X (rSlL K) := h ▸ sl_list
theorem op_notInK (K : PySem.W.Frag) (h : X.K = K := by rfl) : OpR X (compareOp .NotIn) (rIn K true) := h ▸ op_notIn_seq
def rLenSeq (K : PySem.W.Frag) : List V → Hp → VK → Prop := fun xs H Q => ∃ p ys, xs = [.ref p] ∧ (SqL K H p ys ∨ SqT K H p ys) ∧ Q (.int ys.length) H
theorem call_lenK (K : PySem.W.Frag) (h : X.K = K := by rfl) : CallR X (.builtin "len") (rLenSeq K) := h ▸ call_len_seq
def rListOf (K : PySem.W.Frag) : List V → Hp → VK → Prop := fun xs H Q => ∃ p ys, xs = [.ref p] ∧ (SqL K H p ys ∨ SqT K H p ys) ∧ ∀ l, H l = none → Q (.ref l) (upd H l (.lst ys))
theorem call_listK (K : PySem.W.Frag) (h : X.K = K := by rfl) : CallR X (.type "list") (rListOf K) := h ▸ call_list_of
def rIsinst (K : PySem.W.Frag) : List V → Hp → VK → Prop := fun xs H Q => ∃ v T t b, xs = [v, .ty T] ∧ TyOf K H v t ∧ PySem.W.kitOne K t (.type T) = some b ∧ Q (.bl b) H
theorem call_isinstK (K : PySem.W.Frag) (h : X.K = K := by rfl) : CallR X (.builtin "isinstance") (rIsinst K) := h ▸ call_isinst
def SetP (P : Program) (w : World) (l : Addr) (ns : List Int) : HO := .ext fun h => SetX (intKind P w) h l (fun k => decide (k ∈ ns)) (sortU ns).length
def rSetI (K : PySem.W.Frag) (P : Program) (w : World) : List V → Hp → VK → Prop := fun xs H Q => ∃ (p : Addr) (ns : List Int), xs = [.ref p] ∧ SqL K H p (ns.map V.int) ∧ ns.length < 4000 ∧ ∀ l, H l = none → Q (.ref l) (upd H l (SetP P w l ns))
theorem call_setK (K : PySem.W.Frag) (P : Program) (w : World) (hc : X.calm = true) (h : X.K = K := by rfl) (hP : X.prog = P := by rfl) (hw : X.w = w := by rfl) : CallR X (.type "set") (rSetI K P w) := by
  subst h hP hw
  exact call_set_ints hc
def rSortedS (P : Program) (w : World) : List V → Hp → VK → Prop := fun xs H Q => ∃ (p : Addr) (ns : List Int), xs = [.ref p] ∧ H p = some (SetP P w p ns) ∧ ns.length < 64 ∧ ∀ l, H l = none → Q (.ref l) (upd H l (.lst ((sortU ns).map V.int)))
theorem call_sortedSK (P : Program) (w : World) (hc : X.calm = true) (hP : X.prog = P := by rfl) (hw : X.w = w := by rfl) : CallR X (.builtin "sorted") (rSortedS P w) := by
  subst hP hw
  exact call_sorted_set hc
def rNeI (K : PySem.W.Frag) : R2 := fun x y H Q => ∃ (a b : Addr) (ns ms : List Int), x = .ref a ∧ y = .ref b ∧ SqL K H a (ns.map V.int) ∧ SqL K H b (ms.map V.int) ∧ Q (.bl (!decide (ns = ms))) H
def rEqI (K : PySem.W.Frag) : R2 := fun x y H Q => ∃ (a b : Addr) (ns ms : List Int), x = .ref a ∧ y = .ref b ∧ SqL K H a (ns.map V.int) ∧ SqL K H b (ms.map V.int) ∧ Q (.bl (decide (ns = ms))) H
theorem op_neIK (K : PySem.W.Frag) (hu : X.A.units < cLine) (h : X.K = K := by rfl) : OpR X (compareOp .NotEq) (rNeI K) := h ▸ op_neLI hu
theorem op_eqIK (K : PySem.W.Frag) (hu : X.A.units < cLine) (h : X.K = K := by rfl) : OpR X (compareOp .Eq) (rEqI K) := h ▸ op_eqLI hu
def tTru (K : PySem.W.Frag) (ta : TE) : TT := fun σ H Q => ta σ H fun x H' => ∃ k, TruV K x H' k ∧ Q k H'
theorem pt_truK (K : PySem.W.Frag) {a : Expr} {ta : TE} (ha : PE X a ta) (he : ∀ whole, isTrue a X.env whole = (do let v ← whole; standAt a.pos; holding [v] (truthy v))) (h : X.K = K := by rfl) : PT X a (tTru K ta) := h ▸ pt_truth ha he
theorem pi_listK (K : PySem.W.Frag) {tg l : Expr} {tl : TE} (hl : PE X l tl) (h : X.K = K := by rfl) : PI X tg l (iList K tl) := h ▸ pi_list hl
theorem pi_tupK (K : PySem.W.Frag) {tg l : Expr} {tl : TE} (hl : PE X l tl) (h : X.K = K := by rfl) : PI X tg l (iTup K tl) := h ▸ pi_tup hl
variable {x y z w : Str} {i j k l n : Nat} {px py pz pw pt : Pos}
end
section
variable {X : Cx} {o e : Expr} {es : List Expr} {to : TE} {t : TA} {name : Str} {apos cpos : Pos} {T id : String} {r : V → List V → Hp → VK → Prop}
theorem pe_bmK (K : PySem.W.Frag) (pa : PlainAttrs T) (slot : Slot T name id) (hty : typeOf (.builtin id) = pure (.type "method_descriptor")) (hm : MtR X id r) (ho : PE X o to) (ha : PA X (e :: es) t) (h : X.K = K := by rfl)
    (hbase : attributeBase o name X.env (eval o X.env) = eval o X.env := by rfl)
    (hfew : ((backTo cpos (starEach (e :: es) X.env)).all (fun x => !x.1) && (backToKw cpos (keywordEach [] X.env)).all (fun x => x.1.isSome)
      && decide ((e :: es).length + ([] : List Keyword).length + (if ([] : List Keyword).isEmpty then 0 else 1) < 30)) = true := by rfl)
    (hline : (apos.endLine == cpos.line) = true := by rfl) (hs : starEach (e :: es) X.env = (false, eval e X.env) :: starEach es X.env := by rfl) (hplain : (backTo cpos (starEach es X.env)).any (·.1) = false := by rfl) :
    PE X (.Call (.Attribute o name apos) (e :: es) [] cpos) (tBM K T r to t) := h ▸ pe_bm pa slot hty hm ho ha hbase hfew hline hs hplain
end
end L2
namespace HT
open PySem PySem.Spec PyProof.Rows
section
variable {prog : Program} {w : World} {A : Around} {E : Value → Shared → Prop} {s : Shared}
theorem cat_tup0 {t b : Addr} {vs ws : List Value} {Q : Value → Shared → Prop} (ht : IsTup s.heap t vs.toArray) (hb : IsTup s.heap b ws.toArray) (hv : vs = []) (h : Q (.ref b) s) : wpAny (model prog w) A (binaryOp .Add (.ref t) (.ref b)) Q E s := by
  obtain ⟨⟨cls, dd, data, sl⟩, ho, hc, n, hd⟩ := id ht
  obtain ⟨⟨cls2, dd2, data2, sl2⟩, ho2, hc2, n2, hd2⟩ := id hb
  simp only at hc hd hc2 hd2
  subst hc hd hc2 hd2
  exact concat_meets ⟨_, ho, rfl⟩ ⟨_, ho2, rfl⟩ noFill_tuple_add seq_tuple_add PySem.F.slot_tuple_add PySem.F.entry_tuple_add (PySem.F.args_tuple_add_2 _ _)
    (tuple_addW0 t b vs.toArray ws.toArray n n2 dd dd2 sl sl2 (by simp [hv])) ⟨ho, ho2, h⟩
theorem getItem_tuple_whole {t sl : Addr} {items : Array Value} {vl vu : Value} {lo hi : Option Int} {Q : Value → Shared → Prop} (ht : IsTup s.heap t items) (hs : s.heap.IsSliceOf sl vl vu .none) (pl : IsPart vl lo) (pu : IsPart vu hi)
    (hw : sIx items.size 0 lo = 0 ∧ sIx items.size items.size hi = items.size) (h : Q (.ref t) s) : wpAny (model prog w) A (getItem (.ref t) (.ref sl)) Q E s := by
  obtain ⟨os, hos, hcs, hds⟩ := id hs
  have hTs : s.TypeIs (.ref sl) "slice" := ⟨os, hos, hcs⟩
  unfold getItem
  try with_reducible refine wpAny_holding ?_
  first | refine wpAny_bind (wpAny_pure ?_) | skip
  refine wpAny_bind (wpAny_sequenceKey ht.typeIs (by decide) ?_)
  refine wpAny_bind (wpAny_callSpecial?_slot (name := Str.ofString "__getitem__") ht.typeIs PyProof.Rows.slot_tuple_getitem
    (wpAny_call_entry PyProof.Rows.slot_tuple_getitem ht.typeIs entry_tuple_getitem ?_ (args_tuple_getitem _ _)))
  show wpAny _ _ (Builtin.Tuple.tupleItemsOf (.ref t) >>= _) _ _ s
  refine wpAny_bind (tupleItemsOf_ ht ?_)
  refine wpAny_bind (wpAny_typeOf hTs ?_)
  rw [if_pos (by decide)]
  refine wpAny_bind (sliceApplied_gen hs pl pu ?_)
  have hyes : ((((sIx items.size 0 lo : Nat) : Int) == 0 && (1 : Int) == 1 && (sIx items.size items.size hi - sIx items.size 0 lo) == items.size) = true) := by
    rw [hw.1, hw.2, Nat.sub_zero]
    simp
  show wpAny _ _ (if (((sIx items.size 0 lo : Nat) : Int) == 0 && (1 : Int) == 1 && (sIx items.size items.size hi - sIx items.size 0 lo) == items.size) = true then _ else _) _ _ s
  rw [if_pos hyes]
  have hT := ht.typeIs
  unfold Builtin.Tuple.tupleIsExact
  refine wpAny_bind (wpAny_bind (wpAny_typeOf hT (wpAny_pure ?_)))
  rw [if_pos (by decide)]
  first
    | exact wpAny_bind (wpAny_rule (wpAny_pure ⟨_, rfl, wpAny_pure h⟩))
    | exact wpAny_pure ⟨_, rfl, wpAny_pure h⟩
    | exact wpAny_bind (wpAny_pure (wpAny_pure ⟨_, rfl, wpAny_pure h⟩))
end
end HT
namespace L2
open PySem PySem.Spec PyProof.Rows
theorem paired_mem {α β : Type} {R R' : α → β → Prop} : ∀ {as : List α} {ds : List β}, Paired R as ds → (∀ a b, b ∈ ds → R a b → R' a b) → Paired R' as ds
  | _, _, .nil, _ => .nil
  | _, _, .cons h t, hi => .cons (hi _ _ (List.mem_cons_self ..) h) (paired_mem t fun a b hb => hi a b (List.mem_cons_of_mem _ hb))
end L2
namespace L2
open PySem PySem.Spec PyProof.Rows
theorem mt_appendR {X : Cx} : MtR X "list.append" rAppend := mt_append
end L2
namespace L2
open PySem PySem.Spec PyProof.Rows
theorem ints_paired {H : Hp} : ∀ d : List Int, Paired (rInt H) (d.map V.int) d
  | [] => .nil
  | _ :: t => .cons rfl (ints_paired t)
end L2
namespace L2
open PySem PySem.Spec PyProof.Rows
section
variable {X : Cx}
theorem Room.unitsT {k : Nat} {A : Around} (r : Room k A) : A.units + 2 < cLine := by have := r.un; omega
end
end L2
namespace L2
open PySem PySem.Spec PyProof.Rows
section
variable {X : Cx}
def rEqNil (K : PySem.W.Frag) : R2 := fun x y H Q => ∃ (a b : Addr) (xs : List V), x = .ref a ∧ y = .ref b ∧ SqL K H a xs ∧ SqL K H b [] ∧ Q (.bl (decide (xs = []))) H
theorem op_eqNilK (K : PySem.W.Frag) (hu : X.A.units < cLine) (h : X.K = K := by rfl) : OpR X (compareOp .Eq) (rEqNil K) := by
  subst h
  intro pins s σ H x y v u Q I rx ry h
  obtain ⟨a, b, xs, rfl, rfl, ha, hb, q⟩ := h
  cases rx
  cases ry
  obtain ⟨us, r1, p1, _⟩ := I.list ha
  obtain ⟨vs, r2, p2, _⟩ := I.list hb
  cases r2
  have l1 := r1.length
  cases xs with
  | nil =>
    cases r1
    refine SeqAt.RcAt.lists (e := fun j => true) p1.isList p2.isList rfl (by omega) (fun j h1 h2 => absurd h1 (by simp)) X.prog X.w X.xe _ ?_
    exact ⟨.bl true, H, I, rfl, q⟩
  | cons x t =>
    refine SeqAt.RcAt.lists_lengths p1.isList p2.isList (by simp only [List.size_toArray]; rw [← l1]; simp) (by omega) X.prog X.w X.xe _ ?_
    exact ⟨.bl false, H, I, rfl, q⟩
end
theorem seq_cut {A u : TS} {D : Ends} {σ : St} {H : Hp} (S : St → Hp → Prop) (h1 : ∀ R : St → Hp → Prop, (∀ σ' H', S σ' H' → R σ' H') → A { D with nx := R } σ H) (h2 : ∀ σ' H', S σ' H' → u D σ' H') : tSeq A u D σ H := h1 (u D) h2
end L2
namespace L2
open PySem PySem.Spec PyProof.Rows
structure FnQ (K : PySem.W.Frag) (x qual : Str) (st : Stmt) (f : Addr) (fd : FuncData) : Prop where
  ex : ∃ (oc : Value) (od : Option Addr) (dV kV doc pm : Value) (an : Option Addr) (cdv ct : Value) (osl : Array (Option Value)),
    fd = PySem.W.fnOf x qual (defArgs st) (defBody st) (defScope st) dV kV doc pm an cdv ct ∧ K.lookup f = some ⟨oc, od, .func fd, osl⟩ ∧ PySem.W.codeIn K cdv qual = true
structure DefM (K : PySem.W.Frag) (C : Addr) (m qual : Str) (st : Stmt) (ps : List Str) (dvs : List V) (kb : FuncData → Prop) : Prop where
  ex : ∃ (f : Addr) (fd : FuncData), FnQ K m qual st f fd ∧ Meth K C m f ∧ kb fd ∧ ∀ j, j ≤ dvs.length → ∃ ds, Vals (dvs.drop j) ds ∧ Binds K fd ps ds
structure CalleeM (P : Program) (w : World) (K : PySem.W.Frag) (mg : Str → Option Value) (base : Heap) (k : Nat) (C : Addr) (m : Str) (ps : List Str) (dvs : List V) (kb : FuncData → Prop) (sp : Sp) : Prop where
  ex : ∃ (f : Addr) (fd : FuncData), FnOk P w K mg base CX0 k f fd ps sp ∧ Meth K C m f ∧ kb fd ∧ ∀ j, j ≤ dvs.length → ∃ ds, Vals (dvs.drop j) ds ∧ Binds K fd ps ds
abbrev noKw : FuncData → Prop := fun _ => True
structure Made (K : PySem.W.Frag) (mg : Str → Option Value) (x : Str) (C : Addr) : Prop where
  makes : PySem.W.makesIn K C = true
  kp : PySem.W.keepIn K (.ref C) = true
  mg : mg x = some (.ref C)
section
variable {P : Program} {w : World} {K : PySem.W.Frag} {mg : Str → Option Value} {base : Heap}
theorem DefM.ok {C : Addr} {m qual : Str} {st : Stmt} {N ps : List Str} {k : Nat} {dvs : List V} {kb : FuncData → Prop} {sp : Sp} (D : DefM K C m qual st ps dvs kb) (S : FnScope N ps (defScope st)) (len : ∀ vs H Q E, sp vs H Q E → vs.length = ps.length)
    (hbody : ∀ (f : Addr) (cdv : Value) (A : Around) (outer : List Env) (s : Shared) (H : Hp) (vs : List V) (Q : VK) (E : XK), Room k (A.deeper (envOfC qual (defScope st) s.heap.objs.size f cdv)) → sp vs H Q E →
      ∃ t, PSs (cxOf CX0 P w K mg base N qual (defScope st) f cdv A outer s H E).nox (defBody st) t ∧ t { nx := fun _ H' => Q .non H', rt := Q } (start N vs) H) : CalleeM P w K mg base (k + 1) C m ps dvs kb sp := by
  obtain ⟨f, fd, ⟨oc, od, dV, kV, doc, pm, an, cdv, ct, osl, rfl, lk, hcd⟩, mt, hkb, b⟩ := D.ex
  refine ⟨f, _, fn_of lk hcd S len fun A outer s H vs Q E hr hsp => ?_, mt, hkb, b⟩
  obtain ⟨t, h, q⟩ := hbody f cdv A outer s H vs Q E hr hsp
  exact ⟨t, h.nox, q⟩
end
section
variable {X : Cx} {k n : Nat} {C : Addr} {ps : List Str} {dvs : List V} {kb : FuncData → Prop} {sp : Sp} {x m : Str} {p pos apos kpos : Pos} {e o : Expr} {es : List Expr} {ta te : TE} {t : TA}
theorem pe_m {pl : Sem Bool} (c : Cls X.K C) (Z : CalleeM X.prog X.w X.K X.mg X.base k C m ps dvs kb sp) (hr : Room n X.A) (he : PE X o ta) (ha : PA X (e :: es) t) (hk : k ≤ n := by decide)
    (hst : starEach (e :: es) X.env = (false, eval e X.env) :: starEach es X.env := by rfl) (hpl : (backTo pos (starEach es X.env)).any (·.1) = false := by rfl)
    (ht : eval (.Call (.Attribute o m apos) (e :: es) [] pos) X.env = (do
      let ov ← eval o X.env
      standAt apos.atName
      let (f, first) ← holding [ov] (getMethod ov m pl)
      callWith pos f first (backTo pos (starEach (e :: es) X.env)) (backToKw pos (keywordEach [] X.env))) := by rfl) :
    PE X (.Call (.Attribute o m apos) (e :: es) [] pos) (tMeth C m sp [] E0 ta t) := by
  obtain ⟨f, fd, F, mt, hkb, b⟩ := Z.ex
  obtain ⟨ds, hv, hb⟩ := b dvs.length (Nat.le_refl _)
  rw [List.drop_length] at hv
  cases hv
  exact pe_meth (pl := pl) he c mt F (hr.mono hk) hb .nil pass0 ha hst hpl ht
theorem pe_fldK (K : PySem.W.Frag) {f : Str} (he : PE X e ta) (hK : X.K = K := by rfl) (hb : attributeBase e f X.env (eval e X.env) = eval e X.env := by rfl) : PE X (.Attribute e f pos) (tFld K ta f) := hK ▸ pe_fld he hb
theorem kit_own {K : PySem.W.Frag} {C D : Addr} (hc : PySem.W.isClsIn K D = true) (ht : PySem.W.typeIn K (.ref D) = some (.type "type")) (hs : PySem.W.subIn K (.ref C) (.ref D) = some true) : PySem.W.kitOne K (.ref C) (.ref D) = some true := by
  unfold PySem.W.kitOne
  split
  · rfl
  · show (if ((PySem.W.clsIn K D).isSome && PySem.W.typeIn K (.ref D) == some (.type "type")) = true then PySem.W.subIn K (.ref C) (.ref D) else none) = some true
    rw [if_pos (by rw [show (PySem.W.clsIn K D).isSome = true from hc, ht]; rfl), hs]
end
end L2
namespace L2
open PySem PySem.Spec PyProof.Rows
structure Fly (fs : List Addr) (H1 H2 : Hp) (h1 B h2 : Heap) : Prop where
  kp : ∀ b o, h1.get? b = some o → b ∉ fs → (∃ o', B.get? b = some o') ∧ (H1 b = none → B.get? b = some o)
  sl : ∀ b o, h1.get? b = some o → b ∈ fs → ∃ sl, h2.get? b = some { o with slots := sl }
  free : ∀ b o, h1.get? b = some o → H1 b = none → H2 b = none
  tups : ∀ b xs, H1 b = some (.tup xs) → H2 b = some (.tup xs)
  frzs : ∀ b o u, H1 b = some (.frz o u) → H2 b = some (.frz o u)
  tbls : ∀ b ps, H1 b = some (.tbl ps) → ∃ more, H2 b = some (.tbl (ps ++ more))
theorem Fly.after {fs fs' : List Addr} {H0 H1 H2 : Hp} {h0 h1 B h2 : Heap} (u : Un fs [] H0 H1 h0 h1) (f : Fly fs' H1 H2 h1 B h2) (hL : ∀ b o, h0.get? b = some o → b ∉ fs → b ∉ fs') (hs : ∀ b ∈ fs, b ∈ fs') (hf : ∀ b ∈ fs, H0 b = none) :
    Fly fs H0 H2 h0 B h2 where
  kp := fun b o e hb => by
    obtain ⟨o1, e1⟩ := u.there b o e (by simp)
    refine ⟨(f.kp b o1 e1 (hL b o e hb)).1, fun n => ?_⟩
    exact (f.kp b o (u.keep b o e n hb (by simp)) (hL b o e hb)).2 (u.free b o e n (by simp))
  sl := fun b o e hb => by
    obtain ⟨s1, q1⟩ := u.slot b o e (hf b hb) hb (by simp)
    obtain ⟨s2, q2⟩ := f.sl b _ q1 (hs b hb)
    exact ⟨s2, q2⟩
  free := fun b o e n => by
    obtain ⟨o1, e1⟩ := u.there b o e (by simp)
    exact f.free b o1 e1 (u.free b o e n (by simp))
  tups := fun b xs e => f.tups b xs (u.tups b xs e)
  frzs := fun b o x e => f.frzs b o x (u.frzs b o x e)
  tbls := fun b ps e => by
    obtain ⟨m1, e1⟩ := u.tbls b ps e
    obtain ⟨m2, e2⟩ := f.tbls b _ e1
    exact ⟨m1 ++ m2, by rw [e2, Array.append_assoc]⟩
def CXE (P : Program) (w : World) : CXT := fun outer H s E e s' => ∃ (ea C : Addr) (a0 : Value) (B : Heap) (H' : Hp),
  e = .ref ea ∧ s'.os = s.os ∧ AllBare s'.gens ∧ Heap.FlyingW B outer ea (.ref C) a0 s'.heap ∧ Fly (frs outer) H H' s.heap B s'.heap ∧ HOk P w H' B ∧ E (.ref C) none H'
def Lets (X : Cx) (E : XK) : Prop := ∀ (pins : List (Addr × Obj)) (σ : St) (H : Hp) (s : Shared) (C e : Addr) (h' : Heap) (args : List Value), Inv X pins σ H s → Heap.MadeExcOf s.heap h' e (.ref C) args → E (.ref C) none H → X.xe (.ref e) { s with heap := h' }
def PassS (X : Cx) (E : St → XK) : Prop := ∀ (pins : List (Addr × Obj)) (σ : St) (H : Hp) (s : Shared) (e : Value) (s' : Shared), Inv X pins σ H s → CXE X.prog X.w X.stack H s (E σ) e s' → X.xe e s'
section
variable {P : Program} {w : World} {K : PySem.W.Frag} {mg : Str → Option Value} {base : Heap} {N : List Str} {qual : Str} {scope : Scope} {f : Addr} {cd : Value} {A : Around} {outer : List Env} {s : Shared} {H : Hp} {E : XK}
theorem frs_cons {env : Env} {L : Addr} {l : List Env} (h : env.frame = some L) : frs (env :: l) = L :: frs l := by unfold frs; rw [List.filterMap_cons, h]
theorem lets_cx : Lets (cxOf (CXE P w) P w K mg base N qual scope f cd A outer s H E) E := by
  intro pins σ H1 s1 C e h' args I hx hE
  show wpAny _ _ (leaving _ (.ref e)) _ _ _
  have fr : frs (cxOf (CXE P w) P w K mg base N qual scope f cd A outer s H E).stack = s.heap.objs.size :: frs outer := frs_cons rfl
  have hin : ∀ env ∈ (cxOf (CXE P w) P w K mg base N qual scope f cd A outer s H E).stack, ∀ a, env.frame = some a → a ∈ frs (cxOf (CXE P w) P w K mg base N qual scope f cd A outer s H E).stack := fun env he b hb => List.mem_filterMap.mpr ⟨env, he, hb⟩
  have frees := I.stkFree
  have stk := I.stack
  refine wpAny_leaves_madeW (base := PySem.W.hideAll s1.heap (frs (cxOf (CXE P w) P w K mg base N qual scope f cd A outer s H E).stack)) (h := s1.heap) I.ok.frames rfl (fun b o q => PySem.W.of_hideAll _ q) (PySem.W.funFrames_hide stk hin) hx fun h'' t fl _ _ up => ?_
  have f2 : Fly (frs (cxOf (CXE P w) P w K mg base N qual scope f cd A outer s H E).stack) H1 H1 s1.heap (PySem.W.hideAll s1.heap (frs (cxOf (CXE P w) P w K mg base N qual scope f cd A outer s H E).stack)) h'' :=
    ⟨fun b o e1 hb => ⟨⟨o, PySem.W.hideAll_get _ e1 hb⟩, fun _ => PySem.W.hideAll_get _ e1 hb⟩, fun b o e1 hb => up b o (hx.keeps b o e1) (by
      obtain ⟨_, o', q, d⟩ := stk.mem hb
      rw [e1] at q; cases q; exact d), fun _ _ _ n => n, fun _ _ q => q, fun _ _ _ q => q, fun _ ps q => ⟨#[], by rw [q]; simp⟩⟩
  refine ⟨e, C, _, _, H1, rfl, I.os, I.bare, fl, f2.after (u := I.base) (fun b o e1 hb => ?_) (fun b hb => by rw [fr]; exact List.mem_cons_of_mem _ hb) I.ok.frf, fun b u e1 => ?_, hE⟩
  · rw [fr]
    intro z
    rcases List.mem_cons.mp z with z | z
    · exact absurd (Heap.lt_size e1) (by rw [z]; exact Nat.lt_irrefl _)
    · exact hb z
  · refine (I.hok b u e1).stay (fun c v hc q => PySem.W.hideAll_get _ q fun hm => ?_) (fun _ q => q) fun _ _ q => q
    have hn := frees c hm
    rcases hc with z | z
    · rw [z] at hn; rw [e1] at hn; cases hn
    · rw [z] at hn; cases hn
end
end L2
namespace L2
open PySem PySem.Spec PyProof.Rows
structure CalleeE (P : Program) (w : World) (K : PySem.W.Frag) (mg : Str → Option Value) (base : Heap) (k : Nat) (x : Str) (ps : List Str) (dvs : List V) (sp : Sp) : Prop where
  ex : ∃ (f : Addr) (fd : FuncData), FnOk P w K mg base (CXE P w) k f fd ps sp ∧ (∀ m, m ≤ dvs.length → ∃ ds, Vals (dvs.drop m) ds ∧ Binds K fd ps ds) ∧ PySem.W.keepIn K (.ref f) = true ∧ mg x = some (.ref f)
section
variable {P : Program} {w : World} {K : PySem.W.Frag} {mg : Str → Option Value} {base : Heap}
theorem Def.okE {x : Str} {st : Stmt} {N ps : List Str} {k : Nat} {sp : Sp} (D : Def K mg x st ps) (S : FnScope N ps (defScope st)) (len : ∀ vs H Q E, sp vs H Q E → vs.length = ps.length)
    (hbody : ∀ (f : Addr) (cdv : Value) (A : Around) (outer : List Env) (s : Shared) (H : Hp) (vs : List V) (Q : VK) (E : XK), Room k (A.deeper (envOfC x (defScope st) s.heap.objs.size f cdv)) → sp vs H Q E →
      ∃ t, PSs (cxOf (CXE P w) P w K mg base N x (defScope st) f cdv A outer s H E) (defBody st) t ∧ t { nx := fun _ H' => Q .non H', rt := Q } (start N vs) H) : CalleeE P w K mg base (k + 1) x ps [] sp := by
  obtain ⟨f, fd, ⟨⟨oc, od, kV, doc, pm, an, cdv, ct, osl, rfl, lk, hcd⟩, kp⟩, b, m⟩ := D.ex
  refine ⟨f, _, fn_of lk hcd S len fun A outer s H vs Q E hr hsp => hbody f cdv A outer s H vs Q E hr hsp, fun j hj => ⟨[], ?_, b⟩, kp, m⟩
  rw [List.drop_nil]; exact .nil
end
def tCallS (sp : Sp) (dvs : List V) (E : St → XK) (t : TA) : TE := fun σ H Q => t σ H fun vs H1 => sp (vs ++ dvs) H1 Q (E σ)
section
variable {X : Cx} {k n : Nat} {ps : List Str} {dvs : List V} {sp : Sp} {x : Str} {p pos : Pos} {e : Expr} {es : List Expr} {t : TA} {E : St → XK}
theorem run_fnE {f : Addr} {fd : FuncData} {ds : List Value} {pins : List (Addr × Obj)} {σ : St} {H : Hp} {s : Shared} {Q : VK} {us : List Value} {vs : List V} (F : FnOk X.prog X.w X.K X.mg X.base (CXE X.prog X.w) k f fd ps sp) (hr : Room k X.A) (hb : Binds X.K fd ps ds) (hd : Vals dvs ds) (hx : PassS X E)
    (I : Inv X pins σ H s) (r : Vals vs us) (h : sp (vs ++ dvs) H Q (E σ)) : wpAny (model X.prog X.w) X.A (call (.ref f) us) (EP X pins σ Q) X.xe s := by
  have r2 : Vals (vs ++ dvs) (us ++ ds) := r.append hd
  have hl : (us ++ ds).length = ps.length := by rw [← r2.length]; exact F.len _ _ _ _ h
  refine wpAny_call (codeAny_mono (F.run X.A X.stack s H ⟨us, []⟩ (us ++ ds) (vs ++ dvs) Q (E σ) hr I.env0 (hb s us I.kIn hl) r2 h) fun r s' hq => ?_)
  cases r with
  | error e => exact hx pins σ H s e s' I hq
  | ok fl =>
    cases fl with
    | ret u => exact I.after hq
    | next => exact False.elim hq
    | brk => exact False.elim hq
    | cont => exact False.elim hq
theorem pe_fnE (m : Nat) (C : CalleeE X.prog X.w X.K X.mg X.base k x ps dvs sp) (hx : PassS X E) (hr : Room n X.A) (hg : Gl X x) (ha : PA X (e :: es) t) (hm : m ≤ dvs.length := by decide) (hk : k ≤ n := by decide) (hdb : (x == ("__debug__" : Str)) = false := by decide)
    (he : starEach (e :: es) X.env = (false, eval e X.env) :: starEach es X.env := by rfl) (hpl : (backTo pos (starEach es X.env)).any (·.1) = false := by rfl) :
    PE X (.Call (.Name x p) (e :: es) [] pos) (tCallS sp (dvs.drop m) E t) := by
  obtain ⟨f, fd, F, b, kp, mm⟩ := C.ex
  obtain ⟨ds, hv, hb⟩ := b m hm
  intro pins s σ H Q I h
  refine wpAny_Call_Name_kw (ld_glob I hg mm ?_ hdb)
  refine PySem.W.callWith_K (h₀ := X.base) I.ok.mod.kin kp (thn (ha pos pins s σ H _ I h) fun us s1 ⟨vs, H1, I1, r, q⟩ => ⟨I1.kIn, ?_⟩) he hpl
  exact run_fnE F (hr.mono hk) hb hv hx I1 r q
end
def vErr : List Value := [.type "ValueError", .type "Exception", .type "BaseException", .type "object"]
structure ExcC (K : PySem.W.Frag) (mg : Str → Option Value) (x : Str) (C : Addr) : Prop where
  mg : mg x = some (.ref C)
  exc : PySem.W.excIn K C vErr "ValueError.__new__" = true
theorem ExcC.own {K : PySem.W.Frag} {mg : Str → Option Value} {x : Str} {C : Addr} {h : Heap} (M : ExcC K mg x C) (X : K.In h) : OwnCls x C vErr "ValueError.__new__" mg h := by
  refine ⟨M.mg, ?_⟩
  have q := M.exc
  unfold PySem.W.excIn at q
  split at q
  · rename_i dd cd sl ho
    split at q
    · rename_i C' bm k0 k1 k2 k3 n k5 hm hs
      simp only [Bool.and_eq_true, beq_iff_eq, Bool.not_eq_true'] at q
      obtain ⟨⟨⟨⟨⟨rfl, rfl⟩, hdel⟩, ht⟩, hok⟩, hni⟩ := q
      obtain ⟨nm, bs, mro, ns, qn, hd, sn, sub, ab, col, del⟩ := cd
      dsimp only at hm hdel hok hni
      subst hm hdel
      have hsl : sl = #[k0, k1, k2, k3, some (.builtin "ValueError.__new__"), k5] := by
        obtain ⟨l⟩ := sl
        simp only at hs
        rw [hs]
      subst hsl
      exact ⟨bm, ns, nm, qn, bs, hd, sn, sub, ab, col, dd, k0, k1, k2, k3, k5, _, X _ _ ho, .of_isNs (PySem.W.isNs_of_in X hok), PySem.W.nsMap_none_of_in X hok hni, PySem.W.tail_of_in X ht⟩
    · cases q
  · cases q
section
variable {X : Cx} {C : Addr} {x : Str} {E : XK} {np cpos pos : Pos} {e : Expr} {ta : TE}
def tRaise (C : Addr) (E : XK) (ta : TE) : TS := fun _ σ H => ta σ H fun _ H1 => E (.ref C) none H1
theorem ps_raise (hl : Lets X E) (M : ExcC X.K X.mg x C) (hh : X.A.handled = none) (hg : Gl X x) (ha : PE X e ta) (hdb : (x == ("__debug__" : Str)) = false := by decide)
    (he : starEach [e] X.env = (false, eval e X.env) :: starEach [] X.env := by rfl) : PS X (.Raise (some (.Call (.Name x np) [e] [] cpos)) none pos) (tRaise C E ta) := by
  intro pins s σ H D I h
  obtain ⟨tl, N, nm, q, bs, hdct, sn, sub, ab, col, dd, k0, k1, k2, k3, k5, mN, hC, hN, hni, T⟩ := (M.own I.ok.mod.kin).obj
  refine wpAny_Raise_call_subT (C := C) (nm := nm) (q := q) (N := N) (bs := bs) (bm := tl) (hdct := hdct) (sn := sn) (sub := sub) (ab := ab) (col := col) (dd := dd) (k0 := k0) (k1 := k1) (k2 := k2) (k3 := k3) (k5 := k5)
    PySem.F.excBase_ValueError (mN := mN) (T.hasType PySem.F.excBase_ValueError.hasBase) hh (by rw [he]; rfl) hni (ld_glob I hg M.mg ⟨rfl, ?_⟩ hdb)
  rw [he]
  refine Calls.evalArgs_plain ?_
  show wpAny _ _ (spliced ((false, eval e X.env) :: backTo cpos (starEach [] X.env))) _ _ s
  refine Calls.spliced_cons (thn (ha pins s σ H _ I h) fun u s2 ⟨v, H2, I2, r, q⟩ => ?_)
  have hk := I2.bk
  exact Calls.spliced_nil ⟨rfl, (by show 1 ≤ sizeLine; decide), hk _ _ hC, hN.keeps hk, T.keeps hk, fun h' e' hm => hl pins σ H2 s2 C e' h' _ I2 hm q⟩
end
end L2
namespace L2
open PySem PySem.Spec PyProof.Rows
open PySem.W (Looks)
open PySem.Builtin PySem.Builtin.ObjectAttr PySem.Builtin.Getset_descriptor
structure ExcX (K : PySem.W.Frag) (C : Addr) : Prop where
  ga : PySem.W.findIn K (.ref C) "__getattribute__" = some (some (.builtin "BaseException.__getattribute__"))
  gn : PySem.W.findIn K (.ref C) "__getattr__" = some none
  cl : PySem.W.findIn K (.ref C) "__class__" = some (some (.builtin "object.__class__"))
  gt : PySem.W.specialIn K (.builtin "object.__class__") "__get__" = some (some (.builtin "getset_descriptor.__get__"))
  tk : PySem.W.takesIn K (.builtin "object.__class__") = some true
  mo : PySem.W.mroIn K C (.type "object") = some true
  mb : PySem.W.mroIn K C (.type "BaseException") = some true
  cs : (PySem.W.clsIn K C).isSome = true
end L2
namespace L2
open PySem PySem.Spec PyProof.Rows PySem.SeqAt
section
variable {K : PySem.W.Frag} {C D : Addr}
theorem kit_val (hs : PySem.W.subIn K (.ref C) (.type "ValueError") = some true) : PySem.W.kitOne K (.ref C) (.type "ValueError") = some true := by
  unfold PySem.W.kitOne
  split
  · rfl
  · show (if PySem.W.kitMeta "ValueError" = true then PySem.W.subIn K (.ref C) (.type "ValueError") else none) = some true
    rw [if_pos (by decide +kernel), hs]
theorem exm_own (hc : PySem.W.isClsIn K D = true) (ht : PySem.W.typeIn K (.ref D) = some (.type "type")) (hs : PySem.W.subIn K (.ref C) (.ref D) = some true) (hb : PySem.W.subIn K (.ref D) (.type "BaseException") = some true) : PySem.W.exmOne K (.ref C) (.ref D) = some true := by
  unfold PySem.W.exmOne
  rw [if_pos (by rw [hb]; rfl)]
  show (if ((PySem.W.clsIn K D).isSome && PySem.W.typeIn K (.ref D) == some (.type "type")) = true then PySem.W.subIn K (.ref C) (.ref D) else none) = some true
  rw [if_pos (by rw [show (PySem.W.clsIn K D).isSome = true from hc, ht]; rfl), hs]
end
end L2
namespace L2
open PySem PySem.Spec PyProof.Rows
section
variable {X : Cx}
theorem pass_no : PassS X (fun _ => E0) := fun _ _ _ _ _ _ _ ⟨_, _, _, _, _, _, _, _, _, _, _, z⟩ => z.elim
end
end L2
open PySem
namespace L2
variable {X : Cx}
end L2
namespace L2
open PySem PySem.Spec PyProof.Rows PySem.W
section
variable {X : Cx} {C : Addr} {x : Str} {p pos : Pos} {e : Expr} {ta tb : TE}
def tEith (ta tb : TE) : TE := fun σ H Q => ta σ H Q ∨ tb σ H Q
theorem pe_either (ha : PE X e ta) (hb : PE X e tb) : PE X e (tEith ta tb) := fun pins s σ H Q I h => h.elim (ha pins s σ H Q I) (hb pins s σ H Q I)
end
section
variable {X : Cx} {C : Addr} {x : Str} {p pos : Pos} {e : Expr} {es : List Expr} {t : TA} {k n : Nat} {ps : List Str} {dvs : List V} {kb : FuncData → Prop} {sp : Sp}
theorem pe_newA (Z : CalleeM X.prog X.w X.K X.mg X.base k C "__init__" ps dvs kb sp) (M : Made X.K X.mg x C) (hr : Room n X.A) (hg : Gl X x) (ha : PA X (e :: es) t) (hk : k + 1 ≤ n := by decide) (hdb : (x == ("__debug__" : Str)) = false := by decide)
    (he : starEach (e :: es) X.env = (false, eval e X.env) :: starEach es X.env := by rfl) (hpl : (backTo pos (starEach es X.env)).any (·.1) = false := by rfl) :
    PE X (.Call (.Name x p) (e :: es) [] pos) (tMake C sp [] E0 t) := by
  obtain ⟨f, fd, F, mt, hkb, b⟩ := Z.ex
  obtain ⟨ds, hv, hb⟩ := b dvs.length (Nat.le_refl _)
  rw [List.drop_length] at hv
  cases hv
  exact pe_make ⟨M.makes, mt.at_, mt.fn, M.kp⟩ F (hr.mono hk) hg M.mg hb .nil pass0 ha hdb he hpl
end
end L2
namespace L2
open PySem PySem.Spec PyProof.Rows PyProof
section
variable {X : Cx} {k n : Nat} {C : Addr} {ps : List Str} {dvs : List V} {kb : FuncData → Prop} {sp : Sp} {x m : Str} {p pos apos kpos : Pos} {e o : Expr} {es : List Expr} {ta te : TE} {t : TA} {E : St → XK}
theorem pe_m0 {pl : Sem Bool} (c : Cls X.K C) (Z : CalleeM X.prog X.w X.K X.mg X.base k C m ps dvs kb sp) (hr : Room n X.A) (he : PE X o ta) (hk : k ≤ n := by decide)
    (ht : eval (.Call (.Attribute o m apos) [] [] pos) X.env = (do
      let ov ← eval o X.env
      standAt apos.atName
      let (f, first) ← holding [ov] (getMethod ov m pl)
      callWith pos f first (backTo pos (starEach [] X.env)) (backToKw pos (keywordEach [] X.env))) := by rfl) :
    PE X (.Call (.Attribute o m apos) [] [] pos) (tMeth C m sp [] E0 ta tNil) := by
  obtain ⟨f, fd, F, mt, hkb, b⟩ := Z.ex
  obtain ⟨ds, hv, hb⟩ := b dvs.length (Nat.le_refl _)
  rw [List.drop_length] at hv
  cases hv
  exact pe_meth0 (pl := pl) he c mt F (hr.mono hk) hb .nil pass0 ht
end
end L2
namespace L2
open PySem PySem.Spec PyProof.Rows
def cxLam (X : Cx) (q : Str) (scope : Scope) (cl : List (Str × Addr)) (f c : Addr) (N : List Str) (A : Around) (s : Shared) (H : Hp) : Cx where
  prog := X.prog
  w := X.w
  K := X.K
  mg := X.mg
  base := X.base
  A := A.deeper (PySem.W.envX q scope s.heap.objs.size f (.ref c) cl)
  N := N
  s₀ := s
  H₀ := H
  env := PySem.W.envX q scope s.heap.objs.size f (.ref c) cl
  outer := X.stack
  stack := PySem.W.envX q scope s.heap.objs.size f (.ref c) cl :: X.stack
  ex := []
  calm := true
  fn := fun _ => false
  pn := []
  xe := fun _ _ => False
structure LamScope (N : List Str) (osc scope : Scope) (p : Str) (fr : List (Nat × Str)) : Prop where
  kind : scope.kind = .function
  co : scope.isCoroutine = false
  gen : scope.isGenerator = false
  nocell : ∀ y ∈ scope.names, y.2 ≠ .cell
  loc : scope.names.lookup p = some .local
  free : ∀ y ∈ scope.names, y.2 = .free → osc.names.lookup y.1 = some .cell ∨ osc.names.lookup y.1 = some .free
  slot : ∀ z ∈ fr, N[z.1]? = some z.2 ∧ scope.names.lookup z.2 = some .free
def lamStart (x : V) (fr : List (Nat × Str)) (σ : St) : St := some x :: fr.map fun z => (σ[z.1]?).join
section
variable {X : Cx} {pins : List (Addr × Obj)} {σ : St} {H : Hp} {s : Shared} {scope : Scope} {p q : Str} {fr : List (Nat × Str)} {cl : List (Str × Addr)} {f c : Addr} {A : Around} {x : V} {u : Value}
theorem inv_lam {h1 : Heap} {t' : Nat} (S : LamScope X.N X.env.scope scope p fr) (I : Inv X pins σ H s) (hA : A.frames = some X.stack) (hh : A.handled = none)
    (hcl : ∀ x c, cl.lookup x = some c → X.env.cells.lookup x = some c) (hcl2 : ∀ x, (x, NameKind.free) ∈ scope.names → ∃ c, cl.lookup x = some c)
    (k : ∀ b o, s.heap.get? b = some o → h1.get? b = some o) (hn : h1.Ns s.heap.objs.size (fun y => [(p, u)].reverse.lookup y)) (rx : RelV x u) :
    Inv (cxLam X q scope cl f c (p :: fr.map (·.2)) A s H) [] (lamStart x fr σ) H { s with heap := h1, toks := t' } := by
  have okX := I.ok
  refine ⟨⟨okX.mod, S.kind, rfl, rfl, Nat.le_refl _, fun x y c e1 e2 => okX.inj x y c (hcl x c e1) (hcl y c e2), fun y hy => ?_, (fun y c z => nomatch z), fun _ => hh, Around.frames_deeper hA, .inr ⟨rfl, rfl⟩, (fun b z => absurd (show b ∈ ([] : List Addr) from z) (by simp)), I.bs, Nat.le_trans okX.bsz I.sz, (fun b _ _ z => absurd (show b ∈ ([] : List Addr) from z) (by simp)), (fun b z => absurd (show b ∈ ([] : List Addr) from z) (by simp)), I.stack, I.stkFree⟩,
    rfl, I.bare, Un.kept k, ⟨_, hn, fun i y v h1' h2 h3 => ?_⟩, fun y c e => ?_, I.hok.fresh (Nat.le_refl _), fun y c e => I.freeC y c (hcl y c e), (fun p hp => absurd (show p ∈ ([] : List (Addr × Obj)) from hp) (by simp)), I.hok.kept k, ?_⟩
  · have hy : scope.names.lookup y = some .cell ∨ scope.names.lookup y = some .free := hy
    rcases hy with hy | hy
    · exact absurd rfl (S.nocell _ (PySem.mem_of_lookup hy))
    · exact hcl2 y (PySem.mem_of_lookup hy)
  · cases i with
    | zero =>
      have e1 : p = y := Option.some.inj h1'
      have e2 : x = v := Option.some.inj (Option.some.inj h2)
      subst e1 e2
      refine ⟨u, rx, .inl ⟨S.loc, ?_⟩⟩
      show List.lookup p [(p, u)] = some u
      rw [List.lookup_cons, beq_self_eq_true]
    | succ j =>
      have h1' : (fr.map (·.2))[j]? = some y := h1'
      have h2 : (fr.map fun z => (σ[z.1]?).join)[j]? = some (some v) := h2
      rw [List.getElem?_map] at h1' h2
      cases e : fr[j]? with
      | none => rw [e] at h1'; cases h1'
      | some z =>
        rw [e] at h1' h2
        have e1 : z.2 = y := Option.some.inj h1'
        have e2 : (σ[z.1]?).join = some v := Option.some.inj h2
        obtain ⟨hs1, hs2⟩ := S.slot z (List.mem_of_getElem? e)
        rw [e1] at hs1 hs2
        have e3 : σ[z.1]? = some (some v) := by
          cases w : σ[z.1]? with
          | none => rw [w] at e2; cases e2
          | some w' => rw [w] at e2; exact congrArg some e2
        obtain ⟨mX, hnX, hlX⟩ := I.loc
        have hfr := S.free (y, .free) (PySem.mem_of_lookup hs2) rfl
        have hvis : Vis X.env.scope y := hfr.elim (fun z => .inr (.inl z)) fun z => .inr (.inr z)
        obtain ⟨w, rw', lk⟩ := hlX z.1 y v hs1 e3 hvis
        refine ⟨w, rw', ?_⟩
        rcases lk with ⟨l1, _⟩ | ⟨_, c', l2, l3⟩
        · have l1 : X.env.scope.names.lookup y = some .local := l1
          rcases hfr with z | z <;> (rw [l1] at z; cases z)
        · obtain ⟨c2, m1⟩ := hcl2 y (PySem.mem_of_lookup hs2)
          have := hcl y c2 m1
          rw [l2] at this
          cases this
          obtain ⟨o, ho, hd⟩ := l3
          exact .inr ⟨.inr hs2, c', m1, o, k _ _ ho, hd⟩
  · obtain ⟨v, o, ho, hd⟩ := I.cell y c (hcl y c e)
    exact ⟨v, o, k _ _ ho, hd⟩
  · show (some x :: fr.map fun z => (σ[z.1]?).join).length = (p :: fr.map (·.2)).length
    rw [List.length_cons, List.length_cons, List.length_map, List.length_map]
theorem lam_call {name : Str} {params : Arguments} {body : Expr} {pm ctv : Value} {te : TE} {Qy : V → Prop} (S : LamScope X.N X.env.scope scope p fr) (I : Inv X pins σ H s) (hA : A.frames = some X.stack) (hh : A.handled = none) (hroom : A.depth < recursionLimit)
    (ho : s.heap.get? f = some (PySem.W.kla_obj name q params body scope cl pm c ctv)) (hc : s.heap.CodeRec (.ref c) q)
    (hb : PE (cxLam X q scope cl f c (p :: fr.map (·.2)) A s H) body te)
    (hbind : ∀ v : Value, bindArgs (PySem.W.kla_fn name q params body scope cl pm (.ref c) ctv) ⟨[v], []⟩ = pure [(p, v)])
    (hcl : ∀ x c, cl.lookup x = some c → X.env.cells.lookup x = some c) (hcl2 : ∀ x, (x, NameKind.free) ∈ scope.names → ∃ c, cl.lookup x = some c)
    (rx : RelV x u) (ht : te (lamStart x fr σ) H fun y H' => H' = H ∧ Qy y) :
    wpAny (model X.prog X.w) A (call (.ref f) [u]) (fun r s' => Inv X pins σ H s' ∧ ∃ y, RelV y r ∧ Qy y) (fun _ _ => False) s := by
  refine wpAny_call (PySem.W.kla_callFunE hroom ho rfl S.co S.gen rfl hc ?_)
  rw [hbind]
  refine wpAny_pure (wpAny_newFunctionEnv S.nocell (fun y hy => by rw [List.mem_singleton.mp hy]; exact S.loc) (fun h₁ hns hsb => ⟨(I.nolimit).fresh _ hsb, ?_⟩) S.kind)
  have k : ∀ b o, s.heap.get? b = some o → h₁.get? b = some o := fun b o e => hsb.extBut b o (Nat.ne_of_lt (Heap.lt_size e)) (Heap.get?_push_of_some _ e)
  have J := inv_lam (q := q) (f := f) (c := c) (A := A) (t' := s.toks + 1) S I hA hh hcl hcl2 k hns rx
  refine PySem.W.kla_codeExpr (wpAny_mono (hb [] _ _ H _ J ht) (fun r s' hs => ?_) fun e s' z => z.elim)
  obtain ⟨y, H', J', ry, rfl, qy⟩ := hs
  obtain ⟨y2, H2, I2, r2, rfl, q2⟩ := I.after (Q := fun y' H'' => H'' = H' ∧ Qy y') ⟨y, H', J'.os, J'.bare, J'.base, J'.hok, ry, rfl, qy⟩
  exact ⟨I2, y2, r2, q2⟩
end
def CodeO (c : Addr) (q : Str) : HO := .ext fun h => h.CodeRec (.ref c) q
def TabHas (H : Hp) (P : Addr) (pos : Pos) (q : Str) (c : Addr) : Prop := H P = some (.tbl #[rawInt pos.line, rawInt pos.col, .ref c]) ∧ H c = some (CodeO c q)
def TabIs (H : Hp) (P : Addr) (pos : Pos) (q : Str) : Prop := H P = some (.tbl #[]) ∨ ∃ c, TabHas H P pos q c
def ButT (P : Addr) (H H' : Hp) : Prop := ∀ b u, b ≠ P → H b = some u → H' b = some u
def BMain (mg : Str → Option Value) (h : Heap) : Prop := ∃ bm ob, mg "__builtins__" = some (.ref bm) ∧ bm ≠ builtinsNs ∧ h.get? bm = some ob ∧ ob.cls = .type "module" ∧ ob.dict = some builtinsNs ∧ ob.data = .plain
section
variable {X : Cx} {pins : List (Addr × Obj)} {σ : St} {H : Hp} {s : Shared} {scope : Scope} {pos : Pos} {params : Arguments} {body : Expr} {c0 P : Addr}
theorem codeO_ok {P : Program} {w : World} {H : Hp} {h : Heap} {c : Addr} {q : Str} (x : h.CodeRec (.ref c) q) : ObjOk P w H h c (CodeO c q) := by
  obtain ⟨c', o, vs, t, e, g, d, r⟩ := x
  cases e
  refine ⟨⟨c, o, vs, t, rfl, g, d, r⟩, ⟨o, g⟩, fun h1 h2 y k => ?_⟩
  obtain ⟨c2, o2, vs2, t2, e2, g2, d2, r2⟩ := y
  cases e2
  exact ⟨c, o2, vs2, t2, rfl, k _ g2, d2, r2⟩
theorem CodeO.of {P : Program} {w : World} {H : Hp} {h : Heap} {c : Addr} {q : Str} (hok : HOk P w H h) (e : H c = some (CodeO c q)) : h.CodeRec (.ref c) q := (hok c _ e).1
set_option maxHeartbeats 4000000 in
theorem lam_make (I : Inv X pins σ H s) (hcode : X.env.code = .ref c0) (hC : PySem.W.codeHdIn X.K c0 P = true) (hB : BMain X.mg X.base) (hT : TabIs H P pos (X.env.qual ++ "<lambda>"))
    (hdef : defaultsOf params X.env = ([], [])) (hcf : ∀ x, (x, NameKind.free) ∈ scope.names → ∃ c, X.env.cells.lookup x = some c) {Q : Value → Shared → Prop}
    (h : ∀ (f c : Addr) (cl : List (Str × Addr)) (pm ctv : Value) (H' : Hp) (s' : Shared), ButT P H H' → TabHas H' P pos (X.env.qual ++ "<lambda>") c → (∀ x c, cl.lookup x = some c → X.env.cells.lookup x = some c) → (∀ x, (x, NameKind.free) ∈ scope.names → ∃ c, cl.lookup x = some c) →
      Inv X ((f, PySem.W.kla_obj "<lambda>" (X.env.qual ++ "<lambda>") params body scope cl pm c ctv) :: pins) σ H' s' → Q (.ref f) s') :
    wpAny (model X.prog X.w) X.A (eval (.Lambda params body scope pos) X.env) Q X.xe s := by
  obtain ⟨cl, hcl, hcl1, hcl2⟩ := closure_ok (scope := scope) (env := X.env) hcf
  have C : PySem.W.CodeHd s.heap c0 P := PySem.W.codeHd_of_K I.kIn hC
  have hgs : s.heap.Ns mainGlobals X.mg := I.ok.mod.glob.keeps I.bk
  have hPn : H P ≠ none := by
    rcases hT with e | ⟨c, e, _⟩ <;> rw [e] <;> simp
  have neP : ∀ b o, X.base.get? b = some o → b ≠ P := fun b o e z => by
    have := (I.bs b o e).2
    rw [z] at this
    exact hPn this
  have hgP : mainGlobals ≠ P := by
    obtain ⟨o, es, ep, e, r⟩ := I.ok.mod.glob
    exact neP _ o e
  have hB2 : s.heap.BuiltinsAt X.mg P := by
    obtain ⟨bm, ob, b1, b2, b3, b4, b5, b6⟩ := hB
    refine ⟨bm, ob, b1, b2, fun z => ?_, neP _ _ b3, I.bk _ _ b3, b4, b5, b6⟩
    obtain ⟨o, es, ep, e, hd, _⟩ := I.ok.mod.glob
    rw [z, e] at b3
    cases b3
    rw [hd] at b6
    cases b6
  have nefs : ∀ {f : Addr}, s.heap.objs.size ≤ f → f ≠ X.env.locals ∧ f ∉ X.fs := fun hf => ⟨Nat.ne_of_gt (Nat.lt_of_lt_of_le I.lt hf), I.nofs hf⟩
  refine PySem.W.kla_eval hdef ?_
  rcases hT with hP | ⟨c, hP, hc⟩
  · have gP : s.heap.get? P = some (PySem.W.tabObj #[]) := I.hok P _ hP
    refine PySem.W.kla_makeFunction (mg := X.mg) (clos := cl) hcl I.ok.glob hgs hcode C gP trivial rfl hgP hB2 fun c' ctv h' tk hx hge hlt hrec htb => ?_
    rw [Array.empty_append] at htb
    have hc' : H c' = none := I.hok.fresh hge
    have nPc : P ≠ c' := fun z => by rw [z] at hP; rw [hP] at hc'; cases hc'
    have nb : ∀ b u, H b = some u → b ≠ c' := fun b u e z => by rw [z, hc'] at e; cases e
    have H1P : upd (upd H P (.tbl #[rawInt pos.line, rawInt pos.col, .ref c'])) c' (CodeO c' (X.env.qual ++ "<lambda>")) P = some (.tbl #[rawInt pos.line, rawInt pos.col, .ref c']) := by rw [upd_ne nPc, upd_same]
    have but : ButT P H (upd (upd H P (.tbl #[rawInt pos.line, rawInt pos.col, .ref c'])) c' (CodeO c' (X.env.qual ++ "<lambda>"))) := fun b u ne e => by rw [upd_ne (nb b u e), upd_ne ne]; exact e
    have J : Inv X pins σ (upd (upd H P (.tbl #[rawInt pos.line, rawInt pos.col, .ref c'])) c' (CodeO c' (X.env.qual ++ "<lambda>"))) { s with heap := h'.push (PySem.W.kla_obj "<lambda>" (X.env.qual ++ "<lambda>") params body scope cl ((X.mg "__name__").getD .none) c' ctv), gens := s.gens, drawn := s.drawn, toks := tk } := by
      refine I.step (ch := []) (fun _ z => nomatch z) (fun b o _ _ _ e n => ?_) (fun b o _ _ _ e n => ⟨o.slots, ?_⟩) (fun b o _ e n => ?_) (fun b o _ e => ?_) (fun b xs e => ?_) (fun b o u e => ?_) (fun b ps e => ?_) (fun m hm => ?_) (fun b u e => ?_) I.bare
      · exact Heap.get?_push_of_some _ (hx b o (fun z => hPn (z ▸ n)) e)
      · exact Heap.get?_push_of_some _ (hx b o (fun z => hPn (z ▸ n)) e)
      · have z : b ≠ P := fun z => hPn (z ▸ n)
        rw [upd_ne (Nat.ne_of_lt (Nat.lt_of_lt_of_le (Heap.lt_size e) hge)), upd_ne z]
        exact n
      · by_cases z : b = P
        · rw [z]
          exact ⟨_, Heap.get?_push_of_some _ htb⟩
        · exact ⟨o, Heap.get?_push_of_some _ (hx b o z e)⟩
      · exact but b _ (fun z => by rw [z, hP] at e; cases e) e
      · exact but b _ (fun z => by rw [z, hP] at e; cases e) e
      · by_cases z : b = P
        · rw [z, hP] at e
          cases e
          rw [z]
          exact ⟨#[rawInt pos.line, rawInt pos.col, .ref c'], by rw [H1P]; simp⟩
        · exact ⟨#[], by rw [but b _ z e]; simp⟩
      · obtain ⟨o, es, ep, e, r⟩ := hm
        exact ⟨o, es, ep, Heap.get?_push_of_some _ (hx _ o (fun z => hPn (by rw [← z]; exact I.free)) e), r⟩
      · by_cases z : b = c'
        · subst z
          rw [upd_same] at e
          cases e
          exact codeO_ok (hrec.push _)
        · rw [upd_ne z] at e
          by_cases z2 : b = P
          · subst z2
            rw [upd_same] at e
            cases e
            exact Heap.get?_push_of_some _ htb
          · rw [upd_ne z2] at e
            refine (I.hok b u e).stay (fun c v hc g => Heap.get?_push_of_some _ (hx c v (fun y => ?_) g)) (fun c hc => but c _ (fun y => ?_) hc) fun c xs hc => but c _ (fun y => ?_) hc
            · subst y
              rcases hc with rfl | hc
              · exact z2 rfl
              · rw [hP] at hc; cases hc
            · rw [y, hP] at hc; cases hc
            · rw [y, hP] at hc; cases hc
    refine h h'.objs.size c' cl ((X.mg "__name__").getD .none) ctv _ _ but ⟨H1P, upd_same⟩ hcl1 hcl2 (J.pins_of fun p hp => ?_)
    rcases List.mem_cons.mp hp with rfl | hp
    · have hsz : s.heap.objs.size ≤ h'.objs.size := Nat.le_of_lt (Nat.lt_of_le_of_lt hge hlt)
      obtain ⟨n1, n2⟩ := nefs hsz
      refine ⟨Heap.get?_push_size _ rfl, ?_, n1, n2, fun v z => by cases z⟩
      rw [upd_ne (Nat.ne_of_gt hlt), upd_ne (fun z => ?_)]
      · exact I.hok.fresh hsz
      · have := Heap.lt_size htb
        rw [← z] at this
        exact absurd this (Nat.lt_irrefl _)
    · exact J.pin p (List.mem_append_right _ hp)
  · have gP : s.heap.get? P = some (PySem.W.tabObj #[rawInt pos.line, rawInt pos.col, .ref c]) := I.hok P _ hP
    refine PySem.W.kla_makeFunctionHit (mg := X.mg) (clos := cl) (cv := .ref c) hcl I.ok.glob hgs hcode C gP trivial (by simp [codeAmong, rawInt]) hB2 fun ctv h' tk hk hsz => ?_
    have J : Inv X pins σ H { s with heap := h'.push (PySem.W.kla_obj "<lambda>" (X.env.qual ++ "<lambda>") params body scope cl ((X.mg "__name__").getD .none) c ctv), toks := tk } := I.kept fun b u e => Heap.get?_push_of_some _ (hk b u e)
    refine h h'.objs.size c cl ((X.mg "__name__").getD .none) ctv H _ (fun b u _ e => e) ⟨hP, hc⟩ hcl1 hcl2 (J.pins_of fun p hp => ?_)
    rcases List.mem_cons.mp hp with rfl | hp
    · obtain ⟨n1, n2⟩ := nefs hsz
      exact ⟨Heap.get?_push_size _ rfl, I.hok.fresh hsz, n1, n2, fun v z => by cases z⟩
    · exact J.pin p (List.mem_append_right _ hp)
end
end L2
namespace L2
open PySem PySem.Spec PyProof.Rows
theorem Inv.turnF {X : Cx} {pins : List (Addr × Obj)} {σ : St} {H : Hp} {s : Shared} {h' : Heap} {t' : Nat} {it : Addr} (I : Inv X pins σ H s) (F : FpOk X pins H it) (k : ∀ b o, b ≠ it → s.heap.get? b = some o → h'.get? b = some o) : Inv X pins σ H { s with heap := h', toks := t' } :=
  I.turned k F.1 F.2.1 F.2.2.2.1 F.2.2.2.2.1 F.2.2.2.2.2
end L2
namespace L2
open PySem PySem.Spec PyProof.Rows
section
variable {prog : Program} {w : World} {A : Around} {E : Value → Shared → Prop} {s : Shared}
theorem collect_tup {it : Addr} {vs : List Value} {Q : List Value → Shared → Prop} {o : Obj} {n : Nat} (ho : s.heap.get? it = some o) (hc : o.cls = .type "tuple") (hd : o.data = .seq vs.toArray n)
    (h : Q vs { s with heap := (s.heap.push (seqObj "list" #[] 0)).update s.heap.objs.size (Obj.mapSeq (· ++ vs.toArray)) }) (hsz : vs.length ≤ sizeLine) : wpAny (model prog w) A (collect (.ref it)) Q E s := by
  unfold collect
  refine wpAny_bind (wpAny_runValue (codeAny_builtin F.entry_proto_collect ?_))
  rw [Around.under_plainId F.plain_proto_collect _]
  show wpAny _ A.in1 (newList [] >>= fun l => again (.builtin "list.__iadd__" ⟨[l, .ref it], []⟩)) _ _ s
  refine wpAny_bind (wpAny_newObj_type ?_)
  refine wpAny_pure ⟨plainId_quiet F.plain_list_iadd _, codeAny_builtin F.entry_list_iadd ?_⟩
  rw [Around.under_plainId F.plain_list_iadd _]
  show wpAny _ A.in1 (Builtin.List.listExtendWith (.ref s.heap.objs.size) (.ref it) (.ref s.heap.objs.size)) _ _ _
  have hS : (s.heap.push (seqObj "list" #[] 0)).get? s.heap.objs.size = some (seqObj "list" #[] 0) := Heap.get?_push_size _ rfl
  have fin' : wpAny (model prog w) A (match Value.ref s.heap.objs.size with
      | Value.ref a => do
        match (← load a).data with
          | Data.seq xs _ => pure xs.toList
          | _ => unsupported "internal:collect"
      | _ => unsupported "internal:collect") Q E { s with heap := (s.heap.push (seqObj "list" #[] 0)).update s.heap.objs.size (Obj.mapSeq (· ++ vs.toArray)) } := by
    show wpAny _ A (load s.heap.objs.size >>= _) _ _ _
    refine wpAny_bind (wpAny_load (get?_update_seq hS _) ?_)
    show wpAny _ _ (pure ((#[] : Array Value) ++ vs.toArray).toList) Q E _
    rw [show ((#[] : Array Value) ++ vs.toArray).toList = vs by simp]
    exact wpAny_pure h
  refine wpAny_mono (wpAny_extend_seq (hsz := by simpa using hsz) (A := A) (R := fun r s' => r = .ok (.ret (.ref s.heap.objs.size)) ∧ s' = { s with heap := (s.heap.push (seqObj "list" #[] 0)).update s.heap.objs.size (Obj.mapSeq (· ++ vs.toArray)) })
    (s := { s with heap := s.heap.push (seqObj "list" #[] 0) }) _ it _ 0 (.inr rfl) hS (Heap.get?_push_of_some _ ho) hc hd ⟨rfl, rfl⟩) (fun fin s' h => ?_) (fun e s' h => ?_)
  · cases fin with
    | done f =>
      obtain ⟨e, rfl⟩ := h
      cases e
      exact fin'
    | again c' => exact ⟨h.1, codeAny_mono h.2 fun r s'' hr => by obtain ⟨rfl, rfl⟩ := hr; exact fin'⟩
  · exact absurd h.1 (by simp)
end
end L2
namespace L2
open PySem PySem.W PyProof.Rows
section
variable {r : Nat → Int}
def lx (r : Nat → Int) (a b : Nat) : Prop := r a < r b ∨ r a = r b ∧ a < b
abbrev at' (p : Array Nat) (i : Nat) : Nat := p.getD i 0
def UpS (r : Nat → Int) (p : Array Nat) (b : Nat) : Prop := ∀ i j, i < j → j < b → lx r (at' p i) (at' p j)
def Tl (p : Array Nat) (n : Nat) : Prop := (∀ i, i < n → at' p i < n) ∧ ∀ i, n ≤ i → i < p.size → at' p i = i
theorem UpS.up {p : Array Nat} {b : Nat} (h : UpS r p b) : Up r p b := fun i h0 hb => by
  rcases h (i - 1) i (by omega) hb with z | z
  · exact Int.le_of_lt z
  · exact Int.le_of_eq z.1
theorem Tl.succ {p : Array Nat} {n : Nat} (h : Tl p n) (hn : n < p.size) : Tl p (n + 1) := ⟨fun i hi => by
  rcases Nat.lt_or_eq_of_le (Nat.le_of_lt_succ hi) with z | z
  · exact Nat.lt_succ_of_lt (h.1 i z)
  · subst z; rw [h.2 i (Nat.le_refl _) hn]; omega, fun i hi hs => h.2 i (by omega) hs⟩
theorem Tl.rev {p : Array Nat} {n i j : Nat} (h : Tl p n) (hj : j ≤ n) (hn : n ≤ p.size) : Tl (kas_rev p i j) n := ⟨fun k hk => by
  show (kas_rev p i j).getD k 0 < n
  rw [getD_rev (by omega)]
  split
  · exact h.1 _ (by omega)
  · exact h.1 _ hk, fun k hk hs => by
  show (kas_rev p i j).getD k 0 = k
  rw [rev_size] at hs
  rw [getD_rev (by omega), if_neg (by omega)]
  exact h.2 k hk hs⟩
theorem sasc (p : Array Nat) : ∀ f n, 1 ≤ n → n + f ≤ p.size → UpS r p n → Tl p n → n ≤ ev (ltR r) (kas_asc p f n) ∧ ev (ltR r) (kas_asc p f n) ≤ n + f ∧ UpS r p (ev (ltR r) (kas_asc p f n)) ∧ Tl p (ev (ltR r) (kas_asc p f n)) ∧
    (ev (ltR r) (kas_asc p f n) < n + f → ky r p (ev (ltR r) (kas_asc p f n)) < ky r p (ev (ltR r) (kas_asc p f n) - 1)) := by
  intro f
  induction f with
  | zero => intro n h1 hz h t; exact ⟨Nat.le_refl _, Nat.le_refl _, h, t, fun q => absurd q (Nat.lt_irrefl _)⟩
  | succ f ih =>
    intro n h1 hz h t
    unfold kas_asc
    rw [ev_ask]
    by_cases c : r (p.getD n 0) < r (p.getD (n - 1) 0)
    · rw [ltR_t c, if_pos rfl]
      exact ⟨Nat.le_refl _, by show n ≤ n + (f + 1); omega, h, t, fun _ => c⟩
    · rw [ltR_f c, if_neg (by simp)]
      obtain ⟨q1, q2, q3, q5, q4⟩ := ih (n + 1) (by omega) (by omega) (fun i j hi hb => by
        rcases Nat.lt_or_eq_of_le (Nat.le_of_lt_succ hb) with z | z
        · exact h i j hi z
        · subst z
          have e1 := h.up.mono i (j - 1) (by omega) (by omega)
          have e2 : r (p.getD i 0) ≤ r (p.getD j 0) := Int.le_trans e1 (Int.not_lt.mp c)
          have e3 := t.1 i hi
          have e4 := t.2 j (Nat.le_refl _) (by omega)
          show r (p.getD i 0) < r (p.getD j 0) ∨ r (p.getD i 0) = r (p.getD j 0) ∧ p.getD i 0 < p.getD j 0
          simp only [at'] at e3 e4
          omega) (t.succ (by omega))
      exact ⟨by omega, by omega, q3, q5, fun z => q4 (by omega)⟩
structure Fall (r : Nat → Int) (p : Array Nat) (g n : Nat) : Prop where
  le : g ≤ n
  sz : n ≤ p.size
  tl : Tl p n
  a1 : ∀ i j, i < j → j < g → lx r (at' p j) (at' p i)
  a2 : ∀ i j, i < g → g ≤ j → j < n → r (at' p j) < r (at' p i)
  b : ∀ i j, g ≤ i → i < j → j < n → r (at' p i) = r (at' p j) ∧ at' p i < at' p j
theorem Fall.turn {p : Array Nat} {g n : Nat} (F : Fall r p g n) : Tl (kas_rev p g n) n ∧ ∀ i j, i < j → j < n → lx r (at' (kas_rev p g n) j) (at' (kas_rev p g n) i) := by
  refine ⟨F.tl.rev (Nat.le_refl _) F.sz, fun i j hij hj => ?_⟩
  show lx r ((kas_rev p g n).getD j 0) ((kas_rev p g n).getD i 0)
  rw [getD_rev F.sz, getD_rev F.sz]
  by_cases c1 : g ≤ i
  · rw [if_pos (by omega), if_pos (by omega)]
    have := F.b (g + n - 1 - j) (g + n - 1 - i) (by omega) (by omega) (by omega)
    exact .inr this
  · rw [if_neg (show ¬(g ≤ i ∧ i < n) by omega)]
    by_cases c2 : g ≤ j
    · rw [if_pos (by omega)]
      exact .inl (F.a2 i _ (by omega) (by omega) (by omega))
    · rw [if_neg (by omega)]
      exact F.a1 i j hij (by omega)
theorem Fall.one {p : Array Nat} {g n : Nat} (F : Fall r p g n) (h : n ≤ g + 1) : ∀ i j, i < j → j < n → lx r (at' p j) (at' p i) := fun i j hij hj => by
  by_cases c : g ≤ j
  · exact .inl (F.a2 i j (by omega) c hj)
  · exact F.a1 i j hij (by omega)
theorem Fall.low {p : Array Nat} {g n : Nat} (F : Fall r p g n) {i : Nat} (hi : i < n) : ky r p (n - 1) ≤ ky r p i := by
  show r (at' p (n - 1)) ≤ r (at' p i)
  by_cases c : g ≤ i
  · by_cases c2 : i = n - 1
    · rw [c2]; exact Int.le_refl _
    · exact Int.le_of_eq (F.b i (n - 1) c (by omega) (by omega)).1.symm
  · by_cases c2 : g ≤ n - 1
    · exact Int.le_of_lt (F.a2 i (n - 1) (by omega) c2 (by omega))
    · have := F.le
      by_cases c3 : i = n - 1
      · rw [c3]; exact Int.le_refl _
      · rcases F.a1 i (n - 1) (by omega) (by omega) with z | z
        · exact Int.le_of_lt z
        · exact Int.le_of_eq z.1
theorem fall_new {p : Array Nat} {n : Nat} (hs : n < p.size) (t : Tl p n) (h : ∀ i j, i < j → j < n → lx r (at' p j) (at' p i)) (low : ∀ i, i < n → r (at' p n) < r (at' p i)) : Fall r p n (n + 1) :=
  ⟨by omega, hs, t.succ hs, h, fun i j hi hj hb => by obtain rfl : j = n := by omega
                                                      exact low i hi, fun i j h1 h2 h3 => by omega⟩
theorem sdesc : ∀ (f : Nat) (p : Array Nat) (n q : Nat), q < n → n + f ≤ p.size → Fall r p (n - (q + 1)) n →
    ∃ p' n' q', ev (ltR r) (kas_desc f p n q) = (p', n', q') ∧ q' < n' ∧ n ≤ n' ∧ n' ≤ n + f ∧ p'.size = p.size ∧ p'.Perm p ∧ Fall r p' (n' - (q' + 1)) n' := by
  intro f
  induction f with
  | zero => intro p n q hq hz F; exact ⟨p, n, q, rfl, hq, Nat.le_refl _, Nat.le_refl _, rfl, Array.Perm.refl _, F⟩
  | succ f ih =>
    intro p n q hq hz F
    unfold kas_desc
    rw [ev_ask]
    by_cases c : r (p.getD n 0) < r (p.getD (n - 1) 0)
    · rw [ltR_t c, if_pos rfl]
      have step : ∀ p1 : Array Nat, p1.size = p.size → p1.Perm p → Fall r p1 n (n + 1) → ∃ p' n' q', ev (ltR r) (kas_desc f p1 (n + 1) 0) = (p', n', q') ∧ q' < n' ∧ n ≤ n' ∧ n' ≤ n + (f + 1) ∧ p'.size = p.size ∧ p'.Perm p ∧ Fall r p' (n' - (q' + 1)) n' := fun p1 s1 pm F1 => by
        obtain ⟨p', n', q', e, a1, a2, a3, a4, a5, a6⟩ := ih p1 (n + 1) 0 (by omega) (by omega) F1
        exact ⟨p', n', q', e, a1, by omega, by omega, a4.trans s1, a5.trans pm, a6⟩
      have low : ∀ i, i < n → r (at' p n) < r (at' p i) := fun i hi => Int.lt_of_lt_of_le c (F.low hi)
      by_cases cq : q > 0
      · rw [if_pos cq]
        obtain ⟨t1, t2⟩ := F.turn
        refine step _ (rev_size _ _ _) (rev_perm _ _ _) (fall_new (by rw [rev_size]; omega) t1 t2 fun i hi => ?_)
        show r ((kas_rev p (n - (q + 1)) n).getD n 0) < r ((kas_rev p (n - (q + 1)) n).getD i 0)
        rw [getD_rev F.sz, getD_rev F.sz, if_neg (by omega)]
        split
        · exact low _ (by omega)
        · exact low _ hi
      · rw [if_neg cq]
        exact step p rfl (Array.Perm.refl _) (fall_new (by omega) F.tl (F.one (by omega)) low)
    · rw [ltR_f c, if_neg (by simp)]
      rw [ev_ask]
      by_cases d : r (p.getD (n - 1) 0) < r (p.getD n 0)
      · rw [ltR_t d, if_pos rfl]
        exact ⟨p, n, q, rfl, hq, Nat.le_refl _, by omega, rfl, Array.Perm.refl _, F⟩
      · rw [ltR_f d, if_neg (by simp)]
        have eqn : r (at' p n) = r (at' p (n - 1)) := Int.le_antisymm (Int.not_lt.mp d) (Int.not_lt.mp c)
        have pn := F.tl.2 n (Nat.le_refl _) (by omega)
        obtain ⟨p', n', q', e, a1, a2, a3, a4, a5, a6⟩ := ih p (n + 1) (q + 1) (by omega) (by omega) (by
          rw [show n + 1 - (q + 1 + 1) = n - (q + 1) by omega]
          refine ⟨by omega, by omega, F.tl.succ (by omega), F.a1, fun i j h1 h2 h3 => ?_, fun i j h1 h2 h3 => ?_⟩
          · by_cases z : j = n
            · subst z; rw [eqn]; exact F.a2 i (j - 1) h1 (by omega) (by omega)
            · exact F.a2 i j h1 h2 (by omega)
          · by_cases z : j = n
            · subst z
              refine ⟨?_, by rw [pn]; exact F.tl.1 i h2⟩
              rw [eqn]
              by_cases y : i = j - 1
              · rw [y]
              · exact (F.b i (j - 1) h1 (by omega) (by omega)).1
            · exact F.b i j h1 h2 (by omega))
        exact ⟨p', n', q', e, a1, by omega, by omega, a4, a5, a6⟩
def RunS (r : Nat → Int) (p : Array Nat) (nrem : Nat) (x : Nat × Array Nat) : Prop := x.1 ≤ nrem ∧ 1 ≤ x.1 ∧ x.2.size = p.size ∧ x.2.Perm p ∧ UpS r x.2 x.1 ∧ Tl x.2 x.1
theorem RunS.of {p p1 : Array Nat} {nrem : Nat} {x : Nat × Array Nat} (h : RunS r p1 nrem x) (s : p1.size = p.size) (m : p1.Perm p) : RunS r p nrem x := ⟨h.1, h.2.1, h.2.2.1.trans s, h.2.2.2.1.trans m, h.2.2.2.2⟩
theorem stail3 {p : Array Nat} {n nrem : Nat} (h1 : 1 ≤ n) (hn : n ≤ nrem) (hz : nrem ≤ p.size) (t : Tl p n) (hd : ∀ i j, i < j → j < n → lx r (at' p j) (at' p i)) : RunS r p nrem (ev (ltR r) (kas_tail3 n nrem p)) := by
  unfold kas_tail3
  rw [ev_bind]
  have hu : UpS r (kas_rev p 0 n) n := fun i j hi hb => by
    show lx r ((kas_rev p 0 n).getD i 0) ((kas_rev p 0 n).getD j 0)
    rw [getD_rev (by omega), getD_rev (by omega), if_pos (by omega), if_pos (by omega)]
    exact hd (0 + n - 1 - j) (0 + n - 1 - i) (by omega) (by omega)
  obtain ⟨a1, a2, a3, a4, _⟩ := sasc (kas_rev p 0 n) (nrem - n) n h1 (by rw [rev_size]; omega) hu (t.rev (Nat.le_refl _) (by omega))
  exact ⟨by show ev (ltR r) _ ≤ _; omega, by show 1 ≤ ev (ltR r) _; omega, rev_size _ _ _, rev_perm _ _ _, a3, a4⟩
theorem sdescPart {p : Array Nat} {n nrem : Nat} (hn : n + 1 ≤ nrem) (hz : nrem ≤ p.size) (F : Fall r p n (n + 1)) : RunS r p nrem (ev (ltR r) (kas_descPart n nrem p)) := by
  unfold kas_descPart
  rw [ev_bind]
  obtain ⟨p', n', q', e, a1, a2, a3, a4, a5, a6⟩ := sdesc (nrem - (n + 1)) p (n + 1) 0 (by omega) (by omega) F
  rw [e]
  dsimp only
  by_cases c : q' > 0
  · rw [if_pos c]
    obtain ⟨t1, t2⟩ := a6.turn
    exact (stail3 (p := kas_rev p' (n' - (q' + 1)) n') (by omega) (by omega) (by rw [rev_size]; omega) t1 t2).of ((rev_size _ _ _).trans a4) ((rev_perm _ _ _).trans a5)
  · rw [if_neg c]
    exact (stail3 (p := p') (by omega) (by omega) (by omega) a6.tl (a6.one (by omega))).of a4 a5
theorem scount {p : Array Nat} {nrem : Nat} (h1 : 1 ≤ nrem) (hz : nrem ≤ p.size) (hid : ∀ i, i < p.size → at' p i = i) : RunS r p nrem (ev (ltR r) (kas_count nrem p)) := by
  unfold kas_count
  rw [ev_bind]
  obtain ⟨a1, a2, a3, a5, a4⟩ := sasc (r := r) p (nrem - 1) 1 (Nat.le_refl _) (by omega) (fun i j hi hb => by omega) ⟨fun i hi => by rw [hid i (by omega)]; exact hi, fun i _ hs => hid i hs⟩
  generalize ev (ltR r) (kas_asc p (nrem - 1) 1) = n at *
  by_cases c : (n == nrem) = true
  · rw [if_pos c]
    exact ⟨by show n ≤ nrem; omega, a1, rfl, Array.Perm.refl _, a3, a5⟩
  · rw [if_neg c]
    have hne : n ≠ nrem := by simpa using c
    have stop := a4 (by omega)
    by_cases c2 : n > 1
    · rw [if_pos c2]
      rw [ev_ask]
      by_cases d : r (p.getD 0 0) < r (p.getD (n - 1) 0)
      · rw [ltR_t d, if_pos rfl]
        exact ⟨by show n ≤ nrem; omega, a1, rfl, Array.Perm.refl _, a3, a5⟩
      · rw [ltR_f d, if_neg (by simp)]
        have all : ∀ i, i < n → r (at' p i) = r (at' p (n - 1)) := fun i hi => by
          have q1 : r (at' p 0) ≤ r (at' p i) := a3.up.mono 0 i (by omega) hi
          have q3 : r (at' p i) ≤ r (at' p (n - 1)) := a3.up.mono i (n - 1) (by omega) (by omega)
          have q4 : r (at' p (n - 1)) ≤ r (at' p 0) := Int.not_lt.mp d
          omega
        refine (sdescPart (p := kas_rev p 0 n) (by omega) (by rw [rev_size]; exact hz) (fall_new (by rw [rev_size]; omega) (a5.rev (Nat.le_refl _) (by omega)) (fun i j hij hj => ?_) fun i hi => ?_)).of (rev_size _ _ _) (rev_perm _ _ _)
        · show lx r ((kas_rev p 0 n).getD j 0) ((kas_rev p 0 n).getD i 0)
          rw [getD_rev (by omega), getD_rev (by omega), if_pos (by omega), if_pos (by omega)]
          refine .inr ⟨(all _ (by omega)).trans (all _ (by omega)).symm, ?_⟩
          show at' p (0 + n - 1 - j) < at' p (0 + n - 1 - i)
          rw [hid _ (by omega), hid _ (by omega)]
          omega
        · show r ((kas_rev p 0 n).getD n 0) < r ((kas_rev p 0 n).getD i 0)
          rw [getD_rev (by omega), getD_rev (by omega), if_neg (by omega), if_pos (by omega)]
          have e : r (at' p (0 + n - 1 - i)) = r (at' p (n - 1)) := all _ (by omega)
          show r (at' p n) < r (at' p (0 + n - 1 - i))
          rw [e]
          exact stop
    · rw [if_neg c2]
      obtain rfl : n = 1 := by omega
      exact sdescPart (by omega) hz (fall_new (by omega) a5 (fun i j hij hj => by omega) fun i hi => by
        obtain rfl : i = 0 := by omega
        exact stop)
theorem sbin : ∀ (f : Nat) (p : Array Nat) (k : Nat), k + f ≤ p.size → UpS r p k → Tl p k → (ev (ltR r) (kas_bin f p k)).Perm p ∧ UpS r (ev (ltR r) (kas_bin f p k)) (k + f) := by
  intro f
  induction f with
  | zero => intro p k hz hu t; exact ⟨Array.Perm.refl _, hu⟩
  | succ f ih =>
    intro p k hz hu t
    unfold kas_bin
    rw [ev_bind]
    obtain ⟨b1, b2, b3⟩ := ev_place hu.up k 0 k (by omega) (by omega) (Nat.le_refl _) (fun i hi => absurd hi (by omega)) (fun i hi hb => absurd hb (by omega))
    generalize ev (ltR r) (kas_place p k k 0 k) = l at *
    have hk : k < p.size := by omega
    have pk := t.2 k (Nat.le_refl _) hk
    obtain ⟨c1, c2⟩ := ih (bubble p k (k - l)) (k + 1) (by rw [bubble_size]; omega) (fun i j hij hb => by
      show lx r ((bubble p k (k - l)).getD i 0) ((bubble p k (k - l)).getD j 0)
      rw [getD_bubble hk b1, getD_bubble hk b1]
      by_cases e1 : i = l
      · rw [if_pos e1, if_neg (show ¬ j = l by omega), if_pos (by omega)]
        exact .inl (b3 (j - 1) (by omega) (by omega))
      · rw [if_neg e1]
        by_cases e2 : j = l
        · rw [if_pos e2, if_neg (by omega)]
          have q1 : r (at' p i) ≤ r (at' p k) := b2 i (by omega)
          have q2 := t.1 i (by omega)
          rcases Int.lt_or_eq_of_le q1 with z | z
          · exact .inl z
          · exact .inr ⟨z, by show at' p i < at' p k; omega⟩
        · rw [if_neg e2]
          by_cases e3 : l < i
          · rw [if_pos (by omega), if_pos (by omega)]
            exact hu (i - 1) (j - 1) (by omega) (by omega)
          · rw [if_neg (show ¬(l < i ∧ i ≤ k) by omega)]
            by_cases e4 : l < j
            · rw [if_pos (by omega)]
              exact hu i (j - 1) (by omega) (by omega)
            · rw [if_neg (by omega)]
              exact hu i j hij (by omega)) ⟨fun i hi => by
        show (bubble p k (k - l)).getD i 0 < k + 1
        rw [getD_bubble hk b1]
        by_cases z1 : i = l
        · rw [if_pos z1]
          show at' p k < k + 1
          omega
        · rw [if_neg z1]
          by_cases z2 : l < i ∧ i ≤ k
          · rw [if_pos z2]
            exact Nat.lt_succ_of_lt (t.1 (i - 1) (by omega))
          · rw [if_neg z2]
            exact Nat.lt_succ_of_lt (t.1 i (by omega)), fun i hi hs => by
        rw [bubble_size] at hs
        show (bubble p k (k - l)).getD i 0 = i
        rw [getD_bubble hk b1, if_neg (by omega), if_neg (by omega)]
        exact t.2 i (by omega) hs⟩
    exact ⟨c1.trans (bubble_perm _ _ _), by rw [show k + (f + 1) = k + 1 + f by omega]; exact c2⟩
theorem ev_stable {n : Nat} (hn : 1 ≤ n) : (ev (ltR r) (kas_sort n)).Perm (List.range n).toArray ∧ UpS r (ev (ltR r) (kas_sort n)) n := by
  unfold kas_sort
  rw [ev_bind]
  obtain ⟨h1, h2, h3, h4, h5, h6⟩ := scount (r := r) (p := (List.range n).toArray) (nrem := n) hn (by simp) (fun i hi => by
    have hi' : i < n := by simpa using hi
    simp [at', Array.getD, hi'])
  generalize ev (ltR r) (kas_count n (List.range n).toArray) = x at *
  have hs : x.2.size = n := by rw [h3]; simp
  by_cases c : x.1 < n
  · rw [if_pos c]
    have hm : max x.1 1 = x.1 := by omega
    rw [hm]
    obtain ⟨c1, c2⟩ := sbin (r := r) (n - x.1) x.2 x.1 (by omega) h5 h6
    rw [show x.1 + (n - x.1) = n by omega] at c2
    exact ⟨c1.trans h4, c2⟩
  · rw [if_neg c]
    have : x.1 = n := by omega
    rw [this] at h5
    exact ⟨h4, h5⟩
end
end L2
namespace L2
open PySem PySem.Spec PyProof.Rows
open PySem.W (kas_item kas_sort kas_cmp kas_st kas_runs kas_range)
section
variable {X : Cx} {pins : List (Addr × Obj)} {σ : St} {H : Hp} {A : Around} {E : Value → Shared → Prop}
theorem Inv.adopt {s : Shared} {a : Addr} {ys : List V} {its : List Value} {n : Nat} (I : Inv X pins σ H s) (F : FpOk X pins H a) (hz : ys.length ≤ sizeLine) (hv : Vals ys its) (g : s.heap.get? a = some { cls := .type "list", data := .seq its.toArray n }) :
    Inv X pins σ (upd H a (.lst ys)) s := by
  have na : ∀ b u, H b = some u → b ≠ a := fun b u e z => by rw [z, F.1] at e; cases e
  refine I.step (g' := s.gens) (d' := s.drawn) (t' := s.toks) (h' := s.heap) (ch := [a]) (fun b hb => ?_) (fun b o _ _ _ e _ => e) (fun b o _ _ _ e _ => ⟨o.slots, e⟩) (fun b o hc e n => by rw [upd_ne (fun z => hc (by simp [z]))]; exact n)
    (fun b o _ e => ⟨o, e⟩) (fun b xs e => by rw [upd_ne (na b _ e)]; exact e) (fun b o u e => by rw [upd_ne (na b _ e)]; exact e) (fun b ps e => ⟨#[], by rw [upd_ne (na b _ e), e]; simp⟩) (fun m hm => hm) (fun b u e => ?_) I.bare
  · have e : b = a := by simpa using hb
    subst e
    exact ⟨F.2.2.2.1, F.2.1, F.2.2.2.2.1, F.2.2.2.2.2⟩
  · by_cases z : b = a
    · subst z
      rw [upd_same] at e
      cases e
      exact ⟨hz, its, n, hv, g⟩
    · rw [upd_ne z] at e
      exact (I.hok b u e).stay (fun c v _ q => q) (fun c q => by rw [upd_ne (na c _ q)]; exact q) fun c xs q => by rw [upd_ne (na c _ q)]; exact q
theorem keys_at {keys : Array Value} {vs : List Value} {kf : Nat → Int} {n : Nat} (hk : IntsAre keys.toList ((List.range n).map kf)) (hv : vs.length = n) {i : Nat} (hi : i < n) : ∃ t, kas_item (keys.zip vs.toArray) i = (.int (kf i) t, vs.getD i .none) := by
  have e1 : ((List.range n).map kf)[i]? = some (kf i) := by simp [hi]
  obtain ⟨t, ht⟩ := hk.get i (kf i) e1
  have hs : keys.size = n := by
    have := hk.length
    simpa using this
  refine ⟨t, ?_⟩
  have h1 : i < (keys.zip vs.toArray).size := by rw [Array.size_zip, hs, List.size_toArray, hv, Nat.min_self]; exact hi
  have h2 : keys[i]? = some (.int (kf i) t) := by simpa using ht
  have h3 : i < keys.size := by omega
  have h4 : keys[i] = .int (kf i) t := by
    rw [Array.getElem?_eq_getElem h3] at h2
    exact Option.some.inj h2
  have h5 : i < vs.length := by omega
  unfold kas_item
  have e : (keys.zip vs.toArray).getD i (Value.none, Value.none) = (keys.zip vs.toArray)[i] := by unfold Array.getD; rw [dif_pos h1]; rfl
  rw [e, Array.getElem_zip]
  simp [h4, h5]
set_option maxHeartbeats 4000000 in
theorem skEnd {s : Shared} {a kS : Addr} {vs : List Value} {xs : List V} {keys : Array Value} {e e1 : Nat} {P : PySem.Fin → Shared → Prop} (kf : Nat → Int) (J : Inv X pins σ H s) (fa : FpOk X pins H a) (fk : FpOk X pins H kS) (hka : kS ≠ a)
    (gk : s.heap.get? kS = some (seqObj "list" keys e)) (ga : s.heap.get? a = some (seqObj "list" #[] e1)) (hv : Vals xs vs) (hk : IntsAre keys.toList ((List.range xs.length).map kf)) (h64 : xs.length < 64)
    (hP : ∀ (is : List Nat) (s' : Shared) (vs' : List Value) (c : Nat), is.Perm (List.range xs.length) → is.Pairwise (lx kf) → Vals (is.map fun i => xs.getD i .non) vs' → Inv X pins σ H s' → s'.heap.get? a = some (seqObj "list" vs'.toArray c) → P (.done (.ret .none)) s') :
    wpAny (model X.prog X.w) A (ksk_end a false vs.toArray e1 (.ref kS) keys) P E s := by
  have ln : vs.length = xs.length := hv.length.symm
  have hsz : keys.size = xs.length := by
    have := hk.length
    simpa using this
  have hzs : (keys.zip vs.toArray).size = xs.length := by rw [Array.size_zip, hsz, List.size_toArray, ln, Nat.min_self]
  have line : ∀ {m : Nat}, m < 64 → m ≤ sizeLine := fun h => Nat.le_trans (Nat.le_of_lt h) (by decide)
  have fin : ∀ (st : SortSt) (p : Array Nat), p.toList.Perm (List.range xs.length) → p.toList.Pairwise (lx kf) → arrOf st = p.map (kas_item (keys.zip vs.toArray)) → failedOf st = none → wpAny (model X.prog X.w) A (ksk_tail a false e1 (.ref kS) st) P E s := fun st p hp hl har hf => by
    have hout : ((arrOf st).map (·.2)) = (p.toList.map fun i => vs.getD i .none).toArray := by
      apply Array.toList_inj.mp
      rw [har, Array.map_map, Array.toList_map]
      refine List.map_congr_left fun i hi => ?_
      obtain ⟨t, ht⟩ := keys_at hk ln (i := i) (by simpa using hp.mem_iff.mp hi)
      show (kas_item (keys.zip vs.toArray) i).2 = _
      rw [ht]
    have lp : p.toList.length = xs.length := by simpa using hp.length_eq
    have s1 := Heap.SameBut.update s.heap kS (Obj.mapSeq fun _ => (#[] : Array Value))
    have ga1 : (s.heap.update kS (Obj.mapSeq fun _ => (#[] : Array Value))).get? a = some (seqObj "list" #[] e1) := (s1.2 a hka.symm).trans ga
    have s2 := Heap.SameBut.update (s.heap.update kS (Obj.mapSeq fun _ => (#[] : Array Value))) a (Obj.mapSeq fun _ => (p.toList.map fun i => vs.getD i Value.none).toArray)
    have ga2 := get?_update_seq ga1 fun _ => (p.toList.map fun i => vs.getD i Value.none).toArray
    unfold ksk_tail
    dsimp only
    rw [if_neg (by simp), hout]
    refine wpAny_bind (listUpdate_at gk rfl ?_ (by rw [hsz]; exact line h64) (Nat.zero_le _))
    refine wpAny_bind (wpAny_letGo ?_)
    refine wpAny_bind (seqEpoch_at ga1 rfl ?_)
    refine wpAny_bind (listUpdate_at ga1 rfl ?_ (Nat.zero_le _) (by rw [List.size_toArray, List.length_map, lp]; exact Nat.le_succ_of_le (line h64)))
    rw [hf]
    simp only [bne_self_eq_false, Bool.false_eq_true, if_false]
    refine wpAny_pure (hP p.toList _ _ _ hp hl ?_ ((J.turnF (t' := s.toks) fk fun b o nb e => (s1.2 b nb).trans e).turnF (t' := s.toks) fa fun b o nb e => (s2.2 b nb).trans e) ga2)
    have : ∀ l : List Nat, (∀ i ∈ l, i < xs.length) → Vals (l.map fun i => xs.getD i .non) (l.map fun i => vs.getD i .none) := fun l => by
      induction l with
      | nil => intro _; exact .nil
      | cons i l ih =>
        intro h
        refine .cons ?_ (ih fun j hj => h j (List.mem_cons_of_mem _ hj))
        have hi := h i (List.mem_cons_self ..)
        obtain ⟨v, e1, e2⟩ := hv.get (i := i) (List.getElem?_eq_getElem hi)
        have q1 : xs.getD i .non = xs[i] := by simp [hi]
        have q2 : vs.getD i .none = v := by simp [List.getD, e1]
        show RelV (xs.getD i .non) (vs.getD i .none)
        rw [q1, q2]
        exact e2
    exact this _ fun i hi => by simpa using hp.mem_iff.mp hi
  unfold ksk_end
  simp only [Bool.false_eq_true, if_false]
  by_cases h2 : vs.toArray.size < 2
  · rw [if_pos h2, if_pos h2]
    refine wpAny_bind (wpAny_pure ?_)
    rw [StateT.run_pure]
    refine wpAny_bind (wpAny_pure ?_)
    dsimp only
    rw [List.size_toArray, ln] at h2
    refine fin (SortSt.mk' general' (keys.zip vs.toArray) #[] 7 none) (List.toArray (List.range xs.length)) (.refl _) ?_ ?_ rfl
    · have : xs.length = 0 ∨ xs.length = 1 := by omega
      rcases this with e | e <;> simp [e]
    · have e := kas_range (keys.zip vs.toArray)
      rw [hzs] at e
      exact e.symm
  · rw [if_neg h2, if_neg h2]
    rw [List.size_toArray, ln] at h2
    rw [ksk_kind hk (by rw [hsz]; omega)]
    refine wpAny_bind (wpAny_pure ?_)
    have est : SortSt.mk' oneType' (keys.zip vs.toArray) #[] 7 none = kas_st oneType' (keys.zip vs.toArray) (List.toArray (List.range xs.length)) := by
      have e := kas_range (keys.zip vs.toArray)
      rw [hzs] at e
      show SortSt.mk' oneType' (keys.zip vs.toArray) #[] 7 none = SortSt.mk' oneType' ((List.toArray (List.range xs.length)).map (kas_item (keys.zip vs.toArray))) #[] 7 none
      rw [e]
    have run := kas_runs (prog := X.prog) (w := X.w) (A := A) (E := E) (κ := oneType') (it := keys.zip vs.toArray) (n := xs.length) (s := s) (G := fun p s' => s' = s ∧ p = ev (ltR kf) (kas_sort xs.length)) (Q := fun _ st' s' => ∃ p : Array Nat, arrOf st' = p.map (kas_item (keys.zip vs.toArray)) ∧ failedOf st' = none ∧ s' = s ∧ p = ev (ltR kf) (kas_sort xs.length))
      (by omega) h64 (fun p' st' s' a1 a2 a3 a4 => ⟨p', a2, a3, a4⟩)
      (wp_ev (J := fun s' => s' = s) (n := xs.length) (lt := ltR kf) (fun i j C s' hi hj hs hC => by
        obtain ⟨t, ht⟩ := keys_at hk ln hi
        obtain ⟨u, hu⟩ := keys_at hk ln hj
        unfold kas_cmp
        rw [ht, hu]
        exact PySem.W.kat_lt_int (hC s' hs)) _ s _ (asks_sort (by omega)) rfl fun s' hs => ⟨hs, rfl⟩)
    rw [← est] at run
    refine wpAny_bind (wpAny_mono run ?_ fun _ _ e => e)
    rintro ⟨⟨⟩, st'⟩ s' ⟨p, har, hf, rfl, rfl⟩
    dsimp only
    obtain ⟨q1, q2⟩ := ev_stable (r := kf) (n := xs.length) (by omega)
    have q3 : (ev (ltR kf) (kas_sort xs.length)).toList.Perm (List.range xs.length) := by simpa using Array.perm_iff_toList_perm.mp q1
    have q4 : (ev (ltR kf) (kas_sort xs.length)).toList.length = xs.length := by simpa using q3.length_eq
    refine fin st' _ q3 ?_ har hf
    rw [List.pairwise_iff_getElem]
    intro i j hi hj hij
    have e : ∀ k (hk : k < (ev (ltR kf) (kas_sort xs.length)).toList.length), (ev (ltR kf) (kas_sort xs.length)).getD k 0 = (ev (ltR kf) (kas_sort xs.length)).toList[k] := fun k hk => by
      have hk' : k < (ev (ltR kf) (kas_sort xs.length)).size := by simpa using hk
      simp [Array.getD, hk']
    have q := q2 i j hij (by omega)
    simp only [at'] at q
    rw [e i hi, e j hj] at q
    exact q
set_option maxHeartbeats 4000000 in
theorem skTree {s : Shared} {a f : Addr} {vs : List Value} {xs : List V} {n0 : Nat} {P : PySem.Fin → Shared → Prop} (kf : Nat → Int) (J : Inv X pins σ H s) (fa : FpOk X pins H a)
    (ga : s.heap.get? a = some (seqObj "list" vs.toArray n0)) (hv : Vals xs vs) (h64 : xs.length < 64)
    (turn : ∀ (pl : List (Addr × Obj)) (i : Nat) (x : V) (v : Value) (s : Shared), xs[i]? = some x → RelV x v → Inv X (pins ++ pl) σ H s → wpAny (model X.prog X.w) A (call (.ref f) [v]) (fun r s' => Inv X (pins ++ pl) σ H s' ∧ ∃ t, r = .int (kf i) t) (fun _ _ => False) s)
    (hP : ∀ (is : List Nat) (s' : Shared) (vs' : List Value) (c : Nat), is.Perm (List.range xs.length) → is.Pairwise (lx kf) → Vals (is.map fun i => xs.getD i .non) vs' → Inv X pins σ H s' → s'.heap.get? a = some (seqObj "list" vs'.toArray c) → P (.done (.ret .none)) s') :
    wpAny (model X.prog X.w) A (ksk_tree a (.ref f) false) P E s := by
  have ln : vs.length = xs.length := hv.length.symm
  have line : ∀ {m : Nat}, m < 64 → m ≤ sizeLine := fun h => Nat.le_trans (Nat.le_of_lt h) (by decide)
  have la : a < s.heap.objs.size := Heap.lt_size ga
  have s1 := Heap.SameBut.update s.heap a (Obj.mapSeq fun _ => (#[] : Array Value))
  obtain ⟨e1, ga1⟩ : ∃ e1, (s.heap.update a (Obj.mapSeq fun _ => (#[] : Array Value))).get? a = some (seqObj "list" #[] e1) := ⟨_, get?_update_seq ga fun _ => #[]⟩
  have hkS : ((s.heap.update a (Obj.mapSeq fun _ => (#[] : Array Value))).push (seqObj "tuple" vs.toArray 0)).objs.size = s.heap.objs.size + 1 := by rw [size_push', Heap.size_update]
  have fk : FpOk X pins H ((s.heap.update a (Obj.mapSeq fun _ => (#[] : Array Value))).push (seqObj "tuple" vs.toArray 0)).objs.size := J.fpOk (by rw [hkS]; omega) (J.hok.fresh (by rw [hkS]; omega))
  have hka : ((s.heap.update a (Obj.mapSeq fun _ => (#[] : Array Value))).push (seqObj "tuple" vs.toArray 0)).objs.size ≠ a := by rw [hkS]; exact Nat.ne_of_gt (Nat.lt_succ_of_lt la)
  unfold ksk_tree
  refine wpAny_bind (listItems_at ga rfl ?_)
  refine wpAny_bind (listUpdate_at ga rfl ?_ (by rw [List.size_toArray, ln]; exact line h64) (Nat.zero_le _))
  refine wpAny_bind (seqEpoch_at ga1 rfl ?_)
  refine wpAny_bind (wpAny_newTuple ?_ (by show vs.length ≤ _; rw [ln]; exact line h64))
  refine wpAny_bind (wpAny_newList ?_ (Nat.zero_le _))
  refine wpAny_holding ?_
  have J1 : Inv X pins σ H { s with heap := ((s.heap.update a (Obj.mapSeq fun _ => (#[] : Array Value))).push (seqObj "tuple" vs.toArray 0)).push (seqObj "list" #[] 0) } := (J.turnF (t' := s.toks) fa fun b o nb e => (s1.2 b nb).trans e).kept (t' := s.toks) fun b u e => Heap.get?_push_of_some _ (Heap.get?_push_of_some _ e)
  have gk : (((s.heap.update a (Obj.mapSeq fun _ => (#[] : Array Value))).push (seqObj "tuple" vs.toArray 0)).push (seqObj "list" #[] 0)).get? ((s.heap.update a (Obj.mapSeq fun _ => (#[] : Array Value))).push (seqObj "tuple" vs.toArray 0)).objs.size = some (seqObj "list" #[] 0) := Heap.get?_push_size _ rfl
  have ga2 : (((s.heap.update a (Obj.mapSeq fun _ => (#[] : Array Value))).push (seqObj "tuple" vs.toArray 0)).push (seqObj "list" #[] 0)).get? a = some (seqObj "list" #[] e1) := Heap.get?_push_of_some _ (Heap.get?_push_of_some _ ga1)
  show wpAny _ A (ksk_rest a (.ref f) false vs.toArray _ (.ref _)) P E _
  generalize ((s.heap.update a (Obj.mapSeq fun _ => (#[] : Array Value))).push (seqObj "tuple" vs.toArray 0)).objs.size = kS at fk gk hka ⊢
  generalize ((s.heap.update a (Obj.mapSeq fun _ => (#[] : Array Value))).push (seqObj "tuple" vs.toArray 0)).push (seqObj "list" #[] 0) = h1 at J1 gk ga2 ⊢
  unfold ksk_rest
  refine wpAny_bind (wpAny_rule ?_)
  first
    | rw [List.forIn_toArray]
    | (rw [← Array.forIn_toList]; simp only [List.toList_toArray])
    | rw [← Array.forIn_toList]
  refine wpAny_bind (ksk_fold (fun i s' => Inv X pins σ H s' ∧ ∃ kA e, s'.heap.get? kS = some (seqObj "list" kA e) ∧ s'.heap.get? a = some (seqObj "list" #[] e1) ∧ IntsAre kA.toList (((List.range xs.length).map kf).take i)) vs 0 _
    ⟨J1, #[], 0, gk, ga2, by simpa using IntsAre.nil⟩ ?step ?done)
  case step =>
    rintro j x s' hx ⟨J2, kA, e, gk', ga', hk⟩
    simp only [Nat.zero_add] at hk ⊢
    have hj : j < vs.length := (List.getElem?_eq_some_iff.mp hx).1
    have hjx : j < xs.length := by omega
    have ex : xs[j]? = some (xs[j]'hjx) := List.getElem?_eq_getElem _
    have rx : RelV (xs[j]'hjx) x := by
      obtain ⟨v', w1, w2⟩ := hv.get ex
      rw [hx] at w1
      cases w1
      exact w2
    have hkj : ((List.range xs.length).map kf)[j]? = some (kf j) := by simp [hjx]
    have hz : kA.size ≤ xs.length := by
      have h1 := hk.length
      rw [Array.length_toList, List.length_take] at h1
      simp at h1
      omega
    have J3 := J2.pinned (fp := [kS, a]) (fun b hb => by
      rcases List.mem_cons.mp hb with rfl | hb
      · exact fk
      · rw [List.mem_singleton.mp hb]
        exact fa) (fun b hb => by
      rcases List.mem_cons.mp hb with rfl | hb
      · exact ⟨_, gk', fun v z => by cases z⟩
      · rw [List.mem_singleton.mp hb]
        exact ⟨_, ga', fun v z => by cases z⟩)
    refine wpAny_bind (wpAny_attempt (wpAny_mono (turn _ j _ x s' ex rx J3) (fun v s2 he => ?_) fun _ _ hF => hF.elim))
    obtain ⟨J4, t2, rfl⟩ := he
    have gk2 := (J4.pin _ (List.mem_append_right _ (List.mem_append_right _ (mem_pinsAt (List.mem_cons_self ..) gk')))).1
    have ga3 := (J4.pin _ (List.mem_append_right _ (List.mem_append_right _ (mem_pinsAt (List.mem_cons_of_mem _ (List.mem_cons_self ..)) ga')))).1
    have J5 : Inv X pins σ H s2 := J4.unpinned
    dsimp only
    have s3 := Heap.SameBut.update s2.heap kS (Obj.mapSeq (·.push (.int (kf j) t2)))
    obtain ⟨c2, hc2⟩ : ∃ c2, (s2.heap.update kS (Obj.mapSeq (·.push (.int (kf j) t2)))).get? kS = some (seqObj "list" (kA.push (.int (kf j) t2)) c2) := ⟨_, get?_update_seq gk2 (·.push (.int (kf j) t2))⟩
    have ek : ((List.range xs.length).map kf).take (j + 1) = ((List.range xs.length).map kf).take j ++ [kf j] := by rw [List.take_add_one, hkj]; simp
    have ea : (kA.push (Value.int (kf j) t2)).toList = kA.toList ++ [Value.int (kf j) t2] := by simp
    refine wpAny_bind (listUpdate_at gk2 rfl ?_ (Nat.le_trans hz (line h64)) (Nat.le_trans (Nat.le_of_eq (Array.size_push ..)) (Nat.le_trans (Nat.succ_le_succ hz) (Nat.le_trans (Nat.succ_le_of_lt h64) (by decide)))))
    exact wpAny_pure ⟨rfl, J5.turnF (t' := s2.toks) fk fun b o nb e => (s3.2 b nb).trans e, kA.push (.int (kf j) t2), c2, hc2, (s3.2 a hka.symm).trans ga3, by rw [ea, ek]; exact ksk_snoc hk⟩
  case done =>
    rintro s' ⟨J2, kA, e, gk', ga', hk⟩
    have hk' : IntsAre kA.toList ((List.range xs.length).map kf) := by
      have e3 : ((List.range xs.length).map kf).take (0 + vs.length) = (List.range xs.length).map kf := List.take_of_length_le (by simp; omega)
      rw [e3] at hk
      exact hk
    refine wpAny_bind (listItems_at gk' rfl ?_)
    exact skEnd kf J2 fa fk hka gk' ga' hv hk' h64 hP
set_option maxHeartbeats 4000000 in
theorem sorted_lam {s : Shared} {l f : Addr} {xs : List V} {Q : Value → Shared → Prop} (kf : Nat → Int) (J : Inv X pins σ H s) (hl : SqT X.K H l xs) (h64 : xs.length < 64)
    (turn : ∀ (pl : List (Addr × Obj)) (i : Nat) (x : V) (v : Value) (s : Shared), xs[i]? = some x → RelV x v → Inv X (pins ++ pl) σ H s → wpAny (model X.prog X.w) A.in1.in1 (call (.ref f) [v]) (fun r s' => Inv X (pins ++ pl) σ H s' ∧ ∃ t, r = .int (kf i) t) (fun _ _ => False) s)
    (hQ : ∀ (is : List Nat) (s' : Shared) (D : Addr), is.Perm (List.range xs.length) → is.Pairwise (lx kf) → H D = none → Inv X pins σ (upd H D (.lst (is.map fun i => xs.getD i .non))) s' → Q (.ref D) s') :
    wpAny (model X.prog X.w) A (call (.builtin "sorted") [.ref l] [(Str.ofString "key", .ref f)]) Q E s := by
  obtain ⟨vs, hv, tp, hz⟩ := J.tuple hl
  obtain ⟨ot, g1, g2, n, g3⟩ := tp
  have ln : vs.length = xs.length := hv.length.symm
  have line : ∀ {m : Nat}, m < 64 → m ≤ sizeLine := fun h => Nat.le_trans (Nat.le_of_lt h) (by decide)
  refine call_function_entry_kw kind_sorted plain_sorted entry_sorted (ksk_s1 _ _) ?_
  unfold Builtin.«sorted»
  refine wpAny_bind (m := checkCount "sorted" 1 1 _) (wpAny_pure ?_)
  refine wpAny_bind (collect_tup g1 g2 g3 ?_ (by rw [ln]; exact line h64))
  refine wpAny_bind (wpAny_newList ?_ (by rw [ln]; exact line h64))
  have hsz : ((s.heap.push (seqObj "list" #[] 0)).update s.heap.objs.size (Obj.mapSeq (· ++ vs.toArray))).objs.size = s.heap.objs.size + 1 := by
    rw [Heap.size_update, size_push']
  have hoL : (((s.heap.push (seqObj "list" #[] 0)).update s.heap.objs.size (Obj.mapSeq (· ++ vs.toArray))).push (seqObj "list" vs.toArray 0)).get? (s.heap.objs.size + 1) = some (seqObj "list" vs.toArray 0) := by
    rw [← hsz]; exact Heap.get?_push_size _ rfl
  have keep : ∀ b o, s.heap.get? b = some o → (((s.heap.push (seqObj "list" #[] 0)).update s.heap.objs.size (Obj.mapSeq (· ++ vs.toArray))).push (seqObj "list" vs.toArray 0)).get? b = some o := fun b o q => by
    have hlt : b < s.heap.objs.size := Heap.lt_size q
    rw [Heap.get?_push_ne _ _ _ (by rw [hsz]; exact Nat.ne_of_lt (Nat.lt_succ_of_lt hlt)), Heap.get?_update_ne _ _ _ _ (Nat.ne_of_lt hlt), Heap.get?_push_ne _ _ _ (Nat.ne_of_lt hlt)]
    exact q
  show wpAny _ _ _ _ _ { s with heap := ((s.heap.push (seqObj "list" #[] 0)).update s.heap.objs.size (Obj.mapSeq (· ++ vs.toArray))).push (seqObj "list" vs.toArray 0) }
  rw [hsz]
  have fD : FpOk X pins H (s.heap.objs.size + 1) := J.fpOk (Nat.le_succ _) (J.hok.fresh (Nat.le_succ _))
  refine wpAny_bind (wpAny_holding (wpAny_call_entry_kw slot_list_sort ⟨_, hoL, rfl⟩ entry_list_sort ?body (ksk_l1 _ _)))
  case body =>
    show wpAny (model X.prog X.w) A.in1.in1 (Builtin.«list.sort» ⟨[.ref (s.heap.objs.size + 1)], [(Str.ofString "key", .ref f)]⟩) _ _ _
    rw [ksk_t1]
    refine skTree kf (J.kept (t' := s.toks) keep) fD hoL hv h64 turn fun is s' vs' c q1 q2 q3 q4 q5 => ⟨_, rfl, ?_⟩
    have hz' : (is.map fun i => xs.getD i .non).length ≤ sizeLine := by rw [List.length_map, q1.length_eq, List.length_range]; exact line h64
    exact wpAny_pure ⟨_, rfl, hQ is s' _ q1 q2 (J.hok.fresh (Nat.le_succ _)) (q4.adopt fD hz' q3 q5)⟩
end
section
variable {X : Cx} {e body : Expr} {t : TA} {te : TE} {pn kp pos lpos : Pos} {params : Arguments} {scope : Scope} {p : Str} {c0 P : Addr} {n : Nat}
def tSortLam (K : PySem.W.Frag) (P : Addr) (lpos : Pos) (q : Str) (fr : List (Nat × Str)) (t : TA) (te : TE) : TE := fun σ H Q => t σ H fun vs H1 => ∃ (l : Addr) (xs : List V), vs = [.ref l] ∧ xs.length < 64 ∧ TabIs H1 P lpos q ∧
  ∀ (H2 : Hp) (c : Addr), ButT P H1 H2 → TabHas H2 P lpos q c → SqT K H2 l xs ∧ ∃ kf : Nat → Int, (∀ i x, xs[i]? = some x → te (lamStart x fr σ) H2 fun y H' => H' = H2 ∧ y = .int (kf i)) ∧
    ∀ is : List Nat, is.Perm (List.range xs.length) → is.Pairwise (lx kf) → ∀ D, H2 D = none → Q (.ref D) (upd H2 D (.lst (is.map fun i => xs.getD i .non)))
theorem pe_sortLam (K : PySem.W.Frag) (fr : List (Nat × Str)) (hr : Room n X.A) (hc : X.calm = true) (hg : Gl X "sorted") (hm : X.mg "sorted" = none) (hcode : X.env.code = .ref c0) (hC : PySem.W.codeHdIn X.K c0 P = true) (hB : BMain X.mg X.base)
    (S : LamScope X.N X.env.scope scope p fr) (ha : PA X [e] t) (hb : ∀ (q : Str) (cl : List (Str × Addr)) (f c : Addr) (A : Around) (s : Shared) (H : Hp), Room 0 (cxLam X q scope cl f c (p :: fr.map (·.2)) A s H).A → PE (cxLam X q scope cl f c (p :: fr.map (·.2)) A s H) body te) (hn : 3 ≤ n := by decide) (hK : X.K = K := by rfl)
    (hdef : defaultsOf params X.env = ([], []) := by rfl) (hbind : ∀ (q : Str) (cl : List (Str × Addr)) (pm cv ctv v : Value), bindArgs (PySem.W.kla_fn "<lambda>" q params body scope cl pm cv ctv) ⟨[v], []⟩ = pure [(p, v)] := by intros; rfl)
    (he : starEach [e] X.env = (false, eval e X.env) :: starEach [] X.env := by rfl) (hall : (backToKw pos (keywordEach [⟨some "key", .Lambda params body scope lpos, kp⟩] X.env)).all (·.1.isSome) = true := by rfl)
    (hks : (backToKw pos (keywordEach [⟨some "key", .Lambda params body scope lpos, kp⟩] X.env)).filterMap (·.1) = [Str.ofString "key"] := by rfl)
    (hkn : (backToKw pos (keywordEach [⟨some "key", .Lambda params body scope lpos, kp⟩] X.env)).any (·.1.isNone) = false := by rfl)
    (hpl : (backTo pos (starEach [e] X.env)).any (·.1) = false := by rfl) :
    PE X (.Call (.Name "sorted" pn) [e] [⟨some "key", .Lambda params body scope lpos, kp⟩] pos) (tSortLam K P lpos (X.env.qual ++ "<lambda>") fr t te) := by
  subst hK
  intro pins s σ H Q I h
  refine wpAny_Call_Name_kw (ld_blt I hg hm boot_sorted ?_ (by decide) (by decide))
  refine callWith_builtin_kwB hpl hkn ?_
  refine PyProof.Rows.evalArgs_kw2 hall (thn (ha pos pins s σ H _ I h) fun us s1 ⟨vs, H1, I1, r1, q1⟩ => ?_) he
  obtain ⟨l, xs, rfl, ne, tab, q2⟩ := q1
  obtain ⟨u, rfl, rx⟩ := vals1 r1
  cases rx
  refine kws_cons (lam_make I1 hcode hC hB tab hdef (fun x hx => I1.ok.has x ?_) fun f c cl pm ctv H2 s2 but has hcl hcl2 I2 => kws_nil ?_)
  · rcases S.free (x, .free) hx rfl with z | z
    · exact .inl z
    · exact .inr z
  rw [hks]
  obtain ⟨hl, kf, hkf, qq⟩ := q2 H2 c but has
  show wpAny _ _ (call (.builtin "sorted") [.ref l] [(Str.ofString "key", .ref f)]) _ _ _
  refine sorted_lam (xs := xs) kf I2 hl ne (fun pl i x v s3 ex rx J => ?_) fun is s3 D p1 p2 fD J => ?_
  · have gf := (J.pin _ (List.mem_append_right _ (List.mem_append_left _ (List.mem_cons_self ..)))).1
    refine wpAny_mono (lam_call S J (A := X.A.in1.in1) J.ok.frames (J.ok.hd hc) hr.depth gf (CodeO.of J.hok has.2) (hb _ _ _ _ _ _ _ (((hr.mono hn).in1).in1.deeper _)) (fun v => hbind _ _ _ _ _ v) hcl hcl2 rx (Qy := fun y => y = .int (kf i)) (hkf i _ ex)) (fun r s4 hs => ?_) fun _ _ z => z
    obtain ⟨J4, y, ry, rfl⟩ := hs
    exact ⟨J4, ry⟩
  · exact ⟨.ref D, _, J.pins_of fun p hp => J.pin p (List.mem_append_right _ (List.mem_cons_of_mem _ hp)), rfl, qq is p1 p2 D fD⟩
end
end L2
namespace L2
open PySem PyProof.Rows
theorem list_keys_miss : typeLookup (.type "list") "keys" = pure none := am_miss_of_fast (by decide +kernel)
theorem entry_upd_loop : entryFor table "dict.update.loop" = some Builtin.«dict.update.loop» := entryFor_of_tree (by kernel_rfl)
theorem plain_upd_loop : plainId "dict.update.loop" = true := by decide +kernel
section
variable {prog : Program} {w : World} {A : Around} {E : Value → Shared → Prop} {s : Shared}
set_option maxHeartbeats 4000000 in
theorem no_keys {a : Addr} {xs : Array Value} {k : Nat} {sl : Array (Option Value)} {Q : Option Value → Shared → Prop} (hx : s.heap.get? a = some ⟨.type "list", none, .seq xs k, sl⟩) (hA : A.handled = none)
    (h : ∀ (h' : Heap) (tk : Nat), (∀ b o, s.heap.get? b = some o → h'.get? b = some o) → Q none { s with heap := h', toks := tk }) : wpAny (model prog w) A (getAttr? (.ref a) "keys") Q E s := by
  obtain ⟨hp, g, d, tk, os⟩ := s
  have hT : ∀ tk', (⟨hp, g, d, tk', os⟩ : Shared).TypeIs (.ref a) "list" := fun _ => ⟨_, hx, rfl⟩
  have m1 := PySem.F.slot_list_getattribute.lookup
  have m2 := PySem.F.slot_list_getattribute.bind (.ref a)
  have m3 := am_list_getattr_none
  unfold getAttr? getAttrBy? getAttrBy
  repeat (any_goals (first
    | assumption
    | exact hT _
    | (with_reducible show wpAny _ _ (call (Value.builtin "list.__getattribute__") _ _) _ _ _
       refine call_meets PySem.F.slot_list_getattribute (hT _) am_entry_list_getattribute (PySem.F.args_list_getattribute_2 _ _) (meets_getattribute_miss_list a xs k sl "keys" _ list_keys_miss (by decide +kernel) (by show 4 + 100 ≤ sizeLine; decide)) ⟨hx, hA, fun h' tk' e ne => ?_⟩)
    | wp_step))
  obtain ⟨t', u', he⟩ := ne.there
  have hTe : ∀ tk', (⟨h', g, d, tk', os⟩ : Shared).TypeIs (.ref e) "AttributeError" := fun _ => ⟨_, he, rfl⟩
  have m4 := sub_AttributeError
  show wpAny _ _ (getattributeRaised _ _ _ _ _ _ _) _ _ _
  unfold getattributeRaised
  repeat (any_goals (first | assumption | exact hTe _ | wp_step))
  exact h _ _ ne.keeps
def foldP (ks : Nat → Key) (us : Nat → Value) (j : Nat) : List (Key × Value) := (List.range j).foldl (fun acc i => stored acc (ks i) (us i)) []
theorem foldP_succ (ks : Nat → Key) (us : Nat → Value) (j : Nat) : foldP ks us (j + 1) = stored (foldP ks us j) (ks j) (us j) := by
  unfold foldP
  rw [List.range_succ, List.foldl_append]
  rfl
theorem stored_len (kvs : List (Key × Value)) (k : Key) (u : Value) : (stored kvs k u).length ≤ kvs.length + 1 := by
  unfold stored
  split
  · rw [List.length_map]; omega
  · rw [List.length_append]; exact Nat.le_refl _
theorem foldP_len (ks : Nat → Key) (us : Nat → Value) : ∀ j, (foldP ks us j).length ≤ j
  | 0 => Nat.le_refl _
  | j + 1 => by
    rw [foldP_succ]
    exact Nat.le_trans (stored_len _ _ _) (Nat.succ_le_succ (foldP_len ks us j))
set_option maxHeartbeats 4000000 in
theorem pairs_turns {R : Result → Shared → Prop} {h0 : Heap} {l I D : Addr} {vs : List Value} (ks : Nat → Key) (us : Nat → Value) (hh : A.handled = none) (hlI : l ≠ I) (hDI : D ≠ I) (fI : h0.get? I = none) (fD : h0.get? D = none) (hl : h0.IsList l vs.toArray) (hn : vs.length ≤ 1000)
    (hv : ∀ i v, vs[i]? = some v → ∃ (p : Addr) (kv : Value), v = .ref p ∧ h0.IsTuple p #[kv, us i] ∧ (mixKind prog w).is (ks i) kv = true)
    (hR : ∀ (h' : Heap) (tk : Nat), h'.DictOf (mixKind prog w) D (foldP ks us vs.length) → (∀ b o, h0.get? b = some o → h'.get? b = some o) → R (.ok (.ret .none)) { s with heap := h', toks := tk }) :
    ∀ (r j : Nat) (h : Heap) (tk : Nat) (t : Tok), vs.length - j = r → j ≤ vs.length → (∀ b o, h0.get? b = some o → h.get? b = some o) → h.DictOf (mixKind prog w) D (foldP ks us j) → h.IsListIter I l j →
      codeAny (model prog w) A (.builtin "dict.update.loop" ⟨[.ref D, .ref I, .int j t, .none], []⟩) R { s with heap := h, toks := tk } := by
  have W := Walks.list (prog := prog) (w := w) (A := A.in1) hh I l hlI vs.toArray
  have sz : vs.toArray.size = vs.length := List.size_toArray ..
  intro r
  induction r with
  | zero =>
    intro j h tk t hr hj kp dd it
    obtain rfl : j = vs.length := by omega
    refine codeAny_builtin entry_upd_loop ?_
    rw [Around.under_plainId plain_upd_loop _]
    show wpAny _ A.in1 (pyNext (.ref I) >>= _) _ _ _
    have hl1 : h.IsList l vs.toArray := hl.at fun o e => kp _ _ e
    refine wpAny_bind (W.done _ _ _ ⟨by rw [sz]; exact it, hl1⟩ fun h1 tk1 k1 => ?_)
    have kp1 : ∀ b o, h0.get? b = some o → h1.get? b = some o := fun b o e => k1 b o (by
      rw [List.mem_singleton]
      rintro rfl
      rw [fI] at e
      cases e) (kp b o e)
    have dd1 : h1.DictOf (mixKind prog w) D (foldP ks us vs.length) := dd.at fun o e => k1 D o (by rw [List.mem_singleton]; exact hDI) e
    show wpAny _ A.in1 (Builtin.Dict.addKeywords D [] >>= fun _ => ret Value.none) _ _ _
    exact wpAny_bind (wpAny_pure (wpAny_pure (hR h1 tk1 dd1 kp1)))
  | succ r ih =>
    intro j h tk t hr hj kp dd it
    have hlt : j < vs.length := by omega
    refine codeAny_builtin entry_upd_loop ?_
    rw [Around.under_plainId plain_upd_loop _]
    show wpAny _ A.in1 (pyNext (.ref I) >>= _) _ _ _
    have hl1 : h.IsList l vs.toArray := hl.at fun o e => kp _ _ e
    refine wpAny_bind (W.item j _ _ _ (by rw [sz]; exact hlt) ⟨it, hl1⟩ fun v h1 tk1 pv st1 k1 => ?_)
    have ev : vs[j]? = some v := by simpa using pv
    have kp1 : ∀ b o, h0.get? b = some o → h1.get? b = some o := fun b o e => k1 b o (by
      rw [List.mem_singleton]
      rintro rfl
      rw [fI] at e
      cases e) (kp b o e)
    have dd1 : h1.DictOf (mixKind prog w) D (foldP ks us j) := dd.at fun o e => k1 D o (by rw [List.mem_singleton]; exact hDI) e
    obtain ⟨p, kv, rfl, tp, hk⟩ := hv j v ev
    have tp1 : h1.IsTuple p #[kv, us j] := tp.at fun o e => kp1 _ _ e
    obtain ⟨op, gp, cp, np, dp⟩ := id tp1
    show wpAny _ A.in1 (holding [Value.ref p] _ >>= _) _ _ _
    refine wpAny_bind (wpAny_holding (wpAny_bind (wpAny_tryCatch ?_)))
    unfold Builtin.Dict.pairItems
    refine wpAny_bind (wpAny_typeOf (show Shared.TypeIs _ (.ref p) "tuple" from ⟨op, gp, cp⟩) ?_)
    simp only [show (Value.type "tuple" == Value.type "list" || Value.type "tuple" == Value.type "tuple") = true from by decide, if_true]
    refine wpAny_bind (wpAny_seqItems gp dp (wpAny_pure ?_))
    show wpAny _ A.in1 (holding [kv, us j] (dictSet D kv (us j))) _ _ _
    refine wpAny_holding ?_
    unfold dictSet
    refine wpAny_holding (wpAny_bind ((mixKind prog w).pyHash hk ?_))
    have fl := foldP_len ks us j
    refine wpAny_dictSetHashed_pairs (hsz := Nat.le_of_lt (small1000 (by omega))) hk dd1 fun h2 dd2 sb => ?_
    rw [← foldP_succ] at dd2
    have kp2 : ∀ b o, h0.get? b = some o → h2.get? b = some o := fun b o e => by
      have : b ≠ D := by
        rintro rfl
        rw [fD] at e
        cases e
      rw [sb.2 b this]
      exact kp1 b o e
    refine wpAny_pure ⟨plainId_quiet plain_upd_loop _, ?_⟩
    have := ih (j + 1) h2 (tk1 + 1) 0 (by omega) (by omega) kp2 dd2 (st1.1.at fun o e => by rw [sb.2 I (Ne.symm hDI)]; exact e)
    rw [show rawInt ((j : Int) + 1) = Value.int ((j + 1 : Nat) : Int) 0 from by push_cast; rfl]
    exact this
set_option maxHeartbeats 4000000 in
theorem dict_pairs {l : Addr} {vs : List Value} {k : Nat} {sl : Array (Option Value)} {Q : Value → Shared → Prop} (ks : Nat → Key) (us : Nat → Value) (hh : A.handled = none) (hx : s.heap.get? l = some ⟨.type "list", none, .seq vs.toArray k, sl⟩) (hn : vs.length ≤ 1000)
    (hv : ∀ i v, vs[i]? = some v → ∃ (p : Addr) (kv : Value), v = .ref p ∧ s.heap.IsTuple p #[kv, us i] ∧ (mixKind prog w).is (ks i) kv = true)
    (h : ∀ (h' : Heap) (tk : Nat), h'.DictOf (mixKind prog w) s.heap.objs.size (foldP ks us vs.length) → (∀ b o, s.heap.get? b = some o → h'.get? b = some o) → Q (.ref s.heap.objs.size) { s with heap := h', toks := tk }) :
    wpAny (model prog w) A (call (.type "dict") [.ref l]) Q E s := by
  refine callType_codes (Q₁ := fun obj s₁ => obj = .ref s.heap.objs.size ∧ s₁ = { s with heap := s.heap.push { cls := .type "dict", data := .dict #[] } }) F.kt_called_dict (F.kt_typeCall_dict_1 _) F.entry_dict_init (kt_code_dict_new _ ⟨rfl, rfl⟩) ?_
  rintro obj s₁ ⟨rfl, rfl⟩
  have hnew : (s.heap.push { cls := .type "dict", data := .dict #[] }).DictOf (mixKind prog w) s.heap.objs.size [] := Heap.DictOf.new s.heap
  have hx1 : (s.heap.push { cls := .type "dict", data := .dict #[] }).get? l = some ⟨.type "list", none, .seq vs.toArray k, sl⟩ := Heap.get?_push_of_some _ hx
  refine ⟨hnew.typeIs, F.args_dict_init_2 _ _, ?_⟩
  unfold Builtin.«dict.__init__»
  refine wpAny_bind ?_
  unfold Builtin.Dict.selfAndRest
  refine wpAny_bind (wpAny_notOrdered_dict hnew.typeIs ?_)
  show wpAny _ _ (pure (s.heap.objs.size, [Value.ref l])) _ _ _
  refine wpAny_pure ?_
  show wpAny _ _ (Builtin.Dict.updateFrom "dict.__init__" s.heap.objs.size (.ref l) [] .none) _ _ _
  unfold Builtin.Dict.updateFrom
  refine wpAny_bind (wpAny_typeOf (show Shared.TypeIs _ (.ref l) "list" from ⟨_, hx1, rfl⟩) ?_)
  rw [if_pos (by decide)]
  refine wpAny_bind (no_keys hx1 hh fun h2 tk2 kp2 => ?_)
  simp only [Option.isNone_none, if_true]
  refine wpAny_bind (wpAny_rule ?_)
  have hx2 := kp2 _ _ hx1
  have hl2 : h2.IsList l vs.toArray := ⟨_, hx2, rfl, _, rfl⟩
  refine wpAny_bind (wpAny_pyIter_list hl2 ?_)
  have kS : ∀ b o, s.heap.get? b = some o → h2.get? b = some o := fun b o e => kp2 b o (Heap.get?_push_of_some _ e)
  have fI : s.heap.get? h2.objs.size = none := by
    cases q : s.heap.get? h2.objs.size with
    | none => rfl
    | some o => exact absurd (Heap.lt_size (kS _ _ q)) (Nat.lt_irrefl _)
  obtain ⟨oD, _, _, gD, _⟩ := id hnew
  refine wpAny_pure ⟨plainId_quiet plain_upd_loop _, ?_⟩
  exact pairs_turns (s := s) (A := A.in1) (h0 := s.heap) (l := l) (I := h2.objs.size) (D := s.heap.objs.size) ks us hh (Nat.ne_of_lt (Heap.lt_size hx2)) (Nat.ne_of_lt (Heap.lt_size (kp2 _ _ gD))) fI (Heap.get?_none_of_le (Nat.le_refl _)) ⟨_, hx, rfl, _, rfl⟩ hn hv
    (fun h' tk dd kp => ⟨rfl, h h' tk dd kp⟩) vs.length 0 _ tk2 0 rfl (Nat.zero_le _) (fun b o e => Heap.get?_push_of_some _ (kS b o e)) (hnew.at fun o e => Heap.get?_push_of_some _ (kp2 _ _ e)) ⟨_, Heap.get?_push_size _ rfl, rfl, rfl⟩
end
def foldK : List (Key × V) → List (Key × V) := fun ps => ps.foldl (fun acc p => putK acc p.1 p.2) []
def rDictP : List V → Hp → VK → Prop := fun xs H Q => ∃ (l : Addr) (as : List Addr) (ps : List (Key × V)), xs = [.ref l] ∧ H l = some (.lst (as.map V.ref)) ∧ Paired (fun a (p : Key × V) => H a = some (.tup [kV p.1, p.2])) as ps ∧ ps.length ≤ 1000 ∧
  ∀ d, H d = none → Q (.ref d) (upd H d (.dK (foldK ps)))
theorem foldK_snoc (ps : List (Key × V)) (p : Key × V) : foldK (ps ++ [p]) = putK (foldK ps) p.1 p.2 := by
  unfold foldK
  rw [List.foldl_append]
  rfl
section
variable {X : Cx}
theorem pairs_vals {P : Program} {w : World} {H : Hp} {h : Heap} (ok : HOk P w H h) : ∀ {as : List Addr} {ps : List (Key × V)}, Paired (fun a (p : Key × V) => H a = some (.tup [kV p.1, p.2])) as ps →
    ∃ uvs : List (Value × Value), uvs.length = ps.length ∧ ∀ (i : Nat) a p, as[i]? = some a → ps[i]? = some p → ∃ uv, uvs[i]? = some uv ∧ RelV (kV p.1) uv.1 ∧ RelV p.2 uv.2 ∧ h.IsTuple a #[uv.1, uv.2]
  | _, _, .nil => ⟨[], rfl, fun i a p h1 => by simp at h1⟩
  | _, _, .cons (a := a0) (b := p0) e t => by
    obtain ⟨uvs, l, q⟩ := pairs_vals ok t
    obtain ⟨_, its, r, tp⟩ := (show ObjOk P w H h a0 (.tup [kV p0.1, p0.2]) from ok _ _ e)
    obtain ⟨u, v, rfl, r1, r2⟩ := vals2 r
    refine ⟨(u, v) :: uvs, by simp [l], fun i a p h1 h2 => ?_⟩
    cases i with
    | zero => cases h1; cases h2; exact ⟨_, rfl, r1, r2, tp⟩
    | succ i => exact q i a p (by simpa using h1) (by simpa using h2)
theorem vals_refs' : ∀ {as : List Addr} {us : List Value}, Vals (as.map V.ref) us → us = as.map Value.ref
  | [], _, .nil => rfl
  | _ :: _, _, .cons r t => by rw [vals_refs' t]; cases r; rfl
theorem call_dictP (hc : X.calm = true) : CallR X (.type "dict") rDictP := by
  intro pins s σ H xs us Q I r h
  obtain ⟨l, as, ps, rfl, hH, hp, h1000, q⟩ := h
  obtain ⟨u, rfl, rx⟩ := vals1 r
  cases rx
  obtain ⟨z, its, n, r, hl, e⟩ := I.lstM hH
  cases vals_refs' r
  have la := Paired.length hp
  obtain ⟨uvs, lu, hu⟩ := pairs_vals I.hok hp
  refine dict_pairs (fun i => (ps.getD i (.inl 0, .non)).1) (fun i => (uvs.getD i (.none, .none)).2) (I.ok.hd hc) e (by rw [List.length_map]; omega) (fun i v hv => ?_) fun h' tk dd kp => ?_
  · rw [List.getElem?_map] at hv
    obtain ⟨a, ha, rfl⟩ := Option.map_eq_some_iff.mp hv
    have hi := (List.getElem?_eq_some_iff.mp ha).1
    have ep : ps[i]? = some (ps[i]'(by omega)) := List.getElem?_eq_getElem _
    obtain ⟨uv, e1, e2, e3, e4⟩ := hu i a _ ha ep
    refine ⟨a, uv.1, rfl, ?_, ?_⟩
    · rw [show uvs.getD i (.none, .none) = uv by rw [List.getD, e1]; rfl]; exact e4
    · rw [show ps.getD i (.inl 0, .non) = ps[i]'(by omega) by rw [List.getD, ep]; rfl]; exact kV_is e2
  · have kv : ∀ j, j ≤ ps.length → KV (foldK (ps.take j)) (foldP (fun i => (ps.getD i (.inl 0, .non)).1) (fun i => (uvs.getD i (.none, .none)).2) j) := by
      intro j
      induction j with
      | zero => intro _; exact .nil
      | succ j ih =>
        intro hj
        have ep : ps[j]? = some (ps[j]'(by omega)) := List.getElem?_eq_getElem _
        have ea : as[j]? = some (as[j]'(by omega)) := List.getElem?_eq_getElem _
        obtain ⟨uv, e1, e2, e3, e4⟩ := hu j _ _ ea ep
        rw [foldP_succ, List.take_succ, ep]
        show KV (foldK (ps.take j ++ [ps[j]'(by omega)])) _
        rw [foldK_snoc, show ps.getD j (.inl 0, .non) = ps[j]'(by omega) by rw [List.getD, ep]; rfl, show uvs.getD j (.none, .none) = uv by rw [List.getD, e1]; rfl]
        exact (ih (by omega)).put _ e3
    have kv := kv ps.length (Nat.le_refl _)
    rw [List.take_length] at kv
    rw [List.length_map, la] at dd
    have fl := foldP_len (fun i => (ps.getD i (.inl 0, .non)).1) (fun i => (uvs.getD i (.none, .none)).2) ps.length
    have I2 : Inv X pins σ (upd H s.heap.objs.size (.dK (foldK ps))) { s with heap := h', toks := tk } :=
      I.laid kp (Nat.le_refl _) (dk_new (Nat.le_of_lt (small1000 (by rw [kv.length]; omega))) (beq_eq_false_iff_ne.mpr (Ne.symm (Nat.ne_of_lt I.big))) kv dd)
    exact ⟨.ref s.heap.objs.size, _, I2, rfl, q _ (I.hok.fresh (Nat.le_refl _))⟩
end
end L2
namespace L2
open PySem PySem.Spec PyProof.Rows
def tabsFree (K : PySem.W.Frag) (ts : List Addr) : Bool := ts.all fun P => (K.lookup P).isNone && K.any fun p => PySem.W.codeHdIn K p.1 P
set_option maxHeartbeats 4000000 in
theorem law_callT {P : Program} {w : World} {K : PySem.W.Frag} {mg mb : Str → Option Value} {CX : CXT} {k : Nat} {fa a : Addr} {fd : FuncData} {x : Str} {sp : Sp} {s₁ : Shared} {vs : List Value} {ns : List Int} {ts : List Addr}
    (KX : K.In s₁.heap) (hts : ∀ P ∈ ts, s₁.heap.get? P = some (PySem.W.tabObj #[])) (htf : tabsFree K ts = true) (hbm : BMain mg s₁.heap) (hns : s₁.heap.Ns mainGlobals mg) (hb : s₁.heap.Ns builtinsNs mb) (hbb : ∀ x : Str, x ≠ "__name__" → mb x = bootBuiltins x) (hlim : s₁.heap.NoLimit) (hg : s₁.gens = #[])
    (ha : s₁.heap.get? a = some { cls := .type "list", data := .seq vs.toArray }) (hi : IntsAre vs ns) (hl : ns.length ≤ sizeLine) (hr : Room k callerA)
    (F : ∀ base : Heap, K.In base → base.Ns mainGlobals mg → BMain mg base → FnOk P w K mg base CX k fa fd [x] sp) (hbind : ∀ (s : Shared) (u : Value), BindsTo s fd ⟨[u], []⟩ [(x, u)])
    (hsp : ∀ H : Hp, (∀ P ∈ ts, H P = some (.tbl #[])) → SqL K H a (ns.map V.int) → sp [.ref a] H (fun v _ => v = .bl true) fun _ _ _ => False)
    (hCX : ∀ H e s', CX [] H s₁ (fun _ _ _ => False) e s' → False) :
    codeAny (model P w) callerA (.call (.ref fa) ⟨[.ref a], []⟩) (fun r s' => r = .ok (.ret (.bool true)) ∧ OldK s₁.heap s'.heap ∧ s'.os = s₁.os ∧ AllBare s'.gens) s₁ := by
  have rv := vals_ints hi
  have lenV := hi.length
  have naT : a ∉ ts := fun z => by
    have := hts a z
    rw [ha] at this
    cases this
  have tK : ∀ P ∈ ts, K.lookup P = none ∧ ∃ c, PySem.W.codeHdIn K c P = true := fun P hP => by
    have := List.all_eq_true.mp htf P hP
    rw [Bool.and_eq_true] at this
    obtain ⟨p, _, h2⟩ := List.any_eq_true.mp this.2
    exact ⟨by simpa using this.1, p.1, h2⟩
  have core : ∀ H : Hp, (∀ P ∈ ts, H P = some (.tbl #[])) → SqL K H a (ns.map V.int) → HOk P w H s₁.heap → (∀ b u, H b = some u → (b = a ∧ ∃ o xs, u = .frz o (.lst xs)) ∨ (b ∈ ts ∧ u = .tbl #[])) → (H a ≠ none → K.lookup a = none) →
      codeAny (model P w) callerA (.call (.ref fa) ⟨[.ref a], []⟩) (fun r s' => r = .ok (.ret (.bool true)) ∧ OldK s₁.heap s'.heap ∧ s'.os = s₁.os ∧ AllBare s'.gens) s₁ := by
    intro H hT hS hok hA hK
    have base_of : ∀ {b : Addr} {o : Obj}, s₁.heap.get? b = some o → H b = none → (hidT s₁.heap H).get? b = some o := fun e n => hidT_get e n
    have noT : ∀ {b : Addr} {o : Obj}, s₁.heap.get? b = some o → (∀ vs, o ≠ PySem.W.tabObj vs) → b ≠ a → H b = none := fun {b o} e d n => by
      cases q : H b with
      | none => rfl
      | some u =>
        rcases hA b u q with ⟨e', _⟩ | ⟨hb, _⟩
        · exact absurd e' n
        · have := hts b hb
          rw [e] at this
          exact absurd (Option.some.inj this) (d _)
    have noA : ∀ {b : Addr} {o : Obj} {es : Array DictEntry} {ep : Nat}, s₁.heap.get? b = some o → o.data = .dict es ep → H b = none := fun {b o es ep} e d => by
      refine noT e (fun vs z => ?_) fun z => ?_
      · rw [z] at d; cases d
      · rw [z, ha] at e; cases e; cases d
    have nsK : ∀ {b : Addr} {m : Str → Option Value}, s₁.heap.Ns b m → (hidT s₁.heap H).Ns b m := fun {b m} ⟨o, es, ep, e, d, r⟩ => ⟨o, es, ep, base_of e (noA e d), d, r⟩
    have hKb : K.In (hidT s₁.heap H) := fun b o e => base_of (KX b o e) (by
      cases q : H b with
      | none => rfl
      | some u =>
        rcases hA b u q with ⟨e', _⟩ | ⟨hb, _⟩
        · subst e'
          rw [hK (by rw [q]; simp)] at e; cases e
        · rw [(tK b hb).1] at e; cases e)
    have hBb : BMain mg (hidT s₁.heap H) := by
      obtain ⟨bm, ob, b1, b2, b3, b4, b5, b6⟩ := hbm
      refine ⟨bm, ob, b1, b2, base_of b3 (noT b3 (fun vs z => ?_) fun z => ?_), b4, b5, b6⟩
      · rw [z] at b4; cases b4
      · rw [z, ha] at b3
        cases b3
        have b4 : Value.type "list" = Value.type "module" := b4
        injection b4 with b4
        exact absurd b4 (by decide)
    have hM : Mod K mg (hidT s₁.heap H) := ⟨hKb, nsK hns, ⟨mb, nsK hb, hbb⟩, let ⟨mc, h1, h2⟩ := hlim; ⟨mc, nsK h1, h2⟩⟩
    have e0 : Env0 P w K mg (hidT s₁.heap H) callerA [] s₁ H := ⟨rfl, hM, fun b o e => of_hidT e, Nat.le_of_eq (hidT_size _ _), trivial, fun b hb => absurd (show b ∈ ([] : List Addr) from hb) (by simp), hok, .of_eq hg⟩
    refine codeAny_mono ((F _ hKb (nsK hns) hBb).run callerA [] s₁ H ⟨[.ref a], []⟩ [.ref a] [.ref a] _ _ hr e0 (hbind s₁ (.ref a)) (.cons rfl .nil) (hsp H hT hS)) fun r s' h => ?_
    cases r with
    | error e => exact (hCX H e s' h).elim
    | ok fl =>
      cases fl with
      | next => exact False.elim h
      | brk => exact False.elim h
      | cont => exact False.elim h
      | ret u =>
        obtain ⟨v, H', os, bare, un, hok', r', q⟩ := h
        have q' : v = .bl true := q
        subst q'
        obtain rfl : u = Value.bool true := r'
        have noF : ∀ b : Addr, b ∉ frs [] := fun b z => absurd (show b ∈ ([] : List Addr) from z) (by simp)
        have at' : ∀ b o, s₁.heap.get? b = some o → b ∉ ts → s'.heap.get? b = some o := fun b o e nb => by
          cases q : H b with
          | none => exact un.keep b o e q (noF b) (by simp)
          | some u =>
            rcases hA b u q with ⟨_, ob, xs, rfl⟩ | ⟨hb, _⟩
            · have z2 := un.frzs b ob _ q
              obtain ⟨e1, _⟩ := hok b _ q
              obtain ⟨e2, _⟩ := hok' b _ z2
              rw [e] at e1; cases e1
              exact e2
            · exact absurd hb nb
        have tb : ∀ b ∈ ts, ∃ more, s'.heap.get? b = some (PySem.W.tabObj (#[] ++ more)) := fun b hb => by
          obtain ⟨more, z⟩ := un.tbls b _ (hT b hb)
          exact ⟨more, hok' b _ z⟩
        refine ⟨rfl, ⟨fun b o e => ?_, fun b o e => ?_⟩, os, bare⟩
        · by_cases hb : b ∈ ts
          · obtain ⟨more, z⟩ := tb b hb
            have e1 := hts b hb
            rw [e] at e1
            cases e1
            obtain ⟨c, hc⟩ := (tK b hb).2
            exact .inr (.inl ⟨((PySem.W.codeHd_of_K KX hc).tab e).isCodeTable, rfl, #[], more, rfl, z⟩)
          · exact .inl (at' b o e hb)
        · by_cases hb : b ∈ ts
          · obtain ⟨more, z⟩ := tb b hb
            exact ⟨_, z⟩
          · exact ⟨o, at' b o e hb⟩
  cases hk : K.lookup a with
  | some o =>
    have e := KX a o hk
    rw [ha] at e
    cases e
    refine core (fun b => if b ∈ ts then some (.tbl #[]) else none) (fun P hP => if_pos hP) (.inr ⟨_, vs.toArray, _, hk, rfl, rfl, rfl, by rw [List.size_toArray, lenV]; exact hl, by simpa using rv⟩) (fun b u z => ?_) (fun b u z => ?_) fun z => absurd (if_neg naT) z
    · by_cases hb : b ∈ ts
      · have z' := (if_pos hb).symm.trans z
        cases z'
        exact hts b hb
      · have z' := (if_neg hb).symm.trans z
        cases z'
    · by_cases hb : b ∈ ts
      · have z' := (if_pos hb).symm.trans z
        cases z'
        exact .inr ⟨hb, rfl⟩
      · have z' := (if_neg hb).symm.trans z
        cases z'
  | none =>
    refine core (fun b => if b ∈ ts then some (.tbl #[]) else if b = a then some (.frz { cls := .type "list", data := .seq vs.toArray } (.lst (ns.map V.int))) else none) (fun P hP => if_pos hP) (.inl (.inr ⟨{ cls := .type "list", data := .seq vs.toArray }, (if_neg naT).trans (if_pos rfl)⟩)) (fun b u z => ?_) (fun b u z => ?_) fun _ => hk
    · by_cases hb : b ∈ ts
      · have z' := (if_pos hb).symm.trans z
        cases z'
        exact hts b hb
      · have z' := (if_neg hb).symm.trans z
        by_cases hb2 : b = a
        · have z'' := (if_pos hb2).symm.trans z'
          cases z''
          subst hb2
          exact ⟨ha, by rw [List.length_map]; exact hl, vs, _, rv, ha⟩
        · have z'' := (if_neg hb2).symm.trans z'
          cases z''
    · by_cases hb : b ∈ ts
      · have z' := (if_pos hb).symm.trans z
        cases z'
        exact .inr ⟨hb, rfl⟩
      · have z' := (if_neg hb).symm.trans z
        by_cases hb2 : b = a
        · have z'' := (if_pos hb2).symm.trans z'
          cases z''
          exact .inl ⟨hb2, _, _, rfl⟩
        · have z'' := (if_neg hb2).symm.trans z'
          cases z''
theorem walk_ofT {l : PySem.W.OpenLaw} {n k : Nat} {q : Program} {loose : List Str} {XP : (Str → Option Value) → Heap → Prop} {YP : World → Heap → Prop} {d : DefRec} {K : Params → PySem.W.Frag} {CX : World → CXT} {sp : World → Sp} {x : Str} {ts : List Addr}
    (hn : l.most = some n) (hn2 : n ≤ sizeLine) (hdf : d.params.defaults = []) (hr : Room k callerA)
    (hY : ∀ (w : World) (h : Heap), YP w h → (K w.params).In h) (hYT : ∀ (w : World) (h : Heap), YP w h → ∀ P ∈ ts, h.get? P = some (PySem.W.tabObj #[])) (htf : ∀ p : Params, tabsFree (K p) ts = true)
    (F : ∀ (w : World) (mg : Str → Option Value) (fa : Addr) (h : Heap), (K w.params).In h → h.Ns mainGlobals mg → mg d.name = some (.ref fa) →
      ∃ fd : FuncData, (∀ (s : Shared) (u : Value), BindsTo s fd ⟨[u], []⟩ [(x, u)]) ∧
        ∀ base : Heap, (K w.params).In base → base.Ns mainGlobals mg → BMain mg base → FnOk l.prog w (K w.params) mg base (CX w) k fa fd [x] (sp w))
    (hsp : ∀ (w : World) (H : Hp) (a : Addr) (ns : List Int), ns.length ≤ n → (∀ P ∈ ts, H P = some (.tbl #[])) → SqL (K w.params) H a (ns.map V.int) → sp w [.ref a] H (fun v _ => v = .bl true) fun _ _ _ => False)
    (hCX : ∀ (w : World) (H : Hp) (s : Shared) (e : Value) (s' : Shared), CX w [] H s (fun _ _ _ => False) e s' → False) :
    PySem.W.WalkO q loose XP YP l.row.toRowW d [] (fun f vs => PySem.call f vs) := by
  refine Att.attach_call hn hdf fun w s₀ s₁ mg mb fa o pm cd doc a vs ns G Y ho hd hcd hmg hobj hints hlen hg => ?_
  have KX := hY w _ Y
  obtain ⟨fd, hb, hF⟩ := F w mg fa _ KX G.T.g hmg
  exact law_callT KX (hYT w _ Y) (htf _) G.T.bmain G.T.g G.T.b G.T.builtins G.T.nolimit hg hobj hints (Nat.le_trans hlen hn2) hr hF hb (fun H hT hS => hsp w H a ns hlen hT hS) fun H e s' => hCX w H s₁ e s'
structure DefMT (K : PySem.W.Frag) (C : Addr) (m qual : Str) (st : Stmt) (ps : List Str) (T : Addr) : Prop where
  ex : ∃ (f c : Addr) (fd : FuncData), (∃ (oc : Value) (od : Option Addr) (dV kV doc pm : Value) (an : Option Addr) (ct : Value) (osl : Array (Option Value)),
      fd = PySem.W.fnOf m qual (defArgs st) (defBody st) (defScope st) dV kV doc pm an (.ref c) ct ∧ K.lookup f = some ⟨oc, od, .func fd, osl⟩ ∧ PySem.W.codeIn K (.ref c) qual = true) ∧ PySem.W.codeHdIn K c T = true ∧ Meth K C m f ∧ Binds K fd ps []
theorem DefMT.ok {P : Program} {w : World} {K : PySem.W.Frag} {mg : Str → Option Value} {base : Heap} {C T : Addr} {m qual : Str} {st : Stmt} {N ps : List Str} {k : Nat} {sp : Sp} (D : DefMT K C m qual st ps T) (S : FnScope N ps (defScope st)) (len : ∀ vs H Q E, sp vs H Q E → vs.length = ps.length)
    (hbody : ∀ (f c : Addr) (A : Around) (outer : List Env) (s : Shared) (H : Hp) (vs : List V) (Q : VK) (E : XK), PySem.W.codeHdIn K c T = true → Room k (A.deeper (envOfC qual (defScope st) s.heap.objs.size f (.ref c))) → sp vs H Q E →
      ∃ t, PSs (cxOf CX0 P w K mg base N qual (defScope st) f (.ref c) A outer s H E).nox (defBody st) t ∧ t { nx := fun _ H' => Q .non H', rt := Q } (start N vs) H) : CalleeM P w K mg base (k + 1) C m ps [] noKw sp := by
  obtain ⟨f, c, fd, ⟨oc, od, dV, kV, doc, pm, an, ct, osl, rfl, lk, hcd⟩, hc, mt, b⟩ := D.ex
  refine ⟨f, _, fn_of lk hcd S len fun A outer s H vs Q E hr hsp => ?_, mt, trivial, fun j hj => ?_⟩
  · obtain ⟨t, h, q⟩ := hbody f c A outer s H vs Q E hc hr hsp
    exact ⟨t, h.nox, q⟩
  · obtain rfl : j = 0 := by simpa using hj
    exact ⟨[], .nil, b⟩
end L2
namespace L2
open PySem
def tabOf (K : PySem.W.Frag) (c : Addr) : Addr := match K.lookup c with
  | some ⟨_, _, .fields vs, _⟩ => (match (vs[11]? : Option Value) with | some (.ref P) => P | _ => 0)
  | _ => 0
def spLawT (K : PySem.W.Frag) (ts : List Addr) : Sp := fun vs H Q _ => ∃ (a : Addr) (ns : List Int), vs = [.ref a] ∧ SqL K H a (ns.map V.int) ∧ ns.length ≤ 63 ∧ (∀ P ∈ ts, H P = some (.tbl #[])) ∧ ∀ H', Q (.bl true) H'
end L2
namespace L2
open PySem PySem.Spec PyProof.Rows PyProof
theorem tidx_loop {prog : Program} {w : World} {A : Around} {E : Value → Shared → Prop} {Q : Option PySem.Fin × Unit → Shared → Prop} {s : Shared} (items : Array Value) (x : Value) (e : Value → Bool) (he : ∀ y, y ∈ items → SeqAt.EqAt A.in1 s y x (e y)) (j : Nat) (hj : j < items.size) (hit : e items[j] = true)
    (hno : ∀ m (hm : m < items.size), m < j → e items[m] = false) (h : Q (some (.done (.ret (.int j s.toks))), ()) { s with toks := s.toks + 1 }) : ∀ (k i m : Nat), j - i = k → i ≤ j → j < i + m →
    wpAny (model prog w) A.in1 (forIn (List.range' i m) ((none, ()) : Option PySem.Fin × Unit) fun (i : Nat) __s =>
      match items[i]? with
      | some y => do
        let __do_lift ← eqBool y x
        if __do_lift = true then do
            let __do_lift ← retInt ↑i
            pure (ForInStep.done (some __do_lift, ()))
          else pure (ForInStep.yield (none, ()))
      | x => pure (ForInStep.yield (none, ()))) Q E s := by
  intro k
  induction k with
  | zero =>
    intro i m hk hij hm
    obtain rfl : i = j := by omega
    obtain ⟨m, rfl⟩ : ∃ m', m = m' + 1 := ⟨m - 1, by omega⟩
    rw [List.range'_succ, List.forIn_cons]
    have e1 : items[i]? = some items[i] := by simp [hj]
    rw [e1]
    dsimp only
    refine wpAny_bind (wpAny_bind (he _ (Array.getElem_mem hj) prog w _ _ ?_))
    rw [hit, if_pos rfl]
    obtain ⟨hp, g, d, tk, os⟩ := s
    wp_walk
    exact h
  | succ k ih =>
    intro i m hk hij hm
    obtain ⟨m, rfl⟩ : ∃ m', m = m' + 1 := ⟨m - 1, by omega⟩
    have hi : i < items.size := by omega
    rw [List.range'_succ, List.forIn_cons]
    have e1 : items[i]? = some items[i] := by simp [hi]
    rw [e1]
    dsimp only
    refine wpAny_bind (wpAny_bind (he _ (Array.getElem_mem hi) prog w _ _ ?_))
    rw [hno i hi (by omega)]
    rw [if_neg (by simp)]
    exact wpAny_pure (ih (i + 1) m (by omega) (by omega) (by omega))
theorem tuple_indexAt (l : Addr) (items : Array Value) (n : Nat) (dd : Option Addr) (sl : Array (Option Value)) (x : Value) (e : Value → Bool) (j : Nat) (hj : j < items.size)
    (hit : e items[j] = true) (hno : ∀ m (hm : m < items.size), m < j → e items[m] = false) :
    Meets (Builtin.«tuple.index» ⟨[.ref l, x], []⟩)
      (fun A R s => s.heap.get? l = some { cls := .type "tuple", dict := dd, data := .seq items n, slots := sl } ∧ (∀ y, y ∈ items → SeqAt.EqAt A.in1 s y x (e y)) ∧ R (.ok (.ret (.int j s.toks))) { s with toks := s.toks + 1 }) := by
  intro prog w A R s h
  obtain ⟨hp, g, d, tk, os⟩ := s; obtain ⟨hl, he, h⟩ := h
  unfold Builtin.«tuple.index»
  simp only [Std.Legacy.Range.forIn_eq_forIn_range']
  wp_walk using wpAny_loadPart' hl
  show wpAny _ _ (forIn (List.range' 0 [:min items.size items.size].size) (none, ()) _) _ _ _
  refine tidx_loop items x e he j hj hit hno ?_ _ 0 _ rfl (Nat.zero_le _) (by simp [Std.Legacy.Range.size]; exact hj)
  exact wpAny_pure h
section
variable {X : Cx}
def isIntOf (k : Int) : Value → Bool
  | .int i _ => i == k
  | _ => false
def rIndexT (K : PySem.W.Frag) : V → List V → Hp → VK → Prop := fun x vs H Q => ∃ (l : Addr) (k : Int) (ns : List Int) (j : Nat), x = .ref l ∧ vs = [.int k] ∧ SqT K H l (ns.map V.int) ∧ ns[j]? = some k ∧ (∀ m, m < j → ns[m]? ≠ some k) ∧ Q (.int (j : Nat)) H
theorem mt_indexT (K : PySem.W.Frag) (hK : X.K = K := by rfl) : MtR X "tuple.index" (rIndexT K) := by
  subst hK
  intro pins s σ H x vs v us Q I rx rv h
  obtain ⟨l, k, ns, j, rfl, rfl, hH, hj, hno, q⟩ := h
  cases rx
  obtain ⟨u, rfl, ru⟩ := rv.one
  obtain ⟨tk, rfl⟩ := ru
  obtain ⟨its, hv, tp, hz⟩ := I.tuple hH
  have hi : IntsAre its ns := intsAre_of hv
  obtain ⟨⟨oc, od, odt, osl⟩, g1, g2, n, g3⟩ := tp
  cases g2
  cases g3
  have ln := hi.length
  obtain ⟨jl, je⟩ := List.getElem?_eq_some_iff.mp hj
  have at_ : ∀ m (hm : m < its.toArray.size), ∃ t, its.toArray[m] = .int (ns[m]'(by simp at hm; omega)) t := fun m hm => by
    have hm' : m < its.length := by simpa using hm
    obtain ⟨t, ht⟩ := hi.get m _ (List.getElem?_eq_getElem (by omega))
    refine ⟨t, ?_⟩
    rw [List.getElem?_eq_getElem hm'] at ht
    simpa using Option.some.inj ht
  refine call_meets PySem.F.slot_tuple_index ⟨_, g1, rfl⟩ PySem.F.entry_tuple_index (PySem.F.args_tuple_index_2 _ _) (tuple_indexAt l _ n _ _ (.int k tk) (isIntOf k) j (by simp; omega) ?_ fun m hm h2 => ?_) ⟨g1, fun y hy => ?_, ?_⟩
  · obtain ⟨t, ht⟩ := at_ j (by simp; omega)
    rw [ht]
    exact beq_iff_eq.mpr je
  · obtain ⟨t, ht⟩ := at_ m hm
    rw [ht]
    refine beq_eq_false_iff_ne.mpr fun z => hno m h2 ?_
    rw [← z]
    exact List.getElem?_eq_getElem _
  · obtain ⟨m, hm, rfl⟩ := Array.mem_iff_getElem.mp hy
    obtain ⟨t, ht⟩ := at_ m hm
    rw [ht]
    have := SeqAt.EqAt.int_int (A := X.A.in1) (s := s) (ns[m]'(by simp at hm; omega)) t k tk
    exact this
  · exact ⟨.int _, H, I.tok _, ⟨_, rfl⟩, q⟩
end
structure ClsM (K : PySem.W.Frag) (C : Addr) (m : Str) : Prop where
  sg : PySem.W.specialIn K (.ref C) "__getattribute__" = some (some (.builtin "type.__getattribute__"))
  rd : PySem.W.readsIn K C (.type "type") = true
  val : ∃ f, PySem.W.findIn K (.ref C) m = some (some (.ref f)) ∧ PySem.W.findCls K (.ref C) (.type "type") m = some (.val (.ref f))
section
variable {X : Cx} {k n : Nat} {C : Addr} {ps : List Str} {dvs : List V} {kb : FuncData → Prop} {sp : Sp} {x m : Str} {p pos apos : Pos} {e : Expr} {es : List Expr} {t : TA}
theorem pe_clsm {pl : Sem Bool} (c : ClsM X.K C m) (Z : CalleeM X.prog X.w X.K X.mg X.base k C m ps dvs kb sp) (hr : Room n X.A) (hg : Gl X x) (hm : X.mg x = some (.ref C)) (ha : PA X (e :: es) t) (hk : k ≤ n := by decide)
    (hdb : (x == ("__debug__" : Str)) = false := by decide) (hst : starEach (e :: es) X.env = (false, eval e X.env) :: starEach es X.env := by rfl) (hpl : (backTo pos (starEach es X.env)).any (·.1) = false := by rfl)
    (ht : eval (.Call (.Attribute (.Name x p) m apos) (e :: es) [] pos) X.env = (do
      let ov ← eval (.Name x p) X.env
      standAt apos.atName
      let (f, first) ← holding [ov] (getMethod ov m pl)
      callWith pos f first (backTo pos (starEach (e :: es) X.env)) (backToKw pos (keywordEach [] X.env))) := by rfl) :
    PE X (.Call (.Attribute (.Name x p) m apos) (e :: es) [] pos) (tCall sp [] E0 t) := by
  obtain ⟨f, fd, F, mt, hkb, b⟩ := Z.ex
  obtain ⟨ds, hv, hb⟩ := b dvs.length (Nat.le_refl _)
  rw [List.drop_length] at hv
  cases hv
  obtain ⟨f', v1, v2⟩ := c.val
  rw [mt.at_] at v1
  cases v1
  intro pins s σ H Q I h
  refine PySem.W.methodCall_KW (pl := pl) (ld_glob I hg hm ?_ hdb) ht
  refine PySem.W.method_cls I.kIn c.sg (PySem.W.cls_value I.kIn c.rd v2 rfl ?_)
  have I1 := I.tok (s.toks + 1)
  refine PySem.W.callWith_K (first := []) (h₀ := X.base) I.ok.mod.kin mt.kp (thn (ha pos pins _ σ H _ I1 h) fun us s2 ⟨vs, H2, I2, r, q2⟩ => ⟨I2.kIn, ?_⟩) hst hpl
  exact run_fn (us := us) (vs := vs) F (hr.mono hk) hb .nil pass0 I2 r q2
end
section
variable {X : Cx}
def rTupleF (K : PySem.W.Frag) : List V → Hp → VK → Prop := fun xs H Q => ∃ p ys, xs = [.ref p] ∧ ((SqL K H p ys ∧ ∀ (l : Addr) (ob : Obj), H l = none → ob.dict = none → Q (.ref l) (upd H l (.frz ob (.tup ys)))) ∨ (SqT K H p ys ∧ Q (.ref p) H))
theorem call_tupleF (K : PySem.W.Frag) (hK : X.K = K := by rfl) : CallR X (.type "tuple") (rTupleF K) := by
  subst hK
  intro pins s σ H xs us Q I r h
  obtain ⟨p, ys, rfl, h⟩ := h
  obtain ⟨u, rfl, rx⟩ := vals1 r
  cases rx
  rcases h with ⟨hq, q⟩ | ⟨hq, q⟩
  · obtain ⟨its, r', pl, hz⟩ := I.list hq
    have hlen := r'.length
    refine call_tuple_list pl.isList (fun h' kp => ?_) (by simp only [List.size_toArray] <;> omega)
    have I1 : Inv X pins σ H { s with heap := h' } := I.kept (t' := s.toks) kp
    have I2 : Inv X pins σ (upd H h'.objs.size (.frz { cls := .type "tuple", data := .seq its.toArray } (.tup ys))) { s with heap := h'.push { cls := .type "tuple", data := .seq its.toArray } } :=
      I1.laid (t' := s.toks) (fun b o e => Heap.get?_push_of_some _ e) (Nat.le_refl _) (show ObjOk X.prog X.w _ _ _ (.frz _ (.tup ys)) from ⟨Heap.get?_push_size _ rfl, hz, its, r', IsTup.new _ _⟩)
    exact ⟨.ref h'.objs.size, _, I2, rfl, q _ _ (I1.hok.fresh (Nat.le_refl _)) rfl⟩
  · obtain ⟨its, r', pl, hz⟩ := I.tuple hq
    exact call_tuple_same pl ⟨.ref p, H, I, rfl, q⟩
def rSlF (K : PySem.W.Frag) : V → Option Int → Option Int → Hp → VK → Prop := fun x lo hi H Q => ∃ a xs, x = .ref a ∧ SqT K H a xs ∧ ∀ (p : Addr) (H' : Hp), Same H H' → SqT K H' p (cutV xs lo hi) → Q (.ref p) H'
theorem sl_tupF (K : PySem.W.Frag) (hK : X.K = K := by rfl) : SlR X (rSlF K) := by
  subst hK
  intro pins s σ H x v vl vu lo hi sl Q I rx hs pl pu h
  obtain ⟨a, xs, rfl, hx, q⟩ := h
  by_cases hw : HT.sIx xs.length 0 lo = 0 ∧ HT.sIx xs.length xs.length hi = xs.length
  · cases rx
    obtain ⟨its, r, ht, hz⟩ := I.tuple hx
    have hlen : its.toArray.size = xs.length := by rw [List.size_toArray]; exact r.length.symm
    refine ⟨"tuple", _, PyProof.Rows.slot_tuple_getitem.lookup, ht.typeIs, ?_⟩
    refine HT.getItem_tuple_whole ht hs pl pu (by rw [hlen]; exact hw) ⟨.ref a, H, I, rfl, q _ _ (Same.refl H) ?_⟩
    unfold cutV
    rw [hw.1, hw.2, Nat.sub_zero, List.drop_zero, List.take_length]
    exact hx
  · exact sl_tup pins s σ H _ v vl vu lo hi sl Q I rx hs pl pu ⟨a, xs, rfl, hx, hw, fun p hp => q _ _ (fun b u q => by rw [upd_ne (ne_of_none q hp)]; exact q) (SqT.of upd_same)⟩
def rCatF (K : PySem.W.Frag) : R2 := fun x y H Q => ∃ a b xs ys, x = .ref a ∧ y = .ref b ∧ SqT K H a xs ∧ SqT K H b ys ∧ xs.length + ys.length ≤ sizeLine ∧ ∀ (p : Addr) (H' : Hp), Same H H' → SqT K H' p (xs ++ ys) → Q (.ref p) H'
theorem op_catF (K : PySem.W.Frag) (hK : X.K = K := by rfl) : OpR X (binaryOp .Add) (rCatF K) := by
  subst hK
  intro pins s σ H x y v u Q I rx ry h
  obtain ⟨a, b, xs, ys, rfl, rfl, ha, hb, hz, q⟩ := h
  by_cases hx : xs = []
  · cases rx
    cases ry
    obtain ⟨its, r1, p1, _⟩ := I.tuple ha
    obtain ⟨its2, r2, p2, _⟩ := I.tuple hb
    exact HT.cat_tup0 p1 p2 (r1.nil_iff.mpr hx) ⟨.ref b, H, I, rfl, q _ _ (Same.refl H) (by rw [hx, List.nil_append]; exact hb)⟩
  · exact op_catT pins s σ H _ _ v u Q I rx ry ⟨a, b, xs, ys, rfl, rfl, ha, hb, hx, hz, fun hy => q _ _ (Same.refl H) (by rw [hy, List.append_nil]; exact ha), fun _ p hp => q _ _ (fun b u q => by rw [upd_ne (ne_of_none q hp)]; exact q) (SqT.of upd_same)⟩
def tTM (r : V → List V → Hp → VK → Prop) (to : TE) (t : TA) : TE := fun σ H Q => to σ H fun x H1 => (∃ p ob xs, x = .ref p ∧ H1 p = some (.frz ob (.tup xs)) ∧ ob.dict = none) ∧ t σ H1 fun xs H2 => r x xs H2 Q
variable {o e : Expr} {es : List Expr} {to : TE} {t : TA} {name : Str} {id : String} {r : V → List V → Hp → VK → Prop} {apos cpos : Pos}
theorem pe_tm (slot : Slot "tuple" name id) (hty : typeOf (.builtin id) = pure (.type "method_descriptor")) (hm : MtR X id r) (ho : PE X o to) (ha : PA X (e :: es) t)
    (hbase : attributeBase o name X.env (eval o X.env) = eval o X.env := by rfl)
    (hfew : ((backTo cpos (starEach (e :: es) X.env)).all (fun x => !x.1) && (backToKw cpos (keywordEach [] X.env)).all (fun x => x.1.isSome)
      && decide ((e :: es).length + ([] : List Keyword).length + (if ([] : List Keyword).isEmpty then 0 else 1) < 30)) = true := by rfl)
    (hline : (apos.endLine == cpos.line) = true := by rfl) (hs : starEach (e :: es) X.env = (false, eval e X.env) :: starEach es X.env := by rfl) (hplain : (backTo cpos (starEach es X.env)).any (·.1) = false := by rfl) :
    PE X (.Call (.Attribute o name apos) (e :: es) [] cpos) (tTM r to t) := by
  intro pins s σ H Q I h
  refine wpAny_Call_method_late hbase hfew hline rfl (thn (ho pins s σ H _ I h) fun v s1 ⟨x, H1, I1, r1, ⟨p, ob, xs, ex, hp, hd⟩, q1⟩ => ?_)
  subst ex
  obtain rfl : v = Value.ref p := r1
  obtain ⟨g1, _, its, _, tp⟩ := I1.hok p _ hp
  refine ⟨"tuple", id, PySem.F.plainAttrs_tuple, slot, hty, tp.typeIs, fun a e => ?_, ?_⟩
  · cases e
    exact ⟨ob, g1, hd⟩
  have hA := ha cpos pins s1 σ H1 _ I1 q1
  rw [hs] at hA ⊢
  refine Calls.callWith_builtin (by show (false || (backTo cpos (starEach es X.env)).any (·.1)) = false; rw [hplain] <;> rfl) (Calls.evalArgs_plain ?_)
  exact thn hA fun us s2 ⟨vs, H2, I2, r2, q2⟩ => hm pins s2 σ H2 (.ref p) vs _ us Q I2 rfl r2 q2
end
end L2
namespace L2
open PySem PySem.Spec PyProof.Rows
section
variable {X : Cx} {pins : List (Addr × Obj)} {σ : St} {H : Hp} {s : Shared} {scope : Scope} {pos : Pos} {name q : Str} {params : Arguments} {body : List Stmt} {c0 P : Addr}
set_option maxHeartbeats 4000000 in
theorem def_make (I : Inv X pins σ H s) (hcode : X.env.code = .ref c0) (hC : PySem.W.codeHdIn X.K c0 P = true) (hB : BMain X.mg X.base) (hT : TabIs H P pos q)
    (hcf : ∀ x, (x, NameKind.free) ∈ scope.names → ∃ c, X.env.cells.lookup x = some c) {Q : Value → Shared → Prop}
    (h : ∀ (f c : Addr) (cl : List (Str × Addr)) (doc pm ctv : Value) (H' : Hp) (s' : Shared), ButT P H H' → TabHas H' P pos q c → (∀ x c, cl.lookup x = some c → X.env.cells.lookup x = some c) → (∀ x, (x, NameKind.free) ∈ scope.names → ∃ c, cl.lookup x = some c) → s.heap.objs.size ≤ f →
      Inv X ((f, PySem.W.fnMade name q params body scope cl doc pm c ctv) :: pins) σ H' s' → Q (.ref f) s') :
    wpAny (model X.prog X.w) X.A (makeFunction name q params (.stmts body) scope X.env [] [] [] pos pos.line) Q X.xe s := by
  obtain ⟨cl, hcl, hcl1, hcl2⟩ := closure_ok (scope := scope) (env := X.env) hcf
  have C : PySem.W.CodeHd s.heap c0 P := PySem.W.codeHd_of_K I.kIn hC
  have hgs : s.heap.Ns mainGlobals X.mg := I.ok.mod.glob.keeps I.bk
  have hPn : H P ≠ none := by
    rcases hT with e | ⟨c, e, _⟩ <;> rw [e] <;> simp
  have neP : ∀ b o, X.base.get? b = some o → b ≠ P := fun b o e z => by
    have := (I.bs b o e).2
    rw [z] at this
    exact hPn this
  have hgP : mainGlobals ≠ P := by
    obtain ⟨o, es, ep, e, r⟩ := I.ok.mod.glob
    exact neP _ o e
  have hB2 : s.heap.BuiltinsAt X.mg P := by
    obtain ⟨bm, ob, b1, b2, b3, b4, b5, b6⟩ := hB
    refine ⟨bm, ob, b1, b2, fun z => ?_, neP _ _ b3, I.bk _ _ b3, b4, b5, b6⟩
    obtain ⟨o, es, ep, e, hd, _⟩ := I.ok.mod.glob
    rw [z, e] at b3
    cases b3
    rw [hd] at b6
    cases b6
  have nefs : ∀ {f : Addr}, s.heap.objs.size ≤ f → f ≠ X.env.locals ∧ f ∉ X.fs := fun hf => ⟨Nat.ne_of_gt (Nat.lt_of_lt_of_le I.lt hf), I.nofs hf⟩
  rcases hT with hP | ⟨c, hP, hc⟩
  · have gP : s.heap.get? P = some (PySem.W.tabObj #[]) := I.hok P _ hP
    refine PySem.W.makeFunction_K (mg := X.mg) (clos := cl) hcl I.ok.glob hgs hcode C gP trivial rfl hgP hB2 fun c' ctv doc h' tk hx hge hlt hrec htb => ?_
    rw [Array.empty_append] at htb
    have hc' : H c' = none := I.hok.fresh hge
    have nPc : P ≠ c' := fun z => by rw [z] at hP; rw [hP] at hc'; cases hc'
    have nb : ∀ b u, H b = some u → b ≠ c' := fun b u e z => by rw [z, hc'] at e; cases e
    have H1P : upd (upd H P (.tbl #[rawInt pos.line, rawInt pos.col, .ref c'])) c' (CodeO c' q) P = some (.tbl #[rawInt pos.line, rawInt pos.col, .ref c']) := by rw [upd_ne nPc, upd_same]
    have but : ButT P H (upd (upd H P (.tbl #[rawInt pos.line, rawInt pos.col, .ref c'])) c' (CodeO c' q)) := fun b u ne e => by rw [upd_ne (nb b u e), upd_ne ne]; exact e
    have J : Inv X pins σ (upd (upd H P (.tbl #[rawInt pos.line, rawInt pos.col, .ref c'])) c' (CodeO c' q)) { s with heap := h'.push (PySem.W.fnMade name q params body scope cl doc ((X.mg "__name__").getD .none) c' ctv), gens := s.gens, drawn := s.drawn, toks := tk } := by
      refine I.step (ch := []) (fun _ z => nomatch z) (fun b o _ _ _ e n => ?_) (fun b o _ _ _ e n => ⟨o.slots, ?_⟩) (fun b o _ e n => ?_) (fun b o _ e => ?_) (fun b xs e => ?_) (fun b o u e => ?_) (fun b ps e => ?_) (fun m hm => ?_) (fun b u e => ?_) I.bare
      · exact Heap.get?_push_of_some _ (hx b o (fun z => hPn (z ▸ n)) e)
      · exact Heap.get?_push_of_some _ (hx b o (fun z => hPn (z ▸ n)) e)
      · have z : b ≠ P := fun z => hPn (z ▸ n)
        rw [upd_ne (Nat.ne_of_lt (Nat.lt_of_lt_of_le (Heap.lt_size e) hge)), upd_ne z]
        exact n
      · by_cases z : b = P
        · rw [z]
          exact ⟨_, Heap.get?_push_of_some _ htb⟩
        · exact ⟨o, Heap.get?_push_of_some _ (hx b o z e)⟩
      · exact but b _ (fun z => by rw [z, hP] at e; cases e) e
      · exact but b _ (fun z => by rw [z, hP] at e; cases e) e
      · by_cases z : b = P
        · rw [z, hP] at e
          cases e
          rw [z]
          exact ⟨#[rawInt pos.line, rawInt pos.col, .ref c'], by rw [H1P]; simp⟩
        · exact ⟨#[], by rw [but b _ z e]; simp⟩
      · obtain ⟨o, es, ep, e, r⟩ := hm
        exact ⟨o, es, ep, Heap.get?_push_of_some _ (hx _ o (fun z => hPn (by rw [← z]; exact I.free)) e), r⟩
      · by_cases z : b = c'
        · subst z
          rw [upd_same] at e
          cases e
          exact codeO_ok (hrec.push _)
        · rw [upd_ne z] at e
          by_cases z2 : b = P
          · subst z2
            rw [upd_same] at e
            cases e
            exact Heap.get?_push_of_some _ htb
          · rw [upd_ne z2] at e
            refine (I.hok b u e).stay (fun c v hc g => Heap.get?_push_of_some _ (hx c v (fun y => ?_) g)) (fun c hc => but c _ (fun y => ?_) hc) fun c xs hc => but c _ (fun y => ?_) hc
            · subst y
              rcases hc with rfl | hc
              · exact z2 rfl
              · rw [hP] at hc; cases hc
            · rw [y, hP] at hc; cases hc
            · rw [y, hP] at hc; cases hc
    have hsz : s.heap.objs.size ≤ h'.objs.size := Nat.le_of_lt (Nat.lt_of_le_of_lt hge hlt)
    refine h h'.objs.size c' cl doc ((X.mg "__name__").getD .none) ctv _ _ but ⟨H1P, upd_same⟩ hcl1 hcl2 hsz (J.pins_of fun p hp => ?_)
    rcases List.mem_cons.mp hp with rfl | hp
    · obtain ⟨n1, n2⟩ := nefs hsz
      refine ⟨Heap.get?_push_size _ rfl, ?_, n1, n2, fun v z => by cases z⟩
      rw [upd_ne (Nat.ne_of_gt hlt), upd_ne (fun z => ?_)]
      · exact I.hok.fresh hsz
      · have := Heap.lt_size htb
        rw [← z] at this
        exact absurd this (Nat.lt_irrefl _)
    · exact J.pin p (List.mem_append_right _ hp)
  · have gP : s.heap.get? P = some (PySem.W.tabObj #[rawInt pos.line, rawInt pos.col, .ref c]) := I.hok P _ hP
    refine PySem.W.makeFunction_hit (mg := X.mg) (clos := cl) (cv := .ref c) hcl I.ok.glob hgs hcode C gP trivial (by simp [codeAmong, rawInt]) hB2 fun ctv doc h' tk hk hsz => ?_
    have J : Inv X pins σ H { s with heap := h'.push (PySem.W.fnMade name q params body scope cl doc ((X.mg "__name__").getD .none) c ctv), toks := tk } := I.kept fun b u e => Heap.get?_push_of_some _ (hk b u e)
    refine h h'.objs.size c cl doc ((X.mg "__name__").getD .none) ctv H _ (fun b u _ e => e) ⟨hP, hc⟩ hcl1 hcl2 hsz (J.pins_of fun p hp => ?_)
    rcases List.mem_cons.mp hp with rfl | hp
    · obtain ⟨n1, n2⟩ := nefs hsz
      exact ⟨Heap.get?_push_size _ rfl, I.hok.fresh hsz, n1, n2, fun v z => by cases z⟩
    · exact J.pin p (List.mem_append_right _ hp)
end
def CloO (f : Addr) (o : Obj) : HO := .ext fun h => h.get? f = some o
def CelO (c : Addr) (v : Value) : HO := .ext fun h => h.IsCell c (some v)
def CloAt (H : Hp) (name q : Str) (params : Arguments) (body : List Stmt) (scope : Scope) (x0 : Str) (f d : Addr) : Prop :=
  ∃ (c0 c : Addr) (cl : List (Str × Addr)) (doc pm ctv : Value), (∀ x c, cl.lookup x = some c → x = x0 ∧ c = c0) ∧ cl.lookup x0 = some c0 ∧ H f = some (CloO f (PySem.W.fnMade name q params body scope cl doc pm c ctv)) ∧ H c0 = some (CelO c0 (.ref d)) ∧ H c = some (CodeO c q)
def wo (H : Hp) (c : Addr) : Hp := fun b => if b = c then none else H b
theorem wo_ne {H : Hp} {c b : Addr} (n : b ≠ c) : wo H c b = H b := if_neg n
theorem wo_same {H : Hp} {c : Addr} : wo H c c = none := if_pos rfl
theorem wo_none {H : Hp} {c b : Addr} (h : H b = none) : wo H c b = none := by
  by_cases z : b = c
  · rw [z]; exact wo_same
  · rw [wo_ne z]; exact h
section
variable {P : Program} {w : World} {K : PySem.W.Frag} {mg : Str → Option Value} {base : Heap}
theorem fn_raw {CX : CXT} {k : Nat} {f : Addr} {name qual : Str} {params : Arguments} {body : List Stmt} {scope : Scope} {dV kV doc pm cdv ct oc : Value} {an od : Option Addr}
    {osl : Array (Option Value)} {N ps : List Str} {sp : Sp} (lk : K.lookup f = some ⟨oc, od, .func (PySem.W.fnOf name qual params body scope dV kV doc pm an cdv ct), osl⟩) (hcd : PySem.W.codeIn K cdv qual = true) (S : FnScope N ps scope)
    (len : ∀ vs H Q E, sp vs H Q E → vs.length = ps.length)
    (hbody : ∀ (A : Around) (outer : List Env) (s : Shared) (H : Hp) (vs : List V) (Q : VK) (E : XK), Room k (A.deeper (envOfC qual scope s.heap.objs.size f cdv)) → sp vs H Q E →
      ∀ s1, Inv (cxOf CX P w K mg base N qual scope f cdv A outer s H E) [] (start N vs) H s1 → wpAny (model P w) (cxOf CX P w K mg base N qual scope f cdv A outer s H E).A (execs body (cxOf CX P w K mg base N qual scope f cdv A outer s H E).env) (fun fl s' => ∃ u, fl = .ret u ∧ CE outer P w H s Q u s') (cxOf CX P w K mg base N qual scope f cdv A outer s H E).xe s1) :
    FnOk P w K mg base CX (k + 1) f (PySem.W.fnOf name qual params body scope dV kV doc pm an cdv ct) ps sp := by
  refine ⟨len, fun A outer s H args us vs Q E hr e0 hb r hsp => ?_⟩
  have hl := len _ _ _ _ hsp
  have KX : K.In s.heap := e0.mod.kin.keeps fun b o e => (e0.bs b o e).1
  have lim : s.heap.NoLimit := e0.mod.nolimit.keeps fun b o e => (e0.bs b o e).1
  have hkind : ∀ y ∈ ps.zip us, scope.names.lookup y.1 = some .local ∨ (scope.names.lookup y.1 = some .cell ∧ ((cellsFrom (s.heap.objs.size + 1) scope.names []).lookup y.1).isSome = true) := fun ⟨n, v⟩ hy => by
    rcases S.par n (List.of_mem_zip hy).1 with q | q
    · exact .inl q
    · exact .inr ⟨q, PySem.W.cellsFrom_some _ _ _ (.inl q)⟩
  refine codeAny_call_function hr.depth (KX _ _ lk) rfl S.co S.gen rfl (PySem.W.codeRec_of KX hcd) (hb _ _ _ _ ?_)
  refine wpAny_newFunctionEnv_cells S.kind hkind fun env he s1 x => ?_
  subst he
  refine ⟨lim.keeps x.toInCall.keep, codeAny_func ?_⟩
  have I : Inv (cxOf CX P w K mg base N qual scope f cdv A outer s H E) [] (start N vs) H s1 := inv_start S hr.hd e0 hl r x
  refine wpAny_mono (hbody A outer s H vs Q E (hr.deeper _) hsp s1 I) (fun fl s' hs => ?_) fun e s' hs => hs
  obtain ⟨u, rfl, hu⟩ := hs
  exact hu
theorem clo_exit {CX : CXT} {N : List Str} {qual name q x0 : Str} {scope sc : Scope} {f0 f c c0 d : Addr} {cd doc pm ctv : Value} {A : Around} {outer : List Env} {s s' : Shared} {H H' : Hp} {E : XK} {pins : List (Addr × Obj)} {σ : St} {params : Arguments} {body : List Stmt} {cl : List (Str × Addr)}
    (J : Inv (cxOf CX P w K mg base N qual scope f0 cd A outer s H E) ((f, PySem.W.fnMade name q params body sc cl doc pm c ctv) :: pins) σ H' s') (hf : s.heap.objs.size ≤ f) (hc : (cxOf CX P w K mg base N qual scope f0 cd A outer s H E).env.cells.lookup x0 = some c0) (hcell : s'.heap.IsCell c0 (some (.ref d))) (hl1 : ∀ x c, cl.lookup x = some c → x = x0 ∧ c = c0) (hl2 : cl.lookup x0 = some c0) (hcode : H' c = some (CodeO c q)) :
    ∃ H'', Un (frs outer) [] H H'' s.heap s'.heap ∧ HOk P w H'' s'.heap ∧ (∀ b u, H' b = some u → H'' b = some u) ∧ H' f = none ∧ CloAt H'' name q params body sc x0 f d := by
  obtain ⟨g1, g2, g3, g4, g5⟩ := J.pin _ (List.mem_append_right _ (List.mem_cons_self ..))
  have hc0 : H' c0 = none := J.freeC x0 c0 hc
  have ge : s.heap.objs.size ≤ c0 := J.ok.cab x0 c0 rfl hc
  have nfc : f ≠ c0 := fun z => by
    obtain ⟨o, e, hd⟩ := hcell
    rw [← z, g1] at e
    cases e
    exact g5 _ hd
  have g2 : H' f = none := g2
  have kp : ∀ b u, H' b = some u → upd (upd H' f (CloO f (PySem.W.fnMade name q params body sc cl doc pm c ctv))) c0 (CelO c0 (.ref d)) b = some u := fun b u e => by rw [upd_ne (ne_of_none e hc0), upd_ne (ne_of_none e g2)]; exact e
  have old : ∀ b o, s.heap.get? b = some o → b ≠ f ∧ b ≠ c0 := fun b o e => ⟨Nat.ne_of_lt (Nat.lt_of_lt_of_le (Heap.lt_size e) hf), Nat.ne_of_lt (Nat.lt_of_lt_of_le (Heap.lt_size e) ge)⟩
  have U : Un (frs outer) [] H H' s.heap s'.heap := J.base
  refine ⟨upd (upd H' f (CloO f (PySem.W.fnMade name q params body sc cl doc pm c ctv))) c0 (CelO c0 (.ref d)), ⟨U.keep, U.slot, fun b o e n hx => ?_, U.there, fun b xs e => kp _ _ (U.tups b xs e), fun b o u e => kp _ _ (U.frzs b o u e), fun b ps e => ?_⟩, fun b u e => ?_, kp, g2, c0, c, cl, doc, pm, ctv, hl1, hl2, by rw [upd_ne nfc, upd_same], upd_same, kp _ _ hcode⟩
  · obtain ⟨n1, n2⟩ := old b o e
    rw [upd_ne n2, upd_ne n1]
    exact U.free b o e n hx
  · obtain ⟨more, e'⟩ := U.tbls b ps e
    exact ⟨more, kp _ _ e'⟩
  · by_cases z : b = c0
    · subst z
      rw [upd_same] at e
      cases e
      obtain ⟨o, eo, hd⟩ := id hcell
      refine ⟨⟨o, eo, hd⟩, ⟨o, eo⟩, fun h1 h2 y k => ?_⟩
      obtain ⟨o2, e2, d2⟩ := y
      exact ⟨o2, k _ e2, d2⟩
    · rw [upd_ne z] at e
      by_cases z2 : b = f
      · subst z2
        rw [upd_same] at e
        cases e
        exact ⟨g1, ⟨_, g1⟩, fun h1 h2 y k => k _ y⟩
      · rw [upd_ne z2] at e
        exact (J.hok b u e).stay (fun c v _ g => g) (fun c hc => kp _ _ hc) fun c xs hc => kp _ _ hc
end
section
variable {X : Cx} {pins : List (Addr × Obj)} {σ : St} {H : Hp} {s : Shared} {scope : Scope} {p q x0 name : Str} {cl : List (Str × Addr)} {f c c0 d : Addr} {A : Around} {x : V} {u : Value} {params : Arguments} {body : List Stmt}
structure CloScope (scope : Scope) (p x0 : Str) : Prop where
  kind : scope.kind = .function
  co : scope.isCoroutine = false
  gen : scope.isGenerator = false
  nocell : ∀ y ∈ scope.names, y.2 ≠ .cell
  loc : scope.names.lookup p = some .local
  fre : scope.names.lookup x0 = some .free
  only : ∀ y ∈ scope.names, y.2 = .free → y.1 = x0
theorem inv_clo {h1 : Heap} {t' : Nat} (S : CloScope scope p x0) (I : Inv X pins σ H s) (hA : A.frames = some X.stack) (hh : A.handled = none)
    (hc1 : ∀ x c, cl.lookup x = some c → x = x0 ∧ c = c0) (hc2 : cl.lookup x0 = some c0) (hcel : H c0 = some (CelO c0 (.ref d)))
    (k : ∀ b o, s.heap.get? b = some o → h1.get? b = some o) (hn : h1.Ns s.heap.objs.size (fun y => [(p, u)].reverse.lookup y)) (rx : RelV x u) :
    Inv (cxLam X q scope cl f c [p, x0] A s (wo H c0)) [] [some x, some (.ref d)] (wo H c0) { s with heap := h1, toks := t' } := by
  have okX := I.ok
  have isc : h1.IsCell c0 (some (.ref d)) := by
    obtain ⟨o, e, hd⟩ := (I.hok c0 _ hcel).1
    exact ⟨o, k _ _ e, hd⟩
  have wk : ∀ b u, wo H c0 b = some u → b ≠ c0 ∧ H b = some u := fun b u e => by
    by_cases z : b = c0
    · rw [z, wo_same] at e; cases e
    · rw [wo_ne z] at e; exact ⟨z, e⟩
  refine ⟨⟨okX.mod, S.kind, rfl, rfl, Nat.le_refl _, fun x y c e1 e2 => (hc1 x c e1).1.trans (hc1 y c e2).1.symm, fun y hy => ?_, (fun y c z => nomatch z), fun _ => hh, Around.frames_deeper hA, .inr ⟨rfl, rfl⟩, (fun b z => absurd (show b ∈ ([] : List Addr) from z) (by simp)), fun b o e => ⟨(I.bs b o e).1, wo_none (I.bs b o e).2⟩, Nat.le_trans okX.bsz I.sz, (fun b _ _ z => absurd (show b ∈ ([] : List Addr) from z) (by simp)), (fun b z => absurd (show b ∈ ([] : List Addr) from z) (by simp)), I.stack, fun b hb => wo_none (I.stkFree b hb)⟩,
    rfl, I.bare, Un.kept k, ⟨_, hn, fun i y v h1' h2 h3 => ?_⟩, fun y c e => ?_, wo_none (I.hok.fresh (Nat.le_refl _)), fun y c e => ?_, (fun p hp => absurd (show p ∈ ([] : List (Addr × Obj)) from hp) (by simp)), fun b u e => ?_, rfl⟩
  · have hy : scope.names.lookup y = some .cell ∨ scope.names.lookup y = some .free := hy
    rcases hy with hy | hy
    · exact absurd rfl (S.nocell _ (PySem.mem_of_lookup hy))
    · have := S.only _ (PySem.mem_of_lookup hy) rfl
      dsimp only at this
      rw [this]
      exact ⟨c0, hc2⟩
  · match i with
    | 0 =>
      have e1 : p = y := Option.some.inj h1'
      have e2 : x = v := Option.some.inj (Option.some.inj h2)
      subst e1 e2
      refine ⟨u, rx, .inl ⟨S.loc, ?_⟩⟩
      show List.lookup p [(p, u)] = some u
      rw [List.lookup_cons, beq_self_eq_true]
    | 1 =>
      have e1 : x0 = y := Option.some.inj h1'
      have e2 : V.ref d = v := Option.some.inj (Option.some.inj h2)
      subst e1 e2
      exact ⟨.ref d, rfl, .inr ⟨.inr S.fre, c0, hc2, isc⟩⟩
    | i + 2 => cases h1'
  · obtain ⟨_, rfl⟩ := hc1 y c e
    exact ⟨_, isc⟩
  · obtain ⟨_, rfl⟩ := hc1 y c e
    exact wo_same
  · obtain ⟨z, e⟩ := wk b u e
    exact (I.hok.kept k b u e).stay (fun c v _ g => g) (fun b' q' => by rw [wo_ne (fun z => by rw [z, hcel] at q'; cases q')]; exact q') fun b' xs q' => by rw [wo_ne (fun z => by rw [z, hcel] at q'; cases q')]; exact q'
def endC (K : V → Hp → Prop) : Ends := { nx := fun _ _ => False, rt := K }
theorem clo_call {t : TS} {Qy : V → Prop} (S : CloScope scope p x0) (I : Inv X pins σ H s) (hA : A.frames = some X.stack) (hh : A.handled = none) (hroom : A.depth < recursionLimit)
    (hclo : CloAt H name q params body scope x0 f d)
    (hb : ∀ (cl : List (Str × Addr)) (c : Addr) (Hm : Hp), PSs (cxLam X q scope cl f c [p, x0] A s Hm) body t)
    (hbind : ∀ (cl : List (Str × Addr)) (doc pm cv ctv v : Value), bindArgs (PySem.W.fnX name q params body scope cl .none .none doc pm none cv ctv) ⟨[v], []⟩ = pure [(p, v)])
    (rx : RelV x u) (ht : ∀ c0, H c0 = some (CelO c0 (.ref d)) → t (endC fun y H' => H' = wo H c0 ∧ Qy y) [some x, some (.ref d)] (wo H c0)) :
    wpAny (model X.prog X.w) A (call (.ref f) [u]) (fun r s' => Inv X pins σ H s' ∧ ∃ y, RelV y r ∧ Qy y) (fun _ _ => False) s := by
  obtain ⟨c0, c, cl, doc, pm, ctv, hl1, hl2, hf, hcel, hcode⟩ := hclo
  have gf : s.heap.get? f = some (PySem.W.fnMade name q params body scope cl doc pm c ctv) := (I.hok f _ hf).1
  refine wpAny_call (codeAny_call_function hroom gf rfl S.co S.gen rfl (CodeO.of I.hok hcode) ?_)
  rw [hbind]
  refine wpAny_pure (wpAny_newFunctionEnv S.nocell (fun y hy => by rw [List.mem_singleton.mp hy]; exact S.loc) (fun h₁ hns hsb => ⟨(I.nolimit).fresh _ hsb, ?_⟩) S.kind)
  have k : ∀ b o, s.heap.get? b = some o → h₁.get? b = some o := fun b o e => hsb.extBut b o (Nat.ne_of_lt (Heap.lt_size e)) (Heap.get?_push_of_some _ e)
  have J := inv_clo (q := q) (f := f) (c := c) (A := A) (t' := s.toks + 1) S I hA hh hl1 hl2 hcel k hns rx
  refine codeAny_func (wpAny_mono (hb cl c (wo H c0) [] _ _ _ _ J (ht c0 hcel)) (fun fl s' hs => ?_) fun e s' z => z.elim)
  cases fl with
  | next => obtain ⟨_, _, _, z⟩ := hs; exact z.elim
  | brk => obtain ⟨_, _, _, z⟩ := hs; exact z.elim
  | cont => obtain ⟨_, _, _, z⟩ := hs; exact z.elim
  | ret r =>
    obtain ⟨y, σ', H', J', ry, rfl, qy⟩ := hs
    have U : Un (frs X.stack) [] (wo H c0) (wo H c0) s.heap s'.heap := J'.base
    have ce : CE X.stack X.prog X.w H s (fun y' H'' => H'' = H ∧ Qy y') r s' := by
      refine ⟨y, H, J'.os, J'.bare, ⟨fun b o e n hb hx => U.keep b o e (wo_none n) hb hx, fun b o e n hb hx => U.slot b o e (wo_none n) hb hx, fun _ _ _ n _ => n, U.there, fun _ _ e => e, fun _ _ _ e => e, fun b ps e => ⟨#[], by rw [e]; simp⟩⟩, fun b u e => ?_, ry, rfl, qy⟩
      by_cases z : b = c0
      · subst z
        rw [hcel] at e
        cases e
        obtain ⟨o, eo, hd⟩ := (I.hok b _ hcel).1
        obtain ⟨sl, e2⟩ := U.any eo wo_same (by simp)
        refine ⟨⟨_, e2, hd⟩, ⟨_, e2⟩, fun h1 h2 y k => ?_⟩
        obtain ⟨o2, e3, d3⟩ := y
        exact ⟨o2, k _ e3, d3⟩
      · refine (J'.hok b u (by rw [wo_ne z]; exact e)).stay (fun c v _ g => g) (fun b' q' => ?_) fun b' xs q' => ?_
        · by_cases y : b' = c0
          · rw [y, wo_same] at q'; cases q'
          · rw [wo_ne y] at q'; exact q'
        · by_cases y : b' = c0
          · rw [y, wo_same] at q'; cases q'
          · rw [wo_ne y] at q'; exact q'
    obtain ⟨y2, H2, I2, r2, rfl, q2⟩ := I.after ce
    exact ⟨I2, y2, r2, q2⟩
end
section
variable {X : Cx} {e : Expr} {to : TE} {ta : TA} {t : TS} {y p q x0 name : Str} {pn pos : Pos} {scope : Scope} {params : Arguments} {body : List Stmt} {n : Nat}
def tClo (name q : Str) (params : Arguments) (body : List Stmt) (scope : Scope) (x0 : Str) (to : TE) (ta : TA) (t : TS) : TE := fun σ H Q => to σ H fun x H1 => ∃ f d, x = .ref f ∧ CloAt H1 name q params body scope x0 f d ∧ ta σ H1 fun vs H2 => ∃ (v : V) (Qy : V → Prop), vs = [v] ∧ CloAt H2 name q params body scope x0 f d ∧
  (∀ c0, H2 c0 = some (CelO c0 (.ref d)) → t (endC fun y H' => H' = wo H2 c0 ∧ Qy y) [some v, some (.ref d)] (wo H2 c0)) ∧ ∀ y, Qy y → Q y H2
theorem fnAt_of {pins : List (Addr × Obj)} {σ : St} {H : Hp} {s : Shared} {f d : Addr} (I : Inv X pins σ H s) (h : CloAt H name q params body scope x0 f d) : PySem.W.FnAt f s.heap := by
  obtain ⟨c0, c, cl, doc, pm, ctv, _, _, hf, _⟩ := h
  exact ⟨_, _, _, _, (I.hok f _ hf).1⟩
theorem pe_clo (S : CloScope scope p x0) (hr : Room n X.A) (hc : X.calm = true) (ho : PE X (.Name y pn) to) (ha : PA X [e] ta)
    (hb : ∀ (cl : List (Str × Addr)) (f c : Addr) (s : Shared) (H : Hp), Room 0 (cxLam X q scope cl f c [p, x0] X.A s H).A → PSs (cxLam X q scope cl f c [p, x0] X.A s H) body t) (hn : 1 ≤ n := by decide)
    (hbind : ∀ (cl : List (Str × Addr)) (doc pm cv ctv v : Value), bindArgs (PySem.W.fnX name q params body scope cl .none .none doc pm none cv ctv) ⟨[v], []⟩ = pure [(p, v)] := by intros; rfl)
    (he : starEach [e] X.env = (false, eval e X.env) :: starEach [] X.env := by rfl) (hpl : (backTo pos (starEach [] X.env)).any (·.1) = false := by rfl) :
    PE X (.Call (.Name y pn) [e] [] pos) (tClo name q params body scope x0 to ta t) := by
  intro pins s σ H Q I h
  refine wpAny_Call_Name_kw (thn (ho pins s σ H _ I h) fun v s1 ⟨x, H1, I1, rx, f, d, ex, hclo, q1⟩ => ?_)
  subst ex
  obtain rfl : v = Value.ref f := rx
  refine PySem.W.callWith_F (fnAt_of I1 hclo) (thn (ha pos pins s1 σ H1 _ I1 q1) fun us s2 ⟨vs, H2, I2, r, v, Qy, ev, hclo2, ht, qq⟩ => ⟨fnAt_of I2 hclo2, ?_⟩) he hpl
  subst ev
  obtain ⟨u, rfl, ru⟩ := vals1 r
  refine wpAny_mono (clo_call S I2 (A := X.A) I2.ok.frames (I2.ok.hd hc) hr.depth hclo2 (fun cl c Hm => hb cl f c s2 Hm ((hr.mono hn).deeper _)) hbind ru ht) (fun w' s3 hs => ?_) fun _ _ z => z.elim
  obtain ⟨I3, y, ry, qy⟩ := hs
  exact ⟨y, H2, I3, ry, qq y qy⟩
end
end L2
namespace L2
open PySem PySem.Spec PyProof.Rows PyProof
structure DefT (K : PySem.W.Frag) (mg : Str → Option Value) (x : Str) (st : Stmt) (ps : List Str) (T : Addr) : Prop where
  ex : ∃ (f c : Addr) (fd : FuncData), (∃ (oc : Value) (od : Option Addr) (dV kV doc pm : Value) (an : Option Addr) (ct : Value) (osl : Array (Option Value)),
      fd = PySem.W.fnOf x x (defArgs st) (defBody st) (defScope st) dV kV doc pm an (.ref c) ct ∧ K.lookup f = some ⟨oc, od, .func fd, osl⟩ ∧ PySem.W.codeIn K (.ref c) x = true) ∧ PySem.W.codeHdIn K c T = true ∧ PySem.W.keepIn K (.ref f) = true ∧ mg x = some (.ref f) ∧ Binds K fd ps []
section
variable {P : Program} {w : World} {K : PySem.W.Frag} {mg : Str → Option Value} {base : Heap}
theorem DefT.raw {x : Str} {st : Stmt} {N ps : List Str} {k : Nat} {sp : Sp} {T : Addr} (D : DefT K mg x st ps T) (S : FnScope N ps (defScope st)) (len : ∀ vs H Q E, sp vs H Q E → vs.length = ps.length)
    (hbody : ∀ (f c : Addr) (A : Around) (outer : List Env) (s : Shared) (H : Hp) (vs : List V) (Q : VK) (E : XK), PySem.W.codeHdIn K c T = true → Room k (A.deeper (envOfC x (defScope st) s.heap.objs.size f (.ref c))) → sp vs H Q E →
      ∀ s1, Inv (cxOf CX0 P w K mg base N x (defScope st) f (.ref c) A outer s H E) [] (start N vs) H s1 → wpAny (model P w) (cxOf CX0 P w K mg base N x (defScope st) f (.ref c) A outer s H E).A (execs (defBody st) (cxOf CX0 P w K mg base N x (defScope st) f (.ref c) A outer s H E).env) (fun fl s' => ∃ u, fl = .ret u ∧ CE outer P w H s Q u s') (cxOf CX0 P w K mg base N x (defScope st) f (.ref c) A outer s H E).xe s1) :
    Callee P w K mg base (k + 1) x ps sp := by
  obtain ⟨f, c, fd, ⟨oc, od, dV, kV, doc, pm, an, ct, osl, rfl, lk, hcd⟩, hc, kp, m, b⟩ := D.ex
  exact ⟨f, _, fn_raw lk hcd S len fun A outer s H vs Q E hr hsp s1 I => hbody f c A outer s H vs Q E hc hr hsp s1 I, b, kp, m⟩
theorem maker_raw {x name x0 : Str} {qual : Str} {sc scope : Scope} {params : Arguments} {body : List Stmt} {N : List Str} {f c T d : Addr} {A : Around} {outer : List Env} {s s1 : Shared} {H : Hp} {E : XK} {Q : VK} {pos pn pr : Pos} {i : Nat} {σ : St}
    (I : Inv (cxOf CX0 P w K mg base N x sc f (.ref c) A outer s H E) [] σ H s1) (hC : PySem.W.codeHdIn K c T = true) (hB : BMain mg base) (hT : TabIs H T pos qual) (hN : N.Nodup) (hi : N[i]? = some name) (hl : sc.names.lookup name = some .local) (hσ : i < σ.length)
    (h0 : N[0]? = some x0) (hv0 : σ[0]? = some (some (.ref d))) (hn0 : i ≠ 0) (hx0 : sc.names.lookup x0 = some .cell) (honly : ∀ y c', (cellsFrom (s.heap.objs.size + 1) sc.names []).lookup y = some c' → y = x0)
    (hq : qualnameIn (cxOf CX0 P w K mg base N x sc f (.ref c) A outer s H E).env name name = qual) (hfree : ∀ y, (y, NameKind.free) ∈ scope.names → y = x0) (hfree0 : (x0, NameKind.free) ∈ scope.names)
    (hd0 : params.defaults = []) (hk0 : params.kw_defaults = []) (ha : annTrees params none (cxOf CX0 P w K mg base N x sc f (.ref c) A outer s H E).env = [])
    (hr : PE (cxOf CX0 P w K mg base N x sc f (.ref c) A outer s H E) (.Name name pn) (tVar i))
    (k : ∀ (fa : Addr) (H' : Hp), H fa = none → ButT T H H' → TabIs H' T pos qual → CloAt H' name qual params body scope x0 fa d → Q (.ref fa) H') :
    wpAny (model P w) (cxOf CX0 P w K mg base N x sc f (.ref c) A outer s H E).A (execs [.FunctionDef name params body [] none [] scope none name pos, .Return (some (.Name name pn)) pr] (cxOf CX0 P w K mg base N x sc f (.ref c) A outer s H E).env) (fun fl s' => ∃ u, fl = .ret u ∧ CE outer P w H s Q u s') (cxOf CX0 P w K mg base N x sc f (.ref c) A outer s H E).xe s1 := by
  subst hq
  obtain ⟨cx, hcx⟩ := cell_has (n := s.heap.objs.size + 1) hx0
  have hcells : (cxOf CX0 P w K mg base N x sc f (.ref c) A outer s H E).env.cells.lookup x0 = some cx := hcx
  refine wpAny_execs_cons (PySem.W.nestDef_K hd0 hk0 ha ?_)
  refine def_make I rfl hC hB hT (fun y hy => by rw [hfree y hy]; exact ⟨cx, hcells⟩) fun fa c' cl doc pm ctv H' s2 but has hcl1 hcl2 hge I2 => ?_
  refine store_ok (v := .ref fa) I2 hN hi (.inl hl) rfl fun s3 I3 => ?_
  refine wpAny_execs_cons (wpAny_Return_some (thn (hr _ s3 _ _ (fun y G => y = .ref fa ∧ G = H') I3 ⟨.ref fa, ?_, rfl, rfl⟩) fun u s4 hs => ?_))
  · show (σ.set i (some (V.ref fa)))[i]? = some (some (V.ref fa))
    rw [List.getElem?_set_self hσ]
  obtain ⟨y, G, I4, ry, rfl, rfl⟩ := hs
  obtain rfl : u = Value.ref fa := ry
  have hl1 : ∀ z c, cl.lookup z = some c → z = x0 ∧ c = cx := fun z c e => by
    have e' := hcl1 z c e
    have := honly z c e'
    subst this
    rw [hcells] at e'
    cases e'
    exact ⟨rfl, rfl⟩
  have hl2 : cl.lookup x0 = some cx := by
    obtain ⟨c2, e⟩ := hcl2 x0 hfree0
    rw [e, (hl1 _ _ e).2]
  have hcell : s4.heap.IsCell cx (some (.ref d)) := by
    obtain ⟨m, _, hlk⟩ := I4.loc
    have e0 : (σ.set i (some (V.ref fa)))[0]? = some (some (V.ref d)) := by rw [List.getElem?_set_ne hn0]; exact hv0
    obtain ⟨u, ru, lk⟩ := hlk 0 x0 (.ref d) h0 e0 (.inr (.inl hx0))
    cases ru
    rcases lk with ⟨z, _⟩ | ⟨_, c2, e, hc2⟩
    · have z : sc.names.lookup x0 = some .local := z
      rw [hx0] at z
      cases z
    · rw [hcells] at e
      cases e
      exact hc2
  have fresh : H fa = none := by
    have := I4.hok
    cases e : H fa with
    | none => rfl
    | some u =>
      have : s.heap.objs.size ≤ fa := Nat.le_trans I.sz hge
      exact absurd e (by rw [I.hok.fresh hge]; simp)
  have gsz : s.heap.objs.size ≤ fa := Nat.le_trans I.sz hge
  obtain ⟨H'', U, hok, kp, _, clo⟩ := clo_exit I4 gsz hcells hcell hl1 hl2 has.2
  refine ⟨_, rfl, .ref fa, H'', I4.os, I4.bare, U, hok, rfl, k fa H'' fresh (fun b u n e => kp _ _ (but b u n e)) (.inr ⟨c', kp _ _ has.1, kp _ _ has.2⟩) clo⟩
end
section
variable {X : Cx}
def rIndexL (K : PySem.W.Frag) : V → List V → Hp → VK → Prop := fun x vs H Q => ∃ (l : Addr) (k : Int) (ns : List Int) (j : Nat), x = .ref l ∧ vs = [.int k] ∧ H l = some (.lst (ns.map V.int)) ∧ ns[j]? = some k ∧ (∀ m, m < j → ns[m]? ≠ some k) ∧ j ≤ 1000 ∧ Q (.int (j : Nat)) H
theorem mt_indexL (K : PySem.W.Frag) : MtR X "list.index" (rIndexL K) := by
  intro pins s σ H x vs v us Q I rx rv h
  obtain ⟨l, k, ns, j, rfl, rfl, hH, hj, hno, h1000, q⟩ := h
  cases rx
  obtain ⟨u, rfl, ru⟩ := rv.one
  obtain ⟨tk, rfl⟩ := ru
  obtain ⟨z, its, n, r, hl, e⟩ := I.lstM hH
  have hi : IntsAre its ns := intsAre_of r
  have ln := hi.length
  obtain ⟨jl, je⟩ := List.getElem?_eq_some_iff.mp hj
  have at_ : ∀ m (hm : m < its.toArray.size), ∃ t, its.toArray[m] = .int (ns[m]'(by simp at hm; omega)) t := fun m hm => by
    have hm' : m < its.length := by simpa using hm
    obtain ⟨t, ht⟩ := hi.get m _ (List.getElem?_eq_getElem (by omega))
    refine ⟨t, ?_⟩
    rw [List.getElem?_eq_getElem hm'] at ht
    simpa using Option.some.inj ht
  refine call_meets F.slot_list_index ⟨_, e, rfl⟩ F.entry_list_index (F.args_list_index_2 _ _) (SeqAt.list_indexAt l _ n none #[] (.int k tk) (isIntOf k) j (by simp; omega) (by omega) ?_ fun m hm h2 => ?_) ⟨e, fun y hy => ?_, ?_⟩
  · obtain ⟨t, ht⟩ := at_ j (by simp; omega)
    rw [ht]
    exact beq_iff_eq.mpr je
  · obtain ⟨t, ht⟩ := at_ m hm
    rw [ht]
    refine beq_eq_false_iff_ne.mpr fun z => hno m h2 ?_
    rw [← z]
    exact List.getElem?_eq_getElem _
  · obtain ⟨m, hm, rfl⟩ := Array.mem_iff_getElem.mp hy
    obtain ⟨t, ht⟩ := at_ m hm
    rw [ht]
    exact SeqAt.EqAt.int_int _ _ _ _
  · exact ⟨.int _, H, I.tok _, ⟨_, rfl⟩, q⟩
theorem lists_eqAt {A : Around} {pins : List (Addr × Obj)} {s : Shared} {σ : St} {H : Hp} {l l' : Addr} {ns : List Int} (I : Inv X pins σ H s) (hl : SqL X.K H l (ns.map V.int)) (hl' : SqL X.K H l' (ns.map V.int)) (hu : A.units + 1 < cLine) : SeqAt.EqAt A s (.ref l) (.ref l') true := by
  by_cases hab : l = l'
  · subst hab
    exact SeqAt.EqAt.same _
  · obtain ⟨us, r1, p1, _⟩ := I.list hl
    obtain ⟨vs, r2, p2, _⟩ := I.list hl'
    have l1 := r1.length
    have l2 := r2.length
    have := SeqAt.RcAt.lists (A := A) (e := fun j => decide (ns[j]? = ns[j]?)) p1.isList p2.isList (by simp only [List.size_toArray]; omega) (by omega) (items_eq ep_int I (ints_paired ns) (ints_paired ns) r1 r2 (by show A.units + 1 + 0 < cLine; omega))
    refine SeqAt.EqAt.of_refs hab ?_
    rw [show ((List.range us.toArray.size).all fun j => decide (ns[j]? = ns[j]?)) = true by simp] at this
    exact this
def rEqT3 (K : PySem.W.Frag) : R2 := fun x y H Q => ∃ (a b l l' : Addr) (ns : List Int) (i j : Int), x = .ref a ∧ y = .ref b ∧ SqT K H a [.ref l, .int i, .int j] ∧ SqT K H b [.ref l', .int i, .int j] ∧ SqL K H l (ns.map V.int) ∧ SqL K H l' (ns.map V.int) ∧ Q (.bl true) H
theorem op_eqT3 (K : PySem.W.Frag) (hu : X.A.units + 2 < cLine) (h : X.K = K := by rfl) : OpR X (compareOp .Eq) (rEqT3 K) := by
  subst h
  intro pins s σ H x y v u Q I rx ry h
  obtain ⟨a, b, l, l', ns, i, j, rfl, rfl, ha, hb, hl, hl', q⟩ := h
  cases rx
  cases ry
  obtain ⟨us, r1, p1, _⟩ := I.tuple ha
  obtain ⟨vs, r2, p2, _⟩ := I.tuple hb
  cases r1 with
  | cons r10 r1 =>
  cases r1 with
  | cons r11 r1 =>
  cases r1 with
  | cons r12 r1 =>
  cases r1
  cases r2 with
  | cons r20 r2 =>
  cases r2 with
  | cons r21 r2 =>
  cases r2 with
  | cons r22 r2 =>
  cases r2
  cases r10
  cases r20
  obtain ⟨t1, rfl⟩ := r11
  obtain ⟨t2, rfl⟩ := r12
  obtain ⟨t3, rfl⟩ := r21
  obtain ⟨t4, rfl⟩ := r22
  have := SeqAt.RcAt.tuples (A := X.A) (e := fun _ => true) p1 p2 (by omega) (fun m h1 h2 => by
    match m, h1, h2 with
    | 0, _, _ => exact lists_eqAt I hl hl' (by show X.A.units + 1 + 1 < cLine; omega)
    | 1, _, _ => have := SeqAt.EqAt.int_int (A := X.A.in1) (s := s) i t1 i t3; rwa [beq_self_eq_true] at this
    | 2, _, _ => have := SeqAt.EqAt.int_int (A := X.A.in1) (s := s) j t2 j t4; rwa [beq_self_eq_true] at this)
  refine this X.prog X.w X.xe _ ?_
  exact ⟨.bl true, H, I, rfl, q⟩
end
end L2
namespace My
open PySem L2 PyProof.Rows
seal PE PT PW PA PS PSs PG PI PIfs PO OpR CallR TruR IxR SlR MtR MtM PC
def top (i : Nat) : Stmt := PySem.Challenge.pw_crossracks_k64_hunted.main.body.getD i (.Pass ⟨0, 0, 0, 0⟩)
structure Txt (K : PySem.W.Frag) (mg : Str → Option Value) : Prop where
  m_len : mg "len" = none
  m_isinstance : mg "isinstance" = none
  m_int : mg "int" = none
  m_bool : mg "bool" = none
  m_tuple : mg "tuple" = none
  m_list : mg "list" = none
  m_str : mg "str" = none
  m_set : mg "set" = none
  m_dict : mg "dict" = none
  m_sorted : mg "sorted" = none
  m_range : mg "range" = none
  m_abs : mg "abs" = none
  m_min : mg "min" = none
structure TxtC (K : PySem.W.Frag) (mg : Str → Option Value) (C_Picker : Addr) (C_RoundPicker : Addr) (C_RestedPicker : Addr) (C_HallError : Addr) (C_NoKind : Addr) : Prop where
  mg_Picker : mg "Picker" = some (.ref C_Picker)
  M_Picker : Made K mg "Picker" C_Picker
  cl_Picker : Cls K C_Picker
  n_Picker_ends : NoAttr K C_Picker "ends"
  ty_Picker : ∀ (H : Hp) (a dx : Addr) (fs : List (Str × V)), H a = some (.ins C_Picker dx fs) → TyOf K H (.ref a) (.ref C_Picker)
  mg_RoundPicker : mg "RoundPicker" = some (.ref C_RoundPicker)
  M_RoundPicker : Made K mg "RoundPicker" C_RoundPicker
  cl_RoundPicker : Cls K C_RoundPicker
  n_RoundPicker_ends : NoAttr K C_RoundPicker "ends"
  n_RoundPicker_start : NoAttr K C_RoundPicker "start"
  ty_RoundPicker : ∀ (H : Hp) (a dx : Addr) (fs : List (Str × V)), H a = some (.ins C_RoundPicker dx fs) → TyOf K H (.ref a) (.ref C_RoundPicker)
  mg_RestedPicker : mg "RestedPicker" = some (.ref C_RestedPicker)
  M_RestedPicker : Made K mg "RestedPicker" C_RestedPicker
  cl_RestedPicker : Cls K C_RestedPicker
  n_RestedPicker_ends : NoAttr K C_RestedPicker "ends"
  n_RestedPicker_times : NoAttr K C_RestedPicker "times"
  ty_RestedPicker : ∀ (H : Hp) (a dx : Addr) (fs : List (Str × V)), H a = some (.ins C_RestedPicker dx fs) → TyOf K H (.ref a) (.ref C_RestedPicker)
  mg_HallError : mg "HallError" = some (.ref C_HallError)
  mg_NoKind : mg "NoKind" = some (.ref C_NoKind)
  e_NoKind : ExcC K mg "NoKind" C_NoKind
  x_NoKind : ExcX K C_NoKind
  kv_NoKind : PySem.W.kitOne K (.ref C_NoKind) (.type "ValueError") = some true
  kh_NoKind : PySem.W.exmOne K (.ref C_NoKind) (.ref C_HallError) = some true
  kx_NoKind_HallError : PySem.W.kitOne K (.ref C_NoKind) (.ref C_HallError) = some true
  kx_NoKind_NoKind : PySem.W.kitOne K (.ref C_NoKind) (.ref C_NoKind) = some true
  k_Picker___init__ : ClsM K C_Picker "__init__"
def cell (ns : List Int) (k : Nat) : Int := ns.getD k 0
theorem at_nat {ns : List Int} {k : Nat} (h : k < ns.length) : atI (ns.map V.int) (k : Int) = some (.int (cell ns k)) := atI_nat (by
  rw [List.getElem?_map, List.getElem?_eq_getElem h]
  simp [cell, List.getD, h])
theorem same_new {H : Hp} {p : Addr} (h : H p = none) (o : HO) : Same H (upd H p o) := fun b u q => by rw [upd_ne (ne_of_none q h)]; exact q
def SameX (t : Addr) (H H' : Hp) : Prop := ∀ b u, b ≠ t → H b = some u → H' b = some u
def spCell (K : PySem.W.Frag) : Sp := fun vs H Q _ => ∃ (a : Addr) (ns : List Int) (k : Nat), vs = [.ref a, .int k] ∧ SqL K H a (ns.map V.int) ∧ Q (.int (cell ns k)) H
def spMixed : Sp := fun vs H Q _ => ∃ (c : Int) (k : Nat), vs = [.int c, .int k] ∧ k ≤ 100 ∧ ∀ v : Int, 0 ≤ v → v < 2147483629 → Q (.int v) H
theorem Same.seqT {K : PySem.W.Frag} {H H' : Hp} {a : Addr} {xs : List V} (e : Same H H') (h : SqT K H a xs) : SqT K H' a xs := by
  rcases h with (h | ⟨o, h⟩) | h
  · exact .inl (.inl (e _ _ h))
  · exact .inl (.inr ⟨o, e _ _ h⟩)
  · exact .inr h
section
variable {P : Program} {w : World} {K : PySem.W.Frag} {mg : Str → Option Value} {base : Heap}
theorem sc__law_cell_at : FnScope ["_law_script", "_law_k"] ["_law_script", "_law_k"] (defScope (top 10)) := ⟨rfl, rfl, rfl, by decide +kernel, rfl, by decide +kernel, by decide +kernel⟩
theorem ok_cell (T : Txt K mg) (D : Def K mg "_law_cell_at" (top 10) ["_law_script", "_law_k"]) : Callee P w K mg base 1 "_law_cell_at" ["_law_script", "_law_k"] (spCell K) := by
  refine D.ok sc__law_cell_at (fun vs H Q E h => ?_) (fun f cdv A outer s H vs Q E hr h => ?_)
  · obtain ⟨a, ns, k, rfl, _⟩ := h
    rfl
  obtain ⟨a, ns, k, rfl, hS, q⟩ := h
  refine ⟨_, (pss_cons (ps_if (pt_cmpR op_lt (pv 1) (pe_callB (call_lenK K) rfl T.m_len boot_len (pa_cons (pv 0) pa_nil st_name)) (nomark _)) (pss_one (ps_ret (pe_ix (ix_listK K) (pv 0) (pv 1) (fun _ _ => rfl)))) pss_nil)
    (pss_one (ps_ret pe_int))), ?_⟩
  refine ⟨_, rfl, _, rfl, a, _, rfl, .inl hS, _, _, rfl, rfl, _, rfl, ?_⟩
  refine ite2 (fun c => ?_) (fun c => ?_)
  · have c' : (k : Int) < (((ns.map V.int).length : Nat) : Int) := of_decide_eq_true c
    rw [List.length_map] at c'
    exact ⟨_, rfl, _, rfl, a, _, _, _, rfl, rfl, hS, at_nat (by omega), q⟩
  · have c' : ¬ (k : Int) < (((ns.map V.int).length : Nat) : Int) := of_decide_eq_false (Bool.eq_false_iff.mpr c)
    rw [List.length_map] at c'
    have e : cell ns k = 0 := by simp [cell, List.getD, List.getElem?_eq_none (show ns.length ≤ k by omega)]
    rw [e] at q
    exact q
theorem sc__law_mixed : FnScope ["_law_cell", "_law_k"] ["_law_cell", "_law_k"] (defScope (top 12)) := ⟨rfl, rfl, rfl, by decide +kernel, rfl, by decide +kernel, by decide +kernel⟩
theorem ok_mixed (T : Txt K mg) (D : Def K mg "_law_mixed" (top 12) ["_law_cell", "_law_k"]) : Callee P w K mg base 1 "_law_mixed" ["_law_cell", "_law_k"] spMixed := by
  refine D.ok sc__law_mixed (fun vs H Q E h => ?_) (fun f cdv A outer s H vs Q E hr h => ?_)
  · obtain ⟨c, k, rfl, _⟩ := h
    rfl
  obtain ⟨c, k, rfl, hk, q⟩ := h
  refine ⟨_, (pss_one (ps_ret (pe_op op_mod (pe_op op_mul (pe_op op_add (pe_op op_mod (pv 0) pe_int) pe_int) (pe_op op_add pe_int (pe_op op_mul (pe_op op_mul pe_int (pv 1)) (pv 1)))) pe_int))), ?_⟩
  have b1 := Int.emod_nonneg c (show (2147483647 : Int) ≠ 0 by decide)
  have b2 := Int.emod_lt_of_pos c (show (0 : Int) < 2147483647 by decide)
  refine ⟨_, rfl, _, _, rfl, rfl, (by show (0 : Int) < 2147483647; decide), _, _, rfl, rfl, _, rfl, _, _, rfl, rfl, .inl ⟨by decide, by decide⟩, _, rfl, _, _, rfl, rfl, .inr ⟨by omega, by omega⟩, _, _, rfl, rfl, _, _, rfl, rfl, .inl ⟨by omega, by omega⟩, _, _, rfl, rfl, (by show (0 : Int) < 2147483629; decide), ?_⟩
  exact q _ (Int.emod_nonneg _ (by decide)) (Int.emod_lt_of_pos _ (by decide))
end
inductive Pst where
  | first
  | round (st : Nat)
  | rested (cnt : Int → Nat)
def pos0 (ns : List Int) (e : Int) : Nat := ns.idxOf e
def rk (ns : List Int) (cnt : Int → Nat) (e : Int) : Nat := cnt e * 64 + pos0 ns e
def RestedIs (ns : List Int) (cnt : Int → Nat) (ys : List Int) : Prop := (∀ a, a ∈ ys ↔ a ∈ ns) ∧ ys.Pairwise fun a b => rk ns cnt a < rk ns cnt b
def rot (ns : List Int) (st : Nat) : List Int := ns.drop st ++ ns.take st
def OrdIs (ns : List Int) : Pst → List Int → Prop
  | .first, ys => ys = ns
  | .round st, ys => ys = rot ns st
  | .rested cnt, ys => RestedIs ns cnt ys
theorem RestedIs.one {ns : List Int} {cnt : Int → Nat} {ys zs : List Int} (h : RestedIs ns cnt ys) (h' : RestedIs ns cnt zs) : ys = zs := by
  have nd : ∀ {l : List Int}, (l.Pairwise fun a b => rk ns cnt a < rk ns cnt b) → l.Nodup := fun p => p.imp fun {a b} z e => by rw [e] at z; exact absurd z (Nat.lt_irrefl _)
  have pm : ys.Perm zs := (List.perm_ext_iff_of_nodup (nd h.2) (nd h'.2)).mpr fun a => (h.1 a).trans (h'.1 a).symm
  exact pm.eq_of_pairwise (fun a b _ _ z1 z2 => absurd z2 (Nat.lt_asymm z1)) h.2 h'.2
theorem OrdIs.one {ns : List Int} {s : Pst} {ys zs : List Int} (h : OrdIs ns s ys) (h' : OrdIs ns s zs) : ys = zs := by
  cases s with
  | first => exact h.trans h'.symm
  | round st => exact h.trans h'.symm
  | rested cnt => exact RestedIs.one h h'
theorem RestedIs.perm {ns : List Int} {cnt : Int → Nat} {ys : List Int} (nd : ns.Nodup) (h : RestedIs ns cnt ys) : ys.Perm ns := (List.perm_ext_iff_of_nodup (h.2.imp fun {a b} z e => by rw [e] at z; exact absurd z (Nat.lt_irrefl _)) nd).mpr h.1
theorem OrdIs.len {ns : List Int} {s : Pst} {ys : List Int} (h : OrdIs ns s ys) (nd : ns.Nodup) : ys.length = ns.length := by
  cases s with
  | first => rw [show ys = ns from h]
  | round st => rw [show ys = rot ns st from h, rot, List.length_append, List.length_drop, List.length_take]; omega
  | rested cnt => exact (RestedIs.perm nd h).length_eq
theorem OrdIs.mem {ns : List Int} {s : Pst} {ys : List Int} (h : OrdIs ns s ys) (a : Int) : a ∈ ys ↔ a ∈ ns := by
  cases s with
  | first => rw [show ys = ns from h]
  | round st =>
    rw [show ys = rot ns st from h, rot, List.mem_append, or_comm, ← List.mem_append, List.take_append_drop]
  | rested cnt => exact h.1 a
theorem pos0_at {ns : List Int} (nd : ns.Nodup) {i : Nat} (hi : i < ns.length) : pos0 ns ns[i] = i := nd.idxOf_getElem i hi
theorem pos0_lt {ns : List Int} {e : Int} (h : e ∈ ns) : pos0 ns e < ns.length := List.idxOf_lt_length_of_mem h
theorem rested_sort {ns : List Int} {cnt : Int → Nat} (nd : ns.Nodup) (h8 : ns.length ≤ 8) {is : List Nat} (hp : is.Perm (List.range ns.length)) (hs : is.Pairwise (lx fun i => ((cnt (ns.getD i 0) : Nat) : Int))) : RestedIs ns cnt (is.map fun i => ns.getD i 0) := by
  refine ⟨fun a => ?_, ?_⟩
  · rw [List.mem_map]
    constructor
    · rintro ⟨i, hi, rfl⟩
      have : i < ns.length := by simpa using hp.mem_iff.mp hi
      rw [show ns.getD i 0 = ns[i] by simp [this]]
      exact List.getElem_mem _
    · intro ha
      obtain ⟨i, hi, rfl⟩ := List.mem_iff_getElem.mp ha
      exact ⟨i, hp.mem_iff.mpr (by simpa using hi), by simp [hi]⟩
  · rw [List.pairwise_map]
    refine hs.imp_of_mem fun {i j} hi hj z => ?_
    have h1 : i < ns.length := by simpa using hp.mem_iff.mp hi
    have h2 : j < ns.length := by simpa using hp.mem_iff.mp hj
    have e1 : ns.getD i 0 = ns[i] := by simp [h1]
    have e2 : ns.getD j 0 = ns[j] := by simp [h2]
    unfold rk
    unfold lx at z
    dsimp only at z
    rw [e1, e2] at z ⊢
    rw [pos0_at nd h1, pos0_at nd h2]
    omega
def byCounts (ns : List Int) (cnt : Int → Nat) (ms : List Int) : List Int := ms.flatMap fun m => ns.filter fun e => decide (((cnt e : Nat) : Int) = m)
theorem byCounts_len (ns : List Int) (cnt : Int → Nat) : ∀ ms : List Int, (byCounts ns cnt ms).length ≤ ms.length * ns.length
  | [] => Nat.zero_le _
  | m :: ms => by
    have ih := byCounts_len ns cnt ms
    have := List.length_filter_le (fun e => decide (((cnt e : Nat) : Int) = m)) ns
    unfold byCounts at ih ⊢
    rw [List.flatMap_cons, List.length_append, List.length_cons, Nat.succ_mul]
    omega
theorem rested_counts {ns : List Int} {cnt : Int → Nat} (nd : ns.Nodup) (h8 : ns.length ≤ 8) {ms : List Int} (hs : ms.Pairwise (· < ·)) (hm : ∀ e ∈ ns, ((cnt e : Nat) : Int) ∈ ms) : RestedIs ns cnt (byCounts ns cnt ms) := by
  refine ⟨fun a => ?_, ?_⟩
  · unfold byCounts
    rw [List.mem_flatMap]
    constructor
    · rintro ⟨m, _, h⟩
      exact (List.mem_filter.mp h).1
    · intro h
      exact ⟨_, hm a h, List.mem_filter.mpr ⟨h, decide_eq_true rfl⟩⟩
  · unfold byCounts
    rw [List.pairwise_flatMap]
    constructor
    · intro m _
      have pw : ns.Pairwise fun a b => pos0 ns a < pos0 ns b := List.pairwise_iff_getElem.mpr fun i j hi hj hij => by rw [pos0_at nd hi, pos0_at nd hj]; exact hij
      refine List.Pairwise.imp_of_mem ?_ (pw.filter _)
      intro a b ha hb z
      have h1 := of_decide_eq_true (List.mem_filter.mp ha).2
      have h2 := of_decide_eq_true (List.mem_filter.mp hb).2
      unfold rk
      omega
    · refine hs.imp fun {m m'} hmm x hx y hy => ?_
      have h1 := of_decide_eq_true (List.mem_filter.mp hx).2
      have h2 := of_decide_eq_true (List.mem_filter.mp hy).2
      have p1 := pos0_lt (List.mem_filter.mp hx).1
      have p2 := pos0_lt (List.mem_filter.mp hy).1
      unfold rk
      omega
structure CD (kvs : List (Key × V)) (ns : List Int) (cnt : Int → Nat) : Prop where
  val : ∀ e ∈ ns, valV kvs (.inl e) = some (.int ((cnt e : Nat) : Int))
  len : kvs.length ≤ 8
def bump (cnt : Int → Nat) (e : Int) : Int → Nat := fun x => if x = e then cnt x + 1 else cnt x
theorem put_len {kvs : List (Key × V)} {k : Key} {v u : V} (h : valV kvs k = some u) : (putK kvs k v).length = kvs.length := by
  unfold putK
  rw [if_pos (by rw [valV_any, h]; rfl), List.length_map]
theorem CD.put {kvs : List (Key × V)} {ns : List Int} {cnt : Int → Nat} (h : CD kvs ns cnt) {e : Int} (he : e ∈ ns) : CD (putK kvs (.inl e) (.int ((cnt e : Nat) + 1 : Int))) ns (bump cnt e) := by
  refine ⟨fun x hx => ?_, by rw [put_len (h.val e he)]; exact h.len⟩
  rw [valV_put]
  unfold bump
  by_cases c : x = e
  · subst c
    rw [if_pos rfl, if_pos rfl]
    simp
  · rw [if_neg (fun z => c (Sum.inl.inj z)), if_neg c]
    exact h.val x hx
theorem put_le (kvs : List (Key × V)) (k : Key) (v : V) : (putK kvs k v).length ≤ kvs.length + 1 := by
  unfold putK
  split
  · rw [List.length_map]; omega
  · rw [List.length_append]; exact Nat.le_refl _
def CZ (kvs : List (Key × V)) (ns : List Int) (j : Nat) : Prop := (∀ e ∈ ns.take j, valV kvs (.inl e) = some (.int 0)) ∧ kvs.length ≤ j
theorem CZ.succ {kvs : List (Key × V)} {ns : List Int} {j : Nat} {e : Int} (h : CZ kvs ns j) (he : ns[j]? = some e) : CZ (putK kvs (.inl e) (.int 0)) ns (j + 1) := by
  refine ⟨fun x hx => ?_, Nat.le_trans (put_le _ _ _) (Nat.succ_le_succ h.2)⟩
  rw [valV_put]
  by_cases c : x = e
  · rw [if_pos (by rw [c])]
  · rw [if_neg (fun z => c (Sum.inl.inj z))]
    rw [List.take_succ, he] at hx
    rcases List.mem_append.mp hx with z | z
    · exact h.1 x z
    · exact absurd (by simpa using z) c
theorem CZ.all {kvs : List (Key × V)} {ns : List Int} (h : CZ kvs ns ns.length) (h8 : ns.length ≤ 8) : CD kvs ns fun _ => 0 := ⟨fun e he => by
  have := h.1 e (by rw [List.take_length]; exact he)
  rw [this]; rfl, Nat.le_trans h.2 h8⟩
theorem cz_fold (ns : List Int) : ∀ j, j ≤ ns.length → CZ (foldK ((ns.take j).map fun e => ((Sum.inl e : Key), V.int 0))) ns j
  | 0, _ => ⟨fun e he => by simp at he, Nat.zero_le _⟩
  | j + 1, h => by
    have e : ns[j]? = some ns[j] := List.getElem?_eq_getElem _
    rw [List.take_succ, e, Option.toList_some, List.map_append]
    show CZ (foldK (_ ++ [((Sum.inl ns[j] : Key), V.int 0)])) ns (j + 1)
    rw [foldK_snoc]
    exact (cz_fold ns j (by omega)).succ e
def tookM (ns : List Int) (e : Int) : Pst → Pst
  | .first => .first
  | .round _ => .round (pos0 ns e + 1)
  | .rested cnt => .rested (bump cnt e)
def startM (ns : List Int) : Option Int → Nat
  | none => 0
  | some e => pos0 ns e + 1
theorem rot_zero (ns : List Int) : rot ns 0 = ns := by simp [rot]
def lastV : Option Int → V
  | none => .non
  | some e => .int e
def lamQ (x : Str) : Str := x ++ ".<locals>." ++ "<lambda>"
theorem tab_same {H H' : Hp} {P : Addr} {pos : Pos} {q : Str} (s : Same H H') (h : TabIs H P pos q) : TabIs H' P pos q := by
  rcases h with h | ⟨c, h1, h2⟩
  · exact .inl (s _ _ h)
  · exact .inr ⟨c, s _ _ h1, s _ _ h2⟩
theorem tab_tbl {H : Hp} {P : Addr} {pos : Pos} {q : Str} (h : TabIs H P pos q) : ∃ ps, H P = some (.tbl ps) := by
  rcases h with h | ⟨c, h1, _⟩
  · exact ⟨_, h⟩
  · exact ⟨_, h1⟩
theorem but_same {P : Addr} {H H1 H2 : Hp} (s : Same H H1) (b : ButT P H1 H2) : ButT P H H2 := fun x u n e => b x u n (s _ _ e)
def posS : Pos := (⟨35, 37, 35, 64⟩ : Pos)
abbrev Tab (T : Addr) (H : Hp) : Prop := TabIs H T posS (lamQ "RestedPicker.order")
theorem Tab.ne {T : Addr} {H : Hp} (t : Tab T H) {b : Addr} {u : HO} (e : H b = some u) (n : ∀ ps, u ≠ .tbl ps) : b ≠ T := fun z => by
  obtain ⟨ps, h⟩ := tab_tbl t
  rw [z, h] at e
  cases e
  exact n _ rfl
theorem ButT.keep {T : Addr} {H H' : Hp} (t : Tab T H) (s : ButT T H H') {b : Addr} {u : HO} (e : H b = some u) (n : ∀ ps, u ≠ .tbl ps) : H' b = some u := s b u (t.ne e n) e
theorem same_but {T : Addr} {H H' : Hp} (s : Same H H') : ButT T H H' := fun b u _ e => s b u e
theorem but_none {T D : Addr} {H H' : Hp} (t : Tab T H') (s : ButT T H H') (h : H' D = none) : H D = none := by
  cases e : H D with
  | none => rfl
  | some u =>
    by_cases z : D = T
    · obtain ⟨ps, hT⟩ := tab_tbl t
      rw [z, hT] at h
      cases h
    · rw [s D u z e] at h; cases h
theorem tabhas_same {H H' : Hp} {P : Addr} {pos : Pos} {q : Str} {c : Addr} (s : Same H H') (h : TabHas H P pos q c) : TabHas H' P pos q c := ⟨s _ _ h.1, s _ _ h.2⟩
theorem ButT.trans {T : Addr} {H H1 H2 : Hp} (a : ButT T H H1) (b : ButT T H1 H2) : ButT T H H2 := fun x u n e => b x u n (a x u n e)
theorem cutV_to {α : Type} (f : α → V) (l : List α) {a : Nat} (ha : a ≤ l.length) : cutV (l.map f) none (some (a : Int)) = (l.take a).map f := by
  unfold cutV
  rw [HT.sIx_none, HT.sIx_nat, List.length_map, Nat.min_eq_left ha, List.drop_zero, Nat.sub_zero, List.map_take]
theorem cutV_from {α : Type} (f : α → V) (l : List α) (a : Nat) : cutV (l.map f) (some (a : Int)) none = (l.drop a).map f := by
  unfold cutV
  rw [HT.sIx_none, HT.sIx_nat, List.length_map, List.map_drop]
  by_cases h : a ≤ l.length
  · rw [Nat.min_eq_left h]
    exact List.take_of_length_le (by rw [List.length_drop, List.length_map]; exact Nat.le_refl _)
  · rw [Nat.min_eq_right (by omega), Nat.sub_self, List.take_zero, List.drop_eq_nil_of_le (by rw [List.length_map]; omega)]
theorem same_none {H H' : Hp} {l : Addr} (s : Same H H') (h : H' l = none) : H l = none := by
  cases e : H l with
  | none => rfl
  | some u => rw [s _ _ e] at h; cases h
def fP (g : Addr) : List (Str × V) := [("ends", .ref g)]
def fR (g : Addr) (st : Nat) : List (Str × V) := [("ends", .ref g), ("start", .int (st : Nat))]
def fS (g d : Addr) : List (Str × V) := [("ends", .ref g), ("times", .ref d)]
theorem fR_put (g : Addr) (st st' : Nat) : putF "start" (.int (st' : Nat)) (fR g st) = fR g st' := by
  simp [putF, fR]
  decide
theorem fP_start (g : Addr) (st : Nat) : putF "start" (.int (st : Nat)) (fP g) = fR g st := by
  simp [putF, fR, fP]
  decide
theorem fP_times (g d : Addr) : putF "times" (.ref d) (fP g) = fS g d := by
  simp [putF, fS, fP]
  decide
inductive PickAt (H : Hp) (CP CR CS g : Addr) (ns : List Int) (p d : Addr) : Pst → Prop
  | first {dx : Addr} (e : H p = some (.ins CP dx (fP g))) : PickAt H CP CR CS g ns p d .first
  | round {dx : Addr} {st : Nat} (e : H p = some (.ins CR dx (fR g st))) (h : st ≤ ns.length) : PickAt H CP CR CS g ns p d (.round st)
  | rested {dx : Addr} {cnt : Int → Nat} {kvs : List (Key × V)} (e : H p = some (.ins CS dx (fS g d))) (hd : H d = some (.dK kvs)) (h : CD kvs ns cnt) : PickAt H CP CR CS g ns p d (.rested cnt)
theorem PickAt.keep {H H' : Hp} {CP CR CS g : Addr} {ns : List Int} {p d : Addr} {s : Pst} (h : PickAt H CP CR CS g ns p d s) (k : ∀ b u, (∀ ps, u ≠ .tbl ps) → (b = p ∨ b = d) → H b = some u → H' b = some u) : PickAt H' CP CR CS g ns p d s := by
  cases h with
  | first e => exact .first (k _ _ (fun ps z => nomatch z) (.inl rfl) e)
  | round e h => exact .round (k _ _ (fun ps z => nomatch z) (.inl rfl) e) h
  | rested e hd h => exact .rested (k _ _ (fun ps z => nomatch z) (.inl rfl) e) (k _ _ (fun ps z => nomatch z) (.inr rfl) hd) h
theorem PickAt.keep' {H H' : Hp} {CP CR CS g : Addr} {ns : List Int} {p d : Addr} {s : Pst} (h : PickAt H CP CR CS g ns p d s) (k : ∀ b u, ((b = p ∧ ∃ C dx fs, u = .ins C dx fs) ∨ (b = d ∧ ∃ c, s = .rested c ∧ ∃ kvs, u = .dK kvs)) → H b = some u → H' b = some u) : PickAt H' CP CR CS g ns p d s := by
  cases h with
  | first e => exact .first (k _ _ (.inl ⟨rfl, _, _, _, rfl⟩) e)
  | round e h => exact .round (k _ _ (.inl ⟨rfl, _, _, _, rfl⟩) e) h
  | rested e hd h => exact .rested (k _ _ (.inl ⟨rfl, _, _, _, rfl⟩) e) (k _ _ (.inr ⟨rfl, _, rfl, _, rfl⟩) hd) h
theorem PickAt.but {H H' : Hp} {CP CR CS g T : Addr} {ns : List Int} {p d : Addr} {s : Pst} (h : PickAt H CP CR CS g ns p d s) (t : Tab T H) (k : ButT T H H') : PickAt H' CP CR CS g ns p d s := h.keep fun b u n _ e => ButT.keep t k e n
theorem PickAt.same {H H' : Hp} {CP CR CS g : Addr} {ns : List Int} {p d : Addr} {s : Pst} (h : PickAt H CP CR CS g ns p d s) (k : Same H H') : PickAt H' CP CR CS g ns p d s := h.keep fun b u _ _ e => k b u e
def wrA (p d : Addr) : Pst → Addr
  | .rested _ => d
  | _ => p
structure Grp (K : PySem.W.Frag) (H : Hp) (g : Addr) (ns : List Int) : Prop where
  fz : ∃ ob : Obj, ob.dict = none ∧ H g = some (.frz ob (.tup (ns.map V.int)))
  nd : ns.Nodup
  h8 : ns.length ≤ 8
  pos : 1 ≤ ns.length
theorem Grp.at_ {K : PySem.W.Frag} {H : Hp} {g : Addr} {ns : List Int} (h : Grp K H g ns) : SqT K H g (ns.map V.int) := let ⟨ob, _, e⟩ := h.fz; .inl (.inr ⟨ob, e⟩)
theorem Grp.same {K : PySem.W.Frag} {H H' : Hp} {g : Addr} {ns : List Int} (h : Grp K H g ns) (s : Same H H') : Grp K H' g ns := ⟨let ⟨ob, d, e⟩ := h.fz; ⟨ob, d, s _ _ e⟩, h.nd, h.h8, h.pos⟩
theorem Grp.but {K : PySem.W.Frag} {H H' : Hp} {g T : Addr} {ns : List Int} (h : Grp K H g ns) (t : Tab T H) (s : ButT T H H') : Grp K H' g ns := ⟨let ⟨ob, d, e⟩ := h.fz; ⟨ob, d, ButT.keep t s e fun ps z => nomatch z⟩, h.nd, h.h8, h.pos⟩
def spOrder (K : PySem.W.Frag) (CP CR CS T : Addr) (D : Pst → Prop) : Sp := fun vs H Q _ => ∃ (p d g : Addr) (ns : List Int) (st : Pst), vs = [.ref p] ∧ D st ∧ Grp K H g ns ∧ PickAt H CP CR CS g ns p d st ∧ Tab T H ∧
  ∀ (l : Addr) (ys : List Int) (H' : Hp), H l = none → OrdIs ns st ys → ButT T H H' → Tab T H' → H' l = some (.lst (ys.map V.int)) → Q (.ref l) H'
def spTook (K : PySem.W.Frag) (CP CR CS : Addr) (D : Pst → Prop) : Sp := fun vs H Q _ => ∃ (p d g : Addr) (ns : List Int) (st : Pst) (e : Int), vs = [.ref p, .int e] ∧ D st ∧ Grp K H g ns ∧ PickAt H CP CR CS g ns p d st ∧ e ∈ ns ∧
  ∀ H' : Hp, (∀ b u, b ≠ wrA p d st → H b = some u → H' b = some u) → PickAt H' CP CR CS g ns p d (tookM ns e st) → Q .non H'
def isF : Pst → Prop := fun s => s = .first
def isR : Pst → Prop := fun s => ∃ st, s = .round st
def isS : Pst → Prop := fun s => ∃ cnt, s = .rested cnt
def spPInit (K : PySem.W.Frag) : Sp := fun vs H Q _ => ∃ (p dx g C : Addr) (ns : List Int), vs = [.ref p, .ref g] ∧ H p = some (.ins C dx []) ∧ Cls K C ∧ NoAttr K C "ends" ∧ Grp K H g ns ∧ Q .non (upd H p (.ins C dx (fP g)))
def spInit (K : PySem.W.Frag) (CP CR CS C : Addr) (s0 : Pst) : Sp := fun vs H Q _ => ∃ (p dx g : Addr) (ns : List Int), vs = [.ref p, .ref g] ∧ H p = some (.ins C dx []) ∧ Grp K H g ns ∧
  ∀ (d : Addr) (H' : Hp), d ≠ p → (∀ cnt, s0 = .rested cnt → H d = none) → SameX p H H' → PickAt H' CP CR CS g ns p d s0 → Q .non H'
section
variable {P : Program} {w : World} {K : PySem.W.Frag} {mg : Str → Option Value} {base : Heap} {C_Picker C_RoundPicker C_RestedPicker C_HallError C_NoKind : Addr} {T_RestedPicker_order T__law_way_of : Addr}
theorem sc_Picker___init__ : FnScope ["self", "group"] ["self", "group"] (defScope (inClass (top 4) 0)) := ⟨rfl, rfl, rfl, by decide +kernel, rfl, by decide +kernel, by decide +kernel⟩
theorem ok_pinit (T : Txt K mg) (Z : TxtC K mg C_Picker C_RoundPicker C_RestedPicker C_HallError C_NoKind) (D : DefM K C_Picker "__init__" "Picker.__init__" (inClass (top 4) 0) ["self", "group"] [] noKw) : CalleeM P w K mg base 1 C_Picker "__init__" ["self", "group"] [] noKw (spPInit K) := by
  refine D.ok sc_Picker___init__ (fun vs H Q E h => ?_) (fun f cdv A outer s H vs Q E hr h => ?_)
  · obtain ⟨p, dx, g, C, ns, rfl, _⟩ := h
    rfl
  obtain ⟨p, dx, g, C, ns, rfl, hp, hc, hn, hg, q⟩ := h
  refine ⟨_, (pss_one (ps_fld (pv 0) (pe_callTy (call_tupleF K) rfl T.m_tuple boot_tuple (pa_cons (pv 1) pa_nil st_name)) rfl)), ?_⟩
  refine ⟨_, rfl, g, _, rfl, .inr ⟨hg.at_, ?_⟩⟩
  exact ⟨_, rfl, p, C, dx, _, rfl, hp, hc, hn, (by show 0 < 1000; decide), q⟩
theorem sc_RoundPicker___init__ : FnScope ["self", "group"] ["self", "group"] (defScope (inClass (top 5) 0)) := ⟨rfl, rfl, rfl, by decide +kernel, rfl, by decide +kernel, by decide +kernel⟩
theorem ok_rinit (T : Txt K mg) (Z : TxtC K mg C_Picker C_RoundPicker C_RestedPicker C_HallError C_NoKind) (C_Picker___init__ : CalleeM P w K mg base 1 C_Picker "__init__" ["self", "group"] [] noKw (spPInit K)) (D : DefM K C_RoundPicker "__init__" "RoundPicker.__init__" (inClass (top 5) 0) ["self", "group"] [] noKw) : CalleeM P w K mg base 2 C_RoundPicker "__init__" ["self", "group"] [] noKw (spInit K C_Picker C_RoundPicker C_RestedPicker C_RoundPicker (.round 0)) := by
  refine D.ok sc_RoundPicker___init__ (fun vs H Q E h => ?_) (fun f cdv A outer s H vs Q E hr h => ?_)
  · obtain ⟨p, dx, g, ns, rfl, _⟩ := h
    rfl
  obtain ⟨p, dx, g, ns, rfl, hp, hg, q⟩ := h
  refine ⟨_, (pss_cons (ps_expr (pe_clsm Z.k_Picker___init__ C_Picker___init__ hr rfl Z.mg_Picker (pa_cons (pv 0) (pa_cons (pv 1) pa_nil st_name) st_name)))
    (pss_one (ps_fld (pv 0) pe_int rfl))), ?_⟩
  refine ⟨_, rfl, _, rfl, p, dx, g, C_RoundPicker, ns, rfl, hp, Z.cl_RoundPicker, Z.n_RoundPicker_ends, hg, ?_⟩
  refine ⟨_, rfl, p, C_RoundPicker, dx, _, rfl, upd_same, Z.cl_RoundPicker, Z.n_RoundPicker_start, (by show 1 < 1000; decide), ?_⟩
  refine q (p + 1) _ (Nat.succ_ne_self p) (fun cnt z => nomatch z) (fun b u hb e => by rw [upd_ne hb, upd_ne hb]; exact e) (.round (dx := dx) (by rw [upd_same]; exact congrArg (fun z => some (HO.ins C_RoundPicker dx z)) (fP_start g 0)) (Nat.zero_le _))
theorem sc_RestedPicker___init__ : FnScope ["self", "group"] ["self", "group"] (defScope (inClass (top 6) 0)) := ⟨rfl, rfl, rfl, by decide +kernel, rfl, by decide +kernel, by decide +kernel⟩
theorem ok_sinit (T : Txt K mg) (Z : TxtC K mg C_Picker C_RoundPicker C_RestedPicker C_HallError C_NoKind) (C_Picker___init__ : CalleeM P w K mg base 1 C_Picker "__init__" ["self", "group"] [] noKw (spPInit K)) (D : DefM K C_RestedPicker "__init__" "RestedPicker.__init__" (inClass (top 6) 0) ["self", "group"] [] noKw) : CalleeM P w K mg base 2 C_RestedPicker "__init__" ["self", "group"] [] noKw (spInit K C_Picker C_RoundPicker C_RestedPicker C_RestedPicker (.rested fun _ => 0)) := by
  refine D.ok sc_RestedPicker___init__ (fun vs H Q E h => ?_) (fun f cdv A outer s H vs Q E hr h => ?_)
  · obtain ⟨p, dx, g, ns, rfl, _⟩ := h
    rfl
  obtain ⟨p, dx, g, ns, rfl, hp, hg, q⟩ := h
  refine ⟨_, (pss_cons (ps_expr (pe_clsm Z.k_Picker___init__ C_Picker___init__ hr rfl Z.mg_Picker (pa_cons (pv 0) (pa_cons (pv 1) pa_nil st_name) st_name)))
    (pss_one (ps_fld (pv 0) (pe_callTy (call_dictP rfl) rfl T.m_dict boot_dict (pa_cons (pe_comp (own := ["end"]) (fr := []) rfl (show CompScope ["self", "group"] (defScope (inClass (top 6) 0)) _ _ _ from ⟨rfl, by decide +kernel, by decide +kernel, by decide +kernel, by decide +kernel⟩) (pi_tupK K (pe_fldK K (pv 0))) (fun cl C s H ex => ⟨(pg_name (i := 0) (show (["end"] : List Str).Nodup from by decide +kernel) rfl (Or.inl rfl) (Or.inr rfl)), pif_nil, (pe_tup (pa_cons (pv 0) (pa_cons pe_int pa_nil st_const) st_name))⟩)) pa_nil st_comp)) rfl))), ?_⟩
  refine ⟨_, rfl, _, rfl, p, dx, g, C_RestedPicker, ns, rfl, hp, Z.cl_RestedPicker, Z.n_RestedPicker_ends, hg, ?_⟩
  have hgp : Grp K (upd H p (.ins C_RestedPicker dx (fP g))) g ns := ⟨let ⟨ob, d, e⟩ := hg.fz; ⟨ob, d, by rw [upd_ne (fun z => by rw [z, hp] at e; cases e)]; exact e⟩, hg.nd, hg.h8, hg.pos⟩
  have ep := upd_same (H := H) (a := p) (o := .ins C_RestedPicker dx (fP g))
  have sx : SameX p H (upd H p (.ins C_RestedPicker dx (fP g))) := fun b u hb e => by rw [upd_ne hb]; exact e
  generalize upd H p (.ins C_RestedPicker dx (fP g)) = H1 at hgp ep sx ⊢
  refine ⟨_, rfl, p, C_RestedPicker, dx, _, _, rfl, ep, Z.cl_RestedPicker, Z.n_RestedPicker_ends, rfl, g, rfl, ⟨_, hgp.at_⟩, ?_⟩
  refine comp_tup (xs := ns.map V.int) (fun i acc σ G => Same H1 G ∧ (∃ (ts : List Addr), acc = ts.map V.ref ∧ Paired (fun a (p : Key × V) => G a = some (.tup [kV p.1, p.2])) ts ((ns.take i).map fun e => ((Sum.inl e : Key), V.int 0))) ∧ ∃ v, σ = [v]) ⟨Same.refl _, ⟨[], rfl, .nil⟩, _, rfl⟩ ?_ ?_ ?_ ?_ ?_
  · rw [List.length_map]; exact Nat.le_trans hg.h8 (by decide)
  · rintro i acc σ G ⟨_, ⟨ts, rfl, hp⟩, _⟩
    have := hp.length
    rw [List.length_map] at this ⊢
    rw [this, List.length_take]
    omega
  · rintro i acc σ G _ ⟨s1, _⟩
    exact (hgp.same s1).at_
  · rintro i x acc σ G hx ⟨s1, ⟨ts, rfl, hP⟩, v, rfl⟩
    rw [List.getElem?_map] at hx
    obtain ⟨e, he, rfl⟩ := Option.map_eq_some_iff.mp hx
    refine ⟨_, rfl, (by show 2 ≤ sizeLine; decide), fun t ht => ?_⟩
    have s3 := same_new ht (.tup [.int e, .int 0])
    refine ⟨s1.trans s3, ⟨ts ++ [t], by rw [List.map_append]; rfl, ?_⟩, _, rfl⟩
    rw [List.take_succ, he, Option.toList_some, List.map_append]
    exact Paired.snoc (paired_mem hP fun a d _ z => s3 _ _ z) upd_same
  · rintro acc σ G ⟨s1, ⟨ts, rfl, hP⟩, v, rfl⟩ l hl
    rw [List.length_map, List.take_length] at hP
    have s2 := same_new hl (.lst (ts.map V.ref))
    have el := upd_same (H := G) (a := l) (o := .lst (ts.map V.ref))
    refine ⟨l, ts, _, rfl, el, paired_mem hP fun a d _ z => s2 _ _ z, (by rw [List.length_map]; exact Nat.le_trans hg.h8 (by decide)), fun d hd => ?_⟩
    generalize upd G l (.lst (ts.map V.ref)) = G2 at s2 el hd ⊢
    have s12 := s1.trans s2
    have ep2 := s12 _ _ ep
    have nd : d ≠ p := fun z => by rw [z, ep2] at hd; cases hd
    refine ⟨_, rfl, p, C_RestedPicker, dx, _, rfl, by rw [upd_ne nd.symm]; exact ep2, Z.cl_RestedPicker, Z.n_RestedPicker_times, (by show 1 < 1000; decide), ?_⟩
    have hd1 : H d = none := by
      cases e : H d with
      | none => rfl
      | some u => rw [s12 _ _ (sx _ _ nd e)] at hd; cases hd
    refine q d _ nd (fun cnt z => hd1) (fun b u hb e => ?_) (.rested (dx := dx) (by rw [upd_same, fP_times]) (by rw [upd_ne nd, upd_same]) ((show CZ _ ns ns.length from by have := cz_fold ns ns.length (Nat.le_refl _); rw [List.take_length] at this; exact this).all hg.h8))
    rw [upd_ne hb, upd_ne (fun z => by rw [z, hd1] at e; cases e)]
    exact s12 _ _ (sx _ _ hb e)
theorem sc_Picker_order : FnScope ["self"] ["self"] (defScope (inClass (top 4) 1)) := ⟨rfl, rfl, rfl, by decide +kernel, rfl, by decide +kernel, by decide +kernel⟩
theorem ok_orderP (T : Txt K mg) (Z : TxtC K mg C_Picker C_RoundPicker C_RestedPicker C_HallError C_NoKind) (D : DefM K C_Picker "order" "Picker.order" (inClass (top 4) 1) ["self"] [] noKw) : CalleeM P w K mg base 1 C_Picker "order" ["self"] [] noKw (spOrder K C_Picker C_RoundPicker C_RestedPicker T_RestedPicker_order isF) := by
  refine D.ok sc_Picker_order (fun vs H Q E h => ?_) (fun f cdv A outer s H vs Q E hr h => ?_)
  · obtain ⟨p, d, g, ns, st, rfl, _⟩ := h
    rfl
  obtain ⟨p, d, g, ns, st, rfl, hD, hg, hp, tab, q⟩ := h
  refine ⟨_, (pss_one (ps_ret (pe_callTy (call_listK K) rfl T.m_list boot_list (pa_cons (pe_fldK K (pv 0)) pa_nil st_attr)))), ?_⟩
  cases hD
  cases hp with
  | @first dx e =>
    refine ⟨_, rfl, p, C_Picker, dx, _, _, rfl, e, Z.cl_Picker, Z.n_Picker_ends, rfl, g, _, rfl, .inr hg.at_, fun l hl => ?_⟩
    exact q l ns _ hl rfl (same_but (same_new hl _)) (tab_same (same_new hl _) tab) upd_same
theorem sc_RoundPicker_order : FnScope ["self"] ["self"] (defScope (inClass (top 5) 1)) := ⟨rfl, rfl, rfl, by decide +kernel, rfl, by decide +kernel, by decide +kernel⟩
theorem ok_orderR (T : Txt K mg) (Z : TxtC K mg C_Picker C_RoundPicker C_RestedPicker C_HallError C_NoKind) (D : DefM K C_RoundPicker "order" "RoundPicker.order" (inClass (top 5) 1) ["self"] [] noKw) : CalleeM P w K mg base 1 C_RoundPicker "order" ["self"] [] noKw (spOrder K C_Picker C_RoundPicker C_RestedPicker T_RestedPicker_order isR) := by
  refine D.ok sc_RoundPicker_order (fun vs H Q E h => ?_) (fun f cdv A outer s H vs Q E hr h => ?_)
  · obtain ⟨p, d, g, ns, st, rfl, _⟩ := h
    rfl
  obtain ⟨p, d, g, ns, st, rfl, hD, hg, hp, tab, q⟩ := h
  refine ⟨_, (pss_one (ps_ret (pe_callTy (call_listK K) rfl T.m_list boot_list (pa_cons (pe_op (op_catF K) (pe_slice (sl_tupF K) (pe_fldK K (pv 0)) (po_some (pe_fldK K (pv 0))) po_none) (pe_slice (sl_tupF K) (pe_fldK K (pv 0)) po_none (po_some (pe_fldK K (pv 0))))) pa_nil st_bin)))), ?_⟩
  obtain ⟨st, rfl⟩ := hD
  cases hp with
  | @round dx _ e hst =>
    refine ⟨_, rfl, p, C_RoundPicker, dx, _, _, rfl, e, Z.cl_RoundPicker, Z.n_RoundPicker_ends, rfl, ?_⟩
    refine ⟨_, rfl, p, C_RoundPicker, dx, _, _, rfl, e, Z.cl_RoundPicker, Z.n_RoundPicker_start, rfl, _, rfl, g, _, rfl, hg.at_, fun t1 H1 s1 h1 => ?_⟩
    have e1 := s1 _ _ e
    refine ⟨_, rfl, p, C_RoundPicker, dx, _, _, rfl, e1, Z.cl_RoundPicker, Z.n_RoundPicker_ends, rfl, _, rfl, p, C_RoundPicker, dx, _, _, rfl, e1, Z.cl_RoundPicker, Z.n_RoundPicker_start, rfl, _, rfl, g, _, rfl, (hg.same s1).at_, fun t2 H2 s2 h2 => ?_⟩
    rw [cutV_from] at h1
    rw [cutV_to _ _ hst] at h2
    have hz : ((ns.drop st).map V.int).length + ((ns.take st).map V.int).length ≤ sizeLine := by
      rw [List.length_map, List.length_map, List.length_drop, List.length_take]
      have := hg.h8
      have := show 8 ≤ sizeLine from by decide
      omega
    refine ⟨t1, t2, _, _, rfl, rfl, Same.seqT s2 h1, h2, hz, fun t3 H3 s3 h3 => ?_⟩
    refine ⟨t3, _, rfl, .inr h3, fun l hl => ?_⟩
    have sm : Same H (upd H3 l (.lst ((ns.drop st).map V.int ++ (ns.take st).map V.int))) := ((s1.trans s2).trans s3).trans (same_new hl _)
    refine q l (rot ns st) _ (same_none ((s1.trans s2).trans s3) hl) rfl (same_but sm) (tab_same sm tab) ?_
    rw [upd_same, rot, List.map_append]
theorem sc_RestedPicker_order : FnScope ["self"] ["self"] (defScope (inClass (top 6) 1)) := ⟨rfl, rfl, rfl, by decide +kernel, rfl, by decide +kernel, by decide +kernel⟩
theorem ok_orderS (T : Txt K mg) (Z : TxtC K mg C_Picker C_RoundPicker C_RestedPicker C_HallError C_NoKind) (hB : BMain mg base) (D : DefMT K C_RestedPicker "order" "RestedPicker.order" (inClass (top 6) 1) ["self"] T_RestedPicker_order) : CalleeM P w K mg base 4 C_RestedPicker "order" ["self"] [] noKw (spOrder K C_Picker C_RoundPicker C_RestedPicker T_RestedPicker_order isS) := by
  refine D.ok sc_RestedPicker_order (fun vs H Q E h => ?_) (fun f c A outer s H vs Q E hC hr h => ?_)
  · obtain ⟨p, d, g, ns, st, rfl, _⟩ := h
    rfl
  obtain ⟨p, d, g, ns, st, rfl, hD, hg, hp, tab, q⟩ := h
  refine ⟨_, (pss_one (ps_ret (pe_sortLam K [(0, "self")] hr rfl rfl T.m_sorted rfl hC hB (show LamScope ["self"] (defScope (inClass (top 6) 1)) _ "end" [(0, "self")] from ⟨rfl, rfl, rfl, by decide +kernel, rfl, by decide +kernel, by decide +kernel⟩) (pa_cons (pe_fldK K (pv 0)) pa_nil st_attr) (fun q cl f c A s H hr => (pe_dget (hu_of hr) (pe_fldK K (pv 1)) (pv 0) (fun _ _ => rfl)))))), ?_⟩
  obtain ⟨cnt, rfl⟩ := hD
  cases hp with
  | @rested dx _ kvs e hd hcd =>
    refine ⟨_, rfl, p, C_RestedPicker, dx, _, _, rfl, e, Z.cl_RestedPicker, Z.n_RestedPicker_ends, rfl, g, ns.map V.int, rfl, (by rw [List.length_map]; exact Nat.lt_of_le_of_lt hg.h8 (by decide)), tab, fun H2 c' but has => ?_⟩
    have e2 := ButT.keep tab but e fun ps z => nomatch z
    have hd2 := ButT.keep tab but hd fun ps z => nomatch z
    have hg2 := hg.but tab but
    refine ⟨hg2.at_, fun i => ((cnt (ns.getD i 0) : Nat) : Int), fun i x hx => ?_, fun is p1 p2 D hD => ?_⟩
    · rw [List.getElem?_map] at hx
      obtain ⟨n, hn, rfl⟩ := Option.map_eq_some_iff.mp hx
      have e1 : ns.getD i 0 = n := by rw [List.getD, hn]; rfl
      refine ⟨_, rfl, p, C_RestedPicker, dx, _, _, rfl, e2, Z.cl_RestedPicker, Z.n_RestedPicker_times, rfl, _, rfl, d, _, rfl, hcd.val n (List.mem_of_getElem? hn) ▸ DGet.k hd2, rfl, ?_⟩
      show V.int _ = V.int _
      dsimp only
      rw [e1]
    · rw [List.length_map] at p1
      have em : (is.map fun i => (ns.map V.int).getD i .non) = (is.map fun i => ns.getD i 0).map V.int := by
        rw [List.map_map]
        refine List.map_congr_left fun i hi => ?_
        have : i < ns.length := by simpa using p1.mem_iff.mp hi
        simp [this]
      rw [em]
      exact q D _ _ (but_none (.inr ⟨c', has⟩) but hD) (rested_sort hg.nd hg.h8 p1 p2) (ButT.trans but (same_but (same_new hD _))) (.inr ⟨c', tabhas_same (same_new hD _) has⟩) upd_same
theorem sc_Picker_took : FnScope ["self", "end"] ["self", "end"] (defScope (inClass (top 4) 2)) := ⟨rfl, rfl, rfl, by decide +kernel, rfl, by decide +kernel, by decide +kernel⟩
theorem ok_tookP (T : Txt K mg) (Z : TxtC K mg C_Picker C_RoundPicker C_RestedPicker C_HallError C_NoKind) (D : DefM K C_Picker "took" "Picker.took" (inClass (top 4) 2) ["self", "end"] [] noKw) : CalleeM P w K mg base 1 C_Picker "took" ["self", "end"] [] noKw (spTook K C_Picker C_RoundPicker C_RestedPicker isF) := by
  refine D.ok sc_Picker_took (fun vs H Q E h => ?_) (fun f cdv A outer s H vs Q E hr h => ?_)
  · obtain ⟨p, d, g, ns, st, e, rfl, _⟩ := h
    rfl
  obtain ⟨p, d, g, ns, st, e, rfl, hD, hg, hp, he, q⟩ := h
  refine ⟨_, (pss_one ps_pass), ?_⟩
  cases hD
  exact q H (fun b u _ z => z) hp
theorem sc_RoundPicker_took : FnScope ["self", "end"] ["self", "end"] (defScope (inClass (top 5) 2)) := ⟨rfl, rfl, rfl, by decide +kernel, rfl, by decide +kernel, by decide +kernel⟩
theorem ok_tookR (T : Txt K mg) (Z : TxtC K mg C_Picker C_RoundPicker C_RestedPicker C_HallError C_NoKind) (D : DefM K C_RoundPicker "took" "RoundPicker.took" (inClass (top 5) 2) ["self", "end"] [] noKw) : CalleeM P w K mg base 1 C_RoundPicker "took" ["self", "end"] [] noKw (spTook K C_Picker C_RoundPicker C_RestedPicker isR) := by
  refine D.ok sc_RoundPicker_took (fun vs H Q E h => ?_) (fun f cdv A outer s H vs Q E hr h => ?_)
  · obtain ⟨p, d, g, ns, st, e, rfl, _⟩ := h
    rfl
  obtain ⟨p, d, g, ns, st, e, rfl, hD, hg, hp, he, q⟩ := h
  refine ⟨_, (pss_one (ps_fld (pv 0) (pe_op op_add (pe_tm PySem.F.slot_tuple_index PySem.F.type_tuple_index (mt_indexT K) (pe_fldK K (pv 0)) (pa_cons (pv 1) pa_nil st_name)) pe_int) rfl)), ?_⟩
  obtain ⟨st, rfl⟩ := hD
  cases hp with
  | @round dx _ ep hst =>
    obtain ⟨ob, hdn, hob⟩ := hg.fz
    have hlt := pos0_lt he
    have at1 : ns[pos0 ns e]? = some e := by rw [List.getElem?_eq_getElem hlt]; exact congrArg some (List.getElem_idxOf hlt)
    refine ⟨_, rfl, p, C_RoundPicker, dx, _, _, rfl, ep, Z.cl_RoundPicker, Z.n_RoundPicker_ends, rfl, ⟨g, _, _, rfl, hob, hdn⟩, _, rfl, g, e, ns, pos0 ns e, rfl, rfl, hg.at_, at1, fun m hm z => ?_, ?_⟩
    · obtain ⟨h1, h2⟩ := List.getElem?_eq_some_iff.mp z
      have := pos0_at hg.nd h1
      rw [h2] at this
      omega
    refine ⟨_, _, rfl, rfl, _, rfl, p, C_RoundPicker, dx, _, rfl, ep, Z.cl_RoundPicker, Z.n_RoundPicker_start, (by show 2 < 1000; decide), ?_⟩
    have e1 : putF "start" (.int (((pos0 ns e : Nat) : Int) + 1)) (fR g st) = fR g (pos0 ns e + 1) := fR_put g st (pos0 ns e + 1)
    refine q _ (fun b u hb z => ?_) (.round (dx := dx) (by rw [upd_same]; exact congrArg (fun z => some (HO.ins C_RoundPicker dx z)) e1) hlt)
    rw [upd_ne (show b ≠ p from hb)]
    exact z
theorem sc_RestedPicker_took : FnScope ["self", "end"] ["self", "end"] (defScope (inClass (top 6) 2)) := ⟨rfl, rfl, rfl, by decide +kernel, rfl, by decide +kernel, by decide +kernel⟩
theorem ok_tookS (T : Txt K mg) (Z : TxtC K mg C_Picker C_RoundPicker C_RestedPicker C_HallError C_NoKind) (D : DefM K C_RestedPicker "took" "RestedPicker.took" (inClass (top 6) 2) ["self", "end"] [] noKw) : CalleeM P w K mg base 1 C_RestedPicker "took" ["self", "end"] [] noKw (spTook K C_Picker C_RoundPicker C_RestedPicker isS) := by
  refine D.ok sc_RestedPicker_took (fun vs H Q E h => ?_) (fun f cdv A outer s H vs Q E hr h => ?_)
  · obtain ⟨p, d, g, ns, st, e, rfl, _⟩ := h
    rfl
  obtain ⟨p, d, g, ns, st, e, rfl, hD, hg, hp, he, q⟩ := h
  refine ⟨_, (pss_one (ps_daug (hu_of hr) (pe_fldK K (pv 0)) (pv 1) pe_int in_add (by intros; rfl))), ?_⟩
  obtain ⟨cnt, rfl⟩ := hD
  cases hp with
  | @rested dx _ kvs ep hd hcd =>
    refine ⟨_, rfl, p, C_RestedPicker, dx, _, _, rfl, ep, Z.cl_RestedPicker, Z.n_RestedPicker_times, rfl, _, rfl, d, _, rfl, hcd.val e he ▸ DGet.k hd, ?_⟩
    refine ⟨_, _, rfl, rfl, _, .inl ⟨kvs, .inl e, hd, rfl, Nat.lt_of_le_of_lt hcd.len (by decide), rfl⟩, ?_⟩
    have np : d ≠ p := fun z => by rw [z, ep] at hd; cases hd
    refine q _ (fun b u hb z => ?_) (.rested (dx := dx) (kvs := putK kvs (.inl e) (.int ((cnt e : Nat) + 1 : Int))) (by rw [upd_ne np.symm]; exact ep) upd_same (hcd.put he))
    rw [upd_ne (show b ≠ d from hb)]
    exact z
end
theorem kit_lst_lst {K : PySem.W.Frag} : PySem.W.kitOne K (.type "list") (.type "list") = some true := kit_of (by decide +kernel)
theorem kit_str_str {K : PySem.W.Frag} : PySem.W.kitOne K (.type "str") (.type "str") = some true := kit_of (by decide +kernel)
inductive NoKd (K : PySem.W.Frag) (H : Hp) : V → Prop where
  | str (z : Str) (h1 : z ≠ "first") (h2 : z ≠ "round") (h3 : z ≠ "rested") : NoKd K H (.str z)
  | odd {x : V} {t : Value} (ty : TyOf K H x t) (h : PySem.W.kitOne K t (.type "str") = some false) : NoKd K H x
def NewAt (K : PySem.W.Frag) (CP CR CS g : Addr) (ns : List Int) (s0 : Pst) (H : Hp) (Q : VK) : Prop := ∀ (p d : Addr) (H' : Hp), H p = none → (∀ cnt, s0 = .rested cnt → H d = none) → Same H H' → PickAt H' CP CR CS g ns p d s0 → Q (.ref p) H'
def kindS : V → Pst → Prop := fun x s => (x = .str "first" ∧ s = .first) ∨ (x = .str "round" ∧ s = .round 0) ∨ (x = .str "rested" ∧ s = .rested fun _ => 0)
def spPickerOf (K : PySem.W.Frag) (CP CR CS CN : Addr) : Sp := fun vs H Q E => ∃ (x : V) (g : Addr) (ns : List Int), vs = [x, .ref g] ∧ Grp K H g ns ∧ ((∃ s0, kindS x s0 ∧ NewAt K CP CR CS g ns s0 H Q) ∨ (NoKd K H x ∧ E (.ref CN) none H))
theorem ite_str {x y : Str} {A B : Prop} (h : x ≠ y) (b : B) : if decide (V.str x = V.str y) = true then A else B := by
  rw [if_neg fun z => h (V.str.inj (of_decide_eq_true z))]
  exact b
theorem plain_same {H : Hp} {C r dx : Addr} (hr : H r = none) (hd : H dx = none) : Same H (upd (upd H dx (.own r)) r (.ins C dx [])) := fun b u z => by rw [upd_ne (ne_of_none z hr), upd_ne (ne_of_none z hd)]; exact z
theorem tab_upd {T l : Addr} {G : Hp} {xs : List V} {o : HO} (t : Tab T G) (e : G l = some (.lst xs)) : Tab T (upd G l o) := by
  rcases t with t | ⟨c, t1, t2⟩
  · exact .inl (by rw [upd_ne (fun z => by rw [z, e] at t; cases t)]; exact t)
  · exact .inr ⟨c, by rw [upd_ne (fun z => by rw [z, e] at t1; cases t1)]; exact t1, by rw [upd_ne (fun z => by rw [z, e] at t2; cases t2)]; exact t2⟩
section
variable {P : Program} {w : World} {K : PySem.W.Frag} {mg : Str → Option Value} {base : Heap} {C_Picker C_RoundPicker C_RestedPicker C_HallError C_NoKind : Addr} {T_RestedPicker_order T__law_way_of : Addr}
theorem sc_picker_of : FnScope ["kind", "group"] ["kind", "group"] (defScope (top 7)) := ⟨rfl, rfl, rfl, by decide +kernel, rfl, by decide +kernel, by decide +kernel⟩
theorem ok_pickerof (T : Txt K mg) (Z : TxtC K mg C_Picker C_RoundPicker C_RestedPicker C_HallError C_NoKind) (C_Picker___init__ : CalleeM P w K mg base 1 C_Picker "__init__" ["self", "group"] [] noKw (spPInit K)) (C_RoundPicker___init__ : CalleeM P w K mg base 2 C_RoundPicker "__init__" ["self", "group"] [] noKw (spInit K C_Picker C_RoundPicker C_RestedPicker C_RoundPicker (.round 0))) (C_RestedPicker___init__ : CalleeM P w K mg base 2 C_RestedPicker "__init__" ["self", "group"] [] noKw (spInit K C_Picker C_RoundPicker C_RestedPicker C_RestedPicker (.rested fun _ => 0))) (D : Def K mg "picker_of" (top 7) ["kind", "group"]) : CalleeE P w K mg base 4 "picker_of" ["kind", "group"] [] (spPickerOf K C_Picker C_RoundPicker C_RestedPicker C_NoKind) := by
  refine D.okE sc_picker_of (fun vs H Q E h => ?_) (fun f cdv A outer s H vs Q E hr h => ?_)
  · obtain ⟨x, g, ns, rfl, _⟩ := h
    rfl
  obtain ⟨x, g, ns, rfl, hg, h⟩ := h
  refine ⟨_, (pss_cons (ps_if (pt_truK K (pe_callB (call_isinstK K) rfl T.m_isinstance boot_isinstance (pa_cons (pv 0) (pa_cons (pe_bltn (v := .ty "str") rfl T.m_str boot_str rfl) pa_nil st_name) st_name)) (fun _ => rfl)) (pss_cons (ps_if (pt_cmpR op_eq (pv 0) pe_str (nomark _)) (pss_one (ps_ret (pe_newA C_Picker___init__ Z.M_Picker hr rfl (pa_cons (pv 1) pa_nil st_name)))) pss_nil)
    (pss_cons (ps_if (pt_cmpR op_eq (pv 0) pe_str (nomark _)) (pss_one (ps_ret (pe_newA C_RoundPicker___init__ Z.M_RoundPicker hr rfl (pa_cons (pv 1) pa_nil st_name)))) pss_nil)
    (pss_one (ps_if (pt_cmpR op_eq (pv 0) pe_str (nomark _)) (pss_one (ps_ret (pe_newA C_RestedPicker___init__ Z.M_RestedPicker hr rfl (pa_cons (pv 1) pa_nil st_name)))) pss_nil)))) pss_nil)
    (pss_one (ps_raise lets_cx Z.e_NoKind hr.hd rfl pe_str))), ?_⟩
  rcases h with ⟨s0, hx, q⟩ | ⟨nw, qE⟩
  · rcases hx with ⟨rfl, rfl⟩ | ⟨rfl, rfl⟩ | ⟨rfl, rfl⟩
    · refine ⟨_, rfl, _, _, _, true, rfl, .str _, kit_str_str, _, rfl, iteT ?_⟩
      refine ⟨_, rfl, rfl, _, rfl, iteT ?_⟩
      refine ⟨_, rfl, fun r dx hr1 hd1 hne => ?_⟩
      have sm := plain_same (C := C_Picker) hr1 hd1
      refine ⟨r, dx, g, C_Picker, ns, rfl, upd_same, Z.cl_Picker, Z.n_Picker_ends, hg.same sm, rfl, ?_⟩
      refine q r r _ hr1 (fun cnt z => nomatch z) (fun b u e => ?_) (.first (dx := dx) upd_same)
      rw [upd_ne (ne_of_none e hr1)]
      exact sm _ _ e
    · refine ⟨_, rfl, _, _, _, true, rfl, .str _, kit_str_str, _, rfl, iteT ?_⟩
      refine ⟨_, rfl, rfl, _, rfl, ite_str (by decide) ?_⟩
      refine ⟨_, rfl, rfl, _, rfl, iteT ?_⟩
      refine ⟨_, rfl, fun r dx hr1 hd1 hne => ?_⟩
      have sm := plain_same (C := C_RoundPicker) hr1 hd1
      refine ⟨r, dx, g, ns, rfl, upd_same, hg.same sm, fun d H' hdp hdn sx hP => ⟨rfl, q r d H' hr1 (fun cnt z => same_none sm (hdn cnt z)) (fun b u e => sx _ _ (ne_of_none e hr1) (sm _ _ e)) hP⟩⟩
    · refine ⟨_, rfl, _, _, _, true, rfl, .str _, kit_str_str, _, rfl, iteT ?_⟩
      refine ⟨_, rfl, rfl, _, rfl, ite_str (by decide) ?_⟩
      refine ⟨_, rfl, rfl, _, rfl, ite_str (by decide) ?_⟩
      refine ⟨_, rfl, rfl, _, rfl, iteT ?_⟩
      refine ⟨_, rfl, fun r dx hr1 hd1 hne => ?_⟩
      have sm := plain_same (C := C_RestedPicker) hr1 hd1
      refine ⟨r, dx, g, ns, rfl, upd_same, hg.same sm, fun d H' hdp hdn sx hP => ⟨rfl, q r d H' hr1 (fun cnt z => same_none sm (hdn cnt z)) (fun b u e => sx _ _ (ne_of_none e hr1) (sm _ _ e)) hP⟩⟩
  · cases nw with
    | str z h1 h2 h3 =>
      refine ⟨_, rfl, _, _, _, true, rfl, .str _, kit_str_str, _, rfl, iteT ?_⟩
      refine ⟨_, rfl, rfl, _, rfl, ite_str h1 ?_⟩
      refine ⟨_, rfl, rfl, _, rfl, ite_str h2 ?_⟩
      exact ⟨_, rfl, rfl, _, rfl, ite_str h3 qE⟩
    | odd ty h => exact ⟨_, rfl, _, _, _, false, rfl, ty, h, _, rfl, iteF qE⟩
end
def spGroupBy (K : PySem.W.Frag) : Sp := fun vs H Q _ => ∃ n : Int, vs = [.int n, .int 144] ∧ ∀ (t g : Addr) (z : Int) (ns : List Int) (H' : Hp), Same H H' → H' t = some (.tup [.ref g, .int z]) → Grp K H' g ns → Q (.ref t) H'
theorem int_in (e : Int) (es : List Int) : inV (.int e) (es.map V.int) = decide (e ∈ es) := by
  unfold inV
  rw [List.any_map]
  rw [Bool.eq_iff_iff, List.any_eq_true, decide_eq_true_iff]
  constructor
  · rintro ⟨q, hq, e'⟩
    have e' : (q == e) = true := e'
    exact eq_of_beq e' ▸ hq
  · intro h
    exact ⟨e, h, beq_self_eq_true e⟩
theorem int_flat (ns : List Int) : (ns.map V.int).all flatV = true := by
  rw [List.all_eq_true]
  intro x hx
  obtain ⟨c, _, rfl⟩ := List.mem_map.mp hx
  rfl
section
variable {P : Program} {w : World} {K : PySem.W.Frag} {mg : Str → Option Value} {base : Heap} {C_Picker C_RoundPicker C_RestedPicker C_HallError C_NoKind : Addr} {T_RestedPicker_order T__law_way_of : Addr}
theorem sc__law_group_by : FnScope ["_law_left", "_law_total", "_law_found", "_law_many", "_law_k"] ["_law_left", "_law_total"] (defScope (top 17)) := ⟨rfl, rfl, rfl, by decide +kernel, rfl, by decide +kernel, by decide +kernel⟩
theorem ok_groupby (T : Txt K mg) (D : Def K mg "_law_group_by" (top 17) ["_law_left", "_law_total"]) : Callee P w K mg base 1 "_law_group_by" ["_law_left", "_law_total"] (spGroupBy K) := by
  refine D.ok sc__law_group_by (fun vs H Q E h => ?_) (fun f cdv A outer s H vs Q E hr h => ?_)
  · obtain ⟨n, rfl, _⟩ := h
    rfl
  obtain ⟨n, rfl, q⟩ := h
  refine ⟨_, (pss_cons (ps_set (i := 2) sc__law_group_by.nd rfl (Or.inl rfl) (pe_lst pa_nil))
    (pss_cons (ps_set (i := 3) sc__law_group_by.nd rfl (Or.inl rfl) (pe_op op_add pe_int (pe_op op_mod (pv 0) pe_int)))
    (pss_cons (ps_set (i := 0) sc__law_group_by.nd rfl (Or.inl rfl) (pe_op op_fdiv (pv 0) pe_int))
    (pss_cons (ps_for PassesOwn.never rfl (pi_range1 rfl T.m_range (pa_cons (pv 3) pa_nil st_name)) (pg_name (i := 4) sc__law_group_by.nd rfl (Or.inl rfl))
    (pss_cons (ps_if (pt_cmpR (op_notInK K) (pe_op op_mod (pv 0) (pv 1)) (pv 2) (by with_unfolding_all rfl)) (pss_one (ps_expr (pe_bmK K PySem.F.plainAttrs_list PySem.F.slot_list_append PySem.F.type_list_append mt_appendR (pv 2) (pa_cons (pe_op op_mod (pv 0) (pv 1)) pa_nil st_bin)))) pss_nil)
    (pss_one (ps_set (i := 0) sc__law_group_by.nd rfl (Or.inl rfl) (pe_op op_fdiv (pv 0) (pv 1))))))
    (pss_one (ps_ret (pe_tup (pa_cons (pe_callTy (call_tupleF K) rfl T.m_tuple boot_tuple (pa_cons (pv 2) pa_nil st_name)) (pa_cons (pv 0) pa_nil st_name) st_call)))))))), ?_⟩
  refine ⟨(by show 0 ≤ sizeLine; decide), fun fl hfl => ?_⟩
  have s0 := same_new hfl (.lst [])
  have e0 := upd_same (H := H) (a := fl) (o := .lst [])
  generalize upd H fl _ = H0 at s0 e0 ⊢
  refine ⟨_, rfl, _, _, rfl, rfl, (by show (0 : Int) < 8; decide), _, _, rfl, rfl, ?_⟩
  refine ⟨_, rfl, _, _, rfl, rfl, ⟨by decide, by decide⟩, ?_⟩
  obtain ⟨m, hm, hm1, hm8⟩ : ∃ m : Nat, 1 + n % 8 = ((m : Nat) : Int) ∧ 1 ≤ m ∧ m ≤ 8 := ⟨(1 + n % 8).toNat, by omega, by omega, by omega⟩
  dsimp only [gName, tNext]
  rw [hm]
  refine ⟨_, rfl, _, rfl, by omega, by omega, ?_⟩
  rw [Int.toNat_natCast]
  refine for_range (lo := 0) (n := m) (fun i σ G => Same H G ∧ ∃ (ns : List Int) (z : Int) (v : Option V), G fl = some (.lst (ns.map V.int)) ∧ ns.Nodup ∧ ns.length ≤ i ∧ (0 < i → 1 ≤ ns.length) ∧ σ = [some (.int z), some (.int 144), some (.ref fl), some (.int ((m : Nat) : Int)), v]) ⟨s0, [], _, _, e0, List.nodup_nil, Nat.le_refl _, fun z => absurd z (by decide), rfl⟩ ?_ ?_
  · rintro i σ G hi ⟨sG, ns, z, v, eG, nd, hl, hp, rfl⟩
    refine ⟨_, rfl, _, rfl, _, _, rfl, rfl, (by show (0 : Int) < 144; decide), _, rfl, fl, _, rfl, .inl (SqL.of eG), rfl, int_flat ns, _, rfl, ?_⟩
    rw [if_pos rfl, int_in]
    dsimp only [tSeq]
    refine ite2 (fun c => ?_) (fun c => ?_)
    · have c' : ¬ z % 144 ∈ ns := by simpa using c
      refine ⟨_, rfl, .inl ⟨rfl, _, SqL.of eG⟩, _, rfl, _, rfl, _, _, rfl, rfl, (by show (0 : Int) < 144; decide), fl, _, _, rfl, rfl, eG, ?_, ?_⟩
      · rw [List.length_map]; exact Nat.lt_of_le_of_lt (Nat.le_trans hl (by omega : i ≤ 8)) (by decide)
      refine ⟨_, rfl, _, rfl, _, _, rfl, rfl, ⟨by decide, by decide⟩, ?_⟩
      refine ⟨fun b u e => by rw [upd_ne (ne_of_none e hfl)]; exact sG _ _ e, ns ++ [z % 144], _, _, by rw [upd_same, List.map_append]; rfl, ?_, by rw [List.length_append]; show ns.length + 1 ≤ i + 1; omega, fun _ => by rw [List.length_append]; show 1 ≤ ns.length + 1; omega, rfl⟩
      rw [List.nodup_append]
      exact ⟨nd, by simp, fun a ha b hb => by rw [List.mem_singleton] at hb; rw [hb]; exact fun y => c' (y ▸ ha)⟩
    · have c' : z % 144 ∈ ns := by simpa using c
      refine ⟨_, rfl, _, rfl, _, _, rfl, rfl, ⟨by decide, by decide⟩, ?_⟩
      exact ⟨sG, ns, _, _, eG, nd, by omega, fun _ => List.length_pos_of_mem c', rfl⟩
  · rintro σ G ⟨sG, ns, z, v, eG, nd, hl, hp, rfl⟩
    refine ⟨_, rfl, fl, _, rfl, .inl ⟨SqL.of eG, fun g ob hg hob => ?_⟩⟩
    refine ⟨_, rfl, (by show 2 ≤ sizeLine; decide), fun t ht => ?_⟩
    refine q t g z ns _ (sG.trans ((same_new hg _).trans (same_new ht _))) upd_same ⟨⟨ob, hob, ?_⟩, nd, by omega, hp (by omega)⟩
    exact same_new ht _ _ _ upd_same
end
def wayS : Stmt := (defBody (top 15)).getD 0 (.Pass ⟨0, 0, 0, 0⟩)
def posW : Pos := match wayS with
  | .FunctionDef _ _ _ _ _ _ _ _ _ p => p
  | _ => ⟨0, 0, 0, 0⟩
def wayQ : Str := "_law_way_of.<locals>._law_way"
theorem sc_way : CloScope (defScope wayS) "_law_end" "_law_racks_here" := ⟨rfl, rfl, rfl, by decide +kernel, rfl, rfl, by decide +kernel⟩
abbrev WayAt (H : Hp) (f d : Addr) : Prop := CloAt H "_law_way" wayQ (defArgs wayS) (defBody wayS) (defScope wayS) "_law_racks_here" f d
abbrev TabW (T : Addr) (H : Hp) : Prop := TabIs H T posW wayQ
def spWayOf (T : Addr) : Sp := fun vs H Q _ => ∃ d, vs = [.ref d] ∧ TabW T H ∧ ∀ (f : Addr) (H' : Hp), H f = none → ButT T H H' → TabW T H' → WayAt H' f d → Q (.ref f) H'
theorem WayAt.keep {H H' : Hp} {f d : Addr} (h : WayAt H f d) (k : ∀ b φ, H b = some (.ext φ) → H' b = some (.ext φ)) : WayAt H' f d := by
  obtain ⟨c0, c, cl, doc, pm, ctv, a1, a2, a3, a4, a5⟩ := h
  exact ⟨c0, c, cl, doc, pm, ctv, a1, a2, k _ _ a3, k _ _ a4, k _ _ a5⟩
section
variable {P : Program} {w : World} {K : PySem.W.Frag} {mg : Str → Option Value} {base : Heap} {C_Picker C_RoundPicker C_RestedPicker C_HallError C_NoKind : Addr} {T_RestedPicker_order T__law_way_of : Addr}
theorem sc__law_way_of : FnScope ["_law_racks_here", "_law_way"] ["_law_racks_here"] (defScope (top 15)) := ⟨rfl, rfl, rfl, by decide +kernel, rfl, by decide +kernel, by decide +kernel⟩
theorem ok_wayof (hB : BMain mg base) (D : DefT K mg "_law_way_of" (top 15) ["_law_racks_here"] T__law_way_of) : Callee P w K mg base 1 "_law_way_of" ["_law_racks_here"] (spWayOf T__law_way_of) := by
  refine D.raw sc__law_way_of (fun vs H Q E h => ?_) (fun f c A outer s H vs Q E hC hr h s1 I => ?_)
  · obtain ⟨d, rfl, _⟩ := h
    rfl
  obtain ⟨d, rfl, tab, q⟩ := h
  exact maker_raw (name := "_law_way") (x0 := "_law_racks_here") (qual := wayQ) (params := defArgs wayS) (body := defBody wayS) (scope := defScope wayS) (pos := posW) (i := 1) (d := d) I hC hB tab sc__law_way_of.nd rfl rfl (Nat.lt_succ_self 1) rfl rfl (by decide) rfl
    (fun y c' e => (by decide +kernel : ∀ z ∈ (defScope (top 15)).names, z.2 = NameKind.cell → z.1 = "_law_racks_here") _ (cellsFrom_of _ _ y c' (PySem.mem_of_lookup e)) rfl) rfl (fun y hy => (by decide +kernel : ∀ z ∈ (defScope wayS).names, z.2 = NameKind.free → z.1 = "_law_racks_here") _ hy rfl) (by decide +kernel) rfl rfl rfl (pv 1) q
end
def KindIs (ns : List Int) (last : Option Int) (cnt : Int → Nat) : Str → Pst → Prop := fun z st => (z = "first" ∧ st = .first) ∨ (z = "round" ∧ st = .round (startM ns last)) ∨ (z = "rested" ∧ st = .rested cnt)
def spLOrder (K : PySem.W.Frag) : Sp := fun vs H Q _ => ∃ (z : Str) (g d : Addr) (ns : List Int) (kvs : List (Key × V)) (cnt : Int → Nat) (last : Option Int) (st : Pst), vs = [.str z, .ref g, lastV last, .ref d] ∧ Grp K H g ns ∧ H d = some (.dK kvs) ∧ CD kvs ns cnt ∧ (∀ e, last = some e → e ∈ ns) ∧ KindIs ns last cnt z st ∧ ∀ (l : Addr) (ys : List Int) (H' : Hp), H l = none → Same H H' → OrdIs ns st ys → H' l = some (.lst (ys.map V.int)) → Q (.ref l) H'
section
variable {P : Program} {w : World} {K : PySem.W.Frag} {mg : Str → Option Value} {base : Heap} {C_Picker C_RoundPicker C_RestedPicker C_HallError C_NoKind : Addr} {T_RestedPicker_order T__law_way_of : Addr}
theorem sc__law_order : FnScope ["_law_kind", "_law_group", "_law_last", "_law_counts", "_law_at", "_law_found", "_law_many"] ["_law_kind", "_law_group", "_law_last", "_law_counts"] (defScope (top 13)) := ⟨rfl, rfl, rfl, by decide +kernel, rfl, by decide +kernel, by decide +kernel⟩
theorem ok_lorder (T : Txt K mg) (D : Def K mg "_law_order" (top 13) ["_law_kind", "_law_group", "_law_last", "_law_counts"]) : Callee P w K mg base 1 "_law_order" ["_law_kind", "_law_group", "_law_last", "_law_counts"] (spLOrder K) := by
  refine D.ok sc__law_order (fun vs H Q E h => ?_) (fun f cdv A outer s H vs Q E hr h => ?_)
  · obtain ⟨z, g, d, ns, kvs, cnt, last, st, rfl, _⟩ := h
    rfl
  obtain ⟨z, g, d, ns, kvs, cnt, last, st, rfl, hg, hd, hc, hl, hk, q⟩ := h
  refine ⟨_, (pss_cons (ps_if (PW.pt (pw_and (pt_cmpR op_eq (pv 0) pe_str (nomark _)) (pw_and1 (pt_cmpR op_notN (pv 2) pe_non (nomark _))))) (pss_cons (ps_set (i := 4) sc__law_order.nd rfl (Or.inl rfl) (pe_op op_add (pe_tm PySem.F.slot_tuple_index PySem.F.type_tuple_index (mt_indexT K) (pv 1) (pa_cons (pv 2) pa_nil st_name)) pe_int))
    (pss_one (ps_ret (pe_callTy (call_listK K) rfl T.m_list boot_list (pa_cons (pe_op (op_catF K) (pe_slice (sl_tupF K) (pv 1) (po_some (pv 4)) po_none) (pe_slice (sl_tupF K) (pv 1) po_none (po_some (pv 4)))) pa_nil st_bin))))) pss_nil)
    (pss_cons (ps_if (pt_cmpR op_eq (pv 0) pe_str (nomark _)) (pss_cons (ps_set (i := 5) sc__law_order.nd rfl (Or.inl rfl) (pe_lst pa_nil))
    (pss_cons (ps_for PassesOwn.never rfl (pi_listK K (pe_callB (call_sortedSK P w rfl) rfl T.m_sorted boot_sorted (pa_cons (pe_callTy (call_setK K P w rfl) rfl T.m_set boot_set (pa_cons (pe_comp (own := ["_law_end"]) (fr := [(3, "_law_counts")]) rfl (show CompScope ["_law_kind", "_law_group", "_law_last", "_law_counts", "_law_at", "_law_found", "_law_many"] (defScope (top 13)) _ _ _ from ⟨rfl, by decide +kernel, by decide +kernel, by decide +kernel, by decide +kernel⟩) (pi_tupK K (pv 1)) (fun cl C s H ex => ⟨(pg_name (i := 0) (show (["_law_end", "_law_counts"] : List Str).Nodup from by decide +kernel) rfl (Or.inl rfl) (Or.inr rfl)), pif_nil, (pe_dget (hu_of hr) (pv 1) (pv 0) (fun _ _ => rfl))⟩)) pa_nil st_comp)) pa_nil st_call))) (pg_name (i := 6) sc__law_order.nd rfl (Or.inr rfl))
    (pss_one (ps_set (i := 5) sc__law_order.nd rfl (Or.inl rfl) (pe_op op_cat (pv 5) (pe_comp (own := ["_law_end"]) (fr := [(3, "_law_counts"), (6, "_law_many")]) rfl (show CompScope ["_law_kind", "_law_group", "_law_last", "_law_counts", "_law_at", "_law_found", "_law_many"] (defScope (top 13)) _ _ _ from ⟨rfl, by decide +kernel, by decide +kernel, by decide +kernel, by decide +kernel⟩) (pi_tupK K (pv 1)) (fun cl C s H ex => ⟨(pg_name (i := 0) (show (["_law_end", "_law_counts", "_law_many"] : List Str).Nodup from by decide +kernel) rfl (Or.inl rfl) (Or.inr rfl)), (pif_one (pt_cmpR op_eq (pe_dget (hu_of hr) (pv 1) (pv 0) (fun _ _ => rfl)) (pv 2) (nomark _))), (pv 0)⟩))))))
    (pss_one (ps_ret (pv 5))))) pss_nil)
    (pss_one (ps_ret (pe_callTy (call_listK K) rfl T.m_list boot_list (pa_cons (pv 1) pa_nil st_name)))))), ?_⟩
  have all : ∀ ys, OrdIs ns st ys → ys = ns → ∃ k, k = 0 := fun _ _ _ => ⟨0, rfl⟩
  clear all
  rcases hk with ⟨rfl, rfl⟩ | ⟨rfl, rfl⟩ | ⟨rfl, rfl⟩
  · refine ⟨_, rfl, rfl, _, rfl, ite_str (by decide) ?_⟩
    refine ⟨_, rfl, rfl, _, rfl, ite_str (by decide) ?_⟩
    refine ⟨_, rfl, g, _, rfl, .inr hg.at_, fun l hl => ?_⟩
    exact q l ns _ hl (same_new hl _) rfl upd_same
  · refine ⟨_, rfl, rfl, _, rfl, iteT ?_⟩
    cases last with
    | none =>
      refine ⟨_, rfl, rfl, _, rfl, iteF ?_⟩
      refine ⟨_, rfl, rfl, _, rfl, ite_str (by decide) ?_⟩
      refine ⟨_, rfl, g, _, rfl, .inr hg.at_, fun l hl => ?_⟩
      exact q l ns _ hl (same_new hl _) (rot_zero ns).symm upd_same
    | some e =>
      refine ⟨_, rfl, rfl, _, rfl, iteT ?_⟩
      have he := hl e rfl
      obtain ⟨ob, hdn, hob⟩ := hg.fz
      have hlt := pos0_lt he
      have at1 : ns[pos0 ns e]? = some e := by rw [List.getElem?_eq_getElem hlt]; exact congrArg some (List.getElem_idxOf hlt)
      refine ⟨_, rfl, ⟨g, _, _, rfl, hob, hdn⟩, _, rfl, g, e, ns, pos0 ns e, rfl, rfl, hg.at_, at1, fun m hm z => ?_, ?_⟩
      · obtain ⟨h1, h2⟩ := List.getElem?_eq_some_iff.mp z
        have := pos0_at hg.nd h1
        rw [h2] at this
        omega
      refine ⟨_, _, rfl, rfl, ?_⟩
      refine ⟨_, rfl, _, rfl, _, rfl, g, _, rfl, hg.at_, fun t1 H1 s1 h1 => ?_⟩
      refine ⟨_, rfl, _, rfl, _, rfl, g, _, rfl, (hg.same s1).at_, fun t2 H2 s2 h2 => ?_⟩
      rw [show ((pos0 ns e : Nat) : Int) + 1 = ((pos0 ns e + 1 : Nat) : Int) from rfl] at h1 h2
      rw [cutV_from] at h1
      rw [cutV_to _ _ hlt] at h2
      have hz : ((ns.drop (pos0 ns e + 1)).map V.int).length + ((ns.take (pos0 ns e + 1)).map V.int).length ≤ sizeLine := by
        rw [List.length_map, List.length_map, List.length_drop, List.length_take]
        have := hg.h8
        have := show 8 ≤ sizeLine from by decide
        omega
      refine ⟨t1, t2, _, _, rfl, rfl, Same.seqT s2 h1, h2, hz, fun t3 H3 s3 h3 => ?_⟩
      refine ⟨t3, _, rfl, .inr h3, fun l hl => ?_⟩
      refine q l (rot ns (pos0 ns e + 1)) _ (same_none ((s1.trans s2).trans s3) hl) (((s1.trans s2).trans s3).trans (same_new hl _)) rfl ?_
      rw [upd_same, ← List.map_append]
      rfl
  · refine ⟨_, rfl, rfl, _, rfl, ite_str (by decide) ?_⟩
    refine ⟨_, rfl, rfl, _, rfl, iteT ?_⟩
    refine ⟨(by show 0 ≤ sizeLine; decide), fun o ho => ?_⟩
    have s0 := same_new ho (.lst [])
    have eo := upd_same (H := H) (a := o) (o := .lst [])
    generalize upd H o (.lst []) = H0 at s0 eo ⊢
    have hg0 := hg.same s0
    have hd0 := s0 _ _ hd
    refine ⟨_, rfl, g, rfl, ⟨_, hg0.at_⟩, ?_⟩
    refine comp_tup (xs := ns.map V.int) (fun i acc σ G => G = H0 ∧ acc = ((ns.take i).map fun e => ((cnt e : Nat) : Int)).map V.int ∧ ∃ v, σ = [v, some (.ref d)]) ⟨rfl, rfl, _, rfl⟩ ?_ ?_ ?_ ?_ ?_
    · rw [List.length_map]; exact Nat.le_trans hg.h8 (by decide)
    · rintro i acc σ G ⟨_, rfl, _⟩
      rw [List.length_map, List.length_map, List.length_take]
      omega
    · rintro i acc σ G _ ⟨rfl, _⟩
      exact hg0.at_
    · rintro i x acc σ G hx ⟨rfl, rfl, v, rfl⟩
      rw [List.getElem?_map] at hx
      obtain ⟨e, he, rfl⟩ := Option.map_eq_some_iff.mp hx
      refine ⟨_, rfl, _, rfl, d, _, rfl, hc.val e (List.mem_of_getElem? he) ▸ DGet.k hd0, rfl, ?_, _, rfl⟩
      rw [List.take_succ, he, Option.toList_some, List.map_append, List.map_append]
      rfl
    rintro acc σ G ⟨rfl, rfl, v, rfl⟩ l hl
    rw [List.length_map, List.take_length]
    have s1 := same_new hl (.lst ((ns.map fun e => ((cnt e : Nat) : Int)).map V.int))
    have el := upd_same (H := G) (a := l) (o := .lst ((ns.map fun e => ((cnt e : Nat) : Int)).map V.int))
    generalize upd G l _ = H1 at s1 el ⊢
    refine ⟨l, _, rfl, SqL.of el, by rw [List.length_map]; exact Nat.lt_of_le_of_lt hg.h8 (by decide), fun l2 hl2 => ?_⟩
    refine ⟨l2, _, rfl, upd_same, by rw [List.length_map]; exact Nat.lt_of_le_of_lt hg.h8 (by decide), fun l3 hl3 => ?_⟩
    have s3 := (s0.trans s1).trans ((same_new hl2 _).trans (same_new hl3 (.lst ((sortU (ns.map fun e => ((cnt e : Nat) : Int))).map V.int))))
    have eo3 := (s1.trans ((same_new hl2 _).trans (same_new hl3 (.lst ((sortU (ns.map fun e => ((cnt e : Nat) : Int))).map V.int))))) _ _ eo
    have e3 := upd_same (H := upd H1 l2 (SetP P w l2 (ns.map fun e => ((cnt e : Nat) : Int)))) (a := l3) (o := .lst ((sortU (ns.map fun e => ((cnt e : Nat) : Int))).map V.int))
    generalize upd (upd H1 l2 _) l3 _ = H3 at s3 eo3 e3 ⊢
    refine ⟨l3, rfl, ⟨_, SqL.of e3⟩, ?_⟩
    refine for_list (xs := (sortU (ns.map fun e => ((cnt e : Nat) : Int))).map V.int) (fun i σ G => Same H G ∧ H3 l3 = G l3 ∧ ∃ fl v, H fl = none ∧ G fl = some (.lst ((byCounts ns cnt ((sortU (ns.map fun e => ((cnt e : Nat) : Int))).take i)).map V.int)) ∧ σ = [some (.str "rested"), some (.ref g), some (lastV last), some (.ref d), none, some (.ref fl), v]) ⟨s3, rfl, o, _, ho, eo3, rfl⟩ ?_ ?_ ?_
    · rintro i σ G _ ⟨_, e, _⟩
      exact SqL.of (e ▸ e3)
    · rintro i x σ G hx ⟨sG, eG, fl, v, hfl, efl, rfl⟩
      rw [List.getElem?_map] at hx
      obtain ⟨m, hm, rfl⟩ := Option.map_eq_some_iff.mp hx
      have lb := byCounts_len ns cnt ((sortU (ns.map fun e => ((cnt e : Nat) : Int))).take i)
      have l8 := hg.h8
      have lu := sortU_len (ns.map fun e => ((cnt e : Nat) : Int))
      rw [List.length_map] at lu
      have lt := List.length_take_le i (sortU (ns.map fun e => ((cnt e : Nat) : Int)))
      have lm : ((sortU (ns.map fun e => ((cnt e : Nat) : Int))).take i).length * ns.length ≤ 8 * 8 := Nat.mul_le_mul (by rw [List.length_take]; omega) l8
      have hgG := hg.same sG
      have hdG := sG _ _ hd
      refine ⟨_, rfl, _, rfl, g, rfl, ⟨_, hgG.at_⟩, ?_⟩
      refine comp_tup (xs := ns.map V.int) (fun j acc σ G' => G' = G ∧ acc = ((ns.take j).filter fun e => decide (((cnt e : Nat) : Int) = m)).map V.int ∧ ∃ v, σ = [v, some (.ref d), some (.int m)]) ⟨rfl, rfl, _, rfl⟩ ?_ ?_ ?_ ?_ ?_
      · rw [List.length_map]; exact Nat.le_trans hg.h8 (by decide)
      · rintro j acc σ G' ⟨_, rfl, _⟩
        rw [List.length_map]
        exact Nat.le_trans (List.length_filter_le _ _) (by rw [List.length_take]; omega)
      · rintro j acc σ G' _ ⟨rfl, _⟩
        exact hgG.at_
      · rintro j x acc σ G' hx ⟨rfl, rfl, v, rfl⟩
        rw [List.getElem?_map] at hx
        obtain ⟨e, he, rfl⟩ := Option.map_eq_some_iff.mp hx
        refine ⟨_, rfl, _, rfl, d, _, rfl, hc.val e (List.mem_of_getElem? he) ▸ DGet.k hdG, _, rfl, rfl, _, rfl, ?_⟩
        rw [List.take_succ, he, Option.toList_some, List.filter_append]
        refine ite2 (fun c => ?_) (fun c => ?_)
        · have c' : ((cnt e : Nat) : Int) = m := by simpa using c
          refine ⟨_, rfl, rfl, ?_, _, rfl⟩
          rw [List.filter_cons, if_pos (decide_eq_true c'), List.map_append]
          rfl
        · have c' : ¬ ((cnt e : Nat) : Int) = m := by simpa using c
          refine ⟨rfl, ?_, _, rfl⟩
          rw [List.filter_cons, if_neg (by simpa using c')]
          simp
      rintro acc σ G' ⟨rfl, rfl, v, rfl⟩ l4 hl4
      rw [List.length_map, List.take_length]
      have s4 := same_new hl4 (.lst ((ns.filter fun e => decide (((cnt e : Nat) : Int) = m)).map V.int))
      have e4 := upd_same (H := G') (a := l4) (o := .lst ((ns.filter fun e => decide (((cnt e : Nat) : Int) = m)).map V.int))
      generalize upd G' l4 _ = G4 at s4 e4 ⊢
      have lf := List.length_filter_le (fun e => decide (((cnt e : Nat) : Int) = m)) ns
      refine ⟨fl, l4, _, _, rfl, rfl, s4 _ _ efl, e4, ?_, fun l5 hl5 => ?_⟩
      · rw [List.length_map, List.length_map]
        have := show 72 ≤ sizeLine from by decide
        omega
      have s5 := s4.trans (same_new hl5 (.lst ((byCounts ns cnt ((sortU (ns.map fun e => ((cnt e : Nat) : Int))).take i)).map V.int ++ (ns.filter fun e => decide (((cnt e : Nat) : Int) = m)).map V.int)))
      refine ⟨sG.trans s5, ?_, l5, _, same_none (sG.trans s4) hl5, ?_, rfl⟩
      · rw [eG] at e3
        rw [eG, e3]
        exact (s5 _ _ e3).symm
      · rw [upd_same, ← List.map_append, List.take_succ, hm, Option.toList_some]
        unfold byCounts
        rw [List.flatMap_append]
        simp
    · rintro σ G ⟨sG, eG, fl, v, hfl, efl, rfl⟩
      rw [List.length_map, List.take_length] at efl
      refine ⟨_, rfl, q fl _ G hfl sG (show OrdIs ns (.rested cnt) _ from rested_counts hg.nd hg.h8 ?_ ?_) efl⟩
      · exact rise_sortU _
      · exact fun e he => (mem_sortU _ _).mpr (List.mem_map.mpr ⟨e, he, rfl⟩)
end
structure RK (kvs : List (Key × V)) (n : Nat) : Prop where
  val : ∀ k v, valV kvs k = some v → ∃ i : Int, v = .int i
  len : kvs.length ≤ n
theorem RK.nil : RK [] 0 := ⟨fun k v h => (nomatch h), Nat.le_refl _⟩
theorem RK.up {kvs : List (Key × V)} {n m : Nat} (h : RK kvs n) (l : n ≤ m) : RK kvs m := ⟨h.val, Nat.le_trans h.len l⟩
theorem RK.put {kvs : List (Key × V)} {n : Nat} (h : RK kvs n) (k : Key) (i : Int) : RK (putK kvs k (.int i)) (n + 1) := by
  refine ⟨fun k' v e => ?_, Nat.le_trans (put_le _ _ _) (Nat.succ_le_succ h.len)⟩
  rw [valV_put] at e
  split at e
  · cases e
    exact ⟨i, rfl⟩
  · exact h.val _ _ e
theorem upd_upd {H : Hp} {a : Addr} {o o' : HO} : upd (upd H a o) a o' = upd H a o' := by
  funext b
  by_cases z : b = a
  · subst z; rw [upd_same, upd_same]
  · rw [upd_ne z, upd_ne z, upd_ne z]
def spRacks (K : PySem.W.Frag) : Sp := fun vs H Q _ => ∃ (g : Addr) (ns : List Int) (c : Int), vs = [.ref g, .int c] ∧ Grp K H g ns ∧ (∀ (d : Addr) (kvs : List (Key × V)), H d = none → RK kvs 16 → Q (.ref d) (upd H d (.dK kvs)))
section
variable {P : Program} {w : World} {K : PySem.W.Frag} {mg : Str → Option Value} {base : Heap}
theorem sc__law_racks : FnScope ["_law_group", "_law_cell", "_law_racks_here", "_law_k", "_law_number"] ["_law_group", "_law_cell"] (defScope (top 14)) := ⟨rfl, rfl, rfl, by decide +kernel, rfl, by decide +kernel, by decide +kernel⟩
theorem ok_racks (T : Txt K mg) (D : Def K mg "_law_racks" (top 14) ["_law_group", "_law_cell"]) : Callee P w K mg base 1 "_law_racks" ["_law_group", "_law_cell"] (spRacks K) := by
  refine D.ok sc__law_racks (fun vs H Q E h => ?_) (fun f cdv A outer s H vs Q E hr h => ?_)
  · obtain ⟨g, ns, c, rfl, _⟩ := h
    rfl
  obtain ⟨g, ns, c, rfl, hg, q⟩ := h
  refine ⟨_, (pss_cons (ps_set (i := 2) sc__law_racks.nd rfl (Or.inl rfl) pe_dnewK)
    (pss_cons (ps_for PassesOwn.never rfl (pi_range1 rfl T.m_range (pa_cons (pe_callB (call_lenK K) rfl T.m_len boot_len (pa_cons (pv 0) pa_nil st_name)) pa_nil st_call)) (pg_name (i := 3) sc__law_racks.nd rfl (Or.inl rfl))
    (pss_cons (ps_set (i := 4) sc__law_racks.nd rfl (Or.inl rfl) (pe_op op_mod (pe_op op_mul (pv 1) (pe_op op_add (pe_op op_mul pe_int (pv 3)) pe_int)) pe_int))
    (pss_cons (ps_if (pt_cmpR op_eq (pe_op op_mod (pv 4) pe_int) pe_int (nomark _)) (pss_one (ps_dput (hu_of hr) (pv 2) (pe_ix (ix_tupK K) (pv 0) (pv 3) (fun _ _ => rfl)) pe_int rfl)) pss_nil)
    (pss_one (ps_if (pt_cmpR op_eq (pe_op op_mod (pv 4) pe_int) pe_int (nomark _)) (pss_one (ps_dput (hu_of hr) (pv 2) (pe_ix (ix_tupK K) (pv 0) (pv 3) (fun _ _ => rfl)) (pe_op op_mod (pe_op op_fdiv (pv 4) pe_int) pe_int) rfl)) pss_nil)))))
    (pss_one (ps_ret (pv 2))))), ?_⟩
  refine fun d hd => ?_
  have gat : ∀ kvs, SqT K (upd H d (.dK kvs)) g (ns.map V.int) := fun kvs => ((hg.same (same_new hd (.dK kvs))).at_)
  have h8 := hg.h8
  refine ⟨_, rfl, g, _, rfl, .inr (gat _), _, rfl, by simp, by rw [List.length_map]; omega, ?_⟩
  rw [Int.toNat_natCast, List.length_map]
  refine for_range (lo := 0) (n := ns.length) (fun i σ G => ∃ kvs v3 v4, G = upd H d (.dK kvs) ∧ RK kvs (2 * i) ∧ σ = [some (.ref g), some (.int c), some (.ref d), v3, v4]) ⟨[], _, _, rfl, .nil, rfl⟩ ?_ ?_
  · rintro i σ G hi ⟨kvs, v3, v4, rfl, hk, rfl⟩
    have hs : kvs.length < sizeLine := Nat.lt_of_le_of_lt hk.len (Nat.lt_of_le_of_lt (show 2 * i ≤ 16 by omega) (by decide))
    have at1 : atI (ns.map V.int) (0 + (i : Int)) = some (.int ns[i]) := by
      rw [Int.zero_add]
      exact atI_nat (by rw [List.getElem?_map, List.getElem?_eq_getElem hi]; rfl)
    refine ⟨_, rfl, _, rfl, _, _, rfl, rfl, .inl ⟨by decide, by decide⟩, _, _, rfl, rfl, _, _, rfl, rfl, .inr ⟨by omega, by omega⟩, _, _, rfl, rfl, (by show (0 : Int) < 1000003; decide), ?_⟩
    dsimp only [gName, tNext]
    generalize c * (2 * (0 + (i : Int)) + 3) % 1000003 = m
    refine seq_cut (fun σ G => ∃ kvs, G = upd H d (.dK kvs) ∧ RK kvs (2 * i + 1) ∧ σ = [some (.ref g), some (.int c), some (.ref d), some (.int (0 + (i : Int))), some (.int m)]) (fun R rest => ?_) ?_
    · refine ⟨_, rfl, _, _, rfl, rfl, (by show (0 : Int) < 3; decide), rfl, _, rfl, ite2 (fun c1 => ?_) (fun c1 => ?_)⟩
      · refine ⟨_, rfl, _, rfl, _, rfl, g, _, _, _, rfl, rfl, gat _, at1, d, _, rfl, .inl ⟨kvs, .inl ns[i], upd_same, rfl, hs, rfl⟩, rest _ _ ⟨_, upd_upd, hk.put _ 0, rfl⟩⟩
      · exact rest _ _ ⟨kvs, rfl, hk.up (Nat.le_succ _), rfl⟩
    rintro σ _ ⟨kvs, rfl, hk, rfl⟩
    have hs : kvs.length < sizeLine := Nat.lt_of_le_of_lt hk.len (Nat.lt_of_le_of_lt (show 2 * i + 1 ≤ 17 by omega) (by decide))
    refine ⟨_, rfl, _, _, rfl, rfl, (by show (0 : Int) < 3; decide), rfl, _, rfl, ite2 (fun c1 => ?_) (fun c1 => ?_)⟩
    · refine ⟨_, rfl, _, _, rfl, rfl, ⟨by decide, by decide⟩, _, _, rfl, rfl, (by show (0 : Int) < 24; decide), _, rfl, _, rfl, _, rfl, g, _, _, _, rfl, rfl, gat _, at1, d, _, rfl, .inl ⟨kvs, .inl ns[i], upd_same, rfl, hs, rfl⟩, ?_⟩
      exact ⟨_, _, _, upd_upd, hk.put _ _, rfl⟩
    · exact ⟨kvs, _, _, rfl, hk.up (Nat.le_succ _), rfl⟩
  · rintro σ G ⟨kvs, v3, v4, rfl, hk, rfl⟩
    exact ⟨_, rfl, q d kvs hd (hk.up (by omega))⟩
theorem sc__law_racks_by : FnScope ["_law_group", "_law_cell", "_law_left", "_law_racks_here", "_law_end"] ["_law_group", "_law_cell"] (defScope (top 18)) := ⟨rfl, rfl, rfl, by decide +kernel, rfl, by decide +kernel, by decide +kernel⟩
theorem ok_racksby (T : Txt K mg) (D : Def K mg "_law_racks_by" (top 18) ["_law_group", "_law_cell"]) : Callee P w K mg base 1 "_law_racks_by" ["_law_group", "_law_cell"] (spRacks K) := by
  refine D.ok sc__law_racks_by (fun vs H Q E h => ?_) (fun f cdv A outer s H vs Q E hr h => ?_)
  · obtain ⟨g, ns, c, rfl, _⟩ := h
    rfl
  obtain ⟨g, ns, c, rfl, hg, q⟩ := h
  refine ⟨_, (pss_cons (ps_set (i := 2) sc__law_racks_by.nd rfl (Or.inl rfl) (pe_callB call_abs rfl T.m_abs boot_abs (pa_cons (pv 1) pa_nil st_name)))
    (pss_cons (ps_set (i := 3) sc__law_racks_by.nd rfl (Or.inl rfl) pe_dnewK)
    (pss_cons (ps_for PassesOwn.never rfl (pi_tupK K (pv 0)) (pg_name (i := 4) sc__law_racks_by.nd rfl (Or.inl rfl))
    (pss_cons (ps_if (pt_cmpR op_gt (pe_op op_mod (pv 2) pe_int) pe_int (nomark _)) (pss_one (ps_dput (hu_of hr) (pv 3) (pv 4) (pe_op op_sub (pe_op op_mod (pv 2) pe_int) pe_int) rfl)) pss_nil)
    (pss_one (ps_set (i := 2) sc__law_racks_by.nd rfl (Or.inl rfl) (pe_op op_fdiv (pv 2) pe_int)))))
    (pss_one (ps_ret (pv 3)))))), ?_⟩
  refine ⟨_, rfl, _, rfl, ?_⟩
  refine fun d hd => ?_
  have gat : ∀ kvs, SqT K (upd H d (.dK kvs)) g (ns.map V.int) := fun kvs => ((hg.same (same_new hd (.dK kvs))).at_)
  have h8 := hg.h8
  refine ⟨_, rfl, g, rfl, ⟨_, gat _⟩, ?_⟩
  refine for_tup (xs := ns.map V.int) (fun i σ G => ∃ kvs z v, G = upd H d (.dK kvs) ∧ RK kvs i ∧ σ = [some (.ref g), some (.int c), some (.int z), some (.ref d), v]) ⟨[], _, _, rfl, .nil, rfl⟩ ?_ ?_ ?_
  · rintro i σ G _ ⟨kvs, z, v, rfl, _⟩
    exact gat _
  · rintro i x σ G hx ⟨kvs, z, v, rfl, hk, rfl⟩
    rw [List.getElem?_map] at hx
    obtain ⟨e, he, rfl⟩ := Option.map_eq_some_iff.mp hx
    have hi := (List.getElem?_eq_some_iff.mp he).1
    have hs : kvs.length < sizeLine := Nat.lt_of_le_of_lt hk.len (Nat.lt_of_le_of_lt (show i ≤ 8 by omega) (by decide))
    refine seq_cut (fun σ G => ∃ kvs, G = upd H d (.dK kvs) ∧ RK kvs (i + 1) ∧ σ = [some (.ref g), some (.int c), some (.int z), some (.ref d), some (.int e)]) (fun R rest => ?_) ?_
    · refine ⟨_, rfl, _, _, rfl, rfl, (by show (0 : Int) < 25; decide), _, _, rfl, rfl, _, rfl, ite2 (fun c1 => ?_) (fun c1 => ?_)⟩
      · refine ⟨_, rfl, _, _, rfl, rfl, (by show (0 : Int) < 25; decide), _, _, rfl, rfl, _, rfl, _, rfl, d, _, rfl, .inl ⟨kvs, .inl e, upd_same, rfl, hs, rfl⟩, rest _ _ ⟨_, upd_upd, hk.put _ _, rfl⟩⟩
      · exact rest _ _ ⟨kvs, rfl, hk.up (Nat.le_succ _), rfl⟩
    rintro σ _ ⟨kvs, rfl, hk, rfl⟩
    exact ⟨_, rfl, _, _, rfl, rfl, ⟨by decide, by decide⟩, kvs, _, _, rfl, hk, rfl⟩
  · rintro σ G ⟨kvs, z, v, rfl, hk, rfl⟩
    rw [List.length_map] at hk
    exact ⟨_, rfl, q d kvs hd (hk.up (by omega))⟩
end
theorem kit_tup_tup {K : PySem.W.Frag} : PySem.W.kitOne K (.type "tuple") (.type "tuple") = some true := kit_of (by decide +kernel)
def spWhole : Sp := fun vs H Q _ => ∃ i : Int, vs = [.int i] ∧ Q (.bl true) H
inductive FoundAt (H : Hp) (t : Addr) (ys : List Int) : V → V → Prop
  | none {l : Addr} (e : H t = some (.tup [.ref l, .non, .non])) (el : H l = some (.lst (ys.map V.int))) : FoundAt H t ys .non .non
  | some {l : Addr} {j : Nat} {x r : Int} (e : H t = some (.tup [.ref l, .int x, .int r])) (el : H l = some (.lst ((ys.take (j + 1)).map V.int))) (hj : ys[j]? = some x) : FoundAt H t ys (.int x) (.int r)
theorem FoundAt.same {H H' : Hp} {t : Addr} {ys : List Int} {x r : V} (h : FoundAt H t ys x r) (s : Same H H') : FoundAt H' t ys x r := by
  cases h with
  | none e el => exact .none (s _ _ e) (s _ _ el)
  | some e el hj => exact .some (s _ _ e) (s _ _ el) hj
def spLooked (K : PySem.W.Frag) : Sp := fun vs H Q _ => ∃ (t o : Addr) (ys : List Int) (x r : V), vs = [.ref t, .ref o, x, r] ∧ FoundAt H t ys x r ∧ H o = some (.lst (ys.map V.int)) ∧ ys.Nodup ∧ ys.length ≤ 8 ∧ ∀ H', Same H H' → Q (.bl true) H'
section
variable {P : Program} {w : World} {K : PySem.W.Frag} {mg : Str → Option Value} {base : Heap}
theorem sc__law_whole : FnScope ["_law_found"] ["_law_found"] (defScope (top 11)) := ⟨rfl, rfl, rfl, by decide +kernel, rfl, by decide +kernel, by decide +kernel⟩
theorem ok_whole (T : Txt K mg) (D : Def K mg "_law_whole" (top 11) ["_law_found"]) : Callee P w K mg base 1 "_law_whole" ["_law_found"] spWhole := by
  refine D.ok sc__law_whole (fun vs H Q E h => ?_) (fun f cdv A outer s H vs Q E hr h => ?_)
  · obtain ⟨i, rfl, _⟩ := h
    rfl
  obtain ⟨i, rfl, q⟩ := h
  refine ⟨_, (pss_one (ps_ret (pe_and (pe_callB (call_isinstK K) rfl T.m_isinstance boot_isinstance (pa_cons (pv 0) (pa_cons (pe_bltn (v := .ty "int") rfl T.m_int boot_int rfl) pa_nil st_name) st_name)) (pe_one (pe_not (pe_callB (call_isinstK K) rfl T.m_isinstance boot_isinstance (pa_cons (pv 0) (pa_cons (pe_bltn (v := .ty "bool") rfl T.m_bool boot_bool rfl) pa_nil st_name) st_name))))))), ?_⟩
  refine ⟨_, rfl, _, _, _, true, rfl, .int i, kit_int_int, _, rfl, iteT ?_⟩
  exact ⟨_, rfl, _, _, _, false, rfl, .int i, kit_int_bool, _, rfl, q⟩
theorem sc__law_looked : FnScope ["_law_found", "_law_order_here", "_law_end", "_law_rack"] ["_law_found", "_law_order_here", "_law_end", "_law_rack"] (defScope (top 16)) := ⟨rfl, rfl, rfl, by decide +kernel, rfl, by decide +kernel, by decide +kernel⟩
theorem ok_looked (T : Txt K mg) (C__law_whole : Callee P w K mg base 1 "_law_whole" ["_law_found"] spWhole) (D : Def K mg "_law_looked" (top 16) ["_law_found", "_law_order_here", "_law_end", "_law_rack"]) : Callee P w K mg base 3 "_law_looked" ["_law_found", "_law_order_here", "_law_end", "_law_rack"] (spLooked K) := by
  refine D.ok sc__law_looked (fun vs H Q E h => ?_) (fun f cdv A outer s H vs Q E hr h => ?_)
  · obtain ⟨t, o, ys, x, r, rfl, _⟩ := h
    rfl
  obtain ⟨t, o, ys, x, r, rfl, hf, ho, nd, h8, q⟩ := h
  refine ⟨_, (pss_cons (ps_if (PW.pt (pw_or (pt_not (pt_truK K (pe_callB (call_isinstK K) rfl T.m_isinstance boot_isinstance (pa_cons (pv 0) (pa_cons (pe_bltn (v := .ty "tuple") rfl T.m_tuple boot_tuple rfl) pa_nil st_name) st_name)) (fun _ => rfl))) (pw_or (pt_cmpR op_ne (pe_callB (call_lenK K) rfl T.m_len boot_len (pa_cons (pv 0) pa_nil st_name)) pe_int (nomark _)) (pw_or1 (pt_not (pt_truK K (pe_callB (call_isinstK K) rfl T.m_isinstance boot_isinstance (pa_cons (pe_ix (ix_tupK K) (pv 0) pe_int (fun _ _ => rfl)) (pa_cons (pe_bltn (v := .ty "list") rfl T.m_list boot_list rfl) pa_nil st_name) st_sub)) (fun _ => rfl))))))) (pss_one (ps_ret pe_bl)) pss_nil)
    (pss_cons (ps_if (pt_cmpR op_isN (pv 2) pe_non (nomark _)) (pss_one (ps_ret (pe_and (pe_cmpR (op_eqIK K (Room.units0 hr)) (pe_ix (ix_tupK K) (pv 0) pe_int (fun _ _ => rfl)) (pv 1) (nomark _)) (pe_and (pe_cmpR op_isN (pe_ix (ix_tupK K) (pv 0) pe_int (fun _ _ => rfl)) pe_non (nomark _)) (pe_one (pe_cmpR op_isN (pe_ix (ix_tupK K) (pv 0) pe_int (fun _ _ => rfl)) pe_non (nomark _))))))) pss_nil)
    (pss_cons (ps_if (PW.pt (pw_or (pt_not (pt_truK K (pe_fn C__law_whole hr rfl (pa_cons (pe_ix (ix_tupK K) (pv 0) pe_int (fun _ _ => rfl)) pa_nil st_sub)) (fun _ => rfl))) (pw_or1 (pt_not (pt_truK K (pe_fn C__law_whole hr rfl (pa_cons (pe_ix (ix_tupK K) (pv 0) pe_int (fun _ _ => rfl)) pa_nil st_sub)) (fun _ => rfl)))))) (pss_one (ps_ret pe_bl)) pss_nil)
    (pss_one (ps_ret (pe_cmpR (op_eqT3 K (Room.unitsT hr)) (pv 0) (pe_tup (pa_cons (pe_slice (sl_listK K) (pv 1) po_none (po_some (pe_op op_add (pe_bmK K PySem.F.plainAttrs_list PySem.F.slot_list_index PySem.F.type_list_index (mt_indexL K) (pv 1) (pa_cons (pv 2) pa_nil st_name)) pe_int))) (pa_cons (pv 2) (pa_cons (pv 3) pa_nil st_name) st_name) st_sub)) (nomark _))))))), ?_⟩
  cases hf with
  | @none l e el =>
    refine ⟨_, rfl, _, _, _, true, rfl, .tup e, kit_tup_tup, _, rfl, iteF ?_⟩
    refine ⟨_, rfl, t, _, rfl, .inr (SqT.of e), rfl, _, rfl, iteN (by simp) ?_⟩
    refine ⟨_, rfl, t, _, _, _, rfl, rfl, SqT.of e, rfl, _, _, _, true, rfl, .lst el, kit_lst_lst, _, rfl, iteF ?_⟩
    refine ⟨_, rfl, rfl, _, rfl, iteT ?_⟩
    refine ⟨_, rfl, t, _, _, _, rfl, rfl, SqT.of e, rfl, _, rfl, l, o, ys, ys, rfl, rfl, SqL.of el, SqL.of ho, _, rfl, ?_⟩
    rw [if_pos (decide_eq_true rfl)]
    refine ⟨_, rfl, t, _, _, _, rfl, rfl, SqT.of e, rfl, rfl, _, rfl, iteT ?_⟩
    exact ⟨_, rfl, t, _, _, _, rfl, rfl, SqT.of e, rfl, rfl, q H (Same.refl _)⟩
  | @some l j x r e el hj =>
    refine ⟨_, rfl, _, _, _, true, rfl, .tup e, kit_tup_tup, _, rfl, iteF ?_⟩
    refine ⟨_, rfl, t, _, rfl, .inr (SqT.of e), rfl, _, rfl, iteN (by simp) ?_⟩
    refine ⟨_, rfl, t, _, _, _, rfl, rfl, SqT.of e, rfl, _, _, _, true, rfl, .lst el, kit_lst_lst, _, rfl, iteF ?_⟩
    refine ⟨_, rfl, rfl, _, rfl, iteF ?_⟩
    refine ⟨_, rfl, t, _, _, _, rfl, rfl, SqT.of e, rfl, x, rfl, _, rfl, iteF ?_⟩
    refine ⟨_, rfl, t, _, _, _, rfl, rfl, SqT.of e, rfl, r, rfl, _, rfl, iteF ?_⟩
    obtain ⟨hl, hx⟩ := List.getElem?_eq_some_iff.mp hj
    refine ⟨_, rfl, _, rfl, _, rfl, .inl ⟨rfl, _, SqL.of ho⟩, _, rfl, o, x, ys, j, rfl, rfl, ho, hj, fun m hm z => ?_, by omega, _, _, rfl, rfl, _, rfl, o, _, rfl, SqL.of ho, fun p hp => ?_⟩
    · obtain ⟨h1, h2⟩ := List.getElem?_eq_some_iff.mp z
      have e1 := nd.idxOf_getElem m h1
      have e2 := nd.idxOf_getElem j hl
      rw [h2] at e1
      rw [hx] at e2
      omega
    have s1 := same_new hp (.lst (cutV (ys.map V.int) none (some ((j : Int) + 1))))
    have ep := upd_same (H := H) (a := p) (o := .lst (cutV (ys.map V.int) none (some ((j : Int) + 1))))
    generalize upd H p _ = H1 at s1 ep ⊢
    rw [show ((j : Nat) : Int) + 1 = ((j + 1 : Nat) : Int) from rfl, cutV_to _ _ hl] at ep
    refine ⟨_, rfl, _, rfl, (by show 3 ≤ sizeLine; decide), fun t2 ht2 => ?_⟩
    have s2 := same_new ht2 (.tup [.ref p, .int x, .int r])
    exact ⟨t, t2, l, p, ys.take (j + 1), x, r, rfl, rfl, SqT.of ((s1.trans s2) _ _ e), SqT.of upd_same, SqL.of ((s1.trans s2) _ _ el), SqL.of (s2 _ _ ep), q _ (s1.trans s2)⟩
end
theorem PickAt.wr {H : Hp} {CP CR CS g : Addr} {ns : List Int} {p d : Addr} {s : Pst} (h : PickAt H CP CR CS g ns p d s) : ∃ u, H (wrA p d s) = some u ∧ ((∃ C dx fs, u = .ins C dx fs) ∨ ∃ kvs, u = .dK kvs) := by
  cases h with
  | first e => exact ⟨_, e, .inl ⟨_, _, _, rfl⟩⟩
  | round e h => exact ⟨_, e, .inl ⟨_, _, _, rfl⟩⟩
  | rested e hd h => exact ⟨_, hd, .inr ⟨_, rfl⟩⟩
theorem PickAt.wr_ne {H : Hp} {CP CR CS g : Addr} {ns : List Int} {p d : Addr} {s : Pst} (h : PickAt H CP CR CS g ns p d s) {b : Addr} {u : HO} (e : H b = some u) (h1 : ∀ C dx fs, u ≠ .ins C dx fs) (h2 : ∀ kvs, u ≠ .dK kvs) : b ≠ wrA p d s := fun z => by
  obtain ⟨v, hv, hk⟩ := h.wr
  rw [← z, e] at hv
  cases hv
  rcases hk with ⟨_, _, _, z⟩ | ⟨_, z⟩
  · exact h1 _ _ _ z
  · exact h2 _ z
theorem tab_took {H H' : Hp} {W T : Addr} {pos : Pos} {q : Str} (t : TabIs H T pos q) (k : ∀ b u, b ≠ W → H b = some u → H' b = some u) (n : ∀ b u, H b = some u → (∀ C dx fs, u ≠ .ins C dx fs) → (∀ kvs, u ≠ .dK kvs) → b ≠ W) : TabIs H' T pos q := by
  have kk : ∀ b u, H b = some u → (∀ C dx fs, u ≠ .ins C dx fs) → (∀ kvs, u ≠ .dK kvs) → H' b = some u := fun b u e h1 h2 => k b u (n b u e h1 h2) e
  rcases t with t | ⟨c, t1, t2⟩
  · exact .inl (kk _ _ t (fun _ _ _ z => nomatch z) fun _ z => nomatch z)
  · exact .inr ⟨c, kk _ _ t1 (fun _ _ _ z => nomatch z) (fun _ z => nomatch z), kk _ _ t2 (fun _ _ _ z => nomatch z) (fun _ z => nomatch z)⟩
def spHunted (K : PySem.W.Frag) (CP CR CS T : Addr) : Sp := fun vs H Q _ => ∃ (p d g f dR : Addr) (ns ys : List Int) (st : Pst) (kvs : List (Key × V)), vs = [.ref p, .ref f] ∧ Grp K H g ns ∧ PickAt H CP CR CS g ns p d st ∧ OrdIs ns st ys ∧ Tab T H ∧ WayAt H f dR ∧ H dR = some (.dK kvs) ∧ RK kvs 16 ∧
  ((∀ e, e ∈ ys → valV kvs (.inl e) = none) → ∀ (t : Addr) (H' : Hp), ButT T H H' → Tab T H' → FoundAt H' t ys .non .non → Q (.ref t) H') ∧
  ∀ (j : Nat) (e r : Int), ys[j]? = some e → (∀ m, m < j → ∀ x, ys[m]? = some x → valV kvs (.inl x) = none) → valV kvs (.inl e) = some (.int r) → ∀ (t : Addr) (H' : Hp), (∀ b u, b ≠ T → b ≠ wrA p d st → H b = some u → H' b = some u) → Tab T H' → PickAt H' CP CR CS g ns p d (tookM ns e st) → FoundAt H' t ys (.int e) (.int r) → Q (.ref t) H'
section
variable {P : Program} {w : World} {K : PySem.W.Frag} {mg : Str → Option Value} {base : Heap} {C_Picker C_RoundPicker C_RestedPicker C_HallError C_NoKind : Addr} {T_RestedPicker_order T__law_way_of : Addr}
theorem sc_hunted : FnScope ["picker", "way", "looked", "end", "k"] ["picker", "way"] (defScope (top 8)) := ⟨rfl, rfl, rfl, by decide +kernel, rfl, by decide +kernel, by decide +kernel⟩
set_option maxHeartbeats 2000000 in
theorem ok_hunted (T : Txt K mg) (Z : TxtC K mg C_Picker C_RoundPicker C_RestedPicker C_HallError C_NoKind) (C_Picker_order : CalleeM P w K mg base 1 C_Picker "order" ["self"] [] noKw (spOrder K C_Picker C_RoundPicker C_RestedPicker T_RestedPicker_order isF)) (C_RoundPicker_order : CalleeM P w K mg base 1 C_RoundPicker "order" ["self"] [] noKw (spOrder K C_Picker C_RoundPicker C_RestedPicker T_RestedPicker_order isR)) (C_RestedPicker_order : CalleeM P w K mg base 4 C_RestedPicker "order" ["self"] [] noKw (spOrder K C_Picker C_RoundPicker C_RestedPicker T_RestedPicker_order isS)) (C_Picker_took : CalleeM P w K mg base 1 C_Picker "took" ["self", "end"] [] noKw (spTook K C_Picker C_RoundPicker C_RestedPicker isF)) (C_RoundPicker_took : CalleeM P w K mg base 1 C_RoundPicker "took" ["self", "end"] [] noKw (spTook K C_Picker C_RoundPicker C_RestedPicker isR)) (C_RestedPicker_took : CalleeM P w K mg base 1 C_RestedPicker "took" ["self", "end"] [] noKw (spTook K C_Picker C_RoundPicker C_RestedPicker isS)) (D : Def K mg "hunted" (top 8) ["picker", "way"]) : Callee P w K mg base 5 "hunted" ["picker", "way"] (spHunted K C_Picker C_RoundPicker C_RestedPicker T_RestedPicker_order) := by
  refine D.ok sc_hunted (fun vs H Q E h => ?_) (fun f cdv A outer s H vs Q E hr h => ?_)
  · obtain ⟨p, d, g, f, dR, ns, ys, st, kvs, rfl, _⟩ := h
    rfl
  obtain ⟨p, d, g, wf, dR, ns, ys, st, kvs, rfl, hg, hp, ho, tab, hw, hR, hk, q0, q1⟩ := h
  refine ⟨_, (pss_cons (ps_set (i := 2) sc_hunted.nd rfl (Or.inl rfl) (pe_lst pa_nil))
    (pss_cons (ps_for PassesOwn.never rfl (pi_listK K (pe_either (pe_m0 Z.cl_Picker C_Picker_order hr (pv 0)) (pe_either (pe_m0 Z.cl_RoundPicker C_RoundPicker_order hr (pv 0)) (pe_m0 Z.cl_RestedPicker C_RestedPicker_order hr (pv 0))))) (pg_name (i := 3) sc_hunted.nd rfl (Or.inl rfl))
    (pss_cons (ps_expr (pe_bmK K PySem.F.plainAttrs_list PySem.F.slot_list_append PySem.F.type_list_append mt_appendR (pv 2) (pa_cons (pv 3) pa_nil st_name)))
    (pss_cons (ps_set (i := 4) sc_hunted.nd rfl (Or.inl rfl) (pe_clo (name := "_law_way") (q := wayQ) (params := defArgs wayS) (body := defBody wayS) (scope := defScope wayS) (p := "_law_end") (x0 := "_law_racks_here") sc_way hr rfl (pv 1) (pa_cons (pv 3) pa_nil st_name) (fun cl f c s H hr => (pss_one (ps_ret (pe_dget1 (hu_of hr) (pv 1) (pv 0) ⟨rfl, rfl, rfl, rfl⟩))))))
    (pss_one (ps_if (pt_cmpR op_notN (pv 4) pe_non (nomark _)) (pss_cons (ps_expr (pe_either (pe_m Z.cl_Picker C_Picker_took hr (pv 0) (pa_cons (pv 3) pa_nil st_name)) (pe_either (pe_m Z.cl_RoundPicker C_RoundPicker_took hr (pv 0) (pa_cons (pv 3) pa_nil st_name)) (pe_m Z.cl_RestedPicker C_RestedPicker_took hr (pv 0) (pa_cons (pv 3) pa_nil st_name)))))
    (pss_one (ps_ret (pe_tup (pa_cons (pv 2) (pa_cons (pv 3) (pa_cons (pv 4) pa_nil st_name) st_name) st_name))))) pss_nil)))))
    (pss_one (ps_ret (pe_tup (pa_cons (pv 2) (pa_cons pe_non (pa_cons pe_non pa_nil st_const) st_const) st_name)))))), ?_⟩
  have ord : ∀ (G : Hp) (σ : L2.St) (Q' : VK), σ[0]? = some (some (.ref p)) → ButT T_RestedPicker_order H G → Tab T_RestedPicker_order G → (∀ (l : Addr) (G' : Hp), G l = none → ButT T_RestedPicker_order G G' → Tab T_RestedPicker_order G' → G' l = some (.lst (ys.map V.int)) → Q' (.ref l) G') →
      tEith (tMeth C_Picker "order" (spOrder K C_Picker C_RoundPicker C_RestedPicker T_RestedPicker_order isF) [] E0 (tVar 0) tNil) (tEith (tMeth C_RoundPicker "order" (spOrder K C_Picker C_RoundPicker C_RestedPicker T_RestedPicker_order isR) [] E0 (tVar 0) tNil) (tMeth C_RestedPicker "order" (spOrder K C_Picker C_RoundPicker C_RestedPicker T_RestedPicker_order isS) [] E0 (tVar 0) tNil)) σ G Q' := fun G σ Q' hσ bG tG k => by
    have hgG := hg.but tab bG
    have hpG := hp.but tab bG
    have fin : ∀ (D : Pst → Prop), D st → spOrder K C_Picker C_RoundPicker C_RestedPicker T_RestedPicker_order D [.ref p] G Q' E0 := fun D hD => ⟨p, d, g, ns, st, rfl, hD, hgG, hpG, tG, fun l ys' G' h1 h2 h3 h4 h5 => k l G' h1 h3 h4 (by rw [ho.one h2]; exact h5)⟩
    cases hpG with
    | @first dx e => exact .inl ⟨_, hσ, p, dx, _, rfl, e, rfl, fin _ rfl⟩
    | @round dx st e h => exact .inr (.inl ⟨_, hσ, p, dx, _, rfl, e, rfl, fin _ ⟨_, rfl⟩⟩)
    | @rested dx cnt kvs e hd h => exact .inr (.inr ⟨_, hσ, p, dx, _, rfl, e, rfl, fin _ ⟨_, rfl⟩⟩)
  have took : ∀ (G : Hp) (σ : L2.St) (Q' : VK) (e : Int), σ[0]? = some (some (.ref p)) → σ[3]? = some (some (.int e)) → e ∈ ns → ButT T_RestedPicker_order H G → (∀ G' : Hp, (∀ b u, b ≠ wrA p d st → G b = some u → G' b = some u) → PickAt G' C_Picker C_RoundPicker C_RestedPicker g ns p d (tookM ns e st) → Q' .non G') →
      tEith (tMeth C_Picker "took" (spTook K C_Picker C_RoundPicker C_RestedPicker isF) [] E0 (tVar 0) (tCons (tVar 3) tNil)) (tEith (tMeth C_RoundPicker "took" (spTook K C_Picker C_RoundPicker C_RestedPicker isR) [] E0 (tVar 0) (tCons (tVar 3) tNil)) (tMeth C_RestedPicker "took" (spTook K C_Picker C_RoundPicker C_RestedPicker isS) [] E0 (tVar 0) (tCons (tVar 3) tNil))) σ G Q' := fun G σ Q' e hσ hσ3 he bG k => by
    have hgG := hg.but tab bG
    have hpG := hp.but tab bG
    have fin : ∀ (D : Pst → Prop), D st → spTook K C_Picker C_RoundPicker C_RestedPicker D [.ref p, .int e] G Q' E0 := fun D hD => ⟨p, d, g, ns, st, e, rfl, hD, hgG, hpG, he, k⟩
    cases hpG with
    | @first dx e => exact .inl ⟨_, hσ, p, dx, _, rfl, e, rfl, _, hσ3, fin _ rfl⟩
    | @round dx st e h => exact .inr (.inl ⟨_, hσ, p, dx, _, rfl, e, rfl, _, hσ3, fin _ ⟨_, rfl⟩⟩)
    | @rested dx cnt kvs e hd h => exact .inr (.inr ⟨_, hσ, p, dx, _, rfl, e, rfl, _, hσ3, fin _ ⟨_, rfl⟩⟩)
  refine ⟨(by show 0 ≤ sizeLine; decide), fun lk hlk => ?_⟩
  have s0 := same_new hlk (.lst [])
  have e0 := upd_same (H := H) (a := lk) (o := .lst [])
  generalize upd H lk _ = G0 at s0 e0 ⊢
  refine ord G0 _ _ rfl (same_but s0) (tab_same s0 tab) fun l G1 hl b1 t1 el => ?_
  have nl : lk ≠ l := fun z => by rw [z, hl] at e0; cases e0
  have e1 := ButT.keep (tab_same s0 tab) b1 e0 fun ps z => nomatch z
  refine ⟨l, rfl, ⟨_, SqL.of el⟩, ?_⟩
  refine for_list (xs := ys.map V.int) (fun i σ G => ButT T_RestedPicker_order H G ∧ Tab T_RestedPicker_order G ∧ G l = some (.lst (ys.map V.int)) ∧ G lk = some (.lst ((ys.take i).map V.int)) ∧ (∀ m, m < i → ∀ x, ys[m]? = some x → valV kvs (.inl x) = none) ∧ ∃ v3 v4, σ = [some (.ref p), some (.ref wf), some (.ref lk), v3, v4]) ⟨but_same s0 b1, t1, el, e1, (fun m hm => absurd hm (Nat.not_lt_zero m)), _, _, rfl⟩ ?_ ?_ ?_
  · rintro i σ G _ ⟨_, _, e, _⟩
    exact SqL.of e
  · rintro i x σ G hx ⟨bG, tG, elG, eG, hno, v3, v4, rfl⟩
    rw [List.getElem?_map] at hx
    obtain ⟨e, he, rfl⟩ := Option.map_eq_some_iff.mp hx
    have hi := (List.getElem?_eq_some_iff.mp he).1
    have ylen := ho.len hg.nd
    have h8 := hg.h8
    have hlkT : lk ≠ T_RestedPicker_order := tG.ne eG fun ps z => nomatch z
    refine ⟨_, rfl, .inl ⟨rfl, _, SqL.of eG⟩, _, rfl, lk, _, _, rfl, rfl, eG, ?_, ?_⟩
    · rw [List.length_map, List.length_take]; exact Nat.lt_of_le_of_lt (show min i ys.length ≤ 8 by omega) (by decide)
    have b2 : ButT T_RestedPicker_order H (upd G lk (.lst ((ys.take i).map V.int ++ [.int e]))) := fun b u n z => by
      rw [upd_ne (ne_of_none z hlk)]
      exact bG b u n z
    have t2 : Tab T_RestedPicker_order (upd G lk (.lst ((ys.take i).map V.int ++ [.int e]))) := tab_upd tG eG
    have el2 : (upd G lk (.lst ((ys.take i).map V.int ++ [.int e]))) l = some (.lst (ys.map V.int)) := by rw [upd_ne nl.symm]; exact elG
    have e2 : (upd G lk (.lst ((ys.take i).map V.int ++ [.int e]))) lk = some (.lst ((ys.take (i + 1)).map V.int)) := by
      rw [upd_same, List.take_succ, he, Option.toList_some, List.map_append]
      rfl
    generalize upd G lk _ = G2 at b2 t2 el2 e2 ⊢
    have hw2 : WayAt G2 wf dR := hw.keep fun b φ z => ButT.keep tab b2 z fun ps z => nomatch z
    have hR2 := ButT.keep tab b2 hR fun ps z => nomatch z
    refine ⟨_, rfl, wf, dR, rfl, hw2, _, rfl, .int e, fun y => y = (valV kvs (.inl e)).getD .non, rfl, hw2, fun c0 hc0 => ?_, fun y hy => ?_⟩
    · have hR3 : wo G2 c0 dR = some (.dK kvs) := by rw [wo_ne (fun z => by rw [z, hc0] at hR2; cases hR2)]; exact hR2
      exact ⟨_, rfl, dR, rfl, .inl ⟨_, .inl hR3⟩, _, rfl, _, DGet.k (k := .inl e) hR3, rfl, rfl⟩
    subst hy
    cases hv : valV kvs (.inl e) with
    | none =>
      refine ⟨_, rfl, rfl, _, rfl, iteF ?_⟩
      refine ⟨b2, t2, el2, e2, fun m hm y hy => ?_, _, _, rfl⟩
      by_cases z : m = i
      · subst z
        have ex : e = y := Option.some.inj (he.symm.trans hy)
        rw [← ex]
        exact hv
      · exact hno m (by omega) y hy
    | some r =>
      obtain ⟨r, rfl⟩ := hk.val _ _ hv
      refine ⟨_, rfl, rfl, _, rfl, iteT ?_⟩
      refine took G2 _ _ e rfl rfl ((ho.mem e).mp (List.mem_of_getElem? he)) b2 fun G3 k3 hp3 => ?_
      have hp2 := hp.but tab b2
      have wn : ∀ b u, G2 b = some u → (∀ C dx fs, u ≠ .ins C dx fs) → (∀ kvs, u ≠ .dK kvs) → b ≠ wrA p d st := fun b u z h1 h2 => hp2.wr_ne z h1 h2
      have t3 : Tab T_RestedPicker_order G3 := tab_took t2 k3 wn
      have e3 := k3 _ _ (wn _ _ e2 (fun _ _ _ z => nomatch z) fun _ z => nomatch z) e2
      refine ⟨_, rfl, _, rfl, _, rfl, (by show 3 ≤ sizeLine; decide), fun t ht => ?_⟩
      have s4 := same_new ht (.tup [.ref lk, .int e, .int r])
      exact q1 i e r he hno hv t _ (fun b u n1 n2 z => s4 _ _ (k3 _ _ n2 (b2 _ _ n1 z))) (tab_same s4 t3) (hp3.same s4) (.some (j := i) upd_same (s4 _ _ e3) he)
  · rintro σ G ⟨bG, tG, elG, eG, hno, v3, v4, rfl⟩
    rw [List.length_map, List.take_length] at eG
    rw [List.length_map] at hno
    refine ⟨_, rfl, (by show 3 ≤ sizeLine; decide), fun t ht => ?_⟩
    have s4 := same_new ht (.tup [.ref lk, .non, .non])
    refine q0 (fun e he => ?_) t _ (ButT.trans bG (same_but s4)) (tab_same s4 tG) (.none upd_same (s4 _ _ eG))
    obtain ⟨m, hm, rfl⟩ := List.mem_iff_getElem.mp he
    exact hno m hm _ (List.getElem?_eq_getElem hm)
end
def Kp (G G' : Hp) : Prop := ∀ b u, (∀ ps, u ≠ .tbl ps) → (∀ C dx fs, u ≠ .ins C dx fs) → (∀ kvs, u ≠ .dK kvs) → G b = some u → G' b = some u
theorem Kp.seqL {K : PySem.W.Frag} {G G' : Hp} (k : Kp G G') {a : Addr} {xs : List V} (h : SqL K G a xs) : SqL K G' a xs := by
  rcases h with (h | ⟨o, h⟩) | h
  · exact .inl (.inl (k _ _ (fun _ z => nomatch z) (fun _ _ _ z => nomatch z) (fun _ z => nomatch z) h))
  · exact .inl (.inr ⟨o, k _ _ (fun _ z => nomatch z) (fun _ _ _ z => nomatch z) (fun _ z => nomatch z) h⟩)
  · exact .inr h
theorem Kp.lst {G G' : Hp} (k : Kp G G') {a : Addr} {xs : List V} (h : G a = some (.lst xs)) : G' a = some (.lst xs) := k _ _ (fun _ z => nomatch z) (fun _ _ _ z => nomatch z) (fun _ z => nomatch z) h
theorem Kp.grp {K : PySem.W.Frag} {G G' : Hp} (k : Kp G G') {g : Addr} {ns : List Int} (h : Grp K G g ns) : Grp K G' g ns := ⟨let ⟨ob, d, e⟩ := h.fz; ⟨ob, d, k _ _ (fun _ z => nomatch z) (fun _ _ _ z => nomatch z) (fun _ z => nomatch z) e⟩, h.nd, h.h8, h.pos⟩
theorem tab_any {H H' : Hp} {T : Addr} {pos : Pos} {q : Str} (t : TabIs H T pos q) (k1 : ∀ ps, H T = some (.tbl ps) → H' T = some (.tbl ps)) (k2 : Kp H H') : TabIs H' T pos q := by
  rcases t with t | ⟨c, t1, t2⟩
  · exact .inl (k1 _ t)
  · exact .inr ⟨c, k1 _ t1, k2 _ _ (fun _ z => nomatch z) (fun _ _ _ z => nomatch z) (fun _ z => nomatch z) t2⟩
theorem but_kp {T : Addr} {G G' : Hp} {pos : Pos} {q : Str} (t : TabIs G T pos q) (b : ButT T G G') : Kp G G' := fun x u h1 _ _ e => b x u (fun z => by
  obtain ⟨ps, h⟩ := tab_tbl t
  rw [z, h] at e
  cases e
  exact h1 _ rfl) e
theorem KindIs.took {ns : List Int} {last : Option Int} {cnt : Int → Nat} {z : Str} {st : Pst} (h : KindIs ns last cnt z st) (e : Int) : KindIs ns (some e) (bump cnt e) z (tookM ns e st) := by
  rcases h with ⟨rfl, rfl⟩ | ⟨rfl, rfl⟩ | ⟨rfl, rfl⟩
  · exact .inl ⟨rfl, rfl⟩
  · exact .inr (.inl ⟨rfl, rfl⟩)
  · exact .inr (.inr ⟨rfl, rfl⟩)
theorem wr_took (p d : Addr) (ns : List Int) (e : Int) (st : Pst) : wrA p d (tookM ns e st) = wrA p d st := by cases st <;> rfl
theorem OrdIs.nd {ns : List Int} {s : Pst} {ys : List Int} (h : OrdIs ns s ys) (nd : ns.Nodup) : ys.Nodup := by
  cases s with
  | first => rw [show ys = ns from h]; exact nd
  | round st =>
    rw [show ys = rot ns st from h, rot]
    have : (ns.drop st ++ ns.take st).Perm ns := by
      have := List.perm_append_comm (l₁ := ns.drop st) (l₂ := ns.take st)
      rwa [List.take_append_drop] at this
    exact this.nodup_iff.mpr nd
  | rested cnt => exact (RestedIs.perm nd h).nodup_iff.mpr nd
theorem kind_at (ns : List Int) (m : Int) : ∃ (z : Str) (s0 : Pst), atI [V.str "first", V.str "round", V.str "rested"] (m % 3) = some (.str z) ∧ kindS (.str z) s0 ∧ KindIs ns none (fun _ => 0) z s0 := by
  obtain ⟨j, hj⟩ : ∃ j : Nat, m % 3 = (j : Int) := ⟨(m % 3).toNat, by omega⟩
  have h3 : j < 3 := by omega
  rw [hj]
  match j, h3 with
  | 0, _ => exact ⟨_, _, atI_nat rfl, .inl ⟨rfl, rfl⟩, .inl ⟨rfl, rfl⟩⟩
  | 1, _ => exact ⟨_, _, atI_nat rfl, .inr (.inl ⟨rfl, rfl⟩), .inr (.inl ⟨rfl, rfl⟩)⟩
  | 2, _ => exact ⟨_, _, atI_nat rfl, .inr (.inr ⟨rfl, rfl⟩), .inr (.inr ⟨rfl, rfl⟩)⟩
structure W4 (K : PySem.W.Frag) (G : Hp) (CP CR CS T1 T2 a g p d cA : Addr) (cs ns : List Int) (z : Str) (last : Option Int) (cnt : Int → Nat) (st : Pst) : Prop where
  sc : SqL K G a (cs.map V.int)
  grp : Grp K G g ns
  pick : PickAt G CP CR CS g ns p d st
  cd : ∃ kvs, G cA = some (.dK kvs) ∧ CD kvs ns cnt
  kind : KindIs ns last cnt z st
  inl : ∀ e, last = some e → e ∈ ns
  t1 : Tab T1 G
  t2 : TabW T2 G
  ne : cA ≠ wrA p d st
section
variable {K : PySem.W.Frag} {G G' : Hp} {CP CR CS T1 T2 a g p d cA : Addr} {cs ns : List Int} {z : Str} {last : Option Int} {cnt : Int → Nat} {st : Pst}
theorem W4.keep (W : W4 K G CP CR CS T1 T2 a g p d cA cs ns z last cnt st) (k : ∀ b u, (∀ ps, u ≠ .tbl ps) → G b = some u → G' b = some u) (t1 : Tab T1 G') (t2 : TabW T2 G') : W4 K G' CP CR CS T1 T2 a g p d cA cs ns z last cnt st := by
  have kp : Kp G G' := fun b u h _ _ e => k b u h e
  exact ⟨kp.seqL W.sc, kp.grp W.grp, W.pick.keep fun b u h _ e => k b u h e, let ⟨kvs, e, c⟩ := W.cd; ⟨kvs, k _ _ (fun _ z => nomatch z) e, c⟩, W.kind, W.inl, t1, t2, W.ne⟩
theorem W4.same (W : W4 K G CP CR CS T1 T2 a g p d cA cs ns z last cnt st) (s : Same G G') : W4 K G' CP CR CS T1 T2 a g p d cA cs ns z last cnt st := W.keep (fun b u _ e => s b u e) (tab_same s W.t1) (tab_same s W.t2)
theorem W4.but1 (W : W4 K G CP CR CS T1 T2 a g p d cA cs ns z last cnt st) (hne : T2 ≠ T1) (b : ButT T1 G G') (t : Tab T1 G') : W4 K G' CP CR CS T1 T2 a g p d cA cs ns z last cnt st := W.keep (fun x u h e => ButT.keep W.t1 b e h) t (tab_any W.t2 (fun ps e => b _ _ hne e) (but_kp W.t1 b))
theorem W4.but2 (W : W4 K G CP CR CS T1 T2 a g p d cA cs ns z last cnt st) (hne : T2 ≠ T1) (b : ButT T2 G G') (t : TabW T2 G') : W4 K G' CP CR CS T1 T2 a g p d cA cs ns z last cnt st := W.keep (fun x u h e => b x u (fun z => by
    obtain ⟨ps, h'⟩ := tab_tbl W.t2
    rw [z, h'] at e
    cases e
    exact h _ rfl) e) (tab_any W.t1 (fun ps e => b _ _ hne.symm e) (but_kp W.t2 b)) t
theorem W4.kp (W : W4 K G CP CR CS T1 T2 a g p d cA cs ns z last cnt st) (k : ∀ b u, b ≠ T1 → b ≠ wrA p d st → G b = some u → G' b = some u) : Kp G G' := fun b u h1 h2 h3 e => k b u (W.t1.ne e h1) (W.pick.wr_ne e h2 h3) e
theorem W4.took (W : W4 K G CP CR CS T1 T2 a g p d cA cs ns z last cnt st) (hne : T2 ≠ T1) {e : Int} (he : e ∈ ns) (k : ∀ b u, b ≠ T1 → b ≠ wrA p d st → G b = some u → G' b = some u) (t1 : Tab T1 G') (hp : PickAt G' CP CR CS g ns p d (tookM ns e st)) :
    ∃ kvs, G' cA = some (.dK kvs) ∧ CD kvs ns cnt ∧ ∀ G'', (∀ b u, b ≠ cA → G' b = some u → G'' b = some u) → G'' cA = some (.dK (putK kvs (.inl e) (.int ((cnt e : Nat) + 1 : Int)))) → W4 K G'' CP CR CS T1 T2 a g p d cA cs ns z (some e) (bump cnt e) (tookM ns e st) := by
  have kp := W.kp k
  obtain ⟨kvs, ec, hc⟩ := W.cd
  have ec' : G' cA = some (.dK kvs) := k _ _ (W.t1.ne ec fun _ z => nomatch z) W.ne ec
  refine ⟨kvs, ec', hc, fun G'' k2 e2 => ?_⟩
  have nw : ∀ b u, (∀ kvs, u ≠ .dK kvs) → G' b = some u → b ≠ cA := fun b u h e z => by
    rw [z, ec'] at e
    cases e
    exact h _ rfl
  have kp2 : Kp G' G'' := fun b u h1 h2 h3 e => k2 b u (nw b u h3 e) e
  have t2' : TabW T2 G' := tab_any W.t2 (fun ps e => k _ _ hne (W.pick.wr_ne e (fun _ _ _ z => nomatch z) (fun _ z => nomatch z)) e) kp
  refine ⟨kp2.seqL (kp.seqL W.sc), kp2.grp (kp.grp W.grp), ?_, ⟨_, e2, hc.put he⟩, W.kind.took e, (fun x z => by cases z; exact he), tab_any t1 (fun ps e => k2 _ _ (nw _ (.tbl ps) (fun _ z => nomatch z) e) e) kp2, tab_any t2' (fun ps e => k2 _ _ (nw _ (.tbl ps) (fun _ z => nomatch z) e) e) kp2, by rw [wr_took]; exact W.ne⟩
  refine hp.keep' fun b u h e' => ?_
  rcases h with ⟨rfl, C, dx, fs, rfl⟩ | ⟨rfl, c, hs, kvs', rfl⟩
  · exact k2 _ _ (nw _ (.ins C dx fs) (fun _ z => nomatch z) e') e'
  · refine k2 _ _ (fun z => W.ne ?_) e'
    have := wr_took p b ns e st
    rw [hs] at this
    exact z.symm.trans this
theorem W4.fresh (W : W4 K G CP CR CS T1 T2 a g p d cA cs ns z last cnt st) {b : Addr} (h : G b = none) : b ≠ cA ∧ b ≠ wrA p d st := by
  refine ⟨fun z => ?_, fun z => ?_⟩
  · obtain ⟨kvs, e, _⟩ := W.cd
    rw [z, e] at h
    cases h
  · obtain ⟨u, hu, _⟩ := W.pick.wr
    rw [z, hu] at h
    cases h
end
def grpE (sd : Int) (k : Nat) : Int := (sd / 8 + 7 * (0 + (k : Int))) % 144
theorem grp_nd (sd : Int) {m : Nat} (h : m ≤ 8) : ((List.range m).map (grpE sd)).Nodup := by
  unfold List.Nodup
  rw [List.pairwise_map]
  refine List.pairwise_lt_range.imp_of_mem fun {i j} hi hj hij => ?_
  have h2 : j < m := by simpa using hj
  unfold grpE
  omega
def able (kvs : List (Key × V)) (e : Int) : Bool := (valV kvs (.inl e)).isSome
section
variable {P : Program} {w : World} {K : PySem.W.Frag} {mg : Str → Option Value} {base : Heap} {C_Picker C_RoundPicker C_RestedPicker C_HallError C_NoKind : Addr} {T_RestedPicker_order T__law_way_of : Addr}
theorem sc_law : FnScope ["_law_script", "_law_by_digits", "_law_seed", "_law_group", "_law_kind", "_law_picker", "_law_last", "_law_counts", "_law_end", "_law_k", "_law_cell", "_law_racks_here", "_law_order_here", "_law_able", "_law_found"] ["_law_script"] (defScope (top 19)) := ⟨rfl, rfl, rfl, by decide +kernel, rfl, by decide +kernel, by decide +kernel⟩
set_option maxHeartbeats 4000000 in
theorem ok_law (T : Txt K mg) (Z : TxtC K mg C_Picker C_RoundPicker C_RestedPicker C_HallError C_NoKind) {ts : List Addr} (hT1 : T_RestedPicker_order ∈ ts) (hT2 : T__law_way_of ∈ ts) (hne : T__law_way_of ≠ T_RestedPicker_order) (C__law_cell_at : Callee P w K mg base 1 "_law_cell_at" ["_law_script", "_law_k"] (spCell K)) (C__law_mixed : Callee P w K mg base 1 "_law_mixed" ["_law_cell", "_law_k"] spMixed) (C__law_group_by : Callee P w K mg base 1 "_law_group_by" ["_law_left", "_law_total"] (spGroupBy K)) (C_picker_of : CalleeE P w K mg base 4 "picker_of" ["kind", "group"] [] (spPickerOf K C_Picker C_RoundPicker C_RestedPicker C_NoKind)) (C__law_racks : Callee P w K mg base 1 "_law_racks" ["_law_group", "_law_cell"] (spRacks K)) (C__law_racks_by : Callee P w K mg base 1 "_law_racks_by" ["_law_group", "_law_cell"] (spRacks K)) (C__law_order : Callee P w K mg base 1 "_law_order" ["_law_kind", "_law_group", "_law_last", "_law_counts"] (spLOrder K)) (C__law_way_of : Callee P w K mg base 1 "_law_way_of" ["_law_racks_here"] (spWayOf T__law_way_of)) (C_hunted : Callee P w K mg base 5 "hunted" ["picker", "way"] (spHunted K C_Picker C_RoundPicker C_RestedPicker T_RestedPicker_order)) (C__law_looked : Callee P w K mg base 3 "_law_looked" ["_law_found", "_law_order_here", "_law_end", "_law_rack"] (spLooked K)) (C_Picker_order : CalleeM P w K mg base 1 C_Picker "order" ["self"] [] noKw (spOrder K C_Picker C_RoundPicker C_RestedPicker T_RestedPicker_order isF)) (C_RoundPicker_order : CalleeM P w K mg base 1 C_RoundPicker "order" ["self"] [] noKw (spOrder K C_Picker C_RoundPicker C_RestedPicker T_RestedPicker_order isR)) (C_RestedPicker_order : CalleeM P w K mg base 4 C_RestedPicker "order" ["self"] [] noKw (spOrder K C_Picker C_RoundPicker C_RestedPicker T_RestedPicker_order isS)) {f : Addr} {fd : FuncData} (F : Fun K "law" "law" (top 19) f fd) : FnOk P w K mg base CX0 7 f fd ["_law_script"] (spLawT K ts) := by
  refine F.ok sc_law (fun vs H Q E h => ?_) (fun cdv A outer s H vs Q E hr h => ?_)
  · obtain ⟨a, ns, rfl, _⟩ := h
    rfl
  obtain ⟨a, cs, rfl, hS, h63, hts, q⟩ := h
  refine ⟨_, (pss_cons (ps_set (i := 1) sc_law.nd rfl (Or.inl rfl) (pe_cmpR op_eq (pe_op op_mod (pe_fn C__law_cell_at hr rfl (pa_cons (pv 0) (pa_cons pe_int pa_nil st_const) st_name)) pe_int) pe_int (nomark _)))
    (pss_cons (ps_set (i := 2) sc_law.nd rfl (Or.inr rfl) (pe_fn C__law_mixed hr rfl (pa_cons (pe_fn C__law_cell_at hr rfl (pa_cons (pv 0) (pa_cons pe_int pa_nil st_const) st_name)) (pa_cons pe_int pa_nil st_const) st_call)))
    (pss_cons (ps_set (i := 3) sc_law.nd rfl (Or.inl rfl) (pe_callTy (call_tupleF K) rfl T.m_tuple boot_tuple (pa_cons (pe_comp (own := ["_law_k"]) (fr := [(2, "_law_seed")]) rfl (show CompScope ["_law_script", "_law_by_digits", "_law_seed", "_law_group", "_law_kind", "_law_picker", "_law_last", "_law_counts", "_law_end", "_law_k", "_law_cell", "_law_racks_here", "_law_order_here", "_law_able", "_law_found"] (defScope (top 19)) _ _ _ from ⟨rfl, by decide +kernel, by decide +kernel, by decide +kernel, by decide +kernel⟩) (pi_range1 rfl T.m_range (pa_cons (pe_op op_add pe_int (pe_op op_mod (pv 2) pe_int)) pa_nil st_bin)) (fun cl C s H ex => ⟨(pg_name (i := 0) (show (["_law_k", "_law_seed"] : List Str).Nodup from by decide +kernel) rfl (Or.inl rfl) (Or.inr rfl)), pif_nil, (pe_op op_mod (pe_op op_add (pe_op op_fdiv (pv 1) pe_int) (pe_op op_mul pe_int (pv 0))) pe_int)⟩)) pa_nil st_comp)))
    (pss_cons (ps_if (pt_truK K (pv 1) (fun _ => rfl)) (pss_one (ps_set (i := 3) sc_law.nd rfl (Or.inl rfl) (pe_ix (ix_tupK K) (pe_fn C__law_group_by hr rfl (pa_cons (pe_op op_fdiv (pe_callB call_abs rfl T.m_abs boot_abs (pa_cons (pe_fn C__law_cell_at hr rfl (pa_cons (pv 0) (pa_cons pe_int pa_nil st_const) st_name)) pa_nil st_call)) pe_int) (pa_cons pe_int pa_nil st_const) st_bin)) pe_int (fun _ _ => rfl)))) pss_nil)
    (pss_cons (ps_set (i := 4) sc_law.nd rfl (Or.inl rfl) (pe_ix (ix_listK K) (pe_lst (pa_cons pe_str (pa_cons pe_str (pa_cons pe_str pa_nil st_const) st_const) st_const)) (pe_op op_mod (pe_op op_fdiv (pv 2) pe_int) pe_int) (fun _ _ => rfl)))
    (pss_cons (ps_set (i := 5) sc_law.nd rfl (Or.inl rfl) (pe_fnE 0 C_picker_of pass_no hr rfl (pa_cons (pv 4) (pa_cons (pv 3) pa_nil st_name) st_name)))
    (pss_cons (ps_set (i := 6) sc_law.nd rfl (Or.inl rfl) pe_non)
    (pss_cons (ps_set (i := 7) sc_law.nd rfl (Or.inl rfl) pe_dnewK)
    (pss_cons (ps_for PassesOwn.never rfl (pi_tupK K (pv 3)) (pg_name (i := 8) sc_law.nd rfl (Or.inl rfl))
    (pss_one (ps_dput (hu_of hr) (pv 7) (pv 8) pe_int rfl)))
    (pss_cons (ps_for PassesOwn.never rfl (pi_range1 rfl T.m_range (pa_cons (pe_callB (call_min2 rfl) rfl T.m_min boot_min (pa_cons (pe_callB (call_lenK K) rfl T.m_len boot_len (pa_cons (pv 0) pa_nil st_name)) (pa_cons pe_int pa_nil st_const) st_call)) pa_nil st_call)) (pg_name (i := 9) sc_law.nd rfl (Or.inl rfl))
    (pss_cons (ps_set (i := 10) sc_law.nd rfl (Or.inl rfl) (pe_fn C__law_mixed hr rfl (pa_cons (pe_ix (ix_listK K) (pv 0) (pv 9) (fun _ _ => rfl)) (pa_cons (pe_op op_add (pv 9) pe_int) pa_nil st_bin) st_sub)))
    (pss_cons (ps_set (i := 11) sc_law.nd rfl (Or.inr rfl) (pe_fn C__law_racks hr rfl (pa_cons (pv 3) (pa_cons (pv 10) pa_nil st_name) st_name)))
    (pss_cons (ps_if (pt_cmpR op_eq (pe_op op_mod (pv 10) pe_int) pe_int (nomark _)) (pss_one (ps_set (i := 11) sc_law.nd rfl (Or.inr rfl) pe_dnewK)) pss_nil)
    (pss_cons (ps_if (pt_truK K (pv 1) (fun _ => rfl)) (pss_one (ps_set (i := 11) sc_law.nd rfl (Or.inr rfl) (pe_fn C__law_racks_by hr rfl (pa_cons (pv 3) (pa_cons (pe_ix (ix_listK K) (pv 0) (pv 9) (fun _ _ => rfl)) pa_nil st_sub) st_name)))) pss_nil)
    (pss_cons (ps_set (i := 12) sc_law.nd rfl (Or.inl rfl) (pe_fn C__law_order hr rfl (pa_cons (pv 4) (pa_cons (pv 3) (pa_cons (pv 6) (pa_cons (pv 7) pa_nil st_name) st_name) st_name) st_name)))
    (pss_cons (ps_comp (i := 13) (own := ["_law_end"]) (fr := [(11, "_law_racks_here")]) rfl sc_law.nd rfl rfl (show CompScope ["_law_script", "_law_by_digits", "_law_seed", "_law_group", "_law_kind", "_law_picker", "_law_last", "_law_counts", "_law_end", "_law_k", "_law_cell", "_law_racks_here", "_law_order_here", "_law_able", "_law_found"] (defScope (top 19)) _ _ _ from ⟨rfl, by decide +kernel, by decide +kernel, by decide +kernel, by decide +kernel⟩) (pi_listK K (pv 12)) (fun cl C s H ex => ⟨(pg_name (i := 0) (show (["_law_end", "_law_racks_here"] : List Str).Nodup from by decide +kernel) rfl (Or.inl rfl) (Or.inr rfl)), (pif_one (pt_cmp (pc_din (hu_of hr) (pv 0) (pv 1)))), (pv 0)⟩) rfl)
    (pss_cons (ps_set (i := 14) sc_law.nd rfl (Or.inl rfl) (pe_fn C_hunted hr rfl (pa_cons (pv 5) (pa_cons (pe_fn C__law_way_of hr rfl (pa_cons (pv 11) pa_nil st_name)) pa_nil st_call) st_name)))
    (pss_cons (ps_if (pt_cmpR (op_eqNilK K (Room.units0 hr)) (pv 13) (pe_lst pa_nil) (nomark _)) (pss_one (ps_if (pt_not (pt_truK K (pe_fn C__law_looked hr rfl (pa_cons (pv 14) (pa_cons (pv 12) (pa_cons pe_non (pa_cons pe_non pa_nil st_const) st_const) st_name) st_name)) (fun _ => rfl))) (pss_one (ps_ret pe_bl)) pss_nil)) (pss_cons (ps_if (pt_not (pt_truK K (pe_fn C__law_looked hr rfl (pa_cons (pv 14) (pa_cons (pv 12) (pa_cons (pe_ix (ix_listK K) (pv 13) pe_int (fun _ _ => rfl)) (pa_cons (pe_dget (hu_of hr) (pv 11) (pe_ix (ix_listK K) (pv 13) pe_int (fun _ _ => rfl)) (fun _ _ => rfl)) pa_nil st_sub) st_sub) st_name) st_name)) (fun _ => rfl))) (pss_one (ps_ret pe_bl)) pss_nil)
    (pss_cons (ps_set (i := 6) sc_law.nd rfl (Or.inl rfl) (pe_ix (ix_listK K) (pv 13) pe_int (fun _ _ => rfl)))
    (pss_one (ps_dput (hu_of hr) (pv 7) (pv 6) (pe_op op_add (pe_dget (hu_of hr) (pv 7) (pv 6) (fun _ _ => rfl)) pe_int) rfl)))))
    (pss_one (ps_if (pt_cmpR (op_neIK K (Room.units0 hr)) (pe_either (pe_m0 Z.cl_Picker C_Picker_order hr (pv 5)) (pe_either (pe_m0 Z.cl_RoundPicker C_RoundPicker_order hr (pv 5)) (pe_m0 Z.cl_RestedPicker C_RestedPicker_order hr (pv 5)))) (pe_fn C__law_order hr rfl (pa_cons (pv 4) (pa_cons (pv 3) (pa_cons (pv 6) (pa_cons (pv 7) pa_nil st_name) st_name) st_name) st_name)) (nomark _)) (pss_one (ps_ret pe_bl)) pss_nil)))))))))))
    (pss_one (ps_ret pe_bl)))))))))))), ?_⟩
  have tab0 : Tab T_RestedPicker_order H := .inl (hts _ hT1)
  have tabw0 : TabW T__law_way_of H := .inl (hts _ hT2)
  refine ⟨_, rfl, a, cs, 0, rfl, hS, _, _, rfl, rfl, (by show (0 : Int) < 2; decide), rfl, ?_⟩
  dsimp only [gName, tNext]
  generalize decide (V.int (cell cs 0 % 2) = V.int 0) = bd
  refine ⟨_, rfl, a, cs, 0, rfl, hS, _, 0, rfl, by decide, fun sd sd0 sd1 => ?_⟩
  dsimp only [gName, tNext]
  refine seq_cut (fun σ G => Same H G ∧ ∃ g, Grp K G g ((List.range (1 + sd % 8).toNat).map (grpE sd)) ∧ σ = [some (.ref a), some (.bl bd), some (.int sd), some (.ref g), none, none, none, none, none, none, none, none, none, none, none]) (fun R rest => ?_) ?_
  · refine ⟨_, rfl, _, _, rfl, rfl, (by show (0 : Int) < 8; decide), _, _, rfl, rfl, _, rfl, by omega, by omega, ?_⟩
    refine comp_range (lo := 0) (n := (1 + sd % 8).toNat) (fun i acc σ G => G = H ∧ acc = ((List.range i).map (grpE sd)).map V.int ∧ ∃ v, σ = [v, some (.int sd)]) ⟨rfl, rfl, _, rfl⟩ (Nat.le_trans (by omega : (1 + sd % 8).toNat ≤ 8) (by decide)) ?_ ?_ ?_
    · rintro i acc σ G ⟨_, rfl, _⟩
      rw [List.length_map, List.length_map, List.length_range]
      exact Nat.le_refl _
    · rintro i acc σ G hi ⟨rfl, rfl, v, rfl⟩
      refine ⟨_, rfl, _, _, rfl, rfl, ⟨by decide, by decide⟩, _, rfl, _, _, rfl, rfl, .inl ⟨by decide, by decide⟩, _, _, rfl, rfl, _, _, rfl, rfl, (by show (0 : Int) < 144; decide), rfl, ?_, _, rfl⟩
      rw [List.range_succ, List.map_append, List.map_append]
      rfl
    · rintro acc σ G ⟨rfl, rfl, v, rfl⟩ l hl
      have s1 := same_new hl (.lst (((List.range (1 + sd % 8).toNat).map (grpE sd)).map V.int))
      have el := upd_same (H := G) (a := l) (o := .lst (((List.range (1 + sd % 8).toNat).map (grpE sd)).map V.int))
      generalize upd G l _ = G1 at s1 el ⊢
      refine ⟨l, _, rfl, .inl ⟨SqL.of el, fun g ob hg hob => ?_⟩⟩
      refine rest _ _ ⟨s1.trans (same_new hg _), g, ⟨⟨ob, hob, upd_same⟩, grp_nd sd (by omega), by rw [List.length_map, List.length_range]; omega, by rw [List.length_map, List.length_range]; omega⟩, rfl⟩
  rintro σ G0 ⟨s0, g0, hg0, rfl⟩
  refine seq_cut (fun σ G => Same H G ∧ ∃ g ns, Grp K G g ns ∧ σ = [some (.ref a), some (.bl bd), some (.int sd), some (.ref g), none, none, none, none, none, none, none, none, none, none, none]) (fun R rest => ?_) ?_
  · refine ⟨_, rfl, _, rfl, ?_⟩
    refine ite2 (fun c => ?_) (fun c => rest _ _ ⟨s0, g0, _, hg0, rfl⟩)
    refine ⟨_, rfl, a, cs, 0, rfl, s0.seq hS, _, rfl, _, _, rfl, rfl, ⟨by decide, by decide⟩, _, rfl, fun t g z ns G1 s1 et hg1 => ?_⟩
    refine ⟨t, _, _, _, rfl, rfl, SqT.of et, rfl, rest _ _ ⟨s0.trans s1, g, ns, hg1, rfl⟩⟩
  clear hg0 s0
  rintro σ G0 ⟨s0, g, ns, hg0, rfl⟩
  obtain ⟨zk, k0, hat, hks, hki⟩ := kind_at ns (sd / 1152)
  refine ⟨(by show 3 ≤ sizeLine; decide), fun l hl => ⟨_, rfl, _, _, rfl, rfl, ⟨by decide, by decide⟩, _, _, rfl, rfl, (by show (0 : Int) < 3; decide), l, _, _, _, rfl, rfl, SqL.of upd_same, hat, ?_⟩⟩
  have s1 := s0.trans (same_new hl (.lst [.str "first", .str "round", .str "rested"]))
  have hg1 := hg0.same (same_new hl (.lst [.str "first", .str "round", .str "rested"]))
  dsimp only [gName, tNext]
  change tSeq _ _ _ _ (upd G0 l (.lst [.str "first", .str "round", .str "rested"]))
  generalize upd G0 l _ = G1 at s1 hg1 ⊢
  refine ⟨_, rfl, _, rfl, .str zk, g, ns, rfl, hg1, .inl ⟨k0, hks, fun p d G2 hpn hdn s2 hP => ?_⟩⟩
  dsimp only [gName, tNext]
  refine fun cA hcA => ?_
  dsimp only [gName, tNext]
  change tSeq _ _ _ _ (upd G2 cA (.dK []))
  have hg2 := hg1.same s2
  refine seq_cut (fun σ G => ∃ kvs v8, G = upd G2 cA (.dK kvs) ∧ CZ kvs ns ns.length ∧ σ = [some (.ref a), some (.bl bd), some (.int sd), some (.ref g), some (.str zk), some (.ref p), some (lastV none), some (.ref cA), v8, none, none, none, none, none, none]) (fun R rest => ?_) ?_
  · have gat : ∀ kvs, SqT K (upd G2 cA (.dK kvs)) g (ns.map V.int) := fun kvs => ((hg2.same (same_new hcA (.dK kvs))).at_)
    refine ⟨_, rfl, g, rfl, ⟨_, gat _⟩, ?_⟩
    refine for_tup (xs := ns.map V.int) (fun i σ G => ∃ kvs v8, G = upd G2 cA (.dK kvs) ∧ CZ kvs ns i ∧ σ = [some (.ref a), some (.bl bd), some (.int sd), some (.ref g), some (.str zk), some (.ref p), some (lastV none), some (.ref cA), v8, none, none, none, none, none, none]) ⟨[], none, rfl, ⟨fun e he => by simp at he, Nat.zero_le _⟩, rfl⟩ ?_ ?_ ?_
    · rintro i σ G _ ⟨kvs, v8, rfl, _⟩
      exact gat _
    · rintro i x σ G hx ⟨kvs, v8, rfl, hz, rfl⟩
      rw [List.getElem?_map] at hx
      obtain ⟨e, he, rfl⟩ := Option.map_eq_some_iff.mp hx
      have hi := (List.getElem?_eq_some_iff.mp he).1
      have h8 := hg1.h8
      refine ⟨_, rfl, _, rfl, cA, _, rfl, .inl ⟨kvs, .inl e, upd_same, rfl, Nat.lt_of_le_of_lt (Nat.le_trans hz.2 (by omega : i ≤ 8)) (by decide), rfl⟩, ?_⟩
      refine ⟨_, _, ?_, hz.succ he, rfl⟩
      exact upd_upd
    · rintro σ G ⟨kvs, v8, rfl, hz, rfl⟩
      rw [List.length_map] at hz
      exact rest _ _ ⟨kvs, v8, rfl, hz, rfl⟩
  rintro σ _ ⟨kvs, v8, rfl, hz, rfl⟩
  have s3 := same_new hcA (.dK kvs)
  have ecA := upd_same (H := G2) (a := cA) (o := .dK kvs)
  generalize upd G2 cA (.dK kvs) = G3 at s3 ecA ⊢
  have s03 := s1.trans (s2.trans s3)
  have W0 : W4 K G3 C_Picker C_RoundPicker C_RestedPicker T_RestedPicker_order T__law_way_of a g p d cA cs ns zk none (fun _ => 0) k0 := by
    refine ⟨s03.seq hS, hg2.same s3, hP.same s3, ⟨kvs, ecA, hz.all hg1.h8⟩, hki, (fun e z => nomatch z), tab_same s03 tab0, tab_same s03 tabw0, fun z => ?_⟩
    obtain ⟨u, hu, _⟩ := hP.wr
    rw [← z, hcA] at hu
    cases hu
  clear hg0 hg1 hg2 s0 s1 s2 s3 s03 hz ecA hcA hP hpn hdn hl hks hki hat tab0 tabw0 hts hS
  refine seq_cut (fun σ G => True) (fun R rest => ?_) (fun σ G _ => q G)
  · refine ⟨_, rfl, a, _, rfl, .inl W0.sc, _, _, rfl, _, rfl, ?_, ?_, ?_⟩
    · rw [List.length_map]; split <;> omega
    · rw [List.length_map]; split <;> omega
    obtain ⟨m, hm, hm1⟩ : ∃ m : Nat, (if (84 : Int) < (((cs.map V.int).length : Nat) : Int) then (84 : Int) else (((cs.map V.int).length : Nat) : Int)) = ((m : Nat) : Int) ∧ m ≤ cs.length := ⟨cs.length, by rw [List.length_map, if_neg (by omega)], Nat.le_refl _⟩
    rw [hm, Int.toNat_natCast]
    refine for_range (lo := 0) (n := m) (fun k σ G => ∃ (st : Pst) (last : Option Int) (cnt : Int → Nat) (v8 v9 v10 v11 v12 v13 v14 : Option V), W4 K G C_Picker C_RoundPicker C_RestedPicker T_RestedPicker_order T__law_way_of a g p d cA cs ns zk last cnt st ∧
      σ = [some (.ref a), some (.bl bd), some (.int sd), some (.ref g), some (.str zk), some (.ref p), some (lastV last), some (.ref cA), v8, v9, v10, v11, v12, v13, v14]) ⟨k0, none, fun _ => 0, _, _, _, _, _, _, _, W0, rfl⟩ ?_ fun σ G h => rest _ _ trivial
    clear W0 k0
    rintro k σ G hk ⟨st, last, cnt, v8, v9, v10, v11, v12, v13, v14, W, rfl⟩
    have hk' : k < cs.length := by omega
    have nd0 := W.grp.nd
    refine ⟨_, rfl, _, rfl, a, _, _, _, rfl, rfl, W.sc, (show atI (cs.map V.int) (0 + (k : Int)) = some (.int (cell cs k)) by rw [Int.zero_add]; exact at_nat hk'), _, rfl, _, _, rfl, rfl, _, k + 1, (show [V.int (cell cs k), V.int (0 + (k : Int) + 1)] = [V.int (cell cs k), V.int ((k + 1 : Nat) : Int)] by rw [Int.zero_add]; rfl), by omega, fun cl cl0 cl1 => ?_⟩
    dsimp only [gName, tNext]
    refine seq_cut (fun σ G => W4 K G C_Picker C_RoundPicker C_RestedPicker T_RestedPicker_order T__law_way_of a g p d cA cs ns zk last cnt st ∧ ∃ (dR : Addr) (kvs : List (Key × V)), G dR = some (.dK kvs) ∧ RK kvs 16 ∧ dR ≠ cA ∧ dR ≠ wrA p d st ∧
      σ = [some (.ref a), some (.bl bd), some (.int sd), some (.ref g), some (.str zk), some (.ref p), some (lastV last), some (.ref cA), v8, some (.int (0 + (k : Int))), some (.int cl), some (.ref dR), v12, v13, v14]) (fun R rest => ?_) ?_
    · refine ⟨_, rfl, _, rfl, g, ns, cl, rfl, W.grp, fun d1 kv1 hd1 hk1 => rest _ _ ⟨W.same (same_new hd1 (.dK kv1)), d1, kv1, upd_same, hk1, (W.fresh hd1).1, (W.fresh hd1).2, rfl⟩⟩
    rintro σ G1 ⟨W1, dR, kvs, eR, hRK, nR1, nR2, rfl⟩
    clear W
    refine seq_cut (fun σ G => W4 K G C_Picker C_RoundPicker C_RestedPicker T_RestedPicker_order T__law_way_of a g p d cA cs ns zk last cnt st ∧ ∃ (dR : Addr) (kvs : List (Key × V)), G dR = some (.dK kvs) ∧ RK kvs 16 ∧ dR ≠ cA ∧ dR ≠ wrA p d st ∧
      σ = [some (.ref a), some (.bl bd), some (.int sd), some (.ref g), some (.str zk), some (.ref p), some (lastV last), some (.ref cA), v8, some (.int (0 + (k : Int))), some (.int cl), some (.ref dR), v12, v13, v14]) (fun R rest => ?_) ?_
    · refine ⟨_, rfl, _, _, rfl, rfl, (by show (0 : Int) < 7; decide), rfl, _, rfl, ite2 (fun c => ?_) (fun c => ?_)⟩
      · exact fun d2 hd2 => rest _ _ ⟨W1.same (same_new hd2 (.dK [])), d2, [], upd_same, RK.nil.up (Nat.zero_le _), (W1.fresh hd2).1, (W1.fresh hd2).2, rfl⟩
      · exact rest _ _ ⟨W1, dR, kvs, eR, hRK, nR1, nR2, rfl⟩
    clear W1 eR hRK nR1 nR2 kvs dR G1
    rintro σ G1 ⟨W1, dR, kvs, eR, hRK, nR1, nR2, rfl⟩
    refine seq_cut (fun σ G => W4 K G C_Picker C_RoundPicker C_RestedPicker T_RestedPicker_order T__law_way_of a g p d cA cs ns zk last cnt st ∧ ∃ (dR : Addr) (kvs : List (Key × V)), G dR = some (.dK kvs) ∧ RK kvs 16 ∧ dR ≠ cA ∧ dR ≠ wrA p d st ∧
      σ = [some (.ref a), some (.bl bd), some (.int sd), some (.ref g), some (.str zk), some (.ref p), some (lastV last), some (.ref cA), v8, some (.int (0 + (k : Int))), some (.int cl), some (.ref dR), v12, v13, v14]) (fun R rest => ?_) ?_
    · refine ⟨_, rfl, _, rfl, ite2 (fun c => ?_) (fun c => ?_)⟩
      · refine ⟨_, rfl, _, rfl, _, rfl, a, _, _, _, rfl, rfl, W1.sc, (show atI (cs.map V.int) (0 + (k : Int)) = some (.int (cell cs k)) by rw [Int.zero_add]; exact at_nat hk'), g, ns, cell cs k, rfl, W1.grp, fun d1 kv1 hd1 hk1 => rest _ _ ⟨W1.same (same_new hd1 (.dK kv1)), d1, kv1, upd_same, hk1, (W1.fresh hd1).1, (W1.fresh hd1).2, rfl⟩⟩
      · exact rest _ _ ⟨W1, dR, kvs, eR, hRK, nR1, nR2, rfl⟩
    clear W1 eR hRK nR1 nR2 kvs dR G1
    rintro σ G1 ⟨W1, dR, kvs, eR, hRK, nR1, nR2, rfl⟩
    obtain ⟨kvC, ecC, hcC⟩ := W1.cd
    refine ⟨_, rfl, _, rfl, _, rfl, _, rfl, zk, g, cA, ns, kvC, cnt, last, st, rfl, W1.grp, ecC, hcC, W1.inl, W1.kind, fun o ys G2 _ s2 hO eo => ?_⟩
    have W2 := W1.same s2
    have eR2 := s2 _ _ eR
    have y8 : ys.length ≤ 8 := by rw [hO.len W2.grp.nd]; exact W2.grp.h8
    dsimp only [gName, tNext]
    clear W1 eR ecC hcC kvC s2
    refine seq_cut (fun σ G => W4 K G C_Picker C_RoundPicker C_RestedPicker T_RestedPicker_order T__law_way_of a g p d cA cs ns zk last cnt st ∧ G dR = some (.dK kvs) ∧ G o = some (.lst (ys.map V.int)) ∧ ∃ lA, G lA = some (.lst ((ys.filter (able kvs)).map V.int)) ∧
      σ = [some (.ref a), some (.bl bd), some (.int sd), some (.ref g), some (.str zk), some (.ref p), some (lastV last), some (.ref cA), v8, some (.int (0 + (k : Int))), some (.int cl), some (.ref dR), some (.ref o), some (.ref lA), v14]) (fun R rest => ?_) ?_
    · refine ⟨_, rfl, o, rfl, ⟨_, SqL.of eo⟩, ?_⟩
      refine comp_list (xs := ys.map V.int) (fun i acc σ G => G = G2 ∧ acc = ((ys.take i).filter (able kvs)).map V.int ∧ ∃ v, σ = [v, some (.ref dR)]) ⟨rfl, rfl, _, rfl⟩ ?_ ?_ ?_ ?_ ?_
      · rw [List.length_map]; exact Nat.le_trans y8 (by decide)
      · rintro i acc σ G ⟨_, rfl, _⟩
        rw [List.length_map]
        exact Nat.le_trans (List.length_filter_le _ _) (by rw [List.length_take]; omega)
      · rintro i acc σ G _ ⟨rfl, _⟩
        exact SqL.of eo
      · rintro i x acc σ G hx ⟨rfl, rfl, v, rfl⟩
        rw [List.getElem?_map] at hx
        obtain ⟨e, he, rfl⟩ := Option.map_eq_some_iff.mp hx
        refine ⟨_, rfl, _, rfl, dR, _, rfl, DGet.k (k := .inl e) eR2, _, rfl, ?_⟩
        rw [List.take_succ, he, Option.toList_some, List.filter_append]
        refine ite2 (fun c => ?_) (fun c => ?_)
        · refine ⟨_, rfl, rfl, ?_, _, rfl⟩
          rw [List.filter_cons, if_pos (show able kvs e = true from c), List.map_append]
          rfl
        · refine ⟨rfl, ?_, _, rfl⟩
          rw [List.filter_cons, if_neg (show ¬ able kvs e = true from c)]
          simp
      · rintro acc σ G ⟨rfl, rfl, v, rfl⟩ l3 hl3
        rw [List.length_map, List.take_length]
        have s3 := same_new hl3 (.lst ((ys.filter (able kvs)).map V.int))
        exact rest _ _ ⟨W2.same s3, s3 _ _ eR2, s3 _ _ eo, l3, upd_same, rfl⟩
    clear W2 eR2 eo G2
    rintro σ G2 ⟨W2, eR2, eo, lA, eA, rfl⟩
    refine seq_cut (fun σ G => ∃ t, G o = some (.lst (ys.map V.int)) ∧ G lA = some (.lst ((ys.filter (able kvs)).map V.int)) ∧ G dR = some (.dK kvs) ∧ ((ys.filter (able kvs) = [] ∧ W4 K G C_Picker C_RoundPicker C_RestedPicker T_RestedPicker_order T__law_way_of a g p d cA cs ns zk last cnt st ∧ FoundAt G t ys .non .non) ∨ ∃ (e : Int) (tl : List Int) (r : Int), ys.filter (able kvs) = e :: tl ∧ valV kvs (.inl e) = some (.int r) ∧ e ∈ ns ∧ FoundAt G t ys (.int e) (.int r) ∧
      ∃ kvC, G cA = some (.dK kvC) ∧ CD kvC ns cnt ∧ ∀ G'', (∀ b u, b ≠ cA → G b = some u → G'' b = some u) → G'' cA = some (.dK (putK kvC (.inl e) (.int ((cnt e : Nat) + 1 : Int)))) → W4 K G'' C_Picker C_RoundPicker C_RestedPicker T_RestedPicker_order T__law_way_of a g p d cA cs ns zk (some e) (bump cnt e) (tookM ns e st)) ∧
      σ = [some (.ref a), some (.bl bd), some (.int sd), some (.ref g), some (.str zk), some (.ref p), some (lastV last), some (.ref cA), v8, some (.int (0 + (k : Int))), some (.int cl), some (.ref dR), some (.ref o), some (.ref lA), some (.ref t)]) (fun R rest => ?_) ?_
    · refine ⟨_, rfl, _, rfl, dR, rfl, W2.t2, fun f G4 hf b4 t4 hw => ?_⟩
      have W3 := W2.but2 hne b4 t4
      have k4 := but_kp W2.t2 b4
      have eR4 := b4 _ _ (fun z => by
        obtain ⟨ps, h⟩ := tab_tbl W2.t2
        rw [z, h] at eR2
        cases eR2) eR2
      have eo4 := k4.lst eo
      have eA4 := k4.lst eA
      refine ⟨p, d, g, f, dR, ns, ys, st, kvs, rfl, W3.grp, W3.pick, hO, W3.t1, hw, eR4, hRK, fun hnone t G5 b5 t5 hF => ?_, fun j e r hj hno hv t G5 k5 t5 hp5 hF => ?_⟩
      · have k5 := but_kp W3.t1 b5
        refine rest _ _ ⟨t, k5.lst eo4, k5.lst eA4, ButT.keep W3.t1 b5 eR4 (fun _ z => nomatch z), .inl ⟨?_, W3.but1 hne b5 t5, hF⟩, rfl⟩
        rw [List.filter_eq_nil_iff]
        intro e he c
        unfold able at c
        rw [hnone e he] at c
        cases c
      · have kp := W3.kp k5
        have hm : e ∈ ns := (hO.mem e).mp (List.mem_of_getElem? hj)
        refine rest _ _ ⟨t, kp.lst eo4, kp.lst eA4, k5 _ _ (W3.t1.ne eR4 fun _ z => nomatch z) nR2 eR4, .inr ?_, rfl⟩
        obtain ⟨hjl, hje⟩ := List.getElem?_eq_some_iff.mp hj
        refine ⟨e, (ys.drop (j + 1)).filter (able kvs), r, ?_, hv, hm, hF, W3.took hne hm k5 t5 hp5⟩
        rw [List.filter_eq_cons_iff]
        refine ⟨ys.take j, ys.drop (j + 1), ?_, fun x hx c => ?_, ?_, rfl⟩
        · rw [← hje]
          exact (List.take_append_drop j ys).symm.trans (by rw [List.drop_eq_getElem_cons hjl])
        · obtain ⟨m, hm, rfl⟩ := List.mem_iff_getElem.mp hx
          rw [List.length_take] at hm
          unfold able at c
          rw [List.getElem_take, hno m (by omega) _ (List.getElem?_eq_getElem (by omega))] at c
          cases c
        · unfold able
          rw [hv]
          rfl
    clear W2 eR2 eo eA G2
    rintro σ G2 ⟨t, eo, eA, eR, hcase, rfl⟩
    refine seq_cut (fun σ G => ∃ (st' : Pst) (last' : Option Int) (cnt' : Int → Nat), W4 K G C_Picker C_RoundPicker C_RestedPicker T_RestedPicker_order T__law_way_of a g p d cA cs ns zk last' cnt' st' ∧
      σ = [some (.ref a), some (.bl bd), some (.int sd), some (.ref g), some (.str zk), some (.ref p), some (lastV last'), some (.ref cA), v8, some (.int (0 + (k : Int))), some (.int cl), some (.ref dR), some (.ref o), some (.ref lA), some (.ref t)]) (fun R rest => ?_) ?_
    · refine ⟨_, rfl, (by show 0 ≤ sizeLine; decide), fun lz hlz => ?_⟩
      have sz := same_new hlz (.lst [])
      have ez := upd_same (H := G2) (a := lz) (o := .lst [])
      generalize upd G2 lz _ = G3 at sz ez ⊢
      refine ⟨lA, lz, _, rfl, rfl, SqL.of (sz _ _ eA), SqL.of ez, _, rfl, ?_⟩
      have nd := hO.nd nd0
      rcases hcase with ⟨hz, W, hF⟩ | ⟨e, tl, r, hz, hv, hm, hF, kvC, eC, hC, kW⟩
      · rw [hz]
        refine ite2 (fun _ => ?_) (fun c => absurd (decide_eq_true rfl) c)
        refine ⟨_, rfl, _, rfl, t, o, ys, .non, .non, rfl, hF.same sz, sz _ _ eo, nd, y8, fun G4 s4 => ⟨_, rfl, iteF (rest _ _ ⟨st, last, cnt, (W.same sz).same s4, rfl⟩)⟩⟩
      · have eA3 := sz _ _ eA
        rw [hz] at eA3 ⊢
        refine ite2 (fun c => absurd (of_decide_eq_true c) (fun z => nomatch z)) (fun _ => ?_)
        have at0 : atI ((e :: tl).map V.int) ((0 : Nat) : Int) = some (.int e) := atI_nat rfl
        refine ⟨_, rfl, _, rfl, _, rfl, lA, _, _, _, rfl, rfl, SqL.of eA3, at0, _, rfl, _, rfl, lA, _, _, _, rfl, rfl, SqL.of eA3, at0, dR, _, rfl, hv ▸ DGet.k (k := .inl e) (sz _ _ eR), t, o, ys, .int e, .int r, rfl, hF.same sz, sz _ _ eo, nd, y8, fun G4 s4 => ⟨_, rfl, iteF ?_⟩⟩
        have s34 := sz.trans s4
        have eC4 := s34 _ _ eC
        refine ⟨_, rfl, lA, _, _, _, rfl, rfl, SqL.of (s4 _ _ eA3), at0, ?_⟩
        refine ⟨_, rfl, _, rfl, cA, _, rfl, (show DGet G4 cA (.int e) (some (.int ((cnt e : Nat) : Int))) from hC.val e hm ▸ DGet.k (k := .inl e) eC4), _, _, rfl, rfl, _, rfl, _, rfl, cA, _, rfl, .inl ⟨kvC, .inl e, eC4, rfl, Nat.lt_of_le_of_lt hC.len (by decide), rfl⟩, rest _ _ ⟨tookM ns e st, some e, bump cnt e, kW _ (fun b u n z => ?_) upd_same, rfl⟩⟩
        rw [upd_ne n]
        exact s34 _ _ z
    clear hcase eo eA eR
    rintro σ G3 ⟨st', last', cnt', W, rfl⟩
    have ord : ∀ (σ : L2.St) (Q' : VK), σ[5]? = some (some (.ref p)) → (∀ (l : Addr) (zs : List Int) (G' : Hp), OrdIs ns st' zs → ButT T_RestedPicker_order G3 G' → Tab T_RestedPicker_order G' → G' l = some (.lst (zs.map V.int)) → Q' (.ref l) G') →
        tEith (tMeth C_Picker "order" (spOrder K C_Picker C_RoundPicker C_RestedPicker T_RestedPicker_order isF) [] E0 (tVar 5) tNil) (tEith (tMeth C_RoundPicker "order" (spOrder K C_Picker C_RoundPicker C_RestedPicker T_RestedPicker_order isR) [] E0 (tVar 5) tNil) (tMeth C_RestedPicker "order" (spOrder K C_Picker C_RoundPicker C_RestedPicker T_RestedPicker_order isS) [] E0 (tVar 5) tNil)) σ G3 Q' := fun σ Q' hσ k => by
      have fin : ∀ (D : Pst → Prop), D st' → spOrder K C_Picker C_RoundPicker C_RestedPicker T_RestedPicker_order D [.ref p] G3 Q' E0 := fun D hD => ⟨p, d, g, ns, st', rfl, hD, W.grp, W.pick, W.t1, fun l zs G' _ h2 h3 h4 h5 => k l zs G' h2 h3 h4 h5⟩
      have hp := W.pick
      cases hp with
      | @first dx e => exact .inl ⟨_, hσ, p, dx, _, rfl, e, rfl, fin _ rfl⟩
      | @round dx st e h => exact .inr (.inl ⟨_, hσ, p, dx, _, rfl, e, rfl, fin _ ⟨_, rfl⟩⟩)
      | @rested dx cnt kvs e hd h => exact .inr (.inr ⟨_, hσ, p, dx, _, rfl, e, rfl, fin _ ⟨_, rfl⟩⟩)
    refine ord _ _ rfl fun l1 zs G4 hz b4 t4 e4 => ?_
    have W4' := W.but1 hne b4 t4
    obtain ⟨kvC, ecC, hcC⟩ := W4'.cd
    refine ⟨_, rfl, _, rfl, _, rfl, _, rfl, zk, g, cA, ns, kvC, cnt', last', st', rfl, W4'.grp, ecC, hcC, W4'.inl, W4'.kind, fun o2 zs2 G5 _ s5 hz2 e5 => ?_⟩
    refine ⟨l1, o2, zs, zs2, rfl, rfl, SqL.of (s5 _ _ e4), SqL.of e5, _, rfl, iteN (by rw [hz.one hz2]; simp) ?_⟩
    exact ⟨st', last', cnt', _, _, _, _, _, _, _, W4'.same s5, rfl⟩
end
section
variable {l : PySem.W.OpenLaw} {w : World} {K : PySem.W.Frag} {h : Heap} {mg : Str → Option Value}
theorem def_mk {x : Str} {st : Stmt} {ps : List Str} {f : Addr} {oc : Value} {od an : Option Addr} {sl : Array (Option Value)} {kV dc pm cd ct : Value} (X : K.In h) (G : h.Ns mainGlobals mg) (a : PySem.W.nsIn K mainGlobals x = some (some (.ref f)))
    (l : K.lookup f = some ⟨oc, od, .func (PySem.W.fnOf x x (defArgs st) (defBody st) (defScope st) .none kV dc pm an cd ct), sl⟩) (c : PySem.W.codeIn K cd x = true) (k : PySem.W.keepIn K (.ref f) = true)
    (b : ∀ us : List Value, us.length = ps.length → bindArgs (PySem.W.fnOf x x (defArgs st) (defBody st) (defScope st) .none kV dc pm an cd ct) ⟨us, []⟩ = pure (ps.zip us)) : Def K mg x st ps :=
  ⟨f, _, fun_mk l c k, .all b, PySem.W.mg_of X G a⟩
theorem all_mk {ts : List Addr} {fa f1 f2 f3 f4 f5 f6 f7 f8 f9 f10 f11 f12  C_Picker C_RoundPicker C_RestedPicker C_HallError C_NoKind fm_Picker___init__ fm_Picker_order fm_Picker_took fm_RoundPicker___init__ fm_RoundPicker_order fm_RoundPicker_took fm_RestedPicker___init__ fm_RestedPicker_order fm_RestedPicker_took : Addr} (X : K.In h) (G : h.Ns mainGlobals mg) (hfa : mg "law" = some (.ref fa))
    {od1 an1 od2 an2 od3 an3 od4 an4 od5 an5 od6 an6 od7 an7 od8 an8 od9 an9 od10 an10 od11 an11 od12 an12 : Option Addr} {sl1 sl2 sl3 sl4 sl5 sl6 sl7 sl8 sl9 sl10 sl11 sl12 : Array (Option Value)} {oc1 kV1 dc1 pm1 cd1 ct1 oc2 kV2 dc2 pm2 cd2 ct2 oc3 kV3 dc3 pm3 cd3 ct3 oc4 kV4 dc4 pm4 cd4 ct4 oc5 kV5 dc5 pm5 cd5 ct5 oc6 kV6 dc6 pm6 cd6 ct6 oc7 kV7 dc7 pm7 cd7 ct7 oc8 kV8 dc8 pm8 ct8 oc9 kV9 dc9 pm9 cd9 ct9 oc10 kV10 dc10 pm10 cd10 ct10 oc11 kV11 dc11 pm11 cd11 ct11 oc12 kV12 dc12 pm12 cd12 ct12 : Value} {cdm__law_way_of : Addr}
    (a1 : PySem.W.nsIn K mainGlobals "picker_of" = some (some (.ref f1))) (l1 : K.lookup f1 = some ⟨oc1, od1, .func (PySem.W.fnOf "picker_of" "picker_of" (defArgs (top 7)) (defBody (top 7)) (defScope (top 7)) .none kV1 dc1 pm1 an1 cd1 ct1), sl1⟩) (c1 : PySem.W.codeIn K cd1 "picker_of" = true) (k1 : PySem.W.keepIn K (.ref f1) = true)
    (a2 : PySem.W.nsIn K mainGlobals "hunted" = some (some (.ref f2))) (l2 : K.lookup f2 = some ⟨oc2, od2, .func (PySem.W.fnOf "hunted" "hunted" (defArgs (top 8)) (defBody (top 8)) (defScope (top 8)) .none kV2 dc2 pm2 an2 cd2 ct2), sl2⟩) (c2 : PySem.W.codeIn K cd2 "hunted" = true) (k2 : PySem.W.keepIn K (.ref f2) = true)
    (a3 : PySem.W.nsIn K mainGlobals "_law_cell_at" = some (some (.ref f3))) (l3 : K.lookup f3 = some ⟨oc3, od3, .func (PySem.W.fnOf "_law_cell_at" "_law_cell_at" (defArgs (top 10)) (defBody (top 10)) (defScope (top 10)) .none kV3 dc3 pm3 an3 cd3 ct3), sl3⟩) (c3 : PySem.W.codeIn K cd3 "_law_cell_at" = true) (k3 : PySem.W.keepIn K (.ref f3) = true)
    (a4 : PySem.W.nsIn K mainGlobals "_law_whole" = some (some (.ref f4))) (l4 : K.lookup f4 = some ⟨oc4, od4, .func (PySem.W.fnOf "_law_whole" "_law_whole" (defArgs (top 11)) (defBody (top 11)) (defScope (top 11)) .none kV4 dc4 pm4 an4 cd4 ct4), sl4⟩) (c4 : PySem.W.codeIn K cd4 "_law_whole" = true) (k4 : PySem.W.keepIn K (.ref f4) = true)
    (a5 : PySem.W.nsIn K mainGlobals "_law_mixed" = some (some (.ref f5))) (l5 : K.lookup f5 = some ⟨oc5, od5, .func (PySem.W.fnOf "_law_mixed" "_law_mixed" (defArgs (top 12)) (defBody (top 12)) (defScope (top 12)) .none kV5 dc5 pm5 an5 cd5 ct5), sl5⟩) (c5 : PySem.W.codeIn K cd5 "_law_mixed" = true) (k5 : PySem.W.keepIn K (.ref f5) = true)
    (a6 : PySem.W.nsIn K mainGlobals "_law_order" = some (some (.ref f6))) (l6 : K.lookup f6 = some ⟨oc6, od6, .func (PySem.W.fnOf "_law_order" "_law_order" (defArgs (top 13)) (defBody (top 13)) (defScope (top 13)) .none kV6 dc6 pm6 an6 cd6 ct6), sl6⟩) (c6 : PySem.W.codeIn K cd6 "_law_order" = true) (k6 : PySem.W.keepIn K (.ref f6) = true)
    (a7 : PySem.W.nsIn K mainGlobals "_law_racks" = some (some (.ref f7))) (l7 : K.lookup f7 = some ⟨oc7, od7, .func (PySem.W.fnOf "_law_racks" "_law_racks" (defArgs (top 14)) (defBody (top 14)) (defScope (top 14)) .none kV7 dc7 pm7 an7 cd7 ct7), sl7⟩) (c7 : PySem.W.codeIn K cd7 "_law_racks" = true) (k7 : PySem.W.keepIn K (.ref f7) = true)
    (a8 : PySem.W.nsIn K mainGlobals "_law_way_of" = some (some (.ref f8))) (l8 : K.lookup f8 = some ⟨oc8, od8, .func (PySem.W.fnOf "_law_way_of" "_law_way_of" (defArgs (top 15)) (defBody (top 15)) (defScope (top 15)) .none kV8 dc8 pm8 an8 (.ref cdm__law_way_of) ct8), sl8⟩) (c8 : PySem.W.codeIn K (.ref cdm__law_way_of) "_law_way_of" = true) (k8 : PySem.W.keepIn K (.ref f8) = true)
    (a9 : PySem.W.nsIn K mainGlobals "_law_looked" = some (some (.ref f9))) (l9 : K.lookup f9 = some ⟨oc9, od9, .func (PySem.W.fnOf "_law_looked" "_law_looked" (defArgs (top 16)) (defBody (top 16)) (defScope (top 16)) .none kV9 dc9 pm9 an9 cd9 ct9), sl9⟩) (c9 : PySem.W.codeIn K cd9 "_law_looked" = true) (k9 : PySem.W.keepIn K (.ref f9) = true)
    (a10 : PySem.W.nsIn K mainGlobals "_law_group_by" = some (some (.ref f10))) (l10 : K.lookup f10 = some ⟨oc10, od10, .func (PySem.W.fnOf "_law_group_by" "_law_group_by" (defArgs (top 17)) (defBody (top 17)) (defScope (top 17)) .none kV10 dc10 pm10 an10 cd10 ct10), sl10⟩) (c10 : PySem.W.codeIn K cd10 "_law_group_by" = true) (k10 : PySem.W.keepIn K (.ref f10) = true)
    (a11 : PySem.W.nsIn K mainGlobals "_law_racks_by" = some (some (.ref f11))) (l11 : K.lookup f11 = some ⟨oc11, od11, .func (PySem.W.fnOf "_law_racks_by" "_law_racks_by" (defArgs (top 18)) (defBody (top 18)) (defScope (top 18)) .none kV11 dc11 pm11 an11 cd11 ct11), sl11⟩) (c11 : PySem.W.codeIn K cd11 "_law_racks_by" = true) (k11 : PySem.W.keepIn K (.ref f11) = true)
    (a12 : PySem.W.nsIn K mainGlobals "law" = some (some (.ref f12))) (l12 : K.lookup f12 = some ⟨oc12, od12, .func (PySem.W.fnOf "law" "law" (defArgs (top 19)) (defBody (top 19)) (defScope (top 19)) .none kV12 dc12 pm12 an12 cd12 ct12), sl12⟩) (c12 : PySem.W.codeIn K cd12 "law" = true) (k12 : PySem.W.keepIn K (.ref f12) = true)
    (q_Picker_at : PySem.W.nsIn K mainGlobals "Picker" = some (some (.ref C_Picker)))
    (q_Picker_pg : PySem.W.plainGet K C_Picker Str.empty = true) (q_Picker_hd : PySem.W.hasDictIn K C_Picker = true) (q_Picker_po : PySem.W.plainOver K C_Picker = true) (q_Picker_sa : PySem.W.findIn K (.ref C_Picker) "__setattr__" = some (some (.builtin "object.__setattr__"))) (q_Picker_mk : PySem.W.makesIn K C_Picker = true) (q_Picker_kc : PySem.W.keepIn K (.ref C_Picker) = true)
    (q_Picker_ha : PySem.W.findIn K (.ref C_Picker) "__class__" = some (some (.builtin "object.__class__"))) (q_Picker_hn : PySem.W.specialIn K (.builtin "object.__class__") "__get__" = some (some (.builtin "getset_descriptor.__get__"))) (q_Picker_ht : PySem.W.takesIn K (.builtin "object.__class__") = some true) (q_Picker_hm : PySem.W.mroIn K C_Picker (.type "object") = some true)
    (q_Picker_n_ends : PySem.W.findIn K (.ref C_Picker) "ends" = some none)
    (q_RoundPicker_at : PySem.W.nsIn K mainGlobals "RoundPicker" = some (some (.ref C_RoundPicker)))
    (q_RoundPicker_pg : PySem.W.plainGet K C_RoundPicker Str.empty = true) (q_RoundPicker_hd : PySem.W.hasDictIn K C_RoundPicker = true) (q_RoundPicker_po : PySem.W.plainOver K C_RoundPicker = true) (q_RoundPicker_sa : PySem.W.findIn K (.ref C_RoundPicker) "__setattr__" = some (some (.builtin "object.__setattr__"))) (q_RoundPicker_mk : PySem.W.makesIn K C_RoundPicker = true) (q_RoundPicker_kc : PySem.W.keepIn K (.ref C_RoundPicker) = true)
    (q_RoundPicker_ha : PySem.W.findIn K (.ref C_RoundPicker) "__class__" = some (some (.builtin "object.__class__"))) (q_RoundPicker_hn : PySem.W.specialIn K (.builtin "object.__class__") "__get__" = some (some (.builtin "getset_descriptor.__get__"))) (q_RoundPicker_ht : PySem.W.takesIn K (.builtin "object.__class__") = some true) (q_RoundPicker_hm : PySem.W.mroIn K C_RoundPicker (.type "object") = some true)
    (q_RoundPicker_n_ends : PySem.W.findIn K (.ref C_RoundPicker) "ends" = some none)
    (q_RoundPicker_n_start : PySem.W.findIn K (.ref C_RoundPicker) "start" = some none)
    (q_RestedPicker_at : PySem.W.nsIn K mainGlobals "RestedPicker" = some (some (.ref C_RestedPicker)))
    (q_RestedPicker_pg : PySem.W.plainGet K C_RestedPicker Str.empty = true) (q_RestedPicker_hd : PySem.W.hasDictIn K C_RestedPicker = true) (q_RestedPicker_po : PySem.W.plainOver K C_RestedPicker = true) (q_RestedPicker_sa : PySem.W.findIn K (.ref C_RestedPicker) "__setattr__" = some (some (.builtin "object.__setattr__"))) (q_RestedPicker_mk : PySem.W.makesIn K C_RestedPicker = true) (q_RestedPicker_kc : PySem.W.keepIn K (.ref C_RestedPicker) = true)
    (q_RestedPicker_ha : PySem.W.findIn K (.ref C_RestedPicker) "__class__" = some (some (.builtin "object.__class__"))) (q_RestedPicker_hn : PySem.W.specialIn K (.builtin "object.__class__") "__get__" = some (some (.builtin "getset_descriptor.__get__"))) (q_RestedPicker_ht : PySem.W.takesIn K (.builtin "object.__class__") = some true) (q_RestedPicker_hm : PySem.W.mroIn K C_RestedPicker (.type "object") = some true)
    (q_RestedPicker_n_ends : PySem.W.findIn K (.ref C_RestedPicker) "ends" = some none)
    (q_RestedPicker_n_times : PySem.W.findIn K (.ref C_RestedPicker) "times" = some none)
    (q_HallError_at : PySem.W.nsIn K mainGlobals "HallError" = some (some (.ref C_HallError)))
    (q_NoKind_at : PySem.W.nsIn K mainGlobals "NoKind" = some (some (.ref C_NoKind)))
    (q_HallError_ic : PySem.W.isClsIn K C_HallError = true) (q_HallError_ty : PySem.W.typeIn K (.ref C_HallError) = some (.type "type"))
    (q_NoKind_ic : PySem.W.isClsIn K C_NoKind = true) (q_NoKind_ty : PySem.W.typeIn K (.ref C_NoKind) = some (.type "type"))
    (q_hb : PySem.W.subIn K (.ref C_HallError) (.type "BaseException") = some true) (q_gt : PySem.W.specialIn K (.builtin "object.__class__") "__get__" = some (some (.builtin "getset_descriptor.__get__"))) (q_tk : PySem.W.takesIn K (.builtin "object.__class__") = some true)
    (q_NoKind_ex : PySem.W.excIn K C_NoKind [.type "ValueError", .type "Exception", .type "BaseException", .type "object"] "ValueError.__new__" = true)
    (q_NoKind_ga : PySem.W.findIn K (.ref C_NoKind) "__getattribute__" = some (some (.builtin "BaseException.__getattribute__"))) (q_NoKind_gn : PySem.W.findIn K (.ref C_NoKind) "__getattr__" = some none) (q_NoKind_cl : PySem.W.findIn K (.ref C_NoKind) "__class__" = some (some (.builtin "object.__class__"))) (q_NoKind_mo : PySem.W.mroIn K C_NoKind (.type "object") = some true) (q_NoKind_mb : PySem.W.mroIn K C_NoKind (.type "BaseException") = some true) (q_NoKind_sv : PySem.W.subIn K (.ref C_NoKind) (.type "ValueError") = some true)
    (q_NoKind_s_HallError : PySem.W.subIn K (.ref C_NoKind) (.ref C_HallError) = some true)
    (q_NoKind_s_NoKind : PySem.W.subIn K (.ref C_NoKind) (.ref C_NoKind) = some true)
    {odm_Picker___init__ anm_Picker___init__ : Option Addr} {slm_Picker___init__ : Array (Option Value)} {ocm_Picker___init__ kvm_Picker___init__ dcm_Picker___init__ pmm_Picker___init__ ctm_Picker___init__ cdm_Picker___init__ : Value}
    (q_Picker___init___a : PySem.W.findIn K (.ref C_Picker) "__init__" = some (some (.ref fm_Picker___init__))) (q_Picker___init___i : PySem.W.isFn K (.ref fm_Picker___init__) = true) (q_Picker___init___l : K.lookup fm_Picker___init__ = some ⟨ocm_Picker___init__, odm_Picker___init__, .func (PySem.W.fnOf "__init__" "Picker.__init__" (defArgs (inClass (top 4) 0)) (defBody (inClass (top 4) 0)) (defScope (inClass (top 4) 0)) .none kvm_Picker___init__ dcm_Picker___init__ pmm_Picker___init__ anm_Picker___init__ cdm_Picker___init__ ctm_Picker___init__), slm_Picker___init__⟩) (q_Picker___init___c : PySem.W.codeIn K cdm_Picker___init__ "Picker.__init__" = true) (q_Picker___init___k : PySem.W.keepIn K (.ref fm_Picker___init__) = true)
    (q_Picker___init___xg : PySem.W.specialIn K (.ref C_Picker) "__getattribute__" = some (some (.builtin "type.__getattribute__"))) (q_Picker___init___xr : PySem.W.readsIn K C_Picker (.type "type") = true) (q_Picker___init___xf : PySem.W.findCls K (.ref C_Picker) (.type "type") "__init__" = some (.val (.ref fm_Picker___init__)))
    {odm_Picker_order anm_Picker_order : Option Addr} {slm_Picker_order : Array (Option Value)} {ocm_Picker_order kvm_Picker_order dcm_Picker_order pmm_Picker_order ctm_Picker_order cdm_Picker_order : Value}
    (q_Picker_order_a : PySem.W.findIn K (.ref C_Picker) "order" = some (some (.ref fm_Picker_order))) (q_Picker_order_i : PySem.W.isFn K (.ref fm_Picker_order) = true) (q_Picker_order_l : K.lookup fm_Picker_order = some ⟨ocm_Picker_order, odm_Picker_order, .func (PySem.W.fnOf "order" "Picker.order" (defArgs (inClass (top 4) 1)) (defBody (inClass (top 4) 1)) (defScope (inClass (top 4) 1)) .none kvm_Picker_order dcm_Picker_order pmm_Picker_order anm_Picker_order cdm_Picker_order ctm_Picker_order), slm_Picker_order⟩) (q_Picker_order_c : PySem.W.codeIn K cdm_Picker_order "Picker.order" = true) (q_Picker_order_k : PySem.W.keepIn K (.ref fm_Picker_order) = true)
    {odm_Picker_took anm_Picker_took : Option Addr} {slm_Picker_took : Array (Option Value)} {ocm_Picker_took kvm_Picker_took dcm_Picker_took pmm_Picker_took ctm_Picker_took cdm_Picker_took : Value}
    (q_Picker_took_a : PySem.W.findIn K (.ref C_Picker) "took" = some (some (.ref fm_Picker_took))) (q_Picker_took_i : PySem.W.isFn K (.ref fm_Picker_took) = true) (q_Picker_took_l : K.lookup fm_Picker_took = some ⟨ocm_Picker_took, odm_Picker_took, .func (PySem.W.fnOf "took" "Picker.took" (defArgs (inClass (top 4) 2)) (defBody (inClass (top 4) 2)) (defScope (inClass (top 4) 2)) .none kvm_Picker_took dcm_Picker_took pmm_Picker_took anm_Picker_took cdm_Picker_took ctm_Picker_took), slm_Picker_took⟩) (q_Picker_took_c : PySem.W.codeIn K cdm_Picker_took "Picker.took" = true) (q_Picker_took_k : PySem.W.keepIn K (.ref fm_Picker_took) = true)
    {odm_RoundPicker___init__ anm_RoundPicker___init__ : Option Addr} {slm_RoundPicker___init__ : Array (Option Value)} {ocm_RoundPicker___init__ kvm_RoundPicker___init__ dcm_RoundPicker___init__ pmm_RoundPicker___init__ ctm_RoundPicker___init__ cdm_RoundPicker___init__ : Value}
    (q_RoundPicker___init___a : PySem.W.findIn K (.ref C_RoundPicker) "__init__" = some (some (.ref fm_RoundPicker___init__))) (q_RoundPicker___init___i : PySem.W.isFn K (.ref fm_RoundPicker___init__) = true) (q_RoundPicker___init___l : K.lookup fm_RoundPicker___init__ = some ⟨ocm_RoundPicker___init__, odm_RoundPicker___init__, .func (PySem.W.fnOf "__init__" "RoundPicker.__init__" (defArgs (inClass (top 5) 0)) (defBody (inClass (top 5) 0)) (defScope (inClass (top 5) 0)) .none kvm_RoundPicker___init__ dcm_RoundPicker___init__ pmm_RoundPicker___init__ anm_RoundPicker___init__ cdm_RoundPicker___init__ ctm_RoundPicker___init__), slm_RoundPicker___init__⟩) (q_RoundPicker___init___c : PySem.W.codeIn K cdm_RoundPicker___init__ "RoundPicker.__init__" = true) (q_RoundPicker___init___k : PySem.W.keepIn K (.ref fm_RoundPicker___init__) = true)
    {odm_RoundPicker_order anm_RoundPicker_order : Option Addr} {slm_RoundPicker_order : Array (Option Value)} {ocm_RoundPicker_order kvm_RoundPicker_order dcm_RoundPicker_order pmm_RoundPicker_order ctm_RoundPicker_order cdm_RoundPicker_order : Value}
    (q_RoundPicker_order_a : PySem.W.findIn K (.ref C_RoundPicker) "order" = some (some (.ref fm_RoundPicker_order))) (q_RoundPicker_order_i : PySem.W.isFn K (.ref fm_RoundPicker_order) = true) (q_RoundPicker_order_l : K.lookup fm_RoundPicker_order = some ⟨ocm_RoundPicker_order, odm_RoundPicker_order, .func (PySem.W.fnOf "order" "RoundPicker.order" (defArgs (inClass (top 5) 1)) (defBody (inClass (top 5) 1)) (defScope (inClass (top 5) 1)) .none kvm_RoundPicker_order dcm_RoundPicker_order pmm_RoundPicker_order anm_RoundPicker_order cdm_RoundPicker_order ctm_RoundPicker_order), slm_RoundPicker_order⟩) (q_RoundPicker_order_c : PySem.W.codeIn K cdm_RoundPicker_order "RoundPicker.order" = true) (q_RoundPicker_order_k : PySem.W.keepIn K (.ref fm_RoundPicker_order) = true)
    {odm_RoundPicker_took anm_RoundPicker_took : Option Addr} {slm_RoundPicker_took : Array (Option Value)} {ocm_RoundPicker_took kvm_RoundPicker_took dcm_RoundPicker_took pmm_RoundPicker_took ctm_RoundPicker_took cdm_RoundPicker_took : Value}
    (q_RoundPicker_took_a : PySem.W.findIn K (.ref C_RoundPicker) "took" = some (some (.ref fm_RoundPicker_took))) (q_RoundPicker_took_i : PySem.W.isFn K (.ref fm_RoundPicker_took) = true) (q_RoundPicker_took_l : K.lookup fm_RoundPicker_took = some ⟨ocm_RoundPicker_took, odm_RoundPicker_took, .func (PySem.W.fnOf "took" "RoundPicker.took" (defArgs (inClass (top 5) 2)) (defBody (inClass (top 5) 2)) (defScope (inClass (top 5) 2)) .none kvm_RoundPicker_took dcm_RoundPicker_took pmm_RoundPicker_took anm_RoundPicker_took cdm_RoundPicker_took ctm_RoundPicker_took), slm_RoundPicker_took⟩) (q_RoundPicker_took_c : PySem.W.codeIn K cdm_RoundPicker_took "RoundPicker.took" = true) (q_RoundPicker_took_k : PySem.W.keepIn K (.ref fm_RoundPicker_took) = true)
    {odm_RestedPicker___init__ anm_RestedPicker___init__ : Option Addr} {slm_RestedPicker___init__ : Array (Option Value)} {ocm_RestedPicker___init__ kvm_RestedPicker___init__ dcm_RestedPicker___init__ pmm_RestedPicker___init__ ctm_RestedPicker___init__ cdm_RestedPicker___init__ : Value}
    (q_RestedPicker___init___a : PySem.W.findIn K (.ref C_RestedPicker) "__init__" = some (some (.ref fm_RestedPicker___init__))) (q_RestedPicker___init___i : PySem.W.isFn K (.ref fm_RestedPicker___init__) = true) (q_RestedPicker___init___l : K.lookup fm_RestedPicker___init__ = some ⟨ocm_RestedPicker___init__, odm_RestedPicker___init__, .func (PySem.W.fnOf "__init__" "RestedPicker.__init__" (defArgs (inClass (top 6) 0)) (defBody (inClass (top 6) 0)) (defScope (inClass (top 6) 0)) .none kvm_RestedPicker___init__ dcm_RestedPicker___init__ pmm_RestedPicker___init__ anm_RestedPicker___init__ cdm_RestedPicker___init__ ctm_RestedPicker___init__), slm_RestedPicker___init__⟩) (q_RestedPicker___init___c : PySem.W.codeIn K cdm_RestedPicker___init__ "RestedPicker.__init__" = true) (q_RestedPicker___init___k : PySem.W.keepIn K (.ref fm_RestedPicker___init__) = true)
    {odm_RestedPicker_order anm_RestedPicker_order : Option Addr} {slm_RestedPicker_order : Array (Option Value)} {ocm_RestedPicker_order kvm_RestedPicker_order dcm_RestedPicker_order pmm_RestedPicker_order ctm_RestedPicker_order : Value} {cdm_RestedPicker_order : Addr}
    (q_RestedPicker_order_a : PySem.W.findIn K (.ref C_RestedPicker) "order" = some (some (.ref fm_RestedPicker_order))) (q_RestedPicker_order_i : PySem.W.isFn K (.ref fm_RestedPicker_order) = true) (q_RestedPicker_order_l : K.lookup fm_RestedPicker_order = some ⟨ocm_RestedPicker_order, odm_RestedPicker_order, .func (PySem.W.fnOf "order" "RestedPicker.order" (defArgs (inClass (top 6) 1)) (defBody (inClass (top 6) 1)) (defScope (inClass (top 6) 1)) .none kvm_RestedPicker_order dcm_RestedPicker_order pmm_RestedPicker_order anm_RestedPicker_order (.ref cdm_RestedPicker_order) ctm_RestedPicker_order), slm_RestedPicker_order⟩) (q_RestedPicker_order_c : PySem.W.codeIn K (.ref cdm_RestedPicker_order) "RestedPicker.order" = true) (q_RestedPicker_order_k : PySem.W.keepIn K (.ref fm_RestedPicker_order) = true)
    (q_RestedPicker_order_xh : PySem.W.codeHdIn K cdm_RestedPicker_order (tabOf K cdm_RestedPicker_order) = true) (q_RestedPicker_order_xm : ts.contains (tabOf K cdm_RestedPicker_order) = true)
    {odm_RestedPicker_took anm_RestedPicker_took : Option Addr} {slm_RestedPicker_took : Array (Option Value)} {ocm_RestedPicker_took kvm_RestedPicker_took dcm_RestedPicker_took pmm_RestedPicker_took ctm_RestedPicker_took cdm_RestedPicker_took : Value}
    (q_RestedPicker_took_a : PySem.W.findIn K (.ref C_RestedPicker) "took" = some (some (.ref fm_RestedPicker_took))) (q_RestedPicker_took_i : PySem.W.isFn K (.ref fm_RestedPicker_took) = true) (q_RestedPicker_took_l : K.lookup fm_RestedPicker_took = some ⟨ocm_RestedPicker_took, odm_RestedPicker_took, .func (PySem.W.fnOf "took" "RestedPicker.took" (defArgs (inClass (top 6) 2)) (defBody (inClass (top 6) 2)) (defScope (inClass (top 6) 2)) .none kvm_RestedPicker_took dcm_RestedPicker_took pmm_RestedPicker_took anm_RestedPicker_took cdm_RestedPicker_took ctm_RestedPicker_took), slm_RestedPicker_took⟩) (q_RestedPicker_took_c : PySem.W.codeIn K cdm_RestedPicker_took "RestedPicker.took" = true) (q_RestedPicker_took_k : PySem.W.keepIn K (.ref fm_RestedPicker_took) = true)
    (q__law_way_of_xh : PySem.W.codeHdIn K cdm__law_way_of (tabOf K cdm__law_way_of) = true) (q__law_way_of_xm : ts.contains (tabOf K cdm__law_way_of) = true)
    (q_RestedPicker_order__law_way_of_xn : (tabOf K cdm_RestedPicker_order == tabOf K cdm__law_way_of) = false)
    (z_len : PySem.W.nsIn K mainGlobals "len" = some none) (z_isinstance : PySem.W.nsIn K mainGlobals "isinstance" = some none) (z_int : PySem.W.nsIn K mainGlobals "int" = some none) (z_bool : PySem.W.nsIn K mainGlobals "bool" = some none) (z_tuple : PySem.W.nsIn K mainGlobals "tuple" = some none) (z_list : PySem.W.nsIn K mainGlobals "list" = some none) (z_str : PySem.W.nsIn K mainGlobals "str" = some none) (z_set : PySem.W.nsIn K mainGlobals "set" = some none) (z_dict : PySem.W.nsIn K mainGlobals "dict" = some none) (z_sorted : PySem.W.nsIn K mainGlobals "sorted" = some none) (z_range : PySem.W.nsIn K mainGlobals "range" = some none) (z_abs : PySem.W.nsIn K mainGlobals "abs" = some none) (z_min : PySem.W.nsIn K mainGlobals "min" = some none) :
    ∃ fd : FuncData, (∀ (s : Shared) (v : Value), BindsTo s fd ⟨[v], []⟩ [("_law_script", v)]) ∧ ∀ base : Heap, K.In base → base.Ns mainGlobals mg → BMain mg base → FnOk l.prog w K mg base CX0 7 fa fd ["_law_script"] (spLawT K ts) := by
  have e := hfa.symm.trans (PySem.W.mg_of X G a12)
  cases e
  have T : Txt K mg := ⟨PySem.W.mg_none_of X G z_len, PySem.W.mg_none_of X G z_isinstance, PySem.W.mg_none_of X G z_int, PySem.W.mg_none_of X G z_bool, PySem.W.mg_none_of X G z_tuple, PySem.W.mg_none_of X G z_list, PySem.W.mg_none_of X G z_str, PySem.W.mg_none_of X G z_set, PySem.W.mg_none_of X G z_dict, PySem.W.mg_none_of X G z_sorted, PySem.W.mg_none_of X G z_range, PySem.W.mg_none_of X G z_abs, PySem.W.mg_none_of X G z_min⟩
  have Z : TxtC K mg C_Picker C_RoundPicker C_RestedPicker C_HallError C_NoKind := ⟨PySem.W.mg_of X G q_Picker_at, ⟨q_Picker_mk, q_Picker_kc, PySem.W.mg_of X G q_Picker_at⟩, ⟨q_Picker_pg, q_Picker_hd, q_Picker_po, q_Picker_sa⟩, q_Picker_n_ends, fun H a dx fs e => .ins e ⟨q_Picker_pg, q_Picker_hd, q_Picker_po, q_Picker_sa⟩ q_Picker_ha q_Picker_hn q_Picker_ht q_Picker_hm, PySem.W.mg_of X G q_RoundPicker_at, ⟨q_RoundPicker_mk, q_RoundPicker_kc, PySem.W.mg_of X G q_RoundPicker_at⟩, ⟨q_RoundPicker_pg, q_RoundPicker_hd, q_RoundPicker_po, q_RoundPicker_sa⟩, q_RoundPicker_n_ends, q_RoundPicker_n_start, fun H a dx fs e => .ins e ⟨q_RoundPicker_pg, q_RoundPicker_hd, q_RoundPicker_po, q_RoundPicker_sa⟩ q_RoundPicker_ha q_RoundPicker_hn q_RoundPicker_ht q_RoundPicker_hm, PySem.W.mg_of X G q_RestedPicker_at, ⟨q_RestedPicker_mk, q_RestedPicker_kc, PySem.W.mg_of X G q_RestedPicker_at⟩, ⟨q_RestedPicker_pg, q_RestedPicker_hd, q_RestedPicker_po, q_RestedPicker_sa⟩, q_RestedPicker_n_ends, q_RestedPicker_n_times, fun H a dx fs e => .ins e ⟨q_RestedPicker_pg, q_RestedPicker_hd, q_RestedPicker_po, q_RestedPicker_sa⟩ q_RestedPicker_ha q_RestedPicker_hn q_RestedPicker_ht q_RestedPicker_hm, PySem.W.mg_of X G q_HallError_at, PySem.W.mg_of X G q_NoKind_at, ⟨PySem.W.mg_of X G q_NoKind_at, q_NoKind_ex⟩, ⟨q_NoKind_ga, q_NoKind_gn, q_NoKind_cl, q_gt, q_tk, q_NoKind_mo, q_NoKind_mb, q_NoKind_ic⟩, kit_val q_NoKind_sv, exm_own q_HallError_ic q_HallError_ty q_NoKind_s_HallError q_hb, kit_own q_HallError_ic q_HallError_ty q_NoKind_s_HallError, kit_own q_NoKind_ic q_NoKind_ty q_NoKind_s_NoKind, ⟨q_Picker___init___xg, q_Picker___init___xr, _, q_Picker___init___a, q_Picker___init___xf⟩⟩
  have D_Picker___init__ : DefM K C_Picker "__init__" "Picker.__init__" (inClass (top 4) 0) ["self", "group"] [] noKw := ⟨fm_Picker___init__, _, ⟨⟨_, _, _, _, _, _, _, _, _, _, rfl, q_Picker___init___l, q_Picker___init___c⟩⟩, ⟨q_Picker___init___a, q_Picker___init___i, q_Picker___init___k⟩, trivial, fun m hm => match m, hm with | 0, _ => ⟨[], .nil, .all fun us hl => match us, hl with | [_, _], _ => rfl⟩ | _ + 1, h => absurd h (by simp)⟩
  have D_Picker_order : DefM K C_Picker "order" "Picker.order" (inClass (top 4) 1) ["self"] [] noKw := ⟨fm_Picker_order, _, ⟨⟨_, _, _, _, _, _, _, _, _, _, rfl, q_Picker_order_l, q_Picker_order_c⟩⟩, ⟨q_Picker_order_a, q_Picker_order_i, q_Picker_order_k⟩, trivial, fun m hm => match m, hm with | 0, _ => ⟨[], .nil, .all fun us hl => match us, hl with | [_], _ => rfl⟩ | _ + 1, h => absurd h (by simp)⟩
  have D_Picker_took : DefM K C_Picker "took" "Picker.took" (inClass (top 4) 2) ["self", "end"] [] noKw := ⟨fm_Picker_took, _, ⟨⟨_, _, _, _, _, _, _, _, _, _, rfl, q_Picker_took_l, q_Picker_took_c⟩⟩, ⟨q_Picker_took_a, q_Picker_took_i, q_Picker_took_k⟩, trivial, fun m hm => match m, hm with | 0, _ => ⟨[], .nil, .all fun us hl => match us, hl with | [_, _], _ => rfl⟩ | _ + 1, h => absurd h (by simp)⟩
  have D_RoundPicker___init__ : DefM K C_RoundPicker "__init__" "RoundPicker.__init__" (inClass (top 5) 0) ["self", "group"] [] noKw := ⟨fm_RoundPicker___init__, _, ⟨⟨_, _, _, _, _, _, _, _, _, _, rfl, q_RoundPicker___init___l, q_RoundPicker___init___c⟩⟩, ⟨q_RoundPicker___init___a, q_RoundPicker___init___i, q_RoundPicker___init___k⟩, trivial, fun m hm => match m, hm with | 0, _ => ⟨[], .nil, .all fun us hl => match us, hl with | [_, _], _ => rfl⟩ | _ + 1, h => absurd h (by simp)⟩
  have D_RoundPicker_order : DefM K C_RoundPicker "order" "RoundPicker.order" (inClass (top 5) 1) ["self"] [] noKw := ⟨fm_RoundPicker_order, _, ⟨⟨_, _, _, _, _, _, _, _, _, _, rfl, q_RoundPicker_order_l, q_RoundPicker_order_c⟩⟩, ⟨q_RoundPicker_order_a, q_RoundPicker_order_i, q_RoundPicker_order_k⟩, trivial, fun m hm => match m, hm with | 0, _ => ⟨[], .nil, .all fun us hl => match us, hl with | [_], _ => rfl⟩ | _ + 1, h => absurd h (by simp)⟩
  have D_RoundPicker_took : DefM K C_RoundPicker "took" "RoundPicker.took" (inClass (top 5) 2) ["self", "end"] [] noKw := ⟨fm_RoundPicker_took, _, ⟨⟨_, _, _, _, _, _, _, _, _, _, rfl, q_RoundPicker_took_l, q_RoundPicker_took_c⟩⟩, ⟨q_RoundPicker_took_a, q_RoundPicker_took_i, q_RoundPicker_took_k⟩, trivial, fun m hm => match m, hm with | 0, _ => ⟨[], .nil, .all fun us hl => match us, hl with | [_, _], _ => rfl⟩ | _ + 1, h => absurd h (by simp)⟩
  have D_RestedPicker___init__ : DefM K C_RestedPicker "__init__" "RestedPicker.__init__" (inClass (top 6) 0) ["self", "group"] [] noKw := ⟨fm_RestedPicker___init__, _, ⟨⟨_, _, _, _, _, _, _, _, _, _, rfl, q_RestedPicker___init___l, q_RestedPicker___init___c⟩⟩, ⟨q_RestedPicker___init___a, q_RestedPicker___init___i, q_RestedPicker___init___k⟩, trivial, fun m hm => match m, hm with | 0, _ => ⟨[], .nil, .all fun us hl => match us, hl with | [_, _], _ => rfl⟩ | _ + 1, h => absurd h (by simp)⟩
  have D_RestedPicker_order : DefMT K C_RestedPicker "order" "RestedPicker.order" (inClass (top 6) 1) ["self"] (tabOf K cdm_RestedPicker_order) := ⟨fm_RestedPicker_order, cdm_RestedPicker_order, _, ⟨_, _, _, _, _, _, _, _, _, rfl, q_RestedPicker_order_l, q_RestedPicker_order_c⟩, q_RestedPicker_order_xh, ⟨q_RestedPicker_order_a, q_RestedPicker_order_i, q_RestedPicker_order_k⟩, .all fun us hl => match us, hl with | [_], _ => rfl⟩
  have H_RestedPicker_order : tabOf K cdm_RestedPicker_order ∈ ts := by simpa using q_RestedPicker_order_xm
  have D_RestedPicker_took : DefM K C_RestedPicker "took" "RestedPicker.took" (inClass (top 6) 2) ["self", "end"] [] noKw := ⟨fm_RestedPicker_took, _, ⟨⟨_, _, _, _, _, _, _, _, _, _, rfl, q_RestedPicker_took_l, q_RestedPicker_took_c⟩⟩, ⟨q_RestedPicker_took_a, q_RestedPicker_took_i, q_RestedPicker_took_k⟩, trivial, fun m hm => match m, hm with | 0, _ => ⟨[], .nil, .all fun us hl => match us, hl with | [_, _], _ => rfl⟩ | _ + 1, h => absurd h (by simp)⟩
  have D_picker_of : Def K mg "picker_of" (top 7) ["kind", "group"] := def_mk X G a1 l1 c1 k1 fun us hl => match us, hl with | [_, _], _ => rfl
  have D_hunted : Def K mg "hunted" (top 8) ["picker", "way"] := def_mk X G a2 l2 c2 k2 fun us hl => match us, hl with | [_, _], _ => rfl
  have D__law_cell_at : Def K mg "_law_cell_at" (top 10) ["_law_script", "_law_k"] := def_mk X G a3 l3 c3 k3 fun us hl => match us, hl with | [_, _], _ => rfl
  have D__law_whole : Def K mg "_law_whole" (top 11) ["_law_found"] := def_mk X G a4 l4 c4 k4 fun us hl => match us, hl with | [_], _ => rfl
  have D__law_mixed : Def K mg "_law_mixed" (top 12) ["_law_cell", "_law_k"] := def_mk X G a5 l5 c5 k5 fun us hl => match us, hl with | [_, _], _ => rfl
  have D__law_order : Def K mg "_law_order" (top 13) ["_law_kind", "_law_group", "_law_last", "_law_counts"] := def_mk X G a6 l6 c6 k6 fun us hl => match us, hl with | [_, _, _, _], _ => rfl
  have D__law_racks : Def K mg "_law_racks" (top 14) ["_law_group", "_law_cell"] := def_mk X G a7 l7 c7 k7 fun us hl => match us, hl with | [_, _], _ => rfl
  have D__law_way_of : DefT K mg "_law_way_of" (top 15) ["_law_racks_here"] (tabOf K cdm__law_way_of) := ⟨f8, cdm__law_way_of, _, ⟨_, _, _, _, _, _, _, _, _, rfl, l8, c8⟩, q__law_way_of_xh, k8, PySem.W.mg_of X G a8, .all fun us hl => match us, hl with | [_], _ => rfl⟩
  have H__law_way_of : tabOf K cdm__law_way_of ∈ ts := by simpa using q__law_way_of_xm
  have D__law_looked : Def K mg "_law_looked" (top 16) ["_law_found", "_law_order_here", "_law_end", "_law_rack"] := def_mk X G a9 l9 c9 k9 fun us hl => match us, hl with | [_, _, _, _], _ => rfl
  have D__law_group_by : Def K mg "_law_group_by" (top 17) ["_law_left", "_law_total"] := def_mk X G a10 l10 c10 k10 fun us hl => match us, hl with | [_, _], _ => rfl
  have D__law_racks_by : Def K mg "_law_racks_by" (top 18) ["_law_group", "_law_cell"] := def_mk X G a11 l11 c11 k11 fun us hl => match us, hl with | [_, _], _ => rfl
  have F := fun_mk (st := top 19) l12 c12 k12
  refine ⟨PySem.W.fnOf "law" "law" (defArgs (top 19)) (defBody (top 19)) (defScope (top 19)) .none kV12 dc12 pm12 an12 cd12 ct12, fun s v => .of_eq rfl, fun base _ _ hB => ?_⟩
  have C_pi := ok_pinit (P := l.prog) (w := w) (base := base) T Z D_Picker___init__
  have C_ri := ok_rinit T Z C_pi D_RoundPicker___init__
  have C_si := ok_sinit T Z C_pi D_RestedPicker___init__
  have C_o1 := ok_orderP (P := l.prog) (w := w) (base := base) (T_RestedPicker_order := tabOf K cdm_RestedPicker_order) T Z D_Picker_order
  have C_o2 := ok_orderR (P := l.prog) (w := w) (base := base) (T_RestedPicker_order := tabOf K cdm_RestedPicker_order) T Z D_RoundPicker_order
  have C_o3 := ok_orderS (P := l.prog) (w := w) (base := base) T Z hB D_RestedPicker_order
  exact ok_law T Z H_RestedPicker_order H__law_way_of (fun z => beq_eq_false_iff_ne.mp q_RestedPicker_order__law_way_of_xn z.symm) (ok_cell T D__law_cell_at) (ok_mixed T D__law_mixed) (ok_groupby T D__law_group_by) (ok_pickerof T Z C_pi C_ri C_si D_picker_of) (ok_racks T D__law_racks) (ok_racksby T D__law_racks_by) (ok_lorder T D__law_order) (ok_wayof hB D__law_way_of) (ok_hunted T Z C_o1 C_o2 C_o3 (ok_tookP T Z D_Picker_took) (ok_tookR T Z D_RoundPicker_took) (ok_tookS T Z D_RestedPicker_took) D_hunted) (ok_looked T (ok_whole T D__law_whole) D__law_looked) C_o1 C_o2 C_o3 F
end
theorem walk {l : PySem.W.OpenLaw} {q : Program} {loose : List Str} {XP : (Str → Option Value) → Heap → Prop} {YP : World → Heap → Prop} {d : DefRec} {K : Params → PySem.W.Frag} {ts : List Addr} (hn : l.most = some 63) (hdf : d.params.defaults = [])
    (hY : ∀ (w : World) (h : Heap), YP w h → (K w.params).In h) (hYT : ∀ (w : World) (h : Heap), YP w h → ∀ P ∈ ts, h.get? P = some (PySem.W.tabObj #[])) (htf : ∀ p : Params, tabsFree (K p) ts = true)
    (F : ∀ (w : World) (mg : Str → Option Value) (fa : Addr) (h : Heap), (K w.params).In h → h.Ns mainGlobals mg → mg d.name = some (.ref fa) →
      ∃ fd : FuncData, (∀ (s : Shared) (u : Value), BindsTo s fd ⟨[u], []⟩ [("_law_script", u)]) ∧ ∀ base : Heap, (K w.params).In base → base.Ns mainGlobals mg → BMain mg base → FnOk l.prog w (K w.params) mg base CX0 7 fa fd ["_law_script"] (spLawT (K w.params) ts)) :
    PySem.W.WalkO q loose XP YP l.row.toRowW d [] (fun f vs => PySem.call f vs) :=
  L2.walk_ofT (n := 63) (k := 7) (x := "_law_script") (CX := fun _ => CX0) (sp := fun w => spLawT (K w.params) ts) hn (by decide) hdf ⟨rfl, by decide, by decide⟩ hY hYT htf F (fun _ _ a ns hl hT hS => ⟨a, ns, rfl, hS, hl, hT, fun _ => rfl⟩) fun _ _ _ _ _ z => z
end My
open PySem PySem.W PyProof.Rows
set_option maxRecDepth 100000 in
set_option maxHeartbeats 0 in
theorem PySem.Challenge.cw_crossracks_k64_hunted_holds : PySem.Challenge.rw_crossracks_k64_hunted.Holds := by
  w_on; o_law; k_head; (case hw => w_witness2)
  k_fill
  refine My.walk (l := PySem.Challenge.rw_crossracks_k64_hunted) rfl rfl (fun w h Y => PySem.W.km_in_of Y) (fun w h Y => PySem.W.km_tabs_of Y) (fun p => by kernel_rfl) ?F
  case F =>
    intro w mg fa h KX G hmg
    refine' My.all_mk KX G hmg ?a1 ?l1 ?c1 ?k1 ?a2 ?l2 ?c2 ?k2 ?a3 ?l3 ?c3 ?k3 ?a4 ?l4 ?c4 ?k4 ?a5 ?l5 ?c5 ?k5 ?a6 ?l6 ?c6 ?k6 ?a7 ?l7 ?c7 ?k7 ?a8 ?l8 ?c8 ?k8 ?a9 ?l9 ?c9 ?k9 ?a10 ?l10 ?c10 ?k10 ?a11 ?l11 ?c11 ?k11 ?a12 ?l12 ?c12 ?k12   ?q_Picker_at ?q_Picker_pg ?q_Picker_hd ?q_Picker_po ?q_Picker_sa ?q_Picker_mk ?q_Picker_kc ?q_Picker_ha ?q_Picker_hn ?q_Picker_ht ?q_Picker_hm ?q_Picker_n_ends ?q_RoundPicker_at ?q_RoundPicker_pg ?q_RoundPicker_hd ?q_RoundPicker_po ?q_RoundPicker_sa ?q_RoundPicker_mk ?q_RoundPicker_kc ?q_RoundPicker_ha ?q_RoundPicker_hn ?q_RoundPicker_ht ?q_RoundPicker_hm ?q_RoundPicker_n_ends ?q_RoundPicker_n_start ?q_RestedPicker_at ?q_RestedPicker_pg ?q_RestedPicker_hd ?q_RestedPicker_po ?q_RestedPicker_sa ?q_RestedPicker_mk ?q_RestedPicker_kc ?q_RestedPicker_ha ?q_RestedPicker_hn ?q_RestedPicker_ht ?q_RestedPicker_hm ?q_RestedPicker_n_ends ?q_RestedPicker_n_times ?q_HallError_at ?q_NoKind_at ?q_HallError_ic ?q_HallError_ty ?q_NoKind_ic ?q_NoKind_ty ?q_hb ?q_gt ?q_tk ?q_NoKind_ex ?q_NoKind_ga ?q_NoKind_gn ?q_NoKind_cl ?q_NoKind_mo ?q_NoKind_mb ?q_NoKind_sv ?q_NoKind_s_HallError ?q_NoKind_s_NoKind ?q_Picker___init___a ?q_Picker___init___i ?q_Picker___init___l ?q_Picker___init___c ?q_Picker___init___k ?q_Picker___init___xg ?q_Picker___init___xr ?q_Picker___init___xf ?q_Picker_order_a ?q_Picker_order_i ?q_Picker_order_l ?q_Picker_order_c ?q_Picker_order_k ?q_Picker_took_a ?q_Picker_took_i ?q_Picker_took_l ?q_Picker_took_c ?q_Picker_took_k ?q_RoundPicker___init___a ?q_RoundPicker___init___i ?q_RoundPicker___init___l ?q_RoundPicker___init___c ?q_RoundPicker___init___k ?q_RoundPicker_order_a ?q_RoundPicker_order_i ?q_RoundPicker_order_l ?q_RoundPicker_order_c ?q_RoundPicker_order_k ?q_RoundPicker_took_a ?q_RoundPicker_took_i ?q_RoundPicker_took_l ?q_RoundPicker_took_c ?q_RoundPicker_took_k ?q_RestedPicker___init___a ?q_RestedPicker___init___i ?q_RestedPicker___init___l ?q_RestedPicker___init___c ?q_RestedPicker___init___k ?q_RestedPicker_order_a ?q_RestedPicker_order_i ?q_RestedPicker_order_l ?q_RestedPicker_order_c ?q_RestedPicker_order_k ?q_RestedPicker_order_xh ?q_RestedPicker_order_xm ?q_RestedPicker_took_a ?q_RestedPicker_took_i ?q_RestedPicker_took_l ?q_RestedPicker_took_c ?q_RestedPicker_took_k ?q__law_way_of_xh ?q__law_way_of_xm ?q_RestedPicker_order__law_way_of_xn ?z_len ?z_isinstance ?z_int ?z_bool ?z_tuple ?z_list ?z_str ?z_set ?z_dict ?z_sorted ?z_range ?z_abs ?z_min
    (case a1 => k_is); (case l1 => k_is); (case c1 => k_is); (case k1 => k_is)
    (case a2 => k_is); (case l2 => k_is); (case c2 => k_is); (case k2 => k_is)
    (case a3 => k_is); (case l3 => k_is); (case c3 => k_is); (case k3 => k_is)
    (case a4 => k_is); (case l4 => k_is); (case c4 => k_is); (case k4 => k_is)
    (case a5 => k_is); (case l5 => k_is); (case c5 => k_is); (case k5 => k_is)
    (case a6 => k_is); (case l6 => k_is); (case c6 => k_is); (case k6 => k_is)
    (case a7 => k_is); (case l7 => k_is); (case c7 => k_is); (case k7 => k_is)
    (case a8 => k_is); (case l8 => k_is); (case c8 => k_is); (case k8 => k_is)
    (case a9 => k_is); (case l9 => k_is); (case c9 => k_is); (case k9 => k_is)
    (case a10 => k_is); (case l10 => k_is); (case c10 => k_is); (case k10 => k_is)
    (case a11 => k_is); (case l11 => k_is); (case c11 => k_is); (case k11 => k_is)
    (case a12 => k_is); (case l12 => k_is); (case c12 => k_is); (case k12 => k_is)
    (case q_Picker_at => k_is)
    (case q_Picker_pg => k_is)
    (case q_Picker_hd => k_is)
    (case q_Picker_po => k_is)
    (case q_Picker_sa => k_is)
    (case q_Picker_mk => k_is)
    (case q_Picker_kc => k_is)
    (case q_Picker_ha => k_is)
    (case q_Picker_hn => k_is)
    (case q_Picker_ht => k_is)
    (case q_Picker_hm => k_is)
    (case q_Picker_n_ends => k_is)
    (case q_RoundPicker_at => k_is)
    (case q_RoundPicker_pg => k_is)
    (case q_RoundPicker_hd => k_is)
    (case q_RoundPicker_po => k_is)
    (case q_RoundPicker_sa => k_is)
    (case q_RoundPicker_mk => k_is)
    (case q_RoundPicker_kc => k_is)
    (case q_RoundPicker_ha => k_is)
    (case q_RoundPicker_hn => k_is)
    (case q_RoundPicker_ht => k_is)
    (case q_RoundPicker_hm => k_is)
    (case q_RoundPicker_n_ends => k_is)
    (case q_RoundPicker_n_start => k_is)
    (case q_RestedPicker_at => k_is)
    (case q_RestedPicker_pg => k_is)
    (case q_RestedPicker_hd => k_is)
    (case q_RestedPicker_po => k_is)
    (case q_RestedPicker_sa => k_is)
    (case q_RestedPicker_mk => k_is)
    (case q_RestedPicker_kc => k_is)
    (case q_RestedPicker_ha => k_is)
    (case q_RestedPicker_hn => k_is)
    (case q_RestedPicker_ht => k_is)
    (case q_RestedPicker_hm => k_is)
    (case q_RestedPicker_n_ends => k_is)
    (case q_RestedPicker_n_times => k_is)
    (case q_HallError_at => k_is)
    (case q_NoKind_at => k_is)
    (case q_HallError_ic => k_is)
    (case q_HallError_ty => k_is)
    (case q_NoKind_ic => k_is)
    (case q_NoKind_ty => k_is)
    (case q_hb => k_is)
    (case q_gt => k_is)
    (case q_tk => k_is)
    (case q_NoKind_ex => k_exc)
    (case q_NoKind_ga => k_is)
    (case q_NoKind_gn => k_is)
    (case q_NoKind_cl => k_is)
    (case q_NoKind_mo => k_is)
    (case q_NoKind_mb => k_is)
    (case q_NoKind_sv => k_is)
    (case q_NoKind_s_HallError => k_is)
    (case q_NoKind_s_NoKind => k_is)
    (case q_Picker___init___a => k_is)
    (case q_Picker___init___i => k_is)
    (case q_Picker___init___l => k_is)
    (case q_Picker___init___c => k_is)
    (case q_Picker___init___k => k_is)
    (case q_Picker___init___xg => kernel_rfl)
    (case q_Picker___init___xr => kernel_rfl)
    (case q_Picker___init___xf => kernel_rfl)
    (case q_Picker_order_a => k_is)
    (case q_Picker_order_i => k_is)
    (case q_Picker_order_l => k_is)
    (case q_Picker_order_c => k_is)
    (case q_Picker_order_k => k_is)
    (case q_Picker_took_a => k_is)
    (case q_Picker_took_i => k_is)
    (case q_Picker_took_l => k_is)
    (case q_Picker_took_c => k_is)
    (case q_Picker_took_k => k_is)
    (case q_RoundPicker___init___a => k_is)
    (case q_RoundPicker___init___i => k_is)
    (case q_RoundPicker___init___l => k_is)
    (case q_RoundPicker___init___c => k_is)
    (case q_RoundPicker___init___k => k_is)
    (case q_RoundPicker_order_a => k_is)
    (case q_RoundPicker_order_i => k_is)
    (case q_RoundPicker_order_l => k_is)
    (case q_RoundPicker_order_c => k_is)
    (case q_RoundPicker_order_k => k_is)
    (case q_RoundPicker_took_a => k_is)
    (case q_RoundPicker_took_i => k_is)
    (case q_RoundPicker_took_l => k_is)
    (case q_RoundPicker_took_c => k_is)
    (case q_RoundPicker_took_k => k_is)
    (case q_RestedPicker___init___a => k_is)
    (case q_RestedPicker___init___i => k_is)
    (case q_RestedPicker___init___l => k_is)
    (case q_RestedPicker___init___c => k_is)
    (case q_RestedPicker___init___k => k_is)
    (case q_RestedPicker_order_a => k_is)
    (case q_RestedPicker_order_i => k_is)
    (case q_RestedPicker_order_l => k_is)
    (case q_RestedPicker_order_c => k_is)
    (case q_RestedPicker_order_k => k_is)
    (case q_RestedPicker_order_xh => kernel_rfl)
    (case q_RestedPicker_order_xm => kernel_rfl)
    (case q_RestedPicker_took_a => k_is)
    (case q_RestedPicker_took_i => k_is)
    (case q_RestedPicker_took_l => k_is)
    (case q_RestedPicker_took_c => k_is)
    (case q_RestedPicker_took_k => k_is)
    (case q__law_way_of_xh => kernel_rfl)
    (case q__law_way_of_xm => kernel_rfl)
    (case q_RestedPicker_order__law_way_of_xn => kernel_rfl)
    (case z_len => k_is)
    (case z_isinstance => k_is)
    (case z_int => k_is)
    (case z_bool => k_is)
    (case z_tuple => k_is)
    (case z_list => k_is)
    (case z_str => k_is)
    (case z_set => k_is)
    (case z_dict => k_is)
    (case z_sorted => k_is)
    (case z_range => k_is)
    (case z_abs => k_is)
    (case z_min => k_is)
