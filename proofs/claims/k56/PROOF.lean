import PyProof.Rows.All
import Wide.All
import OpenK.AllK
import Wide.FinOn
import Lean
import PyProof.EqAt
import PyProof.EqKinds
import PyProof.TupleCall
import PySem.SetOps
import PyProof.SetKind
import PyProof.CollectWalk
import PyProof.FactsAll.set
import PyProof.ForAny
import PyProof.Rows.SortWalk
import PyProof.Rows.SetFrom
import KE.KSortAsk
import KE.KSortTup
import KE.KDictList
import KE.KMinBuiltin
import PyProof.EnumMake
import PyProof.NsDelKeeps
import PyProof.ExcInit
import PyProof.ExcClass2
import PyProof.MeetsStr
import PyProof.MeetsStr2
import PyProof.StrLawsIn
import PyProof.StrLawsOcc
import PyProof.StrLawsOccR
import PyProof.CallStr
import PyProof.SliceStr2
import KE.KIntText
import KE.IntTextLaws
import PyProof.FString4
import PyProof.StrLawsRepr
import PyProof.StrWalks
import PyProof.FString
import PyProof.TupleKey
import PyProof.IsRules
import KE.KRevIter
import PyProof.WalksMore
import PyProof.FitsReplace
import PyProof.Rows.StrLawsPart
import PySem.Challenge.RW_crossracks_k56_whole_hall_of_nests
set_option Elab.async false
set_option linter.all false
set_option maxRecDepth 100000
namespace L2
open PySem PySem.Spec PyProof.Rows
abbrev Key:=Sum Int Str
def bt:Key → Value → Bool
 | .inl k,v=>Value.isInt k v
 | .inr x,v=>Value.isStrOf x v
def rX (w:World):Key → Int
 | .inl k=>hashInt k
 | .inr x=>hashStr w x
theorem w9:∀ {k:Key} {v:Value},bt k v = true → (∃ i t,k = Sum.inl i ∧ v = Value.int i t) ∨ (∃ x t,k = Sum.inr x ∧ v = Value.str x t)
 | .inl i,v,h=>by
  obtain ⟨t,e⟩:=Value.isInt_shape (k:=i) (v:=v) h
  exact .inl ⟨i,t,rfl,e⟩
 | .inr x,v,h=>by
  obtain ⟨t,e⟩:=Value.isStrOf_shape (x:=x) (v:=v) h
  exact .inr ⟨x,t,rfl,e⟩
theorem jN (i:Int) (t:Tok):bt (.inl i) (.int i t) = true:=by simp [bt,Value.isInt]
theorem kd (x:Str) (t:Tok):bt (.inr x) (.str x t) = true:=by simp [bt,Value.isStrOf]
theorem pN (a b:Int):decide ((Sum.inl a:Key) = Sum.inl b) = (a == b):=by
 by_cases e:a = b
 ·subst e; simp
 ·have h:¬ (Sum.inl a:Key) = Sum.inl b:=fun q=>e (Sum.inl.inj q)
  rw [decide_eq_false h]
  exact (beq_eq_false_iff_ne.mpr e).symm
theorem pU (a b:Str):decide ((Sum.inr a:Key) = Sum.inr b) = decide (a = b):=by
 by_cases e:a = b
 ·subst e; simp
 ·have h:¬ (Sum.inr a:Key) = Sum.inr b:=fun q=>e (Sum.inr.inj q)
  rw [decide_eq_false h,decide_eq_false e]
theorem pc (a:Int) (b:Str):decide ((Sum.inl a:Key) = Sum.inr b) = false:=decide_eq_false (fun q=>nomatch q)
theorem pE (a:Str) (b:Int):decide ((Sum.inr a:Key) = Sum.inl b) = false:=decide_eq_false (fun q=>nomatch q)
def u9 (prog:Program) (w:World):PySem.KeyKind prog w Key where
 is:=bt
 hash:=rX w
 inj:=fun v a b ha hb=>by
  rcases w9 ha with ⟨i,t,rfl,rfl⟩ | ⟨x,t,rfl,rfl⟩
  ·rcases w9 hb with ⟨j,u,rfl,e⟩ | ⟨y,u,rfl,e⟩
   ·injection e with e1 _; rw [e1]
   ·exact nomatch e
  ·rcases w9 hb with ⟨j,u,rfl,e⟩ | ⟨y,u,rfl,e⟩
   ·exact nomatch e
   ·injection e with e1 _; rw [e1]
 byValue:=fun k v h=>by
  rcases w9 h with ⟨i,t,rfl,rfl⟩ | ⟨x,t,rfl,rfl⟩ <;> rfl
 pyHash:=fun hv h=>by
  rcases w9 hv with ⟨i,t,rfl,rfl⟩ | ⟨x,t,rfl,rfl⟩
  ·exact wpAny_pyHash_int h
  ·exact wpAny_pyHash_str h
 eqBool:=fun hu hv h=>by
  rcases w9 hu with ⟨i,t,rfl,rfl⟩ | ⟨x,t,rfl,rfl⟩
  ·rcases w9 hv with ⟨j,u,rfl,rfl⟩ | ⟨y,u,rfl,rfl⟩
   ·rw [pN] at h; exact wpAny_eqBool_int h
   ·rw [pc] at h; exact SeqAt.EqAt.int_str i t y u _ _ _ _ h
  ·rcases w9 hv with ⟨j,u,rfl,rfl⟩ | ⟨y,u,rfl,rfl⟩
   ·rw [pE] at h; exact SeqAt.EqAt.str_int x t j u _ _ _ _ h
   ·rw [pU] at h; exact wpAny_eqBool_str h
 «strs»:=fun k x t v h=>by
  rcases w9 h with ⟨i,u,rfl,e⟩ | ⟨y,u,rfl,e⟩
  ·exact nomatch e
  ·injection e with e1 _
   subst e1
   cases v <;> rfl
theorem eE (prog:Program) (w:World) (i:Int) (t:Tok):(u9 prog w).is (.inl i) (.int i t) = true:=jN i t
theorem eM (prog:Program) (w:World) (x:Str) (t:Tok):(u9 prog w).is (.inr x) (.str x t) = true:=kd x t
end L2
namespace L2
open PySem PySem.Spec PyProof.Rows
inductive V where
 | non | bl (b:Bool) | int (i:Int) | str (x:Str) | byt (b:Array UInt8) | flt (b:UInt64) | ref (a:Addr) | ty (n:String)
 deriving DecidableEq
def o9:V → Value → Prop
 | .non,u=>u = Value.none
 | .bl b,u=>u = Value.bool b
 | .int i,u=>∃ t,u = Value.int i t
 | .str x,u=>∃ t,u = Value.str x t
 | .byt b,u=>∃ t,u = Value.bytes b t
 | .flt b,u=>∃ t,u = Value.float b t
 | .ref a,u=>u = Value.ref a
 | .ty n,u=>u = Value.type n
abbrev n6:List V → List Value → Prop:=Paired o9
theorem n6.length {xs:List V} {us:List Value} (r:n6 xs us):xs.length = us.length:=Paired.length r
theorem n6.get:∀ {xs:List V} {us:List Value} {i:Nat} {x:V},n6 xs us → xs[i]? = some x → ∃ u,us[i]? = some u ∧ o9 x u
 | _,_,_,_,.nil,e=>by simp at e
 | _,_,0,_,.cons r _,e=>by simp at e; subst e; exact ⟨_,rfl,r⟩
 | _,_,i + 1,x,.cons _ t,e=>by
  obtain ⟨u,h1,h2⟩:=n6.get (i:=i) (x:=x) t (by simpa using e)
  exact ⟨u,by simpa using h1,h2⟩
theorem n6.set {x:V} {u:Value} (r:o9 x u):∀ {xs:List V} {us:List Value} (i:Nat),n6 xs us → n6 (xs.set i x) (us.set i u)
 | _,_,_,.nil=>.nil
 | _,_,0,.cons _ t=>.cons r t
 | _,_,i + 1,.cons q t=>.cons q (n6.set r i t)
theorem n6.append:∀ {xs ys:List V} {us ws:List Value},n6 xs us → n6 ys ws → n6 (xs ++ ys) (us ++ ws)
 | _,_,_,_,.nil,s=>s
 | _,_,_,_,.cons r t,s=>.cons r (n6.append t s)
def T2:Option V → Option Value → Prop
 | some v,some u=>o9 v u
 | none,none=>True
 | _,_=>False
def KV {κ:Type}:List (κ × V) → List (κ × Value) → Prop:=Paired fun (p:κ × V) (q:κ × Value)=>p.1 = q.1 ∧ o9 p.2 q.2
def kV:Key → V
 | .inl i=>.int i
 | .inr x=>.str x
inductive HO where
 /-- a list -/
 | lst (xs:List V)
 /-- a tuple (never changes) -/
 | tup (xs:List V)
 /-- a dict whose keys are ints and texts; one whose keys are tuples of ints and texts (the empty one is both) -/
 | dK (kvs:List (Key × V)) | dT (kvs:List (List Key × V))
 /-- a set of ints: its members,its size -/
 | set (S:Int → Bool) (n:Nat)
 /-- an instance of the class at C,its dict at dx,its attributes -/
 | ins (C dx:Addr) (fs:List (Str × V))
 /-- the dict of the instance at x -/
 | own (x:Addr)
 /-- the dict of an exception -/
 | xd (fs:List (Str × V))
 /-- a bound method,f of x -/
 | met (f x:Addr)
 /-- a range object lo,lo + 1,.. below hi -/
 | rng (lo hi:Int)
 /-- a thing that is known to the object (the script; a dict while a loop walks it): read,never written while it is so -/
 | frz (o:Obj) (u:HO)
 /-- a code object's table -/
 | tbl (ps:Array Value)
 /-- any other thing,by what is true of its one object (a def of one's own: jZ a S n:=HO.ext fun h=>..) -/
 | ext (φ:Heap → Prop)
abbrev Hp:=Addr → Option HO
def upd (H:Hp) (a:Addr) (o:HO):Hp:=fun b=>if b = a then some o else H b
theorem d4 {H:Hp} {a:Addr} {o:HO}:upd H a o a = some o:=by unfold upd; rw [if_pos rfl]
theorem g7 {H:Hp} {a b:Addr} {o:HO} (h:b ≠ a):upd H a o b = H b:=by unfold upd; rw [if_neg h]
theorem oH {H:Hp} {a b:Addr} {o u:HO} (h:H a = some o) (h':H b = some u) (d:o ≠ u):a ≠ b:=by
 intro e; subst e; rw [h] at h'; exact d (Option.some.inj h')
theorem i4 {H:Hp} {a b:Addr} {o:HO} (h:H a = some o) (h':H b = none):a ≠ b:=by
 intro e; subst e; rw [h] at h'; cases h'
section
variable (P:Program) (w:World)
def p3 (H:Hp) (h:Heap) (a:Addr):HO → Prop
 | .lst xs=>xs.length ≤ sizeLine ∧ ∃ (its:List Value) (n:Nat),n6 xs its ∧ h.get? a = some { cls:=.type "list",data:=.seq its.toArray n }
 | .tup xs=>xs.length ≤ sizeLine ∧ ∃ its:List Value,n6 xs its ∧ IsTup h a its.toArray
 | .dK kvs=>kvs.length ≤ sizeLine ∧ (a == sysModules) = false ∧ ∃ vs,KV kvs vs ∧ h.DictOf (u9 P w) a vs
 | .dT kvs=>kvs.length ≤ sizeLine ∧ (a == sysModules) = false ∧ ∃ xs:List (List Key × Addr × Value),
   Paired (fun (p:List Key × V) (q:List Key × Addr × Value)=>p.1 = q.1 ∧ H q.2.1 = some (.tup (p.1.map kV)) ∧ o9 p.2 q.2.2) kvs xs ∧
   ∃ o es ep,h.get? a = some o ∧ o.ExactDict ∧ o.data = .dict es ep ∧ es.toList = xs.map (entryOfKey (tupleKind (u9 P w))) ∧ (xs.map (·.1)).Nodup
 | .set S n=>h.SetOf (intKind P w) a S n
 | .ins C dx fs=>H dx = some (.own a) ∧ fs.length ≤ 1000 ∧ dx ≠ a ∧ h.get? a = some (PySem.W.instObj C dx) ∧
   ∃ mA,h.Ns1 dx mA ∧ (∀ f,T2 (fs.lookup f) (mA f)) ∧ PySem.Within mA (fs.map (·.1))
 | .own _=>∃ o,h.get? a = some o
 | .xd fs=>∃ mA,h.Ns1 a mA ∧ ∀ f,T2 (fs.lookup f) (mA f)
 | .rng lo hi=>∃ t u v,h.get? a = some { cls:=.type "range",data:=.fields #[.int lo t,.int hi u,.int 1 v] }
 | .frz o u=>h.get? a = some o ∧ p3 H h a u
 | .tbl ps=>h.get? a = some { cls:=.none,data:=.fields ps }
 | .met f x=>h.get? a = some (PySem.W.methodObj (.ref f) (.ref x))
 | .ext φ=>φ h ∧ (∃ o,h.get? a = some o) ∧ ∀ h1 h2:Heap,φ h1 → (∀ o,h1.get? a = some o → h2.get? a = some o) → φ h2
def HOk (H:Hp) (h:Heap):Prop:=∀ a o,H a = some o → p3 P w H h a o
end
section
variable {P:Program} {w:World} {H H':Hp} {h h':Heap} {a:Addr} {o:HO}
theorem p3.lt (x:p3 P w H h a o):a < h.objs.size:=by
 cases o with
 | lst xs=>obtain ⟨_,_,_,_,e⟩:=x; exact Heap.lt_size e
 | tup xs=>obtain ⟨_,_,_,p⟩:=x; exact p.lt
 | dK kvs=>obtain ⟨_,_,_,_,o,_,_,e,_⟩:=x; exact Heap.lt_size e
 | dT kvs=>obtain ⟨_,_,_,_,o,_,_,e,_⟩:=x; exact Heap.lt_size e
 | set S n=>obtain ⟨o,_,_,_,e,_⟩:=x; exact Heap.lt_size e
 | ins C dx fs=>obtain ⟨_,_,_,e,_⟩:=x; exact Heap.lt_size e
 | own y=>obtain ⟨_,e⟩:=x; exact Heap.lt_size e
 | xd fs=>obtain ⟨_,⟨_,_,_,e,_⟩,_⟩:=x; exact Heap.lt_size e
 | rng lo hi=>obtain ⟨_,_,_,e⟩:=x; exact Heap.lt_size e
 | frz ob u=>obtain ⟨e,_⟩:=x; exact Heap.lt_size e
 | tbl ps=>exact Heap.lt_size (show h.get? a = some _ from x)
 | met f y=>exact Heap.lt_size (show h.get? a = some _ from x)
 | ext φ=>obtain ⟨_,⟨_,e⟩,_⟩:=x; exact Heap.lt_size e
theorem Paired.mapP {α β:Type} {F G:α → β → Prop}:∀ {l₁:List α} {l₂:List β},Paired F l₁ l₂ → (∀ a b,F a b → G a b) → Paired G l₁ l₂
 | _,_,.nil,_=>.nil
 | _,_,.cons r t,f=>.cons (f _ _ r) (Paired.mapP t f)
theorem p3.stay (x:p3 P w H h a o) (k:∀ b u,(b = a ∨ H b = some (.own a)) → h.get? b = some u → h'.get? b = some u)
  (ho:∀ b,H b = some (.own a) → H' b = some (.own a)) (ht:∀ b xs,H b = some (.tup xs) → H' b = some (.tup xs)):p3 P w H' h' a o:=by
 induction o with
 | lst xs=>obtain ⟨z,its,n,r,e⟩:=x; exact ⟨z,its,n,r,k _ _ (.inl rfl) e⟩
 | tup xs=>obtain ⟨z,its,r,ob,e,c⟩:=x; exact ⟨z,its,r,ob,k _ _ (.inl rfl) e,c⟩
 | dK kvs=>obtain ⟨z,y,vs,r,ob,es,ep,e,c⟩:=x; exact ⟨z,y,vs,r,ob,es,ep,k _ _ (.inl rfl) e,c⟩
 | dT kvs =>
  obtain ⟨z,y,xs,r,ob,es,ep,e,c⟩:=x
  exact ⟨z,y,xs,Paired.mapP r fun p q z=>⟨z.1,ht _ _ z.2.1,z.2.2⟩,ob,es,ep,k _ _ (.inl rfl) e,c⟩
 | set S n=>obtain ⟨ob,es,ep,t,e,c⟩:=x; exact ⟨ob,es,ep,t,k _ _ (.inl rfl) e,c⟩
 | ins C dx fs =>
  obtain ⟨d,z,ne,e,mA,⟨od,es,ep,e2,c⟩,r⟩:=x
  exact ⟨ho _ d,z,ne,k _ _ (.inl rfl) e,mA,⟨od,es,ep,k _ _ (.inr d) e2,c⟩,r⟩
 | own y=>obtain ⟨ob,e⟩:=x; exact ⟨ob,k _ _ (.inl rfl) e⟩
 | xd fs=>obtain ⟨mA,⟨od,es,ep,e,c⟩,r⟩:=x; exact ⟨mA,⟨od,es,ep,k _ _ (.inl rfl) e,c⟩,r⟩
 | rng lo hi=>obtain ⟨t,u,v,e⟩:=x; exact ⟨t,u,v,k _ _ (.inl rfl) e⟩
 | frz ob u ih=>obtain ⟨e,q⟩:=x; exact ⟨k _ _ (.inl rfl) e,ih q⟩
 | tbl ps =>
  have e:h.get? a = some { cls:=.none,data:=.fields ps }:=x
  show h'.get? a = some { cls:=.none,data:=.fields ps }
  exact k a _ (.inl rfl) e
 | met f y =>
  have e:h.get? a = some (PySem.W.methodObj (.ref f) (.ref y)):=x
  show h'.get? a = some (PySem.W.methodObj (.ref f) (.ref y))
  exact k a _ (.inl rfl) e
 | ext φ=>obtain ⟨p,⟨o,e⟩,st⟩:=x; exact ⟨st _ _ p fun o q=>k _ _ (.inl rfl) q,⟨o,k _ _ (.inl rfl) e⟩,st⟩
theorem HOk.lt (x:HOk P w H h) (e:H a = some o):a < h.objs.size:=(x a o e).lt
theorem HOk.fresh (x:HOk P w H h) (e:h.objs.size ≤ a):H a = none:=by
 cases q:H a with
 | none=>rfl
 | some u=>exact absurd (Nat.lt_of_lt_of_le (x.lt q) e) (Nat.lt_irrefl _)
theorem HOk.kept (x:HOk P w H h) (k:∀ b u,h.get? b = some u → h'.get? b = some u):HOk P w H h':=fun a o e =>
 (x a o e).stay (fun b u _ q=>k b u q) (fun _ q=>q) fun _ _ q=>q
theorem HOk.laid (x:HOk P w H h) (k:∀ b u,h.get? b = some u → h'.get? b = some u) (hp:h.objs.size ≤ a) (new:p3 P w (upd H a o) h' a o):HOk P w (upd H a o) h':=fun b u e=>by
 have hn:=x.fresh hp
 by_cases hb:b = a
 ·subst hb; rw [d4] at e; cases e; exact new
 ·rw [g7 hb] at e
  exact (x b u e).stay (fun c v _ q=>k c v q) (fun c q=>by rw [g7 (i4 q hn)]; exact q) fun c xs q=>by rw [g7 (i4 q hn)]; exact q
end
def Rd (H:Hp) (a:Addr) (u:HO):Prop:=H a = some u ∨ ∃ o,H a = some (.frz o u)
theorem Rd.ok {P:Program} {w:World} {H:Hp} {h:Heap} {a:Addr} {u:HO} (r:Rd H a u) (x:HOk P w H h):p3 P w H h a u:=by
 rcases r with r | ⟨o,r⟩
 ·exact x a u r
 ·obtain ⟨_,q⟩:=x a _ r
  exact q
def Mut:Option HO → Prop
 | some (.lst _)=>True
 | some (.dK _)=>True
 | some (.dT _)=>True
 | some (.set _ _)=>True
 | some (.ins _ _ _)=>True
 | some (.ext _)=>True
 | _=>False
section
variable {P:Program} {w:World} {H:Hp} {h h':Heap} {x e:Addr} {o':HO}
theorem HOk.write (ok:HOk P w H h) (mu:Mut (H x)) (he:e = x ∨ H e = some (.own x)) (k:∀ b u,b ≠ e → h.get? b = some u → h'.get? b = some u) (heo:∃ u,h'.get? e = some u)
  (new:p3 P w (upd H x o') h' x o'):HOk P w (upd H x o') h':=fun b u q=>by
 have nown:∀ c y,H c = some (.own y) → c ≠ x:=fun c y r z=>by subst z; rw [r] at mu; exact mu
 have ntup:∀ c xs,H c = some (.tup xs) → c ≠ x:=fun c xs r z=>by subst z; rw [r] at mu; exact mu
 by_cases hb:b = x
 ·subst hb; rw [d4] at q; cases q; exact new
 ·rw [g7 hb] at q
  by_cases hbe:b = e
  ·have q':H b = some (.own x):=by
    rcases he with z | z
    ·exact absurd (hbe.trans z) hb
    ·rw [hbe]; exact z
   rw [q] at q'; cases q'
   obtain ⟨v,hv⟩:=heo
   exact ⟨v,by rw [hbe]; exact hv⟩
  ·refine (ok b u q).stay (fun c v hc r=>k c v ?_ r) (fun c r=>by rw [g7 (nown c b r)]; exact r) fun c xs r=>by rw [g7 (ntup c xs r)]; exact r
   rcases hc with rfl | hc
   ·exact hbe
   ·rintro rfl
    rcases he with z | z
    ·exact nown c b hc z
    ·rw [hc] at z; cases z; exact hb rfl
end
structure Un (fs ex:List Addr) (H H':Hp) (h h':Heap):Prop where
 keep:∀ b o,h.get? b = some o → H b = none → b ∉ fs → b ∉ ex → h'.get? b = some o
 slot:∀ b o,h.get? b = some o → H b = none → b ∈ fs → b ∉ ex → ∃ sl,h'.get? b = some { o with slots:=sl }
 free:∀ b o,h.get? b = some o → H b = none → b ∉ ex → H' b = none
 there:∀ b o,h.get? b = some o → b ∉ ex → ∃ o',h'.get? b = some o'
 tups:∀ b xs,H b = some (.tup xs) → H' b = some (.tup xs)
 frzs:∀ b o u,H b = some (.frz o u) → H' b = some (.frz o u)
 tbls:∀ b ps,H b = some (.tbl ps) → ∃ more,H' b = some (.tbl (ps ++ more))
section
variable {fs fs' ex ex':List Addr} {H H1 H2:Hp} {h h1 h2 h':Heap} {a x e:Addr} {o:HO}
theorem Un.any (u:Un fs ex H H1 h h1) {b:Addr} {ob:Obj} (q:h.get? b = some ob) (n:H b = none) (hx:b ∉ ex):∃ sl,h1.get? b = some { ob with slots:=sl }:=by
 by_cases hb:b ∈ fs
 ·exact u.slot b ob q n hb hx
 ·exact ⟨ob.slots,u.keep b ob q n hb hx⟩
theorem Un.kept (k:∀ b u,h.get? b = some u → h'.get? b = some u):Un fs ex H H h h' :=
 ⟨fun b ob q _ _ _=>k b ob q,fun b ob q _ _ _=>⟨ob.slots,k b ob q⟩,fun _ _ _ n _=>n,fun b ob q _=>⟨ob,k b ob q⟩,fun _ _ q=>q,fun _ _ _ q=>q,fun _ ps q=>⟨#[],by rw [q]; simp⟩⟩
theorem Un.refl:Un fs ex H H h h:=Un.kept fun _ _ q=>q
theorem Un.laid (k:∀ b u,h.get? b = some u → h'.get? b = some u) (hp:h.objs.size ≤ a) (hn:H a = none):Un fs ex H (upd H a o) h h' where
 keep:=fun b u q _ _ _=>k b u q
 slot:=fun b u q _ _ _=>⟨u.slots,k b u q⟩
 free:=fun b u q n _=>by rw [g7 (Nat.ne_of_lt (Nat.lt_of_lt_of_le (Heap.lt_size q) hp))]; exact n
 there:=fun b u q _=>⟨u,k b u q⟩
 tups:=fun b xs q=>by rw [g7 (i4 q hn)]; exact q
 frzs:=fun b u xs q=>by rw [g7 (i4 q hn)]; exact q
 tbls:=fun b ps q=>⟨#[],by rw [g7 (i4 q hn),q]; simp⟩
theorem Un.write (mu:Mut (H x)) (he:e = x ∨ H e = some (.own x)) (k:∀ b u,b ≠ e → h.get? b = some u → h'.get? b = some u) (heo:∃ u,h'.get? e = some u):Un fs ex H (upd H x o) h h':=by
 have hx:∀ b,H b = none → b ≠ x:=fun b n z=>by subst z; rw [n] at mu; exact mu
 have hb:∀ b,H b = none → b ≠ e:=fun b n z=>by
  subst z
  rcases he with r | r
  ·exact hx b n r
  ·rw [n] at r; cases r
 have hm:∀ b u,H b = some u → ¬ Mut (some u) → b ≠ x:=fun b u q nm z=>by subst z; rw [q] at mu; exact nm mu
 refine ⟨fun b u q n _ _=>k b u (hb b n) q,fun b u q n _ _=>⟨u.slots,k b u (hb b n) q⟩,fun b u q n _=>by rw [g7 (hx b n)]; exact n,fun b u q _=>?_,
  fun b xs q=>by rw [g7 (hm b _ q fun z=>z)]; exact q,fun b u xs q=>by rw [g7 (hm b _ q fun z=>z)]; exact q,fun b ps q=>⟨#[],by rw [g7 (hm b _ q fun z=>z),q]; simp⟩⟩
 by_cases hbe:b = e
 ·subst hbe; exact heo
 ·exact ⟨u,k b u hbe q⟩
end
def trk (h:Heap) (H:Hp):List Addr:=(List.range h.objs.size).filter fun a=>(H a).isSome
def dL (h:Heap) (H:Hp):Heap:=PySem.W.hideAll h (trk h H)
theorem jg (h:Heap) (H:Hp):(dL h H).objs.size = h.objs.size:=PySem.W.hideAll_size _ _
theorem me {h:Heap} {H:Hp} {b:Addr} {o:Obj} (e:h.get? b = some o) (n:H b = none):(dL h H).get? b = some o :=
 PySem.W.hideAll_get _ e fun hm=>by
  have q:(H b).isSome = true:=(List.mem_filter.mp hm).2
  rw [n] at q; simp at q
theorem oo {h:Heap} {H:Hp} {b:Addr} {o:Obj} (e:(dL h H).get? b = some o):h.get? b = some o ∧ H b = none:=by
 have e':h.get? b = some o:=PySem.W.of_hideAll (trk h H) e
 refine ⟨e',?_⟩
 cases q:H b with
 | none=>rfl
 | some x =>
  have hm:b ∈ trk h H:=List.mem_filter.mpr ⟨List.mem_range.mpr (Heap.lt_size e'),by simp [q]⟩
  have z:(dL h H).get? b = none:=PySem.W.hideAll_none (trk h H) hm
  rw [z] at e; cases e
end L2
namespace L2
open PySem PySem.Spec PyProof.Rows
structure Mod (K:PySem.W.Frag) (mg:Str → Option Value) (base:Heap):Prop where
 kin:K.In base
 glob:base.Ns mainGlobals mg
 blt:∃ mb,base.Ns builtinsNs mb ∧ ∀ x:Str,x ≠ "__name__" → mb x = bootBuiltins x
 nolimit:base.NoLimit
structure Cx where
 prog:Program
 w:World
 K:PySem.W.Frag
 mg:Str → Option Value
 base:Heap
 A:Around
 N:List Str
 s₀:Shared
 H₀:Hp
 env:Env
 outer:List Env
 stack:List Env
 ex:List Addr
 fn:Str → Bool
 calm:Bool
 pn:List (Addr × Obj)
 xe:Value → Shared → Prop
def frs (l:List Env):List Addr:=l.filterMap (·.frame)
abbrev Cx.fs (X:Cx):List Addr:=frs X.outer
def Vis (sc:Scope) (x:Str):Prop:=sc.names.lookup x = some .local ∨ sc.names.lookup x = some .cell ∨ sc.names.lookup x = some .free
def Loc (sc:Scope) (x:Str):Prop:=sc.names.lookup x = some .local ∨ sc.names.lookup x = some .cell
def rC (env:Env) (h:Heap) (m:Str → Option Value) (x:Str) (u:Value):Prop :=
 (env.kindOf x = some .local ∧ m x = some u) ∨ ((env.kindOf x = some .cell ∨ env.kindOf x = some .free) ∧ ∃ c,env.cells.lookup x = some c ∧ h.IsCell c (some u))
structure Cx.Ok (X:Cx):Prop where
 mod:Mod X.K X.mg X.base
 kind:X.env.scope.kind = .function
 glob:X.env.globals = mainGlobals
 blt:X.env.builtins = builtinsNs
 above:X.s₀.heap.objs.size ≤ X.env.locals
 inj:∀ x y c,X.env.cells.lookup x = some c → X.env.cells.lookup y = some c → x = y
 has:∀ x,(X.env.kindOf x = some .cell ∨ X.env.kindOf x = some .free) → ∃ c,X.env.cells.lookup x = some c
 cab:∀ x c,X.fn x = true → X.env.cells.lookup x = some c → X.s₀.heap.objs.size ≤ c
 hd:X.calm = true → X.A.handled = none
 frames:X.A.frames = some X.stack
 stk:X.stack = X.outer ∨ (X.stack = X.env :: X.outer ∧ X.env.frame = some X.env.locals)
 exf:∀ b ∈ X.ex,b ≠ X.env.locals ∧ ∀ x c,X.env.cells.lookup x = some c → c ≠ b
 bs:∀ b o,X.base.get? b = some o → X.s₀.heap.get? b = some o ∧ X.H₀ b = none
 bsz:X.base.objs.size ≤ X.s₀.heap.objs.size
 noex:∀ b o,X.base.get? b = some o → b ∉ X.ex
 exfs:∀ b ∈ X.ex,b ∉ X.fs
 funs:X.s₀.heap.FunFrames X.base X.outer
 frf:∀ b ∈ X.fs,X.H₀ b = none
structure Inv (X:Cx) (pins:List (Addr × Obj)) (σ:List (Option V)) (H:Hp) (s:Shared):Prop where
 ok:X.Ok
 os:s.os = X.s₀.os
 bare:AllBare s.gens
 base:Un X.fs X.ex X.H₀ H X.s₀.heap s.heap
 loc:∃ m,s.heap.Ns X.env.locals m ∧ ∀ (i:Nat) (x:Str) (v:V),X.N[i]? = some x → σ[i]? = some (some v) → Vis X.env.scope x → ∃ u,o9 v u ∧ rC X.env s.heap m x u
 cell:∀ x c,X.env.cells.lookup x = some c → ∃ v,s.heap.IsCell c v
 free:H X.env.locals = none
 freeC:∀ x c,X.env.cells.lookup x = some c → H c = none
 pin:∀ p ∈ X.pn ++ pins,s.heap.get? p.1 = some p.2 ∧ H p.1 = none ∧ p.1 ≠ X.env.locals ∧ p.1 ∉ X.fs ∧ ∀ v,p.2.data ≠ .cell v
 hok:HOk X.prog X.w H s.heap
 len:σ.length = X.N.length
section
variable {X:Cx} {pins:List (Addr × Obj)} {σ:List (Option V)} {H H':Hp} {s:Shared} {h':Heap}
theorem Cx.Ok.nofr (ok:X.Ok) {b:Addr} {o:Obj} (e:X.base.get? b = some o):b ∉ X.fs:=fun hb=>by
 have:=(ok.funs.mem hb).1
 rw [e] at this; cases this
theorem Inv.bs (I:Inv X pins σ H s):∀ b o,X.base.get? b = some o → s.heap.get? b = some o ∧ H b = none:=fun b o e =>
 ⟨I.base.keep b o (I.ok.bs b o e).1 (I.ok.bs b o e).2 (I.ok.nofr e) (I.ok.noex b o e),I.base.free b o (I.ok.bs b o e).1 (I.ok.bs b o e).2 (I.ok.noex b o e)⟩
theorem Inv.bk (I:Inv X pins σ H s):∀ b o,X.base.get? b = some o → s.heap.get? b = some o:=fun b o e=>(I.bs b o e).1
theorem Inv.mod (I:Inv X pins σ H s):Mod X.K X.mg X.base:=I.ok.mod
theorem Inv.kIn (I:Inv X pins σ H s):X.K.In s.heap:=I.ok.mod.kin.keeps I.bk
theorem Inv.lt (I:Inv X pins σ H s):X.env.locals < s.heap.objs.size:=let ⟨_,hn,_⟩:=I.loc; hn.lt
theorem Inv.sz (I:Inv X pins σ H s):X.s₀.heap.objs.size ≤ s.heap.objs.size:=Nat.le_trans I.ok.above (Nat.le_of_lt I.lt)
theorem Inv.nofs (I:Inv X pins σ H s) {a:Addr} (h:s.heap.objs.size ≤ a):a ∉ X.fs:=fun hb=>by
 obtain ⟨_,o,ho,_⟩:=I.ok.funs.mem hb
 exact absurd (Nat.lt_of_lt_of_le (Heap.lt_size ho) (Nat.le_trans I.sz h)) (Nat.lt_irrefl _)
theorem Inv.cne (I:Inv X pins σ H s):∀ x c,X.env.cells.lookup x = some c → c ≠ X.env.locals:=fun x c e z=>by
 obtain ⟨v,o,ho,hd⟩:=I.cell x c e
 obtain ⟨m,⟨o',es,ep,ho',hd',_⟩,_⟩:=I.loc
 rw [z,ho'] at ho; cases ho; rw [hd'] at hd; cases hd
theorem Inv.funs (I:Inv X pins σ H s):s.heap.FunFrames X.base X.outer:=by
 have all:∀ (l:List Env),(∀ b ∈ frs l,b ∈ X.fs) → X.s₀.heap.FunFrames X.base l → s.heap.FunFrames X.base l:=by
  intro l
  induction l with
  | nil=>intro _ _; trivial
  | cons env r ih =>
   intro hs hl
   obtain ⟨hk,⟨L,o,hf,hn,ho,hd⟩,hr⟩:=hl
   have hL:L ∈ X.fs:=hs L (by unfold frs; rw [List.filterMap_cons,hf]; exact List.mem_cons_self)
   obtain ⟨sl,e⟩:=I.base.slot L o ho (I.ok.frf L hL) hL fun z=>I.ok.exfs L z hL
   exact ⟨hk,⟨L,_,hf,hn,e,hd⟩,ih (fun b hb=>hs b (by unfold frs; rw [List.filterMap_cons,hf]; exact List.mem_cons_of_mem _ hb)) hr⟩
 exact all X.outer (fun _ hb=>hb) I.ok.funs
theorem Inv.stack (I:Inv X pins σ H s):s.heap.FunFrames X.base X.stack:=by
 rcases I.ok.stk with e | ⟨e,hf⟩
 ·rw [e]; exact I.funs
 ·rw [e]
  obtain ⟨m,hn,_⟩:=I.loc
  refine .cons (by rw [I.ok.kind]; decide) hf hn ?_ I.funs
  exact Heap.get?_none_of_le (Nat.le_trans I.ok.bsz I.ok.above)
theorem Inv.stkSub (I:Inv X pins σ H s):∀ b ∈ frs X.stack,b ∈ X.env.locals :: X.fs:=fun b hb=>by
 rcases I.ok.stk with e | ⟨e,hf⟩
 ·rw [e] at hb; exact List.mem_cons_of_mem _ hb
 ·rw [e] at hb
  unfold frs at hb
  rw [List.filterMap_cons,hf] at hb
  exact hb
theorem Inv.stkFree (I:Inv X pins σ H s):∀ b ∈ frs X.stack,H b = none:=fun b hb=>by
 rcases List.mem_cons.mp (I.stkSub b hb) with e | hb
 ·rw [e]; exact I.free
 ·obtain ⟨_,o,ho,_⟩:=I.ok.funs.mem hb
  exact I.base.free b o ho (I.ok.frf b hb) fun z=>I.ok.exfs b z hb
theorem Inv.step {g':Array GenState} {t':Nat} {d':Drawn} {ch:List Addr} (I:Inv X pins σ H s)
  (hch:∀ b ∈ ch,(b ∈ X.ex ∨ X.s₀.heap.objs.size ≤ b) ∧ b ≠ X.env.locals ∧ (∀ x c,X.env.cells.lookup x = some c → c ≠ b) ∧ ∀ p ∈ X.pn ++ pins,p.1 ≠ b)
  (keep:∀ b o,b ≠ X.env.locals → b ∉ X.fs → b ∉ ch → s.heap.get? b = some o → H b = none → h'.get? b = some o)
  (slot:∀ b o,b ≠ X.env.locals → b ∈ X.fs → b ∉ ch → s.heap.get? b = some o → H b = none → ∃ sl,h'.get? b = some { o with slots:=sl }) (free:∀ b o,b ∉ ch → s.heap.get? b = some o → H b = none → H' b = none)
  (there:∀ b o,b ∉ ch → s.heap.get? b = some o → ∃ o',h'.get? b = some o')
  (tups:∀ b xs,H b = some (.tup xs) → H' b = some (.tup xs)) (frzs:∀ b o u,H b = some (.frz o u) → H' b = some (.frz o u)) (tbls:∀ b ps,H b = some (.tbl ps) → ∃ more,H' b = some (.tbl (ps ++ more)))
  (ns:∀ m,s.heap.Ns X.env.locals m → h'.Ns X.env.locals m) (hok:HOk X.prog X.w H' h') (hg:AllBare g') :
  Inv X pins σ H' { s with heap:=h',gens:=g',drawn:=d',toks:=t' }:=by
 have neL:∀ b o,X.s₀.heap.get? b = some o → b ≠ X.env.locals:=fun b o e=>Nat.ne_of_lt (Nat.lt_of_lt_of_le (Heap.lt_size e) I.ok.above)
 have neC:∀ b o,X.s₀.heap.get? b = some o → b ∉ X.ex → b ∉ ch:=fun b o e hx hb=>by
  rcases (hch b hb).1 with z | z
  ·exact hx z
  ·exact absurd (Nat.lt_of_lt_of_le (Heap.lt_size e) z) (Nat.lt_irrefl _)
 have cellK:∀ x c,X.env.cells.lookup x = some c → ∀ v,s.heap.IsCell c v → h'.IsCell c v:=fun x c e v ⟨o,ho,hd⟩=>by
  have nch:c ∉ ch:=fun z=>(hch c z).2.2.1 x c e rfl
  by_cases hc:c ∈ X.fs
  ·obtain ⟨sl,q⟩:=slot c o (I.cne x c e) hc nch ho (I.freeC x c e)
   exact ⟨_,q,hd⟩
  ·exact ⟨o,keep c o (I.cne x c e) hc nch ho (I.freeC x c e),hd⟩
 refine ⟨I.ok,I.os,hg,⟨fun b o e n hb hx=>?_,fun b o e n hb hx=>?_,fun b o e n hx=>?_,fun b o e hx=>?_,fun b xs e=>tups b xs (I.base.tups b xs e),fun b o xs e=>frzs b o xs (I.base.frzs b o xs e),fun b ps e=>?_⟩,?_,fun x c e=>?_,?_,fun x c e=>?_,fun p hp=>?_,hok,I.len⟩
 ·exact keep b o (neL b o e) hb (neC b o e hx) (I.base.keep b o e n hb hx) (I.base.free b o e n hx)
 ·obtain ⟨sl,e1⟩:=I.base.slot b o e n hb hx
  obtain ⟨sl',e2⟩:=slot b _ (neL b o e) hb (neC b o e hx) e1 (I.base.free b o e n hx)
  exact ⟨sl',e2⟩
 ·obtain ⟨o',e1⟩:=I.base.there b o e hx
  exact free b o' (neC b o e hx) e1 (I.base.free b o e n hx)
 ·obtain ⟨o',e1⟩:=I.base.there b o e hx
  exact there b o' (neC b o e hx) e1
 ·obtain ⟨m1,e1⟩:=I.base.tbls b ps e
  obtain ⟨m2,e2⟩:=tbls b _ e1
  exact ⟨m1 ++ m2,by rw [e2,Array.append_assoc]⟩
 ·obtain ⟨m,hn,hl⟩:=I.loc
  refine ⟨m,ns m hn,fun i x v e1 e2 e3=>?_⟩
  obtain ⟨u,r,l⟩:=hl i x v e1 e2 e3
  refine ⟨u,r,?_⟩
  rcases l with l | ⟨k,c,e,z⟩
  ·exact .inl l
  ·exact .inr ⟨k,c,e,cellK x c e _ z⟩
 ·obtain ⟨v,z⟩:=I.cell x c e
  exact ⟨v,cellK x c e v z⟩
 ·obtain ⟨m,⟨o,_,_,ho,_⟩,_⟩:=I.loc
  exact free _ o (fun z=>(hch _ z).2.1 rfl) ho I.free
 ·obtain ⟨v,o,ho,hd⟩:=I.cell x c e
  exact free c o (fun z=>(hch c z).2.2.1 x c e rfl) ho (I.freeC x c e)
 ·obtain ⟨e,n,ne,nf,d⟩:=I.pin p hp
  have nch:p.1 ∉ ch:=fun z=>(hch p.1 z).2.2.2 p hp rfl
  exact ⟨keep p.1 p.2 ne nf nch e n,free p.1 p.2 nch e n,ne,nf,d⟩
theorem Inv.un {t':Nat} (I:Inv X pins σ H s) (u:Un X.fs [] H H' s.heap h') (hok:HOk X.prog X.w H' h'):Inv X pins σ H' { s with heap:=h',toks:=t' }:=by
 obtain ⟨m,⟨o,es,ep,ho,r⟩,_⟩:=id I.loc
 obtain ⟨sl,hL⟩:=u.any ho I.free (by simp)
 exact I.step (g':=s.gens) (d':=s.drawn) (ch:=[]) (fun _ z=>nomatch z) (fun b o _ hb _ e n=>u.keep b o e n hb (by simp)) (fun b o _ hb _ e n=>u.slot b o e n hb (by simp)) (fun b o _ e n=>u.free b o e n (by simp)) (fun b o _ e=>u.there b o e (by simp)) u.tups u.frzs u.tbls (fun m' hm=>by
  obtain ⟨o',es',ep',ho',r'⟩:=hm
  rw [ho] at ho'; cases ho'
  exact ⟨_,es',ep',hL,r'⟩) hok I.bare
theorem Inv.call {g':Array GenState} {t':Nat} {d':Drawn} {ch:List Addr} (I:Inv X pins σ H s) (u:Un (frs X.stack) ch H H' s.heap h') (hok:HOk X.prog X.w H' h') (hg:AllBare g')
  (hch:∀ b ∈ ch,(b ∈ X.ex ∨ X.s₀.heap.objs.size ≤ b) ∧ b ≠ X.env.locals ∧ (∀ x c,X.env.cells.lookup x = some c → c ≠ b) ∧ ∀ p ∈ X.pn ++ pins,p.1 ≠ b) :
  Inv X pins σ H' { s with heap:=h',gens:=g',drawn:=d',toks:=t' }:=by
 obtain ⟨m,⟨o,es,ep,ho,r⟩,_⟩:=id I.loc
 obtain ⟨sl,hL⟩:=u.any ho I.free fun z=>(hch _ z).2.1 rfl
 exact I.step (ch:=ch) hch (fun b o hL hb hc e n=>u.keep b o e n (fun z=>(List.mem_cons.mp (I.stkSub b z)).elim hL hb) hc) (fun b o _ _ hc e n=>u.any e n hc) (fun b o hc e n=>u.free b o e n hc) (fun b o hc e=>u.there b o e hc) u.tups u.frzs u.tbls (fun m' hm=>by
  obtain ⟨o',es',ep',ho',r'⟩:=hm
  rw [ho] at ho'; cases ho'
  exact ⟨_,es',ep',hL,r'⟩) hok hg
theorem Inv.turned {t':Nat} {it:Addr} (I:Inv X pins σ H s) (k:∀ b o,b ≠ it → s.heap.get? b = some o → h'.get? b = some o) (hn:H it = none) (hL:it ≠ X.env.locals)
  (h1:it ∈ X.ex ∨ X.s₀.heap.objs.size ≤ it) (h2:∀ x c,X.env.cells.lookup x = some c → c ≠ it) (h3:∀ p ∈ X.pn ++ pins,p.1 ≠ it):Inv X pins σ H { s with heap:=h',toks:=t' }:=by
 have nit:∀ b u,H b = some u → b ≠ it:=fun b u e z=>by rw [z,hn] at e; cases e
 refine I.step (g':=s.gens) (d':=s.drawn) (ch:=[it]) (fun b hb=>?_) (fun b o _ _ hc e _=>k b o (fun z=>hc (by simp [z])) e) (fun b o _ _ hc e _=>⟨o.slots,k b o (fun z=>hc (by simp [z])) e⟩) (fun _ _ _ _ n=>n)
  (fun b o hc e=>⟨o,k b o (fun z=>hc (by simp [z])) e⟩) (fun _ _ e=>e) (fun _ _ _ e=>e) (fun b ps e=>⟨#[],by rw [e]; simp⟩) (fun m hm=>?_) (fun b u e=>?_) I.bare
 ·have e:b = it:=by simpa using hb
  subst e
  exact ⟨h1,hL,h2,h3⟩
 ·obtain ⟨o,es,ep,ho,r⟩:=hm
  exact ⟨o,es,ep,k _ o (Ne.symm hL) ho,r⟩
 ·refine (I.hok b u e).stay (fun c v hc q=>k c v ?_ q) (fun _ q=>q) fun _ _ q=>q
  rcases hc with z | z
  ·rw [z]; exact nit b u e
  ·exact nit c _ z
theorem Inv.tok (I:Inv X pins σ H s) (t:Nat):Inv X pins σ H { s with toks:=t }:=I.un (h':=s.heap) (t':=t) Un.refl I.hok
theorem Inv.kept {t':Nat} (I:Inv X pins σ H s) (k:∀ b u,s.heap.get? b = some u → h'.get? b = some u):Inv X pins σ H { s with heap:=h',toks:=t' }:=I.un (Un.kept k) (I.hok.kept k)
theorem Inv.laid {a:Addr} {o:HO} {t':Nat} (I:Inv X pins σ H s) (k:∀ b u,s.heap.get? b = some u → h'.get? b = some u) (hp:s.heap.objs.size ≤ a) (new:p3 X.prog X.w (upd H a o) h' a o) :
  Inv X pins σ (upd H a o) { s with heap:=h',toks:=t' }:=I.un (Un.laid k hp (I.hok.fresh hp)) (I.hok.laid k hp new)
theorem Inv.write {x e:Addr} {o:HO} {t':Nat} (I:Inv X pins σ H s) (mu:Mut (H x)) (he:e = x ∨ H e = some (.own x)) (k:∀ b u,b ≠ e → s.heap.get? b = some u → h'.get? b = some u) (heo:∃ u,h'.get? e = some u)
  (new:p3 X.prog X.w (upd H x o) h' x o):Inv X pins σ (upd H x o) { s with heap:=h',toks:=t' }:=I.un (Un.write mu he k heo) (I.hok.write mu he k heo new)
theorem Inv.pins_of {pins':List (Addr × Obj)} (I:Inv X pins σ H s) (h:∀ p ∈ pins',s.heap.get? p.1 = some p.2 ∧ H p.1 = none ∧ p.1 ≠ X.env.locals ∧ p.1 ∉ X.fs ∧ ∀ v,p.2.data ≠ .cell v):Inv X pins' σ H s :=
 ⟨I.ok,I.os,I.bare,I.base,I.loc,I.cell,I.free,I.freeC,fun p hp=>(List.mem_append.mp hp).elim (fun z=>I.pin p (List.mem_append_left _ z)) (h p),I.hok,I.len⟩
theorem bx {N:List Str} (hN:N.Nodup) {i j:Nat} {x:Str} (a:N[i]? = some x) (b:N[j]? = some x):i = j:=by
 obtain ⟨h1,e1⟩:=List.getElem?_eq_some_iff.mp a
 obtain ⟨h2,e2⟩:=List.getElem?_eq_some_iff.mp b
 exact (List.getElem_inj hN).mp (e1.trans e2.symm)
theorem cM {M:Model} {A:Around} {E:Value → Shared → Prop} {i:Nat} {x:Str} {v:V} {u:Value} {Q:Unit → Shared → Prop} (I:Inv X pins σ H s) (hN:X.N.Nodup) (hi:X.N[i]? = some x) (hx:Loc X.env.scope x) (r:o9 v u)
  (h:∀ s',Inv X pins (σ.set i (some v)) H s' → (∃ a,Heap.SameBut a s.heap s'.heap ∧ (a = X.env.locals ∨ X.env.cells.lookup x = some a)) → Q () s') (hf:X.fn x = true ∨ X.env.scope.names.lookup x = some .local:=by first | exact .inl rfl | exact .inr rfl | assumption):wpAny M A (storeName X.env x u) Q E s:=by
 obtain ⟨m,hn,hl⟩:=id I.loc
 have hcls:(X.env.scope.kind == .class || (X.env.scope.kind == .module && X.env.locals != X.env.globals)) = false:=by rw [I.ok.kind]; rfl
 have hiσ:i < σ.length:=by rw [I.len]; exact (List.getElem?_eq_some_iff.mp hi).1
 have cne:=I.cne
 have tracked:∀ {a:Addr} {h':Heap},(∃ o,s.heap.get? a = some o ∧ H a = none) → Heap.SameBut a s.heap h' → HOk X.prog X.w H h':=fun {a h'} ha hs b ob e=>by
  obtain ⟨_,_,hfree⟩:=ha
  refine (I.hok b ob e).stay (fun c w' hc q=>(hs.2 c ?_).trans q) (fun _ q=>q) fun _ _ q=>q
  rintro rfl
  rcases hc with rfl | hc
  ·rw [hfree] at e; cases e
  ·rw [hfree] at hc; cases hc
 rcases hx with hk | hk
 ·refine wpAny_storeName_local hk hn (fun h' hn' hs=>?_) hcls
  obtain ⟨oL,_,_,hoL,_⟩:=id hn
  refine h _ ⟨I.ok,I.os,I.bare,⟨fun b o e n hb hx=>?_,fun b o e n hb hx=>?_,I.base.free,fun b o e hx=>?_,I.base.tups,I.base.frzs,I.base.tbls⟩,⟨_,hn',fun j y v' e1 e2 e3=>?_⟩,fun y c e=>?_,I.free,I.freeC,fun p hp=>?_,tracked ⟨oL,hoL,I.free⟩ hs,by simpa using I.len⟩ ⟨_,hs,.inl rfl⟩
  ·exact (hs.2 b (Nat.ne_of_lt (Nat.lt_of_lt_of_le (Heap.lt_size e) I.ok.above))).trans (I.base.keep b o e n hb hx)
  ·obtain ⟨sl,e1⟩:=I.base.slot b o e n hb hx
   exact ⟨sl,(hs.2 b (Nat.ne_of_lt (Nat.lt_of_lt_of_le (Heap.lt_size e) I.ok.above))).trans e1⟩
  ·obtain ⟨o',e1⟩:=I.base.there b o e hx
   exact ⟨o',(hs.2 b (Nat.ne_of_lt (Nat.lt_of_lt_of_le (Heap.lt_size e) I.ok.above))).trans e1⟩
  ·by_cases hj:j = i
   ·subst hj
    rw [hi] at e1; cases e1
    rw [List.getElem?_set_self hiσ] at e2
    cases e2
    exact ⟨u,r,.inl ⟨hk,by simp⟩⟩
   ·rw [List.getElem?_set_ne (Ne.symm hj)] at e2
    obtain ⟨u',r',q⟩:=hl j y v' e1 e2 e3
    refine ⟨u',r',?_⟩
    rcases q with ⟨k,e⟩ | ⟨k,c,e,z⟩
    ·refine .inl ⟨k,?_⟩
     have:y ≠ x:=fun e=>hj (bx hN e1 (e ▸ hi))
     simp [this,e]
    ·exact .inr ⟨k,c,e,z.sameBut hs (cne y c e)⟩
  ·obtain ⟨w',z⟩:=I.cell y c e
   exact ⟨w',z.sameBut hs (cne y c e)⟩
  ·obtain ⟨e,n,ne,nf,d⟩:=I.pin p hp
   exact ⟨(hs.2 p.1 ne).trans e,n,ne,nf,d⟩
 ·have hfn:X.fn x = true:=by
   rcases hf with z | z
   ·exact z
   ·rw [z] at hk; cases hk
  obtain ⟨c,hc⟩:=I.ok.has x (.inl hk)
  obtain ⟨w',z⟩:=I.cell x c hc
  refine wpAny_storeName_cell I.ok.kind hk hc z (fun h' hc' hs=>?_)
  obtain ⟨oc,hoc,hocd⟩:=id z
  refine h { s with heap:=h' } ⟨I.ok,I.os,I.bare,⟨fun b o e n hb hx=>?_,fun b o e n hb hx=>?_,I.base.free,fun b o e hx=>?_,I.base.tups,I.base.frzs,I.base.tbls⟩,⟨m,hn.sameBut hs (Ne.symm (cne x c hc)),fun j y v' e1 e2 e3=>?_⟩,fun y c' e=>?_,I.free,I.freeC,fun p hp=>?_,tracked ⟨oc,hoc,I.freeC x c hc⟩ hs,by simpa using I.len⟩ ⟨c,hs,.inr hc⟩
  ·exact (hs.2 b (Nat.ne_of_lt (Nat.lt_of_lt_of_le (Heap.lt_size e) (I.ok.cab x c hfn hc)))).trans (I.base.keep b o e n hb hx)
  ·obtain ⟨sl,e1⟩:=I.base.slot b o e n hb hx
   exact ⟨sl,(hs.2 b (Nat.ne_of_lt (Nat.lt_of_lt_of_le (Heap.lt_size e) (I.ok.cab x c hfn hc)))).trans e1⟩
  ·obtain ⟨o',e1⟩:=I.base.there b o e hx
   exact ⟨o',(hs.2 b (Nat.ne_of_lt (Nat.lt_of_lt_of_le (Heap.lt_size e) (I.ok.cab x c hfn hc)))).trans e1⟩
  ·by_cases hj:j = i
   ·subst hj
    rw [hi] at e1; cases e1
    rw [List.getElem?_set_self hiσ] at e2
    cases e2
    exact ⟨u,r,.inr ⟨.inl hk,c,hc,hc'⟩⟩
   ·rw [List.getElem?_set_ne (Ne.symm hj)] at e2
    obtain ⟨u',r',q⟩:=hl j y v' e1 e2 e3
    refine ⟨u',r',?_⟩
    rcases q with q | ⟨k,c',e,z'⟩
    ·exact .inl q
    ·refine .inr ⟨k,c',e,z'.sameBut hs ?_⟩
     rintro rfl
     exact hj (bx hN e1 (I.ok.inj _ _ _ e hc ▸ hi))
  ·by_cases hcc:c' = c
   ·subst hcc; exact ⟨_,hc'⟩
   ·obtain ⟨w2,z2⟩:=I.cell y c' e
    exact ⟨w2,z2.sameBut hs hcc⟩
  ·obtain ⟨e,n,ne,nf,d⟩:=I.pin p hp
   refine ⟨(hs.2 p.1 ?_).trans e,n,ne,nf,d⟩
   intro q
   rw [q,hoc] at e
   have q':oc = p.2:=Option.some.inj e
   exact d w' (by rw [← q']; exact hocd)
theorem X9 {M:Model} {A:Around} {E:Value → Shared → Prop} {i:Nat} {x:Str} {v:V} {u:Value} {Q:Unit → Shared → Prop} (I:Inv X pins σ H s) (hN:X.N.Nodup) (hi:X.N[i]? = some x) (hx:Loc X.env.scope x) (r:o9 v u)
  (h:∀ s',Inv X pins (σ.set i (some v)) H s' → Q () s') (hf:X.fn x = true ∨ X.env.scope.names.lookup x = some .local:=by first | exact .inl rfl | exact .inr rfl | assumption):wpAny M A (storeName X.env x u) Q E s :=
 cM I hN hi hx r (fun s' I' _=>h s' I') hf
theorem Inv.call' {s':Shared} {ch:List Addr} (I:Inv X pins σ H s) (ho:s'.os = s.os) (u:Un (frs X.stack) ch H H' s.heap s'.heap) (hok:HOk X.prog X.w H' s'.heap) (hg:AllBare s'.gens)
  (hch:∀ b ∈ ch,(b ∈ X.ex ∨ X.s₀.heap.objs.size ≤ b) ∧ b ≠ X.env.locals ∧ (∀ x c,X.env.cells.lookup x = some c → c ≠ b) ∧ ∀ p ∈ X.pn ++ pins,p.1 ≠ b):Inv X pins σ H' s':=by
 obtain ⟨h',g',d',t',o'⟩:=s'
 have e:o' = s.os:=ho
 subst e
 exact I.call (g':=g') (t':=t') (d':=d') u hok hg hch
end
abbrev XK:=Value → Option Addr → Hp → Prop
abbrev St:=List (Option V)
abbrev VK:=V → Hp → Prop
abbrev TE:=St → Hp → VK → Prop
abbrev TT:=St → Hp → (Bool → Hp → Prop) → Prop
abbrev TA:=St → Hp → (List V → Hp → Prop) → Prop
structure Y9 where
 nx:St → Hp → Prop
 rt:VK
 bk:St → Hp → Prop:=fun _ _=>False
 ct:St → Hp → Prop:=fun _ _=>False
abbrev TS:=Y9 → St → Hp → Prop
def EP (X:Cx) (pins:List (Addr × Obj)) (σ:St) (Q:VK) (u:Value) (s':Shared):Prop:=∃ v H',Inv X pins σ H' s' ∧ o9 v u ∧ Q v H'
def TP (X:Cx) (pins:List (Addr × Obj)) (σ:St) (Q:Bool → Hp → Prop) (b:Bool) (s':Shared):Prop:=∃ H',Inv X pins σ H' s' ∧ Q b H'
def AP (X:Cx) (pins:List (Addr × Obj)) (σ:St) (Q:List V → Hp → Prop) (us:List Value) (s':Shared):Prop:=∃ vs H',Inv X pins σ H' s' ∧ n6 vs us ∧ Q vs H'
def SP (X:Cx) (pins:List (Addr × Obj)) (D:Y9) (f:Flow) (s':Shared):Prop :=
 match f with
 | .next=>∃ σ' H',Inv X pins σ' H' s' ∧ D.nx σ' H'
 | .brk=>∃ σ' H',Inv X pins σ' H' s' ∧ D.bk σ' H'
 | .cont=>∃ σ' H',Inv X pins σ' H' s' ∧ D.ct σ' H'
 | .ret u=>∃ v σ' H',Inv X pins σ' H' s' ∧ o9 v u ∧ D.rt v H'
def PE (X:Cx) (e:Expr) (t:TE):Prop :=
 ∀ (pins:List (Addr × Obj)) (s:Shared) (σ:St) (H:Hp) (Q:VK),Inv X pins σ H s → t σ H Q → wpAny (model X.prog X.w) X.A (eval e X.env) (EP X pins σ Q) X.xe s
def PT (X:Cx) (e:Expr) (t:TT):Prop :=
 ∀ (pins:List (Addr × Obj)) (s:Shared) (σ:St) (H:Hp) (Q:Bool → Hp → Prop),Inv X pins σ H s → t σ H Q → wpAny (model X.prog X.w) X.A (isTrue e X.env (eval e X.env)) (TP X pins σ Q) X.xe s
def PW (X:Cx) (e:Expr) (t:TT):Prop :=
 ∀ (whole:Sem Value) (pins:List (Addr × Obj)) (s:Shared) (σ:St) (H:Hp) (Q:Bool → Hp → Prop),Inv X pins σ H s → t σ H Q → wpAny (model X.prog X.w) X.A (isTrue e X.env whole) (TP X pins σ Q) X.xe s
theorem PW.pt {X:Cx} {e:Expr} {t:TT} (h:PW X e t):PT X e t:=h _
def PA (X:Cx) (es:List Expr) (t:TA):Prop :=
 ∀ (pos:Pos) (pins:List (Addr × Obj)) (s:Shared) (σ:St) (H:Hp) (Q:List V → Hp → Prop),Inv X pins σ H s → t σ H Q → wpAny (model X.prog X.w) X.A (spliced (backTo pos (starEach es X.env))) (AP X pins σ Q) X.xe s
def PS (X:Cx) (st:Stmt) (t:TS):Prop :=
 ∀ (pins:List (Addr × Obj)) (s:Shared) (σ:St) (H:Hp) (D:Y9),Inv X pins σ H s → t D σ H → wpAny (model X.prog X.w) X.A (exec st X.env) (SP X pins D) X.xe s
def PSs (X:Cx) (st:List Stmt) (t:TS):Prop :=
 ∀ (pins:List (Addr × Obj)) (s:Shared) (σ:St) (H:Hp) (D:Y9),Inv X pins σ H s → t D σ H → wpAny (model X.prog X.w) X.A (execs st X.env) (SP X pins D) X.xe s
theorem thn {α:Type} {t:Sem α} {Q Q':α → Shared → Prop} {M:Model} {A:Around} {E:Value → Shared → Prop} {s:Shared} (h:wpAny M A t Q E s) (hQ:∀ a s,Q a s → Q' a s):wpAny M A t Q' E s:=wpAny_mono h hQ fun _ _ x=>x
end L2
namespace L2
open PySem PySem.Spec PyProof.Rows
section
variable {X:Cx}
theorem bin {a b:Expr} {ta tb:TE} (ha:PE X a ta) (hb:PE X b tb) {pins:List (Addr × Obj)} {s:Shared} {σ:St} {H:Hp} {R:V → V → Hp → Prop} (I:Inv X pins σ H s) (h:ta σ H fun x H1=>tb σ H1 fun y H2=>R x y H2)
  {α:Type} {Q:α → Shared → Prop} {f:Value → Value → Sem α}
  (hf:∀ v u s2 x y H2,Inv X pins σ H2 s2 → o9 x v → o9 y u → R x y H2 → wpAny (model X.prog X.w) X.A (f v u) Q X.xe s2) :
  wpAny (model X.prog X.w) X.A (eval a X.env) (fun v s₁=>wpAny (model X.prog X.w) X.A (eval b X.env) (fun u s₂=>wpAny (model X.prog X.w) X.A (f v u) Q X.xe s₂) X.xe s₁) X.xe s:=by
 refine thn (ha pins s σ H _ I h) fun v s1 ⟨x,H1,I1,r1,q1⟩=>?_
 refine thn (hb pins s1 σ H1 _ I1 q1) fun u s2 ⟨y,H2,I2,r2,q2⟩=>?_
 exact hf v u s2 x y H2 I2 r1 r2 q2
def gw (i:Nat):TE:=fun σ H Q=>∃ v,σ[i]? = some (some v) ∧ Q v H
def tC (v:V):TE:=fun _ H Q=>Q v H
theorem qd {i:Nat} {x:Str} {pos:Pos} (hN:X.N[i]? = some x) (hv:Vis X.env.scope x) (hd:(x == ("__debug__":Str)) = false:=by decide) (hcd:(x == ("__classdict__":Str)) = false:=by decide):PE X (.Name x pos) (gw i):=by
 intro pins s σ H Q I h
 obtain ⟨v,e,h⟩:=h
 obtain ⟨m,hn,hl⟩:=I.loc
 obtain ⟨u,r,l⟩:=hl i x v hN e hv
 have fin:EP X pins σ Q u s:=⟨v,H,I,r,h⟩
 rcases l with ⟨hk,hm⟩ | ⟨hk,c,hc,hcell⟩
 ·exact wpAny_Name (wpAny_loadName_local I.ok.kind hk hn hm fin) hd
 ·rcases hk with hk | hk
  ·exact wpAny_Name (wpAny_loadName_cell I.ok.kind hk hc hcell fin) hd
  ·exact wpAny_Name (wpAny_loadName_free I.ok.kind hk hc hcell fin hcd) hd
theorem b9 {i j pos}:PE X (.Constant (.int i) j pos) (tC (.int i)):=fun _ _ _ H _ I h=>wpAny_Constant_int ⟨.int i,H,I.tok _,⟨_,rfl⟩,h⟩
theorem A2 {b j pos}:PE X (.Constant (.bool b) j pos) (tC (.bl b)):=fun _ _ _ H _ I h=>Constant_bool ⟨.bl b,H,I,rfl,h⟩
theorem F9 {j pos}:PE X (.Constant .none j pos) (tC .non):=fun _ _ _ H _ I h=>Constant_none ⟨.non,H,I,rfl,h⟩
theorem M9 {x j pos}:PE X (.Constant (.str x) j pos) (tC (.str x)):=fun _ _ _ H _ I h=>Calls.Constant_str ⟨.str x,H,I.tok _,⟨_,rfl⟩,h⟩
def Gl (X:Cx) (x:Str):Prop:=X.env.kindOf x = some .globalImplicit
theorem Y1 {E:Value → Shared → Prop} {pins:List (Addr × Obj)} {s:Shared} {σ:St} {H:Hp} {x:Str} {u:Value} {pos:Pos} {Q:Value → Shared → Prop} (I:Inv X pins σ H s) (hg:Gl X x) (hm:X.mg x = some u) (h:Q u s)
  (hd:(x == ("__debug__":Str)) = false:=by decide):wpAny (model X.prog X.w) X.A (eval (.Name x pos) X.env) Q E s :=
 Calls.Name_function_global I.ok.kind hg (Calls.loadGlobal_global (by rw [I.ok.glob]; exact I.mod.glob.keeps I.bk) hm h) hd
theorem V6 {E:Value → Shared → Prop} {pins:List (Addr × Obj)} {s:Shared} {σ:St} {H:Hp} {x:Str} {u:Value} {pos:Pos} {Q:Value → Shared → Prop} (I:Inv X pins σ H s) (hg:Gl X x) (hm:X.mg x = none) (hv:bootBuiltins x = some u) (h:Q u s)
  (hn:x ≠ "__name__":=by decide) (hd:(x == ("__debug__":Str)) = false:=by decide):wpAny (model X.prog X.w) X.A (eval (.Name x pos) X.env) Q E s:=by
 obtain ⟨mb,h1,h2⟩:=I.mod.blt
 exact Calls.Name_function_global I.ok.kind hg (Calls.loadGlobal_builtin (by rw [I.ok.glob]; exact I.mod.glob.keeps I.bk) hm (by rw [I.ok.blt]; exact h1.keeps I.bk) ((h2 x hn).trans hv) h) hd
theorem dk {x:Str} {v:V} {u:Value} {pos:Pos} (hg:Gl X x) (hm:X.mg x = some u) (r:o9 v u) (hd:(x == ("__debug__":Str)) = false:=by decide):PE X (.Name x pos) (tC v) :=
 fun _ _ _ H _ I h=>Y1 I hg hm ⟨v,H,I,r,h⟩ hd
theorem I9 {x:Str} {v:V} {u:Value} {pos:Pos} (hg:Gl X x) (hm:X.mg x = none) (hv:bootBuiltins x = some u) (r:o9 v u) (hn:x ≠ "__name__":=by decide) (hd:(x == ("__debug__":Str)) = false:=by decide):PE X (.Name x pos) (tC v) :=
 fun _ _ _ H _ I h=>V6 I hg hm hv ⟨v,H,I,r,h⟩ hn hd
variable {a b:Expr} {ta tb:TE} {pos:Pos}
def PC (X:Cx) (op:CmpOp) (a b:Expr) (t:TE):Prop :=
 ∀ (pins:List (Addr × Obj)) (s:Shared) (σ:St) (H:Hp) (Q:VK),Inv X pins σ H s → t σ H Q →
  wpAny (model X.prog X.w) X.A (eval a X.env) (fun v s₁=>wpAny (model X.prog X.w) X.A (eval b X.env) (fun u s₂=>wpAny (model X.prog X.w) X.A (compareOp op v u) (EP X pins σ Q) X.xe s₂) X.xe s₁) X.xe s
def tB (t:TE):TT:=fun σ H Q=>t σ H fun x H1=>∃ c,x = .bl c ∧ Q c H1
theorem ba {op:CmpOp} {t:TE} (h:PC X op a b t) (h1:behindInMarks op b = false:=by first | exact nobehind _ (by decide) (by decide) | rfl):PT X (.Compare a [op] [b] pos) (tB t):=by
 intro pins s σ H Q I hw
 refine wpAny_isTrue_Compare1 (thn (h pins s σ H _ I hw) fun v s1 h1=>thn h1 fun u s2 h2=>thn h2 fun c s3 ⟨x,H1,I1,r1,q1⟩=>?_) h1
 obtain ⟨d,rfl,q⟩:=q1
 cases r1
 exact wpAny_truthy_bool ⟨H1,I1,q⟩
variable {tA tB':TT} {rest:List Expr}
def rD (t u:TT):TT:=fun σ H Q=>t σ H fun c H1=>if c = true then u σ H1 Q else Q false H1
def tOr (t u:TT):TT:=fun σ H Q=>t σ H fun c H1=>if c = true then Q true H1 else u σ H1 Q
def rN (t:TT):TT:=fun σ H Q=>t σ H fun c H1=>Q (!c) H1
theorem da (ha:PT X a tA):PW X (.BoolOp .And [a] pos) tA:=by
 intro wh pins s σ H Q I h
 refine isTrue_and (thn (ha pins s σ H Q I h) fun c s1 e=>?_)
 cases c with
 | true=>exact isTrue_and_nil e
 | false=>exact e
theorem K2 (ha:PT X a tA):PW X (.BoolOp .Or [a] pos) tA:=by
 intro wh pins s σ H Q I h
 refine isTrue_or (thn (ha pins s σ H Q I h) fun c s1 e=>?_)
 cases c with
 | false=>exact isTrue_or_nil e
 | true=>exact e
theorem gT (ha:PT X a tA) (hb:PW X (.BoolOp .And (b :: rest) pos) tB'):PW X (.BoolOp .And (a :: b :: rest) pos) (rD tA tB'):=by
 intro wh pins s σ H Q I h
 refine isTrue_and (thn (ha pins s σ H _ I h) fun c s1 ⟨H1,I1,q1⟩=>?_)
 cases c with
 | true=>exact hb wh pins s1 σ H1 Q I1 q1
 | false=>exact ⟨H1,I1,q1⟩
theorem C5 (ha:PT X a tA) (hb:PW X (.BoolOp .Or (b :: rest) pos) tB'):PW X (.BoolOp .Or (a :: b :: rest) pos) (tOr tA tB'):=by
 intro wh pins s σ H Q I h
 refine isTrue_or (thn (ha pins s σ H _ I h) fun c s1 ⟨H1,I1,q1⟩=>?_)
 cases c with
 | true=>exact ⟨H1,I1,q1⟩
 | false=>exact hb wh pins s1 σ H1 Q I1 q1
theorem A8 (ha:PT X a tA):PT X (.UnaryOp .Not a pos) (rN tA):=by
 intro pins s σ H Q I h
 exact isTrue_not (ha pins s σ H (fun c H1=>Q (!c) H1) I h)
def mf (ta tb:TE):TE:=fun σ H Q=>ta σ H fun x H1=>∃ c,x = .bl c ∧ if c = true then tb σ H1 Q else Q (.bl false) H1
def rV (ta tb:TE):TE:=fun σ H Q=>ta σ H fun x H1=>∃ c,x = .bl c ∧ if c = true then Q (.bl true) H1 else tb σ H1 Q
def qG (ta:TE):TE:=fun σ H Q=>ta σ H fun x H1=>∃ c,x = .bl c ∧ Q (.bl (!c)) H1
theorem Z5 {op} {t:TE} (h:PE X a t):PE X (.BoolOp op [a] pos) t:=fun pins s σ H Q I hw=>BoolOp_one (h pins s σ H Q I hw)
theorem Y8 (ha:PE X a ta) (hb:PE X (.BoolOp .And (b :: rest) pos) tb):PE X (.BoolOp .And (a :: b :: rest) pos) (mf ta tb):=by
 intro pins s σ H Q I h
 refine BoolOp_and (thn (ha pins s σ H _ I h) fun v s1 ⟨x,H1,I1,r1,q1⟩=>?_)
 obtain ⟨c,rfl,q1⟩:=q1
 cases r1
 refine wpAny_truthy_bool ?_
 cases c with
 | true=>exact hb pins s1 σ H1 Q I1 q1
 | false=>exact ⟨.bl false,H1,I1,rfl,q1⟩
theorem qX (ha:PE X a ta) (hb:PE X (.BoolOp .Or (b :: rest) pos) tb):PE X (.BoolOp .Or (a :: b :: rest) pos) (rV ta tb):=by
 intro pins s σ H Q I h
 refine BoolOp_or (thn (ha pins s σ H _ I h) fun v s1 ⟨x,H1,I1,r1,q1⟩=>?_)
 obtain ⟨c,rfl,q1⟩:=q1
 cases r1
 refine wpAny_truthy_bool ?_
 cases c with
 | false=>exact hb pins s1 σ H1 Q I1 q1
 | true=>exact ⟨.bl true,H1,I1,rfl,q1⟩
theorem kK (ha:PE X a ta):PE X (.UnaryOp .Not a pos) (qG ta):=by
 intro pins s σ H Q I h
 refine UnaryOp_ (thn (ha pins s σ H _ I h) fun v s1 ⟨x,H1,I1,r1,q1⟩=>?_)
 obtain ⟨c,rfl,q1⟩:=q1
 cases r1
 exact not_of (wpAny_truthy_bool ⟨.bl (!c),H1,I1,rfl,q1⟩)
def tIf (t:TT) (ta tb:TE):TE:=fun σ H Q=>t σ H fun c H1=>if c = true then ta σ H1 Q else tb σ H1 Q
theorem lS {c:Expr} (hc:PT X c tA) (ha:PE X a ta) (hb:PE X b tb):PE X (.IfExp c a b pos) (tIf tA ta tb):=by
 intro pins s σ H Q I h
 refine wpAny_IfExp (thn (hc pins s σ H _ I h) fun d s1 ⟨H1,I1,q1⟩=>?_)
 cases d with
 | true=>exact ha pins s1 σ H1 Q I1 q1
 | false=>exact hb pins s1 σ H1 Q I1 q1
end
end L2
namespace L2
open PySem PySem.Spec PyProof.Rows
def SqL (K:PySem.W.Frag) (H:Hp) (a:Addr) (xs:List V):Prop :=
 Rd H a (.lst xs) ∨
  ∃ (o:Obj) (its:Array Value) (n:Nat),K.lookup a = some o ∧ o.cls = .type "list" ∧ o.dict = none ∧ o.data = .seq its n ∧ its.size ≤ sizeLine ∧ n6 xs its.toList
def SqT (K:PySem.W.Frag) (H:Hp) (a:Addr) (xs:List V):Prop :=
 Rd H a (.tup xs) ∨
  ∃ (o:Obj) (its:Array Value) (n:Nat),K.lookup a = some o ∧ o.cls = .type "tuple" ∧ o.data = .seq its n ∧ its.size ≤ sizeLine ∧ n6 xs its.toList
def se:Value → Option V
 | .none=>some .non
 | .bool b=>some (.bl b)
 | .int i _=>some (.int i)
 | .str x _=>some (.str x)
 | .bytes b _=>some (.byt b)
 | .float b _=>some (.flt b)
 | .ref a=>some (.ref a)
 | .type n=>some (.ty n)
 | _=>none
theorem o9.abs {x:V} {u:Value} (r:o9 x u):se u = some x:=by
 cases x with
 | non=>cases r; rfl
 | bl _=>cases r; rfl
 | int _=>obtain ⟨t,rfl⟩:=r; rfl
 | str _=>obtain ⟨t,rfl⟩:=r; rfl
 | byt _=>obtain ⟨t,rfl⟩:=r; rfl
 | flt _=>obtain ⟨t,rfl⟩:=r; rfl
 | ref _=>cases r; rfl
 | ty _=>cases r; rfl
theorem o9.inj {x y:V} {u:Value} (r:o9 x u) (q:o9 y u):x = y:=Option.some.inj (r.abs.symm.trans q.abs)
theorem n6.inj:∀ {xs ys:List V} {us:List Value},n6 xs us → n6 ys us → xs = ys
 | _,_,_,.nil,.nil=>rfl
 | _,_,_,.cons r t,.cons r' t'=>by rw [r.inj r',n6.inj t t']
section
variable {X:Cx} {pins:List (Addr × Obj)} {σ:St} {H:Hp} {s:Shared} {a:Addr} {xs ys:List V}
theorem SqL.of {K:PySem.W.Frag} (h:H a = some (.lst xs)):SqL K H a xs:=.inl (.inl h)
theorem SqT.of {K:PySem.W.Frag} (h:H a = some (.tup xs)):SqT K H a xs:=.inl (.inl h)
theorem Inv.list (I:Inv X pins σ H s) (h:SqL X.K H a xs):∃ its:List Value,n6 xs its ∧ PlainL s.heap a its.toArray ∧ xs.length ≤ sizeLine:=by
 rcases h with h | ⟨o,its,n,hk,hc,hd,hs,hz,r⟩
 ·obtain ⟨z,its,n,r,e⟩:=h.ok I.hok
  exact ⟨its,r,⟨_,n,e,rfl,rfl,rfl⟩,z⟩
 ·refine ⟨its.toList,r,⟨o,n,I.kIn a o hk,hc,hd,by simpa using hs⟩,?_⟩
  have e:=r.length
  simp only [Array.length_toList] at e
  lia
theorem Inv.tuple (I:Inv X pins σ H s) (h:SqT X.K H a xs):∃ its:List Value,n6 xs its ∧ IsTup s.heap a its.toArray ∧ xs.length ≤ sizeLine:=by
 rcases h with h | ⟨o,its,n,hk,hc,hs,hz,r⟩
 ·obtain ⟨z,its,r,p⟩:=h.ok I.hok
  exact ⟨its,r,p,z⟩
 ·refine ⟨its.toList,r,⟨o,I.kIn a o hk,hc,n,by simpa using hs⟩,?_⟩
  have e:=r.length
  simp only [Array.length_toList] at e
  lia
theorem Inv.list_inj (I:Inv X pins σ H s) (h:SqL X.K H a xs) (h':SqL X.K H a ys):xs = ys:=by
 obtain ⟨its,r,⟨o,n,e,_,_,d⟩,_⟩:=I.list h
 obtain ⟨its',r',⟨o',n',e',_,_,d'⟩,_⟩:=I.list h'
 rw [e] at e'; cases e'
 rw [d] at d'
 injection d' with d1 _
 have:its = its':=by simpa using congrArg Array.toList d1
 subst this
 exact r.inj r'
theorem Inv.tuple_inj (I:Inv X pins σ H s) (h:SqT X.K H a xs) (h':SqT X.K H a ys):xs = ys:=by
 obtain ⟨its,r,⟨o,e,_,n,d⟩,_⟩:=I.tuple h
 obtain ⟨its',r',⟨o',e',_,n',d'⟩,_⟩:=I.tuple h'
 rw [e] at e'; cases e'
 rw [d] at d'
 injection d' with d1 _
 have:its = its':=by simpa using congrArg Array.toList d1
 subst this
 exact r.inj r'
end
abbrev Cx.wish (X:Cx) (E:Value → Shared → Prop):Cx:={ X with xe:=E }
abbrev Cx.nox (X:Cx):Cx:=X.wish fun _ _=>False
theorem Cx.Ok.wish {X:Cx} (ok:X.Ok) (E:Value → Shared → Prop):(X.wish E).Ok :=
 ⟨ok.mod,ok.kind,ok.glob,ok.blt,ok.above,ok.inj,ok.has,ok.cab,ok.hd,ok.frames,ok.stk,ok.exf,ok.bs,ok.bsz,ok.noex,ok.exfs,ok.funs,ok.frf⟩
theorem Cx.Ok.unwish {X:Cx} {E:Value → Shared → Prop} (ok:(X.wish E).Ok):X.Ok :=
 ⟨ok.mod,ok.kind,ok.glob,ok.blt,ok.above,ok.inj,ok.has,ok.cab,ok.hd,ok.frames,ok.stk,ok.exf,ok.bs,ok.bsz,ok.noex,ok.exfs,ok.funs,ok.frf⟩
section
variable {X:Cx} {pins:List (Addr × Obj)} {σ:St} {H:Hp} {s:Shared} {E:Value → Shared → Prop}
theorem Inv.wish (I:Inv X pins σ H s) (E:Value → Shared → Prop):Inv (X.wish E) pins σ H s:=⟨I.ok.wish E,I.os,I.bare,I.base,I.loc,I.cell,I.free,I.freeC,I.pin,I.hok,I.len⟩
theorem Inv.unwish (I:Inv (X.wish E) pins σ H s):Inv X pins σ H s:=⟨I.ok.unwish,I.os,I.bare,I.base,I.loc,I.cell,I.free,I.freeC,I.pin,I.hok,I.len⟩
theorem SP.unwish {D:Y9} {f:Flow} {s':Shared} (h:SP (X.wish E) pins D f s'):SP X pins D f s':=by
 cases f with
 | next=>obtain ⟨σ',H',I,q⟩:=h; exact ⟨σ',H',I.unwish,q⟩
 | brk=>obtain ⟨σ',H',I,q⟩:=h; exact ⟨σ',H',I.unwish,q⟩
 | cont=>obtain ⟨σ',H',I,q⟩:=h; exact ⟨σ',H',I.unwish,q⟩
 | ret u=>obtain ⟨v,σ',H',I,r,q⟩:=h; exact ⟨v,σ',H',I.unwish,r,q⟩
theorem PSs.nox {st:List Stmt} {t:TS} (h:PSs X.nox st t):PSs X st t:=fun pins s σ H D I hw =>
 wpAny_mono (h pins s σ H D (I.wish _) hw) (fun _ _ q=>q.unwish) fun _ _ z=>False.elim z
end
section
variable {X:Cx} {st:Stmt} {rest:List Stmt} {t u:TS} {e:Expr} {te:TE} {pos:Pos}
def q9:TS:=fun D σ H=>D.nx σ H
def mh (t u:TS):TS:=fun D σ H=>t { D with nx:=u D } σ H
theorem j9:PSs X [] q9:=fun _ _ σ H _ I h=>wpAny_execs_nil ⟨σ,H,I,h⟩
theorem d5 (h1:PS X st t) (h2:PSs X rest u):PSs X (st :: rest) (mh t u):=by
 intro pins s σ H D I h
 refine wpAny_execs_cons (thn (h1 pins s σ H { D with nx:=u D } I h) fun f s1 q=>?_)
 cases f with
 | next =>
  obtain ⟨σ',H',I',q⟩:=q
  exact h2 pins s1 σ' H' D I' q
 | ret v=>exact q
 | brk=>exact q
 | cont=>exact q
theorem d9 (h1:PS X st t):PSs X [st] t:=by
 intro pins s σ H D I h
 refine wpAny_execs_cons (thn (h1 pins s σ H D I h) fun f s1 q=>?_)
 cases f with
 | next=>exact wpAny_execs_nil q
 | ret v=>exact q
 | brk=>exact q
 | cont=>exact q
theorem Inv.quiet {pins:List (Addr × Obj)} {σ:St} {H:Hp} {s:Shared} (I:Inv X pins σ H s):interactive X.env = false:=by simp [interactive,I.ok.kind]
def qM (te:TE):TS:=fun D σ H=>te σ H fun _ H1=>D.nx σ H1
theorem y6 (he:PE X e te) (hs:swapsWith e none pos.line X.env = pure false:=by rfl):PS X (.Expr e pos) (qM te):=by
 intro pins s σ H D I h
 exact wpAny_Expr_any (thn (he pins s σ H _ I h) fun v s1 ⟨x,H1,I1,r1,q1⟩=>⟨σ,H1,I1,q1⟩) I.quiet hs
def qC (te:TE):TS:=fun D σ H=>te σ H D.rt
theorem i9 (he:PE X e te):PS X (.Return (some e) pos) (qC te):=by
 intro pins s σ H D I h
 exact wpAny_Return_some (thn (he pins s σ H _ I h) fun v s1 ⟨x,H1,I1,r1,q1⟩=>⟨x,σ,H1,I1,r1,q1⟩)
def rQ (c:TT) (t u:TS):TS:=fun D σ H=>c σ H fun b H1=>if b = true then t D σ H1 else u D σ H1
theorem p4 {c:Expr} {a b:List Stmt} {tc:TT} (hc:PT X c tc) (ha:PSs X a t) (hb:PSs X b u):PS X (.If c a b pos) (rQ tc t u):=by
 intro pins s σ H D I h
 refine wpAny_If (thn (hc pins s σ H _ I h) fun d s1 ⟨H1,I1,q1⟩=>?_)
 cases d with
 | true=>exact ha pins s1 σ H1 D I1 q1
 | false=>exact hb pins s1 σ H1 D I1 q1
def pS:TS:=fun _ _ _=>False
theorem eY:PS X st pS:=fun _ _ _ _ _ _ h=>h.elim
end
abbrev TG:=V → St → Hp → (St → Hp → Prop) → Prop
abbrev TGs:=List V → St → Hp → (St → Hp → Prop) → Prop
def PG (X:Cx) (target:Expr) (t:TG):Prop :=
 ∀ (pins:List (Addr × Obj)) (s:Shared) (σ:St) (H:Hp) (v:V) (u:Value) (Q:St → Hp → Prop),Inv X pins σ H s → o9 v u → t v σ H Q →
  wpAny (model X.prog X.w) X.A (assign target X.env u) (fun _ s'=>∃ σ' H',Inv X pins σ' H' s' ∧ Q σ' H') X.xe s
def PGs (X:Cx) (ts:List Expr) (t:TGs):Prop :=
 ∀ (pins:List (Addr × Obj)) (s:Shared) (σ:St) (H:Hp) (vs:List V) (us:List Value) (Q:St → Hp → Prop),Inv X pins σ H s → n6 vs us → t vs σ H Q →
  wpAny (model X.prog X.w) X.A (assignInOrder ((assignEach ts X.env).map (·.2)) us) (fun _ s'=>∃ σ' H',Inv X pins σ' H' s' ∧ Q σ' H') X.xe s
abbrev qg:=V → V → V → Hp → (Hp → Prop) → Prop
def qm (X:Cx) (t:qg):Prop :=
 ∀ (pins:List (Addr × Obj)) (s:Shared) (σ:St) (H:Hp) (o i v:V) (ov iv u:Value) (Q:Hp → Prop),Inv X pins σ H s → o9 o ov → o9 i iv → o9 v u → t o i v H Q →
  wpAny (model X.prog X.w) X.A (setItem ov iv u) (fun _ s'=>∃ H',Inv X pins σ H' s' ∧ Q H') X.xe s
abbrev TIp:=V → V → Hp → VK → Prop
def PIp (X:Cx) (op:Operator) (t:TIp):Prop :=
 ∀ (pins:List (Addr × Obj)) (s:Shared) (σ:St) (H:Hp) (x y:V) (v u:Value) (Q:VK),Inv X pins σ H s → o9 x v → o9 y u → t x y H Q →
  wpAny (model X.prog X.w) X.A (inplaceOp op v u) (EP X pins σ Q) X.xe s
section
variable {X:Cx} {pos:Pos}
def o8 (i:Nat):TG:=fun v σ H Q=>Q (σ.set i (some v)) H
theorem m6 {i:Nat} {x:Str} (hN:X.N.Nodup) (hi:X.N[i]? = some x) (hx:Loc X.env.scope x) (hf:X.fn x = true ∨ X.env.scope.names.lookup x = some .local:=by first | exact .inl rfl | exact .inr rfl | assumption):PG X (.Name x pos) (o8 i):=by
 intro pins s σ H v u Q I r h
 exact wpAny_assign_Name (X9 I hN hi hx r (fun s' I'=>⟨_,H,I',h⟩) hf)
def pQ:TGs:=fun vs σ H Q=>vs = [] ∧ Q σ H
def dR (t:TG) (u:TGs):TGs:=fun vs σ H Q=>∃ v r,vs = v :: r ∧ t v σ H fun σ' H'=>u r σ' H' Q
theorem og:PGs X [] pQ:=by
 intro pins s σ H vs us Q I r h
 obtain ⟨e,h⟩:=h
 subst e
 cases r
 exact assignInOrder_nil ⟨σ,H,I,h⟩
theorem fC {e:Expr} {es:List Expr} {t:TG} {u:TGs} (h1:PG X e t) (h2:PGs X es u)
  (hs:(assignEach (e :: es) X.env).map (·.2) = assign e X.env :: (assignEach es X.env).map (·.2):=by rfl):PGs X (e :: es) (dR t u):=by
 intro pins s σ H vs us Q I r h
 obtain ⟨v,vr,e1,h⟩:=h
 subst e1
 cases r with
 | cons r rr =>
  rw [hs]
  refine assignInOrder_cons (thn (h1 pins s σ H _ _ _ I r h) fun _ s1 ⟨σ1,H1,I1,q1⟩=>?_)
  exact h2 pins s1 σ1 H1 _ _ Q I1 rr q1
def qp (K:PySem.W.Frag) (n:Nat) (t:TGs):TG:=fun v σ H Q=>∃ a xs,v = .ref a ∧ SqT K H a xs ∧ xs.length = n ∧ t xs σ H Q
theorem qr {es:List Expr} {k:Nat} {t:TGs} {n:Nat} (hc:X.calm = true) (h:PGs X es t)
  (hn:(assignEach es X.env).length = n:=by rfl) (hst:(assignEach es X.env).findIdx? (·.1) = none:=by rfl):PG X (.Tuple es k pos) (qp X.K n t):=by
 intro pins s σ H v u Q I r hw
 obtain ⟨a,xs,e1,hq,hl,hw⟩:=hw
 subst e1
 cases r
 obtain ⟨its,rv,ht,hz⟩:=I.tuple hq
 refine assign_Tuple_tuple (I.ok.hd hc) ht (by simp [hn,← hl,rv.length]) hst fun h' hx=>?_
 have I1:Inv X pins σ H { s with heap:=h' }:=I.kept (t':=s.toks) fun b o e=>hx b o (Nat.ne_of_lt (Heap.lt_size e)) e
 exact h pins _ σ H xs _ Q I1 (by simpa using rv) hw
def rK (to ti:TE) (t:qg):TG:=fun v σ H Q=>to σ H fun o H1=>ti σ H1 fun i H2=>t o i v H2 fun H3=>Q σ H3
theorem fZ {o i:Expr} {to ti:TE} {t:qg} (ho:PE X o to) (hi:PE X i ti) (hs:qm X t)
  (ha:∀ v,assign (.Subscript o i pos) X.env v = (do
   let ov ← holding [v] (eval o X.env)
   let iv ← holding [v,ov] (eval i X.env)
   standAt pos
   holding [v,ov,iv] (setItem ov iv v)
   release [v,ov,iv] []):=by intro _; rfl):PG X (.Subscript o i pos) (rK to ti t):=by
 intro pins s σ H v u Q I r h
 rw [ha]
 refine wpAny_bind (wpAny_holding (thn (ho pins s σ H _ I h) fun ov s1 ⟨x,H1,I1,r1,q1⟩=>?_))
 refine wpAny_bind (wpAny_holding (thn (hi pins s1 σ H1 _ I1 q1) fun iv s2 ⟨y,H2,I2,r2,q2⟩=>?_))
 refine wpAny_bind (wpAny_standAt (wpAny_bind (wpAny_holding (thn (hs pins s2 σ H2 x y v ov iv u _ I2 r1 r2 r q2) fun _ s3 ⟨H3,I3,q3⟩=>?_))))
 exact wpAny_release ⟨σ,H3,I3,q3⟩
def qt (te:TE) (g:TG):TS:=fun D σ H=>te σ H fun x H1=>g x σ H1 D.nx
theorem gU {tg e:Expr} {te:TE} {g:TG} (he:PE X e te) (hg:PG X tg g) (hs:swapsWithSole [tg] e pos.line X.env = pure false:=by rfl) (hw:swappedStores [tg] e X.env = pure none:=by rfl)
  (h1:(assignEach [tg] X.env).map (·.2) = [assign tg X.env]:=by rfl):PS X (.Assign [tg] e pos) (qt te g):=by
 intro pins s σ H D I h
 refine wpAny_Assign_stores (thn (he pins s σ H _ I h) fun v s1 ⟨x,H1,I1,r1,q1⟩=>?_) hs hw
 rw [h1]
 exact thn (hg pins s1 σ H1 x v _ I1 r1 q1) fun _ s2 q=>q
theorem i6 {i:Nat} {x:Str} {e:Expr} {te:TE} {pos':Pos} (hN:X.N.Nodup) (hi:X.N[i]? = some x) (hx:Loc X.env.scope x) (he:PE X e te) (hs:swapsWith e (some (.Name x pos')) pos.line X.env = pure false:=by rfl) (hf:X.fn x = true ∨ X.env.scope.names.lookup x = some .local:=by first | exact .inl rfl | exact .inr rfl | assumption) :
  PS X (.Assign [.Name x pos'] e pos) (qt te (o8 i)):=by
 intro pins s σ H D I h
 refine wpAny_Assign_Name (thn (he pins s σ H _ I h) fun v s1 ⟨y,H1,I1,r1,q1⟩=>?_) hs
 exact X9 I1 hN hi hx r1 (fun s2 I2=>⟨_,H1,I2,q1⟩) hf
def rZ (i:Nat) (te:TE) (ti:TIp):TS:=fun D σ H=>∃ x,σ[i]? = some (some x) ∧ te σ H fun y H1=>ti x y H1 fun z H2=>D.nx (σ.set i (some z)) H2
theorem qy {i:Nat} {x:Str} {e:Expr} {te:TE} {op:Operator} {ti:TIp} {pos':Pos} (hN:X.N.Nodup) (hi:X.N[i]? = some x) (hx:Loc X.env.scope x) (he:PE X e te) (ho:PIp X op ti) (hf:X.fn x = true ∨ X.env.scope.names.lookup x = some .local:=by first | exact .inl rfl | exact .inr rfl | assumption) :
  PS X (.AugAssign (.Name x pos') op e pos) (rZ i te ti):=by
 intro pins s σ H D I h
 obtain ⟨v,e1,h⟩:=h
 obtain ⟨m,hn,hl⟩:=I.loc
 have vis:Vis X.env.scope x:=by rcases hx with k | k; exact .inl k; exact .inr (.inl k)
 obtain ⟨u,r,l⟩:=hl i x v hi e1 vis
 refine wpAny_AugAssign_Name ?_
 have go:wpAny (model X.prog X.w) X.A (eval e X.env) (fun w s₂=>wpAny (model X.prog X.w) X.A (inplaceOp op u w) (fun r s₃=>wpAny (model X.prog X.w) X.A (storeName X.env x r) (fun _=>SP X pins D .next) X.xe s₃) X.xe s₂) X.xe s:=by
  refine thn (he pins s σ H _ I h) fun w s1 ⟨y,H1,I1,r1,q1⟩=>?_
  refine thn (ho pins s1 σ H1 v y u w _ I1 r r1 q1) fun z s2 ⟨zv,H2,I2,r2,q2⟩=>?_
  exact X9 I2 hN hi hx r2 (fun s3 I3=>⟨_,H2,I3,q2⟩) hf
 rcases l with ⟨hk,hm⟩ | ⟨hk,c,hc,hcell⟩
 ·exact wpAny_loadName_local I.ok.kind hk hn hm go
 ·rcases hk with hk | hk
  ·exact wpAny_loadName_cell I.ok.kind hk hc hcell go
  ·rcases hx with k | k
   ·have:X.env.scope.names.lookup x = some .free:=hk
    rw [k] at this; cases this
   ·have:X.env.scope.names.lookup x = some .free:=hk
    rw [k] at this; cases this
end
section
variable {X:Cx} {pos:Pos}
def pB (c:TT) (tb:TS):TS:=fun D σ H=>∃ W:Nat → St → Hp → Prop,(∃ m,W m σ H) ∧ ∀ m σ H,W m σ H →
 c σ H fun b H1=>if b = true then ∃ N:St → Hp → Prop,(∀ σ' H',N σ' H' → ∃ m',m' < m ∧ W m' σ' H') ∧ tb { D with nx:=N,ct:=N,bk:=D.nx } σ H1 else D.nx σ H1
theorem bg {c:Expr} {body:List Stmt} {tc:TT} {tb:TS} (hp:PassesOwn (model X.prog X.w) X.A X.env X.xe) (hc:PT X c tc) (hb:PSs X body tb):PS X (.While c body [] pos) (pB tc tb):=by
 intro pins s σ H D I h
 obtain ⟨W,⟨m0,w0⟩,turn⟩:=h
 refine wpAny_While (codeAny_whileLoop (fun n s'=>∃ σ' H',Inv X pins σ' H' s' ∧ W n σ' H') ?_ m0 ⟨σ,H,I,w0⟩)
 rintro n s1 ⟨σ1,H1,I1,w1⟩
 refine wpAny_passesOwn hp (thn (hc pins s1 σ1 H1 _ I1 (turn n σ1 H1 w1)) fun b s2 ⟨H2,I2,q2⟩=>?_)
 cases b with
 | true =>
  obtain ⟨N,hN,q2⟩:=q2
  rw [if_pos rfl]
  refine wpAny_passesOwn hp (thn (hb pins s2 σ1 H2 _ I2 q2) fun f s3 q3=>?_)
  cases f with
  | next =>
   obtain ⟨σ3,H3,I3,n3⟩:=q3
   obtain ⟨m',hm,w3⟩:=hN σ3 H3 n3
   exact ⟨m',hm,σ3,H3,I3,w3⟩
  | cont =>
   obtain ⟨σ3,H3,I3,n3⟩:=q3
   obtain ⟨m',hm,w3⟩:=hN σ3 H3 n3
   exact ⟨m',hm,σ3,H3,I3,w3⟩
  | brk=>exact q3
  | ret v=>exact q3
 | false =>
  rw [if_neg Bool.false_ne_true]
  exact wpAny_execs_nil ⟨σ1,H2,I2,q2⟩
end
structure It where
 go:Nat → Hp → Prop
 yld:Nat → Hp → V → Hp → Prop
 stop:Nat → Hp → Prop
def az (X:Cx) (pins:List (Addr × Obj)) (H:Hp) (b:Addr):Prop :=
 H b = none ∧ b ≠ X.env.locals ∧ b ∉ X.fs ∧ (b ∈ X.ex ∨ X.s₀.heap.objs.size ≤ b) ∧ (∀ x c,X.env.cells.lookup x = some c → c ≠ b) ∧ ∀ p ∈ X.pn ++ pins,p.1 ≠ b
theorem Inv.fpOk {X:Cx} {pins:List (Addr × Obj)} {σ:St} {H H':Hp} {s:Shared} {b:Addr} (I:Inv X pins σ H s) (hb:s.heap.objs.size ≤ b) (hn:H' b = none):az X pins H' b:=by
 refine ⟨hn,Nat.ne_of_gt (Nat.lt_of_lt_of_le I.lt hb),I.nofs hb,.inr (Nat.le_trans I.sz hb),fun x c e z=>?_,fun p hp z=>?_⟩
 ·obtain ⟨v,q⟩:=I.cell x c e
  exact absurd (Nat.lt_of_lt_of_le q.lt (by rw [z]; exact hb)) (Nat.lt_irrefl _)
 ·exact absurd (Nat.lt_of_lt_of_le (Heap.lt_size (I.pin p hp).1) (by rw [z]; exact hb)) (Nat.lt_irrefl _)
structure gK (P:Program) (w:World) (K:PySem.W.Frag) (tg:Expr) (J:It) (fp:List Addr) (it:Addr) (tn:Nat → Heap → Prop):Prop where
 mem:it ∈ fp
 obj:∀ i h,tn i h → ∀ b ∈ fp,∃ o,h.get? b = some o ∧ ∀ v,o.data ≠ .cell v
 keep:∀ i h h',tn i h → (∀ b ∈ fp,∀ o,h.get? b = some o → h'.get? b = some o) → tn i h'
 item:∀ (X:Cx),X.prog = P → X.w = w → X.K = K → X.calm = true → ∀ (i:Nat) (pins:List (Addr × Obj)) (s:Shared) (σ:St) (H:Hp) (E:Value → Shared → Prop),Inv X pins σ H s → (∀ b ∈ fp,az X pins H b) → tn i s.heap → J.go i H →
  wpAny (model P w) X.A (pyNext (.ref it)) (fun r s1=>∃ u,r = some u ∧
   wpAny (model P w) X.A (letOwnedTupleGo tg (.ref it) u) (fun _ s2=>∃ x H',Inv X pins σ H' s2 ∧ o9 x u ∧ J.yld i H x H' ∧ tn (i + 1) s2.heap ∧ ∀ b ∈ fp,H' b = none) E s1) E s
 done:∀ (X:Cx),X.prog = P → X.w = w → X.K = K → X.calm = true → ∀ (i:Nat) (pins:List (Addr × Obj)) (s:Shared) (σ:St) (H:Hp) (E:Value → Shared → Prop),Inv X pins σ H s → (∀ b ∈ fp,az X pins H b) → tn i s.heap → J.stop i H →
  wpAny (model P w) X.A (pyNext (.ref it)) (fun r s1=>r = none ∧ Inv X pins σ H s1) E s
 self:∀ (A:Around) (i:Nat) (s:Shared) (Q:Value → Shared → Prop) (E:Value → Shared → Prop),tn i s.heap → Q (.ref it) s → wpAny (model P w) A (pyIter (.ref it)) Q E s
abbrev TI:=St → Hp → (It → Hp → Prop) → Prop
def PIE (X:Cx) (pins:List (Addr × Obj)) (σ:St) (tg:Expr) (R:It → Hp → Prop) (itv:Value) (s2:Shared):Prop :=
 ∃ (it:Addr) (fp:List Addr) (tn:Nat → Heap → Prop) (J:It) (H':Hp),itv = .ref it ∧ Inv X pins σ H' s2 ∧ gK X.prog X.w X.K tg J fp it tn ∧ tn 0 s2.heap ∧ (∀ b ∈ fp,az X pins H' b) ∧ R J H'
def PI (X:Cx) (tg iter:Expr) (wi:TI):Prop :=
 ∀ (pins:List (Addr × Obj)) (s:Shared) (σ:St) (H:Hp) (R:It → Hp → Prop),Inv X pins σ H s → wi σ H R →
  wpAny (model X.prog X.w) X.A (eval iter X.env) (fun v s1=>wpAny (model X.prog X.w) X.A (pyIter v) (PIE X pins σ tg R) X.xe s1) X.xe s
theorem kY {M:Model} {A:Around} {E:Value → Shared → Prop} {s:Shared} {tg:Expr} {it:Addr} {u:Value} {o:Obj} {n:String} {vs:Array Value} {Q:Unit → Shared → Prop} (ho:s.heap.get? it = some o) (hc:o.cls = .type n) (hd:o.data = .fields vs)
    (hn:["enumerate","zip","dict_itemiterator","dict_reverseitemiterator","odict_iterator","itertools.zip_longest","itertools.pairwise"].contains n = false) (hQ:Q () s):wpAny M A (letOwnedTupleGo tg (.ref it) u) Q E s:=by
  unfold letOwnedTupleGo
  cases tg <;> first
    | exact wpAny_pure hQ
    | (cases u <;> first
        | exact wpAny_pure hQ
        | (refine wpAny_bind (wpAny_load ho ?_)
           rw [hc,hd]
           show wpAny M A (if (["enumerate","zip","dict_itemiterator","dict_reverseitemiterator","odict_iterator","itertools.zip_longest","itertools.pairwise"].contains n && vs[0]? == some (rawInt _)) = true then _ else _) Q E s
           rw [if_neg (by intro h; rw [hn,Bool.false_and] at h; cases h)]
           exact wpAny_pure hQ))
def Itl (K:PySem.W.Frag) (a:Addr):It :=
 ⟨fun i H=>∃ xs x,SqL K H a xs ∧ xs[i]? = some x,fun i H x H'=>H' = H ∧ ∀ xs,SqL K H a xs → xs[i]? = some x,fun i H=>∃ xs,SqL K H a xs ∧ xs.length ≤ i⟩
def Itt (K:PySem.W.Frag) (a:Addr):It :=
 ⟨fun i H=>∃ xs x,SqT K H a xs ∧ xs[i]? = some x,fun i H x H'=>H' = H ∧ ∀ xs,SqT K H a xs → xs[i]? = some x,fun i H=>∃ xs,SqT K H a xs ∧ xs.length ≤ i⟩
def Itr (lo:Int) (n:Nat):It:=⟨fun i _=>i < n,fun i H x H'=>H' = H ∧ x = .int (lo + i),fun i _=>n ≤ i⟩
theorem jq {P:Program} {w:World} {K:PySem.W.Frag} {tg:Expr} (a it:Addr):gK P w K tg (Itl K a) [it] it (fun i h=>h.IsListIter it a i) where
 mem:=by simp
 obj:=fun i h st b hb=>by
  have e:b = it:=by simpa using hb
  subst e
  obtain ⟨o,e,c,d⟩:=st
  exact ⟨o,e,fun v z=>by rw [d] at z; cases z⟩
 keep:=fun i h h' st k=>st.at fun o e=>k it (by simp) o e
 item:=by
  intro X hP hw hK hc i pins s σ H E I hf st hg
  subst hP hw hK
  obtain ⟨xs,x,hq,hx⟩:=hg
  obtain ⟨its,rv,p,hz⟩:=I.list hq
  obtain ⟨u,hu,ru⟩:=rv.get hx
  obtain ⟨f0,f1,f2,f3,f4,f5⟩:=hf it (by simp)
  refine wpAny_pyNext_list_item st p.isList (x:=u) (by simpa using hu) fun h' st' sb=>?_
  have I1:Inv X pins σ H { s with heap:=h' }:=I.turned (t':=s.toks) (fun b o hb e=>(sb.2 b hb).trans e) f0 f1 f3 f4 f5
  obtain ⟨o,e,c,d⟩:=id st'
  exact ⟨u,rfl,kY (s:={ s with heap:=h' }) e c d (by decide) ⟨x,H,I1,ru,⟨rfl,fun ys hy=>by rw [I.list_inj hy hq]; exact hx⟩,st',fun b hb=>(hf b hb).1⟩⟩
 done:=by
  intro X hP hw hK hc i pins s σ H E I hf st hg
  subst hP hw hK
  obtain ⟨xs,hq,hx⟩:=hg
  obtain ⟨its,rv,p,hz⟩:=I.list hq
  obtain ⟨f0,f1,f2,f3,f4,f5⟩:=hf it (by simp)
  have hl:=rv.length
  exact wpAny_pyNext_list_end (I.ok.hd hc) st p.isList (by simp; lia) fun h' eb=>⟨rfl,I.turned (t':=s.toks) (fun b o hb e=>eb b o hb e) f0 f1 f3 f4 f5⟩
 self:=fun _ _ _ _ _ st h=>wpAny_pyIter_listiter st h
theorem gq {P:Program} {w:World} {K:PySem.W.Frag} {tg:Expr} (a it:Addr):gK P w K tg (Itt K a) [it] it (fun i h=>h.IsTupleIter it a i) where
 mem:=by simp
 obj:=fun i h st b hb=>by
  have e:b = it:=by simpa using hb
  subst e
  obtain ⟨o,e,c,d⟩:=st
  exact ⟨o,e,fun v z=>by rw [d] at z; cases z⟩
 keep:=fun i h h' st k=>st.at fun o e=>k it (by simp) o e
 item:=by
  intro X hP hw hK hc i pins s σ H E I hf st hg
  subst hP hw hK
  obtain ⟨xs,x,hq,hx⟩:=hg
  obtain ⟨its,rv,p,hz⟩:=I.tuple hq
  obtain ⟨u,hu,ru⟩:=rv.get hx
  obtain ⟨f0,f1,f2,f3,f4,f5⟩:=hf it (by simp)
  refine wpAny_pyNext_tuple_item st (show s.heap.IsTuple a its.toArray from p) (x:=u) (by simpa using hu) fun h' st' sb=>?_
  have I1:Inv X pins σ H { s with heap:=h' }:=I.turned (t':=s.toks) (fun b o hb e=>(sb.2 b hb).trans e) f0 f1 f3 f4 f5
  obtain ⟨o,e,c,d⟩:=id st'
  exact ⟨u,rfl,kY (s:={ s with heap:=h' }) e c d (by decide) ⟨x,H,I1,ru,⟨rfl,fun ys hy=>by rw [I.tuple_inj hy hq]; exact hx⟩,st',fun b hb=>(hf b hb).1⟩⟩
 done:=by
  intro X hP hw hK hc i pins s σ H E I hf st hg
  subst hP hw hK
  obtain ⟨xs,hq,hx⟩:=hg
  obtain ⟨its,rv,p,hz⟩:=I.tuple hq
  obtain ⟨f0,f1,f2,f3,f4,f5⟩:=hf it (by simp)
  have hl:=rv.length
  exact wpAny_pyNext_tuple_end (I.ok.hd hc) st (show s.heap.IsTuple a its.toArray from p) (by simp; lia) fun h' eb=>⟨rfl,I.turned (t':=s.toks) (fun b o hb e=>eb b o hb e) f0 f1 f3 f4 f5⟩
 self:=fun _ _ _ _ _ st h=>wpAny_pyIter_tupleiter st h
theorem gP {P:Program} {w:World} {K:PySem.W.Frag} {tg:Expr} (it:Addr) (lo:Int) (n:Nat):gK P w K tg (Itr lo n) [it] it (fun i h=>IsRangeIter h it (lo + (i:Nat) * 1) ((n:Int) - (i:Nat)) 1) where
 mem:=by simp
 obj:=fun i h st b hb=>by
  have e:b = it:=by simpa using hb
  subst e
  exact ⟨_,st,fun v z=>by
   have z':Data.fields _ = Data.cell v:=z
   cases z'⟩
 keep:=fun i h h' st k=>k it (by simp) _ st
 item:=by
  intro X hP hw hK hc i pins s σ H E I hf st hg
  subst hP hw hK
  obtain ⟨f0,f1,f2,f3,f4,f5⟩:=hf it (by simp)
  have W:=Walks.range (prog:=X.prog) (w:=X.w) (I.ok.hd hc) it lo 1 n
  refine W.item i s _ _ hg st fun v h' tk hv st' kk=>?_
  obtain ⟨t,rfl⟩:=hv
  have I1:Inv X pins σ H { s with heap:=h',toks:=tk }:=I.turned (fun b o hb e=>kk b o (by simpa using hb) e) f0 f1 f3 f4 f5
  refine ⟨_,rfl,kY (s:={ s with heap:=h',toks:=tk }) (n:="range_iterator") st' rfl rfl (by decide) ⟨.int (lo + i),H,I1,⟨t,?_⟩,⟨rfl,rfl⟩,st',fun b hb=>(hf b hb).1⟩⟩
  rw [Int.mul_one]
 done:=by
  intro X hP hw hK hc i pins s σ H E I hf st hg
  subst hP hw hK
  obtain ⟨f0,f1,f2,f3,f4,f5⟩:=hf it (by simp)
  exact wpAny_pyNext_range_end (I.ok.hd hc) st (by have:n ≤ i:=hg; lia) fun h' eb=>⟨rfl,I.turned (t':=s.toks) (fun b o hb e=>eb b o hb e) f0 f1 f3 f4 f5⟩
 self:=fun _ _ _ _ _ st h=>wpAny_pyIter_rangeiter st h
end L2
namespace L2
open PySem PySem.Spec PyProof.Rows
section
variable {X:Cx} {tg:Expr}
def oA (K:PySem.W.Frag) (tl:TE):TI:=fun σ H R=>tl σ H fun x H1=>∃ a,x = .ref a ∧ (∃ xs,SqL K H1 a xs) ∧ R (Itl K a) H1
def rm (K:PySem.W.Frag) (tl:TE):TI:=fun σ H R=>tl σ H fun x H1=>∃ a,x = .ref a ∧ (∃ xs,SqT K H1 a xs) ∧ R (Itt K a) H1
theorem mF {l:Expr} {tl:TE} (hl:PE X l tl):PI X tg l (oA X.K tl):=by
 intro pins s σ H R I h
 refine thn (hl pins s σ H _ I h) fun v s1 ⟨x,H1,I1,r1,q1⟩=>?_
 obtain ⟨a,e,⟨xs,hq⟩,q⟩:=q1
 subst e
 cases r1
 obtain ⟨its,rv,p,hz⟩:=I1.list hq
 refine wpAny_pyIter_list p.isList ?_
 refine ⟨s1.heap.objs.size,[s1.heap.objs.size],_,_,H1,rfl,I1.kept (t':=s1.toks) fun b o e=>Heap.get?_push_of_some _ e,jq a _,⟨_,Heap.get?_push_size _ rfl,rfl,rfl⟩,fun b hb=>?_,q⟩
 have e:b = s1.heap.objs.size:=by simpa using hb
 subst e
 exact I1.fpOk (Nat.le_refl _) (I1.hok.fresh (Nat.le_refl _))
theorem qa {l:Expr} {tl:TE} (hl:PE X l tl):PI X tg l (rm X.K tl):=by
 intro pins s σ H R I h
 refine thn (hl pins s σ H _ I h) fun v s1 ⟨x,H1,I1,r1,q1⟩=>?_
 obtain ⟨a,e,⟨xs,hq⟩,q⟩:=q1
 subst e
 cases r1
 obtain ⟨its,rv,p,hz⟩:=I1.tuple hq
 refine wpAny_pyIter_tuple (show s1.heap.IsTuple a its.toArray from p) ?_
 refine ⟨s1.heap.objs.size,[s1.heap.objs.size],_,_,H1,rfl,I1.kept (t':=s1.toks) fun b o e=>Heap.get?_push_of_some _ e,gq a _,⟨_,Heap.get?_push_size _ rfl,rfl,rfl⟩,fun b hb=>?_,q⟩
 have e:b = s1.heap.objs.size:=by simpa using hb
 subst e
 exact I1.fpOk (Nat.le_refl _) (I1.hok.fresh (Nat.le_refl _))
theorem eF {pins:List (Addr × Obj)} {σ:St} {H:Hp} {s:Shared} {R:It → Hp → Prop} {E:Value → Shared → Prop} {lo hi:Int} {t u v:Tok} {tk:Nat} (I:Inv X pins σ H s) (h1:-(2 ^ 62) ≤ lo) (h2:lo < 2 ^ 62) (h3:-(2 ^ 62) ≤ hi) (h4:hi < 2 ^ 62)
  (q:R (Itr lo (hi - lo).toNat) H):wpAny (model X.prog X.w) X.A (pyIter (.ref s.heap.objs.size)) (PIE X pins σ tg R) E { s with heap:=s.heap.push { cls:=.type "range",data:=.fields #[.int lo t,.int hi u,.int 1 v] },toks:=tk }:=by
 refine wpAny_pyIter_range (IsRange.new ..) (small_one h1 h2 h3 h4) ?_
 have I1:Inv X pins σ H { s with heap:=s.heap.push { cls:=.type "range",data:=.fields #[.int lo t,.int hi u,.int 1 v] },toks:=tk }:=I.kept fun b o e=>Heap.get?_push_of_some _ e
 refine ⟨(s.heap.push { cls:=.type "range",data:=.fields #[.int lo t,.int hi u,.int 1 v] }).objs.size,[(s.heap.push { cls:=.type "range",data:=.fields #[.int lo t,.int hi u,.int 1 v] }).objs.size],_,_,H,rfl,
  I1.kept (t':=tk) fun b o e=>Heap.get?_push_of_some _ e,gP _ lo (hi - lo).toNat,?_,fun b hb=>?_,q⟩
 ·have e1:lo + ((0:Nat):Int) * 1 = lo:=by simp
  have e2:(((hi - lo).toNat:Nat):Int) - ((0:Nat):Int) = Builtin.Range.rangeSize lo hi 1:=by rw [rangeSize_one]; split <;> lia
  show IsRangeIter _ _ (lo + ((0:Nat):Int) * 1) ((((hi - lo).toNat:Nat):Int) - ((0:Nat):Int)) 1
  rw [e1,e2]
  exact Heap.get?_push_size _ rfl
 ·have e:b = (s.heap.push { cls:=.type "range",data:=.fields #[.int lo t,.int hi u,.int 1 v] }).objs.size:=by simpa using hb
  subst e
  exact I1.fpOk (Nat.le_refl _) (I1.hok.fresh (Nat.le_refl _))
def qS (ta:TA):TI:=fun σ H R=>ta σ H fun vs H1=>∃ j:Int,vs = [.int j] ∧ -(2 ^ 62) ≤ j ∧ j < 2 ^ 62 ∧ R (Itr 0 j.toNat) H1
def rh (ta:TA):TI:=fun σ H R=>ta σ H fun vs H1=>∃ i j:Int,vs = [.int i,.int j] ∧ (-(2 ^ 62) ≤ i ∧ i < 2 ^ 62 ∧ -(2 ^ 62) ≤ j ∧ j < 2 ^ 62) ∧ R (Itr i (j - i).toNat) H1
theorem B4 {a:Expr} {ta:TA} {p pos:Pos} (hg:Gl X "range") (hm:X.mg "range" = none) (ha:PA X [a] ta) (hs:starEach [a] X.env = [(false,eval a X.env)]:=by rfl):PI X tg (.Call (.Name "range" p) [a] [] pos) (qS ta):=by
 intro pins s σ H R I h
 refine Call_ (V6 I hg hm boot_range (PyProof.Rows.callWith_type1 (thn (ha pos pins s σ H _ I h) fun us s1 ⟨vs,H1,I1,r1,q1⟩=>?_) hs rfl))
 obtain ⟨j,e,q1,q2,q⟩:=q1
 subst e
 cases r1 with
 | cons r rr =>
  cases rr
  obtain ⟨t,rfl⟩:=r
  exact call_range_1 (eF I1 (by lia) (by lia) q1 q2 (by simpa using q))
theorem jJ {a b:Expr} {ta:TA} {p pos:Pos} (hg:Gl X "range") (hm:X.mg "range" = none) (ha:PA X [a,b] ta) (hs:starEach [a,b] X.env = [(false,eval a X.env),(false,eval b X.env)]:=by rfl) (hs2:starEach [b] X.env = [(false,eval b X.env)]:=by rfl) :
  PI X tg (.Call (.Name "range" p) [a,b] [] pos) (rh ta):=by
 intro pins s σ H R I h
 refine Call_ (V6 I hg hm boot_range (PyProof.Rows.callWith_type1 (thn (ha pos pins s σ H _ I h) fun us s1 ⟨vs,H1,I1,r1,q1⟩=>?_) (by rw [hs,hs2]) (by rw [hs2]; rfl)))
 obtain ⟨i,j,e,⟨q1,q2,q3,q4⟩,q⟩:=q1
 subst e
 cases r1 with
 | cons r rr =>
  cases rr with
  | cons r' rr =>
   cases rr
   obtain ⟨t,rfl⟩:=r
   obtain ⟨t',rfl⟩:=r'
   exact call_range_2 (eF I1 q1 q2 q3 q4 q)
def rE (wi:TI) (g:TG) (tb:TS):TS:=fun D σ H=>wi σ H fun J H1=>∃ W:Nat → Nat → St → Hp → Prop,(∃ m,W 0 m σ H1) ∧ ∀ i m σ H,W i m σ H →
 (J.stop i H ∧ D.nx σ H) ∨ (J.go i H ∧ ∃ N:St → Hp → Prop,(∀ σ' H',N σ' H' → ∃ m',m' < m ∧ W (i + 1) m' σ' H') ∧ ∀ x H',J.yld i H x H' → g x σ H' fun σ2 H2=>tb { D with nx:=N,ct:=N,bk:=D.nx } σ2 H2)
def S1 (fp:List Addr) (h:Heap):List (Addr × Obj):=fp.filterMap fun b=>(h.get? b).map fun o=>(b,o)
theorem R6 {fp:List Addr} {h:Heap} {b:Addr} {o:Obj} (hb:b ∈ fp) (e:h.get? b = some o):(b,o) ∈ S1 fp h:=List.mem_filterMap.mpr ⟨b,hb,by rw [e]; rfl⟩
theorem cE {fp:List Addr} {h:Heap} {p:Addr × Obj} (hp:p ∈ S1 fp h):p.1 ∈ fp ∧ h.get? p.1 = some p.2:=by
 obtain ⟨b,hb,e⟩:=List.mem_filterMap.mp hp
 cases q:h.get? b with
 | none=>rw [q] at e; cases e
 | some o =>
  rw [q] at e
  have e':(b,o) = p:=Option.some.inj e
  subst e'
  exact ⟨hb,q⟩
theorem Inv.pinned {pins:List (Addr × Obj)} {σ:St} {H:Hp} {s:Shared} {fp:List Addr} (I:Inv X pins σ H s) (hf:∀ b ∈ fp,az X pins H b) (ho:∀ b ∈ fp,∃ o,s.heap.get? b = some o ∧ ∀ v,o.data ≠ .cell v):Inv X (pins ++ S1 fp s.heap) σ H s :=
 I.pins_of fun p hp=>(List.mem_append.mp hp).elim (fun z=>I.pin p (List.mem_append_right _ z)) fun z=>by
  obtain ⟨hb,e⟩:=cE z
  obtain ⟨f0,f1,f2,_⟩:=hf p.1 hb
  obtain ⟨o,e',d⟩:=ho p.1 hb
  rw [e] at e'; cases e'
  exact ⟨e,f0,f1,f2,d⟩
theorem Inv.unpinned {pins pl:List (Addr × Obj)} {σ:St} {H:Hp} {s:Shared} (I:Inv X (pins ++ pl) σ H s):Inv X pins σ H s:=I.pins_of fun p hp=>I.pin p (List.mem_append_right _ (List.mem_append_left _ hp))
theorem w5 {iter:Expr} {body:List Stmt} {wi:TI} {g:TG} {tb:TS} {pos:Pos} (hp:PassesOwn (model X.prog X.w) X.A X.env X.xe) (hc:X.calm = true) (hi:PI X tg iter wi) (hg:PG X tg g) (hb:PSs X body tb)
  (hs:∀ x,foldedSetIterable iter X.env x = pure x:=by intro _; rfl):PS X (.For tg iter body [] pos) (rE wi g tb):=by
 intro pins s σ H D I h
 refine wpAny_For (thn (hi pins s σ H _ I h) fun v s1 h1=>thn h1 fun itv s2 h2=>?_) hs
 obtain ⟨it,fp,tn,J,H2,e,I2,T,st2,f2,W,⟨m0,w0⟩,turn⟩:=h2
 subst e
 have stat:∀ {H':Hp},(∀ b ∈ fp,H' b = none) → ∀ b ∈ fp,az X pins H' b:=fun hn b hb=>⟨hn b hb,(f2 b hb).2⟩
 refine codeAny_forLoop_any (fun n s'=>∃ i σ' H',Inv X pins σ' H' s' ∧ tn i s'.heap ∧ (∀ b ∈ fp,H' b = none) ∧ W i n σ' H') ?_ m0 ⟨0,σ,H2,I2,st2,fun b hb=>(f2 b hb).1,w0⟩
 rintro n s3 ⟨i,σ3,H3,I3,st3,fr3,w3⟩
 rcases turn i n σ3 H3 w3 with ⟨stop,qn⟩ | ⟨go,N,hN,step⟩
 ·refine wpAny_passesOwn hp (thn (T.done X rfl rfl rfl hc i pins s3 σ3 H3 X.xe I3 (stat fr3) st3 stop) fun r s4 ⟨hr,I4⟩=>?_)
  subst hr
  exact wpAny_execs_nil ⟨σ3,H3,I4,qn⟩
 ·refine wpAny_passesOwn hp (thn (T.item X rfl rfl rfl hc i pins s3 σ3 H3 X.xe I3 (stat fr3) st3 go) fun r s4 ⟨u,hr,h4⟩=>?_)
  subst hr
  refine wpAny_passesOwn hp (thn h4 fun _ s5 ⟨x,H5,I5,r5,y5,st5,fr5⟩=>?_)
  have I5':=I5.pinned (stat fr5) (T.obj _ _ st5)
  refine wpAny_passesOwn hp (thn (hg _ s5 σ3 H5 x u _ I5' r5 (step x H5 y5)) fun _ s6 ⟨σ6,H6,I6,q6⟩=>?_)
  refine wpAny_passesOwn hp (thn (hb _ s6 σ6 H6 _ I6 q6) fun f s7 q7=>?_)
  have again:∀ {σ7:St} {H7:Hp},Inv X (pins ++ S1 fp s5.heap) σ7 H7 s7 → N σ7 H7 → ∃ m,m < n ∧ ∃ i σ' H',Inv X pins σ' H' s7 ∧ tn i s7.heap ∧ (∀ b ∈ fp,H' b = none) ∧ W i m σ' H':=fun {σ7 H7} I7 n7=>by
   obtain ⟨m',hm,w7⟩:=hN σ7 H7 n7
   refine ⟨m',hm,i + 1,σ7,H7,I7.unpinned,T.keep _ _ _ st5 fun b hb o e=>(I7.pin (b,o) (List.mem_append_right _ (List.mem_append_right _ (R6 hb e)))).1,fun b hb=>?_,w7⟩
   obtain ⟨o,e,d⟩:=T.obj _ _ st5 b hb
   exact (I7.pin (b,o) (List.mem_append_right _ (List.mem_append_right _ (R6 hb e)))).2.1
  cases f with
  | next=>obtain ⟨σ7,H7,I7,n7⟩:=q7; exact again I7 n7
  | cont=>obtain ⟨σ7,H7,I7,n7⟩:=q7; exact again I7 n7
  | brk=>obtain ⟨σ7,H7,I7,q7⟩:=q7; exact ⟨σ7,H7,I7.unpinned,q7⟩
  | ret v=>obtain ⟨x7,σ7,H7,I7,r7,q7⟩:=q7; exact ⟨x7,σ7,H7,I7.unpinned,r7,q7⟩
end
theorem y9 {K:PySem.W.Frag} {a:Addr} {xs:List V} {g:TG} {tb:TS} {D:Y9} {σ:St} {H:Hp} (Pv:Nat → St → Hp → Prop) (h0:Pv 0 σ H) (hl:∀ i σ H,i ≤ xs.length → Pv i σ H → SqL K H a xs)
  (hs:∀ i x σ H,xs[i]? = some x → Pv i σ H → g x σ H fun σ2 H2=>tb { D with nx:=Pv (i + 1),ct:=Pv (i + 1),bk:=D.nx } σ2 H2) (hd:∀ σ H,Pv xs.length σ H → D.nx σ H) :
  ∃ W:Nat → Nat → St → Hp → Prop,(∃ m,W 0 m σ H) ∧ ∀ i m σ H,W i m σ H →
   ((Itl K a).stop i H ∧ D.nx σ H) ∨ ((Itl K a).go i H ∧ ∃ N:St → Hp → Prop,(∀ σ' H',N σ' H' → ∃ m',m' < m ∧ W (i + 1) m' σ' H') ∧ ∀ x H',(Itl K a).yld i H x H' → g x σ H' fun σ2 H2=>tb { D with nx:=N,ct:=N,bk:=D.nx } σ2 H2):=by
 refine ⟨fun i m σ H=>m = xs.length - i ∧ i ≤ xs.length ∧ Pv i σ H,⟨xs.length,by simp,Nat.zero_le _,h0⟩,?_⟩
 rintro i m σ H ⟨rfl,hi,p⟩
 have q:=hl i σ H hi p
 by_cases hlt:i < xs.length
 ·refine .inr ⟨⟨xs,xs[i],q,by simp [hlt]⟩,Pv (i + 1),fun σ' H' p'=>⟨xs.length - (i + 1),by lia,rfl,hlt,p'⟩,fun x H' y=>?_⟩
  obtain ⟨e,y⟩:=y
  subst e
  exact hs i x σ _ (y xs q) p
 ·have e:i = xs.length:=by lia
  subst e
  exact .inl ⟨⟨xs,q,Nat.le_refl _⟩,hd σ H p⟩
theorem K1 {lo:Int} {n:Nat} {g:TG} {tb:TS} {D:Y9} {σ:St} {H:Hp} (Pv:Nat → St → Hp → Prop) (h0:Pv 0 σ H)
  (hs:∀ i σ H,i < n → Pv i σ H → g (.int (lo + i)) σ H fun σ2 H2=>tb { D with nx:=Pv (i + 1),ct:=Pv (i + 1),bk:=D.nx } σ2 H2) (hd:∀ σ H,Pv n σ H → D.nx σ H) :
  ∃ W:Nat → Nat → St → Hp → Prop,(∃ m,W 0 m σ H) ∧ ∀ i m σ H,W i m σ H →
   ((Itr lo n).stop i H ∧ D.nx σ H) ∨ ((Itr lo n).go i H ∧ ∃ N:St → Hp → Prop,(∀ σ' H',N σ' H' → ∃ m',m' < m ∧ W (i + 1) m' σ' H') ∧ ∀ x H',(Itr lo n).yld i H x H' → g x σ H' fun σ2 H2=>tb { D with nx:=N,ct:=N,bk:=D.nx } σ2 H2):=by
 refine ⟨fun i m σ H=>m = n - i ∧ i ≤ n ∧ Pv i σ H,⟨n,by simp,Nat.zero_le _,h0⟩,?_⟩
 rintro i m σ H ⟨rfl,hi,p⟩
 by_cases hlt:i < n
 ·refine .inr ⟨hlt,Pv (i + 1),fun σ' H' p'=>⟨n - (i + 1),by lia,rfl,hlt,p'⟩,fun x H' y=>?_⟩
  obtain ⟨e,y⟩:=y
  subst e y
  exact hs i σ _ hlt p
 ·have e:i = n:=by lia
  subst e
  exact .inl ⟨Nat.le_refl _,hd σ H p⟩
end L2
namespace L2
open PySem PySem.Spec PyProof.Rows
abbrev R2:=V → V → Hp → VK → Prop
def OpR (X:Cx) (f:Value → Value → Sem Value) (r:R2):Prop :=
 ∀ (pins:List (Addr × Obj)) (s:Shared) (σ:St) (H:Hp) (x y:V) (v u:Value) (Q:VK),Inv X pins σ H s → o9 x v → o9 y u → r x y H Q →
  wpAny (model X.prog X.w) X.A (f v u) (EP X pins σ Q) X.xe s
def UnR (X:Cx) (f:Value → Sem Value) (r:V → Hp → VK → Prop):Prop :=
 ∀ (pins:List (Addr × Obj)) (s:Shared) (σ:St) (H:Hp) (x:V) (v:Value) (Q:VK),Inv X pins σ H s → o9 x v → r x H Q →
  wpAny (model X.prog X.w) X.A (f v) (EP X pins σ Q) X.xe s
def A4 (X:Cx) (f:Value) (r:List V → Hp → VK → Prop):Prop :=
 ∀ (pins:List (Addr × Obj)) (s:Shared) (σ:St) (H:Hp) (xs:List V) (us:List Value) (Q:VK),Inv X pins σ H s → n6 xs us → r xs H Q →
  wpAny (model X.prog X.w) X.A (call f us) (EP X pins σ Q) X.xe s
def qW (X:Cx) (r:V → Hp → (Bool → Hp → Prop) → Prop):Prop :=
 ∀ (pins:List (Addr × Obj)) (s:Shared) (σ:St) (H:Hp) (x:V) (v:Value) (Q:Bool → Hp → Prop),Inv X pins σ H s → o9 x v → r x H Q →
  wpAny (model X.prog X.w) X.A (truthy v) (TP X pins σ Q) X.xe s
def tOp (r:R2) (ta tb:TE):TE:=fun σ H Q=>ta σ H fun x H1=>tb σ H1 fun y H2=>r x y H2 Q
def tUn (r:V → Hp → VK → Prop) (ta:TE):TE:=fun σ H Q=>ta σ H fun x H1=>r x H1 Q
def rI (C:Int → Int → Prop) (g:Int → Int → V):R2:=fun x y H Q=>∃ i j,x = .int i ∧ y = .int j ∧ C i j ∧ Q (g i j) H
def rI0 (g:Int → Int → V):R2:=fun x y H Q=>∃ i j,x = .int i ∧ y = .int j ∧ Q (g i j) H
def rU (g:Int → V):V → Hp → VK → Prop:=fun x H Q=>∃ i,x = .int i ∧ Q (g i) H
section
variable {X:Cx} {a b c:Expr} {ta tb tc:TE} {pos:Pos}
theorem pL (ha:PE X a ta) (hb:PE X b tb) {pins:List (Addr × Obj)} {s:Shared} {σ:St} {H:Hp} {R:V → V → Hp → Prop} (I:Inv X pins σ H s)
  (h:ta σ H fun x H1=>tb σ H1 fun y H2=>R x y H2) {Q:Value → Shared → Prop} {f:Value → Value → Sem Value}
  (hf:∀ v u s2 x y H2,Inv X pins σ H2 s2 → o9 x v → o9 y u → R x y H2 → wpAny (model X.prog X.w) X.A (f v u) Q X.xe s2) :
  wpAny (model X.prog X.w) X.A (eval a X.env) (fun v s₁=>wpAny (model X.prog X.w) X.A (eval b X.env) (fun u s₂=>wpAny (model X.prog X.w) X.A (f v u) Q X.xe s₂) X.xe s₁) X.xe s:=by
 refine thn (ha pins s σ H _ I h) fun v s1 ⟨x,H1,I1,r1,q1⟩=>?_
 refine thn (hb pins s1 σ H1 _ I1 q1) fun u s2 ⟨y,H2,I2,r2,q2⟩=>?_
 exact hf v u s2 x y H2 I2 r1 r2 q2
theorem i0 {op:Operator} {r:R2} (ho:OpR X (binaryOp op) r) (ha:PE X a ta) (hb:PE X b tb):PE X (.BinOp a op b pos) (tOp r ta tb):=by
 intro pins s σ H Q I h
 exact wpAny_BinOp (pL ha hb I h fun v u s2 x y H2 I2 rx ry q=>ho pins s2 σ H2 x y v u Q I2 rx ry q)
theorem ig {op:UnaryOp} {r:V → Hp → VK → Prop} (ho:UnR X (unaryOp op) r) (ha:PE X a ta):PE X (.UnaryOp op a pos) (tUn r ta):=by
 intro pins s σ H Q I h
 exact UnaryOp_ (thn (ha pins s σ H _ I h) fun v s1 ⟨x,H1,I1,r1,q1⟩=>ho pins s1 σ H1 x v Q I1 r1 q1)
theorem opI {f:Value → Value → Sem Value} {C:Int → Int → Prop} {g:Int → Int → Int}
  (rule:∀ (i j:Int) (t u:Tok) (s:Shared) (Q:Value → Shared → Prop) (E:Value → Shared → Prop),C i j → Q (.int (g i j) s.toks) { s with toks:=s.toks + 1 } → wpAny (model X.prog X.w) X.A (f (.int i t) (.int j u)) Q E s) :
  OpR X f (rI C fun i j=>.int (g i j)):=by
 intro pins s σ H x y v u Q I rx ry h
 obtain ⟨i,j,rfl,rfl,hc,q⟩:=h
 obtain ⟨t,rfl⟩:=rx
 obtain ⟨t',rfl⟩:=ry
 exact rule i j t t' s _ _ hc ⟨.int (g i j),H,I.tok _,⟨_,rfl⟩,q⟩
theorem pk {f:Value → Value → Sem Value} {g:Int → Int → Int}
  (rule:∀ (i j:Int) (t u:Tok) (s:Shared) (Q:Value → Shared → Prop) (E:Value → Shared → Prop),Q (.int (g i j) s.toks) { s with toks:=s.toks + 1 } → wpAny (model X.prog X.w) X.A (f (.int i t) (.int j u)) Q E s) :
  OpR X f (rI0 fun i j=>.int (g i j)):=by
 intro pins s σ H x y v u Q I rx ry h
 obtain ⟨i,j,rfl,rfl,q⟩:=h
 obtain ⟨t,rfl⟩:=rx
 obtain ⟨t',rfl⟩:=ry
 exact rule i j t t' s _ _ ⟨.int (g i j),H,I.tok _,⟨_,rfl⟩,q⟩
theorem ow {f:Value → Value → Sem Value} {g:Int → Int → Bool}
  (rule:∀ (i j:Int) (t u:Tok) (s:Shared) (Q:Value → Shared → Prop) (E:Value → Shared → Prop),Q (.bool (g i j)) s → wpAny (model X.prog X.w) X.A (f (.int i t) (.int j u)) Q E s) :
  OpR X f (rI0 fun i j=>.bl (g i j)):=by
 intro pins s σ H x y v u Q I rx ry h
 obtain ⟨i,j,rfl,rfl,q⟩:=h
 obtain ⟨t,rfl⟩:=rx
 obtain ⟨t',rfl⟩:=ry
 exact rule i j t t' s _ _ ⟨.bl (g i j),H,I,rfl,q⟩
def qA (i j:Int):Prop:=0 < j ∧ j < 1073741824
def pZ (i j:Int):Prop:=(-(2 ^ 64) < i ∧ i < 2 ^ 64) ∨ (-(2 ^ 64) < j ∧ j < 2 ^ 64)
theorem pZ.ok {i j:Int} (h:pZ i j):IntMulOk i j:=by
 rcases h with ⟨h1,h2⟩ | ⟨h1,h2⟩
 ·exact .of_left (intBits_le_64 h1 h2)
 ·exact .of_right (intBits_le_64 h1 h2)
theorem p8:OpR X (binaryOp .Add) (rI0 fun i j=>.int (i + j)):=pk fun _ _ _ _ _ _ _ q=>add_int q
theorem S6:OpR X (binaryOp .Sub) (rI0 fun i j=>.int (i - j)):=pk fun _ _ _ _ _ _ _ q=>sub_int q
theorem F7:OpR X (binaryOp .Mult) (rI pZ fun i j=>.int (i * j)):=opI fun _ _ _ _ _ _ _ hc q=>mul_int q hc.ok
theorem n5:OpR X (binaryOp .FloorDiv) (rI qA fun i j=>.int (i / j)):=opI fun i j _ _ _ _ _ hc q=>by
 have h1:(0:Int) < j:=hc.1
 have h2:j < 1073741824:=hc.2
 exact floordiv_int (by lia) (by rw [Int.fdiv_eq_ediv_of_nonneg i (by lia)]; exact q) (.inl (PyProof.noPylong_small (by lia)))
theorem q5:OpR X (binaryOp .Mod) (rI (fun _ j=>0 < j) fun i j=>.int (i % j)):=opI fun i j _ _ _ _ _ hc q=>by
 have h1:(0:Int) < j:=hc
 exact mod_int' (by lia) (by rw [Int.fmod_eq_emod_of_nonneg i (by lia)]; exact q)
theorem mv:OpR X (inplaceOp .Add) (rI0 fun i j=>.int (i + j)):=pk fun _ _ _ _ _ _ _ q=>iadd_int q
theorem unI {f:Value → Sem Value} {g:Int → Int}
  (rule:∀ (i:Int) (t:Tok) (s:Shared) (Q:Value → Shared → Prop) (E:Value → Shared → Prop),Q (.int (g i) s.toks) { s with toks:=s.toks + 1 } → wpAny (model X.prog X.w) X.A (f (.int i t)) Q E s) :
  UnR X f (rU fun i=>.int (g i)):=by
 intro pins s σ H x v Q I rx h
 obtain ⟨i,rfl,q⟩:=h
 obtain ⟨t,rfl⟩:=rx
 exact rule i t s _ _ ⟨.int (g i),H,I.tok _,⟨_,rfl⟩,q⟩
theorem de:UnR X (unaryOp .USub) (rU fun i=>.int (-i)):=unI fun _ _ _ _ _ q=>neg_int q
end
def qY:V → V → Bool
 | .non,.non=>true | .non,.int _=>true | .int _,.non=>true | .non,.bl _=>true | .bl _,.non=>true | .non,.str _=>true | .str _,.non=>true
 | .int _,.int _=>true | .bl _,.bl _=>true | .str _,.str _=>true | .byt _,.byt _=>true
 | .int _,.str _=>true | .str _,.int _=>true | .bl _,.str _=>true | .str _,.bl _=>true
 | _,_=>false
def rEq:R2:=fun x y H Q=>qY x y = true ∧ Q (.bl (decide (x = y))) H
def rNe:R2:=fun x y H Q=>qY x y = true ∧ Q (.bl (!decide (x = y))) H
theorem iu {i j:Int}:decide (V.int i = V.int j) = (i == j):=by
 rw [Bool.eq_iff_iff]
 simp
theorem lP {i j:Bool}:decide (V.bl i = V.bl j) = (i == j):=by
 rw [Bool.eq_iff_iff]
 simp
theorem il {i j:Str}:decide (V.str i = V.str j) = (i == j):=by
 rw [Bool.eq_iff_iff]
 simp
theorem iU {i j:Array UInt8}:decide (V.byt i = V.byt j) = (i.toList == j.toList):=by
 rw [Bool.eq_iff_iff]
 cases i
 cases j
 simp
section
variable {X:Cx} {a b c:Expr} {ta tb tc:TE} {pos:Pos}
theorem p6 {pins:List (Addr × Obj)} {σ:St} {H:Hp} {s:Shared} {Q:VK} {k k':Bool} (I:Inv X pins σ H s) (q:Q (.bl k) H) (e:k = k'):EP X pins σ Q (.bool k') s:=by
 subst e
 exact ⟨.bl k,H,I,rfl,q⟩
theorem E3:OpR X (compareOp .Eq) rEq:=by
 intro pins s σ H x y v u Q I rx ry h
 obtain ⟨hs,q⟩:=h
 cases x with
 | non =>
  cases rx
  cases y with
  | non=>cases ry; exact PySem.EqNone.eq_none_none (p6 I q (by simp))
  | bl j=>cases ry; exact PySem.EqNone.eq_none_bool (p6 I q (by simp))
  | int j=>obtain ⟨t',rfl⟩:=ry; exact PySem.EqNone.eq_none_int (p6 I q (by simp))
  | str j=>obtain ⟨t',rfl⟩:=ry; exact PySem.EqNone.eq_none_str (p6 I q (by simp))
  | _=>exact absurd (show false = true from hs) Bool.false_ne_true
 | bl i =>
  cases rx
  cases y with
  | non=>cases ry; exact PySem.EqNone.eq_bool_none (p6 I q (by simp))
  | bl j=>cases ry; exact eq_bool (p6 I q lP)
  | str j=>obtain ⟨t',rfl⟩:=ry; exact PySem.EqMixed.eq_bool_str (p6 I q (by simp))
  | _=>exact absurd (show false = true from hs) Bool.false_ne_true
 | int i =>
  obtain ⟨t,rfl⟩:=rx
  cases y with
  | non=>cases ry; exact PySem.EqNone.eq_int_none (p6 I q (by simp))
  | int j=>obtain ⟨t',rfl⟩:=ry; exact eq_int (p6 I q iu)
  | str j=>obtain ⟨t',rfl⟩:=ry; exact PySem.EqMixed.eq_int_str (p6 I q (by simp))
  | _=>exact absurd (show false = true from hs) Bool.false_ne_true
 | str i =>
  obtain ⟨t,rfl⟩:=rx
  cases y with
  | non=>cases ry; exact PySem.EqNone.eq_str_none (p6 I q (by simp))
  | bl j=>cases ry; exact PySem.EqMixed.eq_str_bool (p6 I q (by simp))
  | int j=>obtain ⟨t',rfl⟩:=ry; exact PySem.EqMixed.eq_str_int (p6 I q (by simp))
  | str j=>obtain ⟨t',rfl⟩:=ry; exact eq_str (p6 I q il)
  | _=>exact absurd (show false = true from hs) Bool.false_ne_true
 | byt i =>
  obtain ⟨t,rfl⟩:=rx
  cases y with
  | byt j=>obtain ⟨t',rfl⟩:=ry; exact PySem.W.eq_bytes (p6 I q iU)
  | _=>exact absurd (show false = true from hs) Bool.false_ne_true
 | _=>cases y <;> exact absurd (show false = true from hs) Bool.false_ne_true
theorem S0:OpR X (compareOp .NotEq) rNe:=by
 intro pins s σ H x y v u Q I rx ry h
 obtain ⟨hs,q⟩:=h
 cases x with
 | non =>
  cases rx
  cases y with
  | non=>cases ry; exact PySem.EqNone.ne_none_none (p6 I q (by simp))
  | bl j=>cases ry; exact PySem.EqNone.ne_none_bool (p6 I q (by simp))
  | int j=>obtain ⟨t',rfl⟩:=ry; exact PySem.EqNone.ne_none_int (p6 I q (by simp))
  | str j=>obtain ⟨t',rfl⟩:=ry; exact PySem.EqNone.ne_none_str (p6 I q (by simp))
  | _=>exact absurd (show false = true from hs) Bool.false_ne_true
 | bl i =>
  cases rx
  cases y with
  | non=>cases ry; exact PySem.EqNone.ne_bool_none (p6 I q (by simp))
  | bl j=>cases ry; exact ne_bool (p6 I q (congrArg not lP))
  | str j=>obtain ⟨t',rfl⟩:=ry; exact PySem.EqMixed.ne_bool_str (p6 I q (by simp))
  | _=>exact absurd (show false = true from hs) Bool.false_ne_true
 | int i =>
  obtain ⟨t,rfl⟩:=rx
  cases y with
  | non=>cases ry; exact PySem.EqNone.ne_int_none (p6 I q (by simp))
  | int j=>obtain ⟨t',rfl⟩:=ry; exact ne_int (p6 I q (congrArg not iu))
  | str j=>obtain ⟨t',rfl⟩:=ry; exact PySem.EqMixed.ne_int_str (p6 I q (by simp))
  | _=>exact absurd (show false = true from hs) Bool.false_ne_true
 | str i =>
  obtain ⟨t,rfl⟩:=rx
  cases y with
  | non=>cases ry; exact PySem.EqNone.ne_str_none (p6 I q (by simp))
  | bl j=>cases ry; exact PySem.EqMixed.ne_str_bool (p6 I q (by simp))
  | int j=>obtain ⟨t',rfl⟩:=ry; exact PySem.EqMixed.ne_str_int (p6 I q (by simp))
  | str j=>obtain ⟨t',rfl⟩:=ry; exact ne_str (p6 I q (congrArg not il))
  | _=>exact absurd (show false = true from hs) Bool.false_ne_true
 | byt i =>
  obtain ⟨t,rfl⟩:=rx
  cases y with
  | byt j=>obtain ⟨t',rfl⟩:=ry; exact PySem.W.ne_bytes (p6 I q (congrArg not iU))
  | _=>exact absurd (show false = true from hs) Bool.false_ne_true
 | _=>cases y <;> exact absurd (show false = true from hs) Bool.false_ne_true
theorem kH:OpR X (compareOp .Lt) (rI0 fun i j=>.bl (decide (i < j))):=ow fun _ _ _ _ _ _ _ q=>lt_int q
theorem dQ:OpR X (compareOp .LtE) (rI0 fun i j=>.bl (decide (i ≤ j))):=ow fun _ _ _ _ _ _ _ q=>le_int q
theorem iP:OpR X (compareOp .Gt) (rI0 fun i j=>.bl (decide (j < i))):=ow fun _ _ _ _ _ _ _ q=>gt_int q
theorem oB:OpR X (compareOp .GtE) (rI0 fun i j=>.bl (decide (j ≤ i))):=ow fun _ _ _ _ _ _ _ q=>ge_int q
theorem cQ:OpR X (compareOp .Is) (fun x y H Q=>y = .non ∧ Q (.bl (decide (x = .non))) H):=by
 intro pins s σ H x y v u Q I rx ry h
 obtain ⟨rfl,q⟩:=h
 cases ry
 refine is_none_gen (p6 I q ?_)
 cases x <;> first
  | (cases rx; rfl)
  | (obtain ⟨t,rfl⟩:=rx; rfl)
theorem dm:OpR X (compareOp .IsNot) (fun x y H Q=>y = .non ∧ Q (.bl (!decide (x = .non))) H):=by
 intro pins s σ H x y v u Q I rx ry h
 obtain ⟨rfl,q⟩:=h
 cases ry
 refine isnot_none_gen (p6 I q ?_)
 cases x <;> first
  | (cases rx; rfl)
  | (obtain ⟨t,rfl⟩:=rx; rfl)
theorem j8 (b:Expr) {op:CmpOp} (h:op ≠ .In:=by decide) (h2:op ≠ .NotIn:=by decide):behindInMarks op b = false:=by
 have e1:(op == CmpOp.In) = false:=by cases op <;> first | rfl | exact absurd rfl h
 have e2:(op == CmpOp.NotIn) = false:=by cases op <;> first | rfl | exact absurd rfl h2
 cases b <;> simp [behindInMarks,e1,e2]
theorem Y4 {op:CmpOp} {r:R2} (ho:OpR X (compareOp op) r) (ha:PE X a ta) (hb:PE X b tb) (hm:behindInMarks op b = false):PE X (.Compare a [op] [b] pos) (tOp r ta tb):=by
 intro pins s σ H Q I h
 exact wpAny_Compare1 (pL ha hb I h fun v u s2 x y H2 I2 rx ry q=>ho pins s2 σ H2 x y v u Q I2 rx ry q) hm
def rj (t:TE):TT:=fun σ H Q=>t σ H fun x H'=>∃ k,x = .bl k ∧ Q k H'
theorem j0 {op:CmpOp} {r:R2} (ho:OpR X (compareOp op) r) (ha:PE X a ta) (hb:PE X b tb) (hm:behindInMarks op b = false):PT X (.Compare a [op] [b] pos) (rj (tOp r ta tb)):=by
 intro pins s σ H Q I h
 refine wpAny_isTrue_Compare1 (thn (ha pins s σ H _ I h) fun v s1 ⟨x,H1,I1,r1,q1⟩=>thn (hb pins s1 σ H1 _ I1 q1) fun u s2 ⟨y,H2,I2,r2,q2⟩ =>
  thn (ho pins s2 σ H2 x y v u _ I2 r1 r2 q2) fun c s3 ⟨z,H3,I3,r3,k,e,q3⟩=>?_) hm
 subst e
 cases r3
 exact wpAny_truthy_bool ⟨H3,I3,q3⟩
def qu (r r':R2) (ta tb tc:TE):TE:=fun σ H Q=>ta σ H fun x H1=>tb σ H1 fun y H2=>r x y H2 fun z H3=>∃ k,z = .bl k ∧
 (if k = true then tc σ H3 fun w' H4=>r' y w' H4 Q else Q (.bl false) H3)
theorem lu {op op':CmpOp} {r r':R2} (ho:OpR X (compareOp op) r) (ho':OpR X (compareOp op') r') (ha:PE X a ta) (hb:PE X b tb) (hc:PE X c tc)
  (hm:lastMarks [op,op'] [b,c] = false:=by with_unfolding_all rfl):PE X (.Compare a [op,op'] [b,c] pos) (qu r r' ta tb tc):=by
 intro pins s σ H Q I h
 refine Compare_chain (thn (ha pins s σ H _ I h) fun v s1 ⟨x,H1,I1,r1,q1⟩=>chain_link (thn (hb pins s1 σ H1 _ I1 q1) fun u s2 ⟨y,H2,I2,r2,q2⟩ =>
  thn (ho pins s2 σ H2 x y v u _ I2 r1 r2 q2) fun d s3 ⟨z,H3,I3,r3,k,e,q3⟩=>?_)) hm
 subst e
 cases r3
 refine wpAny_truthy_bool ?_
 cases k with
 | false=>exact ite_ff ⟨.bl false,H3,I3,rfl,q3⟩
 | true=>exact ite_tt (chain_last (thn (hc pins s3 σ H3 _ I3 q3) fun w' s4 ⟨z',H4,I4,r4,q4⟩=>ho' pins s4 σ H4 y z' u w' Q I4 r2 r4 q4))
def pA (K:PySem.W.Frag) (x:V) (H:Hp) (k:Bool):Prop :=
 match x with
 | .non=>k = false
 | .bl b=>k = b
 | .int i=>k = (i != 0)
 | .str y=>y.length ≤ sizeLine ∧ k = ((y.length:Int) != 0)
 | .byt y=>y.size ≤ sizeLine ∧ k = ((y.size:Int) != 0)
 | .ref p=>(∃ xs,SqL K H p xs ∧ k = !xs.isEmpty) ∨ (∃ xs,SqT K H p xs ∧ k = !xs.isEmpty) ∨ ∃ kvs,H p = some (.dK kvs) ∧ k = !kvs.isEmpty
 | _=>False
theorem gg {κ:Type} {kvs:List (κ × V)} {vs:List (κ × Value)} (r:KV kvs vs):(!vs.isEmpty) = !kvs.isEmpty:=by
 cases r <;> rfl
theorem aQ {xs:List V} {its:List Value} (r:n6 xs its):(!its.toArray.isEmpty) = !xs.isEmpty:=by
 cases r <;> simp
theorem bB:(sizeLine:Nat) < 2 ^ 63:=by rw [sizeLine_eq]; decide
theorem pP:qW X (fun x H Q=>∃ k,pA X.K x H k ∧ Q k H):=by
 intro pins s σ H x v Q I rx h
 obtain ⟨k,e,q⟩:=h
 have hl:=bB
 have hs:sizeLine = 16777216:=sizeLine_eq
 cases x with
 | non =>
  cases rx
  have e':k = false:=e
  subst e'
  exact truthy_none ⟨H,I,q⟩
 | bl b =>
  cases rx
  have e':k = b:=e
  subst e'
  exact wpAny_truthy_bool ⟨H,I,q⟩
 | int i =>
  obtain ⟨t,rfl⟩:=rx
  have e':k = (i != 0):=e
  subst e'
  exact PySem.P.truthy_int ⟨H,I,q⟩
 | str y =>
  obtain ⟨t,rfl⟩:=rx
  obtain ⟨hy,e'⟩:y.length ≤ sizeLine ∧ k = ((y.length:Int) != 0):=e
  subst e'
  exact PySem.P.truthy_str (by lia) ⟨H,I.tok _,q⟩
 | byt y =>
  obtain ⟨t,rfl⟩:=rx
  obtain ⟨hy,e'⟩:y.size ≤ sizeLine ∧ k = ((y.size:Int) != 0):=e
  subst e'
  exact PySem.W.truthy_bytes (by lia) ⟨H,I.tok _,q⟩
 | ref p =>
  cases rx
  have e':(∃ xs,SqL X.K H p xs ∧ k = !xs.isEmpty) ∨ (∃ xs,SqT X.K H p xs ∧ k = !xs.isEmpty) ∨ ∃ kvs,H p = some (.dK kvs) ∧ k = !kvs.isEmpty:=e
  rcases e' with ⟨xs,hx,e'⟩ | ⟨xs,hx,e'⟩ | ⟨kvs,hx,e'⟩
  ·subst e'
   obtain ⟨its,r,pl,hz⟩:=I.list hx
   have hlen:=r.length
   exact wpAny_truthy_list pl.isList (by simp only [List.size_toArray]; lia) ⟨H,I.tok _,by rw [aQ r]; exact q⟩
  ·subst e'
   obtain ⟨its,r,pl,hz⟩:=I.tuple hx
   have hlen:=r.length
   exact truthy_tuple pl (by simp only [List.size_toArray]; lia) ⟨H,I.tok _,by rw [aQ r]; exact q⟩
  ·subst e'
   obtain ⟨hz,hS,vs,r,m⟩:kvs.length ≤ sizeLine ∧ (p == sysModules) = false ∧ ∃ vs,KV kvs vs ∧ s.heap.DictOf (u9 X.prog X.w) p vs:=I.hok p _ hx
   have hlen:kvs.length = vs.length:=Paired.length r
   exact wpAny_truthy_dict hS m (by lia) ⟨H,I.tok _,by rw [gg r]; exact q⟩
 | _=>exact (show False from e).elim
theorem ly (ha:PE X a ta) (he:∀ whole,isTrue a X.env whole = (do let v ← whole; standAt a.pos; holding [v] (truthy v))) :
  PT X a (fun σ H Q=>ta σ H fun x H'=>∃ k,pA X.K x H' k ∧ Q k H'):=by
 intro pins s σ H Q I h
 exact isTrue_plain (thn (ha pins s σ H _ I h) fun v s1 ⟨x,H1,I1,r1,q1⟩=>pP pins s1 σ H1 x v Q I1 r1 q1) (he _)
theorem U8 {x:V} {us:List Value} (r:n6 [x] us):∃ u,us = [u] ∧ o9 x u:=by
 cases r with
 | cons r1 r2=>cases r2; exact ⟨_,rfl,r1⟩
theorem ah {x y:V} {us:List Value} (r:n6 [x,y] us):∃ u w',us = [u,w'] ∧ o9 x u ∧ o9 y w':=by
 cases r with
 | cons r1 r2 =>
  cases r2 with
  | cons r3 r4=>cases r4; exact ⟨_,_,rfl,r1,r3⟩
theorem bb:A4 X (.builtin "abs") (fun xs H Q=>∃ i,xs = [.int i] ∧ Q (.int (if i < 0 then -i else i)) H):=by
 intro pins s σ H xs us Q I r h
 obtain ⟨i,rfl,q⟩:=h
 obtain ⟨u,rfl,t,rfl⟩:=U8 r
 exact call_abs_int fun u tk=>⟨.int (if i < 0 then -i else i),H,I.tok _,⟨_,rfl⟩,q⟩
theorem ck (hc:X.calm = true):A4 X (.builtin "max") (fun xs H Q=>∃ i j,xs = [.int i,.int j] ∧ Q (.int (if j > i then j else i)) H):=by
 intro pins s σ H xs us Q I r h
 obtain ⟨i,j,rfl,q⟩:=h
 obtain ⟨u,w',rfl,⟨t,rfl⟩,⟨t',rfl⟩⟩:=ah r
 refine max_two_ints (I.ok.hd hc) fun h' tk k=>⟨_,H,I.kept k,?_,q⟩
 by_cases hj:j > i
 ·rw [if_pos hj,if_pos hj]; exact ⟨_,rfl⟩
 ·rw [if_neg hj,if_neg hj]; exact ⟨_,rfl⟩
theorem jG (hc:X.calm = true):A4 X (.builtin "min") (fun xs H Q=>∃ i j,xs = [.int i,.int j] ∧ Q (.int (if j < i then j else i)) H):=by
 intro pins s σ H xs us Q I r h
 obtain ⟨i,j,rfl,q⟩:=h
 obtain ⟨u,w',rfl,⟨t,rfl⟩,⟨t',rfl⟩⟩:=ah r
 refine min_two_ints (I.ok.hd hc) fun h' tk k=>⟨_,H,I.kept k,?_,q⟩
 by_cases hj:j < i
 ·rw [if_pos hj,if_pos hj]; exact ⟨_,rfl⟩
 ·rw [if_neg hj,if_neg hj]; exact ⟨_,rfl⟩
theorem N7:A4 X (.builtin "divmod") (fun xs H Q=>∃ i j,xs = [.int i,.int j] ∧ qA i j ∧ ∀ p,H p = none → Q (.ref p) (upd H p (.tup [.int (i / j),.int (i % j)]))):=by
 intro pins s σ H xs us Q I r h
 obtain ⟨i,j,rfl,⟨h1,h2⟩,q⟩:=h
 obtain ⟨u,w',rfl,⟨t,rfl⟩,⟨t',rfl⟩⟩:=ah r
 refine divmod_int (by lia) ?_ (.inl (PyProof.noPylong_small (by lia)))
 rw [Int.fdiv_eq_ediv_of_nonneg i (by lia),Int.fmod_eq_emod_of_nonneg i (by lia)]
 have hn:H s.heap.objs.size = none:=I.hok.fresh (Nat.le_refl _)
 refine ⟨.ref s.heap.objs.size,_,?_,rfl,q _ hn⟩
 refine I.laid (fun b o e=>Heap.get?_push_of_some _ e) (Nat.le_refl _) ⟨by simp only [List.length_cons,List.length_nil]; rw [sizeLine_eq]; decide,[.int (i / j) s.toks,.int (i % j) (s.toks + 1)],.cons ⟨_,rfl⟩ (.cons ⟨_,rfl⟩ .nil),?_⟩
 exact ⟨_,Heap.get?_push_size s.heap rfl,rfl,0,rfl⟩
end
end L2
namespace L2
open PySem PySem.Spec PyProof.Rows
structure qk (h:Heap) (x dx C:Addr) (mA:Str → Option Value):Prop where
 obj:h.get? x = some (PySem.W.instObj C dx)
 ns:h.Ns1 dx mA
 ne:dx ≠ x
theorem cI {h:Heap} {dx:Addr} {mA:Str → Option Value} (n:h.Ns1 dx mA):∃ od,h.get? dx = some od ∧ ∀ name,PySem.W.lookIn name od = some (mA name):=by
 obtain ⟨o,es,ep,ho,hd,hk,_,hm⟩:=n
 refine ⟨o,ho,fun name=>?_⟩
 have e:=hm name
 unfold nsFind findBy at e
 rw [← Array.find?_toList] at e
 unfold PySem.W.lookIn
 rw [hd]
 dsimp only
 split
 ·rename_i y q
  rw [q] at e
  exact congrArg some e
 ·rename_i q
  rw [q] at e
  have a:es.toList.any (·.refKey) = false:=by
   rw [List.any_eq_false]
   intro y hy
   obtain ⟨z,t,hkey⟩:=hk y (Array.mem_toList_iff.mp hy)
   simp [DictEntry.refKey,hkey]
  have a':¬ es.toList.any (·.refKey) = true:=by rw [a]; exact Bool.false_ne_true
  rw [if_neg a']
  exact congrArg some e
theorem qk.look {h:Heap} {x dx C:Addr} {mA:Str → Option Value} (I:qk h x dx C mA):∃ od,PySem.W.InstAt h x (PySem.W.instObj C dx) C (some od) ∧ ∀ name,PySem.W.lookIn name od = some (mA name) :=
 let ⟨od,ho,hl⟩:=cI I.ns
 ⟨od,⟨I.obj,rfl,rfl,ho⟩,hl⟩
theorem T2.some_of {v:V} {o:Option Value} (r:T2 (some v) o):∃ u,o = some u ∧ o9 v u:=by
 cases o with
 | none=>exact (show False from r).elim
 | some u=>exact ⟨u,rfl,r⟩
theorem jT {v:V} {u:Value} (r:o9 v u):PySem.W.handedIn u = true:=by
 cases v with
 | non=>cases (show u = Value.none from r); rfl
 | bl b=>cases (show u = Value.bool b from r); rfl
 | int i=>obtain ⟨t,e⟩:=(show ∃ t,u = Value.int i t from r); cases e; rfl
 | str x=>obtain ⟨t,e⟩:=(show ∃ t,u = Value.str x t from r); cases e; rfl
 | byt b=>obtain ⟨t,e⟩:=(show ∃ t,u = Value.bytes b t from r); cases e; rfl
 | flt b=>obtain ⟨t,e⟩:=(show ∃ t,u = Value.float b t from r); cases e; rfl
 | ref a=>cases (show u = Value.ref a from r); rfl
 | ty n=>cases (show u = Value.type n from r); rfl
section
variable {P:Program} {w:World} {H H':Hp} {h h':Heap} {a C dx:Addr} {fs fs':List (Str × V)}
theorem mx (hok:HOk P w H h) (e:H a = some (.ins C dx fs)):∃ mA,qk h a dx C mA ∧ (∀ f,T2 (fs.lookup f) (mA f)) ∧ PySem.Within mA (fs.map (·.1)) ∧ fs.length ≤ 1000 ∧ H dx = some (.own a):=by
 obtain ⟨d,z,ne,ob,mA,n,r,q⟩:=(show p3 P w H h a (.ins C dx fs) from hok a _ e)
 exact ⟨mA,⟨ob,n,ne⟩,r,q,z,d⟩
end
structure Cls (K:PySem.W.Frag) (C:Addr):Prop where
 pg:PySem.W.plainGet K C Str.empty = true
 hd:PySem.W.hasDictIn K C = true
 po:PySem.W.plainOver K C = true
 sa:PySem.W.findIn K (.ref C) "__setattr__" = some (some (.builtin "object.__setattr__"))
theorem Cls.get {K:PySem.W.Frag} {C:Addr} (c:Cls K C) (f:Str):PySem.W.plainGet K C f = true:=c.pg
structure qN (K:PySem.W.Frag) (C:Addr) (m:Str) (f:Addr):Prop where
 at_:PySem.W.findIn K (.ref C) m = some (some (.ref f))
 fn:PySem.W.isFn K (.ref f) = true
 kp:PySem.W.keepIn K (.ref f) = true
section
variable {X:Cx} {pins:List (Addr × Obj)} {σ:St} {H:Hp} {s:Shared} {a C dx:Addr} {fs:List (Str × V)} {f:Str} {v:V} {A:Around} {E:Value → Shared → Prop}
theorem mQ {prog:Program} {w:World} {env:Env} {e:Expr} {f:Str} {pos:Pos} {s:Shared} {Q:Value → Shared → Prop} (hb:attributeBase e f env (eval e env) = eval e env)
  (h:wpAny (model prog w) A (eval e env) (fun o s₁=>wpAny (model prog w) A (getAttr o f true) Q E s₁) E s):wpAny (model prog w) A (eval (.Attribute e f pos) env) Q E s :=
 Attribute_any_ h (by rw [arm_eval_Attribute,hb])
end
section
variable {X:Cx} {pins:List (Addr × Obj)} {σ:St} {H:Hp} {s:Shared} {A:Around} {E:Value → Shared → Prop} {Q:Value → Shared → Prop} {c:Value} {b:Bool}
inductive O6 (K:PySem.W.Frag) (H:Hp):V → Value → Prop where
 | non:O6 K H .non (.type "NoneType")
 | bl (x:Bool):O6 K H (.bl x) (.type "bool")
 | int (i:Int):O6 K H (.int i) (.type "int")
 | str (x:Str):O6 K H (.str x) (.type "str")
 | flt (x:UInt64):O6 K H (.flt x) (.type "float")
 | lst {a:Addr} {xs:List V} (e:H a = some (.lst xs)):O6 K H (.ref a) (.type "list")
 | frz {a:Addr} {o:Obj} {xs:List V} (e:H a = some (.frz o (.lst xs))):O6 K H (.ref a) (.type "list")
 | tup {a:Addr} {xs:List V} (e:H a = some (.tup xs)):O6 K H (.ref a) (.type "tuple")
 | dK {a:Addr} {kvs:List (Key × V)} (e:H a = some (.dK kvs)):O6 K H (.ref a) (.type "dict")
 | dT {a:Addr} {kvs:List (List Key × V)} (e:H a = some (.dT kvs)):O6 K H (.ref a) (.type "dict")
 | ins {a C dx:Addr} {fs:List (Str × V)} (e:H a = some (.ins C dx fs)) (cl:Cls K C) (ha:PySem.W.findIn K (.ref C) "__class__" = some (some (.builtin "object.__class__")))
   (hn:PySem.W.specialIn K (.builtin "object.__class__") "__get__" = some (some (.builtin "getset_descriptor.__get__"))) (htk:PySem.W.takesIn K (.builtin "object.__class__") = some true)
   (hm:PySem.W.mroIn K C (.type "object") = some true):O6 K H (.ref a) (.ref C)
theorem jO {x:V} {u t:Value} (I:Inv X pins σ H s) (rx:o9 x u) (ty:O6 X.K H x t) (e:PySem.W.kitOne X.K t c = some b) (h:∀ tk,Q (.bool b) { s with toks:=tk }) :
  wpAny (model X.prog X.w) A (call (.builtin "isinstance") [u,c]) Q E s:=by
 cases ty with
 | non=>cases (show u = Value.none from rx); exact PySem.W.kia_one PySem.W.kitx_none I.kIn True.intro e (fun z=>nomatch z) h
 | bl y=>cases (show u = Value.bool y from rx); exact PySem.W.kia_one PySem.W.kitx_bool I.kIn True.intro e (fun z=>nomatch z) h
 | int i=>obtain ⟨t,q⟩:=(show ∃ t,u = Value.int i t from rx); cases q; exact PySem.W.kia_one PySem.W.kitx_int I.kIn True.intro e (fun z=>nomatch z) h
 | str y=>obtain ⟨t,q⟩:=(show ∃ t,u = Value.str y t from rx); cases q; exact PySem.W.kia_one PySem.W.kitx_str I.kIn True.intro e (fun z=>nomatch z) h
 | flt y=>obtain ⟨t,q⟩:=(show ∃ t,u = Value.float y t from rx); cases q; exact PySem.W.kia_one PySem.W.kitx_float I.kIn True.intro e (fun z=>nomatch z) h
 | @lst a xs ea =>
  cases (show u = Value.ref a from rx)
  obtain ⟨_,_,n,_,h1⟩:=(show p3 X.prog X.w H s.heap a (.lst xs) from I.hok a _ ea)
  exact PySem.W.kia_one PySem.W.kitx_list I.kIn ⟨_,h1,rfl⟩ e (fun z=>nomatch z) h
 | @frz a ob xs ea =>
  cases (show u = Value.ref a from rx)
  obtain ⟨_,_,_,n,_,h1⟩:=(show p3 X.prog X.w H s.heap a (.frz ob (.lst xs)) from I.hok a _ ea)
  exact PySem.W.kia_one PySem.W.kitx_list I.kIn ⟨_,h1,rfl⟩ e (fun z=>nomatch z) h
 | @tup a xs ea =>
  cases (show u = Value.ref a from rx)
  obtain ⟨_,_,_,p⟩:=(show p3 X.prog X.w H s.heap a (.tup xs) from I.hok a _ ea)
  obtain ⟨o,h1,h2,_⟩:=p
  exact PySem.W.kia_one PySem.W.kitx_tuple I.kIn ⟨o,h1,h2⟩ e (fun z=>nomatch z) h
 | @dK a kvs ea =>
  cases (show u = Value.ref a from rx)
  obtain ⟨_,_,vs,_,p⟩:=(show p3 X.prog X.w H s.heap a (.dK kvs) from I.hok a _ ea)
  obtain ⟨o,es,ep,h1,h2,_⟩:=p
  exact PySem.W.kia_one PySem.W.kitx_dict I.kIn ⟨o,h1,h2.1⟩ e (fun z=>nomatch z) h
 | @dT a kvs ea =>
  cases (show u = Value.ref a from rx)
  obtain ⟨_,_,xs,_,o,es,ep,h1,h2,_⟩:=(show p3 X.prog X.w H s.heap a (.dT kvs) from I.hok a _ ea)
  exact PySem.W.kia_one PySem.W.kitx_dict I.kIn ⟨o,h1,h2.1⟩ e (fun z=>nomatch z) h
 | @ins a C dx fs ea cl ha hn htk hm =>
  cases (show u = Value.ref a from rx)
  obtain ⟨mA,O,_⟩:=mx I.hok ea
  obtain ⟨od,J,_⟩:=O.look
  exact PySem.W.kia_one (PySem.W.kitx_own (cl.get _) cl.hd ha hn htk hm) I.kIn J e (fun z=>nomatch z) h
end
end L2
namespace L2
open PySem PySem.Spec PyProof.Rows
structure C3 (k:Nat) (A:Around):Prop where
 hd:A.handled = none
 dp:A.depth + 3 * k + 5 < recursionLimit
 un:A.units + 16 * k + 200 < cLine
theorem C3.mono {j k:Nat} {A:Around} (r:C3 k A) (h:j ≤ k):C3 j A:=⟨r.hd,by have:=r.dp; lia,by have:=r.un; lia⟩
theorem C3.deeper {k:Nat} {A:Around} (r:C3 (k + 1) A) (env:Env):C3 k (A.deeper env) :=
 ⟨r.hd,by have:=r.dp; show A.depth + 1 + 3 * k + 5 < _; lia,by have:=r.un; show A.units + 3 + 16 * k + 200 < _; lia⟩
theorem gV {A:Around} {C:Addr} {us:List Value} {kw:List (Str × Value)}:(A.under (.builtin "type.__call__" ⟨.ref C :: us,kw⟩)).depth = A.depth + 1:=by
 first | rfl | simp [Around.under,Code.weight,Code.isCreation,Code.isGuard,Code.isCaller,Code.frames,Code.isFrame,guardIds]
theorem gF {A:Around} {C:Addr} {us:List Value} {kw:List (Str × Value)}:(A.under (.builtin "type.__call__" ⟨.ref C :: us,kw⟩)).units = A.units + 1:=by
 first | rfl | simp [Around.under,Code.cUnits,Code.frames,Code.isFrame]
theorem C3.make {k:Nat} {A:Around} (r:C3 (k + 1) A) (C:Addr) (us:List Value) (kw:List (Str × Value)):C3 k (A.under (.builtin "type.__call__" ⟨.ref C :: us,kw⟩)) :=
 ⟨r.hd,by have:=r.dp; rw [gV]; lia,by have:=r.un; rw [gF]; lia⟩
theorem C3.depth {k:Nat} {A:Around} (r:C3 k A):A.depth < recursionLimit:=by have:=r.dp; lia
theorem C3.units {k:Nat} {A:Around} (r:C3 k A):A.units + 64 < cLine:=by have:=r.un; lia
theorem C3.units0 {k:Nat} {A:Around} (r:C3 k A):A.units < cLine:=by have:=r.un; lia
def fc:TA:=fun _ H Q=>Q [] H
def eV (ta:TE) (tr:TA):TA:=fun σ H Q=>ta σ H fun x H1=>tr σ H1 fun xs H2=>Q (x :: xs) H2
section
variable {X:Cx} {e:Expr} {es:List Expr} {te:TE} {t:TA} {pos:Pos}
theorem d6:PA X [] fc:=fun _ _ _ _ H Q I h=>Calls.spliced_nil ⟨[],H,I,.nil,h⟩
theorem b7 (ha:PE X e te) (hr:PA X es t) (hs:starEach (e :: es) X.env = (false,eval e X.env) :: starEach es X.env:=by rfl):PA X (e :: es) (eV te t):=by
 intro pos pins s σ H Q I h
 rw [hs]
 show wpAny _ _ (spliced ((false,eval e X.env) :: backTo pos (starEach es X.env))) _ _ s
 refine Calls.spliced_cons (thn (ha pins s σ H _ I h) fun u s1 ⟨x,H1,I1,r1,q1⟩=>?_)
 exact thn (hr pos pins s1 σ H1 _ I1 q1) fun us s2 ⟨xs,H2,I2,r2,q2⟩=>⟨x :: xs,H2,I2,.cons r1 r2,q2⟩
def rF (t:TA):TE:=fun σ H Q=>t σ H fun xs H1=>xs.length ≤ sizeLine ∧ ∀ p,H1 p = none → Q (.ref p) (upd H1 p (.tup xs))
def qR (t:TA):TE:=fun σ H Q=>t σ H fun xs H1=>xs.length ≤ sizeLine ∧ ∀ p,H1 p = none → Q (.ref p) (upd H1 p (.lst xs))
theorem w4 {x1} (h:PA X es t):PE X (.Tuple es x1 pos) (rF t):=by
 intro pins s σ H Q I hq
 refine wpAny_Tuple_spliced (thn (h pos pins s σ H _ I hq) fun us s1 ⟨xs,H1,I1,r,z,q⟩=>⟨by rw [← r.length]; exact z,?_⟩)
 have hf:H1 s1.heap.objs.size = none:=I1.hok.fresh (Nat.le_refl _)
 refine ⟨.ref s1.heap.objs.size,upd H1 s1.heap.objs.size (.tup xs),I1.laid (t':=s1.toks) (fun b u e=>Heap.get?_push_of_some _ e) (Nat.le_refl _) ?_,rfl,q _ hf⟩
 exact ⟨z,us,r,⟨_,Heap.get?_push_size _ rfl,rfl,_,rfl⟩⟩
theorem F8 (h:PA X es t):PE X (.List es pos) (qR t):=by
 intro pins s σ H Q I hq
 refine wpAny_List_spliced (thn (h pos pins s σ H _ I hq) fun us s1 ⟨xs,H1,I1,r,z,q⟩=>⟨by rw [← r.length]; exact z,?_⟩)
 have hf:H1 s1.heap.objs.size = none:=I1.hok.fresh (Nat.le_refl _)
 refine ⟨.ref s1.heap.objs.size,upd H1 s1.heap.objs.size (.lst xs),I1.laid (t':=s1.toks) (fun b u e=>Heap.get?_push_of_some _ e) (Nat.le_refl _) ?_,rfl,q _ hf⟩
 exact ⟨z,us,0,r,Heap.get?_push_size _ rfl⟩
end
abbrev Sp:=List V → Hp → VK → XK → Prop
abbrev CXT:=List Env → Hp → Shared → XK → Value → Shared → Prop
structure gG (P:Program) (w:World) (K:PySem.W.Frag) (mg:Str → Option Value) (base:Heap) (A:Around) (outer:List Env) (s:Shared) (H:Hp):Prop where
 frames:A.frames = some outer
 mod:Mod K mg base
 bs:∀ b o,base.get? b = some o → s.heap.get? b = some o ∧ H b = none
 bsz:base.objs.size ≤ s.heap.objs.size
 funs:s.heap.FunFrames base outer
 frf:∀ b ∈ frs outer,H b = none
 hok:HOk P w H s.heap
 bare:AllBare s.gens
def CE (outer:List Env) (P:Program) (w:World) (H:Hp) (s:Shared) (Q:VK) (u:Value) (s':Shared):Prop :=
 ∃ v H',s'.os = s.os ∧ AllBare s'.gens ∧ Un (frs outer) [] H H' s.heap s'.heap ∧ HOk P w H' s'.heap ∧ o9 v u ∧ Q v H'
def CR (CX:CXT) (outer:List Env) (P:Program) (w:World) (H:Hp) (s:Shared) (Q:VK) (E:XK) (r:Result) (s':Shared):Prop :=
 match r with
 | .ok (.ret u)=>CE outer P w H s Q u s'
 | .ok _=>False
 | .error e=>CX outer H s E e s'
structure X5 (P:Program) (w:World) (K:PySem.W.Frag) (mg:Str → Option Value) (base:Heap) (CX:CXT) (k:Nat) (f:Addr) (fd:FuncData) (ps:List Str) (sp:Sp):Prop where
 len:∀ vs H Q E,sp vs H Q E → vs.length = ps.length
 run:∀ (A:Around) (outer:List Env) (s:Shared) (H:Hp) (args:Args) (us:List Value) (vs:List V) (Q:VK) (E:XK),C3 k A → gG P w K mg base A outer s H → BindsTo s fd args (ps.zip us) → n6 vs us → sp vs H Q E →
  codeAny (model P w) A (.call (.ref f) args) (CR CX outer P w H s Q E) s
theorem gG.make {P:Program} {w:World} {K:PySem.W.Frag} {mg:Str → Option Value} {base:Heap} {A:Around} {outer:List Env} {s:Shared} {H:Hp} (e:gG P w K mg base A outer s H) (C:Addr) (us:List Value) (kw:List (Str × Value)) :
  gG P w K mg base (A.under (.builtin "type.__call__" ⟨.ref C :: us,kw⟩)) outer s H:=⟨by first | exact e.frames | (simpa [Around.under,Code.envs,Code.isFrame,pushEnvs] using e.frames),e.mod,e.bs,e.bsz,e.funs,e.frf,e.hok,e.bare⟩
section
variable {X:Cx} {pins:List (Addr × Obj)} {σ:St} {H:Hp} {s s':Shared}
theorem Inv.env0 (I:Inv X pins σ H s):gG X.prog X.w X.K X.mg X.base X.A X.stack s H :=
 ⟨I.ok.frames,I.ok.mod,I.bs,Nat.le_trans I.ok.bsz I.sz,I.stack,I.stkFree,I.hok,I.bare⟩
theorem Inv.after {Q:VK} {u:Value} (I:Inv X pins σ H s) (h:CE X.stack X.prog X.w H s Q u s'):EP X pins σ Q u s':=by
 obtain ⟨v,H',os,bare,un,hok,r,q⟩:=h
 obtain ⟨hh,g,d,t,os'⟩:=s'
 obtain rfl:os' = s.os:=os
 exact ⟨v,H',I.call (h':=hh) (g':=g) (d':=d) (t':=t) (ch:=[]) un hok bare (fun b z=>absurd z (by simp)),r,q⟩
end
def kB (sp:Sp) (dvs:List V) (E:XK) (t:TA):TE:=fun σ H Q=>t σ H fun vs H1=>sp (vs ++ dvs) H1 Q E
def R8 (K:PySem.W.Frag) (fd:FuncData) (ps:List Str) (ds:List Value):Prop :=
 ∀ (s:Shared) (us:List Value),K.In s.heap → (us ++ ds).length = ps.length → BindsTo s fd ⟨us,[]⟩ (ps.zip (us ++ ds))
theorem R8.all {K:PySem.W.Frag} {fd:FuncData} {ps:List Str} (h:∀ us:List Value,us.length = ps.length → bindArgs fd ⟨us,[]⟩ = pure (ps.zip us)):R8 K fd ps []:=fun s us _ hl=>by
 rw [List.append_nil] at hl ⊢
 exact .of_eq (h us hl)
def gv (CX:CXT) (X:Cx) (E:XK):Prop:=∀ (pins:List (Addr × Obj)) (σ:St) (H:Hp) (s:Shared) (e:Value) (s':Shared),Inv X pins σ H s → CX X.stack H s E e s' → X.xe e s'
section
variable {X:Cx} {CX:CXT} {k:Nat} {f C:Addr} {fd:FuncData} {ps:List Str} {sp:Sp} {dvs:List V} {ds:List Value} {E:XK} {x m:Str} {p pos apos:Pos} {e o:Expr} {es:List Expr} {ta:TE} {t:TA}
theorem qx {pins:List (Addr × Obj)} {σ:St} {H:Hp} {s:Shared} {Q:VK} {us:List Value} {vs:List V} (F:X5 X.prog X.w X.K X.mg X.base CX k f fd ps sp) (hr:C3 k X.A) (hb:R8 X.K fd ps ds) (hd:n6 dvs ds) (hx:gv CX X E)
  (I:Inv X pins σ H s) (r:n6 vs us) (h:sp (vs ++ dvs) H Q E):wpAny (model X.prog X.w) X.A (call (.ref f) us) (EP X pins σ Q) X.xe s:=by
 have r2:n6 (vs ++ dvs) (us ++ ds):=r.append hd
 have hl:(us ++ ds).length = ps.length:=by rw [← r2.length]; exact F.len _ _ _ _ h
 refine wpAny_call (codeAny_mono (F.run X.A X.stack s H ⟨us,[]⟩ (us ++ ds) (vs ++ dvs) Q E hr I.env0 (hb s us I.kIn hl) r2 h) fun r s' hq=>?_)
 cases r with
 | error e=>exact hx pins σ H s e s' I hq
 | ok fl =>
  cases fl with
  | ret u=>exact I.after hq
  | next=>exact False.elim hq
  | brk=>exact False.elim hq
  | cont=>exact False.elim hq
theorem mM (F:X5 X.prog X.w X.K X.mg X.base CX k f fd ps sp) (hr:C3 k X.A) (hg:Gl X x) (hm:X.mg x = some (.ref f)) (hk:PySem.W.keepIn X.K (.ref f) = true) (hb:R8 X.K fd ps ds) (hd:n6 dvs ds) (hx:gv CX X E)
  (ha:PA X (e :: es) t) (hdb:(x == ("__debug__":Str)) = false:=by decide) (he:starEach (e :: es) X.env = (false,eval e X.env) :: starEach es X.env:=by rfl) (hpl:(backTo pos (starEach es X.env)).any (·.1) = false:=by rfl) :
  PE X (.Call (.Name x p) (e :: es) [] pos) (kB sp dvs E t):=by
 intro pins s σ H Q I h
 refine wpAny_Call_Name_kw (Y1 I hg hm ?_ hdb)
 refine PySem.W.callWith_K (h₀:=X.base) I.ok.mod.kin hk (thn (ha pos pins s σ H _ I h) fun us s1 ⟨vs,H1,I1,r,q⟩=>⟨I1.kIn,?_⟩) he hpl
 exact qx F hr hb hd hx I1 r q
end
structure FnScope (N P:List Str) (sc:Scope):Prop where
 kind:sc.kind = .function
 co:sc.isCoroutine = false
 gen:sc.isGenerator = false
 nd:N.Nodup
 pre:N.take P.length = P
 par:∀ x ∈ P,sc.names.lookup x = some .local ∨ sc.names.lookup x = some .cell
 nofree:∀ y ∈ sc.names,y.2 ≠ .free
theorem cn {kindOf:Str → Option NameKind} {x:Str}:∀ {binds:List (Str × Value)} {m:Str → Option Value},(∀ v,(x,v) ∉ binds) → bindL kindOf binds m x = m x
 | [],_,_=>rfl
 | (n,v) :: r,m,h=>by
  unfold bindL
  rw [cn fun w hw=>h w (List.mem_cons_of_mem _ hw)]
  split
  ·have:x ≠ n:=by rintro rfl; exact h v List.mem_cons_self
   simp [this]
  ·rfl
theorem cG {kindOf:Str → Option NameKind} {x:Str}:∀ {binds:List (Str × Value)} {m:Str → Option Value},(∀ v,(x,v) ∉ binds) → bindC kindOf binds m x = m x
 | [],_,_=>rfl
 | (n,v) :: r,m,h=>by
  unfold bindC
  rw [cG fun w hw=>h w (List.mem_cons_of_mem _ hw)]
  split
  ·rfl
  ·have:x ≠ n:=by rintro rfl; exact h v List.mem_cons_self
   simp [this]
theorem cN {kindOf:Str → Option NameKind} {x:Str} {v:Value}:∀ {P:List Str} {vs:List Value} {i:Nat} {m:Str → Option Value},P.Nodup → P[i]? = some x → vs[i]? = some v → kindOf x = some .local →
  bindL kindOf (P.zip vs) m x = some v
 | [],_,_,_,_,h,_,_=>by simp at h
 | _ :: _,[],_,_,_,_,h,_=>by simp at h
 | p :: P,w :: vs,0,m,nd,h1,h2,hk=>by
  simp at h1 h2; subst h1; subst h2
  show bindL kindOf ((p,w) :: P.zip vs) m p = _
  unfold bindL
  rw [cn fun v hv=>(List.nodup_cons.mp nd).1 (List.of_mem_zip hv).1,if_pos hk]
  simp
 | p :: P,w :: vs,i + 1,m,nd,h1,h2,hk=>by
  show bindL kindOf ((p,w) :: P.zip vs) m x = _
  unfold bindL
  exact cN (i:=i) (List.nodup_cons.mp nd).2 (by simpa using h1) (by simpa using h2) hk
theorem cB {kindOf:Str → Option NameKind} {x:Str} {v:Value}:∀ {P:List Str} {vs:List Value} {i:Nat} {m:Str → Option Value},P.Nodup → P[i]? = some x → vs[i]? = some v → kindOf x ≠ some .local →
  bindC kindOf (P.zip vs) m x = some v
 | [],_,_,_,_,h,_,_=>by simp at h
 | _ :: _,[],_,_,_,_,h,_=>by simp at h
 | p :: P,w :: vs,0,m,nd,h1,h2,hk=>by
  simp at h1 h2; subst h1; subst h2
  show bindC kindOf ((p,w) :: P.zip vs) m p = _
  unfold bindC
  rw [cG fun v hv=>(List.nodup_cons.mp nd).1 (List.of_mem_zip hv).1,if_neg hk]
  simp
 | p :: P,w :: vs,i + 1,m,nd,h1,h2,hk=>by
  show bindC kindOf ((p,w) :: P.zip vs) m x = _
  unfold bindC
  exact cB (i:=i) (List.nodup_cons.mp nd).2 (by simpa using h1) (by simpa using h2) hk
def start (N:List Str) (vs:List V):St:=vs.map some ++ List.replicate (N.length - vs.length) none
def M6 (CX:CXT) (P:Program) (w:World) (K:PySem.W.Frag) (mg:Str → Option Value) (base:Heap) (N:List Str) (qual:Str) (scope:Scope) (f:Addr) (cd:Value) (A:Around) (outer:List Env) (s:Shared) (H:Hp) (E:XK):Cx where
 prog:=P
 w:=w
 K:=K
 mg:=mg
 base:=base
 A:=A.deeper (envOfC qual scope s.heap.objs.size f cd)
 N:=N
 s₀:=s
 H₀:=H
 env:=envOfC qual scope s.heap.objs.size f cd
 outer:=outer
 stack:=envOfC qual scope s.heap.objs.size f cd :: outer
 ex:=[]
 calm:=true
 fn:=fun _=>true
 pn:=[]
 xe:=fun e s'=>wpAny (model P w) (A.deeper (envOfC qual scope s.heap.objs.size f cd)) (leaving (envOfC qual scope s.heap.objs.size f cd) e) (fun _ s''=>CX outer H s E e s'') (fun e' s''=>CX outer H s E e' s'') s'
theorem bH {sc:Scope} {n:Nat} {x:Str} (h:sc.names.lookup x = some .cell):∃ c,(cellsFrom n sc.names []).lookup x = some c:=by
 have q:=PySem.W.cellsFrom_some sc.names n [] (.inl h)
 exact Option.isSome_iff_exists.mp q
theorem ke {CX:CXT} {P:Program} {w:World} {K:PySem.W.Frag} {mg:Str → Option Value} {base:Heap} {N ps:List Str} {qual:Str} {scope:Scope} {f:Addr} {cd:Value} {A:Around} {outer:List Env} {s s1:Shared} {H:Hp} {E:XK} {us:List Value} {vs:List V}
  (S:FnScope N ps scope) (hd:A.handled = none) (e0:gG P w K mg base A outer s H) (hl:vs.length = ps.length) (r:n6 vs us)
  (x:InCallC s s.heap.objs.size (bindL (envOfC qual scope s.heap.objs.size f cd).kindOf (ps.zip us) fun _=>none) (cellsFrom (s.heap.objs.size + 1) scope.names []) (bindC (envOfC qual scope s.heap.objs.size f cd).kindOf (ps.zip us) fun _=>none) s1) :
  Inv (M6 CX P w K mg base N qual scope f cd A outer s H E) [] (start N vs) H s1:=by
 have hpl:ps.length ≤ N.length:=by have:=congrArg List.length S.pre; rw [List.length_take] at this; lia
 obtain ⟨h1,tk,rfl,hk⟩:=x.done
 have noA:∀ b:Addr,b ∉ (M6 CX P w K mg base N qual scope f cd A outer s H E).ex:=fun b z=>absurd (show b ∈ ([]:List Addr) from z) (by simp)
 refine ⟨⟨e0.mod,S.kind,rfl,rfl,Nat.le_refl _,fun y z c h1 h2=>?_,fun y hy=>?_,fun y c _ h=>?_,fun _=>hd,Around.frames_deeper e0.frames,.inr ⟨rfl,rfl⟩,fun b z=>absurd z (noA b),e0.bs,e0.bsz,fun b _ _=>noA b,fun b z=>absurd z (noA b),e0.funs,e0.frf⟩,
  rfl,e0.bare,Un.kept hk,⟨_,x.toInCall.ns,fun i y v h1 h2 h3=>?_⟩,fun y c h=>⟨_,x.cell y c h⟩,e0.hok.fresh (Nat.le_refl _),fun y c h=>?_,fun p hp=>absurd (show p ∈ ([]:List (Addr × Obj)) from hp) (by simp),e0.hok.kept hk,?_⟩
 ·exact name_of_addr x.apart (PySem.mem_of_lookup h1) (PySem.mem_of_lookup h2)
 ·have hy:scope.names.lookup y = some .cell ∨ scope.names.lookup y = some .free:=hy
  rcases hy with hy | hy
  ·exact bH hy
  ·exact absurd rfl (S.nofree _ (PySem.mem_of_lookup hy))
 ·exact Nat.le_of_lt (x.above y c (PySem.mem_of_lookup h))
 ·have hi:i < vs.length:=by
   unfold start at h2
   by_cases hi:i < vs.length
   ·exact hi
   ·rw [List.getElem?_append_right (by simpa using hi)] at h2
    rw [List.getElem?_replicate] at h2
    split at h2 <;> cases h2
  have ha:vs[i]? = some v:=by
   unfold start at h2
   rw [List.getElem?_append_left (by simpa using hi),List.getElem?_map] at h2
   cases e:vs[i]? with
   | none=>rw [e] at h2; cases h2
   | some a=>rw [e] at h2; cases h2; rfl
  obtain ⟨u,hu,rv⟩:=r.get ha
  have hp:ps[i]? = some y:=by
   rw [← S.pre,List.getElem?_take_of_lt (by lia)]; exact h1
  have ndP:ps.Nodup:=by rw [← S.pre]; exact S.nd.sublist (List.take_sublist _ _)
  refine ⟨u,rv,?_⟩
  rcases S.par y (List.mem_of_getElem? hp) with k | k
  ·exact .inl ⟨k,cN ndP hp hu k⟩
  ·obtain ⟨c,e⟩:=bH (n:=s.heap.objs.size + 1) k
   refine .inr ⟨.inl k,c,e,?_⟩
   have q:=x.cell y c e
   rw [cB ndP hp hu (by show scope.names.lookup y ≠ _; rw [k]; decide)] at q
   exact q
 ·exact e0.hok.fresh (Nat.le_of_lt (x.above y c (PySem.mem_of_lookup h)))
 ·unfold start
  show _ = N.length
  rw [List.length_append,List.length_map,List.length_replicate]
  lia
theorem dY {CX:CXT} {P:Program} {w:World} {K:PySem.W.Frag} {mg:Str → Option Value} {base:Heap} {k:Nat} {f:Addr} {name qual:Str} {params:Arguments} {body:List Stmt} {scope:Scope} {dV kV doc pm cdv ct oc:Value} {an od:Option Addr}
  {osl:Array (Option Value)} {N ps:List Str} {sp:Sp} (lk:K.lookup f = some ⟨oc,od,.func (PySem.W.fnOf name qual params body scope dV kV doc pm an cdv ct),osl⟩) (hcd:PySem.W.codeIn K cdv qual = true) (S:FnScope N ps scope)
  (len:∀ vs H Q E,sp vs H Q E → vs.length = ps.length)
  (hbody:∀ (A:Around) (outer:List Env) (s:Shared) (H:Hp) (vs:List V) (Q:VK) (E:XK),C3 k (A.deeper (envOfC qual scope s.heap.objs.size f cdv)) → sp vs H Q E →
   ∃ t,PSs (M6 CX P w K mg base N qual scope f cdv A outer s H E) body t ∧ t { nx:=fun _ H'=>Q .non H',rt:=Q } (start N vs) H) :
  X5 P w K mg base CX (k + 1) f (PySem.W.fnOf name qual params body scope dV kV doc pm an cdv ct) ps sp:=by
 refine ⟨len,fun A outer s H args us vs Q E hr e0 hb r hsp=>?_⟩
 have hl:=len _ _ _ _ hsp
 have KX:K.In s.heap:=e0.mod.kin.keeps fun b o e=>(e0.bs b o e).1
 have lim:s.heap.NoLimit:=e0.mod.nolimit.keeps fun b o e=>(e0.bs b o e).1
 have hkind:∀ y ∈ ps.zip us,scope.names.lookup y.1 = some .local ∨ (scope.names.lookup y.1 = some .cell ∧ ((cellsFrom (s.heap.objs.size + 1) scope.names []).lookup y.1).isSome = true):=fun ⟨n,v⟩ hy=>by
  rcases S.par n (List.of_mem_zip hy).1 with q | q
  ·exact .inl q
  ·exact .inr ⟨q,PySem.W.cellsFrom_some _ _ _ (.inl q)⟩
 refine codeAny_call_function hr.depth (KX _ _ lk) rfl S.co S.gen rfl (PySem.W.codeRec_of KX hcd) (hb _ _ _ _ ?_)
 refine wpAny_newFunctionEnv_cells S.kind hkind fun env he s1 x=>?_
 subst he
 refine ⟨lim.keeps x.toInCall.keep,codeAny_func ?_⟩
 obtain ⟨t,ht,hq⟩:=hbody A outer s H vs Q E (hr.deeper _) hsp
 have I:Inv (M6 CX P w K mg base N qual scope f cdv A outer s H E) [] (start N vs) H s1:=ke S hr.hd e0 hl r x
 refine wpAny_mono (ht [] s1 (start N vs) H _ I hq) (fun fl s' hs=>?_) fun e s' hs=>hs
 have fin:∀ {σ':St} {H':Hp} {v:V} {u:Value},Inv (M6 CX P w K mg base N qual scope f cdv A outer s H E) [] σ' H' s' → o9 v u → Q v H' → CE outer P w H s Q u s' :=
  fun {σ' H' v u} J rv q=>⟨v,H',J.os,J.bare,J.base,J.hok,rv,q⟩
 cases fl with
 | ret u =>
  obtain ⟨v,σ',H',J,rv,q⟩:=hs
  exact fin J rv q
 | next =>
  obtain ⟨σ',H',J,q⟩:=hs
  exact fin (v:=V.non) (u:=Value.none) J rfl q
 | brk =>
  obtain ⟨_,_,_,q⟩:=hs
  exact False.elim q
 | cont =>
  obtain ⟨_,_,_,q⟩:=hs
  exact False.elim q
end L2
namespace L2
open PySem PySem.Spec PyProof.Rows
section
variable {X:Cx} {x:Str} {p pos:Pos} {e:Expr} {es:List Expr} {t:TA} {id T:String} {r:List V → Hp → VK → Prop}
def tCB (r:List V → Hp → VK → Prop) (t:TA):TE:=fun σ H Q=>t σ H fun vs H1=>r vs H1 Q
theorem i8 (hc:A4 X (.builtin id) r) (hg:Gl X x) (hm:X.mg x = none) (hv:bootBuiltins x = some (.builtin id)) (ha:PA X (e :: es) t) (hn:x ≠ "__name__":=by decide) (hdb:(x == ("__debug__":Str)) = false:=by decide)
  (he:starEach (e :: es) X.env = (false,eval e X.env) :: starEach es X.env:=by rfl) (hpl:(backTo pos (starEach es X.env)).any (·.1) = false:=by rfl):PE X (.Call (.Name x p) (e :: es) [] pos) (tCB r t):=by
 intro pins s σ H Q I h
 refine wpAny_Call_Name_kw (V6 I hg hm hv ?_ hn hdb)
 exact PyProof.Rows.callWith_builtin1 (thn (ha pos pins s σ H _ I h) fun us s1 ⟨vs,H1,I1,r1,q1⟩=>hc pins s1 σ H1 vs us Q I1 r1 q1) he hpl
theorem J8 (hc:A4 X (.type T) r) (hg:Gl X x) (hm:X.mg x = none) (hv:bootBuiltins x = some (.type T)) (ha:PA X (e :: es) t) (hn:x ≠ "__name__":=by decide) (hdb:(x == ("__debug__":Str)) = false:=by decide)
  (he:starEach (e :: es) X.env = (false,eval e X.env) :: starEach es X.env:=by rfl) (hpl:(backTo pos (starEach es X.env)).any (·.1) = false:=by rfl):PE X (.Call (.Name x p) (e :: es) [] pos) (tCB r t):=by
 intro pins s σ H Q I h
 refine wpAny_Call_Name_kw (V6 I hg hm hv ?_ hn hdb)
 exact PyProof.Rows.callWith_type1 (thn (ha pos pins s σ H _ I h) fun us s1 ⟨vs,H1,I1,r1,q1⟩=>hc pins s1 σ H1 vs us Q I1 r1 q1) he hpl
end
end L2
namespace HT
open PySem PyProof.Rows
section
variable {prog:Program} {w:World} {A:Around} {E:Value → Shared → Prop} {s:Shared}
theorem cat_tup {t b:Addr} {vs ws:List Value} {Q:Value → Shared → Prop} (ht:IsTup s.heap t vs.toArray) (hb:IsTup s.heap b ws.toArray) (hv:vs ≠ [])
  (h1:ws = [] → Q (.ref t) s) (h2:ws ≠ [] → Q (.ref s.heap.objs.size) { s with heap:=s.heap.push { cls:=.type "tuple",data:=.seq (vs ++ ws).toArray } })
  (hsz:vs.length + ws.length ≤ sizeLine):wpAny (model prog w) A (binaryOp .Add (.ref t) (.ref b)) Q E s:=by
 obtain ⟨⟨cls,dd,data,sl⟩,ho,hc,n,hd⟩:=id ht
 obtain ⟨⟨cls2,dd2,data2,sl2⟩,ho2,hc2,n2,hd2⟩:=id hb
 simp only at hc hd hc2 hd2
 subst hc hd hc2 hd2
 have e:vs.toArray ++ ws.toArray = (vs ++ ws).toArray:=by simp
 by_cases hw:ws = []
 ·exact concat_meets ⟨_,ho,rfl⟩ ⟨_,ho2,rfl⟩ noFill_tuple_add seq_tuple_add PySem.F.slot_tuple_add PySem.F.entry_tuple_add (PySem.F.args_tuple_add_2 _ _)
   (tuple_addW1 t b vs.toArray ws.toArray n n2 dd dd2 sl sl2 (by simpa using hv) (by simp [hw])) ⟨ho,ho2,h1 hw⟩
 ·refine concat_meets ⟨_,ho,rfl⟩ ⟨_,ho2,rfl⟩ noFill_tuple_add seq_tuple_add PySem.F.slot_tuple_add PySem.F.entry_tuple_add (PySem.F.args_tuple_add_2 _ _)
   (tuple_addW2 t b vs.toArray ws.toArray n n2 dd dd2 sl sl2 (by simpa using hv) (by simpa using hw) (by rw [List.size_toArray,List.size_toArray]; exact hsz)) ⟨ho,ho2,?_⟩
  rw [e]
  exact h2 hw
end
end HT
namespace L2
open PySem PySem.Spec PyProof.Rows
theorem br {ns:List Int}:∀ {us:List Value},n6 (ns.map V.int) us → IntsAre us ns:=by
 induction ns with
 | nil=>intro us r; rw [List.map_nil] at r; cases r; exact .nil
 | cons n ns ih =>
  intro us r
  rw [List.map_cons] at r
  cases r with
  | cons r1 r2 =>
   obtain ⟨t,e⟩:=r1
   subst e
   exact .cons n t (ih r2)
section
variable {X:Cx} {e:Expr} {te:TE} {lo hi:Option Expr} {tl th:TO} {pos p2:Pos}
def qK (K:PySem.W.Frag):R2:=fun x y H Q=>∃ a b xs ys,x = .ref a ∧ y = .ref b ∧ SqT K H a xs ∧ SqT K H b ys ∧ xs ≠ [] ∧ xs.length + ys.length ≤ sizeLine ∧
 (ys = [] → Q (.ref a) H) ∧ (ys ≠ [] → ∀ p,H p = none → Q (.ref p) (upd H p (.tup (xs ++ ys))))
theorem n6.nil_iff {xs:List V} {us:List Value} (r:n6 xs us):us = [] ↔ xs = []:=by
 cases r with
 | nil=>simp
 | cons _ _=>simp
theorem nn:OpR X (binaryOp .Add) (qK X.K):=by
 intro pins s σ H x y v u Q I rx ry h
 obtain ⟨a,b,xs,ys,rfl,rfl,ha,hb,hx,hz,q1,q2⟩:=h
 cases rx
 cases ry
 obtain ⟨its,r1,p1,_⟩:=I.tuple ha
 obtain ⟨its2,r2,p2,_⟩:=I.tuple hb
 refine HT.cat_tup p1 p2 (fun z=>hx (r1.nil_iff.mp z)) (fun z=>⟨.ref a,H,I,rfl,q1 (r2.nil_iff.mp z)⟩) (fun z=>?_) (by rw [← r1.length,← r2.length]; exact hz)
 refine ⟨.ref s.heap.objs.size,_,I.laid (t':=s.toks) (o:=.tup (xs ++ ys)) (fun b ob q=>Heap.get?_push_of_some _ q) (Nat.le_refl _) ?_,rfl,q2 (fun w=>z (r2.nil_iff.mpr w)) _ (I.hok.fresh (Nat.le_refl _))⟩
 exact ⟨by rw [List.length_append]; exact hz,_,r1.append r2,IsTup.new _ _⟩
end
end L2
namespace L2
open PySem PySem.Spec PyProof.Rows
def ixN (n:Nat) (i:Int):Option Nat:=if 0 ≤ i then (if i < n then some i.toNat else none) else if -(n:Int) ≤ i then some (i + n).toNat else none
def atI {α:Type} (xs:List α) (i:Int):Option α:=(ixN xs.length i).bind fun j=>xs[j]?
theorem iw {n:Nat} {i:Int} {j:Nat} (h:ixN n i = some j):seqIndex? i n = some j ∧ j < n ∧ -(n:Int) ≤ i ∧ i < n:=by
 unfold ixN at h
 by_cases h0:0 ≤ i
 ·rw [if_pos h0] at h
  by_cases h1:i < n
  ·rw [if_pos h1] at h
   have e:i.toNat = j:=Option.some.inj h
   exact ⟨by rw [seqIndex_of h0 h1,e],by lia,by lia,h1⟩
  ·rw [if_neg h1] at h; cases h
 ·rw [if_neg h0] at h
  by_cases h1:-(n:Int) ≤ i
  ·rw [if_pos h1] at h
   have e:(i + n).toNat = j:=Option.some.inj h
   exact ⟨by rw [seqIndex_neg (by lia) h1,e],by lia,h1,by lia⟩
  ·rw [if_neg h1] at h; cases h
theorem iR {α:Type} {xs:List α} {i:Int} {v:α} (h:atI xs i = some v):∃ j,seqIndex? i xs.length = some j ∧ xs[j]? = some v ∧ j < xs.length ∧ -(xs.length:Int) ≤ i ∧ i < xs.length:=by
 unfold atI at h
 cases e:ixN xs.length i with
 | none=>rw [e] at h; cases h
 | some j =>
  rw [e] at h
  obtain ⟨h1,h2,h3,h4⟩:=iw e
  exact ⟨j,h1,h,h2,h3,h4⟩
theorem C0 {α:Type} {xs:List α} {j:Nat} {v:α} (h:xs[j]? = some v):atI xs (j:Int) = some v:=by
 have hj:j < xs.length:=(List.getElem?_eq_some_iff.mp h).1
 have e:ixN xs.length (j:Int) = some j:=by
  unfold ixN
  rw [if_pos (by lia),if_pos (by lia)]; simp
 unfold atI; rw [e]; exact h
def mV (b:Expr):Prop:=∀ o i,subscripted b false o i = operate [o,i] (getItem o i)
def IxR (X:Cx) (r:R2):Prop :=
 ∀ (value slice:Expr) (pins:List (Addr × Obj)) (s:Shared) (σ:St) (H:Hp) (x y:V) (v u:Value) (Q:VK),Inv X pins σ H s → o9 x v → o9 y u → r x y H Q →
  subscripted slice false v u = operate [v,u] (getItem v u) → wpAny (model X.prog X.w) X.A (subscriptTail value slice v u) (EP X pins σ Q) X.xe s
def MtR (X:Cx) (id:String) (r:V → List V → Hp → VK → Prop):Prop :=
 ∀ (pins:List (Addr × Obj)) (s:Shared) (σ:St) (H:Hp) (x:V) (xs:List V) (v:Value) (us:List Value) (Q:VK),Inv X pins σ H s → o9 x v → n6 xs us → r x xs H Q →
  wpAny (model X.prog X.w) X.A (call (.builtin id) (v :: us)) (EP X pins σ Q) X.xe s
section
variable {X:Cx} {a b:Expr} {ta tb:TE} {pos:Pos}
theorem g9 {r:R2} (hr:IxR X r) (ha:PE X a ta) (hb:PE X b tb) (hs:mV b):PE X (.Subscript a b pos) (tOp r ta tb):=by
 intro pins s σ H Q I h
 exact Subscript_ (pL ha hb I h fun v u s2 x y H2 I2 rx ry q=>hr a b pins s2 σ H2 x y v u Q I2 rx ry q (hs _ _))
def qV (K:PySem.W.Frag):R2:=fun x y H Q=>∃ p xs i v,x = .ref p ∧ y = .int i ∧ SqL K H p xs ∧ atI xs i = some v ∧ Q v H
def mG (K:PySem.W.Frag):R2:=fun x y H Q=>∃ p xs i v,x = .ref p ∧ y = .int i ∧ SqT K H p xs ∧ atI xs i = some v ∧ Q v H
theorem nV:IxR X (qV X.K):=by
 intro value slice pins s σ H x y v u Q I rx ry h hs
 obtain ⟨p,xs,i,z,rfl,rfl,hq,he,q⟩:=h
 cases rx
 obtain ⟨t,rfl⟩:=ry
 obtain ⟨its,r,pl,hz⟩:=I.list hq
 obtain ⟨j,h1,h2,h3,h4,h5⟩:=iR he
 obtain ⟨w,ew,rw'⟩:=r.get h2
 have hl:=r.length
 have hn:=bB
 have fin:EP X pins σ Q w s:=⟨z,H,I,rw',q⟩
 by_cases h0:0 ≤ i
 ·have hj:i.toNat = j:=by
   rw [seqIndex_of h0 h5] at h1
   exact Option.some.inj h1
  exact item_listR pl.isList h0 (by lia) (by rw [hj]; simpa using ew) fin hs
 ·have hj:(i + (its.toArray.size:Int)).toNat = j:=by
   rw [seqIndex_neg (by lia) h4] at h1
   rw [List.size_toArray,← hl]
   exact Option.some.inj h1
  exact subscriptTail_builtinR (x:=w) pl.isList.typeIs slot_list_getitem.lookup
   (wpAny_getItem_list_neg (Q:=fun r s'=>r = w ∧ EP X pins σ Q r s') pl.isList (by lia) (by rw [List.size_toArray] <;> lia) (by lia) (by rw [hj]; simpa using ew) ⟨rfl,fin⟩) hs
theorem pK:IxR X (mG X.K):=by
 intro value slice pins s σ H x y v u Q I rx ry h hs
 obtain ⟨p,xs,i,z,rfl,rfl,hq,he,q⟩:=h
 cases rx
 obtain ⟨t,rfl⟩:=ry
 obtain ⟨its,r,pl,hz⟩:=I.tuple hq
 obtain ⟨j,h1,h2,h3,h4,h5⟩:=iR he
 obtain ⟨w,ew,rw'⟩:=r.get h2
 have hl:=r.length
 have hn:=bB
 have fin:EP X pins σ Q w s:=⟨z,H,I,rw',q⟩
 exact subscriptTail_builtinR (x:=w) pl.typeIs slot_tuple_getitem.lookup
  (getItem_tuple (j:=j) (Q:=fun r s'=>r = w ∧ EP X pins σ Q r s') pl (by lia) (by lia) (by rw [List.size_toArray,← hl]; exact h1) (by simpa using ew) ⟨rfl,fin⟩) hs
theorem gc (its:List Value) (n j:Nat) (u:Value):Obj.mapSeq (·.setIfInBounds j u) { cls:=.type "list",data:=.seq its.toArray n } = { cls:=.type "list",data:=.seq (its.set j u).toArray n }:=by
 simp [Obj.mapSeq]
theorem Inv.lst {pins:List (Addr × Obj)} {σ:St} {H:Hp} {s:Shared} {p:Addr} {xs:List V} (I:Inv X pins σ H s) (h:H p = some (.lst xs)) :
  ∃ (its:List Value) (n:Nat),n6 xs its ∧ s.heap.get? p = some { cls:=.type "list",data:=.seq its.toArray n } ∧ xs.length ≤ sizeLine:=by
 obtain ⟨z,its,n,r,e⟩:=I.hok p _ h
 exact ⟨its,n,r,e,z⟩
theorem Inv.lstUpd {pins:List (Addr × Obj)} {σ:St} {H:Hp} {s:Shared} {p:Addr} {xs ys:List V} {its its':List Value} {n n':Nat} {f:Obj → Obj} (I:Inv X pins σ H s) (h:H p = some (.lst xs))
  (ho:s.heap.get? p = some { cls:=.type "list",data:=.seq its.toArray n }) (hf:f { cls:=.type "list",data:=.seq its.toArray n } = { cls:=.type "list",data:=.seq its'.toArray n' }) (r:n6 ys its') (hz:ys.length ≤ sizeLine) (t:Nat) :
  Inv X pins σ (upd H p (.lst ys)) { s with heap:=s.heap.update p f,toks:=t }:=by
 have e:(s.heap.update p f).get? p = some { cls:=.type "list",data:=.seq its'.toArray n' }:=by
  rw [Heap.get?_update_self f ho (by rw [hf] <;> rfl),hf]
 refine I.write (x:=p) (e:=p) (by rw [h]; trivial) (.inl rfl) (fun b u hb q=>(Heap.get?_update_other _ _ (Ne.symm hb)).trans q) ⟨_,e⟩ ?_
 exact ⟨hz,its',n',r,e⟩
def ra:V → V → V → Hp → (Hp → Prop) → Prop:=fun o i v H Q=>∃ p xs k j,o = .ref p ∧ i = .int k ∧ H p = some (.lst xs) ∧ ixN xs.length k = some j ∧ Q (upd H p (.lst (xs.set j v)))
theorem bv:qm X ra:=by
 intro pins s σ H o i v ov iv u Q I ro ri rv h
 obtain ⟨p,xs,k,j,rfl,rfl,hp,hj,q⟩:=h
 cases ro
 obtain ⟨t,rfl⟩:=ri
 obtain ⟨its,n,r,ho,hz⟩:=I.lst hp
 obtain ⟨h1,h2,h3,h4⟩:=iw hj
 have hl:=r.length
 have hn:=bB
 have I':Inv X pins σ (upd H p (.lst (xs.set j v))) { s with heap:=s.heap.update p (Obj.mapSeq (·.setIfInBounds j u)) } :=
  I.lstUpd hp ho (gc its n j u) (r.set rv j) (by rw [List.length_set]; exact hz) s.toks
 by_cases h0:0 ≤ k
 ·have hk:k.toNat = j:=by
   rw [seqIndex_of h0 h4] at h1
   exact Option.some.inj h1
  exact PySem.W.ki_setAt ho h0 (by lia) (by rw [List.size_toArray,← hl]; exact h4) (by rw [hk]; exact ⟨_,I',q⟩)
 ·have hk:(k + (its.toArray.size:Int)).toNat = j:=by
   rw [seqIndex_neg (by lia) h3] at h1
   rw [List.size_toArray,← hl]
   exact Option.some.inj h1
  exact PySem.W.ki_setBack ho (by lia) (by rw [List.size_toArray,← hl]; exact h3) (by lia) (by rw [hk]; exact ⟨_,I',q⟩)
def Y0:V → Bool
 | .non=>true
 | .bl _=>true
 | .int _=>true
 | .str _=>true
 | _=>false
def eqV:V → V → Bool
 | .non,.non=>true
 | .bl a,.bl b=>a == b
 | .bl a,.int b=>(if a then 1 else 0) == b
 | .int a,.bl b=>a == (if b then 1 else 0)
 | .int a,.int b=>a == b
 | .str a,.str b=>a == b
 | _,_=>false
theorem qh {A:Around} {s:Shared} {y x:V} {u v:Value} (ry:o9 y u) (rx:o9 x v) (fy:Y0 y = true) (fx:Y0 x = true):SeqAt.EqAt A s u v (eqV y x):=by
 cases y with
 | non =>
  cases ry
  cases x with
  | non=>cases rx; exact SeqAt.EqAt.same _
  | bl b=>cases rx; exact SeqAt.EqAt.none_bool b
  | int b=>obtain ⟨t,rfl⟩:=rx; exact SeqAt.EqAt.none_int b t
  | str b=>obtain ⟨t,rfl⟩:=rx; exact SeqAt.EqAt.none_str b t
  | _=>exact absurd (show false = true from fx) Bool.false_ne_true
 | bl a =>
  cases ry
  cases x with
  | non=>cases rx; exact SeqAt.EqAt.bool_none a
  | bl b=>cases rx; exact SeqAt.EqAt.bool_bool a b
  | int b=>obtain ⟨t,rfl⟩:=rx; exact SeqAt.EqAt.bool_int a b t
  | str b=>obtain ⟨t,rfl⟩:=rx; exact SeqAt.EqAt.bool_str a b t
  | _=>exact absurd (show false = true from fx) Bool.false_ne_true
 | int a =>
  obtain ⟨t',rfl⟩:=ry
  cases x with
  | non=>cases rx; exact SeqAt.EqAt.int_none a t'
  | bl b=>cases rx; exact SeqAt.EqAt.int_bool a t' b
  | int b=>obtain ⟨t,rfl⟩:=rx; exact SeqAt.EqAt.int_int a t' b t
  | str b=>obtain ⟨t,rfl⟩:=rx; exact SeqAt.EqAt.int_str a t' b t
  | _=>exact absurd (show false = true from fx) Bool.false_ne_true
 | str a =>
  obtain ⟨t',rfl⟩:=ry
  cases x with
  | non=>cases rx; exact SeqAt.EqAt.str_none a t'
  | bl b=>cases rx; exact SeqAt.EqAt.str_bool a t' b
  | int b=>obtain ⟨t,rfl⟩:=rx; exact SeqAt.EqAt.str_int a t' b t
  | str b=>obtain ⟨t,rfl⟩:=rx; exact SeqAt.EqAt.str_str a t' b t
  | _=>exact absurd (show false = true from fx) Bool.false_ne_true
 | _=>exact absurd (show false = true from fy) Bool.false_ne_true
def eqU (x:V) (u:Value):Bool:=match u with
 | .none=>eqV .non x
 | .bool b=>eqV (.bl b) x
 | .int i _=>eqV (.int i) x
 | .str z _=>eqV (.str z) x
 | _=>false
theorem kJ {x y:V} {u:Value} (r:o9 y u) (f:Y0 y = true):eqU x u = eqV y x:=by
 cases y with
 | non=>cases r; rfl
 | bl b=>cases r; rfl
 | int i=>obtain ⟨t,rfl⟩:=r; rfl
 | str z=>obtain ⟨t,rfl⟩:=r; rfl
 | _=>exact absurd (show false = true from f) Bool.false_ne_true
theorem dO {x:V}:∀ {xs:List V} {us:List Value},n6 xs us → xs.all Y0 = true → us.any (eqU x) = xs.any fun y=>eqV y x
 | _,_,.nil,_=>rfl
 | y :: xs,u :: us,.cons r t,f=>by
  rw [List.all_cons,Bool.and_eq_true] at f
  rw [List.any_cons,List.any_cons,kJ r f.1,dO t f.2]
theorem bA {A:Around} {s:Shared} {x:V} {v:Value} (rx:o9 x v) (fx:Y0 x = true):∀ {xs:List V} {us:List Value},n6 xs us → xs.all Y0 = true → ∀ u ∈ us,SeqAt.EqAt A s u v (eqU x u)
 | _,_,.nil,_=>fun u hu=>by cases hu
 | y :: xs,u :: us,.cons r t,f=>fun u' hu=>by
  rw [List.all_cons,Bool.and_eq_true] at f
  rcases List.mem_cons.mp hu with rfl | hu
  ·rw [kJ r f.1]; exact qh r rx f.1 fx
  ·exact bA rx fx t f.2 u' hu
def inV (x:V) (xs:List V):Bool:=xs.any fun y=>eqV y x
def rIn (K:PySem.W.Frag) (neg:Bool):R2:=fun x y H Q=>∃ p xs,y = .ref p ∧ (SqL K H p xs ∨ SqT K H p xs) ∧ Y0 x = true ∧ xs.all Y0 = true ∧ Q (.bl (if neg then !inV x xs else inV x xs)) H
theorem jr:OpR X (compareOp .In) (rIn X.K false):=by
 intro pins s σ H x y v u Q I rx ry h
 obtain ⟨p,xs,rfl,hq,fx,fs,q⟩:=h
 cases ry
 rcases hq with hq | hq
 ·obtain ⟨its,r,pl,hz⟩:=I.list hq
  refine SeqAt.in_listAt (eqU x) pl.isList (fun w hw=>bA rx fx r fs w (by simpa using hw)) ⟨.bl _,H,I,rfl,?_⟩
  rw [show its.toArray.any (eqU x) = its.any (eqU x) by simp,dO r fs]
  exact q
 ·obtain ⟨its,r,pl,hz⟩:=I.tuple hq
  refine SeqAt.in_tupleAt (eqU x) pl (fun w hw=>bA rx fx r fs w (by simpa using hw)) ⟨.bl _,H,I,rfl,?_⟩
  rw [show its.toArray.any (eqU x) = its.any (eqU x) by simp,dO r fs]
  exact q
theorem dj:A4 X (.builtin "len") (fun xs H Q=>∃ p ys,xs = [.ref p] ∧ (SqL X.K H p ys ∨ SqT X.K H p ys) ∧ Q (.int ys.length) H):=by
 intro pins s σ H xs us Q I r h
 obtain ⟨p,ys,rfl,hq,q⟩:=h
 obtain ⟨u,rfl,rx⟩:=U8 r
 cases rx
 have hn:=bB
 rcases hq with hq | hq
 ·obtain ⟨its,r',pl,hz⟩:=I.list hq
  have hlen:=r'.length
  exact Calls.call_len_list pl.isList (by simp only [List.size_toArray] <;> lia) ⟨.int ys.length,H,I.tok _,⟨s.toks + 1,by rw [List.size_toArray,hlen]⟩,q⟩
 ·obtain ⟨its,r',pl,hz⟩:=I.tuple hq
  have hlen:=r'.length
  exact len_tuple pl (by simp only [List.size_toArray] <;> lia) ⟨.int ys.length,H,I.tok _,⟨s.toks + 1,by rw [List.size_toArray,hlen]⟩,q⟩
theorem dG:A4 X (.type "list") (fun xs H Q=>∃ p ys,xs = [.ref p] ∧ (SqL X.K H p ys ∨ SqT X.K H p ys) ∧ ∀ l,H l = none → Q (.ref l) (upd H l (.lst ys))):=by
 intro pins s σ H xs us Q I r h
 obtain ⟨p,ys,rfl,hq,q⟩:=h
 obtain ⟨u,rfl,rx⟩:=U8 r
 cases rx
 have fin:∀ (its:List Value),n6 ys its → ys.length ≤ sizeLine → ∀ (h':Heap) (c':Nat),(∀ b o',s.heap.get? b = some o' → h'.get? b = some o') →
   h'.get? s.heap.objs.size = some { cls:=.type "list",dict:=none,data:=.seq its.toArray c',slots:=#[] } → EP X pins σ Q (.ref s.heap.objs.size) { s with heap:=h' }:=fun its r' hz h' c' kp e =>
  ⟨.ref s.heap.objs.size,_,I.laid (t':=s.toks) kp (Nat.le_refl _) (show p3 X.prog X.w _ h' _ (.lst ys) from ⟨hz,its,c',r',e⟩),rfl,q _ (I.hok.fresh (Nat.le_refl _))⟩
 rcases hq with hq | hq
 ·obtain ⟨its,r',pl,hz⟩:=I.list hq
  have hlen:=r'.length
  obtain ⟨o,ho,hc,n,hd⟩:=pl.isList
  exact call_list_seq p (.inl rfl) ho hc hd (fun h' c' kp e=>fin its r' hz h' c' kp e) (by simp only [List.size_toArray] <;> lia)
 ·obtain ⟨its,r',pl,hz⟩:=I.tuple hq
  have hlen:=r'.length
  obtain ⟨o,ho,hc,n,hd⟩:=pl
  exact call_list_seq p (.inr rfl) ho hc hd (fun h' c' kp e=>fin its r' hz h' c' kp e) (by simp only [List.size_toArray] <;> lia)
theorem bL:A4 X (.type "tuple") (fun xs H Q=>∃ p ys,xs = [.ref p] ∧ ((SqL X.K H p ys ∧ ∀ l,H l = none → Q (.ref l) (upd H l (.tup ys))) ∨ (SqT X.K H p ys ∧ Q (.ref p) H))):=by
 intro pins s σ H xs us Q I r h
 obtain ⟨p,ys,rfl,h⟩:=h
 obtain ⟨u,rfl,rx⟩:=U8 r
 cases rx
 rcases h with ⟨hq,q⟩ | ⟨hq,q⟩
 ·obtain ⟨its,r',pl,hz⟩:=I.list hq
  have hlen:=r'.length
  refine call_tuple_list pl.isList (fun h' kp=>?_) (by simp only [List.size_toArray] <;> lia)
  have I1:Inv X pins σ H { s with heap:=h' }:=I.kept (t':=s.toks) kp
  have I2:Inv X pins σ (upd H h'.objs.size (.tup ys)) { s with heap:=h'.push { cls:=.type "tuple",data:=.seq its.toArray } } :=
   I1.laid (t':=s.toks) (fun b o e=>Heap.get?_push_of_some _ e) (Nat.le_refl _) (show p3 X.prog X.w _ _ _ (.tup ys) from ⟨hz,its,r',IsTup.new _ _⟩)
  exact ⟨.ref h'.objs.size,_,I2,rfl,q _ (I1.hok.fresh (Nat.le_refl _))⟩
 ·obtain ⟨its,r',pl,hz⟩:=I.tuple hq
  exact call_tuple_same pl ⟨.ref p,H,I,rfl,q⟩
def tyV (K:PySem.W.Frag) (T:String) (x:V) (H:Hp):Prop:=match x with
 | .str _=>T = "str"
 | .int _=>T = "int"
 | .ref p=>(T = "list" ∧ ∃ xs,SqL K H p xs) ∨ (T = "tuple" ∧ ∃ o,K.lookup p = some o ∧ o.cls = .type "tuple" ∧ o.dict = none) ∨
   (T = "dict" ∧ ((∃ kvs,H p = some (.dK kvs)) ∨ ∃ kvs,H p = some (.dT kvs))) ∨ (T = "set" ∧ ∃ S n,H p = some (.set S n))
 | _=>False
theorem pF {pins:List (Addr × Obj)} {σ:St} {H:Hp} {s:Shared} {T:String} {x:V} {v:Value} (I:Inv X pins σ H s) (r:o9 x v) (ty:tyV X.K T x H) :
  s.TypeIs v T ∧ ∀ a,v = .ref a → ∃ ob,s.heap.get? a = some ob ∧ ob.dict = none:=by
 cases x with
 | str z =>
  obtain ⟨t,rfl⟩:=r
  cases (show T = "str" from ty)
  exact ⟨typeIs_str s z t,fun _ e=>nomatch e⟩
 | int i =>
  obtain ⟨t,rfl⟩:=r
  cases (show T = "int" from ty)
  exact ⟨typeIs_int s i t,fun _ e=>nomatch e⟩
 | ref p =>
  cases r
  rcases ty with ⟨rfl,xs,hq⟩ | ⟨rfl,o,hk,hc,hd⟩ | ⟨rfl,hk⟩ | ⟨rfl,S,n,hk⟩
  ·obtain ⟨its,_,pl,_⟩:=I.list hq
   refine ⟨pl.isList.typeIs,fun a e=>?_⟩
   cases e
   obtain ⟨o,n,e,c,hd,_⟩:=pl
   exact ⟨o,e,hd⟩
  ·refine ⟨⟨o,I.kIn p o hk,hc⟩,fun a e=>?_⟩
   cases e
   exact ⟨o,I.kIn _ o hk,hd⟩
  ·have z:∃ o,s.heap.get? p = some o ∧ o.ExactDict:=by
    rcases hk with ⟨kvs,hk⟩ | ⟨kvs,hk⟩
    ·obtain ⟨_,_,_,_,o,_,_,e,ex,_⟩:=I.hok p _ hk
     exact ⟨o,e,ex⟩
    ·obtain ⟨_,_,_,_,o,_,_,e,ex,_⟩:=I.hok p _ hk
     exact ⟨o,e,ex⟩
   obtain ⟨o,e,ex⟩:=z
   refine ⟨⟨o,e,ex.1⟩,fun a e2=>?_⟩
   cases e2
   exact ⟨o,e,ex.2.1⟩
  ·obtain ⟨o,_,_,_,e,ex,_⟩:=I.hok p _ hk
   refine ⟨⟨o,e,ex.1⟩,fun a e2=>?_⟩
   cases e2
   exact ⟨o,e,ex.2.1⟩
 | _=>exact False.elim ty
def tBM (K:PySem.W.Frag) (T:String) (r:V → List V → Hp → VK → Prop) (to:TE) (t:TA):TE:=fun σ H Q=>to σ H fun x H1=>tyV K T x H1 ∧ t σ H1 fun xs H2=>r x xs H2 Q
variable {o e:Expr} {es:List Expr} {to:TE} {t:TA} {name:Str} {apos cpos:Pos} {T id:String} {r:V → List V → Hp → VK → Prop}
theorem qI (pa:PlainAttrs T) (slot:Slot T name id) (hty:typeOf (.builtin id) = pure (.type "method_descriptor")) (hm:MtR X id r) (ho:PE X o to) (ha:PA X (e :: es) t)
  (hbase:attributeBase o name X.env (eval o X.env) = eval o X.env:=by rfl)
  (hfew:((backTo cpos (starEach (e :: es) X.env)).all (fun x=>!x.1) && (backToKw cpos (keywordEach [] X.env)).all (fun x=>x.1.isSome)
   && decide ((e :: es).length + ([]:List Keyword).length + (if ([]:List Keyword).isEmpty then 0 else 1) < 30)) = true:=by rfl)
  (hline:(apos.endLine == cpos.line) = true:=by rfl) (hs:starEach (e :: es) X.env = (false,eval e X.env) :: starEach es X.env:=by rfl) (hplain:(backTo cpos (starEach es X.env)).any (·.1) = false:=by rfl) :
  PE X (.Call (.Attribute o name apos) (e :: es) [] cpos) (tBM X.K T r to t):=by
 intro pins s σ H Q I h
 refine wpAny_Call_method_late hbase hfew hline rfl (thn (ho pins s σ H _ I h) fun v s1 ⟨x,H1,I1,r1,ty,q1⟩=>?_)
 obtain ⟨h1,h2⟩:=pF I1 r1 ty
 refine ⟨T,id,pa,slot,hty,h1,h2,?_⟩
 have hA:=ha cpos pins s1 σ H1 _ I1 q1
 rw [hs] at hA ⊢
 refine Calls.callWith_builtin (by show (false || (backTo cpos (starEach es X.env)).any (·.1)) = false; rw [hplain] <;> rfl) (Calls.evalArgs_plain ?_)
 exact thn hA fun us s2 ⟨vs,H2,I2,r2,q2⟩=>hm pins s2 σ H2 x vs v us Q I2 r1 r2 q2
end
end L2
namespace L2
open PySem PySem.Spec PyProof.Rows
def MtM (X:Cx) (id:String) (r:V → List V → Hp → VK → Prop):Prop :=
 ∀ (pins:List (Addr × Obj)) (s:Shared) (σ:St) (H:Hp) (x:V) (xs:List V) (v:Value) (us:List Value) (Q:VK),Inv X pins σ H s → o9 x v → n6 xs us → r x xs H Q →
  wpAny (model X.prog X.w) X.A (call (.builtin id) (v :: us)) (EP X pins σ Q) X.xe s
theorem n6.one:∀ {x:V} {us:List Value},n6 [x] us → ∃ u,us = [u] ∧ o9 x u
 | _,_,.cons r .nil=>⟨_,rfl,r⟩
theorem n6.rep {xs:List V} {us:List Value} (h:n6 xs us):∀ k:Nat,n6 (List.replicate k xs).flatten (List.replicate k us).flatten
 | 0=>.nil
 | k + 1=>by
  rw [List.replicate_succ,List.replicate_succ,List.flatten_cons,List.flatten_cons]
  exact n6.append h (n6.rep h k)
theorem cy (its:List Value):∀ (k:Nat) (acc:List Value),
  List.foldl (fun x1 x2=>x1 ++ x2) acc.toArray (List.replicate k its.toArray) = (acc ++ (List.replicate k its).flatten).toArray
 | 0,acc=>by simp
 | k + 1,acc=>by
  have e:acc.toArray ++ its.toArray = (acc ++ its).toArray:=by simp
  have e2:(acc ++ its) ++ (List.replicate k its).flatten = acc ++ (List.replicate (k + 1) its).flatten:=by
   rw [List.replicate_succ,List.flatten_cons,List.append_assoc]
  rw [← e2,← cy its k (acc ++ its),← e,List.replicate_succ,List.foldl_cons]
section
variable {X:Cx} {pins:List (Addr × Obj)} {σ:St} {H:Hp} {s:Shared} {l b:Addr} {xs ys zs:List V}
theorem Inv.lset {its its':List Value} {n:Nat} {f:Array Value → Array Value} {t':Nat} (I:Inv X pins σ H s) (hH:H l = some (.lst xs))
  (e:s.heap.get? l = some { cls:=.type "list",data:=.seq its.toArray n }) (hf:f its.toArray = its'.toArray) (hv:n6 ys its') (hz:ys.length ≤ sizeLine) :
  Inv X pins σ (upd H l (.lst ys)) { s with heap:=s.heap.update l (Obj.mapSeq f),toks:=t' }:=by
 have q:=PySem.IsL.update e f
 rw [hf] at q
 refine I.write (x:=l) (e:=l) (by rw [hH]; exact trivial) (.inl rfl) (fun b' u hb hu=>(Heap.get?_update_other s.heap (Obj.mapSeq f) (Ne.symm hb)).trans hu) ⟨_,q⟩ ?_
 exact ⟨hz,its',_,hv,q⟩
theorem Inv.lnew {its:List Value} {t':Nat} (I:Inv X pins σ H s) (hv:n6 ys its) (hz:ys.length ≤ sizeLine) :
  Inv X pins σ (upd H s.heap.objs.size (.lst ys)) { s with heap:=s.heap.push { cls:=.type "list",data:=.seq its.toArray },toks:=t' } :=
 I.laid (fun _ _ q=>Heap.get?_push_of_some _ q) (Nat.le_refl _) ⟨hz,its,0,hv,Heap.get?_push_size _ rfl⟩
theorem Inv.fresh (I:Inv X pins σ H s):H s.heap.objs.size = none:=I.hok.fresh (Nat.le_refl _)
theorem Inv.lstM (I:Inv X pins σ H s) (hH:H l = some (.lst xs)):xs.length ≤ sizeLine ∧ ∃ (its:List Value) (n:Nat),n6 xs its ∧ xs.length = its.length ∧ s.heap.get? l = some { cls:=.type "list",data:=.seq its.toArray n }:=by
 obtain ⟨z,its,n,r,e⟩:=I.hok l _ hH
 exact ⟨z,its,n,r,r.length,e⟩
theorem km {n:Nat} (h:n ≤ sizeLine):Builtin.List.listTooLong n = false:=by
 unfold Builtin.List.listTooLong
 exact decide_eq_false (by lia)
end
section
variable {X:Cx}
def iA:V → List V → Hp → VK → Prop:=fun x vs H Q=>∃ l xs y,x = .ref l ∧ vs = [y] ∧ H l = some (.lst xs) ∧ xs.length < sizeLine ∧ Q .non (upd H l (.lst (xs ++ [y])))
theorem jx:MtM X "list.append" iA:=by
 intro pins s σ H x vs v us Q I rx rv h
 obtain ⟨l,xs,y,rfl,rfl,hH,hz,q⟩:=h
 cases rx
 obtain ⟨u,rfl,ru⟩:=rv.one
 obtain ⟨z,its,n,r,hl,e⟩:=I.lstM hH
 refine call_meets F.slot_list_append ⟨_,e,rfl⟩ F.entry_list_append (F.args_list_append_2 _ _) (PySem.list_append l its.toArray n u (by rw [List.size_toArray]; lia)) ⟨e,?_⟩
 refine ⟨.non,_,I.lset (its':=its ++ [u]) hH e (by simp) (r.append (.cons ru .nil)) ?_,rfl,q⟩
 rw [List.length_append,List.length_singleton]
 lia
def rY:R2:=fun x y H Q=>∃ l b xs zs,x = .ref l ∧ y = .ref b ∧ H l = some (.lst xs) ∧ H b = some (.lst zs) ∧ xs.length + zs.length ≤ sizeLine ∧ ∀ p,H p = none → Q (.ref p) (upd H p (.lst (xs ++ zs)))
theorem hG:OpR X (binaryOp .Add) rY:=by
 intro pins s σ H x y v u Q I rx ry h
 obtain ⟨l,b,xs,zs,rfl,rfl,hH,hB,hz,q⟩:=h
 cases rx
 cases ry
 obtain ⟨z,its,n,r,hl,e⟩:=I.lstM hH
 obtain ⟨z2,its2,n2,r2,hl2,e2⟩:=I.lstM hB
 refine PySem.P.add_list e e2 ?_ (by rw [List.size_toArray,List.size_toArray]; lia)
 have ea:its.toArray ++ its2.toArray = (its ++ its2).toArray:=by simp
 rw [ea]
 exact ⟨.ref _,_,I.lnew (t':=s.toks) (r.append r2) (by rw [List.length_append]; lia),rfl,q _ I.fresh⟩
def rJ:R2:=fun x y H Q=>∃ l k xs,x = .ref l ∧ y = .int k ∧ H l = some (.lst xs) ∧ -(2 ^ 63) ≤ k ∧ k < 2 ^ 63 ∧ xs.length * k.toNat ≤ sizeLine ∧
 ∀ p,H p = none → Q (.ref p) (upd H p (.lst (List.replicate k.toNat xs).flatten))
theorem mC {α:Type} (xs:List α) (k:Nat):(List.replicate k xs).flatten.length = k * xs.length:=by
 induction k with
 | zero=>simp
 | succ k ih=>rw [List.replicate_succ,List.flatten_cons,List.length_append,ih,Nat.succ_mul,Nat.add_comm]
theorem oX:OpR X (binaryOp .Mult) rJ:=by
 intro pins s σ H x y v u Q I rx ry h
 obtain ⟨l,k,xs,rfl,rfl,hH,h1,h2,hz,q⟩:=h
 cases rx
 obtain ⟨t,rfl⟩:=ry
 obtain ⟨z,its,n,r,hl,e⟩:=I.lstM hH
 have hlen:its.toArray.size * k.toNat ≤ sizeLine:=by rw [List.size_toArray,← hl]; exact hz
 have hcap:¬ its.toArray.size * k.toNat > (2 ^ 63 - 1) / 8:=by
  have:(sizeLine:Nat) ≤ (2 ^ 63 - 1) / 8:=by decide
  lia
 have hfit:¬ (!Builtin.List.listFitsIndex k) = true:=by
  rw [fitsIndex_both h1 h2]
  exact Bool.false_ne_true
 have hlong:¬ Builtin.List.listTooLong (its.toArray.size * k.toNat) = true:=by
  rw [km hlen]
  exact Bool.false_ne_true
 have hnew:List.foldl (fun x1 x2=>x1 ++ x2) #[] (List.replicate (if its.toArray.isEmpty = true then 0 else k.toNat) its.toArray) = (List.replicate k.toNat its).flatten.toArray:=by
  have f0:∀ m:Nat,List.foldl (fun x1 x2=>x1 ++ x2) #[] (List.replicate m its.toArray) = (List.replicate m its).flatten.toArray:=fun m=>by
   have:=cy its m []
   rw [List.nil_append] at this
   exact this
  rw [f0]
  cases its with
  | nil=>simp
  | cons a r'=>rw [if_neg (by simp)]
 refine wpAny_binaryOp_repeat_ref (T:="list") (U:="int") (by decide) ⟨_,e,rfl⟩ (fun s'=>typeIs_int s' k t) noFill_list_mul F.fills_int_mul F.slot_int_rmul repeat_list F.slot_int_index.lookup
  (call_meets F.slot_int_rmul (typeIs_int s k t) F.entry_int_rmul (F.args_int_rmul_2 _ _) (int___rmul___int_list k t l its.toArray n)
   ⟨e,rfl,⟨_,e,rfl⟩,call_meets F.slot_list_mul ⟨_,e,rfl⟩ F.entry_list_mul (F.args_list_mul_2 _ _) (AutoListH.list___mul___list_int_3 l its.toArray n k t hfit hcap hlong) ⟨e,?_⟩⟩)
 rw [hnew]
 exact ⟨.ref _,_,I.lnew (t':=s.toks) (r.rep k.toNat) (by rw [mC,Nat.mul_comm]; exact hz),rfl,q _ I.fresh⟩
end
end L2
namespace Att
open PySem PySem.W PySem.Calls PyProof.Rows
theorem ao {P:Params} {h:Heap}:∀ (ns:List Int) (vs:List Value),WellAll P h vs (ns.map WData.int) → IntsAre vs ns:=by
 intro ns
 induction ns with
 | nil =>
  intro vs w
  rw [List.map_nil] at w
  cases w
  exact .nil
 | cons n ns ih =>
  intro vs w
  rw [List.map_cons] at w
  cases w with
  | cons a b =>
   cases a
   exact .cons _ _ (ih _ b)
theorem jV {l:OpenLaw} {n:Nat} (hn:l.most = some n) {P:Params} {h:Heap} {args:List WData} {vals:List Value}
  (hpre:l.row.toRowW.claim.pre args = true) (hwl:WellAll P h vals args) :
  ∃ a vs ns,vals = [Value.ref a] ∧ args = [WData.list (ns.map WData.int)] ∧ h.get? a = some { cls:=.type "list",data:=.seq vs.toArray } ∧ IntsAre vs ns ∧ ns.length ≤ n:=by
 have hsh:WShape.hasAll [] args [.list .int] = true:=(pre_splitW hpre).1
 have hc:l.pre.holds [] { args:=args } = true:=(pre_splitW hpre).2
 obtain ⟨d,r,rfl,h1,h2⟩:=hasAllW_cons hsh
 obtain rfl:=hasAllW_nil h2
 obtain ⟨xs,rfl,h3⟩:=hasW_list h1
 obtain ⟨ns,rfl⟩:=items_int h3
 have hlen:ns.length ≤ n:=by
  unfold OpenLaw.pre at hc
  have h4:(WTm.not (.lt (.lit (.int (n:Int))) (.len (.arg 0)))).holds [] { args:=[.list (ns.map .int)] } = true:=by
   have h4:=(holds_andW hc).1
   rw [hn] at h4
   exact h4
  have h5:=condW_of h4 (w_not (w_lt w_lit (w_len_list (w_arg rfl))))
  rw [List.length_map] at h5
  refine Nat.le_of_not_lt fun q=>?_
  have q':(n:Int) < ((ns.length:Nat):Int):=by lia
  first
   | (rw [decide_eq_true q'] at h5; exact absurd h5 (by decide))
   | (simp at h5; lia)
 cases hwl with
 | cons w1 w2 =>
  cases w2
  cases w1 with
  | list ho hall=>exact ⟨_,_,ns,rfl,rfl,ho,ao ns _ hall,hlen⟩
theorem jD (l:OpenLaw) (args:List WData):l.row.toRowW.claim.post args (.bool true) args = true :=
 postW_of (r:=l.row.toRowW) (X:=(true == true))
  (show WShape.has [] (.bool true) .bool = true by first | rfl | decide | simp [WShape.has,WShape.arms,WShape.armsAll])
  (show (WTm.eq .res (.lit (.bool true))).value [] { args:=args,res:=some (.bool true),after:=args } = some (.bool (true == true)) from w_eq_bool (w_res rfl) w_lit) rfl
theorem attach_call {l:OpenLaw} {n:Nat} {q:Program} {loose:List Str} {XP:(Str → Option Value) → Heap → Prop} {YP:World → Heap → Prop} {d:DefRec}
  (hn:l.most = some n) (hdf:d.params.defaults = [])
  (call:∀ (w:World) (s₀ s₁:Shared) (mg mb:Str → Option Value) (fa:Addr) (o:Obj) (pm cd doc:Value) (a:Addr) (vs:List Value) (ns:List Int),
   Ground q loose [] XP w s₀ mg mb s₁.heap → YP w s₁.heap →
   s₁.heap.get? fa = some o → o.data = .func (docDef d.name d.params d.body d.scope pm cd doc) → s₁.heap.CodeRec cd d.name → mg d.name = some (.ref fa) →
   s₁.heap.get? a = some { cls:=.type "list",data:=.seq vs.toArray } → IntsAre vs ns → ns.length ≤ n → s₁.gens = #[] →
   codeAny (model l.prog w) callerA (.call (.ref fa) ⟨[.ref a],[]⟩) (fun r s'=>r = .ok (.ret (.bool true)) ∧ OldK s₁.heap s'.heap ∧ s'.os = s₁.os ∧ AllBare s'.gens) s₁) :
  WalkO q loose XP YP l.row.toRowW d [] (fun f vs=>PySem.call f vs):=by
 intro w s₀ s₁ mg mb G Y fa o pm cd doc dV kV ho hd hcd hD hmg hg args vals as hpre hlay hrd hwl hlo
 obtain rfl:dV = .none:=Dflts.none hD hdf
 obtain rfl:kV = .none:=Dflts.noKw hD
 obtain ⟨a,vs,ns,rfl,rfl,hobj,hints,hlen⟩:=jV hn hpre hwl
 refine enter_call (codeAny_mono (call w s₀ s₁ mg mb fa o pm cd doc a vs ns G Y ho (fd_plain hd) hcd hmg hobj hints hlen hg) fun r s' hq=>?_)
 obtain ⟨rfl,h2,h3,h4⟩:=hq
 exact ⟨.inl ⟨.bool true,.bool true,[],rfl,fun _=>rfl,.bool true,jD l _,fun _=>⟨List.Pairwise.nil,fun _ hm=>(nomatch hm)⟩⟩,h2,h3,h4⟩
end Att
namespace L2
open PySem PySem.Spec PyProof.Rows
theorem T8:∀ {vs:List Value} {ns:List Int},IntsAre vs ns → n6 (ns.map V.int) vs
 | _,_,.nil=>.nil
 | _,_,.cons n t h=>.cons ⟨t,rfl⟩ (T8 h)
def oZ (H:Hp):Prop:=∀ b,H b = none ∨ ∃ o xs,H b = some (.frz o (.lst xs))
theorem kO {P:Program} {w:World} {K:PySem.W.Frag} {mg mb:Str → Option Value} {CX:CXT} {k:Nat} {fa a:Addr} {fd:FuncData} {x:Str} {sp:Sp} {s₁:Shared} {vs:List Value} {ns:List Int}
  (KX:K.In s₁.heap) (hns:s₁.heap.Ns mainGlobals mg) (hb:s₁.heap.Ns builtinsNs mb) (hbb:∀ x:Str,x ≠ "__name__" → mb x = bootBuiltins x) (hlim:s₁.heap.NoLimit) (hg:s₁.gens = #[])
  (ha:s₁.heap.get? a = some { cls:=.type "list",data:=.seq vs.toArray }) (hi:IntsAre vs ns) (hl:ns.length ≤ sizeLine) (hr:C3 k callerA)
  (F:∀ base:Heap,K.In base → base.Ns mainGlobals mg → X5 P w K mg base CX k fa fd [x] sp) (hbind:∀ (s:Shared) (u:Value),BindsTo s fd ⟨[u],[]⟩ [(x,u)])
  (hsp:∀ H:Hp,oZ H → SqL K H a (ns.map V.int) → sp [.ref a] H (fun v _=>v = .bl true) fun _ _ _=>False)
  (hCX:∀ H e s',CX [] H s₁ (fun _ _ _=>False) e s' → False) :
  codeAny (model P w) callerA (.call (.ref fa) ⟨[.ref a],[]⟩) (fun r s'=>r = .ok (.ret (.bool true)) ∧ OldK s₁.heap s'.heap ∧ s'.os = s₁.os ∧ AllBare s'.gens) s₁:=by
 have rv:=T8 hi
 have lenV:=hi.length
 have core:∀ H:Hp,oZ H → SqL K H a (ns.map V.int) → HOk P w H s₁.heap → (∀ b,H b ≠ none → b = a) → (H a ≠ none → K.lookup a = none) →
   codeAny (model P w) callerA (.call (.ref fa) ⟨[.ref a],[]⟩) (fun r s'=>r = .ok (.ret (.bool true)) ∧ OldK s₁.heap s'.heap ∧ s'.os = s₁.os ∧ AllBare s'.gens) s₁:=by
  intro H hO hS hok hA hK
  have base_of:∀ {b:Addr} {o:Obj},s₁.heap.get? b = some o → H b = none → (dL s₁.heap H).get? b = some o:=fun e n=>me e n
  have noA:∀ {b:Addr} {o:Obj} {es:Array DictEntry} {ep:Nat},s₁.heap.get? b = some o → o.data = .dict es ep → H b = none:=fun {b o es ep} e d=>by
   cases q:H b with
   | none=>rfl
   | some u =>
    have e':b = a:=hA b (by rw [q]; simp)
    subst e'
    rw [ha] at e; cases e
    have d':Data.seq vs.toArray _ = Data.dict es ep:=d
    cases d'
  have nsK:∀ {b:Addr} {m:Str → Option Value},s₁.heap.Ns b m → (dL s₁.heap H).Ns b m:=fun {b m} ⟨o,es,ep,e,d,r⟩=>⟨o,es,ep,base_of e (noA e d),d,r⟩
  have hKb:K.In (dL s₁.heap H):=fun b o e=>base_of (KX b o e) (by
   cases q:H b with
   | none=>rfl
   | some u =>
    have e':b = a:=hA b (by rw [q]; simp)
    subst e'
    rw [hK (by rw [q]; simp)] at e; cases e)
  have hM:Mod K mg (dL s₁.heap H):=⟨hKb,nsK hns,⟨mb,nsK hb,hbb⟩,let ⟨mc,h1,h2⟩:=hlim; ⟨mc,nsK h1,h2⟩⟩
  have e0:gG P w K mg (dL s₁.heap H) callerA [] s₁ H:=⟨rfl,hM,fun b o e=>oo e,Nat.le_of_eq (jg _ _),trivial,fun b hb=>absurd (show b ∈ ([]:List Addr) from hb) (by simp),hok,.of_eq hg⟩
  refine codeAny_mono ((F _ hKb (nsK hns)).run callerA [] s₁ H ⟨[.ref a],[]⟩ [.ref a] [.ref a] _ _ hr e0 (hbind s₁ (.ref a)) (.cons rfl .nil) (hsp H hO hS)) fun r s' h=>?_
  cases r with
  | error e=>exact (hCX H e s' h).elim
  | ok fl =>
   cases fl with
   | next=>exact False.elim h
   | brk=>exact False.elim h
   | cont=>exact False.elim h
   | ret u =>
    obtain ⟨v,H',os,bare,un,hok',r',q⟩:=h
    have q':v = .bl true:=q
    subst q'
    obtain rfl:u = Value.bool true:=r'
    refine ⟨rfl,OldK.of_keep fun b o e=>?_,os,bare⟩
    cases q:H b with
    | none=>exact un.keep b o e q (by intro z; exact absurd (show b ∈ ([]:List Addr) from z) (by simp)) (by simp)
    | some u =>
     rcases hO b with z | ⟨ob,xs,z⟩
     ·rw [q] at z; cases z
     ·have z2:=un.frzs b ob _ z
      obtain ⟨e1,_⟩:=hok b _ z
      obtain ⟨e2,_⟩:=hok' b _ z2
      rw [e] at e1; cases e1
      exact e2
 cases hk:K.lookup a with
 | some o =>
  have e:=KX a o hk
  rw [ha] at e
  cases e
  refine core (fun _=>none) (fun _=>.inl rfl) (.inr ⟨_,vs.toArray,_,hk,rfl,rfl,rfl,by rw [List.size_toArray,lenV]; exact hl,by simpa using rv⟩) (fun b u z=>by have z':(none:Option HO) = some u:=z; cases z') (fun b z=>absurd rfl z) fun z=>absurd rfl z
 | none =>
  refine core (fun b=>if b = a then some (.frz { cls:=.type "list",data:=.seq vs.toArray } (.lst (ns.map V.int))) else none) (fun b=>?_) (.inl (.inr ⟨{ cls:=.type "list",data:=.seq vs.toArray },if_pos rfl⟩)) (fun b u z=>?_) (fun b z=>?_) fun _=>hk
  ·by_cases hb:b = a
   ·exact .inr ⟨_,_,if_pos hb⟩
   ·exact .inl (if_neg hb)
  ·by_cases hb:b = a
   ·have z':=(if_pos hb).symm.trans z
    cases z'
    subst hb
    exact ⟨ha,by rw [List.length_map]; exact hl,vs,_,rv,ha⟩
   ·have z':=(if_neg hb).symm.trans z
    cases z'
  ·by_cases hb:b = a
   ·exact hb
   ·exact absurd (if_neg hb) z
end L2
namespace L2
open PySem PySem.Spec PyProof.Rows
theorem nJ {l:PySem.W.OpenLaw} {n k:Nat} {q:Program} {loose:List Str} {XP:(Str → Option Value) → Heap → Prop} {YP:World → Heap → Prop} {d:DefRec} {K:Params → PySem.W.Frag} {CX:World → CXT} {sp:World → Sp} {x:Str}
  (hn:l.most = some n) (hn2:n ≤ sizeLine) (hdf:d.params.defaults = []) (hr:C3 k callerA)
  (hY:∀ (w:World) (h:Heap),YP w h → (K w.params).In h)
  (F:∀ (w:World) (mg:Str → Option Value) (fa:Addr) (h:Heap),(K w.params).In h → h.Ns mainGlobals mg → mg d.name = some (.ref fa) →
   ∃ fd:FuncData,(∀ (s:Shared) (u:Value),BindsTo s fd ⟨[u],[]⟩ [(x,u)]) ∧
    ∀ base:Heap,(K w.params).In base → base.Ns mainGlobals mg → X5 l.prog w (K w.params) mg base (CX w) k fa fd [x] (sp w))
  (hsp:∀ (w:World) (H:Hp) (a:Addr) (ns:List Int),ns.length ≤ n → oZ H → SqL (K w.params) H a (ns.map V.int) → sp w [.ref a] H (fun v _=>v = .bl true) fun _ _ _=>False)
  (hCX:∀ (w:World) (H:Hp) (s:Shared) (e:Value) (s':Shared),CX w [] H s (fun _ _ _=>False) e s' → False) :
  PySem.W.WalkO q loose XP YP l.row.toRowW d [] (fun f vs=>PySem.call f vs):=by
 refine Att.attach_call hn hdf fun w s₀ s₁ mg mb fa o pm cd doc a vs ns G Y ho hd hcd hmg hobj hints hlen hg=>?_
 have KX:=hY w _ Y
 obtain ⟨fd,hb,hF⟩:=F w mg fa _ KX G.T.g hmg
 exact kO KX G.T.g G.T.b G.T.builtins G.T.nolimit hg hobj hints (Nat.le_trans hlen hn2) hr hF hb (fun H hO hS=>hsp w H a ns hlen hO hS) fun H e s'=>hCX w H s₁ e s'
end L2
namespace L2
open PySem PySem.Spec PyProof.Rows
def U2 (s:Stmt) (j:Nat):Stmt:=match s with
 | .ClassDef _ _ _ body _ _ _ _ _ _ _=>body.getD j (.Pass ⟨0,0,0,0⟩)
 | _=>.Pass ⟨0,0,0,0⟩
def j6 (s:Stmt):Arguments:=match s with
 | .FunctionDef _ a _ _ _ _ _ _ _ _=>a
 | _=>{ posonlyargs:=[],args:=[],vararg:=none,kwonlyargs:=[],kw_defaults:=[],kwarg:=none,defaults:=[] }
def i7 (s:Stmt):List Stmt:=match s with
 | .FunctionDef _ _ b _ _ _ _ _ _ _=>b
 | _=>[]
def d7 (s:Stmt):Scope:=match s with
 | .FunctionDef _ _ _ _ _ _ sc _ _ _=>sc
 | _=>{ kind:=.function,names:=[],isGenerator:=false,isCoroutine:=false }
abbrev CX0:CXT:=fun _ _ _ _ _ _=>False
abbrev E0:XK:=fun _ _ _=>False
theorem oG {X:Cx}:gv CX0 X E0:=fun _ _ _ _ _ _ _ h=>h.elim
structure Fun (K:PySem.W.Frag) (x qual:Str) (st:Stmt) (f:Addr) (fd:FuncData):Prop where
 ex:∃ (oc:Value) (od:Option Addr) (kV doc pm:Value) (an:Option Addr) (cdv ct:Value) (osl:Array (Option Value)),
  fd = PySem.W.fnOf x qual (j6 st) (i7 st) (d7 st) .none kV doc pm an cdv ct ∧ K.lookup f = some ⟨oc,od,.func fd,osl⟩ ∧ PySem.W.codeIn K cdv qual = true
 kp:PySem.W.keepIn K (.ref f) = true
section
variable {P:Program} {w:World} {K:PySem.W.Frag} {mg:Str → Option Value} {base:Heap}
theorem Fun.ok {x qual:Str} {st:Stmt} {f:Addr} {fd:FuncData} {N ps:List Str} {k:Nat} {sp:Sp} (F:Fun K x qual st f fd) (S:FnScope N ps (d7 st)) (len:∀ vs H Q E,sp vs H Q E → vs.length = ps.length)
  (hbody:∀ (cdv:Value) (A:Around) (outer:List Env) (s:Shared) (H:Hp) (vs:List V) (Q:VK) (E:XK),C3 k (A.deeper (envOfC qual (d7 st) s.heap.objs.size f cdv)) → sp vs H Q E →
   ∃ t,PSs (M6 CX0 P w K mg base N qual (d7 st) f cdv A outer s H E).nox (i7 st) t ∧ t { nx:=fun _ H'=>Q .non H',rt:=Q } (start N vs) H):X5 P w K mg base CX0 (k + 1) f fd ps sp:=by
 obtain ⟨oc,od,kV,doc,pm,an,cdv,ct,osl,rfl,lk,hcd⟩:=F.ex
 refine dY lk hcd S len fun A outer s H vs Q E hr hsp=>?_
 obtain ⟨t,h,q⟩:=hbody cdv A outer s H vs Q E hr hsp
 exact ⟨t,h.nox,q⟩
theorem ki {x qual:Str} {st:Stmt} {f:Addr} {oc:Value} {od an:Option Addr} {osl:Array (Option Value)} {kV doc pm cdv ct:Value} (l:K.lookup f = some ⟨oc,od,.func (PySem.W.fnOf x qual (j6 st) (i7 st) (d7 st) .none kV doc pm an cdv ct),osl⟩)
  (c:PySem.W.codeIn K cdv qual = true) (k:PySem.W.keepIn K (.ref f) = true):Fun K x qual st f (PySem.W.fnOf x qual (j6 st) (i7 st) (d7 st) .none kV doc pm an cdv ct):=⟨⟨oc,od,kV,doc,pm,an,cdv,ct,osl,rfl,l,c⟩,k⟩
end
theorem L9 {A:Around} {k:Nat} (hr:C3 k A):A.units + 1 < cLine:=Nat.lt_of_le_of_lt (Nat.add_le_add_left (by decide:1 ≤ 64) _) hr.units
theorem B5 {n:Nat} (h:n ≤ 1000):n < sizeLine:=Nat.lt_of_le_of_lt h (by decide)
section
variable {X:Cx}
theorem pv (i:Nat) {x:Str} {pos:Pos} (hN:X.N[i]? = some x:=by rfl) (hv:Vis X.env.scope x:=by first | exact Or.inl rfl | exact Or.inr (Or.inl rfl) | exact Or.inr (Or.inr rfl)) (hd:(x == ("__debug__":Str)) = false:=by decide)
  (hcd:(x == ("__classdict__":Str)) = false:=by decide):PE X (.Name x pos) (gw i):=qd hN hv hd hcd
end
theorem C2 {A B:Prop} (h:B):if false = true then A else B:=by
 rw [if_neg Bool.false_ne_true]
 exact h
theorem V8 {A B:Prop} (h:A):if true = true then A else B:=by
 rw [if_pos rfl]
 exact h
theorem E9 {c A B:Prop} [Decidable c] (h1:c → A) (h2:¬ c → B):if c then A else B:=by
 by_cases h:c
 ·rw [if_pos h]
  exact h1 h
 ·rw [if_neg h]
  exact h2 h
def j7 (H H':Hp):Prop:=∀ b o,H b = some o → H' b = some o
theorem j7.refl (H:Hp):j7 H H:=fun _ _ h=>h
theorem j7.trans {H H1 H2:Hp} (a:j7 H H1) (b:j7 H1 H2):j7 H H2:=fun c o h=>b c o (a c o h)
theorem j7.free {H H':Hp} (e:j7 H H') {l:Addr} (h:H' l = Option.none):H l = Option.none:=by
 cases q:H l with
 | none=>rfl
 | some o =>
  rw [e l o q] at h
  cases h
theorem j7.seq {K:PySem.W.Frag} {H H':Hp} {a:Addr} {xs:List V} (e:j7 H H') (h:SqL K H a xs):SqL K H' a xs:=by
 rcases h with (h | ⟨o,h⟩) | h
 ·exact .inl (.inl (e _ _ h))
 ·exact .inl (.inr ⟨o,e _ _ h⟩)
 ·exact .inr h
end L2
namespace L2
open PySem PySem.Spec PyProof.Rows
section
variable {κ:Type} [DecidableEq κ]
def r9 (kvs:List (κ × V)) (k:κ):Option V:=(kvs.find? fun kv=>decide (kv.1 = k)).map (·.2)
def B7 (kvs:List (κ × V)) (k:κ) (v:V):List (κ × V) :=
 if (kvs.any fun kv=>decide (kv.1 = k)) = true then kvs.map (fun kv=>if kv.1 = k then (kv.1,v) else kv) else kvs ++ [(k,v)]
def K4 (kvs:List (κ × V)) (k:κ):List (κ × V):=kvs.filter fun kv=>decide (kv.1 ≠ k)
theorem A0 {p:κ × V} {r:List (κ × V)} {k:κ} (e:p.1 = k):r9 (p :: r) k = some p.2:=by simp [r9,List.find?_cons,e]
theorem x8 {p:κ × V} {r:List (κ × V)} {k:κ} (e:¬ p.1 = k):r9 (p :: r) k = r9 r k:=by simp [r9,List.find?_cons,e]
theorem O7 (k:κ):∀ kvs:List (κ × V),(kvs.any fun kv=>decide (kv.1 = k)) = (r9 kvs k).isSome
 | []=>rfl
 | p :: r=>by
  rw [List.any_cons]
  by_cases e:p.1 = k
  ·simp only [A0 e,decide_eq_true e,Bool.true_or,Option.isSome_some]
  ·rw [x8 e,decide_eq_false e,Bool.false_or]; exact O7 k r
theorem eB (k j:κ) (y:V):∀ kvs:List (κ × V),r9 (kvs.map fun kv=>if kv.1 = k then (kv.1,y) else kv) j = (r9 kvs j).map fun x=>if j = k then y else x
 | []=>rfl
 | p :: r=>by
  have ih:=eB k j y r
  rw [List.map_cons]
  by_cases h:p.1 = k
  ·rw [if_pos h]
   by_cases e:p.1 = j
   ·rw [A0 (p:=(p.1,y)) e,A0 e,Option.map_some,if_pos (e.symm.trans h)]
   ·rw [x8 (p:=(p.1,y)) e,x8 e,ih]
  ·rw [if_neg h]
   by_cases e:p.1 = j
   ·rw [A0 (p:=p) e,A0 e,Option.map_some,if_neg (fun z=>h (e.trans z))]
   ·rw [x8 (p:=p) e,x8 e,ih]
theorem cz (k j:κ) (y:V):∀ kvs:List (κ × V),r9 kvs k = none → r9 (kvs ++ [(k,y)]) j = if j = k then some y else r9 kvs j
 | [],_=>by
  by_cases e:k = j
  ·rw [if_pos e.symm]; exact A0 (p:=(k,y)) e
  ·rw [if_neg (fun z=>e z.symm)]; exact x8 (p:=(k,y)) e
 | p :: r,hn=>by
  rw [List.cons_append]
  have hk:¬ p.1 = k:=fun z=>by rw [A0 z] at hn; cases hn
  rw [x8 hk] at hn
  have ih:=cz k j y r hn
  by_cases e:p.1 = j
  ·rw [A0 e,A0 e,if_neg (fun z=>hk (e.trans z))]
  ·rw [x8 e,x8 e,ih]
theorem Q3 (kvs:List (κ × V)) (k j:κ) (y:V):r9 (B7 kvs k y) j = if j = k then some y else r9 kvs j:=by
 unfold B7
 by_cases a:(kvs.any fun kv=>decide (kv.1 = k)) = true
 ·rw [if_pos a,eB]
  rw [O7] at a
  by_cases e:j = k
  ·obtain ⟨x,hx⟩:=Option.isSome_iff_exists.mp a
   rw [if_pos e,e,hx,Option.map_some,if_pos rfl]
  ·rw [if_neg e]
   cases r9 kvs j with
   | none=>rfl
   | some x=>rw [Option.map_some,if_neg e]
 ·rw [if_neg a]
  refine cz k j y kvs ?_
  rw [O7] at a
  cases q:r9 kvs k with
  | none=>rfl
  | some x=>rw [q] at a; exact (a rfl).elim
theorem F2 (kvs:List (κ × V)) (k:κ) (v:V):(B7 kvs k v).length ≤ kvs.length + 1:=by
 unfold B7
 split
 ·rw [List.length_map]; lia
 ·rw [List.length_append,List.length_cons,List.length_nil]; lia
theorem kz {kvs:List (κ × V)} {k:κ} (v:V) (h:r9 kvs k = none):B7 kvs k v = kvs ++ [(k,v)]:=by
 unfold B7
 rw [O7,h]
 exact if_neg (by decide)
theorem T2.isSome_eq {o:Option V} {u:Option Value} (r:T2 o u):o.isSome = u.isSome:=by
 cases o with
 | none=>cases u with
  | none=>rfl
  | some _=>exact (show False from r).elim
 | some _=>cases u with
  | none=>exact (show False from r).elim
  | some _=>rfl
theorem T2.getD {o:Option V} {u:Option Value} {d:V} {d':Value} (r:T2 o u) (rd:o9 d d'):o9 (o.getD d) (u.getD d'):=by
 cases o with
 | none=>cases u with
  | none=>exact rd
  | some _=>exact (show False from r).elim
 | some _=>cases u with
  | none=>exact (show False from r).elim
  | some _=>exact r
theorem KV.val {kvs:List (κ × V)} {vs:List (κ × Value)} (r:KV kvs vs) (k:κ):T2 (r9 kvs k) (valueAt vs k):=by
 unfold KV at r
 induction r with
 | nil=>exact True.intro
 | @cons p q ps qs h t ih =>
  obtain ⟨h1,h2⟩:=h
  by_cases e:p.1 = k
  ·have e':q.1 = k:=h1.symm.trans e
   have b:valueAt (q :: qs) k = some q.2:=by simp [valueAt,List.find?_cons,e']
   rw [A0 e,b]; exact h2
  ·have e':¬ q.1 = k:=fun z=>e (h1.trans z)
   have b:valueAt (q :: qs) k = valueAt qs k:=by simp [valueAt,List.find?_cons,e']
   rw [x8 e,b]; exact ih
theorem KV.any {kvs:List (κ × V)} {vs:List (κ × Value)} (r:KV kvs vs) (k:κ):(kvs.any fun kv=>decide (kv.1 = k)) = vs.any fun kv=>decide (kv.1 = k):=by
 unfold KV at r
 induction r with
 | nil=>rfl
 | cons h t ih=>rw [List.any_cons,List.any_cons,ih,h.1]
theorem KV.repl {kvs:List (κ × V)} {vs:List (κ × Value)} (r:KV kvs vs) (k:κ) {y:V} {u:Value} (ry:o9 y u) :
  KV (kvs.map fun kv=>if kv.1 = k then (kv.1,y) else kv) (vs.map fun kv=>if kv.1 = k then (kv.1,u) else kv):=by
 unfold KV at r ⊢
 induction r with
 | nil=>exact .nil
 | @cons p q ps qs h t ih =>
  rw [List.map_cons,List.map_cons]
  refine .cons ?_ ih
  obtain ⟨h1,h2⟩:=h
  by_cases e:p.1 = k
  ·rw [if_pos e,if_pos (h1.symm.trans e)]; exact ⟨h1,ry⟩
  ·rw [if_neg e,if_neg (fun z=>e (h1.trans z))]; exact ⟨h1,h2⟩
theorem KV.put {kvs:List (κ × V)} {vs:List (κ × Value)} (r:KV kvs vs) (k:κ) {y:V} {u:Value} (ry:o9 y u):KV (B7 kvs k y) (stored vs k u):=by
 unfold B7 stored
 rw [r.any k]
 by_cases e:(vs.any fun kv=>decide (kv.1 = k)) = true
 ·rw [if_pos e,if_pos e]; exact r.repl k ry
 ·rw [if_neg e,if_neg e]; exact Paired.snoc r ⟨rfl,ry⟩
theorem KV.keys {kvs:List (κ × V)} {vs:List (κ × Value)} (r:KV kvs vs):kvs.map (·.1) = vs.map (·.1):=by
 unfold KV at r
 induction r with
 | nil=>rfl
 | cons h t ih=>rw [List.map_cons,List.map_cons,ih,h.1]
theorem KV.length {kvs:List (κ × V)} {vs:List (κ × Value)} (r:KV kvs vs):kvs.length = vs.length:=Paired.length r
theorem bG (kvs:List (κ × V)) (k:κ):(K4 kvs k).length ≤ kvs.length:=List.length_filter_le _ _
end
theorem cH {P:Program} {w:World} {k:Key} {u:Value} (r:o9 (kV k) u):(u9 P w).is k u = true:=by
 cases k with
 | inl i=>obtain ⟨t,e⟩:=(show ∃ t,u = Value.int i t from r); subst e; exact eE P w i t
 | inr x=>obtain ⟨t,e⟩:=(show ∃ t,u = Value.str x t from r); subst e; exact eM P w x t
theorem pV {a b:Key} (e:kV a = kV b):a = b:=by
 cases a with
 | inl i=>cases b with
  | inl j=>have e':V.int i = V.int j:=e; injection e' with e'; rw [e']
  | inr y=>exact nomatch (show V.int i = V.str y from e)
 | inr x=>cases b with
  | inl j=>exact nomatch (show V.str x = V.int j from e)
  | inr y=>have e':V.str x = V.str y:=e; injection e' with e'; rw [e']
theorem cK {P:Program} {w:World}:∀ {ks:List Key} {us:List Value},n6 (ks.map kV) us → ItemsAre (u9 P w) ks us
 | [],_,r=>by rw [List.map_nil] at r; cases r; exact .nil
 | k :: ks,_,r=>by
  rw [List.map_cons] at r
  cases r with
  | cons h t=>exact .cons (cH h) (cK t)
abbrev KT (H:Hp):List (List Key × V) → List (List Key × Addr × Value) → Prop:=Paired fun p q=>p.1 = q.1 ∧ H q.2.1 = some (.tup (p.1.map kV)) ∧ o9 p.2 q.2.2
theorem KT.val {H:Hp} {kvs:List (List Key × V)} {xs:List (List Key × Addr × Value)} (r:KT H kvs xs) (k:List Key):T2 (r9 kvs k) ((atKey xs k).map (·.2)):=by
 induction r with
 | nil=>exact True.intro
 | @cons p q ps qs h t ih =>
  obtain ⟨h1,_,h2⟩:=h
  by_cases e:p.1 = k
  ·have e':q.1 = k:=h1.symm.trans e
   have b:atKey (q :: qs) k = some q.2:=by simp [atKey,List.find?_cons,e']
   rw [A0 e,b]; exact h2
  ·have e':¬ q.1 = k:=fun z=>e (h1.trans z)
   have b:atKey (q :: qs) k = atKey qs k:=by simp [atKey,List.find?_cons,e']
   rw [x8 e,b]; exact ih
theorem KT.repl {H:Hp} {kvs:List (List Key × V)} {xs:List (List Key × Addr × Value)} (r:KT H kvs xs) (k:List Key) {y:V} {u:Value} (ry:o9 y u) :
  KT H (kvs.map fun kv=>if kv.1 = k then (kv.1,y) else kv) (xs.map (putAt k u)):=by
 induction r with
 | nil=>exact .nil
 | @cons p q ps qs h t ih =>
  rw [List.map_cons,List.map_cons]
  refine .cons ?_ ih
  obtain ⟨h1,h2,h3⟩:=h
  unfold putAt
  by_cases e:p.1 = k
  ·rw [if_pos e,if_pos (h1.symm.trans e)]; exact ⟨h1,h2,ry⟩
  ·rw [if_neg e,if_neg (fun z=>e (h1.trans z))]; exact ⟨h1,h2,h3⟩
theorem KT.put {H:Hp} {kvs:List (List Key × V)} {xs:List (List Key × Addr × Value)} (r:KT H kvs xs) (k:List Key) {b:Addr} {y:V} {u:Value} (hb:H b = some (.tup (k.map kV))) (ry:o9 y u) :
  KT H (B7 kvs k y) (storedH xs k b u):=by
 have e:(kvs.any fun kv=>decide (kv.1 = k)) = (atKey xs k).isSome:=by
  rw [O7,(r.val k).isSome_eq,Option.isSome_map]
 unfold B7 storedH
 rw [e]
 by_cases q:(atKey xs k).isSome = true
 ·rw [if_pos q,if_pos q]; exact r.repl k ry
 ·rw [if_neg q,if_neg q]; exact Paired.snoc r ⟨rfl,hb,ry⟩
theorem KT.keeps {H H':Hp} {kvs:List (List Key × V)} {xs:List (List Key × Addr × Value)} (r:KT H kvs xs) (ht:∀ b ys,H b = some (.tup ys) → H' b = some (.tup ys)):KT H' kvs xs :=
 Paired.mapP r fun _ _ z=>⟨z.1,ht _ _ z.2.1,z.2.2⟩
section
variable {P:Program} {w:World} {H:Hp} {h:Heap} {a:Addr}
theorem oQ {u:HO} (ok:HOk P w H h) (e:Rd H a u):p3 P w H h a u:=e.ok ok
theorem ai {kvs:List (Key × V)} (ok:HOk P w H h) (e:Rd H a (.dK kvs)):kvs.length ≤ sizeLine ∧ (a == sysModules) = false ∧ ∃ vs,KV kvs vs ∧ h.DictOf (u9 P w) a vs :=
 show p3 P w H h a (.dK kvs) from oQ ok e
theorem qZ {kvs:List (Key × V)} (ok:HOk P w H h) (e:H a = some (.dK kvs)):kvs.length ≤ sizeLine ∧ (a == sysModules) = false ∧ ∃ vs,KV kvs vs ∧ h.DictOf (u9 P w) a vs:=ai ok (.inl e)
theorem W3 {ks:List Key} (ok:HOk P w H h) (e:H a = some (.tup (ks.map kV))):(tupleKind (u9 P w)).is h ks a:=by
 obtain ⟨_,its,r,o,h1,h2,n,h3⟩:=(show p3 P w H h a (.tup (ks.map kV)) from ok a _ e)
 exact ⟨o,its.toArray,n,h1,h2,h3,by simpa using cK r⟩
theorem bc {kvs:List (List Key × V)} (ok:HOk P w H h) (e:Rd H a (.dT kvs)):kvs.length ≤ sizeLine ∧ (a == sysModules) = false ∧
  ∃ xs,KT H kvs xs ∧ h.DictOfH (tupleKind (u9 P w)) a xs:=by
 obtain ⟨z,y,xs,r,o,es,ep,h1,h2,h3,h4,h5⟩:=(show p3 P w H h a (.dT kvs) from oQ ok e)
 refine ⟨z,y,xs,r,o,es,ep,h1,h2,h3,h4,fun x hx=>?_,h5⟩
 have all:∀ {l:List (List Key × V)} {m:List (List Key × Addr × Value)},KT H l m → ∀ x ∈ m,(tupleKind (u9 P w)).is h x.1 x.2.1:=by
  intro l m q
  induction q with
  | nil=>intro x hx; exact nomatch hx
  | @cons p q ps qs hq t ih =>
   intro x hx
   rcases List.mem_cons.mp hx with e | hx
   ·subst e
    exact W3 ok (by rw [← hq.1]; exact hq.2.1)
   ·exact ih x hx
 exact all r x hx
theorem oJ {kvs:List (List Key × V)} (ok:HOk P w H h) (e:H a = some (.dT kvs)):kvs.length ≤ sizeLine ∧ (a == sysModules) = false ∧
  ∃ xs,KT H kvs xs ∧ h.DictOfH (tupleKind (u9 P w)) a xs:=bc ok (.inl e)
end
def N4 (H:Hp) (a:Addr) (y:V) (r:Option V):Prop :=
 (∃ kvs k,Rd H a (.dK kvs) ∧ y = kV k ∧ r = r9 kvs k) ∨ ∃ kvs k b,Rd H a (.dT kvs) ∧ y = .ref b ∧ H b = some (.tup (k.map kV)) ∧ r = r9 kvs k
def aB (H:Hp) (a:Addr) (y v:V) (H':Hp):Prop :=
 (∃ kvs k,H a = some (.dK kvs) ∧ y = kV k ∧ kvs.length < sizeLine ∧ H' = upd H a (.dK (B7 kvs k v))) ∨
 ∃ kvs k b,H a = some (.dT kvs) ∧ y = .ref b ∧ H b = some (.tup (k.map kV)) ∧ kvs.length < sizeLine ∧ H' = upd H a (.dT (B7 kvs k v))
theorem N4.k {H:Hp} {a:Addr} {kvs:List (Key × V)} {k:Key} (e:H a = some (.dK kvs)):N4 H a (kV k) (r9 kvs k):=.inl ⟨kvs,k,.inl e,rfl,rfl⟩
theorem N4.t {H:Hp} {a b:Addr} {kvs:List (List Key × V)} {k:List Key} (e:H a = some (.dT kvs)) (eb:H b = some (.tup (k.map kV))):N4 H a (.ref b) (r9 kvs k):=.inr ⟨kvs,k,b,.inl e,rfl,eb,rfl⟩
theorem aB.k {H:Hp} {a:Addr} {kvs:List (Key × V)} {k:Key} {v:V} (e:H a = some (.dK kvs)) (hl:kvs.length < sizeLine):aB H a (kV k) v (upd H a (.dK (B7 kvs k v))):=.inl ⟨kvs,k,e,rfl,hl,rfl⟩
theorem aB.t {H:Hp} {a b:Addr} {kvs:List (List Key × V)} {k:List Key} {v:V} (e:H a = some (.dT kvs)) (eb:H b = some (.tup (k.map kV))) (hl:kvs.length < sizeLine) :
  aB H a (.ref b) v (upd H a (.dT (B7 kvs k v))):=.inr ⟨kvs,k,b,e,rfl,eb,hl,rfl⟩
section
variable {X:Cx} {pins:List (Addr × Obj)} {σ:St} {H:Hp} {s:Shared} {a:Addr} {y v:V} {u r:Value} {o:Option V} {A:Around} {E:Value → Shared → Prop}
theorem Inv.big (I:Inv X pins σ H s):sysModules < s.heap.objs.size:=by
 have h:mainGlobals < s.heap.objs.size:=(I.mod.glob.keeps I.bk).lt
 exact Nat.lt_trans (by decide) h
theorem kg {Q:Value → Shared → Prop} (hu:A.units + 1 < cLine) (I:Inv X pins σ H s) (g:N4 H a y (some v)) (ry:o9 y u) (h:∀ w' s',Inv X pins σ H s' → o9 v w' → Q w' s') :
  wpAny (model X.prog X.w) A (getItem (.ref a) u) Q E s:=by
 rcases g with ⟨kvs,k,e,ey,l⟩ | ⟨kvs,k,b,e,ey,eb,l⟩
 ·subst ey
  obtain ⟨z,hd,vs,rel,dd⟩:=ai I.hok e
  obtain ⟨w',hw,rw'⟩:=T2.some_of (v:=v) (o:=valueAt vs k) (by rw [l]; exact rel.val k)
  exact wpAny_getItem_of (cH ry) dd.mapOf hw (h w' _ (I.tok _) rw')
 ·subst ey
  cases (show u = Value.ref b from ry)
  obtain ⟨z,hd,xs,rel,dd⟩:=bc I.hok e
  obtain ⟨w',hw,rw'⟩:=T2.some_of (v:=v) (o:=(atKey xs k).map (·.2)) (by rw [l]; exact rel.val k)
  obtain ⟨p,hp,hp2⟩:=Option.map_eq_some_iff.mp hw
  refine wpAny_getItem_heap (tupleKind_room_in1 hu) (W3 I.hok eb) dd hp ?_
  rw [hp2]
  exact h w' _ (I.tok _) rw'
theorem rW {Q:Value → Shared → Prop} (hu:A.units + 1 < cLine) (I:Inv X pins σ H s) (g:N4 H a y o) (ry:o9 y u) (h:∀ s',Inv X pins σ H s' → Q (.bool o.isSome) s') :
  wpAny (model X.prog X.w) A (compareOp .In u (.ref a)) Q E s:=by
 rcases g with ⟨kvs,k,e,ey,l⟩ | ⟨kvs,k,b,e,ey,eb,l⟩
 ·subst ey
  obtain ⟨z,hd,vs,rel,dd⟩:=ai I.hok e
  refine wpAny_in_of (cH ry) hd dd.mapOf ?_
  rw [← (rel.val k).isSome_eq,← l]
  exact h _ (I.tok _)
 ·subst ey
  cases (show u = Value.ref b from ry)
  obtain ⟨z,hd,xs,rel,dd⟩:=bc I.hok e
  refine wpAny_in_heap (tupleKind_room_in1 hu) (W3 I.hok eb) hd dd ?_
  have q:=(rel.val k).isSome_eq
  rw [Option.isSome_map] at q
  rw [← q,← l]
  exact h _ (I.tok _)
theorem df {h':Heap} {t':Nat} {ob:HO} (I:Inv X pins σ H s) (mu:Mut (H a)) (hs:Heap.SameBut a s.heap h') (he:∃ q,h'.get? a = some q) (new:p3 X.prog X.w (upd H a ob) h' a ob) :
  Inv X pins σ (upd H a ob) { s with heap:=h',toks:=t' } :=
 I.write (x:=a) (e:=a) mu (.inl rfl) (fun b q hb z=>(hs.2 b hb).trans z) he new
theorem pO {P:Program} {w:World} {H':Hp} {h':Heap} {kvs:List (Key × V)} {vs:List (Key × Value)} (z:kvs.length ≤ sizeLine) (hd:(a == sysModules) = false) (rel:KV kvs vs) (dd:h'.DictOf (u9 P w) a vs) :
  p3 P w H' h' a (.dK kvs):=⟨z,hd,vs,rel,dd⟩
theorem jE {H':Hp} {Q:Unit → Shared → Prop} (hu:A.units + 1 < cLine) (I:Inv X pins σ H s) (g:aB H a y v H') (ry:o9 y u) (rv:o9 v r) (h:∀ s',Inv X pins σ H' s' → Q () s') :
  wpAny (model X.prog X.w) A (setItem (.ref a) u r) Q E s:=by
 rcases g with ⟨kvs,k,e,ey,l,eH⟩ | ⟨kvs,k,b,e,ey,eb,l,eH⟩
 ·subst ey eH
  obtain ⟨z,hd,vs,rel,dd⟩:=qZ I.hok e
  have hz:vs.length ≤ sizeLine:=by rw [← rel.length]; exact z
  have hl:(B7 kvs k v).length ≤ sizeLine:=by have:=F2 kvs k v; lia
  refine wpAny_setItem_pairs (hsz:=hz) (cH ry) dd fun h' dd' hs=>h _ ?_
  have he:∃ q,h'.get? a = some q:=let ⟨q,_,_,hq,_⟩:=dd'; ⟨q,hq⟩
  exact df I (by rw [e]; exact True.intro) hs he (pO hl hd (rel.put k rv) dd')
 ·subst ey eH
  cases (show u = Value.ref b from ry)
  obtain ⟨z,hd,xs,rel,dd⟩:=oJ I.hok e
  have hz:xs.length ≤ sizeLine:=by rw [← Paired.length rel]; exact z
  have hl:(B7 kvs k v).length ≤ sizeLine:=by have:=F2 kvs k v; lia
  refine wpAny_setItem_heap (hsz:=hz) (tupleKind_room_in1 hu) (W3 I.hok eb) dd fun h' dd' hs=>h _ ?_
  obtain ⟨q,es,ep,hq,h2,h3,h4,_,h5⟩:=dd'
  refine df I (by rw [e]; exact True.intro) hs ⟨q,hq⟩ ⟨hl,hd,_,(rel.put k eb rv).keeps fun c ys ec=>?_,q,es,ep,hq,h2,h3,h4,h5⟩
  rw [g7 (oH ec e (fun z=>nomatch z))]
  exact ec
end
def qH (i:Expr):Prop:=∀ ov iv,subscripted i false ov iv = operate [ov,iv] (getItem ov iv)
theorem nH {prog:Program} {w:World} {A:Around} {E:Value → Shared → Prop} {s:Shared} {env:Env} {value slice:Expr} {pos:Pos} {T id:String} {Q:Value → Shared → Prop}
  (hl:typeLookup (.type T) "__getitem__" = pure (some (.builtin id))) (hs:qH slice)
  (h:wpAny (model prog w) A (eval value env) (fun o s₁=>wpAny (model prog w) A (eval slice env) (fun i s₂=>s₂.TypeIs o T ∧ wpAny (model prog w) A (getItem o i) Q E s₂) E s₁) E s) :
  wpAny (model prog w) A (eval (.Subscript value slice pos) env) Q E s:=by
 refine Subscript_ (wpAny_mono h (fun o s₁ h₁=>wpAny_mono h₁ (fun i s₂ h₂=>?_) fun _ _ x=>x) fun _ _ x=>x)
 obtain ⟨hT,h₂⟩:=h₂
 unfold subscriptTail
 refine wpAny_bind ?_
 rw [getitemInPython_of_ne hT.not_modules]
 refine wpAny_bind (wpAny_specialOf hT hl ?_)
 have fin:wpAny (model prog w) A (subscripted slice false o i) (fun r s₃=>wpAny (model prog w) A (letTemporaryGo value o r >>= fun _=>pure r) Q E s₃) E s₂:=by
  rw [hs o i]
  exact wpAny_operating (wpAny_mono h₂ (fun r s₃ h₃=>wpAny_bind (wpAny_letTemporaryGo (wpAny_pure h₃))) fun _ _ x=>x)
 first
  | exact wpAny_pure (wpAny_bind fin)
  | exact wpAny_bind (wpAny_pure (wpAny_bind fin))
  | exact wpAny_bind fin
theorem fQ {X:Cx} {pins:List (Addr × Obj)} {σ:St} {H:Hp} {s:Shared} {a:Addr} {y:V} {o:Option V} (I:Inv X pins σ H s) (g:N4 H a y o):s.TypeIs (.ref a) "dict":=by
 rcases g with ⟨kvs,k,e,_,_⟩ | ⟨kvs,k,b,e,_,_,_⟩
 ·obtain ⟨_,_,vs,_,dd⟩:=ai I.hok e
  exact dd.typeIs
 ·obtain ⟨_,_,xs,_,dd⟩:=bc I.hok e
  exact dd.typeIs
def qD (td ty:TE):TE:=fun σ H Q=>td σ H fun x H1=>ty σ H1 fun y H2=>∃ a v,x = .ref a ∧ N4 H2 a y (some v) ∧ Q v H2
def rP (ty td:TE):TE:=fun σ H Q=>ty σ H fun y H1=>td σ H1 fun x H2=>∃ a o,x = .ref a ∧ N4 H2 a y o ∧ Q (.bl o.isSome) H2
def qB (td ty tv:TE):TS:=fun D σ H=>tv σ H fun v H1=>td σ H1 fun x H2=>ty σ H2 fun y H3=>∃ a H4,x = .ref a ∧ aB H3 a y v H4 ∧ D.nx σ H4
section
variable {X:Cx} {o i e value:Expr} {pos pos' tpos:Pos} {td ty tv:TE}
theorem mD (hu:X.A.units + 1 < cLine) (ho:PE X o td) (hi:PE X i ty) (hs:qH i):PE X (.Subscript o i pos) (qD td ty):=by
 intro pins s σ H Q I h
 refine nH PySem.F.slot_dict_getitem.lookup hs (thn (ho pins s σ H _ I h) fun u s1 ⟨x,H1,I1,rx,q1⟩=>thn (hi pins s1 σ H1 _ I1 q1) fun iv s2 ⟨y,H2,I2,ry,a,v,ex,g,q2⟩=>?_)
 subst ex
 obtain rfl:u = Value.ref a:=rx
 exact ⟨fQ I2 g,kg hu I2 g ry fun w' s3 I3 rw'=>⟨v,H2,I3,rw',q2⟩⟩
theorem aN (hu:X.A.units + 1 < cLine) (hi:PE X i ty) (ho:PE X o td):PC X .In i o (rP ty td):=by
 intro pins s σ H Q I h
 refine thn (hi pins s σ H _ I h) fun iv s1 ⟨y,H1,I1,ry,q1⟩=>thn (ho pins s1 σ H1 _ I1 q1) fun u s2 ⟨x,H2,I2,rx,a,ov,ex,g,q2⟩=>?_
 subst ex
 obtain rfl:u = Value.ref a:=rx
 exact rW hu I2 g ry fun s3 I3=>⟨.bl ov.isSome,H2,I3,rfl,q2⟩
theorem U1 (hu:X.A.units + 1 < cLine) (ho:PE X o td) (hi:PE X i ty) (hv:PE X value tv) (hs:swapsWith value (some (.Subscript o i pos')) pos.line X.env = pure false) :
  PS X (.Assign [.Subscript o i pos'] value pos) (qB td ty tv):=by
 intro pins s σ H D I h
 refine wpAny_Assign_Subscript (thn (hv pins s σ H _ I h) fun r s1 ⟨v,H1,I1,rv,q1⟩=>thn (ho pins s1 σ H1 _ I1 q1) fun u s2 ⟨x,H2,I2,rx,q2⟩=>thn (hi pins s2 σ H2 _ I2 q2) fun iv s3 ⟨y,H3,I3,ry,a,H4,ex,g,q3⟩=>?_) hs
 subst ex
 obtain rfl:u = Value.ref a:=rx
 exact jE hu I3 g ry rv fun s4 I4=>⟨σ,H4,I4,q3⟩
end
theorem kZ {P:Program} {w:World} {H:Hp} (h:Heap) (hb:sysModules < h.objs.size):p3 P w H (h.push { cls:=.type "dict",data:=.dict #[] }) h.objs.size (.dK []) :=
 ⟨Nat.zero_le _,beq_eq_false_iff_ne.mpr (Ne.symm (Nat.ne_of_lt hb)),[],.nil,Heap.DictOf.new h⟩
theorem kL {P:Program} {w:World} {H:Hp} (h:Heap) (hb:sysModules < h.objs.size):p3 P w H (h.push { cls:=.type "dict",data:=.dict #[] }) h.objs.size (.dT []) :=
 ⟨Nat.zero_le _,beq_eq_false_iff_ne.mpr (Ne.symm (Nat.ne_of_lt hb)),[],.nil,_,#[],0,Heap.get?_push_size _ rfl,⟨rfl,rfl,rfl⟩,rfl,rfl,List.nodup_nil⟩
def qc:TE:=fun _ H Q=>∀ p,H p = none → Q (.ref p) (upd H p (.dK []))
def qi:TE:=fun _ H Q=>∀ p,H p = none → Q (.ref p) (upd H p (.dT []))
section
variable {X:Cx} {pos:Pos}
theorem X3:PE X (.Dict [] [] pos) qc:=fun pins s σ H Q I h =>
 wpAny_Dict_empty ⟨.ref s.heap.objs.size,_,I.laid (a:=s.heap.objs.size) (o:=.dK []) (t':=s.toks) (fun _ _ q=>Heap.get?_push_of_some _ q) (Nat.le_refl _) (kZ s.heap I.big),rfl,h _ (I.hok.fresh (Nat.le_refl _))⟩
theorem bo:PE X (.Dict [] [] pos) qi:=fun pins s σ H Q I h =>
 wpAny_Dict_empty ⟨.ref s.heap.objs.size,_,I.laid (a:=s.heap.objs.size) (o:=.dT []) (t':=s.toks) (fun _ _ q=>Heap.get?_push_of_some _ q) (Nat.le_refl _) (kL s.heap I.big),rfl,h _ (I.hok.fresh (Nat.le_refl _))⟩
end
structure M1 (X:Cx) (o:Expr) (m:Str) (apos:Pos) (e:Expr) (cpos:Pos):Prop where
 base:attributeBase o m X.env (eval o X.env) = eval o X.env
 few:((backTo cpos (starEach [e] X.env)).all (fun x=>!x.1) && (backToKw cpos (keywordEach [] X.env)).all (fun x=>x.1.isSome)
  && decide (([e]:List Expr).length + ([]:List Keyword).length + (if ([]:List Keyword).isEmpty then 0 else 1) < 30)) = true
 line:(apos.endLine == cpos.line) = true
 trees:backTo cpos (starEach [e] X.env) = [(false,eval e X.env)]
structure M2 (X:Cx) (o:Expr) (m:Str) (apos:Pos) (e f:Expr) (cpos:Pos):Prop where
 base:attributeBase o m X.env (eval o X.env) = eval o X.env
 few:((backTo cpos (starEach [e,f] X.env)).all (fun x=>!x.1) && (backToKw cpos (keywordEach [] X.env)).all (fun x=>x.1.isSome)
  && decide (([e,f]:List Expr).length + ([]:List Keyword).length + (if ([]:List Keyword).isEmpty then 0 else 1) < 30)) = true
 line:(apos.endLine == cpos.line) = true
 trees:backTo cpos (starEach [e,f] X.env) = [(false,eval e X.env),(false,eval f X.env)]
def IsD (H:Hp) (a:Addr):Prop:=(∃ kvs,Rd H a (.dK kvs)) ∨ ∃ kvs,Rd H a (.dT kvs)
theorem gB {X:Cx} {pins:List (Addr × Obj)} {σ:St} {H:Hp} {s:Shared} {a:Addr} (I:Inv X pins σ H s) (d:IsD H a) :
  s.TypeIs (.ref a) "dict" ∧ (∀ b,Value.ref a = .ref b → ∃ ob,s.heap.get? b = some ob ∧ ob.dict = none) ∧ (a == sysModules) = false:=by
 rcases d with ⟨kvs,e⟩ | ⟨kvs,e⟩
 ·obtain ⟨_,hd,vs,_,dd⟩:=ai I.hok e
  refine ⟨dd.typeIs,fun b q=>?_,hd⟩
  cases q
  obtain ⟨ob,_,_,h1,h2,_⟩:=dd
  exact ⟨ob,h1,h2.2.1⟩
 ·obtain ⟨_,hd,xs,_,dd⟩:=bc I.hok e
  refine ⟨dd.typeIs,fun b q=>?_,hd⟩
  cases q
  obtain ⟨ob,_,_,h1,h2,_⟩:=dd
  exact ⟨ob,h1,h2.2.1⟩
section
variable {X:Cx} {pins:List (Addr × Obj)} {σ:St} {H:Hp} {s:Shared} {a:Addr} {y d:V} {u r:Value} {o:Option V} {A:Around} {E:Value → Shared → Prop}
theorem pJ {Q:Value → Shared → Prop} (hu:A.units + 1 < cLine) (I:Inv X pins σ H s) (g:N4 H a y o) (ry:o9 y u) (h:∀ w' s',Inv X pins σ H s' → o9 (o.getD .non) w' → Q w' s') :
  wpAny (model X.prog X.w) A (call (.builtin "dict.get") [.ref a,u]) Q E s:=by
 rcases g with ⟨kvs,k,e,ey,l⟩ | ⟨kvs,k,b,e,ey,eb,l⟩
 ·subst ey
  obtain ⟨z,hd,vs,rel,dd⟩:=ai I.hok e
  refine call_meetsIn PySem.F.slot_dict_get dd.typeIs PySem.F.entry_dict_get (PySem.F.args_dict_get_2 _ _) (meets_dict_get (u9 X.prog X.w) a (cH ry) hd) ⟨_,dd.mapOf,h _ _ (I.tok _) ?_⟩
  rw [l]
  exact (rel.val k).getD rfl
 ·subst ey
  cases (show u = Value.ref b from ry)
  obtain ⟨z,hd,xs,rel,dd⟩:=bc I.hok e
  refine call_meetsIn PySem.F.slot_dict_get dd.typeIs PySem.F.entry_dict_get (PySem.F.args_dict_get_2 _ _) (meetsH_dict_get (tupleKind (u9 X.prog X.w)) a b hd) ⟨tupleKind_room_in1 hu,k,xs,W3 I.hok eb,dd,h _ _ (I.tok _) ?_⟩
  rw [l]
  exact (rel.val k).getD rfl
theorem qz {Q:Value → Shared → Prop} (hu:A.units + 1 < cLine) (I:Inv X pins σ H s) (g:N4 H a y o) (ry:o9 y u) (rd:o9 d r) (h:∀ w' s',Inv X pins σ H s' → o9 (o.getD d) w' → Q w' s') :
  wpAny (model X.prog X.w) A (call (.builtin "dict.get") [.ref a,u,r]) Q E s:=by
 rcases g with ⟨kvs,k,e,ey,l⟩ | ⟨kvs,k,b,e,ey,eb,l⟩
 ·subst ey
  obtain ⟨z,hd,vs,rel,dd⟩:=ai I.hok e
  refine call_meetsIn PySem.F.slot_dict_get dd.typeIs PySem.F.entry_dict_get (PySem.F.args_dict_get_3 _ _ _) (meets_dict_get_default (u9 X.prog X.w) a (cH ry) hd r) ⟨_,dd.mapOf,h _ _ (I.tok _) ?_⟩
  rw [l]
  exact (rel.val k).getD rd
 ·subst ey
  cases (show u = Value.ref b from ry)
  obtain ⟨z,hd,xs,rel,dd⟩:=bc I.hok e
  refine call_meetsIn PySem.F.slot_dict_get dd.typeIs PySem.F.entry_dict_get (PySem.F.args_dict_get_3 _ _ _) (meetsH_dict_get_default (tupleKind (u9 X.prog X.w)) a b hd r) ⟨tupleKind_room_in1 hu,k,xs,W3 I.hok eb,dd,h _ _ (I.tok _) ?_⟩
  rw [l]
  exact (rel.val k).getD rd
end
def qj (td ty:TE):TE:=fun σ H Q=>td σ H fun x H1=>∃ a,x = .ref a ∧ IsD H1 a ∧ ty σ H1 fun y H2=>∃ o,N4 H2 a y o ∧ Q (o.getD .non) H2
def qw (td ty tx:TE):TE:=fun σ H Q=>td σ H fun x H1=>∃ a,x = .ref a ∧ IsD H1 a ∧ ty σ H1 fun y H2=>tx σ H2 fun z H3=>∃ o,N4 H3 a y o ∧ Q (o.getD z) H3
section
variable {X:Cx} {o e f:Expr} {apos cpos:Pos} {td ty tx:TE}
theorem fq (hu:X.A.units + 1 < cLine) (ho:PE X o td) (he:PE X e ty) (m:M1 X o "get" apos e cpos):PE X (.Call (.Attribute o "get" apos) [e] [] cpos) (qj td ty):=by
 intro pins s σ H Q I h
 refine wpAny_Call_method m.base m.few m.line PySem.F.plainAttrs_dict PySem.F.slot_dict_get PySem.F.type_dict_get (thn (ho pins s σ H _ I h) fun u s1 ⟨x,H1,I1,rx,a,ex,d,q1⟩=>?_)
 subst ex
 obtain rfl:u = Value.ref a:=rx
 obtain ⟨t1,t2,_⟩:=gB I1 d
 refine ⟨t1,t2,?_⟩
 rw [m.trees]
 refine Calls.callWith_builtin rfl (Calls.evalArgs_plain (Calls.spliced_cons (thn (he pins s1 σ H1 _ I1 q1) fun iv s2 ⟨y,H2,I2,ry,ov,g,q2⟩=>Calls.spliced_nil ?_)))
 exact pJ hu I2 g ry fun w' s3 I3 rw'=>⟨_,H2,I3,rw',q2⟩
theorem kR (hu:X.A.units + 1 < cLine) (ho:PE X o td) (he:PE X e ty) (hf:PE X f tx) (m:M2 X o "get" apos e f cpos):PE X (.Call (.Attribute o "get" apos) [e,f] [] cpos) (qw td ty tx):=by
 intro pins s σ H Q I h
 refine wpAny_Call_method m.base m.few m.line PySem.F.plainAttrs_dict PySem.F.slot_dict_get PySem.F.type_dict_get (thn (ho pins s σ H _ I h) fun u s1 ⟨x,H1,I1,rx,a,ex,d,q1⟩=>?_)
 subst ex
 obtain rfl:u = Value.ref a:=rx
 obtain ⟨t1,t2,_⟩:=gB I1 d
 refine ⟨t1,t2,?_⟩
 rw [m.trees]
 refine Calls.callWith_builtin rfl (Calls.evalArgs_plain (Calls.spliced_cons (thn (he pins s1 σ H1 _ I1 q1) fun iv s2 ⟨y,H2,I2,ry,q2⟩ =>
  Calls.spliced_cons (thn (hf pins s2 σ H2 _ I2 q2) fun fv s3 ⟨z,H3,I3,rz,ov,g,q3⟩=>Calls.spliced_nil ?_))))
 exact qz hu I3 g ry rz fun w' s4 I4 rw'=>⟨_,H3,I4,rw',q3⟩
end
end L2
namespace L2
open PySem PySem.Spec PyProof.Rows
section
variable {κ:Type} [DecidableEq κ]
theorem hV:∀ {l:List κ} {k:κ},l.Nodup → ¬ k ∈ l → (l ++ [k]).Nodup
 | [],k,_,_=>by simp
 | a :: r,k,h,hk=>by
  obtain ⟨h1,h2⟩:=List.nodup_cons.mp h
  show (a :: (r ++ [k])).Nodup
  refine List.nodup_cons.mpr ⟨fun m=>?_,hV h2 fun m=>hk (List.mem_cons.mpr (Or.inr m))⟩
  rcases List.mem_append.mp m with q | q
  ·exact h1 q
  ·exact hk (List.mem_cons.mpr (Or.inl (List.mem_singleton.mp q).symm))
theorem cA {p:κ × V} {r:List (κ × V)} {k:κ} (e:p.1 = k):K4 (p :: r) k = K4 r k:=by
 unfold K4
 rw [List.filter_cons,if_neg (by simp [e])]
theorem cF {p:κ × V} {r:List (κ × V)} {k:κ} (e:¬ p.1 = k):K4 (p :: r) k = p :: K4 r k:=by
 unfold K4
 rw [List.filter_cons,if_pos (by simp [e])]
end
end L2
set_option maxHeartbeats 1000000
namespace L2
open PySem PySem.Spec PyProof.Rows
theorem bw {scope:Scope} {env:Env} (h:∀ x,(x,NameKind.free) ∈ scope.names → ∃ c,env.cells.lookup x = some c) :
  ∃ cl,closureFor scope env = pure cl ∧ (∀ x c,cl.lookup x = some c → env.cells.lookup x = some c) ∧ ∀ x,(x,NameKind.free) ∈ scope.names → ∃ c,cl.lookup x = some c:=by
 have go:∀ (names:List (Str × NameKind)) (acc:List (Str × Addr)),(∀ x,(x,NameKind.free) ∈ names → ∃ c,env.cells.lookup x = some c) → (∀ x c,acc.lookup x = some c → env.cells.lookup x = some c) →
   ∃ cl,(forIn names acc fun (p:Str × NameKind) (r:List (Str × Addr))=>if p.2 == .free then (do let a ← cellOf env p.1; pure (ForInStep.yield ((p.1,a) :: r))) else pure (ForInStep.yield r):Sem (List (Str × Addr))) = pure cl ∧
    (∀ x c,cl.lookup x = some c → env.cells.lookup x = some c) ∧ (∀ x c,acc.lookup x = some c → ∃ c',cl.lookup x = some c') ∧ ∀ x,(x,NameKind.free) ∈ names → ∃ c,cl.lookup x = some c:=by
  intro names
  induction names with
  | nil=>intro acc _ ha; exact ⟨acc,rfl,ha,fun x c e=>⟨c,e⟩,fun x z=>nomatch z⟩
  | cons p r ih =>
   intro acc hn ha
   obtain ⟨n,k⟩:=p
   rw [List.forIn_cons]
   cases hk:(k == NameKind.free) with
   | false =>
    obtain ⟨cl,h1,h2,h3,h4⟩:=ih acc (fun x z=>hn x (List.mem_cons_of_mem _ z)) ha
    refine ⟨cl,?_,h2,h3,fun x z=>?_⟩
    ·simp only [hk,Bool.false_eq_true,if_false,pure_bind]
     exact h1
    ·rcases List.mem_cons.mp z with e | z
     ·injection e with e1 e2
      rw [← e2] at hk
      exact absurd hk (by decide)
     ·exact h4 x z
   | true =>
    have ek:k = .free:=by simpa using hk
    subst ek
    obtain ⟨c,hc⟩:=hn n List.mem_cons_self
    have hcell:cellOf env n = pure c:=by unfold cellOf; rw [hc]
    obtain ⟨cl,h1,h2,h3,h4⟩:=ih ((n,c) :: acc) (fun x z=>hn x (List.mem_cons_of_mem _ z)) (fun x c' e=>by
     rw [List.lookup_cons] at e
     cases hx:x == n with
     | true =>
      rw [hx] at e
      have e':c = c':=Option.some.inj e
      have ex:x = n:=by simpa using hx
      rw [ex,← e']; exact hc
     | false=>rw [hx] at e; exact ha x c' e)
    refine ⟨cl,?_,h2,fun x c' e=>?_,fun x z=>?_⟩
    ·simp only [beq_self_eq_true,if_true,hcell,pure_bind]
     exact h1
    ·cases hx:x == n with
     | true=>exact h3 x c (by rw [List.lookup_cons,hx])
     | false=>exact h3 x c' (by rw [List.lookup_cons,hx]; exact e)
    ·rcases List.mem_cons.mp z with e | z
     ·injection e with e1 e2
      exact h3 x c (by rw [e1,List.lookup_cons]; simp)
     ·exact h4 x z
 obtain ⟨cl,h1,h2,_,h4⟩:=go scope.names [] h (fun x c e=>nomatch e)
 refine ⟨cl,?_,h2,h4⟩
 rw [← h1]
 unfold closureFor
 simp only [bind_pure]
def y7 (X:Cx) (scope:Scope) (cl:List (Str × Addr)) (C:Addr) (N:List Str) (s:Shared) (H:Hp) (ex:List Addr):Cx where
 prog:=X.prog
 w:=X.w
 K:=X.K
 mg:=X.mg
 base:=X.base
 A:=X.A
 N:=N
 s₀:=s
 H₀:=H
 env:=compEnvC scope cl C X.env
 outer:=X.stack
 stack:=X.stack
 ex:=ex
 calm:=X.calm
 fn:=fun x=>match scope.names.lookup x with | some .cell=>true | _=>false
 pn:=[]
 xe:=fun _ _=>False
theorem F3 {env:Env}:∀ {names:List (Str × NameKind)} {x:Str} {k:NameKind},
  (names.map fun (n,k)=>if (k == NameKind.free && env.scope.kind == .function && env.kindOf n == some .cell) then (n,NameKind.cell) else (n,k)).lookup x = some k →
  ∃ k',names.lookup x = some k' ∧ (k' = k ∨ (k' = .free ∧ k = .cell))
 | [],_,_,h=>by simp at h
 | (n,kk) :: r,x,k,h=>by
  have ih:=@F3 env r x k
  have h':List.lookup x ((if (kk == NameKind.free && env.scope.kind == .function && env.kindOf n == some .cell) = true then (n,NameKind.cell) else (n,kk)) :: r.map fun (n,k)=>if (k == NameKind.free && env.scope.kind == .function && env.kindOf n == some .cell) then (n,NameKind.cell) else (n,k)) = some k:=h
  cases hx:x == n with
  | true =>
   by_cases hc:(kk == NameKind.free && env.scope.kind == .function && env.kindOf n == some .cell) = true
   ·rw [if_pos hc,List.lookup_cons,hx] at h'
    have e:NameKind.cell = k:=Option.some.inj h'
    have hf:kk = .free:=by
     rw [Bool.and_eq_true,Bool.and_eq_true] at hc
     simpa using hc.1.1
    exact ⟨kk,by rw [List.lookup_cons,hx],.inr ⟨hf,e.symm⟩⟩
   ·rw [if_neg hc,List.lookup_cons,hx] at h'
    exact ⟨kk,by rw [List.lookup_cons,hx],.inl (Option.some.inj h')⟩
  | false =>
   have h2:List.lookup x (r.map fun (n,k)=>if (k == NameKind.free && env.scope.kind == .function && env.kindOf n == some .cell) then (n,NameKind.cell) else (n,k)) = some k:=by
    by_cases hc:(kk == NameKind.free && env.scope.kind == .function && env.kindOf n == some .cell) = true
    ·rw [if_pos hc,List.lookup_cons,hx] at h'; exact h'
    ·rw [if_neg hc,List.lookup_cons,hx] at h'; exact h'
   obtain ⟨k',e1,e2⟩:=ih h2
   exact ⟨k',by rw [List.lookup_cons,hx]; exact e1,e2⟩
structure CompScope (N:List Str) (osc scope:Scope) (own:List Str) (fr:List (Nat × Str)):Prop where
 kind:scope.kind = .function
 cells:∀ y ∈ scope.names,y.2 = .cell → scope.names.lookup y.1 = some .cell
 locs:∀ y ∈ scope.names,y.2 = .local → scope.names.lookup y.1 = some .local
 free:∀ y ∈ scope.names,y.2 = .free → osc.names.lookup y.1 = some .cell ∨ osc.names.lookup y.1 = some .free
 slot:∀ p ∈ fr,N[p.1]? = some p.2 ∧ scope.names.lookup p.2 = some .free
theorem HOk.track {P:Program} {w:World} {H:Hp} {h:Heap} {a:Addr} {o:HO} (x:HOk P w H h) (hn:H a = none) (new:p3 P w (upd H a o) h a o):HOk P w (upd H a o) h:=fun b u e=>by
 by_cases hb:b = a
 ·subst hb; rw [d4] at e; cases e; exact new
 ·rw [g7 hb] at e
  exact (x b u e).stay (fun c v _ q=>q) (fun c q=>by rw [g7 (i4 q hn)]; exact q) fun c xs q=>by rw [g7 (i4 q hn)]; exact q
theorem HOk.but {P:Program} {w:World} {H:Hp} {h h':Heap} {a:Addr} (x:HOk P w H h) (hn:H a = none) (k:∀ b o,b ≠ a → h.get? b = some o → h'.get? b = some o):HOk P w H h':=fun b u e =>
 (x b u e).stay (fun c v hc q=>k c v (by
  rintro rfl
  rcases hc with rfl | hc
  ·rw [hn] at e; cases e
  ·rw [hn] at hc; cases hc) q) (fun _ q=>q) fun _ _ q=>q
theorem Un.track {fs ex:List Addr} {H H':Hp} {h h':Heap} {a:Addr} {o:HO} (u:Un fs ex H H' h h') (ha:h.objs.size ≤ a) (hn:H a = none):Un fs ex H (upd H' a o) h h' where
 keep:=u.keep
 slot:=u.slot
 free:=fun b ob q n hx=>by rw [g7 (Nat.ne_of_lt (Nat.lt_of_lt_of_le (Heap.lt_size q) ha))]; exact u.free b ob q n hx
 there:=u.there
 tups:=fun b xs q=>by rw [g7 (i4 q hn)]; exact u.tups b xs q
 frzs:=fun b ob v q=>by rw [g7 (i4 q hn)]; exact u.frzs b ob v q
 tbls:=fun b ps q=>by rw [g7 (i4 q hn)]; exact u.tbls b ps q
theorem Un.but {fs ex:List Addr} {H H':Hp} {h h' h'':Heap} {a:Addr} (u:Un fs ex H H' h h') (ha:h.objs.size ≤ a) (k:∀ b o,b ≠ a → h'.get? b = some o → h''.get? b = some o):Un fs ex H H' h h'' where
 keep:=fun b ob q n hb hx=>k b ob (Nat.ne_of_lt (Nat.lt_of_lt_of_le (Heap.lt_size q) ha)) (u.keep b ob q n hb hx)
 slot:=fun b ob q n hb hx=>let ⟨sl,e⟩:=u.slot b ob q n hb hx; ⟨sl,k b _ (Nat.ne_of_lt (Nat.lt_of_lt_of_le (Heap.lt_size q) ha)) e⟩
 free:=u.free
 there:=fun b ob q hx=>let ⟨o',e⟩:=u.there b ob q hx; ⟨o',k b _ (Nat.ne_of_lt (Nat.lt_of_lt_of_le (Heap.lt_size q) ha)) e⟩
 tups:=u.tups
 frzs:=u.frzs
 tbls:=u.tbls
structure fu (scope:Scope) (nw:List (Str × Addr)) (h1:Heap) (C:Addr):Prop where
 ok:∀ n c,(n,c) ∈ nw → h1.IsCell c none ∧ C < c
 apart:nw.Pairwise fun x y=>x.2 ≠ y.2
 has:∀ x,scope.names.lookup x = some .cell → ∃ c,nw.lookup x = some c
 of:∀ x c,nw.lookup x = some c → (x,NameKind.cell) ∈ scope.names
theorem E4:∀ (names:List (Str × NameKind)) (n:Nat) (acc:List (Str × Addr)),cellsFrom n names acc = cellsFrom n names [] ++ acc
 | [],_,_=>rfl
 | (x,k) :: r,n,acc=>by
  unfold cellsFrom
  split
  ·rw [E4 r (n + 1) ((x,n) :: acc),E4 r (n + 1) [(x,n)],List.append_assoc]
   rfl
  ·exact E4 r n acc
theorem Q6:∀ (names:List (Str × NameKind)) (n:Nat) (x:Str) (c:Addr),(x,c) ∈ cellsFrom n names [] → (x,NameKind.cell) ∈ names
 | [],_,_,_,h=>nomatch h
 | (y,k) :: r,n,x,c,h=>by
  unfold cellsFrom at h
  split at h
  ·rename_i hk
   rw [E4] at h
   rcases List.mem_append.mp h with h | h
   ·exact List.mem_cons_of_mem _ (Q6 r _ x c h)
   ·rw [List.mem_singleton] at h
    cases h
    have:k = .cell:=by simpa using hk
    rw [this]
    exact List.mem_cons_self ..
  ·exact List.mem_cons_of_mem _ (Q6 r _ x c h)
theorem E7 {α:Type} {x:Str} {a b:List (Str × α)} {c:α} (h:(a ++ b).lookup x = some c):a.lookup x = some c ∨ (a.lookup x = none ∧ b.lookup x = some c):=by
 induction a with
 | nil=>exact .inr ⟨rfl,h⟩
 | cons p r ih =>
  rw [List.cons_append,List.lookup_cons] at h
  rw [List.lookup_cons]
  cases hx:x == p.1 with
  | true=>rw [hx] at h; exact .inl h
  | false=>rw [hx] at h; exact ih h
theorem Q7 {α:Type} {x:Str} {a b:List (Str × α)} {c:α} (h:a.lookup x = some c):(a ++ b).lookup x = some c:=by
 induction a with
 | nil=>cases h
 | cons p r ih =>
  rw [List.lookup_cons] at h
  rw [List.cons_append,List.lookup_cons]
  cases hx:x == p.1 with
  | true=>rw [hx] at h; exact h
  | false=>rw [hx] at h; exact ih h
theorem W9 {α:Type} {x:Str} {a b:List (Str × α)} {c:α} (h:a.lookup x = none) (h2:b.lookup x = some c):(a ++ b).lookup x = some c:=by
 induction a with
 | nil=>exact h2
 | cons p r ih =>
  rw [List.lookup_cons] at h
  rw [List.cons_append,List.lookup_cons]
  cases hx:x == p.1 with
  | true=>rw [hx] at h; cases h
  | false=>rw [hx] at h; exact ih h
theorem bY {M:Model} {A:Around} {E:Value → Shared → Prop} {s:Shared} {scope:Scope} {globals:Addr} {closure:List (Str × Addr)} {qual:Str} {outer:Env} {Q:Env → Shared → Prop}
  (hQ:∀ nw h1,fu scope nw h1 s.heap.objs.size → h1.Ns s.heap.objs.size (fun _=>none) → (∀ b o,s.heap.get? b = some o → h1.get? b = some o) →
   Q { scope,locals:=s.heap.objs.size,globals,cells:=nw ++ closure,qual,func:=none,code:=outer.code,frame:=outer.frame,builtins:=outer.builtins } { s with heap:=h1 }) :
  wpAny M A (newFunctionEnv scope globals closure [] qual none .none (some outer)) Q E s:=by
 simp only [newFunctionEnv,Option.isSome_some,if_true]
 refine wpAny_bind (wpAny_alloc ?_)
 refine wpAny_bind (wpAny_layCells _ (fun name kind cells=>by cases hkc:kind == NameKind.cell <;> simp [hkc]) _ _ _ _ ?_)
 have ok:=cellsFrom_ok scope.names (s.heap.push { cls:=.type "dict",data:=.dict #[] }) (s.heap.objs.size + 1) [] ⟨fun _ _ hm=>(nomatch hm),List.Pairwise.nil⟩ (by rw [Heap.size_push]; exact Nat.le_refl _)
 rw [Heap.size_push] at ok
 rw [show ({ s with heap:=s.heap.push { cls:=.type "dict",data:=.dict #[] } }:Shared).heap.objs.size = s.heap.objs.size + 1 from Heap.size_push ..]
 rw [List.forIn_nil]
 refine wpAny_bind (wpAny_pure (wpAny_pure ?_))
 rw [E4]
 exact hQ _ _ ⟨fun n c h=>⟨(ok.empty n c h).1,(ok.empty n c h).2⟩,ok.apart,fun x h=>bH h,fun x c h=>Q6 _ _ x c (PySem.mem_of_lookup h)⟩
  ((Heap.Ns.new s.heap (.type "dict")).keeps (pushCells_keeps _ _)) fun b o e=>pushCells_keeps _ _ b o (Heap.get?_push_of_some _ e)
def jL (X:Cx) (ifs:List Expr) (t:TT):Prop :=
 ∀ (pins:List (Addr × Obj)) (s:Shared) (σ:St) (H:Hp) (Q:Bool → Hp → Prop),Inv X pins σ H s → t σ H Q →
  wpAny (model X.prog X.w) X.A (forIn ifs true fun c r=>if r = true then do let ok ← isTrue c X.env (eval c X.env); pure (ForInStep.yield ok) else pure (ForInStep.yield r)) (TP X pins σ Q) X.xe s
def oY:TT:=fun _ H Q=>Q true H
theorem D7 {X:Cx}:jL X [] oY:=fun _ _ _ H Q I h=>wpAny_tests_nil ⟨H,I,h⟩
theorem aK {X:Cx} {c:Expr} {t:TT} (h:PT X c t):jL X [c] t:=fun pins s σ H Q I q=>wpAny_tests_one (h pins s σ H Q I q)
def C7 (own:List Str) (fr:List (Nat × Str)) (σ:St):St:=own.map (fun _=>none) ++ fr.map fun p=>(σ[p.1]?).join
def W4 (J:It) (g:TG) (tt:TT) (te:TE) (Q:VK) (σ₀:St) (H1:Hp):Prop :=
 ∃ W:Nat → Nat → List V → St → Hp → Prop,(∃ m,W 0 m [] σ₀ H1) ∧ ∀ i m acc σ' H',W i m acc σ' H' →
  (J.stop i H' ∧ acc.length ≤ sizeLine ∧ ∀ p,H' p = none → Q (.ref p) (upd H' p (.lst acc))) ∨
  (J.go i H' ∧ acc.length < sizeLine ∧ ∃ N:List V → St → Hp → Prop,(∀ acc σ' H',N acc σ' H' → ∃ m',m' < m ∧ W (i + 1) m' acc σ' H') ∧ ∀ x H'',J.yld i H' x H'' → g x σ' H'' fun σ2 H2=>tt σ2 H2 fun ok H3=>if ok = true then te σ2 H3 fun y H4=>N (acc ++ [y]) σ2 H4 else N acc σ2 H3)
def oO (own:List Str) (fr:List (Nat × Str)) (wi:TI) (g:TG) (tt:TT) (te:TE):TE:=fun σ H Q=>wi σ H fun J H1=>W4 J g tt te Q (C7 own fr σ) H1
section
variable {X:Cx} {tg iter elt:Expr} {ifs:List Expr} {scope:Scope} {own:List Str} {fr:List (Nat × Str)} {pos:Pos}
theorem lb {pins:List (Addr × Obj)} {σ:St} {H:Hp} {s:Shared} {cl:List (Str × Addr)} {ex:List Addr} {h1:Heap} {m:Str → Option Value} {C:Addr} {t':Nat} (S:CompScope X.N X.env.scope scope own fr) (I:Inv X pins σ H s)
  (hcl:∀ x c,cl.lookup x = some c → X.env.cells.lookup x = some c) (hcl2:∀ x,(x,NameKind.free) ∈ scope.names → ∃ c,cl.lookup x = some c) (hex:∀ b ∈ ex,az X pins H b ∧ b < s.heap.objs.size)
  (hC:s.heap.objs.size ≤ C) (k:∀ b o,s.heap.get? b = some o → h1.get? b = some o) (hn:h1.Ns C m) {nw:List (Str × Addr)} (nc:fu scope nw h1 C) :
  Inv (y7 X scope (nw ++ cl) C (own ++ fr.map (·.2)) s H ex) [] (C7 own fr σ) H { s with heap:=h1,toks:=t' }:=by
 have okX:=I.ok
 have isNew:∀ x c,nw.lookup x = some c → C < c:=fun x c e=>(nc.ok x c (PySem.mem_of_lookup e)).2
 have isOld:∀ x c,cl.lookup x = some c → c < C:=fun x c e=>by
  obtain ⟨v,o,ho,_⟩:=I.cell x c (hcl x c e)
  exact Nat.lt_of_lt_of_le (Heap.lt_size ho) hC
 have hinj:∀ x y c,(nw ++ cl).lookup x = some c → (nw ++ cl).lookup y = some c → x = y:=fun x y c e1 e2=>by
  rcases E7 e1 with a | ⟨_,a⟩ <;> rcases E7 e2 with b | ⟨_,b⟩
  ·exact name_of_addr nc.apart (PySem.mem_of_lookup a) (PySem.mem_of_lookup b)
  ·exact absurd (Nat.lt_trans (isNew x c a) (isOld y c b)) (Nat.lt_irrefl _)
  ·exact absurd (Nat.lt_trans (isNew y c b) (isOld x c a)) (Nat.lt_irrefl _)
  ·exact okX.inj x y c (hcl x c a) (hcl y c b)
 have hasF:∀ x,(x,NameKind.free) ∈ scope.names → ∃ c,(nw ++ cl).lookup x = some c:=fun x hx=>by
  obtain ⟨c,e⟩:=hcl2 x hx
  cases z:nw.lookup x with
  | none=>exact ⟨c,W9 z e⟩
  | some c'=>exact ⟨c',Q7 z⟩
 refine ⟨⟨okX.mod,?_,okX.glob,okX.blt,hC,hinj,fun x hx=>?_,fun x c e1 e2=>?_,okX.hd,okX.frames,.inl rfl,fun b hb=>?_,I.bs,Nat.le_trans okX.bsz I.sz,fun b o e hb=>?_,fun b hb hf=>?_,I.stack,I.stkFree⟩,
  rfl,I.bare,Un.kept k,⟨m,hn,fun i x v e1 e2 e3=>?_⟩,fun x c e=>?_,I.hok.fresh hC,fun x c e=>?_,fun p hp=>absurd (show p ∈ ([]:List (Addr × Obj)) from hp) (by simp),I.hok.kept k,?_⟩
 ·exact S.kind
 ·-- a cell's or a free name
  have hx':(relabel scope X.env).names.lookup x = some .cell ∨ (relabel scope X.env).names.lookup x = some .free:=hx
  have hfree:scope.names.lookup x = some .cell ∨ scope.names.lookup x = some .free:=by
   rcases hx' with q | q
   ·obtain ⟨k',e1,e2⟩:=F3 q
    rcases e2 with e2 | ⟨e2,_⟩
    ·exact .inl (by rw [e1,e2])
    ·exact .inr (by rw [e1,e2])
   ·obtain ⟨k',e1,e2⟩:=F3 q
    rcases e2 with e2 | ⟨e2,e3⟩
    ·exact .inr (by rw [e1,e2])
    ·cases e3
  rcases hfree with hfree | hfree
  ·obtain ⟨c,e⟩:=nc.has x hfree
   exact ⟨c,Q7 e⟩
  ·exact hasF x (PySem.mem_of_lookup hfree)
 ·-- an own cell is new
  have e1':(match scope.names.lookup x with | some .cell=>true | _=>false) = true:=e1
  have hce:scope.names.lookup x = some .cell:=by
   split at e1'
   ·assumption
   ·cases e1'
  obtain ⟨c',e⟩:=nc.has x hce
  have e2':(nw ++ cl).lookup x = some c:=e2
  rw [Q7 e] at e2'
  cases e2'
  exact Nat.le_trans hC (Nat.le_of_lt (isNew x c e))
 ·obtain ⟨⟨f0,f1,f2,f3,f4,f5⟩,f6⟩:=hex b hb
  refine ⟨Nat.ne_of_lt (Nat.lt_of_lt_of_le f6 hC),fun x c e=>?_⟩
  rcases E7 (show (nw ++ cl).lookup x = some c from e) with a | ⟨_,a⟩
  ·exact Nat.ne_of_gt (Nat.lt_trans (Nat.lt_of_lt_of_le f6 hC) (isNew x c a))
  ·exact f4 x c (hcl x c a)
 ·obtain ⟨⟨f0,f1,f2,f3,f4,f5⟩,f6⟩:=hex b hb
  rcases f3 with f3 | f3
  ·exact okX.noex b o e f3
  ·exact absurd (Nat.lt_of_lt_of_le (Heap.lt_size e) (Nat.le_trans okX.bsz f3)) (Nat.lt_irrefl _)
 ·obtain ⟨⟨f0,f1,f2,f3,f4,f5⟩,f6⟩:=hex b hb
  rcases List.mem_cons.mp (I.stkSub b hf) with z | z
  ·exact f1 z
  ·exact f2 z
 ·-- the values of the free names
  have e1':(own ++ fr.map (·.2))[i]? = some x:=e1
  have hi:own.length ≤ i:=by
   by_cases h:i < own.length
   ·unfold C7 at e2
    rw [List.getElem?_append_left (by simpa using h),List.getElem?_map] at e2
    cases q:own[i]? with
    | none=>rw [q] at e2; cases e2
    | some z=>rw [q] at e2; cases e2
   ·lia
  unfold C7 at e2
  rw [List.getElem?_append_right (by simpa using hi),List.getElem?_map,List.length_map] at e2
  rw [List.getElem?_append_right hi,List.getElem?_map] at e1'
  cases q:fr[i - own.length]? with
  | none=>rw [q] at e2; cases e2
  | some p =>
   rw [q] at e2 e1'
   have e1':p.2 = x:=Option.some.inj e1'
   have e2':(σ[p.1]?).join = some v:=Option.some.inj e2
   obtain ⟨hs1,hs2⟩:=S.slot p (List.mem_of_getElem? q)
   rw [e1'] at hs1 hs2
   have e2'':σ[p.1]? = some (some v):=by
    cases z:σ[p.1]? with
    | none=>rw [z] at e2'; cases e2'
    | some y=>rw [z] at e2'; exact congrArg some e2'
   obtain ⟨mX,hnX,hlX⟩:=I.loc
   have hfr:=S.free (x,.free) (PySem.mem_of_lookup hs2) rfl
   have hvis:Vis X.env.scope x:=by
    rcases hfr with z | z
    ·exact .inr (.inl z)
    ·exact .inr (.inr z)
   obtain ⟨u,r,l⟩:=hlX p.1 x v hs1 e2'' hvis
   refine ⟨u,r,?_⟩
   have hkc:X.env.kindOf x = some .cell ∨ X.env.kindOf x = some .free:=hfr
   rcases l with ⟨kx,_⟩ | ⟨kx,c,hc,z⟩
   ·rcases hkc with w | w
    ·rw [w] at kx; cases kx
    ·rw [w] at kx; cases kx
   ·obtain ⟨c',hc'⟩:=hcl2 x (PySem.mem_of_lookup hs2)
    have hcc:=hcl x c' hc'
    rw [hc] at hcc
    cases hcc
    have e3':(relabel scope X.env).names.lookup x = some .local ∨ (relabel scope X.env).names.lookup x = some .cell ∨ (relabel scope X.env).names.lookup x = some .free:=e3
    have hnew:nw.lookup x = none:=by
     cases z:nw.lookup x with
     | none=>rfl
     | some c'' =>
      have:=S.cells _ (nc.of x c'' z) rfl
      rw [hs2] at this
      cases this
    refine .inr ⟨?_,c,W9 hnew hc',?_⟩
    ·rcases e3' with w | w | w
     ·obtain ⟨k',q1,q2⟩:=F3 w
      rw [hs2] at q1
      cases q1
      rcases q2 with q2 | ⟨_,q2⟩ <;> cases q2
     ·exact .inl w
     ·exact .inr w
    ·obtain ⟨o,ho,hd⟩:=z
     exact ⟨o,k _ _ ho,hd⟩
 ·rcases E7 (show (nw ++ cl).lookup x = some c from e) with a | ⟨_,a⟩
  ·exact ⟨none,(nc.ok x c (PySem.mem_of_lookup a)).1⟩
  ·obtain ⟨v,o,ho,hd⟩:=I.cell x c (hcl x c a)
   exact ⟨v,o,k _ _ ho,hd⟩
 ·rcases E7 (show (nw ++ cl).lookup x = some c from e) with a | ⟨_,a⟩
  ·exact I.hok.fresh (Nat.le_trans hC (Nat.le_of_lt (isNew x c a)))
  ·exact I.freeC x c (hcl x c a)
 ·show (C7 own fr σ).length = (own ++ fr.map (·.2)).length
  unfold C7
  rw [List.length_append,List.length_append,List.length_map,List.length_map,List.length_map]
theorem bD {pins:List (Addr × Obj)} {σ:St} {H2:Hp} {s2:Shared} {cl:List (Str × Addr)} {it:Addr} {fp:List Addr} {tn:Nat → Heap → Prop} {J:It} {g:TG} {tt:TT} {te:TE} {Q:VK} {E:Value → Shared → Prop}
  {RR:Value → Addr → Result → Shared → Prop} (hc:X.calm = true) (S:CompScope X.N X.env.scope scope own fr) (I:Inv X pins σ H2 s2) (hcl:∀ x c,cl.lookup x = some c → X.env.cells.lookup x = some c)
  (hcl2:∀ x,(x,NameKind.free) ∈ scope.names → ∃ c,cl.lookup x = some c) (T:gK X.prog X.w X.K tg J fp it tn) (st:tn 0 s2.heap) (hfp:∀ b ∈ fp,az X pins H2 b)
  (hb:∀ (cl:List (Str × Addr)) (C:Addr) (s:Shared) (H:Hp) (ex:List Addr),PG (y7 X scope cl C (own ++ fr.map (·.2)) s H ex) tg g ∧ jL (y7 X scope cl C (own ++ fr.map (·.2)) s H ex) ifs tt ∧ PE (y7 X scope cl C (own ++ fr.map (·.2)) s H ex) elt te)
  (hq:W4 J g tt te Q (C7 own fr σ) H2)
  (fin:∀ (D C:Addr) (s':Shared) (H':Hp),(∃ m,s'.heap.Ns C m) → s2.heap.objs.size ≤ C → C ≠ D → H' C = none → Q (.ref D) H' → (∀ h'',(∀ b o,b ≠ C → s'.heap.get? b = some o → h''.get? b = some o) → Inv X pins σ H' { s' with heap:=h'' }) → RR (.ref D) C (.ok .next) s') :
  wpAny (model X.prog X.w) X.A (newList []) (fun acc s₃=>wpAny (model X.prog X.w) X.A (newFunctionEnv scope X.env.globals cl [] X.env.qual none .none (some X.env)) (fun cenv s₄ =>
   codeAny (model X.prog X.w) X.A (.compStart (.ListComp elt [⟨tg,iter,ifs,0⟩] scope pos) 0 (.ref it) acc { cenv with scope:=relabel scope X.env }) (RR acc cenv.locals) s₄) E s₃) E s2:=by
 obtain ⟨W,⟨m0,w0⟩,turn⟩:=hq
 refine wpAny_newObj_type (bY (fun nw h₁ nc hns₁ hsb₁=>?_))
 dsimp only at nc hns₁ hsb₁ ⊢
 generalize hH2:s2.heap.push { cls:=.type "list",dict:=none,data:=.seq ([]:List Value).toArray } = HH at nc hns₁ hsb₁ ⊢
 have hC:HH.objs.size = s2.heap.objs.size + 1:=by rw [← hH2,Heap.size_push]
 have hDC:s2.heap.objs.size ≠ HH.objs.size:=by rw [hC]; exact Nat.ne_of_lt (Nat.lt_succ_self _)
 have hCle:s2.heap.objs.size ≤ HH.objs.size:=by rw [hC]; exact Nat.le_succ _
 have old:∀ b o,s2.heap.get? b = some o → h₁.get? b = some o:=fun b o e =>
  hsb₁ b o (hH2 ▸ Heap.get?_push_of_some _ e)
 have hacc:h₁.get? s2.heap.objs.size = some { cls:=.type "list",data:=.seq ([]:List Value).toArray }:=hsb₁ _ _ (hH2 ▸ Heap.get?_push_size _ rfl)
 have flt:∀ b ∈ fp,b < s2.heap.objs.size:=fun b hb=>by
  obtain ⟨o,e,_⟩:=T.obj _ _ st b hb
  exact Heap.lt_size e
 have hlt:s2.heap.objs.size < HH.objs.size:=by rw [hC]; exact Nat.lt_succ_self _
 obtain ⟨D,hD⟩:∃ D:Nat,D = s2.heap.objs.size:=⟨_,rfl⟩
 obtain ⟨C,hCC⟩:∃ C:Nat,C = HH.objs.size:=⟨_,rfl⟩
 rw [← hD] at hacc ⊢
 rw [← hCC] at nc hns₁ ⊢
 have hDlt:D < C:=by rw [hD,hCC]; exact hlt
 have hDs:s2.heap.objs.size ≤ D:=Nat.le_of_eq hD.symm
 have hCs:s2.heap.objs.size ≤ C:=Nat.le_trans hDs (Nat.le_of_lt hDlt)
 have nDC:D ≠ C:=Nat.ne_of_lt hDlt
 have nfD:∀ b ∈ fp,b ≠ D:=fun b hb=>Nat.ne_of_lt (Nat.lt_of_lt_of_le (flt b hb) hDs)
 have nfC:∀ b ∈ fp,b ≠ C:=fun b hb=>Nat.ne_of_lt (Nat.lt_of_lt_of_le (flt b hb) hCs)
 have I0:Inv (y7 X scope (nw ++ cl) C (own ++ fr.map (·.2)) s2 H2 fp) [] (C7 own fr σ) H2 { s2 with heap:=h₁,toks:=s2.toks } :=
  lb S I hcl hcl2 (fun b hb=>⟨hfp b hb,flt b hb⟩) hCs old hns₁ nc
 obtain ⟨pg,pt,pe⟩:=hb (nw ++ cl) C s2 H2 fp
 have Dcell:∀ x c,(nw ++ cl).lookup x = some c → c ≠ D:=fun x c e=>by
  rcases E7 e with a | ⟨_,a⟩
  ·exact Nat.ne_of_gt (Nat.lt_trans hDlt (nc.ok x c (PySem.mem_of_lookup a)).2)
  ·obtain ⟨v,q⟩:=I.cell x c (hcl x c a)
   exact Nat.ne_of_lt (Nat.lt_of_lt_of_le q.lt hDs)
 have Dstk:D ∉ frs X.stack:=fun hf=>by
  rcases List.mem_cons.mp (I.stkSub D hf) with z | z
  ·have h1:=I.lt
   rw [← z] at h1
   exact Nat.lt_irrefl _ (Nat.lt_of_lt_of_le h1 hDs)
  ·exact I.nofs hDs z
 have stat:∀ {H':Hp} {pl:List (Addr × Obj)},(∀ b ∈ fp,H' b = none) → (∀ p ∈ pl,p.1 = D) → ∀ b ∈ fp,az (y7 X scope (nw ++ cl) C (own ++ fr.map (·.2)) s2 H2 fp) pl H' b:=fun {H' pl} hn hpl b hb=>by
  obtain ⟨f0,f1,f2,f3,f4,f5⟩:=hfp b hb
  refine ⟨hn b hb,nfC b hb,fun hf=>?_,.inl hb,fun x c e=>(by
   rcases E7 (show (nw ++ cl).lookup x = some c from e) with a | ⟨_,a⟩
   ·exact Nat.ne_of_gt (Nat.lt_trans (Nat.lt_of_lt_of_le (flt b hb) hCs) (nc.ok x c (PySem.mem_of_lookup a)).2)
   ·exact f4 x c (hcl x c a)),fun p hp z=>?_⟩
  ·rcases List.mem_cons.mp (I.stkSub b hf) with z | z
   ·exact f1 z
   ·exact f2 z
  ·have h1:p.1 = D:=hpl p (by simpa [y7] using hp)
   exact nfD b hb (z.symm.trans h1)
 have loop:∀ s₃:Shared,s₃ = { s2 with heap:=h₁,toks:=s2.toks } →
   codeAny (model X.prog X.w) X.A (.compLoop (.ListComp elt [⟨tg,iter,ifs,0⟩] scope pos) 0 (.ref it) (.ref D) (compEnvC scope (nw ++ cl) C X.env)) (RR (.ref D) C) s₃:=by
  rintro s₃ rfl
  refine codeAny_loop rfl (fun n s'=>∃ i σ' H' acc its k,Inv (y7 X scope (nw ++ cl) C (own ++ fr.map (·.2)) s2 H2 fp) [] σ' H' s' ∧ tn i s'.heap ∧ (∀ b ∈ fp,H' b = none) ∧ H' D = none ∧
   s'.heap.get? D = some { cls:=.type "list",data:=.seq its.toArray k } ∧ n6 acc its ∧ W i n acc σ' H') ?_ m0
   ⟨0,_,H2,[],[],0,I0,T.keep _ _ _ st fun b hb o e=>old b o e,fun b hb=>(hfp b hb).1,I.hok.fresh hDs,hacc,.nil,w0⟩
  rintro n s' ⟨i,σ',H',acc,its,k,I1,st1,fr1,nD,gD,rv,w1⟩
  show wpAny _ X.A ((compTurn (.ListComp elt [⟨tg,iter,ifs,0⟩] scope pos) 0 (.ref it) (.ref D) (compEnvC scope (nw ++ cl) C X.env)).onRaise (fun x=>do noteFrame x (compEnvC scope (nw ++ cl) C X.env); theTreesLotGoes x)) _ _ s'
  refine wpAny_noted ?_
  rw [compTurn_list]
  have I1':Inv (y7 X scope (nw ++ cl) C (own ++ fr.map (·.2)) s2 H2 fp) [(D,{ cls:=.type "list",data:=.seq its.toArray k })] σ' H' s':=I1.pins_of fun p hp=>by
   have e:p = (D,{ cls:=.type "list",data:=.seq its.toArray k }):=by simpa using hp
   subst e
   exact ⟨gD,nD,nDC,Dstk,fun v z=>nomatch z⟩
  rcases turn i n acc σ' H' w1 with ⟨stop,hz,qq⟩ | ⟨go,hz,NN,hNN,step⟩
  ·refine wpAny_bind (wpAny_standAt (wpAny_bind (wpAny_mono (T.done (y7 X scope (nw ++ cl) C (own ++ fr.map (·.2)) s2 H2 fp) rfl rfl rfl hc i _ s' σ' H' (fun _ _=>False) I1' (stat fr1 (by simp)) st1 stop) (fun r s4 ⟨hr,I4⟩=>?_) fun _ _ z=>z.elim)))
   subst hr
   refine wpAny_pure ?_
   have gD4:=(I4.pin (D,_) (List.mem_append_right _ (List.mem_singleton.mpr rfl))).1
   have hC4:H' C = none:=I4.free
   have hC5:(upd H' D (.lst acc)) C = none:=by rw [g7 (Ne.symm nDC)]; exact hC4
   refine fin D C s4 (upd H' D (.lst acc)) ?_ hCs (Ne.symm nDC) hC5 (qq D nD) fun h'' kk=>?_
   ·obtain ⟨m,hn,_⟩:=I4.loc
    exact ⟨m,hn⟩
   ·have un:Un (frs X.stack) fp H2 (upd H' D (.lst acc)) s2.heap h'':=Un.but (a:=C) (Un.track (o:=.lst acc) I4.base hDs (I.hok.fresh hDs)) hCs kk
    have hok:HOk X.prog X.w (upd H' D (.lst acc)) s4.heap:=HOk.track I4.hok nD ⟨hz,its,k,rv,gD4⟩
    exact I.call' (s':={ s4 with heap:=h'' }) (ch:=fp) I4.os un (HOk.but hok hC5 kk) I4.bare fun b hb=>by
     obtain ⟨f0,f1,f2,f3,f4,f5⟩:=hfp b hb
     exact ⟨f3,f1,f4,f5⟩
  ·refine wpAny_bind (wpAny_standAt (wpAny_bind (wpAny_mono (T.item (y7 X scope (nw ++ cl) C (own ++ fr.map (·.2)) s2 H2 fp) rfl rfl rfl hc i _ s' σ' H' (fun _ _=>False) I1' (stat fr1 (by simp)) st1 go) (fun r s4 ⟨u,hr,h4⟩=>?_) fun _ _ z=>z.elim)))
   subst hr
   refine wpAny_bind (wpAny_mono h4 (fun _ s5 ⟨x,H5,I5,r5,y5,st5,fr5⟩=>?_) fun _ _ z=>z.elim)
   have I5':=I5.pinned (stat fr5 (by simp)) (T.obj _ _ st5)
   refine wpAny_bind (wpAny_mono (pg _ s5 σ' H5 x u _ I5' r5 (step x H5 y5)) (fun _ s6 ⟨σ6,H6,I6,q6⟩=>?_) fun _ _ z=>z.elim)
   refine wpAny_bind (wpAny_mono (pt _ s6 σ6 H6 _ I6 q6) (fun ok s7 ⟨H7,I7,q7⟩=>?_) fun _ _ z=>z.elim)
   have again:∀ {s8:Shared} {H8:Hp} {acc':List V} {its':List Value} {k' m':Nat},Inv (y7 X scope (nw ++ cl) C (own ++ fr.map (·.2)) s2 H2 fp) (S1 fp s5.heap) σ6 H8 s8 → H8 D = none →
     s8.heap.get? D = some { cls:=.type "list",data:=.seq its'.toArray k' } → n6 acc' its' → m' < n → W (i + 1) m' acc' σ6 H8 →
     ∃ m,m < n ∧ ∃ i σ' H' acc its k,Inv (y7 X scope (nw ++ cl) C (own ++ fr.map (·.2)) s2 H2 fp) [] σ' H' s8 ∧ tn i s8.heap ∧ (∀ b ∈ fp,H' b = none) ∧ H' D = none ∧
      s8.heap.get? D = some { cls:=.type "list",data:=.seq its.toArray k } ∧ n6 acc its ∧ W i m acc σ' H':=fun {s8 H8 acc' its' k' m'} I8 n8 g8 rv8 hm w8=>by
    refine ⟨m',hm,i + 1,σ6,H8,acc',its',k',I8.pins_of (fun p hp=>nomatch hp),T.keep _ _ _ st5 fun b hb o e=>(I8.pin (b,o) (List.mem_append_right _ (R6 hb e))).1,fun b hb=>?_,n8,g8,rv8,w8⟩
    obtain ⟨o,e,d⟩:=T.obj _ _ st5 b hb
    exact (I8.pin (b,o) (List.mem_append_right _ (R6 hb e))).2.1
   have dropD:∀ {s8:Shared} {H8:Hp},Inv (y7 X scope (nw ++ cl) C (own ++ fr.map (·.2)) s2 H2 fp) ([(D,{ cls:=.type "list",data:=.seq its.toArray k })] ++ S1 fp s5.heap) σ6 H8 s8 →
     Inv (y7 X scope (nw ++ cl) C (own ++ fr.map (·.2)) s2 H2 fp) (S1 fp s5.heap) σ6 H8 s8:=fun I8=>I8.pins_of fun p hp=>I8.pin p (List.mem_append_right _ (List.mem_append_right _ hp))
   cases ok with
   | false =>
    rw [if_neg Bool.false_ne_true] at q7
    obtain ⟨m',hm,w7⟩:=hNN _ _ _ q7
    have pD:=I7.pin (D,_) (List.mem_append_right _ (List.mem_append_left _ (List.mem_singleton.mpr rfl)))
    simp only [Bool.false_eq_true,if_false]
    exact wpAny_pure ⟨rfl,again (dropD I7) pD.2.1 pD.1 rv hm w7⟩
   | true =>
    rw [if_pos rfl] at q7
    simp only [if_true]
    refine wpAny_bind (wpAny_bind (wpAny_mono (pe _ s7 σ6 H7 _ I7 q7) (fun u8 s8 ⟨y,H8,I8,r8,q8⟩=>?_) fun _ _ z=>z.elim))
    obtain ⟨m',hm,w8⟩:=hNN _ _ _ q8
    have pD:=I8.pin (D,_) (List.mem_append_right _ (List.mem_append_left _ (List.mem_singleton.mpr rfl)))
    obtain ⟨gD8,nD8,_⟩:=pD
    have hlen:=rv.length
    refine wpAny_bind (call_meets F.slot_list_append ⟨_,gD8,rfl⟩ F.entry_list_append (F.args_list_append_2 _ _) (PySem.list_append D its.toArray k u8 (by rw [List.size_toArray]; lia)) ⟨gD8,?_⟩)
    refine wpAny_pure (wpAny_pure ⟨rfl,?_⟩)
    have q:=PySem.IsL.update gD8 (·.push u8)
    have e9:its.toArray.push u8 = (its ++ [u8]).toArray:=by simp
    rw [e9] at q
    refine again (its':=its ++ [u8]) ((dropD I8).turned (it:=D) (t':=_) (fun b o hb e=>(Heap.get?_update_other s8.heap _ (Ne.symm hb)).trans e) nD8 nDC (.inr hDs) (fun x c e=>Dcell x c e) fun p hp z=>?_) nD8 q (rv.append (.cons r8 .nil)) hm w8
    have hp':p ∈ S1 fp s5.heap:=by simpa [y7] using hp
    exact nfD p.1 (cE hp').1 z
 exact codeAny_compStart_list (loop _ rfl) (T.self _ 0 _ _ _ (T.keep _ _ _ st fun b hb o e=>old b o e) (loop _ rfl))
theorem J6 {wi:TI} {g:TG} {tt:TT} {te:TE} (hc:X.calm = true) (S:CompScope X.N X.env.scope scope own fr) (hi:PI X tg iter wi)
  (hb:∀ (cl:List (Str × Addr)) (C:Addr) (s:Shared) (H:Hp) (ex:List Addr),PG (y7 X scope cl C (own ++ fr.map (·.2)) s H ex) tg g ∧ jL (y7 X scope cl C (own ++ fr.map (·.2)) s H ex) ifs tt ∧ PE (y7 X scope cl C (own ++ fr.map (·.2)) s H ex) elt te)
  (hs:∀ x,foldedSetIterable iter X.env x = pure x:=by intro _; rfl):PE X (.ListComp elt [⟨tg,iter,ifs,0⟩] scope pos) (oO own fr wi g tt te):=by
 intro pins s σ H Q I h
 obtain ⟨cl,hclos,hcl,hcl2⟩:=bw (scope:=scope) (env:=X.env) fun x hx=>I.ok.has x (S.free (x,.free) hx rfl)
 rw [eval_ListComp]
 refine wpAny_comprehension_free (use:=none) rfl hs hclos S.kind S.locs (thn (hi pins s σ H _ I h) fun xv s₁ h₁=>thn h₁ fun itv s₂ h₂=>?_)
 obtain ⟨it,fp,tn,J,H2,e,I2,T,st2,f2,hq⟩:=h₂
 subst e
 refine bD hc S I2 hcl hcl2 T st2 f2 hb hq (RR:=fun acc C=>compPost (model X.prog X.w) X.A X.xe none (EP X pins σ Q) acc C) fun D C s' H' hn hC1 hCD hC2 q inv=>?_
 obtain ⟨m,hn⟩:=hn
 exact ⟨m,hn,fun h'' sb=>⟨.ref D,H',inv h'' fun b o hb e=>sb.extBut b o hb e,rfl,q⟩⟩
theorem T5 {i:Nat} {x:Str} {px spos:Pos} {wi:TI} {g:TG} {tt:TT} {te:TE} (hc:X.calm = true) (hN:X.N.Nodup) (hix:X.N[i]? = some x) (hx:X.env.scope.names.lookup x = some .local) (S:CompScope X.N X.env.scope scope own fr) (hi:PI X tg iter wi)
  (hb:∀ (cl:List (Str × Addr)) (C:Addr) (s:Shared) (H:Hp) (ex:List Addr),PG (y7 X scope cl C (own ++ fr.map (·.2)) s H ex) tg g ∧ jL (y7 X scope cl C (own ++ fr.map (·.2)) s H ex) ifs tt ∧ PE (y7 X scope cl C (own ++ fr.map (·.2)) s H ex) elt te)
  (hsw:swapsWith (.ListComp elt [⟨tg,iter,ifs,0⟩] scope pos) (some (.Name x px)) spos.line X.env = pure true) (hs:∀ x,foldedSetIterable iter X.env x = pure x:=by intro _; rfl) :
  PS X (.Assign [.Name x px] (.ListComp elt [⟨tg,iter,ifs,0⟩] scope pos) spos) (qt (oO own fr wi g tt te) (o8 i)):=by
 intro pins s σ H D I h
 obtain ⟨cl,hclos,hcl,hcl2⟩:=bw (scope:=scope) (env:=X.env) fun x hx=>I.ok.has x (S.free (x,.free) hx rfl)
 rw [exec_Assign_Name_used _ _ _ _ hsw]
 refine wpAny_bind (wpAny_standAt (wpAny_bind ?_))
 show wpAny _ X.A (do let _ ← comprehension (.ListComp elt [⟨tg,iter,ifs,0⟩] scope pos) scope X.env _ (newList []) false (eval iter X.env) (some (assign (.Name x px) X.env))) _ _ s
 refine wpAny_bind (wpAny_mono (wpAny_comprehension_free (use:=some (assign (.Name x px) X.env)) (Q:=fun _ s'=>SP X pins D .next s') rfl hs hclos S.kind S.locs (thn (hi pins s σ H _ I h) fun xv s₁ h₁=>thn h₁ fun itv s₂ h₂=>?_)) (fun _ s' hq=>wpAny_pure (wpAny_pure hq)) fun _ _ e=>e)
 obtain ⟨it,fp,tn,J,H2,e,I2,T,st2,f2,hq⟩:=h₂
 subst e
 refine bD (Q:=fun x H1=>o8 i x σ H1 D.nx) hc S I2 hcl hcl2 T st2 f2 hb hq (RR:=fun acc C=>compPost (model X.prog X.w) X.A X.xe (some (assign (.Name x px) X.env)) (fun _ s'=>SP X pins D .next s') acc C) fun Da C s' H' hn hC1 hCD hC2 q inv=>?_
 obtain ⟨m,hn⟩:=hn
 have I3:Inv X pins σ H' { s' with heap:=s'.heap }:=inv s'.heap fun _ _ _ e=>e
 show wpAny _ X.A (assign (.Name x px) X.env (.ref Da)) _ _ s'
 refine wpAny_assign_Name (cM I3 hN hix (.inl hx) (v:=.ref Da) rfl (fun s4 I4 ⟨a,sb,ha⟩=>?_) (.inr hx))
 have hCL:C ≠ X.env.locals:=Nat.ne_of_gt (Nat.lt_of_lt_of_le I2.lt hC1)
 have hCc:∀ y c,X.env.cells.lookup y = some c → c ≠ C:=fun y c e=>by
  obtain ⟨v,w⟩:=I2.cell y c e
  exact Nat.ne_of_lt (Nat.lt_of_lt_of_le w.lt hC1)
 have haC:C ≠ a:=by
  rcases ha with ha | ha
  ·rw [ha]; exact hCL
  ·exact (hCc _ _ ha).symm
 refine ⟨m,hn.sameBut sb haC,fun h'' sb2=>⟨_,H',I4.turned (it:=C) (t':=s4.toks) (fun b o hb e=>sb2.extBut b o hb e) hC2 hCL (.inr (Nat.le_trans I2.sz hC1)) hCc fun p hp z=>?_,q⟩⟩
 exact Nat.ne_of_lt (Nat.lt_of_lt_of_le (Heap.lt_size (I2.pin p hp).1) hC1) z
end
theorem C8 {K:PySem.W.Frag} {a:Addr} {xs:List V} {g:TG} {tt:TT} {te:TE} {σ₀:St} {H:Hp} {Q:VK} (Pv:Nat → List V → St → Hp → Prop) (h0:Pv 0 [] σ₀ H) (hz:xs.length ≤ sizeLine) (hn:∀ i acc σ H,Pv i acc σ H → acc.length ≤ i)
  (hl:∀ i acc σ H,i ≤ xs.length → Pv i acc σ H → SqL K H a xs)
  (hs:∀ i x acc σ H,xs[i]? = some x → Pv i acc σ H → g x σ H fun σ2 H2=>tt σ2 H2 fun ok H3=>if ok = true then te σ2 H3 fun y H4=>Pv (i + 1) (acc ++ [y]) σ2 H4 else Pv (i + 1) acc σ2 H3)
  (hd:∀ acc σ H,Pv xs.length acc σ H → ∀ p,H p = none → Q (.ref p) (upd H p (.lst acc))) :
  W4 (Itl K a) g tt te Q σ₀ H:=by
 refine ⟨fun i m acc σ H=>m = xs.length - i ∧ i ≤ xs.length ∧ Pv i acc σ H,⟨xs.length,by simp,Nat.zero_le _,h0⟩,?_⟩
 rintro i m acc σ H ⟨rfl,hi,p⟩
 have q:=hl i acc σ H hi p
 have hlen:=hn i acc σ H p
 by_cases hlt:i < xs.length
 ·refine .inr ⟨⟨xs,xs[i],q,by simp [hlt]⟩,by lia,Pv (i + 1),fun acc' σ' H' p'=>⟨xs.length - (i + 1),by lia,rfl,hlt,p'⟩,fun x H' y=>?_⟩
  obtain ⟨e,y⟩:=y
  subst e
  exact hs i x acc σ _ (y xs q) p
 ·have e:i = xs.length:=by lia
  subst e
  exact .inl ⟨⟨xs,q,Nat.le_refl _⟩,by lia,hd acc σ H p⟩
theorem fT {K:PySem.W.Frag} {a:Addr} {xs:List V} {g:TG} {tt:TT} {te:TE} {σ₀:St} {H:Hp} {Q:VK} (Pv:Nat → List V → St → Hp → Prop) (h0:Pv 0 [] σ₀ H) (hz:xs.length ≤ sizeLine) (hn:∀ i acc σ H,Pv i acc σ H → acc.length ≤ i)
  (hl:∀ i acc σ H,i ≤ xs.length → Pv i acc σ H → SqT K H a xs)
  (hs:∀ i x acc σ H,xs[i]? = some x → Pv i acc σ H → g x σ H fun σ2 H2=>tt σ2 H2 fun ok H3=>if ok = true then te σ2 H3 fun y H4=>Pv (i + 1) (acc ++ [y]) σ2 H4 else Pv (i + 1) acc σ2 H3)
  (hd:∀ acc σ H,Pv xs.length acc σ H → ∀ p,H p = none → Q (.ref p) (upd H p (.lst acc))) :
  W4 (Itt K a) g tt te Q σ₀ H:=by
 refine ⟨fun i m acc σ H=>m = xs.length - i ∧ i ≤ xs.length ∧ Pv i acc σ H,⟨xs.length,by simp,Nat.zero_le _,h0⟩,?_⟩
 rintro i m acc σ H ⟨rfl,hi,p⟩
 have q:=hl i acc σ H hi p
 have hlen:=hn i acc σ H p
 by_cases hlt:i < xs.length
 ·refine .inr ⟨⟨xs,xs[i],q,by simp [hlt]⟩,by lia,Pv (i + 1),fun acc' σ' H' p'=>⟨xs.length - (i + 1),by lia,rfl,hlt,p'⟩,fun x H' y=>?_⟩
  obtain ⟨e,y⟩:=y
  subst e
  exact hs i x acc σ _ (y xs q) p
 ·have e:i = xs.length:=by lia
  subst e
  exact .inl ⟨⟨xs,q,Nat.le_refl _⟩,by lia,hd acc σ H p⟩
theorem bE {lo:Int} {n:Nat} {g:TG} {tt:TT} {te:TE} {σ₀:St} {H:Hp} {Q:VK} (Pv:Nat → List V → St → Hp → Prop) (h0:Pv 0 [] σ₀ H) (hz:n ≤ sizeLine) (hn:∀ i acc σ H,Pv i acc σ H → acc.length ≤ i)
  (hs:∀ i acc σ H,i < n → Pv i acc σ H → g (.int (lo + i)) σ H fun σ2 H2=>tt σ2 H2 fun ok H3=>if ok = true then te σ2 H3 fun y H4=>Pv (i + 1) (acc ++ [y]) σ2 H4 else Pv (i + 1) acc σ2 H3)
  (hd:∀ acc σ H,Pv n acc σ H → ∀ p,H p = none → Q (.ref p) (upd H p (.lst acc))) :
  W4 (Itr lo n) g tt te Q σ₀ H:=by
 refine ⟨fun i m acc σ H=>m = n - i ∧ i ≤ n ∧ Pv i acc σ H,⟨n,by simp,Nat.zero_le _,h0⟩,?_⟩
 rintro i m acc σ H ⟨rfl,hi,p⟩
 have hlen:=hn i acc σ H p
 by_cases hlt:i < n
 ·refine .inr ⟨hlt,by lia,Pv (i + 1),fun acc' σ' H' p'=>⟨n - (i + 1),by lia,rfl,hlt,p'⟩,fun x H' y=>?_⟩
  obtain ⟨e,y⟩:=y
  subst e y
  exact hs i acc σ _ hlt p
 ·have e:i = n:=by lia
  subst e
  exact .inl ⟨Nat.le_refl _,by lia,hd acc σ H p⟩
end L2
namespace L2
open PySem PySem.Spec PyProof.Rows
theorem pM {c A B:Prop} [Decidable c] (h:c) (a:A):if c then A else B:=by rw [if_pos h]; exact a
theorem L7 {c A B:Prop} [Decidable c] (h:¬ c) (b:B):if c then A else B:=by rw [if_neg h]; exact b
structure h9 (P:Program) (w:World) (K:PySem.W.Frag) (mg:Str → Option Value) (base:Heap) (k:Nat) (x:Str) (ps:List Str) (sp:Sp):Prop where
 ex:∃ (f:Addr) (fd:FuncData),X5 P w K mg base CX0 k f fd ps sp ∧ R8 K fd ps [] ∧ PySem.W.keepIn K (.ref f) = true ∧ mg x = some (.ref f)
structure Def (K:PySem.W.Frag) (mg:Str → Option Value) (x:Str) (st:Stmt) (ps:List Str):Prop where
 ex:∃ (f:Addr) (fd:FuncData),Fun K x x st f fd ∧ R8 K fd ps [] ∧ mg x = some (.ref f)
section
variable {P:Program} {w:World} {K:PySem.W.Frag} {mg:Str → Option Value} {base:Heap}
theorem Def.ok {x:Str} {st:Stmt} {N ps:List Str} {k:Nat} {sp:Sp} (D:Def K mg x st ps) (S:FnScope N ps (d7 st)) (len:∀ vs H Q E,sp vs H Q E → vs.length = ps.length)
  (hbody:∀ (f:Addr) (cdv:Value) (A:Around) (outer:List Env) (s:Shared) (H:Hp) (vs:List V) (Q:VK) (E:XK),C3 k (A.deeper (envOfC x (d7 st) s.heap.objs.size f cdv)) → sp vs H Q E →
   ∃ t,PSs (M6 CX0 P w K mg base N x (d7 st) f cdv A outer s H E).nox (i7 st) t ∧ t { nx:=fun _ H'=>Q .non H',rt:=Q } (start N vs) H):h9 P w K mg base (k + 1) x ps sp:=by
 obtain ⟨f,fd,F,b,m⟩:=D.ex
 exact ⟨f,fd,F.ok S len fun cdv A outer s H vs Q E hr h=>hbody f cdv A outer s H vs Q E hr h,b,F.kp,m⟩
end
section
variable {X:Cx} {k n:Nat} {ps:List Str} {sp:Sp} {x:Str} {p pos:Pos} {e:Expr} {es:List Expr} {t:TA}
theorem m4 (C:h9 X.prog X.w X.K X.mg X.base k x ps sp) (hr:C3 n X.A) (hg:Gl X x) (ha:PA X (e :: es) t) (hk:k ≤ n:=by decide) (hdb:(x == ("__debug__":Str)) = false:=by decide)
  (he:starEach (e :: es) X.env = (false,eval e X.env) :: starEach es X.env:=by rfl) (hpl:(backTo pos (starEach es X.env)).any (·.1) = false:=by rfl) :
  PE X (.Call (.Name x p) (e :: es) [] pos) (kB sp [] E0 t):=by
 obtain ⟨f,fd,F,b,kp,m⟩:=C.ex
 exact mM F (hr.mono hk) hg m kp b .nil oG ha hdb he hpl
theorem fF:A4 X (.builtin "isinstance") (fun xs H Q=>∃ v T t b,xs = [v,.ty T] ∧ O6 X.K H v t ∧ PySem.W.kitOne X.K t (.type T) = some b ∧ Q (.bl b) H):=by
 intro pins s σ H xs us Q I r h
 obtain ⟨v,T,t,b,rfl,ty,e,q⟩:=h
 obtain ⟨u,u',rfl,r1,r2⟩:=ah r
 cases r2
 exact jO I r1 ty e fun tk=>⟨.bl b,H,I.tok _,rfl,q⟩
def rS (S T:String):Option Bool:=if (Value.type S == Value.type T) = true then some true else if PySem.W.kitMeta T = true then (fastBuiltinMro S).map (·.contains (.type T)) else none
theorem dJ {K:PySem.W.Frag} {S T:String} {b:Bool} (h:rS S T = some b):PySem.W.kitOne K (.type S) (.type T) = some b:=h
section
variable {K:PySem.W.Frag}
theorem ad:PySem.W.kitOne K (.type "int") (.type "int") = some true:=dJ (by decide +kernel)
theorem W6:PySem.W.kitOne K (.type "int") (.type "bool") = some false:=dJ (by decide +kernel)
theorem N8:PySem.W.kitOne K (.type "tuple") (.type "tuple") = some true:=dJ (by decide +kernel)
end
theorem ae (ns:List Int):∀ n,n ≤ ns.length → preSum (fun i=>ns.getD i 0) n = (ns.take n).sum
 | 0,_=>by simp [preSum]
 | n + 1,h=>by
  have hn:n < ns.length:=h
  rw [preSum,ae ns n (Nat.le_of_lt hn),List.take_succ,List.sum_append,List.getElem?_eq_getElem hn]
  simp [List.getD,List.getElem?_eq_getElem hn]
theorem oq {ns:List Int} {us:List Value} (h:IntsAre us ns):∀ (i:Nat) (v:Value),us[i]? = some v → ∃ t,v = .int (ns.getD i 0) t:=by
 induction h with
 | nil=>intro i v e; simp at e
 | cons n t h ih =>
  intro i v e
  cases i with
  | zero=>exact ⟨t,by simpa using e.symm⟩
  | succ i =>
   obtain ⟨t',e'⟩:=ih i v (by simpa using e)
   exact ⟨t',by simpa using e'⟩
theorem bN (hc:X.calm = true):A4 X (.builtin "sum") (fun xs H Q=>∃ (p:Addr) (ns:List Int),xs = [.ref p] ∧ SqL X.K H p (ns.map V.int) ∧ Q (.int ns.sum) H):=by
 intro pins s σ H xs us Q I r h
 obtain ⟨p,ns,rfl,hq,q⟩:=h
 obtain ⟨u,rfl,rx⟩:=U8 r
 cases rx
 obtain ⟨its,r',pl,hz⟩:=I.list hq
 have hi:IntsAre its ns:=br r'
 have hlen:its.length = ns.length:=hi.length
 obtain ⟨o,n,ho,_⟩:=id pl
 have hne:p ≠ s.heap.objs.size:=Nat.ne_of_lt (Heap.lt_size ho)
 refine call_sum_walkAnyS (wpAny_pyIter_list pl.isList ?_)
 refine ⟨s.heap.objs.size,[s.heap.objs.size,p],[s.heap.objs.size],_,its.toArray.size,_,_,fun i=>ns.getD i 0,rfl,(Walks.list (A:=X.A.in1) (I.ok.hd hc) s.heap.objs.size p hne its.toArray).toS,
  ⟨⟨_,Heap.get?_push_size _ rfl,rfl,rfl⟩,pl.isList.at fun o e=>Heap.get?_push_of_some _ e⟩,fun b hb=>?_,fun i v e=>oq hi i v (by simpa using e),fun s' t' hm=>?_⟩
 ·simp only [List.mem_cons,List.not_mem_nil,or_false] at hb
  rw [Heap.size_push]
  rcases hb with rfl | rfl
  ·exact Nat.lt_succ_self _
  ·exact Nat.lt_succ_of_lt (Heap.lt_size ho)
 ·have kp:∀ b o,s.heap.get? b = some o → s'.heap.get? b = some o:=fun b o e=>hm.heap b o (by simpa using Nat.ne_of_lt (Heap.lt_size e)) (Heap.get?_push_of_some _ e)
  have e:preSum (fun i=>ns.getD i 0) its.toArray.size = ns.sum:=by
   rw [ae ns _ (by rw [List.size_toArray]; lia),List.size_toArray,hlen,List.take_length]
  rw [e]
  exact ⟨.int ns.sum,H,I.call' (ch:=[]) hm.os (Un.kept kp) (I.hok.kept kp) (by rw [show s'.gens = s.gens from hm.gens]; exact I.bare) (fun b z=>nomatch z),⟨_,rfl⟩,q⟩
end
end L2
namespace L2
open PySem PySem.Spec PyProof.Rows
def J7 (b:Bool) (h:Heap) (l:Addr) (xs:Array Value):Prop:=match b with
 | true=>h.IsTuple l xs
 | false=>h.IsList l xs
def D9 (b:Bool) (h:Heap) (i l:Addr) (k:Nat):Prop:=match b with
 | true=>h.IsTupleIter i l k
 | false=>h.IsListIter i l k
theorem J7.kept {b:Bool} {h h':Heap} {l:Addr} {xs:Array Value} (x:J7 b h l xs) (k:∀ o,h.get? l = some o → h'.get? l = some o):J7 b h' l xs:=by
 cases b with
 | true=>obtain ⟨o,e,r⟩:=(show h.IsTuple l xs from x); exact ⟨o,k o e,r⟩
 | false=>obtain ⟨o,e,r⟩:=(show h.IsList l xs from x); exact ⟨o,k o e,r⟩
theorem D9.kept {b:Bool} {h h':Heap} {i l:Addr} {n:Nat} (x:D9 b h i l n) (k:∀ o,h.get? i = some o → h'.get? i = some o):D9 b h' i l n:=by
 cases b with
 | true=>obtain ⟨o,e,r⟩:=(show h.IsTupleIter i l n from x); exact ⟨o,k o e,r⟩
 | false=>obtain ⟨o,e,r⟩:=(show h.IsListIter i l n from x); exact ⟨o,k o e,r⟩
theorem D9.there {b:Bool} {h:Heap} {i l:Addr} {n:Nat} (x:D9 b h i l n):∃ o,h.get? i = some o ∧ ∀ v,o.data ≠ .cell v:=by
 cases b with
 | true=>obtain ⟨o,e,c,d⟩:=(show h.IsTupleIter i l n from x); exact ⟨o,e,fun v z=>by rw [d] at z; cases z⟩
 | false=>obtain ⟨o,e,c,d⟩:=(show h.IsListIter i l n from x); exact ⟨o,e,fun v z=>by rw [d] at z; cases z⟩
section
variable {prog:Program} {w:World} {A:Around} {E:Value → Shared → Prop} {s:Shared}
theorem ou {it t:Addr} {i:Nat} {items:Array Value} {x:Value} {Q:Value → Shared → Prop} (hit:s.heap.IsTupleIter it t i) (ht:s.heap.IsTuple t items) (hx:items[i]? = some x)
  (hQ:∀ h',h'.IsTupleIter it t (i + 1) → Heap.SameBut it s.heap h' → Q x { s with heap:=h' }):wpAny (model prog w) A (Builtin.SmallTypes.nextOf (.ref it)) Q E s:=by
 obtain ⟨oi,gi,ci,di⟩:=id hit
 obtain ⟨ot,gt,_,nt,dt⟩:=ht
 unfold Builtin.SmallTypes.nextOf
 refine wpAny_bind (wpAny_callSpecial?_slot (name:=Str.ofString "__next__") hit.typeIs F.slot_tuple_iterator_next (wpAny_call_entry F.slot_tuple_iterator_next hit.typeIs F.entry_tuple_iterator_next ?_ (F.args_tuple_iterator_next_1 _)))
 show wpAny _ _ (field (.ref it) 0 >>= _) _ _ s
 refine wpAny_bind (wpAny_field gi di (x:=.ref t) rfl ?_)
 show wpAny _ _ (if (Value.ref t == Value.none) = true then _ else _) _ _ s
 rw [if_neg (show ¬ ((Value.ref t == Value.none) = true) from Bool.false_ne_true)]
 show wpAny _ _ (field (.ref it) 1 >>= _) _ _ s
 refine wpAny_bind (wpAny_field gi di (x:=.int i 0) rfl ?_)
 show wpAny _ _ (seqItems? (.ref t) >>= _) _ _ s
 refine wpAny_bind (wpAny_seqItems gt dt ?_)
 simp only [Int.toNat_natCast,hx]
 refine wpAny_bind (wpAny_setField gi di (by simp) (wpAny_pure ⟨x,rfl,wpAny_pure (hQ _ ?_ (Heap.SameBut.update ..))⟩))
 exact ⟨_,Heap.get?_update_self _ gi (Obj.isFreed_of_fields (Obj.data_mapFields di _)),(Obj.cls_mapFields ..).trans ci,by rw [Obj.data_mapFields di]; simp [rawInt]⟩
theorem nI {it t:Addr} {i:Nat} {items:Array Value} {Q:Value → Shared → Prop} (hh:A.handled = none) (hit:s.heap.IsTupleIter it t i) (ht:s.heap.IsTuple t items) (hx:items[i]? = none)
  (hE:∀ h' e,Heap.ExtBut it s.heap h' → (∃ o,h'.get? e = some o ∧ o.cls = .type "StopIteration") → E (.ref e) { s with heap:=h' }):wpAny (model prog w) A (Builtin.SmallTypes.nextOf (.ref it)) Q E s:=by
 obtain ⟨oi,gi,ci,di⟩:=id hit
 obtain ⟨ot,gt,_,nt,dt⟩:=ht
 unfold Builtin.SmallTypes.nextOf
 refine wpAny_bind (wpAny_callSpecial?_slot (name:=Str.ofString "__next__") hit.typeIs F.slot_tuple_iterator_next (wpAny_call_entry F.slot_tuple_iterator_next hit.typeIs F.entry_tuple_iterator_next ?_ (F.args_tuple_iterator_next_1 _)))
 show wpAny _ _ (field (.ref it) 0 >>= _) _ _ s
 refine wpAny_bind (wpAny_field gi di (x:=.ref t) rfl ?_)
 show wpAny _ _ (if (Value.ref t == Value.none) = true then _ else _) _ _ s
 rw [if_neg (show ¬ ((Value.ref t == Value.none) = true) from Bool.false_ne_true)]
 show wpAny _ _ (field (.ref it) 1 >>= _) _ _ s
 refine wpAny_bind (wpAny_field gi di (x:=.int i 0) rfl ?_)
 show wpAny _ _ (seqItems? (.ref t) >>= _) _ _ s
 refine wpAny_bind (wpAny_seqItems gt dt ?_)
 simp only [Int.toNat_natCast,hx]
 refine wpAny_bind (wpAny_rule (wpAny_bind (wpAny_setField gi di (by simp) ?_)))
 show wpAny _ _ (newExc (.type "StopIteration") [] >>= _) _ _ _
 refine wpAny_bind ?_
 simp only [newExc,newTuple]
 refine wpAny_bind (wpAny_newObj_type ?_ (by size_fits))
 refine wpAny_bind (m:=firstArgMember _ _) (wpAny_of_eq (a:=Value.none) (by first | rfl | (simp only [firstArgMember]; rfl)) ?_)
 refine wpAny_newObj_type ?_ (by size_fits)
 simp only [raiseNew]
 refine wpAny_bind (wpAny_handled ?_)
 first | rw [show A.in1.handled = none from hh] | rw [hh]
 refine wpAny_bind (wpAny_pure (wpAny_throw ?_))
 exact hE _ _ (((Heap.SameBut.update ..).extBut.push _).push _) ⟨_,Heap.get?_push_size _ rfl,rfl⟩
theorem cZ {b:Bool} {it l:Addr} {i:Nat} {items:Array Value} {x:Value} {Q:Value → Shared → Prop} (hit:D9 b s.heap it l i) (hl:J7 b s.heap l items) (hx:items[i]? = some x)
  (hQ:∀ h',D9 b h' it l (i + 1) → Heap.SameBut it s.heap h' → Q x { s with heap:=h' }):wpAny (model prog w) A (Builtin.SmallTypes.nextOf (.ref it)) Q E s:=by
 cases b with
 | true=>exact ou hit hl hx hQ
 | false=>exact wpAny_nextOf_list_item hit hl hx hQ
theorem iY {b:Bool} {it l:Addr} {i:Nat} {items:Array Value} {Q:Value → Shared → Prop} (hh:A.handled = none) (hit:D9 b s.heap it l i) (hl:J7 b s.heap l items) (hx:items[i]? = none)
  (hE:∀ h' e,Heap.ExtBut it s.heap h' → (∃ o,h'.get? e = some o ∧ o.cls = .type "StopIteration") → E (.ref e) { s with heap:=h' }):wpAny (model prog w) A (Builtin.SmallTypes.nextOf (.ref it)) Q E s:=by
 cases b with
 | true=>exact nI hh hit hl hx hE
 | false=>exact wpAny_nextOf_list_end hh hit hl hx hE
structure ZAp (z t o i j l m:Addr):Prop where
 tz:t ≠ z
 oz:o ≠ z
 iz:i ≠ z
 jz:j ≠ z
 ot:o ≠ t
 it:i ≠ t
 jt:j ≠ t
 io:i ≠ o
 jo:j ≠ o
 ij:i ≠ j
 lz:l ≠ z
 lo:l ≠ o
 li:l ≠ i
 lj:l ≠ j
 mz:m ≠ z
 mo:m ≠ o
 mi:m ≠ i
 mj:m ≠ j
theorem nF {b:Bool} {z t o i j l m:Addr} {n:Nat} {xs ys:Array Value} {x y c d:Value} {Q:Option Value → Shared → Prop} (D:ZAp z t o i j l m) (hz:IsZip s.heap z t o .none) (ht:IsPair s.heap t (.ref i) (.ref j)) (ho:IsPair s.heap o c d)
  (hi:D9 b s.heap i l n) (hj:D9 b s.heap j m n) (hl:J7 b s.heap l xs) (hm:J7 b s.heap m ys) (hx:xs[n]? = some x) (hy:ys[n]? = some y)
  (hQ:∀ h',IsZip h' z t o (rawInt s.heap.objs.size) → IsPair h' o x y → D9 b h' i l (n + 1) → D9 b h' j m (n + 1) → IsPair h' s.heap.objs.size x y → h'.objs.size = s.heap.objs.size + 1 →
   (∀ a u,a ≠ z → a ≠ o → a ≠ i → a ≠ j → s.heap.get? a = some u → h'.get? a = some u) → Q (some (.ref s.heap.objs.size)) { s with heap:=h' }):wpAny (model prog w) A (pyNext (.ref z)) Q E s:=by
 have hT:s.TypeIs (.ref z) "zip":=⟨_,hz,rfl⟩
 unfold pyNext
 refine wpAny_bind (wpAny_attempt (wpAny_callSpecial?_slot (name:=Str.ofString "__next__") hT F.slot_zip_next (wpAny_call_entry F.slot_zip_next hT F.entry_zip_next ?_ (F.args_zip_next_1 _))))
 show wpAny _ _ (field (.ref z) 2 >>= _) _ _ _
 refine wpAny_bind (wpAny_field hz rfl (x:=.bool false) rfl ?_)
 show wpAny _ _ (field (.ref z) 3 >>= _) _ _ _
 refine wpAny_bind (wpAny_field hz rfl (x:=.ref t) rfl ?_)
 refine wpAny_bind (wpAny_seqItems ht rfl ?_)
 show wpAny _ _ (Builtin.SmallTypes.ownedTupleIsFree (.ref z) >>= _) _ _ _
 refine wpAny_bind ?_
 unfold Builtin.SmallTypes.ownedTupleIsFree
 refine wpAny_bind (wpAny_field hz rfl (x:=.none) rfl (wpAny_pure ?_))
 simp only [if_true]
 refine wpAny_bind (wpAny_rule ?_)
 refine wpAny_bind (wpAny_field hz rfl (x:=.ref o) rfl ?_)
 refine wpAny_bind (wpAny_setField_rec hz (by simp) fun h1 z1 s1=>?_)
 replace z1:IsZip h1 z t o .ellipsis:=z1
 refine wpAny_bind ?_
 simp only [List.zipIdx_cons,List.zipIdx_nil,List.forIn_cons,List.forIn_nil]
 refine wpAny_bind (wpAny_bind (wpAny_onRaise ?_))
 show wpAny _ _ (Builtin.SmallTypes.nextOf (.ref i) >>= _) _ _ _
 refine wpAny_bind (cZ (s:={ s with heap:=h1 }) (hi.kept fun u e=>s1.extBut _ u D.iz e) (hl.kept fun u e=>s1.extBut _ u D.lz e) hx fun h2 i2 s2=>wpAny_pure ?_)
 have o2:IsPair h2 o c d:=s2.extBut _ _ (Ne.symm D.io) (s1.extBut _ _ D.oz ho)
 refine wpAny_bind (wpAny_seqItems o2 rfl ?_)
 refine wpAny_bind (wpAny_updateSeq_pair o2 fun h3 o3 s3=>?_)
 replace o3:IsPair h3 o x d:=o3
 refine wpAny_bind (wpAny_letGo (wpAny_pure ?_))
 refine wpAny_bind (wpAny_bind (wpAny_onRaise ?_))
 show wpAny _ _ (Builtin.SmallTypes.nextOf (.ref j) >>= _) _ _ _
 refine wpAny_bind (cZ (s:={ s with heap:=h3 }) (hj.kept fun u e=>s3.extBut _ u D.jo (s2.extBut _ u (Ne.symm D.ij) (s1.extBut _ u D.jz e))) (hm.kept fun u e=>s3.extBut _ u D.mo (s2.extBut _ u D.mi (s1.extBut _ u D.mz e))) hy fun h4 j4 s4=>wpAny_pure ?_)
 have o4:IsPair h4 o x d:=s4.extBut _ _ (Ne.symm D.jo) o3
 refine wpAny_bind (wpAny_seqItems o4 rfl ?_)
 refine wpAny_bind (wpAny_updateSeq_pair o4 fun h5 o5 s5=>?_)
 replace o5:IsPair h5 o x y:=o5
 refine wpAny_bind (wpAny_letGo (wpAny_pure (wpAny_pure ?_)))
 refine wpAny_bind (wpAny_seqItems o5 rfl ?_)
 refine wpAny_bind (wpAny_newTuple ?_)
 have hsz:h5.objs.size = s.heap.objs.size:=by rw [s5.1,s4.1,s3.1,s2.1,s1.1]
 have z5:IsZip h5 z t o .ellipsis:=s5.extBut _ _ (Ne.symm D.oz) (s4.extBut _ _ (Ne.symm D.jz) (s3.extBut _ _ (Ne.symm D.oz) (s2.extBut _ _ (Ne.symm D.iz) z1)))
 have k5:∀ a u,a ≠ z → a ≠ o → a ≠ i → a ≠ j → s.heap.get? a = some u → h5.get? a = some u:=fun a u a1 a2 a3 a4 e=>s5.extBut _ _ a2 (s4.extBut _ _ a4 (s3.extBut _ _ a2 (s2.extBut _ _ a3 (s1.extBut _ _ a1 e))))
 have i5:D9 b h5 i l (n + 1):=i2.kept fun u e=>s5.extBut _ u D.io (s4.extBut _ u D.ij (s3.extBut _ u D.io e))
 have j5:D9 b h5 j m (n + 1):=j4.kept fun u e=>s5.extBut _ u D.jo e
 have hzlt:z < h5.objs.size:=Heap.lt_size z5
 show wpAny _ _ (Builtin.SmallTypes.ownedTupleHandOut (.ref z) (.ref h5.objs.size) >>= _) _ _ _
 refine wpAny_bind ?_
 unfold Builtin.SmallTypes.ownedTupleHandOut
 have z6:IsZip (h5.push { cls:=.type "tuple",data:=.seq #[x,y] }) z t o .ellipsis:=Heap.get?_push_of_some _ z5
 refine wpAny_bind (wpAny_setField_rec z6 (by simp) fun h7 z7 s7=>?_)
 replace z7:IsZip h7 z t o (rawInt h5.objs.size):=z7
 refine wpAny_setField_rec z7 (by simp) fun h8 z8 s8=>?_
 replace z8:IsZip h8 z t o (rawInt h5.objs.size):=z8
 have up:∀ a u,a ≠ z → h5.get? a = some u → h8.get? a = some u:=fun a u a1 e=>s8.extBut _ _ a1 (s7.extBut _ _ a1 (Heap.get?_push_of_some _ e))
 have t8:IsPair h8 h5.objs.size x y:=s8.extBut _ _ (Nat.ne_of_gt hzlt) (s7.extBut _ _ (Nat.ne_of_gt hzlt) (Heap.get?_push_size _ rfl))
 have n8:h8.objs.size = h5.objs.size + 1:=by rw [s8.1,s7.1,Heap.size_push]
 rw [hsz] at z8 t8 n8
 refine wpAny_pure ⟨_,rfl,wpAny_pure ?_⟩
 show Q (some (.ref h5.objs.size)) _
 rw [hsz]
 exact hQ h8 z8 (up _ _ D.oz o5) (i5.kept fun u e=>up _ u D.iz e) (j5.kept fun u e=>up _ u D.jz e) t8 n8 fun a u a1 a2 a3 a4 e=>up a u a1 (k5 a u a1 a2 a3 a4 e)
theorem nZ {b:Bool} {z t o i j l m:Addr} {n:Nat} {xs ys:Array Value} {c d:Value} {Q:Option Value → Shared → Prop} (hh:A.handled = none) (D:ZAp z t o i j l m) (hz:IsZip s.heap z t o .none) (ht:IsPair s.heap t (.ref i) (.ref j)) (ho:IsPair s.heap o c d)
  (hi:D9 b s.heap i l n) (hj:D9 b s.heap j m n) (hl:J7 b s.heap l xs) (hm:J7 b s.heap m ys) (hend:xs[n]? = none ∨ ys[n]? = none)
  (hQ:∀ h',(∀ a u,a ≠ z → a ≠ o → a ≠ i → a ≠ j → s.heap.get? a = some u → h'.get? a = some u) → Q none { s with heap:=h' }):wpAny (model prog w) A (pyNext (.ref z)) Q E s:=by
 have hT:s.TypeIs (.ref z) "zip":=⟨_,hz,rfl⟩
 unfold pyNext
 have fin:∀ (h':Heap) (e:Addr),(∀ a u,a ≠ z → a ≠ o → a ≠ i → a ≠ j → s.heap.get? a = some u → h'.get? a = some u) → (∃ u,h'.get? e = some u ∧ u.cls = .type "StopIteration") →
   wpAny (model prog w) A (do if ← isInstance (.ref e) (.type "StopIteration") then pure none else throw (.ref e)) Q E { s with heap:=h' }:=fun h' e kk ⟨u,hu,hc⟩=>by
  refine wpAny_bind (wpAny_isInstance (T:="StopIteration") (b:=true) ⟨u,hu,hc⟩ isSubtype_stop ?_)
  exact wpAny_pure (hQ _ kk)
 refine wpAny_bind (wpAny_attempt (wpAny_callSpecial?_slot (name:=Str.ofString "__next__") hT F.slot_zip_next (wpAny_call_entry F.slot_zip_next hT F.entry_zip_next ?_ (F.args_zip_next_1 _))))
 show wpAny _ _ (field (.ref z) 2 >>= _) _ _ _
 refine wpAny_bind (wpAny_field hz rfl (x:=.bool false) rfl ?_)
 show wpAny _ _ (field (.ref z) 3 >>= _) _ _ _
 refine wpAny_bind (wpAny_field hz rfl (x:=.ref t) rfl ?_)
 refine wpAny_bind (wpAny_seqItems ht rfl ?_)
 show wpAny _ _ (Builtin.SmallTypes.ownedTupleIsFree (.ref z) >>= _) _ _ _
 refine wpAny_bind ?_
 unfold Builtin.SmallTypes.ownedTupleIsFree
 refine wpAny_bind (wpAny_field hz rfl (x:=.none) rfl (wpAny_pure ?_))
 simp only [if_true]
 refine wpAny_bind (wpAny_rule ?_)
 refine wpAny_bind (wpAny_field hz rfl (x:=.ref o) rfl ?_)
 refine wpAny_bind (wpAny_setField_rec hz (by simp) fun h1 z1 s1=>?_)
 replace z1:IsZip h1 z t o .ellipsis:=z1
 refine wpAny_bind ?_
 simp only [List.zipIdx_cons,List.zipIdx_nil,List.forIn_cons,List.forIn_nil]
 refine wpAny_bind (wpAny_bind (wpAny_onRaise ?_))
 show wpAny _ _ (Builtin.SmallTypes.nextOf (.ref i) >>= _) _ _ _
 cases hx:xs[n]? with
 | none =>
  refine wpAny_bind (iY (s:={ s with heap:=h1 }) hh (hi.kept fun u e=>s1.extBut _ u D.iz e) (hl.kept fun u e=>s1.extBut _ u D.lz e) hx fun h2 e s2 he=>?_)
  obtain ⟨oe,hoe,hce⟩:=he
  have z2:IsZip h2 z t o .ellipsis:=s2 _ _ (Ne.symm D.iz) z1
  have hez:e ≠ z:=fun q=>by subst q; rw [z2] at hoe; cases hoe; simp at hce
  refine wpAny_setField_rec z2 (by simp) fun h3 _ s3=>?_
  exact fin h3 e (fun a u a1 _ a3 _ q=>s3.extBut _ _ a1 (s2 _ _ a3 (s1.extBut _ _ a1 q))) ⟨oe,s3.extBut _ _ hez hoe,hce⟩
 | some x =>
  have hy:ys[n]? = none:=by
   rcases hend with q | q
   ·rw [hx] at q; cases q
   ·exact q
  refine wpAny_bind (cZ (s:={ s with heap:=h1 }) (hi.kept fun u e=>s1.extBut _ u D.iz e) (hl.kept fun u e=>s1.extBut _ u D.lz e) hx fun h2 i2 s2=>wpAny_pure ?_)
  have o2:IsPair h2 o c d:=s2.extBut _ _ (Ne.symm D.io) (s1.extBut _ _ D.oz ho)
  refine wpAny_bind (wpAny_seqItems o2 rfl ?_)
  refine wpAny_bind (wpAny_updateSeq_pair o2 fun h3 o3 s3=>?_)
  refine wpAny_bind (wpAny_letGo (wpAny_pure ?_))
  refine wpAny_bind (wpAny_bind (wpAny_onRaise ?_))
  show wpAny _ _ (Builtin.SmallTypes.nextOf (.ref j) >>= _) _ _ _
  refine wpAny_bind (iY (s:={ s with heap:=h3 }) hh (hj.kept fun u e=>s3.extBut _ u D.jo (s2.extBut _ u (Ne.symm D.ij) (s1.extBut _ u D.jz e))) (hm.kept fun u e=>s3.extBut _ u D.mo (s2.extBut _ u D.mi (s1.extBut _ u D.mz e))) hy fun h4 e s4 he=>?_)
  obtain ⟨oe,hoe,hce⟩:=he
  have z4:IsZip h4 z t o .ellipsis:=s4 _ _ (Ne.symm D.jz) (s3.extBut _ _ (Ne.symm D.oz) (s2.extBut _ _ (Ne.symm D.iz) z1))
  have hez:e ≠ z:=fun q=>by subst q; rw [z4] at hoe; cases hoe; simp at hce
  refine wpAny_setField_rec z4 (by simp) fun h5 _ s5=>?_
  exact fin h5 e (fun a u a1 a2 a3 a4 q=>s5.extBut _ _ a1 (s4 _ _ a4 (s3.extBut _ _ a2 (s2.extBut _ _ a3 (s1.extBut _ _ a1 q))))) ⟨oe,s5.extBut _ _ hez hoe,hce⟩
end
section
variable {prog:Program} {w:World} {A:Around} {E:Value → Shared → Prop} {s:Shared}
abbrev U3 (b:Bool) (l:Addr):Obj:={ cls:=.type (if b then "tuple_iterator" else "list_iterator"),data:=.fields #[.ref l,.int 0 0] }
theorem bC {b:Bool} {l:Addr} {items:Array Value} {Q:Value → Shared → Prop} (hl:J7 b s.heap l items) (hQ:Q (.ref s.heap.objs.size) { s with heap:=s.heap.push (U3 b l) }):wpAny (model prog w) A (pyIter (.ref l)) Q E s:=by
 cases b with
 | true=>exact wpAny_pyIter_tuple hl hQ
 | false=>exact wpAny_pyIter_list hl hQ
abbrev zH1 (b:Bool) (h:Heap) (l:Addr):Heap:=h.push (U3 b l)
abbrev zH2 (b:Bool) (h:Heap) (l m:Addr):Heap:=(zH1 b h l).push (U3 b m)
abbrev zH3 (b:Bool) (h:Heap) (l m:Addr):Heap:=(zH2 b h l m).push { cls:=.type "tuple",data:=.seq #[.ref h.objs.size,.ref (zH1 b h l).objs.size] }
abbrev zH4 (b:Bool) (h:Heap) (l m:Addr):Heap:=(zH3 b h l m).push { cls:=.type "tuple",data:=.seq #[.none,.none] }
abbrev zH5 (b:Bool) (h:Heap) (l m:Addr):Heap:=(zH4 b h l m).push { cls:=.type "zip",data:=.fields #[.none,.bool false,.bool false,.ref (zH2 b h l m).objs.size,.ref (zH3 b h l m).objs.size] }
theorem kG (b:Bool) (l m:Addr) (xs ys:Array Value):Meets (Builtin.«zip.__new__» ⟨[.type "zip",.ref l,.ref m],[]⟩) (fun _ R s=>J7 b s.heap l xs ∧ J7 b s.heap m ys ∧ R (.ok (.ret (.ref (zH4 b s.heap l m).objs.size))) { s with heap:=zH5 b s.heap l m }) :=
 .of_wp fun prog w A R s h=>by
  obtain ⟨hp,g,d,tk,os⟩:=s; obtain ⟨hl,hm,h⟩:=h
  have hsub:=sub_zip
  have hL:J7 b (Shared.heap ⟨hp,g,d,tk,os⟩) l xs:=hl
  have hM:J7 b (Shared.heap ⟨hp.push (U3 b l),g,d,tk,os⟩) m ys:=hm.kept fun o e=>Heap.get?_push_of_some _ e
  wp_walk using bC hL,bC hM
  exact ⟨_,rfl,h⟩
theorem bR {b:Bool} {l m:Addr} {xs ys:Array Value} {Q:Value → Shared → Prop} (hl:J7 b s.heap l xs) (hm:J7 b s.heap m ys)
  (h:∀ h',IsZip h' (s.heap.objs.size + 4) (s.heap.objs.size + 2) (s.heap.objs.size + 3) .none → IsPair h' (s.heap.objs.size + 2) (.ref s.heap.objs.size) (.ref (s.heap.objs.size + 1)) → IsPair h' (s.heap.objs.size + 3) .none .none →
   D9 b h' s.heap.objs.size l 0 → D9 b h' (s.heap.objs.size + 1) m 0 → (∀ c o,s.heap.get? c = some o → h'.get? c = some o) → Q (.ref (s.heap.objs.size + 4)) { s with heap:=h' }) :
  wpAny (model prog w) A (call (.type "zip") [.ref l,.ref m]) Q E s:=by
 refine callType_new F.called_zip (by decide) (F.typeCall_zip_2 _ _) (F.newCall_zip_2 _ _) (fun obj=>F.args_object_init_3 obj _ _) F.entry_zip_new (kG b l m xs ys) ⟨hl,hm,?_⟩
 have z1:(zH1 b s.heap l).objs.size = s.heap.objs.size + 1:=Heap.size_push ..
 have z2:(zH2 b s.heap l m).objs.size = s.heap.objs.size + 2:=by rw [Heap.size_push,z1]
 have z3:(zH3 b s.heap l m).objs.size = s.heap.objs.size + 3:=by rw [Heap.size_push,z2]
 have z4:(zH4 b s.heap l m).objs.size = s.heap.objs.size + 4:=by rw [Heap.size_push,z3]
 have g5:(zH5 b s.heap l m).get? (zH4 b s.heap l m).objs.size = some _:=Heap.get?_push_size _ rfl
 have g4:(zH5 b s.heap l m).get? (zH3 b s.heap l m).objs.size = some _:=Heap.get?_push_of_some _ (Heap.get?_push_size _ rfl)
 have g3:(zH5 b s.heap l m).get? (zH2 b s.heap l m).objs.size = some _:=Heap.get?_push_of_some _ (Heap.get?_push_of_some _ (Heap.get?_push_size _ rfl))
 have g2:(zH5 b s.heap l m).get? (zH1 b s.heap l).objs.size = some (U3 b m):=Heap.get?_push_of_some _ (Heap.get?_push_of_some _ (Heap.get?_push_of_some _ (Heap.get?_push_size _ rfl)))
 have g1:(zH5 b s.heap l m).get? s.heap.objs.size = some (U3 b l):=Heap.get?_push_of_some _ (Heap.get?_push_of_some _ (Heap.get?_push_of_some _ (Heap.get?_push_of_some _ (Heap.get?_push_size _ rfl))))
 show _ ∧ _
 rw [z2,z3,z4] at g5
 rw [z1,z2] at g3
 rw [z3] at g4
 rw [z1] at g2
 rw [z4]
 have r1:D9 b (zH5 b s.heap l m) s.heap.objs.size l 0:=by cases b <;> exact ⟨_,g1,rfl,rfl⟩
 have r2:D9 b (zH5 b s.heap l m) (s.heap.objs.size + 1) m 0:=by cases b <;> exact ⟨_,g2,rfl,rfl⟩
 exact ⟨⟨_,g5,rfl⟩,h _ g5 g3 g4 r1 r2 fun c o x=>Heap.get?_push_of_some _ (Heap.get?_push_of_some _ (Heap.get?_push_of_some _ (Heap.get?_push_of_some _ (Heap.get?_push_of_some _ x))))⟩
end
def Sq (b:Bool) (K:PySem.W.Frag) (H:Hp) (a:Addr) (xs:List V):Prop:=match b with
 | true=>SqT K H a xs
 | false=>SqL K H a xs
section
variable {X:Cx} {pins:List (Addr × Obj)} {σ:St} {H:Hp} {s:Shared} {b:Bool} {a:Addr} {xs ys:List V}
theorem Inv.row (I:Inv X pins σ H s) (h:Sq b X.K H a xs):∃ its:List Value,n6 xs its ∧ J7 b s.heap a its.toArray ∧ xs.length ≤ sizeLine:=by
 cases b with
 | true =>
  obtain ⟨its,r,p,z⟩:=I.tuple h
  exact ⟨its,r,p,z⟩
 | false =>
  obtain ⟨its,r,p,z⟩:=I.list h
  exact ⟨its,r,p.isList,z⟩
theorem Inv.row_inj (I:Inv X pins σ H s) (h:Sq b X.K H a xs) (h':Sq b X.K H a ys):xs = ys:=by
 cases b with
 | true=>exact I.tuple_inj h h'
 | false=>exact I.list_inj h h'
end
theorem Sq.there {b:Bool} {h:Heap} {l:Addr} {xs:Array Value} (x:J7 b h l xs):l < h.objs.size:=by
 cases b with
 | true=>obtain ⟨o,e,_⟩:=(show h.IsTuple l xs from x); exact Heap.lt_size e
 | false=>obtain ⟨o,e,_⟩:=(show h.IsList l xs from x); exact Heap.lt_size e
def Itz (b:Bool) (K:PySem.W.Frag) (l m:Addr):It :=
  ⟨fun i H=>∃ xs ys x y,Sq b K H l xs ∧ Sq b K H m ys ∧ xs[i]? = some x ∧ ys[i]? = some y,
   fun i H v H'=>∃ p x y,H p = none ∧ v = .ref p ∧ H' = upd H p (.tup [x,y]) ∧ (∀ xs,Sq b K H l xs → xs[i]? = some x) ∧ ∀ ys,Sq b K H m ys → ys[i]? = some y,
   fun i H=>∃ xs ys,Sq b K H l xs ∧ Sq b K H m ys ∧ (xs.length ≤ i ∨ ys.length ≤ i)⟩
theorem lI {P:Program} {w:World} {K:PySem.W.Frag} {es:List Expr} {kk:Nat} {pos:Pos} {b:Bool} {z t o i j l m:Addr} (D:ZAp z t o i j l m) :
  gK P w K (.Tuple es kk pos) (Itz b K l m) [z,t,o,i,j] z (fun n h=>IsZip h z t o .none ∧ IsPair h t (.ref i) (.ref j) ∧ (∃ c d,IsPair h o c d) ∧ D9 b h i l n ∧ D9 b h j m n) where
 mem:=by simp
 obj:=fun n h ⟨hz,ht,⟨c,d,ho⟩,hi,hj⟩ a ha=>by
  simp only [List.mem_cons,List.not_mem_nil,or_false] at ha
  rcases ha with rfl | rfl | rfl | rfl | rfl
  ·exact ⟨_,hz,fun v q=>nomatch q⟩
  ·exact ⟨_,ht,fun v q=>nomatch q⟩
  ·exact ⟨_,ho,fun v q=>nomatch q⟩
  ·exact hi.there
  ·exact hj.there
 keep:=fun n h h' ⟨hz,ht,⟨c,d,ho⟩,hi,hj⟩ k=>⟨k z (by simp) _ hz,k t (by simp) _ ht,⟨c,d,k o (by simp) _ ho⟩,hi.kept fun u e=>k i (by simp) u e,hj.kept fun u e=>k j (by simp) u e⟩
 item:=by
  intro X hP hw hK hc n pins s σ H E I hf ⟨hz,ht,⟨c,d,ho⟩,hi,hj⟩ hg
  subst hP hw hK
  obtain ⟨xs,ys,x,y,hl,hm,hx,hy⟩:=hg
  obtain ⟨us,ru,hl',hzl⟩:=I.row hl
  obtain ⟨vs,rv,hm',hzm⟩:=I.row hm
  obtain ⟨u,hu,r1⟩:=ru.get hx
  obtain ⟨v,hv,r2⟩:=rv.get hy
  refine nF D hz ht ho hi hj hl' hm' (x:=u) (y:=v) (by simpa using hu) (by simpa using hv) fun h' z' o' i' j' t' n' kp=>⟨_,rfl,?_⟩
  refine wpAny_letOwnedTupleGo_zip (s:={ s with heap:=h' }) z' fun h'' z'' sb=>?_
  have fresh:H s.heap.objs.size = none:=I.hok.fresh (Nat.le_refl _)
  have kp2:∀ a q,a ≠ z → a ≠ o → a ≠ i → a ≠ j → s.heap.get? a = some q → h''.get? a = some q:=fun a q a1 a2 a3 a4 e=>sb.extBut _ _ a1 (kp a q a1 a2 a3 a4 e)
  have hT:s.heap.objs.size ≠ z:=Nat.ne_of_gt (Heap.lt_size hz)
  have pT:IsPair h'' s.heap.objs.size u v:=sb.extBut _ _ hT t'
  have notin:∀ a,a ∉ [z,o,i,j] → a ≠ z ∧ a ≠ o ∧ a ≠ i ∧ a ≠ j:=fun a ha=>by simpa using ha
  have fpn:∀ a ∈ [z,o,i,j],H a = none:=fun a ha=>by
   simp only [List.mem_cons,List.not_mem_nil,or_false] at ha
   rcases ha with rfl | rfl | rfl | rfl
   ·exact (hf _ (by simp)).1
   ·exact (hf _ (by simp)).1
   ·exact (hf _ (by simp)).1
   ·exact (hf _ (by simp)).1
  have trk:∀ a q,H a = some q → a ∉ [z,o,i,j]:=fun a q e ha=>by rw [fpn a ha] at e; cases e
  have hok:HOk X.prog X.w (upd H s.heap.objs.size (.tup [x,y])) h'':=fun a q e=>by
   by_cases ha:a = s.heap.objs.size
   ·subst ha
    rw [d4] at e
    cases e
    exact ⟨by show 2 ≤ sizeLine; decide,[u,v],.cons r1 (.cons r2 .nil),⟨_,pT,rfl,_,rfl⟩⟩
   ·rw [g7 ha] at e
    refine (I.hok a q e).stay (fun a' q' h1 h2=>?_) (fun a' q'=>by rw [g7 (i4 q' fresh)]; exact q') fun a' xs' q'=>by rw [g7 (i4 q' fresh)]; exact q'
    have ni:a' ∉ [z,o,i,j]:=by
     rcases h1 with rfl | h1
     ·exact trk _ _ e
     ·exact trk _ _ h1
    obtain ⟨n1,n2,n3,n4⟩:=notin a' ni
    exact kp2 a' q' n1 n2 n3 n4 h2
  have J:Inv X pins σ (upd H s.heap.objs.size (.tup [x,y])) { s with heap:=h'' }:=by
   refine I.step (g':=s.gens) (d':=s.drawn) (t':=s.toks) (ch:=[z,o,i,j]) (fun a ha=>?_) (fun a q _ _ hc' e _=>?_) (fun a q _ _ hc' e _=>?_) (fun a q _ e n2=>?_) (fun a q hc' e=>?_) (fun a xs' e=>?_) (fun a q u' e=>?_) (fun a ps e=>?_) (fun m' hm''=>?_) hok I.bare
   ·have ha':a ∈ [z,t,o,i,j]:=by
     simp only [List.mem_cons,List.not_mem_nil,or_false] at ha ⊢
     rcases ha with q | q | q | q
     ·exact .inl q
     ·exact .inr (.inr (.inl q))
     ·exact .inr (.inr (.inr (.inl q)))
     ·exact .inr (.inr (.inr (.inr q)))
    obtain ⟨_,f1,_,f3,f4,f5⟩:=hf a ha'
    exact ⟨f3,f1,f4,f5⟩
   ·obtain ⟨n1,n2,n3,n4⟩:=notin a hc'
    exact kp2 a q n1 n2 n3 n4 e
   ·obtain ⟨n1,n2,n3,n4⟩:=notin a hc'
    exact ⟨q.slots,kp2 a q n1 n2 n3 n4 e⟩
   ·rw [g7 (Nat.ne_of_lt (Heap.lt_size e))]
    exact n2
   ·obtain ⟨n1,n2,n3,n4⟩:=notin a hc'
    exact ⟨q,kp2 a q n1 n2 n3 n4 e⟩
   ·rw [g7 (i4 e fresh)]
    exact e
   ·rw [g7 (i4 e fresh)]
    exact e
   ·exact ⟨#[],by rw [g7 (i4 e fresh),e]; simp⟩
   ·obtain ⟨ob,es',ep,e1,r⟩:=hm''
    have f1:∀ a' ∈ [z,t,o,i,j],a' ≠ X.env.locals:=fun a' ha'=>(hf a' ha').2.1
    exact ⟨ob,es',ep,kp2 _ _ (Ne.symm (f1 z (by simp))) (Ne.symm (f1 o (by simp))) (Ne.symm (f1 i (by simp))) (Ne.symm (f1 j (by simp))) e1,r⟩
  refine ⟨.ref s.heap.objs.size,_,J,rfl,⟨s.heap.objs.size,x,y,fresh,rfl,rfl,fun xs' q=>?_,fun ys' q=>?_⟩,⟨z'',?_,⟨_,_,sb.extBut _ _ D.oz o'⟩,i'.kept fun q e=>sb.extBut _ q D.iz e,j'.kept fun q e=>sb.extBut _ q D.jz e⟩,fun a ha=>?_⟩
  ·rw [I.row_inj q hl]; exact hx
  ·rw [I.row_inj q hm]; exact hy
  ·exact kp2 t _ D.tz (Ne.symm D.ot) (Ne.symm D.it) (Ne.symm D.jt) ht
  ·have:a ≠ s.heap.objs.size:=by
    simp only [List.mem_cons,List.not_mem_nil,or_false] at ha
    rcases ha with rfl | rfl | rfl | rfl | rfl
    ·exact Ne.symm hT
    ·exact Nat.ne_of_lt (Heap.lt_size ht)
    ·exact Nat.ne_of_lt (Heap.lt_size ho)
    ·obtain ⟨q,e,_⟩:=hi.there; exact Nat.ne_of_lt (Heap.lt_size e)
    ·obtain ⟨q,e,_⟩:=hj.there; exact Nat.ne_of_lt (Heap.lt_size e)
   rw [g7 this]
   exact (hf a ha).1
 done:=by
  intro X hP hw hK hc n pins s σ H E I hf ⟨hz,ht,⟨c,d,ho⟩,hi,hj⟩ hg
  subst hP hw hK
  obtain ⟨xs,ys,hl,hm,hend⟩:=hg
  obtain ⟨us,ru,hl',hzl⟩:=I.row hl
  obtain ⟨vs,rv,hm',hzm⟩:=I.row hm
  have e1:=ru.length
  have e2:=rv.length
  have hend':us.toArray[n]? = none ∨ vs.toArray[n]? = none:=by
   rcases hend with q | q
   ·exact .inl (by simp; lia)
   ·exact .inr (by simp; lia)
  refine nZ (I.ok.hd hc) D hz ht ho hi hj hl' hm' hend' fun h' kp=>⟨rfl,?_⟩
  have notin:∀ a,a ∉ [z,o,i,j] → a ≠ z ∧ a ≠ o ∧ a ≠ i ∧ a ≠ j:=fun a ha=>by simpa using ha
  have fpn:∀ a ∈ [z,o,i,j],az X pins H a:=fun a ha=>hf a (by
   simp only [List.mem_cons,List.not_mem_nil,or_false] at ha ⊢
   rcases ha with q | q | q | q
   ·exact .inl q
   ·exact .inr (.inr (.inl q))
   ·exact .inr (.inr (.inr (.inl q)))
   ·exact .inr (.inr (.inr (.inr q))))
  have trk:∀ a q,H a = some q → a ∉ [z,o,i,j]:=fun a q e ha=>by rw [(fpn a ha).1] at e; cases e
  have kp2:∀ a q,a ∉ [z,o,i,j] → s.heap.get? a = some q → h'.get? a = some q:=fun a q ha e=>by
   obtain ⟨n1,n2,n3,n4⟩:=notin a ha
   exact kp a q n1 n2 n3 n4 e
  refine I.step (g':=s.gens) (d':=s.drawn) (t':=s.toks) (ch:=[z,o,i,j]) (fun a ha=>?_) (fun a q _ _ hc' e _=>kp2 a q hc' e) (fun a q _ _ hc' e _=>⟨q.slots,kp2 a q hc' e⟩) (fun a q _ e n2=>n2) (fun a q hc' e=>⟨q,kp2 a q hc' e⟩) (fun a xs' e=>e) (fun a q u' e=>e) (fun a ps e=>⟨#[],by rw [e]; simp⟩) (fun m' hm''=>?_) (fun a q e=>?_) I.bare
  ·obtain ⟨_,f1,_,f3,f4,f5⟩:=fpn a ha
   exact ⟨f3,f1,f4,f5⟩
  ·obtain ⟨ob,es',ep,e1,r⟩:=hm''
   exact ⟨ob,es',ep,kp2 _ _ (fun ha=>(fpn _ ha).2.1 rfl) e1,r⟩
  ·refine (I.hok a q e).stay (fun a' q' h1 h2=>kp2 a' q' ?_ h2) (fun _ q'=>q') fun _ _ q'=>q'
   rcases h1 with rfl | h1
   ·exact trk _ _ e
   ·exact trk _ _ h1
 self:=fun _ _ _ _ _ st h=>wpAny_pyIter_zip st.1 h
section
variable {X:Cx}
def qL (b:Bool) (K:PySem.W.Frag) (ta:TA):TI:=fun σ H R=>ta σ H fun vs H1=>∃ l m xs ys,vs = [.ref l,.ref m] ∧ Sq b K H1 l xs ∧ Sq b K H1 m ys ∧ R (Itz b K l m) H1
theorem pR {b:Bool} {es:List Expr} {kk:Nat} {tpos:Pos} {e1 e2:Expr} {ta:TA} {p pos:Pos} (hg:Gl X "zip") (hm:X.mg "zip" = none) (ha:PA X [e1,e2] ta) (hs:starEach [e1,e2] X.env = [(false,eval e1 X.env),(false,eval e2 X.env)]:=by rfl) (hs2:starEach [e2] X.env = [(false,eval e2 X.env)]:=by rfl) :
  PI X (.Tuple es kk tpos) (.Call (.Name "zip" p) [e1,e2] [] pos) (qL b X.K ta):=by
 intro pins s σ H R I h
 refine Call_ (V6 I hg hm boot_zip (PyProof.Rows.callWith_type1 (thn (ha pos pins s σ H _ I h) fun us s1 ⟨vs,H1,I1,r1,q1⟩=>?_) (by rw [hs,hs2]) (by rw [hs2]; rfl)))
 obtain ⟨l,m,xs,ys,e,hl,hm,q⟩:=q1
 subst e
 obtain ⟨u,u',rfl,ru,ru'⟩:=ah r1
 cases ru
 cases ru'
 obtain ⟨its,rv,hl',_⟩:=I1.row hl
 obtain ⟨its2,rv2,hm',_⟩:=I1.row hm
 refine bR hl' hm' fun h' hz ht ho hi hj kp=>wpAny_pyIter_zip hz ?_
 have ll:=Sq.there hl'
 have lm:=Sq.there hm'
 have N:∀ n,l ≠ s1.heap.objs.size + n:=fun n=>Nat.ne_of_lt (Nat.lt_of_lt_of_le ll (Nat.le_add_right _ n))
 have M:∀ n,m ≠ s1.heap.objs.size + n:=fun n=>Nat.ne_of_lt (Nat.lt_of_lt_of_le lm (Nat.le_add_right _ n))
 have L:∀ n k,n < k → s1.heap.objs.size + n ≠ s1.heap.objs.size + k:=fun n k q=>Nat.ne_of_lt (Nat.add_lt_add_left q _)
 have G:∀ n k,k < n → s1.heap.objs.size + n ≠ s1.heap.objs.size + k:=fun n k q=>Nat.ne_of_gt (Nat.add_lt_add_left q _)
 have D:ZAp (s1.heap.objs.size + 4) (s1.heap.objs.size + 2) (s1.heap.objs.size + 3) s1.heap.objs.size (s1.heap.objs.size + 1) l m :=
  ⟨L 2 4 (by decide),L 3 4 (by decide),L 0 4 (by decide),L 1 4 (by decide),G 3 2 (by decide),L 0 2 (by decide),L 1 2 (by decide),L 0 3 (by decide),L 1 3 (by decide),L 0 1 (by decide),N 4,N 3,N 0,N 1,M 4,M 3,M 0,M 1⟩
 have fr:∀ n,az X pins H1 (s1.heap.objs.size + n):=fun n=>I1.fpOk (Nat.le_add_right _ n) (I1.hok.fresh (Nat.le_add_right _ n))
 refine ⟨s1.heap.objs.size + 4,[s1.heap.objs.size + 4,s1.heap.objs.size + 2,s1.heap.objs.size + 3,s1.heap.objs.size,s1.heap.objs.size + 1],_,_,H1,rfl,I1.kept (t':=s1.toks) kp,lI (b:=b) D,⟨hz,ht,⟨_,_,ho⟩,hi,hj⟩,fun a ha=>?_,q⟩
 simp only [List.mem_cons,List.not_mem_nil,or_false] at ha
 rcases ha with rfl | rfl | rfl | rfl | rfl
 ·exact fr 4
 ·exact fr 2
 ·exact fr 3
 ·exact fr 0
 ·exact fr 1
end
end L2
namespace L2
open PySem
theorem lW (xs:Array Nat) (j:Nat) (mono:xs.toList.Pairwise (· < ·)):∀ fuel lo hi,hi - lo ≤ fuel → lo ≤ hi → hi ≤ xs.size → (∀ i,i < lo → xs.getD i j < j) → (∀ i,hi ≤ i → i < xs.size → j ≤ xs.getD i j) →
  SetTable.below.go xs j fuel lo hi ≤ xs.size ∧ (∀ i,i < SetTable.below.go xs j fuel lo hi → xs.getD i j < j) ∧ ∀ i,SetTable.below.go xs j fuel lo hi ≤ i → i < xs.size → j ≤ xs.getD i j:=by
 have le:∀ a b,a ≤ b → b < xs.size → xs.getD a j ≤ xs.getD b j:=fun a b h hb=>by
  rcases Nat.lt_or_eq_of_le h with h | h
  ·have:=List.pairwise_iff_getElem.mp mono a b (by simp; lia) (by simpa using hb) h
   simp only [Array.getElem_toList] at this
   simp only [Array.getD_eq_getD_getElem?,Array.getElem?_eq_getElem hb,Array.getElem?_eq_getElem (show a < xs.size by lia),Option.getD_some]
   lia
  ·rw [h]; exact Nat.le_refl _
 intro fuel
 induction fuel with
 | zero =>
  intro lo hi h1 h2 h3 h4 h5
  have e:lo = hi:=by lia
  subst e
  exact ⟨h3,h4,h5⟩
 | succ fuel ih =>
  intro lo hi h1 h2 h3 h4 h5
  unfold SetTable.below.go
  by_cases hl:lo < hi
  ·rw [if_pos hl]
   dsimp only
   by_cases hm:xs.getD ((lo + hi) / 2) j < j
   ·rw [if_pos hm]
    refine ih _ _ (by lia) (by lia) h3 (fun i hi'=>?_) h5
    exact Nat.lt_of_le_of_lt (le i ((lo + hi) / 2) (by lia) (by lia)) hm
   ·rw [if_neg hm]
    refine ih _ _ (by lia) (by lia) (by lia) h4 (fun i hi' hs=>?_)
    exact Nat.le_trans (by lia) (le ((lo + hi) / 2) i hi' hs)
  ·rw [if_neg hl]
   have e:lo = hi:=by lia
   subst e
   exact ⟨h3,h4,h5⟩
theorem V5 (xs:Array Nat) (j:Nat) (mono:xs.toList.Pairwise (· < ·)):SetTable.below xs j ≤ xs.size ∧ (∀ i,i < SetTable.below xs j → xs.getD i j < j) ∧ ∀ i,SetTable.below xs j ≤ i → i < xs.size → j ≤ xs.getD i j :=
 lW xs j mono xs.size 0 xs.size (by lia) (by lia) (Nat.le_refl _) (fun i h=>absurd h (by lia)) (fun i h h'=>absurd h' (by lia))
theorem dH (xs:Array Nat) (j:Nat) (mono:xs.toList.Pairwise (· < ·)) (hn:xs[SetTable.below xs j]? ≠ some j):(SetTable.insertAt xs (SetTable.below xs j) j).toList.Pairwise (· < ·):=by
 obtain ⟨h1,h2,h3⟩:=V5 xs j mono
 have e:(SetTable.insertAt xs (SetTable.below xs j) j).toList = xs.toList.take (SetTable.below xs j) ++ j :: xs.toList.drop (SetTable.below xs j):=by
  simp [SetTable.insertAt,List.extract_eq_take_drop,List.take_of_length_le]
 rw [e]
 generalize hp:SetTable.below xs j = p at *
 have gt:∀ i,p ≤ i → (h:i < xs.size) → j < xs[i]:=fun i hi h=>by
  have q:=h3 i hi h
  rw [Array.getD_eq_getD_getElem?,Array.getElem?_eq_getElem h,Option.getD_some] at q
  rcases Nat.lt_or_eq_of_le q with q | q
  ·exact q
  ·exfalso
   have hps:p < xs.size:=by lia
   have q2:=h3 p (Nat.le_refl _) hps
   rw [Array.getD_eq_getD_getElem?,Array.getElem?_eq_getElem hps,Option.getD_some] at q2
   rcases Nat.lt_or_eq_of_le hi with z | z
   ·have:=List.pairwise_iff_getElem.mp mono p i (by simpa using hps) (by simpa using h) z
    simp only [Array.getElem_toList] at this
    lia
   ·subst z
    exact hn (by rw [Array.getElem?_eq_getElem h,← q])
 rw [List.pairwise_append,List.pairwise_cons]
 refine ⟨mono.sublist (List.take_sublist _ _),⟨fun a ha=>?_,mono.sublist (List.drop_sublist _ _)⟩,fun a ha b hb=>?_⟩
 ·obtain ⟨i,hi,rfl⟩:=List.getElem_of_mem ha
  rw [List.getElem_drop]
  rw [List.length_drop,Array.length_toList] at hi
  have:=gt (p + i) (by lia) (by lia)
  simpa using this
 ·obtain ⟨i,hi,rfl⟩:=List.getElem_of_mem ha
  rw [List.length_take,Array.length_toList] at hi
  have q:=h2 i (by lia)
  rw [Array.getD_eq_getD_getElem?,Array.getElem?_eq_getElem (by lia),Option.getD_some] at q
  rw [List.getElem_take]
  rw [Array.getElem_toList]
  rcases List.mem_cons.mp hb with rfl | hb
  ·exact q
  ·obtain ⟨k,hk,rfl⟩:=List.getElem_of_mem hb
   rw [List.getElem_drop]
   rw [List.length_drop,Array.length_toList] at hk
   have:=gt (p + k) (by lia) (by lia)
   rw [Array.getElem_toList]
   lia
structure JT (L:Bool) (t:SetTable):Prop where
 led:t.led = L
 dum:t.dummies = #[]
 mono:t.place.toList.Pairwise (· < ·)
theorem iQ (j:Nat):SetTable.has #[] j = false:=by simp [SetTable.has]
theorem gJ (t:SetTable) (j:Nat) (h:t.dummies = #[]):(t.slot j = .empty ∧ t.place[SetTable.below t.place j]? ≠ some j) ∨ ∃ i,t.slot j = .live i:=by
 unfold SetTable.slot
 rw [h,iQ]
 dsimp only
 by_cases e:(t.place[SetTable.below t.place j]? == some j) = true
 ·rw [if_pos e]; exact .inr ⟨_,rfl⟩
 ·rw [if_neg e]
  refine .inl ⟨by simp,fun q=>e ?_⟩
  rw [q]; simp
theorem eN (t:SetTable) (hd:t.dummies = #[]) (f:Nat → Int) (h:Int):∀ (fuel:Nat) (p:SetTable.Probe) (j:Nat) (d:Option Nat),p.dummy = none → SetTable.probe.go t f h fuel p = some (.empty j d) →
  d = none ∧ t.place[SetTable.below t.place j]? ≠ some j:=by
 intro fuel
 induction fuel with
 | zero=>intro p j d _ e; simp [SetTable.probe.go] at e
 | succ fuel ih =>
  intro p j d hp e
  unfold SetTable.probe.go at e
  rcases gJ t p.j hd with ⟨q,q2⟩ | ⟨i,q⟩
  ·rw [q] at e
   injection e with e
   injection e with e1 e2
   subst e1
   exact ⟨e2 ▸ hp,q2⟩
  ·rw [q] at e
   dsimp only at e
   have ha:(t.advance p).dummy = none:=by
    unfold SetTable.advance
    split
    ·exact hp
    ·exact hp
   split at e
   ·cases e
   ·exact ih _ j d ha e
theorem Q8 {L:Bool} {t:SetTable} (n:Nat) (h:JT L t):JT L (t.standIn n) where
 led:=h.led
 dum:=rfl
 mono:=by
  show (Array.range n).toList.Pairwise (· < ·)
  rw [Array.toList_range]
  exact List.pairwise_lt_range
theorem jU {L:Bool} {t:SetTable} (es:Array (Int × Value)) (h:Int) (x:Value) (J:JT L t):JT L (layNew t es h x).2.1:=by
 unfold layNew
 cases q:t.freeSlot h with
 | none=>exact Q8 _ J
 | some r =>
  obtain ⟨slot,wasDummy⟩:=r
  dsimp only
  have hs:t.place[SetTable.below t.place slot]? ≠ some slot:=by
   unfold SetTable.freeSlot at q
   cases e:t.probe (fun _=>h + 1) h (t.probeStart h) with
   | none=>rw [e] at q; cases q
   | some m =>
    rw [e] at q
    cases m with
    | candidate _ _ _=>cases q
    | empty j d =>
     obtain ⟨rfl,z⟩:=eN t J.dum _ h _ _ j d rfl e
     have q1:=Option.some.inj q
     injection q1 with q2 _
     subst q2
     exact z
  have Jp:JT L (t.put slot).1:=by
   refine ⟨J.led,?_,dH t.place slot J.mono hs⟩
   show (if SetTable.has t.dummies slot = true then _ else t.dummies) = #[]
   rw [J.dum,iQ]
   rfl
  unfold SetTable.orStandIn
  split
  ·exact Jp
  ·exact Q8 _ Jp
theorem oy {L:Bool} {mask finger moves:Nat} {plain:Bool} {hs:Array Int} {t:SetTable} {o:Array Nat} (h:SetTable.laid mask finger moves L plain hs = some (t,o)):JT L t:=by
 unfold SetTable.laid at h
 cases q:SetTable.layClean mask hs with
 | none=>rw [q] at h; cases h
 | some owner =>
  rw [q] at h
  have e:=Option.some.inj h
  injection e with e1 _
  subst e1
  refine ⟨rfl,rfl,?_⟩
  show (List.map (fun x=>x.1) ((List.range (mask + 1)).filterMap fun j=>(owner.getD j none).map (j,·))).toArray.toList.Pairwise (· < ·)
  have:∀ l:List Nat,List.Sublist (List.map (fun x:Nat × Nat=>x.1) (l.filterMap fun j=>(owner.getD j none).map (j,·))) l:=by
   intro l
   induction l with
   | nil=>exact List.Sublist.refl _
   | cons a r ih =>
    rw [List.filterMap_cons]
    cases (owner.getD a none) with
    | none=>exact ih.cons _
    | some k=>exact ih.cons₂ _
  exact (List.pairwise_lt_range (n:=mask + 1)).sublist (by simpa using this (List.range (mask + 1)))
theorem fB {L:Bool} {t:SetTable} (es:Array (Int × Value)) (wanted:Nat) (J:JT L t):JT L (relayAll t es wanted).2.1:=by
 unfold relayAll
 cases q:t.relaid (es.map (·.1)) wanted with
 | none=>exact Q8 _ J
 | some r =>
  obtain ⟨t',order⟩:=r
  dsimp only
  split
  ·unfold SetTable.relaid at q
   rw [J.led] at q
   exact oy q
  ·exact Q8 _ J
theorem dg {L:Bool} {t:SetTable} (J:JT L t):JT L { t with plain:=false }:=⟨J.led,J.dum,J.mono⟩
theorem gu {xs:Array Nat} (mono:xs.toList.Pairwise (· < ·)) (k:Nat) (hk:k < xs.size):SetTable.below xs (xs[k] + 1) = k + 1:=by
 obtain ⟨h1,h2,h3⟩:=V5 xs (xs[k] + 1) mono
 have q1:¬ SetTable.below xs (xs[k] + 1) ≤ k:=fun q=>by
  have:=h3 k q hk
  rw [Array.getD_eq_getD_getElem?,Array.getElem?_eq_getElem hk,Option.getD_some] at this
  lia
 have q2:¬ k + 1 < SetTable.below xs (xs[k] + 1):=fun q=>by
  have hk1:k + 1 < xs.size:=by lia
  have:=h2 (k + 1) q
  rw [Array.getD_eq_getD_getElem?,Array.getElem?_eq_getElem hk1,Option.getD_some] at this
  have z:=List.pairwise_iff_getElem.mp mono k (k + 1) (by simpa using hk) (by simpa using hk1) (by lia)
  simp only [Array.getElem_toList] at z
  lia
 lia
theorem fo {xs:Array Nat} (mono:xs.toList.Pairwise (· < ·)):SetTable.below xs 0 = 0:=by
 obtain ⟨h1,h2,h3⟩:=V5 xs 0 mono
 rcases Nat.eq_zero_or_pos (SetTable.below xs 0) with h | h
 ·exact h
 ·exact absurd (h2 0 h) (by lia)
theorem V1 {α:Type}:∀ (l:List α) (i:Nat) (h:i < l.length),List.Perm (l[i] :: l.eraseIdx i) l
 | a :: l,0,_=>List.Perm.refl _
 | a :: l,i + 1,h=>(List.Perm.swap _ _ _).trans ((V1 l i (by simpa using h)).cons a)
theorem aS {α:Type} (next:Nat → Nat) (xs:Array α):List.Perm (pickOrder next xs).toList xs.toList:=by
 have go:∀ (fuel k:Nat) (left:List α) (out:Array α),left.length = fuel → List.Perm (pickOrder.go next fuel k left out).toList (out.toList ++ left):=by
  intro fuel
  induction fuel with
  | zero =>
   intro k left out h
   have e:left = []:=List.eq_nil_of_length_eq_zero h
   subst e
   simp [pickOrder.go]
  | succ fuel ih =>
   intro k left out h
   unfold pickOrder.go
   have hlt:next k % left.length < left.length:=Nat.mod_lt _ (by lia)
   rw [List.getElem?_eq_getElem hlt]
   dsimp only
   refine (ih (k + 1) _ _ (by rw [List.length_eraseIdx_of_lt hlt]; lia)).trans ?_
   rw [Array.toList_push,List.append_assoc]
   exact List.Perm.append_left _ (V1 left _ hlt)
 exact (go xs.size 0 xs.toList #[] (by simp)).trans (by simp)
end L2
namespace L2
open PySem
section
variable {prog:Program} {w:World} {κ:Type} [DecidableEq κ]
def M3 (knd:KeyKind prog w κ) (h:Heap) (a:Addr) (S:κ → Bool) (n:Nat):Prop :=
 ∃ o es ep t,h.get? a = some o ∧ o.ExactSet ∧ o.data = .set es ep t ∧ (ElemsOf knd es.toList ∧ (∀ k,S k = true ↔ ∃ e ∈ es.toList,knd.is k e.2 = true) ∧ es.size < scanBound ∧ t.fits es.size = true ∧ es.size = n) ∧ JT (!w.params.followText "set-order") t
variable {knd:KeyKind prog w κ} {A:Around} {E:Value → Shared → Prop} {s:Shared}
theorem M3.of_get {h h':Heap} {a:Addr} {S:κ → Bool} {n:Nat} (x:M3 knd h a S n) (k:∀ o,h.get? a = some o → h'.get? a = some o):M3 knd h' a S n:=by
 obtain ⟨o,es,ep,t,e,r⟩:=x
 exact ⟨o,es,ep,t,k o e,r⟩
theorem M3.congr {h:Heap} {a:Addr} {S S':κ → Bool} {n n':Nat} (x:M3 knd h a S n) (e:∀ k,S k = S' k) (en:n = n'):M3 knd h a S' n':=by
 obtain rfl:S = S':=funext e
 subst en
 exact x
theorem M3.new (h:Heap) {l:Bool} (hl:l = !w.params.followText "set-order"):M3 knd (h.push { cls:=.type "set",dict:=none,data:=.set #[] 0 (.fresh 0 0 l) }) h.objs.size (fun _=>false) 0:=by
 refine ⟨_,#[],0,_,Heap.get?_push_size _ rfl,⟨rfl,rfl,rfl⟩,rfl,⟨fun e he=>absurd he (by simp),fun k=>by simp,by decide,by simp [SetTable.fits,SetTable.fresh,SetTable.fill],rfl⟩,hl,rfl,?_⟩
 exact List.Pairwise.nil
theorem M3.store {h:Heap} {a:Addr} {o:Obj} {es es':Array (Int × Value)} {ep:Nat} {t t':SetTable} {S:κ → Bool} (ho:h.get? a = some o) (hx:o.ExactSet) (hd:o.data = .set es ep t)
  (el:ElemsOf knd es'.toList) (mem:∀ k,S k = true ↔ ∃ e ∈ es'.toList,knd.is k e.2 = true) (hb:es'.size < scanBound) (hf:t'.fits es'.size = true) (J:JT (!w.params.followText "set-order") t') :
  (h.update a (Obj.putSet es' t')).get? a = some { o with data:=.set es' (ep + 1) t' } ∧ M3 knd (h.update a (Obj.putSet es' t')) a S es'.size:=by
 have g:(h.update a (Obj.putSet es' t')).get? a = some { o with data:=.set es' (ep + 1) t' }:=(SetOf_store (knd:=knd) (S':=S) ho hx hd el mem hb hf).1
 exact ⟨g,_,es',ep + 1,t',g,hx,rfl,⟨el,mem,hb,hf,rfl⟩,J⟩
theorem lN {g:Bool → Sem Unit} (hg:∀ (b:Bool) (s₁:Shared) (Q':Unit → Shared → Prop),Q' () s₁ → wpAny (model prog w) A (g b) Q' E s₁)
  {a:Addr} {o:Obj} {es es1:Array (Int × Value)} {ep:Nat} {t t2:SetTable} {S:κ → Bool} {wd:Bool} {R:Option Bool → Shared → Prop} (ho:s.heap.get? a = some o) (hx:o.ExactSet) (hd:o.data = .set es ep t)
  (el:ElemsOf knd es1.toList) (mem:∀ k,S k = true ↔ ∃ e ∈ es1.toList,knd.is k e.2 = true) (hb:es1.size < scanBound) (hf:t2.fits es1.size = true) (J:JT (!w.params.followText "set-order") t2)
  (fin:∀ h',Heap.SameBut a s.heap h' → M3 knd h' a S es1.size → R (some true) { s with heap:=h' }) :
  wpAny (model prog w) A (do
    storeSet a es1 t2
    if (!wd && t2.tooFull) = true then do
      g (relayAll t2 es1 (SetTable.grown es1.size)).2.2
      storeSet a (relayAll t2 es1 (SetTable.grown es1.size)).1 (relayAll t2 es1 (SetTable.grown es1.size)).2.1
      pure (some true)
     else pure (some true)) R E s:=by
 obtain ⟨g1,x1⟩:=M3.store (knd:=knd) ho hx hd el mem hb hf J
 have sb1:=Heap.SameBut.update s.heap a (Obj.putSet es1 t2)
 refine wpAny_bind (wpAny_storeSet_of ho hd ?_ (fits_of_scanBound hb))
 by_cases c:(!wd && t2.tooFull) = true
 ·rw [if_pos c]
  have pm:=relayAll_perm t2 es1 (SetTable.grown es1.size)
  have ft:=relayAll_fits t2 es1 (SetTable.grown es1.size)
  have J2:=fB (t:=t2) es1 (SetTable.grown es1.size) J
  generalize relayAll t2 es1 (SetTable.grown es1.size) = r at pm ft J2 ⊢
  obtain ⟨es2,t3,gave⟩:=r
  dsimp only at pm ft J2 ⊢
  have sz:es2.size = es1.size:=by simpa using pm.length_eq
  refine wpAny_bind (hg _ _ _ (wpAny_bind (wpAny_storeSet_of g1 rfl ?_ (by rw [sz]; exact fits_of_scanBound hb))))
  obtain ⟨_,x2⟩:=M3.store (knd:=knd) (S:=S) g1 hx rfl (el.perm pm) (fun k=>(mem k).trans ⟨fun ⟨e,he,q⟩=>⟨e,pm.mem_iff.mpr he,q⟩,fun ⟨e,he,q⟩=>⟨e,pm.mem_iff.mp he,q⟩⟩) (by rw [sz]; exact hb) ft J2
  rw [sz] at x2
  exact wpAny_pure (fin _ (sb1.trans (Heap.SameBut.update _ a _)) x2)
 ·rw [if_neg c]
  exact wpAny_pure (fin _ sb1 x1)
theorem rG {a:Addr} {S:κ → Bool} {n:Nat} {k:κ} {x:Value} {Q:Bool → Shared → Prop} (hk:knd.is k x = true) (hsc:x.scannable = true) (hS:M3 knd s.heap a S n) (room:n + 1 < scanBound)
  (fin:∀ h',Heap.SameBut a s.heap h' → M3 knd h' a (fun k'=>S k' || decide (k' = k)) (if S k then n else n + 1) → Q (!S k) { s with heap:=h' }) :
  wpAny (model prog w) A (setAddHashed a x (knd.hash k)) Q E s:=by
 obtain ⟨o,es,ep,t,ho,hx,hd,⟨el,mem,hb,hf,hn⟩,J⟩:=hS
 have quiet:∀ (b:Bool) (s₁:Shared) (Q':Unit → Shared → Prop),Q' () s₁ → wpAny (model prog w) A (match b with | true=>rule "set.scan.the-table-gave-way" | false=>pure ()) Q' E s₁:=fun b s₁ Q' z=>by
  cases b
  ·exact wpAny_pure z
  ·exact wpAny_rule z
 unfold setAddHashed setAddHashedIn
 refine wpAny_holding (wpAny_bind (wpAny_setState_of ho hd hf ?_))
 dsimp only
 rw [if_pos (byScan_of hsc hb el)]
 unfold setAddByScan
 refine wpAny_bind (wpAny_bind (wpAny_rule (wpAny_bind (wpAny_setScan_of hk ho hd hf el ?_))))
 cases found:List.findIdx? (fun e=>knd.is k e.2) es.toList with
 | some j =>
  obtain ⟨hj,pj,_⟩:=List.findIdx?_eq_some_iff_getElem.mp found
  have there:S k = true:=(mem k).mpr ⟨_,List.getElem_mem hj,pj⟩
  dsimp only
  refine wpAny_pure (wpAny_pure ?_)
  have z:=fin s.heap (Heap.SameBut.refl a s.heap) ⟨o,es,ep,t,ho,hx,hd,⟨el,fun k'=>?_,hb,hf,by rw [there]; exact hn⟩,J⟩
  ·rw [there] at z
   exact z
  ·rw [← mem k',Bool.or_eq_true,decide_eq_true_eq]
   exact ⟨fun q=>q.elim id fun e=>by rw [e]; exact there,.inl⟩
 | none =>
  have away:S k = false:=by
   cases q:S k with
   | false=>rfl
   | true =>
    obtain ⟨e,he,pe⟩:=(mem k).mp q
    exact absurd pe (by simpa using List.findIdx?_eq_none_iff.mp found e he)
  dsimp only
  have pm:=layNew_perm t es (knd.hash k) x
  have ft:=layNew_fits t es (knd.hash k) x
  have J1:=jU es (knd.hash k) x J
  generalize layNew t es (knd.hash k) x = r at pm ft J1 ⊢
  obtain ⟨es1,t1,wd,gave⟩:=r
  dsimp only at pm ft J1 ⊢
  rw [Array.toList_push] at pm
  have sz:es1.size = n + 1:=by
   have:=pm.length_eq
   rw [List.length_append] at this
   simp at this
   lia
  have last:∀ h',Heap.SameBut a s.heap h' → M3 knd h' a (fun k'=>S k' || decide (k' = k)) es1.size → Q true { s with heap:=h' }:=fun h' sb q=>by
   have z:=fin h' sb
   rw [away] at z
   rw [sz] at q
   exact z q
  have go:∀ t2:SetTable,t2.fits es1.size = true → JT (!w.params.followText "set-order") t2 → ∀ (R:Option Bool → Shared → Prop),(∀ h',Heap.SameBut a s.heap h' → M3 knd h' a (fun k'=>S k' || decide (k' = k)) es1.size → R (some true) { s with heap:=h' }) → wpAny (model prog w) A (do
    storeSet a es1 t2
    if (!wd && t2.tooFull) = true then do
      (match (relayAll t2 es1 (SetTable.grown es1.size)).2.2 with | true=>rule "set.scan.the-table-gave-way" | false=>pure ())
      storeSet a (relayAll t2 es1 (SetTable.grown es1.size)).1 (relayAll t2 es1 (SetTable.grown es1.size)).2.1
      pure (some true)
     else pure (some true)) R E s:=fun t2 f2 J2 R hR =>
   lN quiet ho hx hd ((el.push hk hsc).perm pm) (mem_push_iff hk mem pm) (by rw [sz]; exact room) f2 J2 hR
  refine wpAny_bind (quiet _ _ _ ?_)
  by_cases c:t1.plain = true
  ·rw [if_pos c]
   refine wpAny_bind ?_
   rw [hashByValue_scannable 8 hsc]
   refine wpAny_pure ?_
   refine go _ ?_ ?_ _ fun h' sb q=>wpAny_pure (last h' sb q)
   ·split
    ·exact ft
    ·exact SetTable.fits_plain_off ft
   ·split
    ·exact J1
    ·exact dg J1
  ·rw [if_neg c]
   refine wpAny_bind (wpAny_pure ?_)
   rw [if_pos rfl]
   exact go _ ft J1 _ fun h' sb q=>wpAny_pure (last h' sb q)
end
end L2
namespace L2
open PySem
theorem o7:Slot "set_iterator" "__next__" "set_iterator.__next__" :=
 .of (owner:="set_iterator") (n:="__next__") (by rw [typeLookup_type,builtinLookup_eq_fast]; kernel_rfl)
  (by decide +kernel) (by decide +kernel) (by decide +kernel)
  (by first | exact .inl (by decide +kernel) | exact .inr (by decide +kernel)) (by rw [isSubtype_type]; kernel_rfl)
theorem R7:Slot "set_iterator" "__iter__" "set_iterator.__iter__" :=
 .of (owner:="set_iterator") (n:="__iter__") (by rw [typeLookup_type,builtinLookup_eq_fast]; kernel_rfl)
  (by decide +kernel) (by decide +kernel) (by decide +kernel)
  (by first | exact .inl (by decide +kernel) | exact .inr (by decide +kernel)) (by rw [isSubtype_type]; kernel_rfl)
theorem D8:entryFor table "set_iterator.__next__" = some Builtin.«set_iterator.__next__»:=entryFor_of_fast (by kernel_rfl)
theorem Y5:entryFor table "set_iterator.__iter__" = some Builtin.«dict_keyiterator.__iter__» :=
 entryFor_alias (id':="dict_keyiterator.__iter__") (by kernel_rfl)
  (by first | rfl | decide +kernel | (unfold String.splitOn; simp +decide [String.splitOnAux])) (by decide +kernel) (by kernel_rfl)
theorem au:entryFor table "set.__iter__" = some Builtin.«frozenset.__iter__» :=
 entryFor_alias (id':="frozenset.__iter__") (by kernel_rfl)
  (by first | rfl | decide +kernel | (unfold String.splitOn; simp +decide [String.splitOnAux])) (by decide +kernel) (by kernel_rfl)
theorem E5 (a:Value):argsOk "set_iterator.__next__" ⟨[a],[]⟩:=by unfold argsOk; kernel_rfl
theorem av (a:Value):argsOk "set_iterator.__iter__" ⟨[a],[]⟩:=by unfold argsOk; kernel_rfl
abbrev U5 (first:Value) (i:Nat) (a:Addr) (n ep:Nat):Obj:={ cls:=.type "set_iterator",dict:=none,data:=.fields #[first,.int i 0,.ref a,.int n 0,.int ep 0],slots:=#[] }
section
variable {prog:Program} {w:World} {A:Around} {E:Value → Shared → Prop} {s:Shared} {a I:Addr} {o:Obj} {es:Array (Int × Value)} {ep:Nat} {t:SetTable}
theorem aD {Q:Bool → Shared → Prop} (h:Q (w.params.followText "set-order") s):wpAny (model prog w) A setsByText Q E s:=wpAny_bind (wpAny_askSetting (wpAny_pure h))
theorem cX {Q:Array (Int × Value) → Shared → Prop} (ht:w.params.followText "set-order" = true) (ho:s.heap.get? a = some o) (hd:o.data = .set es ep t) (hf:t.fits es.size = true)
  (h:Q (pickOrder (w.params.setOrder a ep) es) s):wpAny (model prog w) A (setWalk a) Q E s:=by
 unfold setWalk
 refine wpAny_bind (wpAny_setState_of ho hd hf ?_)
 dsimp only
 refine wpAny_bind (aD ?_)
 rw [ht]
 simp only [if_true]
 exact wpAny_bind (wpAny_askSetting (wpAny_pure h))
theorem dI {sl k:Nat} {Q:Option (Value × Nat) → Shared → Prop} (ht:w.params.followText "set-order" = true) (ho:s.heap.get? a = some o) (hd:o.data = .set es ep t) (hf:t.fits es.size = true)
  (h:Q (((pickOrder (w.params.setOrder a ep) es)[k]?).map fun e=>(e.2,sl)) s):wpAny (model prog w) A (setNext a sl k ep) Q E s:=by
 unfold setNext
 refine wpAny_bind (wpAny_setState_of ho hd hf ?_)
 dsimp only
 refine wpAny_bind (aD ?_)
 rw [ht]
 simp only [if_true,bne_self_eq_false,Bool.false_eq_true,if_false]
 exact wpAny_bind (cX ht ho hd hf (wpAny_pure h))
theorem bS {sl k:Nat} {Q:Option (Value × Nat) → Shared → Prop} (ht:w.params.followText "set-order" = false) (ho:s.heap.get? a = some o) (hd:o.data = .set es ep t) (hf:t.fits es.size = true) (J:JT true t)
  (hp:(!t.plain && decide (es.size > 1)) = false) (hs:SetTable.below t.place sl = k)
  (h:Q (match es[k]?,t.place[k]? with | some (_,x),some j=>some (x,j + 1) | _,_=>none) s):wpAny (model prog w) A (setNext a sl k ep) Q E s:=by
 unfold setNext
 refine wpAny_bind (wpAny_setState_of ho hd hf ?_)
 dsimp only
 refine wpAny_bind (aD ?_)
 rw [ht]
 simp only [Bool.false_eq_true,if_false]
 show wpAny _ _ (if (!t.plain && decide (es.size > 1)) = true then unsupported _ else _) _ _ s
 rw [hp]
 simp only [Bool.false_eq_true,if_false]
 refine wpAny_bind ?_
 show wpAny _ _ (if (!t.led && !es.isEmpty) = true then unsupported _ else pure ()) _ _ s
 rw [J.led]
 simp only [Bool.not_true,Bool.false_and,Bool.false_eq_true,if_false]
 refine wpAny_pure ?_
 rw [hs]
 exact wpAny_pure h
theorem K5 {Q:Array (Int × Value) → Shared → Prop} (ho:s.heap.get? a = some o) (hd:o.data = .set es ep t) (hf:t.fits es.size = true) (h:Q es s):wpAny (model prog w) A (setEntries a) Q E s:=by
 unfold setEntries
 exact wpAny_bind (wpAny_setState_of ho hd hf (wpAny_pure h))
theorem gr {slot:Nat → Nat} {k n:Nat} {x:Value} {Q:Option Value → Shared → Prop} (hI:s.heap.get? I = some (U5 (.int (slot k:Nat) 0) k a n ep)) (ho:s.heap.get? a = some o) (hd:o.data = .set es ep t) (hf:t.fits es.size = true) (hn:es.size = n)
  (hnx:∀ (B:Around) (Q':Option (Value × Nat) → Shared → Prop) (E':Value → Shared → Prop),Q' (some (x,slot (k + 1))) s → wpAny (model prog w) B (setNext a (slot k) k ep) Q' E' s)
  (hQ:∀ h',h'.get? I = some (U5 (.int (slot (k + 1):Nat) 0) (k + 1) a n ep) → Heap.SameBut I s.heap h' → Q (some x) { s with heap:=h' }):wpAny (model prog w) A (pyNext (.ref I)) Q E s:=by
 have hT:s.TypeIs (.ref I) "set_iterator":=⟨_,hI,rfl⟩
 unfold pyNext
 refine wpAny_bind (wpAny_attempt (wpAny_callSpecial?_slot (name:=Str.ofString "__next__") hT o7
  (wpAny_call_entry o7 hT D8 ?_ (E5 _))))
 show wpAny _ _ (fieldsOf (.ref I) >>= _) _ _ s
 refine wpAny_bind (wpAny_fieldsOf hI rfl ?_)
 show wpAny _ _ (setEntries a >>= _) _ _ s
 refine wpAny_bind (K5 ho hd hf ?_)
 rw [hn]
 simp only [bne_self_eq_false,Bool.false_eq_true,if_false]
 show wpAny _ _ (setNext a ((slot k:Nat):Int).toNat ((k:Nat):Int).toNat ((ep:Nat):Int).toNat >>= _) _ _ s
 simp only [Int.toNat_natCast]
 refine wpAny_bind (hnx _ _ _ ?_)
 dsimp only
 refine wpAny_bind (wpAny_setField_rec hI (by simp) fun h1 g1 s1=>?_)
 refine wpAny_bind (wpAny_setField_rec g1 (by simp) fun h2 g2 s2=>wpAny_pure ⟨x,rfl,wpAny_pure (hQ h2 ?_ (s1.trans s2))⟩)
 rw [g2]
 simp [rawInt]
theorem cp {α:Type} {h1:Heap} {Q:Option Value → Shared → Prop} (hh:A.handled = none) (hQ:∀ h',(∀ b ob,h1.get? b = some ob → h'.get? b = some ob) → Q none { s with heap:=h' }) :
  wpAny (model prog w) A.in1 (newExc (.type "StopIteration") [] >>= fun e=>(raiseNew e:Sem α)) (fun _ _=>False)
   (fun e s'=>wpAny (model prog w) A (do if ← isInstance e (.type "StopIteration") then pure none else throw e) Q E s') { s with heap:=h1 }:=by
 refine wpAny_bind ?_
 simp only [newExc,newTuple]
 refine wpAny_bind (wpAny_newObj_type ?_ (by size_fits))
 refine wpAny_bind (m:=firstArgMember _ _) (wpAny_of_eq (a:=Value.none) (by first | rfl | (simp only [firstArgMember]; rfl)) ?_)
 refine wpAny_newObj_type ?_ (by size_fits)
 simp only [raiseNew]
 refine wpAny_bind (wpAny_handled ?_)
 rw [show A.in1.handled = none from hh]
 refine wpAny_bind (wpAny_pure (wpAny_throw ?_))
 refine wpAny_bind (wpAny_isInstance (T:="StopIteration") (b:=true) ⟨_,Heap.get?_push_size _ rfl,rfl⟩ isSubtype_stop ?_)
 exact wpAny_pure (hQ _ fun b ob e=>Heap.get?_push_of_some _ (Heap.get?_push_of_some _ e))
theorem gA {first:Nat} {k n:Nat} {Q:Option Value → Shared → Prop} (hh:A.handled = none) (hI:s.heap.get? I = some (U5 (.int (first:Nat) 0) k a n ep)) (ho:s.heap.get? a = some o) (hd:o.data = .set es ep t) (hf:t.fits es.size = true) (hn:es.size = n)
  (hnx:∀ (B:Around) (Q':Option (Value × Nat) → Shared → Prop) (E':Value → Shared → Prop),Q' none s → wpAny (model prog w) B (setNext a first k ep) Q' E' s)
  (hQ:∀ h',(∀ b ob,b ≠ I → s.heap.get? b = some ob → h'.get? b = some ob) → Q none { s with heap:=h' }):wpAny (model prog w) A (pyNext (.ref I)) Q E s:=by
 have hT:s.TypeIs (.ref I) "set_iterator":=⟨_,hI,rfl⟩
 unfold pyNext
 refine wpAny_bind (wpAny_attempt (wpAny_callSpecial?_slot (name:=Str.ofString "__next__") hT o7
  (wpAny_call_entry o7 hT D8 ?_ (E5 _))))
 show wpAny _ _ (fieldsOf (.ref I) >>= _) _ _ s
 refine wpAny_bind (wpAny_fieldsOf hI rfl ?_)
 show wpAny _ _ (setEntries a >>= _) _ _ s
 refine wpAny_bind (K5 ho hd hf ?_)
 rw [hn]
 simp only [bne_self_eq_false,Bool.false_eq_true,if_false]
 show wpAny _ _ (setNext a ((first:Nat):Int).toNat ((k:Nat):Int).toNat ((ep:Nat):Int).toNat >>= _) _ _ s
 simp only [Int.toNat_natCast]
 refine wpAny_bind (hnx _ _ _ ?_)
 dsimp only
 refine wpAny_bind (wpAny_setField_rec hI (by simp) fun h1 g1 s1=>?_)
 refine wpAny_mono (cp (Q:=Q) (E:=E) hh fun h' kp=>hQ h' fun b ob hb e=>kp b ob (s1.extBut b ob hb e)) (fun _ _ z=>z.elim) fun e s' z=>z
theorem mP {src:Source} {n:Nat} {Q:Nat → Shared → Prop} (hn:n ≠ 0) (h:∀ i d,i < n → Q i { s with drawn:=d }):wpAny (model prog w) A (choose src n) Q E s :=
 fun _ _ _=>⟨hn,h _ _ (Nat.mod_lt _ (Nat.pos_of_ne_zero hn))⟩
theorem gW {α:Type}:∀ (n:Nat) (xs:List α) (s:Shared) {Q:List α → Shared → Prop},xs.length = n → (∀ ys d,ys.Perm xs → Q ys { s with drawn:=d }) → wpAny (model prog w) A (drawOrder n xs) Q E s:=by
 intro n
 induction n with
 | zero =>
  intro xs s Q hn h
  obtain rfl:xs = []:=List.eq_nil_of_length_eq_zero hn
  exact wpAny_pure (h [] s.drawn (List.Perm.refl _))
 | succ n ih =>
  intro xs s Q hn h
  match xs,hn with
  | x :: r,hn =>
   show wpAny _ _ (choose .order (x :: r).length >>= _) _ _ s
   refine wpAny_bind (mP (by simp) fun i d hi=>?_)
   rw [List.getElem?_eq_getElem hi]
   dsimp only
   refine wpAny_bind (ih _ _ (by rw [List.length_eraseIdx_of_lt hi]; lia) fun ys d' pm=>wpAny_pure (h _ d' ((pm.cons _).trans (V1 (x :: r) i hi))))
theorem jv {Q:Bool → Shared → Prop} (ho:s.heap.get? a = some o) (hd:o.data = .set es ep t) (hf:t.fits es.size = true) (h:Q (!w.params.followText "set-order" && (!t.plain && decide (es.size > 1))) s):wpAny (model prog w) A (setDrawn a) Q E s:=by
 unfold setDrawn
 refine wpAny_bind (wpAny_setState_of ho hd hf ?_)
 dsimp only
 exact wpAny_bind (aD (wpAny_pure h))
theorem fX {T:Addr} {ps:List Nat} {k n p:Nat} {x:Value} {h0:Int} {Q:Option Value → Shared → Prop} (hI:s.heap.get? I = some (U5 (.ref T) k a n ep)) (hTu:s.heap.get? T = some { cls:=.type "tuple",data:=.seq (ps.map fun (i:Nat)=>rawInt i).toArray })
  (ho:s.heap.get? a = some o) (hd:o.data = .set es ep t) (hf:t.fits es.size = true) (hn:es.size = n) (hp:ps[k]? = some p) (hx:es[p]? = some (h0,x))
  (hQ:∀ h',h'.get? I = some (U5 (.ref T) (k + 1) a n ep) → Heap.SameBut I s.heap h' → Q (some x) { s with heap:=h' }):wpAny (model prog w) A (pyNext (.ref I)) Q E s:=by
 have hT:s.TypeIs (.ref I) "set_iterator":=⟨_,hI,rfl⟩
 unfold pyNext
 refine wpAny_bind (wpAny_attempt (wpAny_callSpecial?_slot (name:=Str.ofString "__next__") hT o7
  (wpAny_call_entry o7 hT D8 ?_ (E5 _))))
 show wpAny _ _ (fieldsOf (.ref I) >>= _) _ _ s
 refine wpAny_bind (wpAny_fieldsOf hI rfl ?_)
 show wpAny _ _ (setEntries a >>= _) _ _ s
 refine wpAny_bind (K5 ho hd hf ?_)
 rw [hn]
 simp only [bne_self_eq_false,Bool.false_eq_true,if_false]
 show wpAny _ _ (seqItems? (.ref T) >>= _) _ _ s
 refine wpAny_bind (wpAny_seqItems hTu rfl ?_)
 dsimp only
 have e:(ps.map fun (i:Nat)=>rawInt i).toArray[((k:Nat):Int).toNat]? = some (.int (p:Nat) 0):=by
  rw [Int.toNat_natCast,List.getElem?_toArray,List.getElem?_map,hp]
  rfl
 rw [e]
 dsimp only
 show wpAny _ _ (setNextDrawn a ((p:Nat):Int).toNat ((ep:Nat):Int).toNat >>= _) _ _ s
 simp only [Int.toNat_natCast]
 unfold setNextDrawn
 refine wpAny_bind (wpAny_bind (wpAny_setState_of ho hd hf ?_))
 dsimp only
 simp only [bne_self_eq_false,Bool.false_eq_true,if_false,hx]
 refine wpAny_pure ?_
 refine wpAny_bind (wpAny_setField_rec hI (by simp) fun h2 g2 s2=>wpAny_pure ⟨x,rfl,wpAny_pure (hQ h2 ?_ s2)⟩)
 rw [g2]
 simp [rawInt]
theorem fL {T:Addr} {ps:List Nat} {k n:Nat} {Q:Option Value → Shared → Prop} (hh:A.handled = none) (hI:s.heap.get? I = some (U5 (.ref T) k a n ep)) (hTu:s.heap.get? T = some { cls:=.type "tuple",data:=.seq (ps.map fun (i:Nat)=>rawInt i).toArray })
  (ho:s.heap.get? a = some o) (hd:o.data = .set es ep t) (hf:t.fits es.size = true) (hn:es.size = n) (hp:ps[k]? = none)
  (hQ:∀ h',(∀ b ob,b ≠ I → s.heap.get? b = some ob → h'.get? b = some ob) → Q none { s with heap:=h' }):wpAny (model prog w) A (pyNext (.ref I)) Q E s:=by
 have hT:s.TypeIs (.ref I) "set_iterator":=⟨_,hI,rfl⟩
 unfold pyNext
 refine wpAny_bind (wpAny_attempt (wpAny_callSpecial?_slot (name:=Str.ofString "__next__") hT o7
  (wpAny_call_entry o7 hT D8 ?_ (E5 _))))
 show wpAny _ _ (fieldsOf (.ref I) >>= _) _ _ s
 refine wpAny_bind (wpAny_fieldsOf hI rfl ?_)
 show wpAny _ _ (setEntries a >>= _) _ _ s
 refine wpAny_bind (K5 ho hd hf ?_)
 rw [hn]
 simp only [bne_self_eq_false,Bool.false_eq_true,if_false]
 show wpAny _ _ (seqItems? (.ref T) >>= _) _ _ s
 refine wpAny_bind (wpAny_seqItems hTu rfl ?_)
 dsimp only
 have e:(ps.map fun (i:Nat)=>rawInt i).toArray[((k:Nat):Int).toNat]? = none:=by
  rw [Int.toNat_natCast,List.getElem?_toArray,List.getElem?_map,hp]
  rfl
 rw [e]
 dsimp only
 refine wpAny_bind (wpAny_setField_rec hI (by simp) fun h1 g1 s1=>?_)
 refine wpAny_bind (wpAny_setField_rec g1 (by simp) fun h2 g2 s2=>?_)
 refine wpAny_mono (cp (Q:=Q) (E:=E) hh fun h' kp=>hQ h' fun b ob hb e=>kp b ob (s2.extBut b ob hb (s1.extBut b ob hb e))) (fun _ _ z=>z.elim) fun e s' z=>z
theorem bF {first:Value} {k n:Nat} {Q:Value → Shared → Prop} (hI:s.heap.get? I = some (U5 first k a n ep)) (h:Q (.ref I) s):wpAny (model prog w) A (pyIter (.ref I)) Q E s:=by
 have hT:s.TypeIs (.ref I) "set_iterator":=⟨_,hI,rfl⟩
 refine wpAny_pyIter_slot hT R7 (wpAny_call_entry R7 hT Y5 ?_ (av _))
 show wpAny _ _ (ret (.ref I)) _ _ s
 exact wpAny_pure ⟨_,rfl,"set_iterator",_,hT,o7.lookup,h⟩
def md (prog:Program) (w:World) (A:Around) (a I N:Addr) (n:Nat) (xs:List Value) (s:Shared):Prop :=
 ∃ (fp:List Addr) (St:Nat → Shared → Prop),WalksS prog w A I fp [I] (fun a b=>b = a) n (fun i v=>xs[i]? = some v) St ∧ St 0 s ∧ (∀ b ∈ fp,(b = a ∨ N ≤ b) ∧ b < s.heap.objs.size) ∧ I ∈ fp
theorem jw {slot:Nat → Nat} {n:Nat} {xs:List Value} (hh:A.handled = none) (hne:a ≠ I) (hd:o.data = .set es ep t) (hf:t.fits es.size = true) (hn:es.size = n) (hxs:xs.length = n)
  (step:∀ (k:Nat) (s:Shared) (B:Around) (Q':Option (Value × Nat) → Shared → Prop) (E':Value → Shared → Prop),k ≤ n → s.heap.get? a = some o → Q' ((xs[k]?).map fun x=>(x,slot (k + 1))) s → wpAny (model prog w) B (setNext a (slot k) k ep) Q' E' s) :
  WalksS prog w A I [I,a] [I] (fun a b=>b = a) n (fun i v=>xs[i]? = some v) (fun k s=>s.heap.get? I = some (U5 (.int (slot k:Nat) 0) k a n ep) ∧ s.heap.get? a = some o) where
 sub:=fun b hb=>by simp at hb; simp [hb]
 grefl:=fun _=>rfl
 gtrans:=fun _ _ _ p q=>q.trans p
 frame:=fun i s h' tk st _ kp=>⟨kp I (by simp) _ st.1,kp a (by simp) _ st.2⟩
 item:=fun i s Q E hi st hQ=>by
  have hx:xs[i]? = some (xs[i]'(by lia)):=List.getElem?_eq_getElem (by lia)
  refine gr (x:=xs[i]'(by lia)) st.1 st.2 hd hf hn (fun B Q' E' q=>step i s B Q' E' (by lia) st.2 (by rw [hx]; exact q)) fun h' g sb=>?_
  exact hQ _ _ hx ⟨g,sb.extBut a o hne st.2⟩ ⟨fun b ob hb e=>sb.extBut b ob (fun z=>hb (by simp [z])) e,rfl,rfl,rfl,Nat.le_refl _⟩
 done:=fun s Q E st hQ=>by
  have hx:xs[n]? = none:=List.getElem?_eq_none (by lia)
  refine gA hh st.1 st.2 hd hf hn (fun B Q' E' q=>step n s B Q' E' (Nat.le_refl _) st.2 (by rw [hx]; exact q)) fun h' kp=>?_
  exact hQ _ ⟨fun b ob hb e=>kp b ob (fun z=>hb (by simp [z])) e,rfl,rfl,rfl,Nat.le_refl _⟩
 self:=fun i s Q E st q=>bF st.1 q
theorem fM {T:Addr} {ps:List Nat} {n:Nat} {xs:List Value} (hh:A.handled = none) (hne:a ≠ I) (hnT:T ≠ I) (hd:o.data = .set es ep t) (hf:t.fits es.size = true) (hn:es.size = n) (hps:ps.length = n)
  (hx:∀ (k p:Nat),ps[k]? = some p → ∃ h0 x,es[p]? = some (h0,x) ∧ xs[k]? = some x) :
  WalksS prog w A I [I,a,T] [I] (fun a b=>b = a) n (fun i v=>xs[i]? = some v) (fun k s=>s.heap.get? I = some (U5 (.ref T) k a n ep) ∧ s.heap.get? a = some o ∧ s.heap.get? T = some { cls:=.type "tuple",data:=.seq (ps.map fun (i:Nat)=>rawInt i).toArray }) where
 sub:=fun b hb=>by simp at hb; simp [hb]
 grefl:=fun _=>rfl
 gtrans:=fun _ _ _ p q=>q.trans p
 frame:=fun i s h' tk st _ kp=>⟨kp I (by simp) _ st.1,kp a (by simp) _ st.2.1,kp T (by simp) _ st.2.2⟩
 item:=fun i s Q E hi st hQ=>by
  have hp:ps[i]? = some (ps[i]'(by lia)):=List.getElem?_eq_getElem (by lia)
  obtain ⟨h0,x,e1,e2⟩:=hx i _ hp
  refine fX st.1 st.2.2 st.2.1 hd hf hn hp e1 fun h' g sb=>?_
  exact hQ _ _ e2 ⟨g,sb.extBut a o hne st.2.1,sb.extBut T _ hnT st.2.2⟩ ⟨fun b ob hb e=>sb.extBut b ob (fun z=>hb (by simp [z])) e,rfl,rfl,rfl,Nat.le_refl _⟩
 done:=fun s Q E st hQ=>by
  refine fL hh st.1 st.2.2 st.2.1 hd hf hn (List.getElem?_eq_none (by lia)) fun h' kp=>?_
  exact hQ _ ⟨fun b ob hb e=>kp b ob (fun z=>hb (by simp [z])) e,rfl,rfl,rfl,Nat.le_refl _⟩
 self:=fun i s Q E st q=>bF st.1 q
theorem gk {Q:Value → Shared → Prop} (ho:s.heap.get? a = some o) (hx:o.ExactSet) (hd:o.data = .set es ep t) (hf:t.fits es.size = true) (J:JT (!w.params.followText "set-order") t) (hz:es.size ≤ sizeLine)
  (hQ:∀ (I:Addr) (xs:List Value) (h':Heap) (d),xs.Perm (es.toList.map (·.2)) → s.heap.objs.size ≤ I → (∀ b ob,s.heap.get? b = some ob → h'.get? b = some ob) →
   (∀ B:Around,B.handled = none → md prog w B a I s.heap.objs.size es.size xs { s with heap:=h',drawn:=d }) → Q (.ref I) { s with heap:=h',drawn:=d }):wpAny (model prog w) A (pyIter (.ref a)) Q E s:=by
 have hT:s.TypeIs (.ref a) "set":=⟨o,ho,hx.1⟩
 have hal:a < s.heap.objs.size:=Heap.lt_size ho
 refine wpAny_pyIter_slot hT F.slot_set_iter (wpAny_call_entry F.slot_set_iter hT au ?_ (F.args_set_iter_1 _))
 show wpAny _ _ (Builtin.Frozenset.sizeOf a >>= _) _ _ s
 refine wpAny_bind (wpAny_bind (K5 ho hd hf (wpAny_pure ?_)))
 refine wpAny_bind (jv ho hd hf ?_)
 by_cases c:(!w.params.followText "set-order" && (!t.plain && decide (es.size > 1))) = true
 ·rw [c]
  simp only [if_true]
  refine wpAny_bind (gW es.size (List.range es.size) s (by simp) fun ps d pm=>?_)
  have hps:ps.length = es.size:=by simpa using pm.length_eq
  simp only [newTuple]
  refine wpAny_bind (wpAny_newObj_type ?_ ?_)
  case refine_2 =>
   show (List.map (fun (i:Nat)=>rawInt i) ps).toArray.size ≤ sizeLine
   rw [List.size_toArray,List.length_map,hps]
   exact hz
  have ho':(s.heap.push { cls:=.type "tuple",data:=.seq (ps.map fun (i:Nat)=>rawInt i).toArray }).get? a = some o:=Heap.get?_push_of_some _ ho
  refine wpAny_bind (wpAny_setEpoch_of ho' hd hf ?_)
  refine wpAny_bind (wpAny_newObj_type ?_)
  have eI:(s.heap.push { cls:=.type "tuple",data:=.seq (ps.map fun (i:Nat)=>rawInt i).toArray }).objs.size = s.heap.objs.size + 1:=Heap.size_push ..
  refine wpAny_pure ⟨_,rfl,"set_iterator",_,⟨_,Heap.get?_push_size _ rfl,rfl⟩,o7.lookup,?_⟩
  refine hQ _ ((ps.map fun p=>(es[p]?).map (·.2)).filterMap id) _ d ?_ (by rw [eI]; exact Nat.le_succ _) (fun b ob e=>Heap.get?_push_of_some _ (Heap.get?_push_of_some _ e)) fun B hB=>?_
  ·refine ((pm.map _).filterMap _).trans ?_
   rw [List.filterMap_map]
   have:(List.range es.size).filterMap (id ∘ fun p=>(es[p]?).map (·.2)) = ((List.range es.size).filterMap fun p=>es[p]?).map (·.2):=by
    rw [List.map_filterMap]
    rfl
   rw [this,filterMap_getElem?_range]
  ·have key:∀ (l:List Nat),(∀ p ∈ l,p < es.size) → ∀ (k p:Nat),l[k]? = some p → ∃ h0 x,es[p]? = some (h0,x) ∧ ((l.map fun p=>(es[p]?).map (·.2)).filterMap id)[k]? = some x:=by
    intro l
    induction l with
    | nil=>intro _ k p e; simp at e
    | cons q r ih =>
     intro hl k p e
     have hq:=hl q List.mem_cons_self
     have eq:es[q]? = some es[q]:=Array.getElem?_eq_getElem hq
     have e2:((q :: r).map fun p=>(es[p]?).map (·.2)).filterMap id = es[q].2 :: (r.map fun p=>(es[p]?).map (·.2)).filterMap id:=by
      rw [List.map_cons,eq]
      rfl
     rw [e2]
     cases k with
     | zero =>
      have:q = p:=by simpa using e
      subst this
      exact ⟨es[q].1,es[q].2,eq,rfl⟩
     | succ k=>exact ih (fun p hp=>hl p (List.mem_cons_of_mem _ hp)) k p (by simpa using e)
   refine ⟨_,_,fM (o:=o) (T:=s.heap.objs.size) (ps:=ps) hB (by rw [eI]; exact Nat.ne_of_lt (Nat.lt_succ_of_lt hal)) (by rw [eI]; exact Nat.ne_of_lt (Nat.lt_succ_self _)) hd hf rfl hps (key ps fun p hp=>by simpa using pm.mem_iff.mp hp),⟨Heap.get?_push_size _ rfl,Heap.get?_push_of_some _ ho',Heap.get?_push_of_some _ (Heap.get?_push_size _ rfl)⟩,fun b hb=>?_,by simp⟩
   simp only [List.mem_cons,List.not_mem_nil,or_false] at hb
   rw [Heap.size_push]
   rcases hb with rfl | rfl | rfl
   ·exact ⟨.inr (by rw [eI]; exact Nat.le_succ _),Nat.lt_succ_self _⟩
   ·exact ⟨.inl rfl,by rw [eI]; exact Nat.lt_succ_of_lt (Nat.lt_succ_of_lt hal)⟩
   ·exact ⟨.inr (Nat.le_refl _),by rw [eI]; exact Nat.lt_succ_of_lt (Nat.lt_succ_self _)⟩
 ·rw [Bool.eq_false_iff.mpr c]
  simp only [Bool.false_eq_true,if_false]
  refine wpAny_bind (wpAny_pure (wpAny_bind (wpAny_setEpoch_of ho hd hf ?_)))
  refine wpAny_bind (wpAny_newObj_type ?_)
  refine wpAny_pure ⟨_,rfl,"set_iterator",_,⟨_,Heap.get?_push_size _ rfl,rfl⟩,o7.lookup,?_⟩
  have hne:a ≠ s.heap.objs.size:=Nat.ne_of_lt hal
  have go:∀ (slot:Nat → Nat) (xs:List Value),slot 0 = 0 → xs.Perm (es.toList.map (·.2)) → (∀ (k:Nat) (s:Shared) (B:Around) (Q':Option (Value × Nat) → Shared → Prop) (E':Value → Shared → Prop),k ≤ es.size → s.heap.get? a = some o → Q' ((xs[k]?).map fun x=>(x,slot (k + 1))) s → wpAny (model prog w) B (setNext a (slot k) k ep) Q' E' s) →
    Q (.ref s.heap.objs.size) { s with heap:=s.heap.push (U5 (rawInt 0) 0 a es.size ep) }:=fun slot xs h0 pm step=>by
   refine hQ _ xs _ s.drawn pm (Nat.le_refl _) (fun b ob e=>Heap.get?_push_of_some _ e) fun B hB=>⟨_,_,jw (slot:=slot) hB hne hd hf rfl (by simpa using pm.length_eq) step,⟨?_,Heap.get?_push_of_some _ ho⟩,fun b hb=>?_,by simp⟩
   ·rw [h0]
    exact Heap.get?_push_size _ rfl
   ·simp only [List.mem_cons,List.not_mem_nil,or_false] at hb
    rw [Heap.size_push]
    rcases hb with rfl | rfl
    ·exact ⟨.inr (Nat.le_refl _),Nat.lt_succ_self _⟩
    ·exact ⟨.inl rfl,Nat.lt_succ_of_lt hal⟩
  cases ht:w.params.followText "set-order" with
  | true =>
   refine go (fun _=>0) ((pickOrder (w.params.setOrder a ep) es).toList.map (·.2)) rfl ((aS _ es).map _) fun k s' B Q' E' hk ho' q=>dI ht ho' hd hf ?_
   have e:(((pickOrder (w.params.setOrder a ep) es).toList.map (·.2))[k]?).map (fun x=>(x,0)) = ((pickOrder (w.params.setOrder a ep) es)[k]?).map fun e=>(e.2,0):=by
    rw [List.getElem?_map,Array.getElem?_toList,Option.map_map]
    rfl
   rw [← e]
   exact q
  | false =>
   rw [ht] at c J
   have hpl:t.place.size = es.size:=by
    simp only [SetTable.fits,Bool.and_eq_true,beq_iff_eq] at hf
    exact hf.1
   refine go (fun k=>match k with | 0=>0 | k + 1=>t.place.getD k 0 + 1) (es.toList.map (·.2)) rfl (List.Perm.refl _) fun k s' B Q' E' hk ho' q=>bS ht ho' hd hf J (by simpa using c) ?_ ?_
   ·cases k with
    | zero=>exact fo J.mono
    | succ k =>
     have hk':k < t.place.size:=by lia
     have e:t.place.getD k 0 = t.place[k]:=by simp [Array.getD,hk']
     show SetTable.below t.place (t.place.getD k 0 + 1) = k + 1
     rw [e]
     exact gu J.mono k hk'
   ·rcases Nat.lt_or_eq_of_le hk with hlt | heq
    ·have hk':k < t.place.size:=by lia
     have e2:t.place.getD k 0 = t.place[k]:=by simp [Array.getD,hk']
     have e3:(es.toList.map (·.2))[k]? = some es[k].2:=by simp [hlt]
     rw [e3] at q
     simp only [Array.getElem?_eq_getElem hlt,Array.getElem?_eq_getElem hk']
     rw [← e2]
     exact q
    ·have e3:(es.toList.map (·.2))[k]? = none:=by simp [heq]
     rw [e3] at q
     have e4:es[k]? = none:=by simp [heq]
     simp only [e4]
     exact q
end
end L2
namespace L2
open PySem PyProof.Rows
theorem gh:typeLookup (.type "set") "__len__" = pure (some (.builtin "set.__len__")):=F.slot_set_len.lookup
theorem bX:splitId "set.__len__" = some ("set","__len__"):=by kernel_rfl
section
variable {prog:Program} {w:World} {A:Around} {E:Value → Shared → Prop} {s:Shared} {a:Addr} {o:Obj} {es:Array (Int × Value)} {ep:Nat} {t:SetTable}
theorem kj {Q:Bool → Shared → Prop} (hT:s.TypeIs (.ref a) "set") (h:Q false s):wpAny (model prog w) A (Builtin.List.listLengthHint (.ref a)) Q E s:=by
 unfold Builtin.List.listLengthHint
 refine wpAny_bind (wpAny_specialOf hT gh ?_)
 simp only [bX]
 refine wpAny_bind (wpAny_isInstance hT sub_set_self ?_)
 simp only [Bool.not_true,Bool.false_eq_true,if_false]
 show wpAny _ _ (typeOf (.ref a) >>= _) _ _ s
 exact wpAny_bind (wpAny_typeOf hT (wpAny_pure h))
theorem eT {Q:List Value → Shared → Prop} (hh:A.handled = none) (ho:s.heap.get? a = some o) (hx:o.ExactSet) (hd:o.data = .set es ep t) (hf:t.fits es.size = true) (J:JT (!w.params.followText "set-order") t) (hz:es.size ≤ sizeLine)
  (hQ:∀ (h':Heap) (d) (tk:Nat) (xs:List Value),xs.Perm (es.toList.map (·.2)) → s.heap.objs.size < h'.objs.size → (∀ b ob,s.heap.get? b = some ob → h'.get? b = some ob) → Q xs { s with heap:=h',drawn:=d,toks:=tk }):wpAny (model prog w) A (collect (.ref a)) Q E s:=by
 have hal:a < s.heap.objs.size:=Heap.lt_size ho
 unfold collect
 refine wpAny_bind (wpAny_runValue (codeAny_builtin F.entry_proto_collect ?_))
 rw [Around.under_plainId F.plain_proto_collect _]
 show wpAny _ A.in1 (newList [] >>= fun l=>again (.builtin "list.__iadd__" ⟨[l,.ref a],[]⟩)) _ _ s
 refine wpAny_bind (wpAny_newObj_type ?_)
 refine wpAny_pure ⟨plainId_quiet F.plain_list_iadd _,codeAny_builtin F.entry_list_iadd ?_⟩
 rw [Around.under_plainId F.plain_list_iadd _]
 generalize hH1:s.heap.push { cls:=.type "list",data:=.seq ([]:List Value).toArray } = H1
 have sz1:H1.objs.size = s.heap.objs.size + 1:=by rw [← hH1]; exact Heap.size_push ..
 have old1:∀ b ob,s.heap.get? b = some ob → H1.get? b = some ob:=fun b ob e=>by rw [← hH1]; exact Heap.get?_push_of_some _ e
 have gS:H1.get? s.heap.objs.size = some { cls:=.type "list",data:=.seq ([]:List Value).toArray }:=by rw [← hH1]; exact Heap.get?_push_size _ rfl
 show wpAny _ A.in1 (Builtin.List.listExtendWith (.ref s.heap.objs.size) (.ref a) (.ref s.heap.objs.size)) _ _ { s with heap:=H1 }
 unfold Builtin.List.listExtendWith
 have ho1:=old1 a o ho
 refine wpAny_bind (wpAny_typeOf (T:="set") ⟨o,ho1,hx.1⟩ ?_)
 have h1:Builtin.List.listSameRef (.ref s.heap.objs.size) (.ref a) = false:=by simpa [Builtin.List.listSameRef] using Nat.ne_of_gt hal
 have h2:(Value.type "set" == Value.type "list") = false:=by decide
 have h3:(Value.type "set" == Value.type "tuple") = false:=by decide
 simp only [h1,h2,h3,Bool.or_false,Bool.false_eq_true,if_false]
 refine wpAny_bind (gk (s:={ s with heap:=H1 }) ho1 hx hd hf J hz fun I xs h' d pm hI old2 walks=>?_)
 refine wpAny_bind (wpAny_holding (kj ⟨o,old2 a o ho1,hx.1⟩ ?_))
 show wpAny _ A.in1 (rule "list.extend.makes-room" >>= fun _=>Builtin.List.listTouch (.ref s.heap.objs.size) >>= fun _ =>
  again (.builtin "list.extend.loop" ⟨[.ref s.heap.objs.size,.ref I,.ref s.heap.objs.size],[]⟩)) _ _ _
 refine wpAny_bind (wpAny_rule (wpAny_bind ?_))
 have g2:=old2 _ _ gS
 show wpAny _ A.in1 (updateSeq s.heap.objs.size (·.push .none) >>= fun _=>updateSeq s.heap.objs.size (·.pop)) _ _ _
 refine wpAny_bind (wpAny_updateSeq g2 rfl ?_)
 have g3:=Heap.get?_update_self (Obj.mapSeq (·.push Value.none)) g2 rfl
 refine wpAny_updateSeq g3 rfl ?_
 have g4:=Heap.get?_update_self (Obj.mapSeq (·.pop)) g3 rfl
 have oth:∀ b ob,b ≠ s.heap.objs.size → h'.get? b = some ob → ((h'.update s.heap.objs.size (Obj.mapSeq (·.push Value.none))).update s.heap.objs.size (Obj.mapSeq (·.pop))).get? b = some ob :=
  fun b ob hb e=>(Heap.get?_update_other _ _ (Ne.symm hb)).trans ((Heap.get?_update_other _ _ (Ne.symm hb)).trans e)
 obtain ⟨fp,St,W,st,hfp,_⟩:=walks A.in1 hh
 have hSf:s.heap.objs.size ∉ fp:=fun hm=>by
  rcases (hfp _ hm).1 with e | e
  ·exact Nat.lt_irrefl _ (e ▸ hal)
  ·have e':H1.objs.size ≤ s.heap.objs.size:=e
   rw [sz1] at e'
   exact Nat.lt_irrefl _ e'
 refine wpAny_pure ⟨plainId_quiet F.plain_extend_loop _,codeAny_extend_loopS W hz _ hSf _ es.size 0 _ _ _ rfl (Nat.zero_le _)
  (W.frame 0 ({ s with heap:=h',drawn:=d }:Shared) _ s.toks st (Nat.le_refl _) fun b hb ob e=>oth b ob (fun z=>hSf (z ▸ hb)) e) g4 (ItemsOf.nil _) fun s' acc' c' hm hS' hacc=>?_⟩
 show wpAny _ A (load s.heap.objs.size >>= _) _ _ s'
 refine wpAny_bind (wpAny_load hS' (wpAny_pure ?_))
 have e1:s'.gens = s.gens:=hm.gens
 have e2:s'.drawn = d:=hm.drawn
 have e3:s'.os = s.os:=hm.os
 have es':s' = { s with heap:=s'.heap,drawn:=d,toks:=s'.toks }:=by
  obtain ⟨h0,g0,d0,t0,o0⟩:=s'
  simp only at e1 e2 e3
  subst e1 e2 e3
  rfl
 have exs:acc'.toList = xs:=by
  have hl:xs.length = es.size:=by simpa using pm.length_eq
  apply List.ext_getElem
  ·rw [Array.length_toList,hacc.1,hl]
  ·intro i q1 q2
   have this:xs[i]? = some acc'[i]:=hacc.2 i acc'[i] (by simp)
   rw [List.getElem?_eq_getElem q2] at this
   simpa using (Option.some.inj this).symm
 have big:s.heap.objs.size < s'.heap.objs.size:=Heap.lt_size hS'
 rw [exs,es']
 refine hQ _ d _ xs pm big fun b ob e=>?_
 have hb:b ≠ s.heap.objs.size:=Nat.ne_of_lt (Heap.lt_size e)
 refine hm.heap b ob ?_ (oth b ob hb (old2 b ob (old1 b ob e)))
 simp only [List.mem_cons,List.not_mem_nil,or_false,not_or]
 refine ⟨hb,fun z=>?_⟩
 have hI':H1.objs.size ≤ I:=hI
 rw [sz1,← z] at hI'
 exact Nat.lt_irrefl _ (Nat.lt_of_lt_of_le (Nat.lt_succ_of_lt (Heap.lt_size e)) hI')
theorem bZ (h:ElemsOf (intKind prog w) es.toList):∃ ks:List Int,IntsAre (es.toList.map (·.2)) ks ∧ ∀ k,k ∈ ks ↔ ∃ e ∈ es.toList,(intKind prog w).is k e.2 = true:=by
 have go:∀ l:List (Int × Value),ElemsOf (intKind prog w) l → ∃ ks:List Int,IntsAre (l.map (·.2)) ks ∧ ∀ k,k ∈ ks ↔ ∃ e ∈ l,(intKind prog w).is k e.2 = true:=by
  intro l
  induction l with
  | nil=>intro _; exact ⟨[],.nil,by simp⟩
  | cons e r ih =>
   intro h
   obtain ⟨ks,h1,h2⟩:=ih h.tail
   obtain ⟨⟨k,hk,_⟩,_⟩:=h.head
   obtain ⟨tk,ek⟩:=Value.isInt_shape (k:=k) (v:=e.2) hk
   refine ⟨k :: ks,?_,fun k'=>?_⟩
   ·rw [List.map_cons,ek]
    exact .cons k tk h1
   ·rw [List.mem_cons,h2 k']
    constructor
    ·rintro (rfl | ⟨e',he,q⟩)
     ·exact ⟨e,List.mem_cons_self,hk⟩
     ·exact ⟨e',List.mem_cons_of_mem _ he,q⟩
    ·rintro ⟨e',he,q⟩
     rcases List.mem_cons.mp he with rfl | he
     ·exact .inl ((intKind prog w).inj e'.2 k' k q hk)
     ·exact .inr ⟨e',he,q⟩
 exact go _ h
theorem IntsAre.perm {vs us:List Value} (p:us.Perm vs):∀ {ns:List Int},IntsAre vs ns → ∃ ms,IntsAre us ms ∧ ms.Perm ns:=by
 induction p with
 | nil=>intro ns h; exact ⟨ns,h,List.Perm.refl _⟩
 | cons x _ ih =>
  intro ns h
  cases h with
  | cons n t h=>obtain ⟨ms,h1,h2⟩:=ih h; exact ⟨n :: ms,.cons n t h1,h2.cons n⟩
 | swap x y l =>
  intro ns h
  cases h with
  | cons n t h=>cases h with
   | cons m u h=>exact ⟨_,.cons m u (.cons n t h),List.Perm.swap _ _ _⟩
 | trans _ _ ih1 ih2 =>
  intro ns h
  obtain ⟨ms,h1,h2⟩:=ih2 h
  obtain ⟨ls,h3,h4⟩:=ih1 h1
  exact ⟨ls,h3,h4.trans h2⟩
theorem gp {S:Int → Bool} {n:Nat} {Q:Value → Shared → Prop} (hh:A.handled = none) (hS:M3 (intKind prog w) s.heap a S n) (h64:n < 64)
  (h:∀ (l:Addr) (h':Heap) (d) (tk e:Nat) (out:Array Value) (ns:List Int),IntsAre out.toList ns → ns.Pairwise (· ≤ ·) → (∀ k,k ∈ ns ↔ S k = true) → ns.length = n → s.heap.objs.size ≤ l → (∀ b ob,s.heap.get? b = some ob → h'.get? b = some ob) →
   h'.get? l = some (seqObj "list" out e) → Q (.ref l) { s with heap:=h',drawn:=d,toks:=tk }):wpAny (model prog w) A (call (.builtin "sorted") [.ref a]) Q E s:=by
 obtain ⟨o,es,ep,t,ho,hx,hd,⟨el,mem,hb,hf,hn⟩,J⟩:=hS
 obtain ⟨ks,ik,mk⟩:=bZ el
 refine Calls.call_function_entry kind_sorted plain_sorted entry_sorted (args_sorted1 _) ?_
 unfold Builtin.«sorted»
 refine wpAny_bind (m:=checkCount "sorted" 1 1 _) (wpAny_pure ?_)
 refine wpAny_bind (eT hh ho hx hd hf J (fits_of_scanBound hb) fun h1 d tk xs pm big old=>?_)
 obtain ⟨ms,im,pms⟩:=IntsAre.perm pm ik
 have hxl:xs.length = n:=by rw [← hn]; simpa using pm.length_eq
 refine wpAny_bind (wpAny_newList ?_ (by rw [hxl]; exact Nat.le_trans (Nat.le_of_lt h64) (by decide)))
 have hoL:(h1.push (seqObj "list" xs.toArray 0)).get? h1.objs.size = some (seqObj "list" xs.toArray 0):=Heap.get?_push_size _ rfl
 show wpAny _ _ _ _ _ { s with heap:=h1.push (seqObj "list" xs.toArray 0),drawn:=d,toks:=tk }
 refine wpAny_bind (wpAny_holding (wpAny_call_entry slot_list_sort ⟨_,hoL,rfl⟩ entry_list_sort (list_sort_tree hoL im (by lia) fun out ns a1 a2 a3=>⟨_,rfl,?_⟩) (args_list_sort _)))
 obtain ⟨e,he⟩:=sortedHeap_at (out:=out) hoL
 refine wpAny_pure ⟨_,rfl,h h1.objs.size _ d tk e out ns a1 a3 (fun k=>?_) ?_ ?_ (fun b ob q=>?_) he⟩
 ·rw [a2.mem_iff,pms.mem_iff,mk k,mem k]
 ·rw [a2.length_eq,pms.length_eq,← ik.length,List.length_map,Array.length_toList,hn]
 ·exact Nat.le_of_lt big
 ·have q1:=old b ob q
  have hlt:=Heap.lt_size q1
  rw [sortedHeap_old (Nat.ne_of_lt hlt) (by rw [Heap.size_push]; exact Nat.lt_succ_of_lt hlt)]
  exact Heap.get?_push_of_some _ q1
end
end L2
namespace L2
open PySem PyProof.Rows
section
variable {prog:Program} {w:World} {A:Around} {R:Result → Shared → Prop} {I:Addr} {fp wr:List Addr} {G:Array GenState → Array GenState → Prop} {n:Nat} {P:Nat → Value → Prop} {St:Nat → Shared → Prop}
abbrev Y6 (prog:Program) (w:World) (val:Nat → Int) (i:Nat) (h:Heap) (S:Addr):Prop:=M3 (intKind prog w) h S (fun k=>(firstMet val i).any (· == k)) (firstMet val i).length
theorem kr (W:WalksS prog w A.in1 I fp wr G n P St) (S:Addr) (hSf:S ∉ fp) (val:Nat → Int) (hval:∀ i v,P i v → ∃ t,v = .int (val i) t) (hb:n + 1 < scanBound) :
  ∀ (k i:Nat) (s:Shared),n - i = k → i ≤ n → St i s → Y6 prog w val i s.heap S → (∀ s',Moved (S :: wr) G s s' → Y6 prog w val n s'.heap S → R (.ok (.ret .none)) s') →
   codeAny (model prog w) A (.builtin "set.update.loop" ⟨[.ref S,.ref I],[]⟩) R s:=by
 have hSw:S ∉ wr:=fun z=>hSf (W.sub _ z)
 have sub:∀ b ∈ wr,b ∈ S :: wr:=fun b q=>List.mem_cons_of_mem _ q
 intro k
 induction k with
 | zero =>
  intro i s hk hi st x fin
  obtain rfl:i = n:=by lia
  refine codeAny_builtin PyProof.Rows.F.entry_set_update_loop ?_
  rw [Around.under_plainId PyProof.Rows.F.plain_set_update_loop _]
  show wpAny _ A.in1 (pyNext (.ref I) >>= _) _ _ s
  refine wpAny_bind (W.done s _ _ st fun s' m=>?_)
  show wpAny _ A.in1 (ret Value.none) _ _ s'
  exact wpAny_pure (fin s' (m.mono sub) (x.of_get fun o e=>m.heap S _ hSw e))
 | succ k ih =>
  intro i s hk hi st x fin
  have lt:i < n:=by lia
  refine codeAny_builtin PyProof.Rows.F.entry_set_update_loop ?_
  rw [Around.under_plainId PyProof.Rows.F.plain_set_update_loop _]
  show wpAny _ A.in1 (pyNext (.ref I) >>= _) _ _ s
  refine wpAny_bind (W.item i s _ _ lt st fun v s' pv st' m=>?_)
  obtain ⟨t,rfl⟩:=hval i v pv
  have x':Y6 prog w val i s'.heap S:=x.of_get fun o e=>m.heap S _ hSw e
  show wpAny _ A.in1 (holding [Value.int (val i) t] (setAdd S (.int (val i) t)) >>= _) _ _ s'
  refine wpAny_bind (wpAny_holding ?_)
  unfold setAdd
  refine wpAny_holding (wpAny_bind ((intKind prog w).pyHash (k:=val i) (intKind_is _ _ _ _) ?_))
  have room:(firstMet val i).length + 1 < scanBound:=by have:=firstMet_length_le val i; lia
  refine rG (knd:=intKind prog w) (s:={ s' with toks:=s'.toks + 1 }) (intKind_is _ _ _ _) rfl x' room fun h' sb x2=>?_
  have x3:Y6 prog w val (i + 1) h' S:=x2.congr (fun k'=>by rw [firstMet_succ,step_any]) (by rw [firstMet_succ,step_length])
  refine wpAny_pure ⟨plainId_quiet PyProof.Rows.F.plain_set_update_loop _,ih (i + 1) _ (by lia) lt (W.frame _ s' _ _ st' (Nat.le_succ _) fun b hb o e=>?_) x3 fun s'' m2 x4=>?_⟩
  ·rw [sb.2 b (fun z:b = S=>hSf (z ▸ hb))]; exact e
  ·refine fin s'' (Moved.trans W.gtrans ((m.mono sub).then_heap (Nat.le_succ _) fun b o hb e=>?_) m2) x4
   rw [sb.2 b (fun z:b = S=>hb (z ▸ List.mem_cons_self))]; exact e
end
section
variable {prog:Program} {w:World} {A:Around} {E:Value → Shared → Prop} {s:Shared}
abbrev U6 (w:World):Obj:={ cls:=.type "set",dict:=none,data:=.set #[] 0 (.fresh 0 0 (!w.params.followText "set-order")) }
theorem fR (a:Value) {Q:Value → Shared → Prop} (h:Q (.ref s.heap.objs.size) { s with heap:=s.heap.push (U6 w) }) :
  codeAny (model prog w) A (.call (.builtin "set.__new__") ⟨[.type "set",a],[]⟩) (wants Q E) s:=by
 refine codeAny_of_tree ?_
 show wpAny _ A.in1 (do checkBuiltinCall "set.__new__" ⟨[.type "set",a],[]⟩; again (.builtin "set.__new__" ⟨[.type "set",a],[]⟩)) _ _ s
 refine wpAny_bind (wpAny_of_eq (PySem.F.newCall_set_1 a) (wpAny_pure ⟨plainId_quiet PySem.F.plain_set_new _,codeAny_builtin PySem.F.entry_set_new ?_⟩))
 rw [Around.under_plainId PySem.F.plain_set_new _]
 unfold Builtin.«set.__new__» Builtin.Frozenset.newClass
 have hsub:=sub_set_self
 obtain ⟨hp,g,d,tk,os⟩:=s
 dsimp only
 wp_walk
 refine wpAny_askSetting (wpAny_pure ?_)
 dsimp only
 simp only [newObj]
 exact wpAny_bind (wpAny_alloc (wpAny_pure (wpAny_pure h)))
set_option maxHeartbeats 3200000 in
theorem fW {l:Addr} {items:Array Value} {ns:List Int} {Q:Value → Shared → Prop} (hh:A.handled = none) (hl:s.heap.IsList l items) (hi:IntsAre items.toList ns) (hb:items.size + 1 < scanBound)
  (h:∀ (h':Heap) (tk:Nat),Y6 prog w (fun i=>ns.getD i 0) items.size h' s.heap.objs.size → (∀ b o,b < s.heap.objs.size → s.heap.get? b = some o → h'.get? b = some o) → Q (.ref s.heap.objs.size) { s with heap:=h',toks:=tk }) :
  wpAny (model prog w) A (call (.type "set") [.ref l]) Q E s:=by
 obtain ⟨c,tl,hmro⟩:=PySem.F.called_set.mro
 have hmade:=PySem.F.called_set.made
 have hsub:=PySem.F.called_set.sub
 refine wpAny_call (codeAny_of_tree ?_)
 show wpAny _ _ (callAny (.type "set") _) _ _ _
 refine wpAny_pure ⟨Code.quiet_builtin _ (by decide +kernel),codeAny_builtin PySem.F.entry_type_call ?_⟩
 rw [Around.under_plain (weight_type_call_type "set" [.ref l] []) rfl]
 have h1:=PySem.F.called_set.notType
 have h2:=PySem.F.called_set.canCreate
 have hct:=PySem.F.typeCall_set_1 (.ref l)
 repeat (any_goals (first | assumption | wp_step))
 refine codeAny_mono (fR (.ref l) (E:=E) (Q:=fun obj s₁=>obj = .ref s.heap.objs.size ∧ s₁ = { s with heap:=s.heap.push (U6 w) }) ⟨rfl,rfl⟩) fun r s₁ hr=>?_
 cases r with
 | error e=>exact hr
 | ok fl =>
  cases fl with
  | ret obj =>
   obtain ⟨rfl,rfl⟩:=hr
   have hS:(s.heap.push (U6 w)).get? s.heap.objs.size = some (U6 w):=Heap.get?_push_size _ rfl
   have hT:Shared.TypeIs { s with heap:=s.heap.push (U6 w) } (.ref s.heap.objs.size) "set":=⟨_,hS,rfl⟩
   have hli:=PySem.F.called_set.init.lookup
   have hbi:=PySem.F.called_set.init.bind (.ref s.heap.objs.size)
   repeat (any_goals (first | assumption | wp_step))
   refine codeAny_mono (codeAny_call_builtin (R:=wants (fun r s₂=>r = .none ∧ ∃ h' tk,s₂ = { s with heap:=h',toks:=tk } ∧ Y6 prog w (fun i=>ns.getD i 0) items.size h' s.heap.objs.size ∧
     (∀ b o,b < s.heap.objs.size → s.heap.get? b = some o → h'.get? b = some o)) E) PySem.F.called_set.init.plain PySem.F.entry_set_init (check_set_init_1 hT ?_)) fun r₂ s₂ hr₂=>?_
   ·obtain ⟨ol,hol,hcl,nl,hdl⟩:=id hl
    have hol':(s.heap.push (U6 w)).get? l = some ol:=Heap.get?_push_of_some _ hol
    have hTl:Shared.TypeIs { s with heap:=s.heap.push (U6 w) } (.ref l) "list":=⟨ol,hol',hcl⟩
    have hsls:=PySem.F.sub_list_set
    have hslf:=PySem.F.sub_list_frozenset
    have hne:(Value.type "list" == Value.type "dict") = false:=by decide
    have hl1:(s.heap.push (U6 w)).IsList l items:=⟨_,hol',hcl,nl,hdl⟩
    unfold Builtin.«set.__init__» noKeywords Builtin.Frozenset.updateFrom
    generalize hPI:pyIter = PI
    wp_walk
    subst hPI
    refine wpAny_pyIter_list hl1 (wpAny_bind (wpAny_runValue ?_))
    have hlS:l < s.heap.objs.size:=Heap.lt_size hol
    have hneI:l ≠ (s.heap.push (U6 w)).objs.size:=by rw [Heap.size_push]; exact Nat.ne_of_lt (Nat.lt_succ_of_lt hlS)
    have hSf:s.heap.objs.size ∉ [(s.heap.push (U6 w)).objs.size,l]:=by
     rw [Heap.size_push]
     simp only [List.mem_cons,List.not_mem_nil,or_false,not_or]
     exact ⟨Nat.ne_of_lt (Nat.lt_succ_self _),Nat.ne_of_gt hlS⟩
    refine kr ((Walks.list (by simpa using hh) _ l hneI items).toS) s.heap.objs.size hSf (fun i=>ns.getD i 0) (fun i v hv=>PyProof.Rows.IntsAre.int_at hi i v (by rw [Array.getElem?_toList]; exact hv)) hb (items.size - 0) 0 _ (by lia) (Nat.zero_le _)
     ⟨⟨_,Heap.get?_push_size _ rfl,rfl,rfl⟩,(hl1.push _)⟩ ?hS0 ?hR
    case hS0 =>
     exact ((M3.new (knd:=intKind prog w) s.heap rfl).congr (fun _=>rfl) rfl).of_get fun o e=>Heap.get?_push_of_some _ e
    case hR =>
     intro s' m x
     obtain ⟨h',g',d',tk',os'⟩:=s'
     have eg:g' = s.gens:=m.gens
     have ed:d' = s.drawn:=m.drawn
     have eo:os' = s.os:=m.os
     subst eg ed eo
     show wpAny _ _ _ _ _ _
     refine wpAny_pure ?_
     show wpAny _ _ (ret Value.none) _ _ _
     refine wpAny_pure ⟨rfl,h',tk',rfl,x,fun b o q e=>?_⟩
     refine m.heap b o ?_ (Heap.get?_push_of_some _ (Heap.get?_push_of_some _ e))
     simp only [List.mem_cons,List.not_mem_nil,or_false,not_or]
     refine ⟨Nat.ne_of_lt q,?_⟩
     rw [Heap.size_push]
     exact Nat.ne_of_lt (Nat.lt_succ_of_lt q)
   ·cases r₂ with
    | error e=>exact hr₂
    | ok fl₂ =>
     cases fl₂ with
     | ret r =>
      obtain ⟨rfl,h',tk,rfl,x,kp⟩:=hr₂
      repeat (any_goals (first | assumption | wp_step))
      exact h _ _ x kp
     | _=>exact hr₂.elim
  | _=>exact hr.elim
end
end L2
namespace L2
open PySem PySem.W PyProof.Rows
def ev {α:Type} (lt:Nat → Nat → Bool):KasT α → α
 | .ret a=>a
 | .ask i j k=>ev lt (k (lt i j))
theorem T7 {α β:Type} (lt:Nat → Nat → Bool) (f:α → KasT β):∀ t:KasT α,ev lt (t.bind f) = ev lt (f (ev lt t))
 | .ret _=>rfl
 | .ask i j k=>T7 lt f (k (lt i j))
section
variable {r:Nat → Int}
abbrev ltR (r:Nat → Int):Nat → Nat → Bool:=fun i j=>decide (r i < r j)
abbrev ky (r:Nat → Int) (p:Array Nat) (k:Nat):Int:=r (p.getD k 0)
theorem W5 {α:Type} (lt:Nat → Nat → Bool) (i j:Nat) (k:Bool → KasT α):ev lt (.ask i j k) = ev lt (k (lt i j)):=rfl
theorem fj {i j:Nat} (c:r i < r j):ltR r i j = true:=decide_eq_true c
theorem fk {i j:Nat} (c:¬ r i < r j):ltR r i j = false:=decide_eq_false c
def Up (r:Nat → Int) (p:Array Nat) (b:Nat):Prop:=∀ i,0 < i → i < b → ky r p (i - 1) ≤ ky r p i
def Dn (r:Nat → Int) (p:Array Nat) (b:Nat):Prop:=∀ i,0 < i → i < b → ky r p i ≤ ky r p (i - 1)
def Eqs (r:Nat → Int) (p:Array Nat) (a b:Nat):Prop:=∀ i,a < i → i < b → ky r p i = ky r p (i - 1)
theorem Up.mono {p:Array Nat} {b:Nat} (h:Up r p b):∀ i j,i ≤ j → j < b → ky r p i ≤ ky r p j:=by
  intro i j hij hj
  induction j with
  | zero =>
    have:i = 0:=by lia
    subst this; exact Int.le_refl _
  | succ j ih =>
    rcases Nat.lt_or_eq_of_le hij with q | q
    · exact Int.le_trans (ih (by lia) (by lia)) (h (j + 1) (by lia) hj)
    · rw [q]; exact Int.le_refl _
theorem Dn.mono {p:Array Nat} {b:Nat} (h:Dn r p b):∀ i j,i ≤ j → j < b → ky r p j ≤ ky r p i:=by
  intro i j hij hj
  induction j with
  | zero =>
    have:i = 0:=by lia
    subst this; exact Int.le_refl _
  | succ j ih =>
    rcases Nat.lt_or_eq_of_le hij with q | q
    · exact Int.le_trans (h (j + 1) (by lia) hj) (ih (by lia) (by lia))
    · rw [q]; exact Int.le_refl _
theorem Eqs.all {p:Array Nat} {a b:Nat} (h:Eqs r p a b):∀ i,a ≤ i → i < b → ky r p i = ky r p a:=by
  intro i hi hb
  induction i with
  | zero =>
    have:a = 0:=by lia
    subst this; rfl
  | succ i ih =>
    rcases Nat.lt_or_eq_of_le hi with q | q
    · rw [h (i + 1) q hb]; exact ih (by lia) (by lia)
    · rw [q]
theorem bf {p:Array Nat} {i j:Nat} (hj:j ≤ p.size) (k:Nat):(kas_rev p i j).getD k 0 = if i ≤ k ∧ k < j then p.getD (i + j - 1 - k) 0 else p.getD k 0:=by
 unfold kas_rev
 have e:=getElem?_mirror (xs:=p) (i:=i) hj ((j - i) / 2) (by lia) k
 rw [Array.getD_eq_getD_getElem?,e]
 by_cases c:i ≤ k ∧ k < j
 ·rw [if_pos c]
  by_cases d:i ≤ k ∧ k < i + (j - i) / 2 ∨ j - (j - i) / 2 ≤ k ∧ k < j
  ·rw [if_pos d,Array.getD_eq_getD_getElem?]
  ·rw [if_neg d]
   have:i + j - 1 - k = k:=by lia
   rw [this,Array.getD_eq_getD_getElem?]
 ·rw [if_neg c,if_neg (by lia),Array.getD_eq_getD_getElem?]
theorem dv {p:Array Nat} {i j:Nat} (hj:j ≤ p.size) (h:Eqs r p i j) (k:Nat):ky r (kas_rev p i j) k = ky r p k:=by
 show r _ = r _
 rw [bf hj]
 by_cases c:i ≤ k ∧ k < j
 ·rw [if_pos c]
  have e1:ky r p (i + j - 1 - k) = ky r p i:=h.all _ (by lia) (by lia)
  have e2:ky r p k = ky r p i:=h.all _ c.1 c.2
  exact e1.trans e2.symm
 ·rw [if_neg c]
theorem Q2 (p:Array Nat) (i j:Nat):(kas_rev p i j).size = p.size:=mirror_size _ _ _ _
theorem J4 (p:Array Nat) (i j:Nat):(kas_rev p i j).Perm p:=mirror_perm _ _ _ _
theorem lG (p:Array Nat):∀ f n,1 ≤ n → Up r p n → n ≤ ev (ltR r) (kas_asc p f n) ∧ ev (ltR r) (kas_asc p f n) ≤ n + f ∧ Up r p (ev (ltR r) (kas_asc p f n)) ∧
  (ev (ltR r) (kas_asc p f n) < n + f → ky r p (ev (ltR r) (kas_asc p f n)) < ky r p (ev (ltR r) (kas_asc p f n) - 1)):=by
 intro f
 induction f with
 | zero=>intro n h1 h; exact ⟨Nat.le_refl _,Nat.le_refl _,h,fun q=>absurd q (Nat.lt_irrefl _)⟩
 | succ f ih =>
  intro n h1 h
  unfold kas_asc
  rw [W5]
  by_cases c:r (p.getD n 0) < r (p.getD (n - 1) 0)
  ·rw [fj c,if_pos rfl]
   exact ⟨Nat.le_refl _,by show n ≤ n + (f + 1); lia,h,fun _=>c⟩
  ·rw [fk c,if_neg (by simp)]
   obtain ⟨q1,q2,q3,q4⟩:=ih (n + 1) (by lia) (fun i hi hb=>by
    rcases Nat.lt_or_eq_of_le (Nat.le_of_lt_succ hb) with z | z
    ·exact h i hi z
    ·subst z; exact Int.not_lt.mp c)
   exact ⟨by lia,by lia,q3,fun z=>q4 (by lia)⟩
theorem nv:∀ (f:Nat) (p:Array Nat) (n q:Nat),q < n → n + f ≤ p.size → Dn r p n → Eqs r p (n - (q + 1)) n →
  ∃ p' n' q',ev (ltR r) (kas_desc f p n q) = (p',n',q') ∧ q' < n' ∧ n ≤ n' ∧ n' ≤ n + f ∧ p'.size = p.size ∧ p'.Perm p ∧ Dn r p' n' ∧ Eqs r p' (n' - (q' + 1)) n':=by
 intro f
 induction f with
 | zero=>intro p n q hq hz hd he; exact ⟨p,n,q,rfl,hq,Nat.le_refl _,Nat.le_refl _,rfl,Array.Perm.refl _,hd,he⟩
 | succ f ih =>
  intro p n q hq hz hd he
  unfold kas_desc
  rw [W5]
  by_cases c:r (p.getD n 0) < r (p.getD (n - 1) 0)
  ·rw [fj c,if_pos rfl]
   have step:∀ p1:Array Nat,p1.size = p.size → p1.Perm p → (∀ k,ky r p1 k = ky r p k) → ∃ p' n' q',ev (ltR r) (kas_desc f p1 (n + 1) 0) = (p',n',q') ∧ q' < n' ∧ n ≤ n' ∧ n' ≤ n + (f + 1) ∧ p'.size = p.size ∧ p'.Perm p ∧ Dn r p' n' ∧ Eqs r p' (n' - (q' + 1)) n':=fun p1 s1 pm hk=>by
    obtain ⟨p',n',q',e,a1,a2,a3,a4,a5,a6,a7⟩:=ih p1 (n + 1) 0 (by lia) (by lia) (fun i hi hb=>by
     rw [hk,hk]
     rcases Nat.lt_or_eq_of_le (Nat.le_of_lt_succ hb) with z | z
     ·exact hd i hi z
     ·subst z; exact Int.le_of_lt c) (fun i hi hb=>by lia)
    exact ⟨p',n',q',e,a1,by lia,by lia,a4.trans s1,a5.trans pm,a6,a7⟩
   by_cases cq:q > 0
   ·rw [if_pos cq]
    exact step _ (Q2 _ _ _) (J4 _ _ _) (dv (by lia) he)
   ·rw [if_neg cq]
    exact step p rfl (Array.Perm.refl _) fun _=>rfl
  ·rw [fk c,if_neg (by simp)]
   rw [W5]
   by_cases d:r (p.getD (n - 1) 0) < r (p.getD n 0)
   ·rw [fj d,if_pos rfl]
    exact ⟨p,n,q,rfl,hq,Nat.le_refl _,by lia,rfl,Array.Perm.refl _,hd,he⟩
   ·rw [fk d,if_neg (by simp)]
    have eqn:ky r p n = ky r p (n - 1):=Int.le_antisymm (Int.not_lt.mp d) (Int.not_lt.mp c)
    obtain ⟨p',n',q',e,a1,a2,a3,a4,a5,a6,a7⟩:=ih p (n + 1) (q + 1) (by lia) (by lia) (fun i hi hb=>by
     rcases Nat.lt_or_eq_of_le (Nat.le_of_lt_succ hb) with z | z
     ·exact hd i hi z
     ·subst z; exact Int.le_of_eq eqn) (fun i hi hb=>by
     rcases Nat.lt_or_eq_of_le (Nat.le_of_lt_succ hb) with z | z
     ·exact he i (by lia) z
     ·subst z; exact eqn)
    exact ⟨p',n',q',e,a1,by lia,by lia,a4,a5,a6,a7⟩
def Run (r:Nat → Int) (p:Array Nat) (nrem:Nat) (x:Nat × Array Nat):Prop:=x.1 ≤ nrem ∧ 1 ≤ x.1 ∧ x.2.size = p.size ∧ x.2.Perm p ∧ Up r x.2 x.1
theorem eC {p:Array Nat} {n nrem:Nat} (h1:1 ≤ n) (hn:n ≤ nrem) (hz:nrem ≤ p.size) (hd:Dn r p n):Run r p nrem (ev (ltR r) (kas_tail3 n nrem p)):=by
 unfold kas_tail3
 rw [T7]
 have hu:Up r (kas_rev p 0 n) n:=fun i hi hb=>by
  show r _ ≤ r _
  rw [bf (by lia),bf (by lia),if_pos (by lia),if_pos (by lia)]
  exact hd.mono (0 + n - 1 - i) (0 + n - 1 - (i - 1)) (by lia) (by lia)
 obtain ⟨a1,a2,a3,_⟩:=lG (kas_rev p 0 n) (nrem - n) n h1 hu
 exact ⟨by show ev (ltR r) _ ≤ _; lia,by show 1 ≤ ev (ltR r) _; lia,Q2 _ _ _,J4 _ _ _,a3⟩
theorem Run.of {p p1:Array Nat} {nrem:Nat} {x:Nat × Array Nat} (h:Run r p1 nrem x) (s:p1.size = p.size) (m:p1.Perm p):Run r p nrem x:=⟨h.1,h.2.1,h.2.2.1.trans s,h.2.2.2.1.trans m,h.2.2.2.2⟩
theorem ag {p:Array Nat} {n nrem:Nat} (hn:n + 1 ≤ nrem) (hz:nrem ≤ p.size) (hd:Dn r p (n + 1)):Run r p nrem (ev (ltR r) (kas_descPart n nrem p)):=by
 unfold kas_descPart
 rw [T7]
 obtain ⟨p',n',q',e,a1,a2,a3,a4,a5,a6,a7⟩:=nv (nrem - (n + 1)) p (n + 1) 0 (by lia) (by lia) hd (fun i hi hb=>by lia)
 rw [e]
 dsimp only
 by_cases c:q' > 0
 ·rw [if_pos c]
  have k:=dv (r:=r) (by lia) a7
  exact (eC (p:=kas_rev p' (n' - (q' + 1)) n') (by lia) (by lia) (by rw [Q2]; lia) (fun i hi hb=>by rw [k,k]; exact a6 i hi hb)).of ((Q2 _ _ _).trans a4) ((J4 _ _ _).trans a5)
 ·rw [if_neg c]
  exact (eC (p:=p') (by lia) (by lia) (by lia) a6).of a4 a5
theorem dZ {p:Array Nat} {nrem:Nat} (h1:1 ≤ nrem) (hz:nrem ≤ p.size):Run r p nrem (ev (ltR r) (kas_count nrem p)):=by
 unfold kas_count
 rw [T7]
 obtain ⟨a1,a2,a3,a4⟩:=lG (r:=r) p (nrem - 1) 1 (Nat.le_refl _) (fun i hi hb=>by lia)
 generalize ev (ltR r) (kas_asc p (nrem - 1) 1) = n at *
 by_cases c:(n == nrem) = true
 ·rw [if_pos c]
  exact ⟨by show n ≤ nrem; lia,a1,rfl,Array.Perm.refl _,a3⟩
 ·rw [if_neg c]
  have hne:n ≠ nrem:=by simpa using c
  have stop:=a4 (by lia)
  by_cases c2:n > 1
  ·rw [if_pos c2]
   rw [W5]
   by_cases d:r (p.getD 0 0) < r (p.getD (n - 1) 0)
   ·rw [fj d,if_pos rfl]
    exact ⟨by show n ≤ nrem; lia,a1,rfl,Array.Perm.refl _,a3⟩
   ·rw [fk d,if_neg (by simp)]
    have eqs:Eqs r p 0 n:=fun i hi hb=>by
     have q1:=a3.mono 0 (i - 1) (by lia) (by lia)
     have q2:=a3.mono (i - 1) i (by lia) hb
     have q3:=a3.mono i (n - 1) (by lia) (by lia)
     have q4:ky r p (n - 1) ≤ ky r p 0:=Int.not_lt.mp d
     lia
    have k:=dv (r:=r) (by lia) eqs
    refine (ag (p:=kas_rev p 0 n) (by lia) (by rw [Q2]; exact hz) (fun i hi hb=>?_)).of (Q2 _ _ _) (J4 _ _ _)
    rw [k,k]
    rcases Nat.lt_or_eq_of_le (Nat.le_of_lt_succ hb) with z | z
    ·exact Int.le_of_eq (eqs i hi z)
    ·subst z; exact Int.le_of_lt stop
  ·rw [if_neg c2]
   obtain rfl:n = 1:=by lia
   exact ag (by lia) hz (fun i hi hb=>by
    obtain rfl:i = 1:=by lia
    exact Int.le_of_lt stop)
theorem ku {p:Array Nat} {k:Nat} (hu:Up r p k):∀ f l m,m - l ≤ f → l ≤ m → m ≤ k → (∀ i,i < l → ky r p i ≤ ky r p k) → (∀ i,m ≤ i → i < k → ky r p k < ky r p i) →
  ev (ltR r) (kas_place p k f l m) ≤ k ∧ (∀ i,i < ev (ltR r) (kas_place p k f l m) → ky r p i ≤ ky r p k) ∧ ∀ i,ev (ltR r) (kas_place p k f l m) ≤ i → i < k → ky r p k < ky r p i:=by
 intro f
 induction f with
 | zero =>
  intro l m h1 h2 h3 h4 h5
  obtain rfl:l = m:=by lia
  exact ⟨h3,h4,h5⟩
 | succ f ih =>
  intro l m h1 h2 h3 h4 h5
  unfold kas_place
  by_cases c:l ≥ m
  ·rw [if_pos c]
   obtain rfl:l = m:=by lia
   exact ⟨h3,h4,h5⟩
  ·rw [if_neg c]
   rw [W5]
   by_cases d:r (p.getD k 0) < r (p.getD ((l + m) / 2) 0)
   ·rw [fj d,if_pos rfl]
    refine ih l ((l + m) / 2) (by lia) (by lia) (by lia) h4 (fun i hi hb=>?_)
    exact Int.lt_of_lt_of_le d (hu.mono _ i hi hb)
   ·rw [fk d,if_neg (by simp)]
    refine ih ((l + m) / 2 + 1) m (by lia) (by lia) h3 (fun i hi=>?_) h5
    exact Int.le_trans (hu.mono i ((l + m) / 2) (by lia) (by lia)) (Int.not_lt.mp d)
theorem ak {p:Array Nat} {k l:Nat} (hk:k < p.size) (hl:l ≤ k) (i:Nat):(bubble p k (k - l)).getD i 0 = if i = l then p.getD k 0 else if l < i ∧ i ≤ k then p.getD (i - 1) 0 else p.getD i 0:=by
 have e:=getElem?_bubble hk (k - l) (by lia) i
 rw [show k - (k - l) = l by lia] at e
 rw [Array.getD_eq_getD_getElem?,e]
 by_cases c1:i = l
 ·rw [if_pos c1,if_pos c1,Array.getD_eq_getD_getElem?]
 ·rw [if_neg c1,if_neg c1]
  by_cases c2:l < i ∧ i ≤ k
  ·rw [if_pos c2,if_pos c2,Array.getD_eq_getD_getElem?]
  ·rw [if_neg c2,if_neg c2,Array.getD_eq_getD_getElem?]
theorem pi:∀ (f:Nat) (p:Array Nat) (k:Nat),k + f ≤ p.size → Up r p k → (ev (ltR r) (kas_bin f p k)).Perm p ∧ Up r (ev (ltR r) (kas_bin f p k)) (k + f):=by
 intro f
 induction f with
 | zero=>intro p k hz hu; exact ⟨Array.Perm.refl _,hu⟩
 | succ f ih =>
  intro p k hz hu
  unfold kas_bin
  rw [T7]
  obtain ⟨b1,b2,b3⟩:=ku hu k 0 k (by lia) (by lia) (Nat.le_refl _) (fun i hi=>absurd hi (by lia)) (fun i hi hb=>absurd hb (by lia))
  generalize ev (ltR r) (kas_place p k k 0 k) = l at *
  have hk:k < p.size:=by lia
  obtain ⟨c1,c2⟩:=ih (bubble p k (k - l)) (k + 1) (by rw [bubble_size]; lia) (fun i hi hb=>by
   show r _ ≤ r _
   rw [ak hk b1,ak hk b1]
   by_cases e1:i - 1 = l
   ·rw [if_pos e1,if_neg (show ¬ i = l by lia),if_pos (by lia)]
    have:=b3 (i - 1) (by lia) (by lia)
    exact Int.le_of_lt this
   ·rw [if_neg e1]
    by_cases e2:i = l
    ·rw [if_pos e2,if_neg (by lia)]
     exact b2 (i - 1) (by lia)
    ·rw [if_neg e2]
     by_cases e3:l < i
     ·rw [if_pos (by lia),if_pos (by lia)]
      exact hu (i - 1) (by lia) (by lia)
     ·rw [if_neg (by lia),if_neg (by lia)]
      exact hu i hi (by lia))
  exact ⟨c1.trans (bubble_perm _ _ _),by rw [show k + (f + 1) = k + 1 + f by lia]; exact c2⟩
theorem mU {n:Nat} (hn:1 ≤ n):(ev (ltR r) (kas_sort n)).Perm (List.range n).toArray ∧ Up r (ev (ltR r) (kas_sort n)) n:=by
 unfold kas_sort
 rw [T7]
 obtain ⟨h1,h2,h3,h4,h5⟩:=dZ (r:=r) (p:=(List.range n).toArray) (nrem:=n) hn (by simp)
 generalize ev (ltR r) (kas_count n (List.range n).toArray) = x at *
 have hs:x.2.size = n:=by rw [h3]; simp
 by_cases c:x.1 < n
 ·rw [if_pos c]
  have hm:max x.1 1 = x.1:=by lia
  rw [hm]
  obtain ⟨c1,c2⟩:=pi (r:=r) (n - x.1) x.2 x.1 (by lia) h5
  rw [show x.1 + (n - x.1) = n by lia] at c2
  exact ⟨c1.trans h4,c2⟩
 ·rw [if_neg c]
  have:x.1 = n:=by lia
  rw [this] at h5
  exact ⟨h4,h5⟩
def V3 {α:Type} (lt:Nat → Nat → Bool) (n:Nat):KasT α → Prop
 | .ret _=>True
 | .ask i j k=>i < n ∧ j < n ∧ V3 lt n (k (lt i j))
theorem V3.bind {α β:Type} {lt:Nat → Nat → Bool} {n:Nat} {f:α → KasT β}:∀ {t:KasT α},V3 lt n t → V3 lt n (f (ev lt t)) → V3 lt n (t.bind f)
 | .ret _,_,h=>h
 | .ask i j k,h,h'=>⟨h.1,h.2.1,V3.bind (t:=k (lt i j)) h.2.2 h'⟩
def InN (n:Nat) (p:Array Nat):Prop:=0 < n ∧ ∀ x ∈ p.toList,x < n
theorem InN.at {n:Nat} {p:Array Nat} (h:InN n p) (k:Nat):p.getD k 0 < n:=by
 rw [Array.getD_eq_getD_getElem?]
 cases e:p[k]? with
 | none=>exact h.1
 | some x=>exact h.2 x (by rw [Array.mem_toList_iff]; exact Array.mem_of_getElem? e)
theorem InN.perm {n:Nat} {p p':Array Nat} (h:InN n p) (m:p'.Perm p):InN n p':=⟨h.1,fun x hx=>h.2 x (by
 rw [Array.mem_toList_iff] at hx ⊢
 exact (Array.Perm.mem_iff m).mp hx)⟩
variable {n₀:Nat}
theorem aP {p:Array Nat} (h:InN n₀ p):∀ f n,V3 (ltR r) n₀ (kas_asc p f n)
 | 0,_=>True.intro
 | f + 1,n=>by
  unfold kas_asc
  refine ⟨h.at _,h.at _,?_⟩
  dsimp only
  split
  ·exact True.intro
  ·exact aP h f (n + 1)
theorem T6:∀ (f:Nat) {p:Array Nat} (n q:Nat),InN n₀ p → V3 (ltR r) n₀ (kas_desc f p n q)
 | 0,_,_,_,_=>True.intro
 | f + 1,p,n,q,h=>by
  unfold kas_desc
  refine ⟨h.at _,h.at _,?_⟩
  dsimp only
  split
  ·split
   ·exact T6 f _ _ (h.perm (J4 _ _ _))
   ·exact T6 f _ _ h
  ·refine ⟨h.at _,h.at _,?_⟩
   dsimp only
   split
   ·exact True.intro
   ·exact T6 f _ _ h
theorem U0:∀ (f:Nat) (p:Array Nat) (n q:Nat),(ev (ltR r) (kas_desc f p n q)).1.Perm p
 | 0,p,_,_=>Array.Perm.refl _
 | f + 1,p,n,q=>by
  unfold kas_desc
  rw [W5]
  split
  ·split
   ·exact (U0 f _ _ _).trans (J4 _ _ _)
   ·exact U0 f _ _ _
  ·rw [W5]
   split
   ·exact Array.Perm.refl _
   ·exact U0 f _ _ _
theorem aV {p:Array Nat} (n nrem:Nat) (h:InN n₀ p):V3 (ltR r) n₀ (kas_tail3 n nrem p):=(aP (h.perm (J4 _ _ _)) _ _).bind True.intro
theorem U9 {p:Array Nat} (n nrem:Nat) (h:InN n₀ p):V3 (ltR r) n₀ (kas_descPart n nrem p):=by
 refine (T6 _ _ _ h).bind ?_
 have pm:=U0 (r:=r) (nrem - (n + 1)) p (n + 1) 0
 split
 ·exact aV _ _ ((h.perm pm).perm (J4 _ _ _))
 ·exact aV _ _ (h.perm pm)
theorem gz {p:Array Nat} (nrem:Nat) (h:InN n₀ p):V3 (ltR r) n₀ (kas_count nrem p):=by
 refine (aP h _ _).bind ?_
 split
 ·exact True.intro
 ·split
  ·refine ⟨h.at _,h.at _,?_⟩
   dsimp only
   split
   ·exact True.intro
   ·exact U9 _ _ (h.perm (J4 _ _ _))
  ·exact U9 _ _ h
theorem V4 {p:Array Nat} {k:Nat} (h:InN n₀ p):∀ f l m,V3 (ltR r) n₀ (kas_place p k f l m)
 | 0,_,_=>True.intro
 | f + 1,l,m=>by
  unfold kas_place
  split
  ·exact True.intro
  ·refine ⟨h.at _,h.at _,?_⟩
   dsimp only
   split
   ·exact V4 h f _ _
   ·exact V4 h f _ _
theorem dU:∀ (f:Nat) {p:Array Nat} (k:Nat),InN n₀ p → V3 (ltR r) n₀ (kas_bin f p k)
 | 0,_,_,_=>True.intro
 | f + 1,p,k,h=>(V4 h _ _ _).bind (dU f _ (h.perm (bubble_perm _ _ _)))
theorem jH {n:Nat} (hn:1 ≤ n):V3 (ltR r) n (kas_sort n):=by
 have h:InN n (List.range n).toArray:=⟨hn,fun x hx=>by simpa using hx⟩
 refine (gz n h).bind ?_
 obtain ⟨h1,h2,h3,h4,h5⟩:=dZ (r:=r) (p:=(List.range n).toArray) (nrem:=n) hn (by simp)
 split
 ·exact dU _ _ (h.perm h4)
 ·exact True.intro
theorem oP {cmp:Nat → Nat → (Bool → Shared → Prop) → Shared → Prop} {J:Shared → Prop} {n:Nat} {lt:Nat → Nat → Bool} {α:Type} (hc:∀ i j C s,i < n → j < n → J s → (∀ s',J s' → C (lt i j) s') → cmp i j C s) :
  ∀ (t:KasT α) (s:Shared) (Q:α → Shared → Prop),V3 lt n t → J s → (∀ s',J s' → Q (ev lt t) s') → t.kasWp cmp Q s
 | .ret a,s,Q,_,hJ,h=>h s hJ
 | .ask i j k,s,Q,ha,hJ,h=>hc i j _ s ha.1 ha.2.1 hJ fun s' hJ'=>oP hc (k (lt i j)) s' Q ha.2.2 hJ' h
theorem fi {α:Type} {xs:List α} {r:Nat → Int} {p:Array Nat} (hp:p.Perm (List.range xs.length).toArray) (hu:Up r p xs.length) (d:α) (key:α → Int) (hk:∀ i,i < xs.length → r i = key (xs.getD i d)) :
  (p.toList.map fun i=>xs.getD i d).Perm xs ∧ (p.toList.map fun i=>xs.getD i d).Pairwise (fun a b=>key a ≤ key b):=by
 have hpl:p.toList.Perm (List.range xs.length):=by simpa using Array.perm_iff_toList_perm.mp hp
 have hlen:p.toList.length = xs.length:=by simpa using hpl.length_eq
 constructor
 ·refine (hpl.map _).trans ?_
  have:(List.range xs.length).map (fun i=>xs.getD i d) = xs:=by
   apply List.ext_getElem
   ·simp
   ·intro i h1 h2
    simp [List.getD,h2]
  rw [this]
 ·rw [List.pairwise_iff_getElem]
  intro i j hi hj hij
  rw [List.length_map] at hi hj
  rw [List.getElem_map,List.getElem_map]
  have m:∀ k (hk:k < p.toList.length),p.toList[k] < xs.length:=fun k hk=>by
   have:=hpl.mem_iff.mp (List.getElem_mem hk)
   simpa using this
  rw [← hk _ (m i hi),← hk _ (m j hj)]
  have q:=hu.mono i j (by lia) (by lia)
  have e:∀ k (hk:k < p.toList.length),p.getD k 0 = p.toList[k]:=fun k hk=>by
   have hk':k < p.size:=by simpa using hk
   simp [Array.getD,hk']
  rw [ky,ky,e i hi,e j hj] at q
  exact q
end
end L2
namespace L2
open PySem PySem.Spec PyProof.Rows
def Z8 (x:Int):List Int → List Int
 | []=>[x]
 | y :: r=>if x < y then x :: y :: r else if x = y then y :: r else y :: Z8 x r
def B1 (ns:List Int):List Int:=ns.foldr Z8 []
theorem aT (x k:Int):∀ l:List Int,k ∈ Z8 x l ↔ k = x ∨ k ∈ l
 | []=>by simp [Z8]
 | y :: r=>by
  unfold Z8
  split
  ·simp
  ·split
   ·rename_i h; subst h; simp
   ·rw [List.mem_cons,aT x k r,List.mem_cons]
    constructor
    ·rintro (h | h | h)
     ·exact .inr (.inl h)
     ·exact .inl h
     ·exact .inr (.inr h)
    ·rintro (h | h | h)
     ·exact .inr (.inl h)
     ·exact .inl h
     ·exact .inr (.inr h)
theorem cD (x:Int):∀ l:List Int,l.Pairwise (· < ·) → (Z8 x l).Pairwise (· < ·)
 | [],_=>by simp [Z8]
 | y :: r,h=>by
  rw [List.pairwise_cons] at h
  unfold Z8
  split
  ·rename_i hlt
   rw [List.pairwise_cons,List.pairwise_cons]
   refine ⟨fun a ha=>?_,h⟩
   rcases List.mem_cons.mp ha with rfl | ha
   ·exact hlt
   ·exact Int.lt_trans hlt (h.1 a ha)
  ·split
   ·rw [List.pairwise_cons]; exact h
   ·rename_i h1 h2
    rw [List.pairwise_cons]
    refine ⟨fun a ha=>?_,cD x r h.2⟩
    rcases (aT x a r).mp ha with rfl | ha
    ·lia
    ·exact h.1 a ha
theorem A5 (k:Int):∀ ns:List Int,k ∈ B1 ns ↔ k ∈ ns
 | []=>Iff.rfl
 | x :: r=>by
  show k ∈ Z8 x (B1 r) ↔ _
  rw [aT,A5 k r,List.mem_cons]
theorem E8:∀ ns:List Int,(B1 ns).Pairwise (· < ·)
 | []=>List.Pairwise.nil
 | x :: r=>cD x _ (E8 r)
theorem O1 {l:List Int} (h:l.Pairwise (· < ·)):l.Nodup:=h.imp fun {a b} q e=>by rw [e] at q; exact Int.lt_irrefl _ q
theorem N5:∀ (l1 l2:List Int),l1.Nodup → (∀ x ∈ l1,x ∈ l2) → l2.length ≤ l1.length → l1.Perm l2
 | [],l2,_,_,h=>by
  have:l2 = []:=List.eq_nil_of_length_eq_zero (by simpa using h)
  subst this; exact List.Perm.refl _
 | a :: r,l2,hn,hs,hl=>by
  rw [List.nodup_cons] at hn
  have ha:=hs a List.mem_cons_self
  have p:=List.perm_cons_erase ha
  refine ((N5 r (l2.erase a) hn.2 (fun x hx=>?_) ?_).cons a).trans p.symm
  ·have hne:x ≠ a:=fun e=>hn.1 (e ▸ hx)
   exact (List.mem_erase_of_ne hne).mpr (hs x (List.mem_cons_of_mem _ hx))
  ·have:=p.length_eq
   rw [List.length_cons] at this hl
   lia
theorem fS:∀ {l1 l2:List Int},l1.Pairwise (· < ·) → l2.Pairwise (· < ·) → (∀ k,k ∈ l1 ↔ k ∈ l2) → l1 = l2
 | [],[],_,_,_=>rfl
 | [],b :: r,_,_,h=>absurd ((h b).mpr List.mem_cons_self) (by simp)
 | a :: r,[],_,_,h=>absurd ((h a).mp List.mem_cons_self) (by simp)
 | a :: r,b :: t,h1,h2,h=>by
  rw [List.pairwise_cons] at h1 h2
  have e:a = b:=by
   rcases List.mem_cons.mp ((h a).mp List.mem_cons_self) with q | q
   ·exact q
   ·rcases List.mem_cons.mp ((h b).mpr List.mem_cons_self) with q' | q'
    ·exact q'.symm
    ·have z1:=h2.1 a q
     have z2:=h1.1 b q'
     lia
  subst e
  have:r = t:=fS h1.2 h2.2 fun k=>by
   have q:=h k
   rw [List.mem_cons,List.mem_cons] at q
   constructor
   ·intro hk
    rcases q.mp (.inr hk) with e | z
    ·have:=h1.1 k hk; lia
    ·exact z
   ·intro hk
    rcases q.mpr (.inr hk) with e | z
    ·have:=h2.1 k hk; lia
    ·exact z
  rw [this]
theorem jl {ns' ns:List Int} (hp:ns'.Pairwise (· ≤ ·)) (hm:∀ k,k ∈ ns' ↔ k ∈ ns) (hl:ns'.length = (B1 ns).length):ns' = B1 ns:=by
 have pm:=N5 (B1 ns) ns' (O1 (E8 ns)) (fun x hx=>(hm x).mpr ((A5 x ns).mp hx)) (Nat.le_of_eq hl)
 have nd:ns'.Nodup:=pm.nodup_iff.mp (O1 (E8 ns))
 refine fS ((hp.and nd).imp fun {a b} q=>?_) (E8 ns) fun k=>by rw [hm,A5]
 have:=q.1
 have:=q.2
 lia
theorem X4 (ns:List Int) (k:Int):(firstMet (fun i=>ns.getD i 0) ns.length).any (· == k) = decide (k ∈ ns):=by
 rw [firstMet_any]
 have e:(List.range ns.length).map (fun i=>ns.getD i 0) = ns:=by
  apply List.ext_getElem
  ·simp
  ·intro i h1 h2
   simp [List.getD,h2]
 rw [e,Bool.eq_iff_iff,List.any_eq_true,decide_eq_true_iff]
 constructor
 ·rintro ⟨x,hx,q⟩
  rw [← eq_of_beq q]; exact hx
 ·intro h
  exact ⟨k,h,beq_self_eq_true k⟩
theorem S8 (val:Nat → Int):∀ i,(firstMet val i).Nodup
 | 0=>List.nodup_nil
 | i + 1=>by
  rw [firstMet_succ]
  unfold step_dedup
  have ih:=S8 val i
  by_cases h:(firstMet val i).any (· == val i) = true
  ·rw [if_pos h]; exact ih
  ·rw [if_neg h,List.nodup_append]
   refine ⟨ih,by simp,fun a ha b hb e=>h ?_⟩
   rw [List.mem_singleton] at hb
   rw [List.any_eq_true]
   exact ⟨a,ha,by rw [e,hb]; exact beq_self_eq_true _⟩
theorem cU (ns:List Int):(firstMet (fun i=>ns.getD i 0) ns.length).length = (B1 ns).length:=by
 have m:∀ k,k ∈ firstMet (fun i=>ns.getD i 0) ns.length ↔ k ∈ ns:=fun k=>by
  have:=X4 ns k
  rw [Bool.eq_iff_iff,List.any_eq_true,decide_eq_true_iff] at this
  rw [← this]
  exact ⟨fun h=>⟨k,h,beq_self_eq_true k⟩,fun ⟨x,hx,q⟩=>by rw [← eq_of_beq q]; exact hx⟩
 have n1:=S8 (fun i=>ns.getD i 0) ns.length
 have n2:=O1 (E8 ns)
 rcases Nat.le_total (firstMet (fun i=>ns.getD i 0) ns.length).length (B1 ns).length with h | h
 ·exact (N5 (B1 ns) _ n2 (fun x hx=>(m x).mpr ((A5 x ns).mp hx)) h).length_eq.symm
 ·exact (N5 _ (B1 ns) n1 (fun x hx=>(A5 x ns).mpr ((m x).mp hx)) h).length_eq
theorem Z6 (ns:List Int):(B1 ns).length ≤ ns.length:=by
 induction ns with
 | nil=>exact Nat.le_refl _
 | cons x r ih =>
  have:∀ l:List Int,(Z8 x l).length ≤ l.length + 1:=by
   intro l
   induction l with
   | nil=>simp [Z8]
   | cons y t ih =>
    unfold Z8; split <;> try split
    all_goals simp only [List.length_cons]
    all_goals lia
  have q:=this (B1 r)
  show (Z8 x (B1 r)).length ≤ _
  rw [List.length_cons]
  lia
section
variable {X:Cx}
def jZ (X:Cx) (l:Addr) (ns:List Int):HO:=.ext fun h=>M3 (intKind X.prog X.w) h l (fun k=>decide (k ∈ ns)) (B1 ns).length
theorem bU (hc:X.calm = true):A4 X (.type "set") (fun xs H Q=>∃ (p:Addr) (ns:List Int),xs = [.ref p] ∧ SqL X.K H p (ns.map V.int) ∧ ns.length < 4000 ∧ ∀ l,H l = none → Q (.ref l) (upd H l (jZ X l ns))):=by
 intro pins s σ H xs us Q I r h
 obtain ⟨p,ns,rfl,hq,hlt,q⟩:=h
 obtain ⟨u,rfl,rx⟩:=U8 r
 cases rx
 obtain ⟨its,r',pl,hz⟩:=I.list hq
 have hi:IntsAre its ns:=br r'
 have hlen:its.length = ns.length:=hi.length
 refine fW (I.ok.hd hc) pl.isList (ns:=ns) (by simpa using hi) (by show its.toArray.size + 1 < 4096; rw [List.size_toArray]; lia) fun h' tk x kp=>?_
 have x':M3 (intKind X.prog X.w) h' s.heap.objs.size (fun k=>decide (k ∈ ns)) (B1 ns).length:=x.congr (fun k=>by
  rw [List.size_toArray,hlen]; exact X4 ns k) (by rw [List.size_toArray,hlen]; exact cU ns)
 have he:∃ o,h'.get? s.heap.objs.size = some o:=let ⟨o,_,_,_,e,_⟩:=x'; ⟨o,e⟩
 exact ⟨.ref s.heap.objs.size,_,I.laid (t':=tk) (o:=jZ X s.heap.objs.size ns) (fun b o e=>kp b o (Heap.lt_size e) e) (Nat.le_refl _) ⟨x',he,fun h1 h2 y k=>y.of_get k⟩,rfl,q _ (I.hok.fresh (Nat.le_refl _))⟩
theorem mH {pins:List (Addr × Obj)} {σ:St} {H:Hp} {s:Shared} {p:Addr} {ns:List Int} (I:Inv X pins σ H s) (e:H p = some (jZ X p ns)):M3 (intKind X.prog X.w) s.heap p (fun k=>decide (k ∈ ns)) (B1 ns).length :=
 (show p3 X.prog X.w H s.heap p (jZ X p ns) from I.hok p _ e).1
theorem ar (hc:X.calm = true):A4 X (.builtin "sorted") (fun xs H Q=>∃ (p:Addr) (ns:List Int),xs = [.ref p] ∧ H p = some (jZ X p ns) ∧ ns.length < 64 ∧ ∀ l,H l = none → Q (.ref l) (upd H l (.lst ((B1 ns).map V.int)))):=by
 intro pins s σ H xs us Q I r h
 obtain ⟨p,ns,rfl,he,hlt,q⟩:=h
 obtain ⟨u,rfl,rx⟩:=U8 r
 cases rx
 have hl:=Z6 ns
 refine gp (I.ok.hd hc) (mH I he) (by lia) fun l h' d tk e out ns' a1 a2 a3 a4 hlz kp g=>?_
 have e2:ns' = B1 ns:=jl a2 (fun k=>by rw [a3,decide_eq_true_iff]) a4
 subst e2
 have fr:=I.hok.fresh hlz
 have new:p3 X.prog X.w (upd H l (.lst ((B1 ns).map V.int))) h' l (.lst ((B1 ns).map V.int)):=⟨by rw [List.length_map]; exact Nat.le_of_lt (B5 (by lia)),out.toList,e,T8 a1,by simpa [seqObj] using g⟩
 exact ⟨.ref l,_,I.call' (s':={ s with heap:=h',drawn:=d,toks:=tk }) (ch:=[]) rfl (Un.track (Un.kept kp) hlz fr) (HOk.track (I.hok.kept kp) fr new) I.bare (fun b z=>nomatch z),rfl,q l fr⟩
end
def EqV (X:Cx) (H:Hp) (n:Nat) (x y:V) (b:Bool):Prop :=
 ∀ (A:Around) (pins:List (Addr × Obj)) (s:Shared) (σ:St) (u v:Value),Inv X pins σ H s → o9 x u → o9 y v → A.units + n < cLine → SeqAt.EqAt A s u v b
structure eO (X:Cx) {δ:Type} [DecidableEq δ] (n:Nat) (R:Hp → V → δ → Prop):Prop where
 eq:∀ H x y dx dy,R H x dx → R H y dy → EqV X H n x y (decide (dx = dy))
 fn:∀ pins s σ H x d d',Inv X pins σ H s → R H x d → R H x d' → d = d'
section
variable {X:Cx}
variable {δ:Type} [DecidableEq δ] {n:Nat} {R:Hp → V → δ → Prop}
def rT (K:PySem.W.Frag) (R:Hp → V → δ → Prop):Hp → V → List δ → Prop:=fun H x ds=>∃ a xs,x = .ref a ∧ SqT K H a xs ∧ Paired (R H) xs ds
theorem m9 {α β:Type} {Rl:α → β → Prop}:∀ {xs:List α} {ds:List β},Paired Rl xs ds → ∀ (i:Nat) (x:α),xs[i]? = some x → ∃ d,ds[i]? = some d ∧ Rl x d
 | _,_,.nil,i,x,h=>by simp at h
 | _,_,.cons r t,0,x,h=>by simp at h; subst h; exact ⟨_,rfl,r⟩
 | _,_,.cons r t,i + 1,x,h=>by
  obtain ⟨d,e,q⟩:=m9 t i x (by simpa using h)
  exact ⟨d,by simpa using e,q⟩
theorem nG (ds ds':List δ) (h:ds.length = ds'.length):((List.range ds.length).all fun j=>decide (ds[j]? = ds'[j]?)) = decide (ds = ds'):=by
 rw [Bool.eq_iff_iff,List.all_eq_true,decide_eq_true_iff]
 constructor
 ·intro q
  apply List.ext_getElem?
  intro i
  by_cases hi:i < ds.length
  ·exact of_decide_eq_true (q i (by simpa using hi))
  ·rw [List.getElem?_eq_none (by lia),List.getElem?_eq_none (by lia)]
 ·rintro rfl i hi
  simp
theorem kU (ep:eO X n R) {H:Hp} {A:Around} {pins:List (Addr × Obj)} {s:Shared} {σ:St} (I:Inv X pins σ H s) {xs ys:List V} {ds ds':List δ} {us vs:List Value} (hx:Paired (R H) xs ds) (hy:Paired (R H) ys ds') (ru:n6 xs us) (rv:n6 ys vs)
  (hu:A.units + n < cLine):∀ j (h1:j < us.toArray.size) (h2:j < vs.toArray.size),SeqAt.EqAt A s us.toArray[j] vs.toArray[j] (decide (ds[j]? = ds'[j]?)):=fun j h1 h2=>by
 have l1:=ru.length
 have l2:=rv.length
 rw [List.size_toArray] at h1 h2
 have e1:xs[j]? = some (xs[j]'(by lia)):=List.getElem?_eq_getElem _
 have e2:ys[j]? = some (ys[j]'(by lia)):=List.getElem?_eq_getElem _
 obtain ⟨d,q1,r1⟩:=m9 hx j _ e1
 obtain ⟨d',q2,r2⟩:=m9 hy j _ e2
 obtain ⟨u,w1,s1⟩:=ru.get e1
 obtain ⟨v,w2,s2⟩:=rv.get e2
 have z1:us.toArray[j] = u:=by rw [List.getElem?_eq_getElem h1] at w1; simpa using w1
 have z2:vs.toArray[j] = v:=by rw [List.getElem?_eq_getElem h2] at w2; simpa using w2
 rw [z1,z2,q1,q2]
 have:decide (some d = some d') = decide (d = d'):=by rw [Bool.eq_iff_iff]; simp
 rw [this]
 exact ep.eq H _ _ _ _ r1 r2 A pins s σ u v I s1 s2 hu
theorem Y7 (ep:eO X n R) {H:Hp} {pins:List (Addr × Obj)} {s:Shared} {σ:St} (I:Inv X pins σ H s):∀ {xs:List V} {ds ds':List δ},Paired (R H) xs ds → Paired (R H) xs ds' → ds = ds'
 | _,_,_,.nil,.nil=>rfl
 | _,_,_,.cons r t,.cons r' t'=>by rw [ep.fn pins s σ H _ _ _ I r r',Y7 ep I t t']
theorem oS (ep:eO X n R):eO X (n + 1) (rT X.K R) where
 eq:=fun H x y dx dy hx hy A pins s σ u v I ru rv hu=>by
  obtain ⟨a,xs,rfl,ha,px⟩:=hx
  obtain ⟨b,ys,rfl,hb,py⟩:=hy
  cases ru
  cases rv
  by_cases hab:a = b
  ·subst hab
   have:=I.tuple_inj ha hb
   subst this
   rw [Y7 ep I px py,decide_eq_true rfl]
   exact SeqAt.EqAt.same _
  ·obtain ⟨us,r1,p1,_⟩:=I.tuple ha
   obtain ⟨vs,r2,p2,_⟩:=I.tuple hb
   have l1:=r1.length
   have l2:=r2.length
   have l3:=Paired.length px
   have l4:=Paired.length py
   have:=SeqAt.RcAt.tuples (A:=A) (e:=fun j=>decide (dx[j]? = dy[j]?)) p1 p2 (by lia) (kU ep I px py r1 r2 (by show A.units + 1 + n < cLine; lia))
   refine SeqAt.EqAt.of_refs hab ?_
   have e:((List.range (min us.toArray.size vs.toArray.size)).all (fun j=>decide (dx[j]? = dy[j]?)) && us.toArray.size == vs.toArray.size) = decide (dx = dy):=by
    rw [List.size_toArray,List.size_toArray]
    by_cases hl:dx.length = dy.length
    ·rw [show min us.length vs.length = dx.length by lia,nG dx dy hl,show (us.length == vs.length) = true by simp; lia,Bool.and_true]
    ·rw [show (us.length == vs.length) = false by simp; lia,Bool.and_false,decide_eq_false (fun z=>hl (by rw [z]))]
   rw [← e]
   exact this
 fn:=fun pins s σ H x d d' I h h'=>by
  obtain ⟨a,xs,rfl,ha,px⟩:=h
  obtain ⟨b,ys,e,hb,py⟩:=h'
  cases e
  have:=I.tuple_inj ha hb
  subst this
  exact Y7 ep I px py
end
end L2
namespace L2
open PySem PySem.Spec PyProof.Rows PySem.W
def O3:List V → List V → Option Bool
 | [],[]=>some false
 | [],_ :: _=>some true
 | _ :: _,[]=>some false
 | .int a :: r,.int b :: r'=>if a = b then O3 r r' else some (decide (a < b))
 | .ref a :: r,.ref b :: r'=>if a = b then O3 r r' else none
 | _,_=>none
section
variable {prog:Program} {w:World} {A:Around} {E:Value → Shared → Prop} {s:Shared}
theorem nS {a b:Int} {t u:Tok} {k:Bool} {Q:Bool → Shared → Prop} (h:Q (decide (a < b)) s):wpAny (model prog w) A (oneLt' k (.int a t) (.int b u)) Q E s:=by
 cases k with
 | true=>exact oneLt_int h
 | false=>exact kat_one _ _ (lt_int (show PySem.W.BoolBack Q (.bool (decide (a < b))) s from h))
theorem aY {b fin:Bool} {Q:Bool → Shared → Prop}:∀ (xs ys:List V) (us vs:List Value) (i:Nat) (c:Bool),n6 xs us → n6 ys vs → O3 xs ys = some c → fin = decide (us.length < vs.length) → Q c s → KatLex prog w A b fin Q (us.zip vs) i s
 | [],[],_,_,i,c,.nil,.nil,h,hf,q=>by
  have e:c = false:=by simpa [O3] using h.symm
  subst e
  refine kat_nil ?_
  rw [hf]; exact q
 | [],y :: ys,_,_,i,c,.nil,.cons _ _,h,hf,q=>by
  have e:c = true:=by simpa [O3] using h.symm
  subst e
  refine kat_nil ?_
  rw [hf,decide_eq_true (by simp)]; exact q
 | x :: xs,[],_,_,i,c,.cons _ _,.nil,h,hf,q=>by
  have e:c = false:=by cases x <;> simpa [O3] using h.symm
  subst e
  refine kat_nil ?_
  rw [hf,decide_eq_false (by simp)]; exact q
 | x :: xs,y :: ys,u :: us,v :: vs,i,c,.cons rx tx,.cons ry ty,h,hf,q=>by
  have hf':fin = decide (us.length < vs.length):=by
   rw [hf,List.length_cons,List.length_cons]
   rw [Bool.eq_iff_iff,decide_eq_true_iff,decide_eq_true_iff]
   lia
  rw [List.zip_cons_cons]
  cases x with
  | int m =>
   cases y with
   | int k =>
    obtain ⟨t,rfl⟩:=rx
    obtain ⟨t',rfl⟩:=ry
    refine kat_cons (wpAny_eqBool_int ?_)
    by_cases e:m = k
    ·rw [show (m == k) = true by simpa using e]
     have h':O3 xs ys = some c:=by simpa [O3,e] using h
     exact kat_yes (aY xs ys us vs (i + 1) c tx ty h' hf' q)
    ·rw [show (m == k) = false by simpa using e]
     have h':decide (m < k) = c:=by simpa [O3,e] using h
     refine kat_no (nS ?_)
     rw [h']; exact q
   | _=>simp [O3] at h
  | ref m =>
   cases y with
   | ref k =>
    cases rx
    cases ry
    by_cases e:m = k
    ·subst e
     have h':O3 xs ys = some c:=by simpa [O3] using h
     exact kat_cons (SeqAt.EqAt.same (.ref m) prog w _ _ (kat_yes (aY xs ys us vs (i + 1) c tx ty h' hf' q)))
    ·simp [O3,e] at h
   | _=>simp [O3] at h
  | _=>cases y <;> simp [O3] at h
theorem du {a:Addr} {vs:List Value} {n:Nat} {r:Nat → Int} {P:PySem.Fin → Shared → Prop} (ho:s.heap.get? a = some (seqObj "list" vs.toArray n)) (h64:vs.length < 64)
  (hk:∀ (h':Heap),(∀ b o,b ≠ a → s.heap.get? b = some o → h'.get? b = some o) → 2 ≤ vs.length → ∀ Q':SortKind → Shared → Prop,Q' (tuples' true) { s with heap:=h' } → wpAny (model prog w) A (keyKind' vs.toArray) Q' E { s with heap:=h' })
  (hc:∀ (h':Heap),(∀ b o,b ≠ a → s.heap.get? b = some o → h'.get? b = some o) → ∀ i j,i < vs.length → j < vs.length → ∀ C:Bool → Shared → Prop,C (decide (r i < r j)) { s with heap:=h' } → wpAny (model prog w) A (keyLt' (tuples' true) (vs.getD i Value.none) (vs.getD j Value.none)) C (fun _ _=>False) { s with heap:=h' })
  (h:∀ p:Array Nat,p.Perm (List.range vs.length).toArray → Up r p vs.length → P (.done (.ret .none)) { s with heap:=sortedHeap s.heap a vs (p.toList.map fun i=>vs.getD i Value.none).toArray }) :
  wpAny (model prog w) A (Builtin.«list.sort» ⟨[.ref a],[]⟩) P E s:=by
 have ha:a < s.heap.objs.size:=Heap.lt_size ho
 rw [list_sort_plain]
 refine wpAny_bind (listItems_at ho rfl ?_)
 refine wpAny_bind (listUpdate_at ho rfl ?_ (by rw [List.size_toArray,sizeLine_eq]; lia) (Nat.zero_le _))
 obtain ⟨e1,ho1⟩:∃ e1,(s.heap.update a (Obj.mapSeq fun _=>(#[]:Array Value))).get? a = some (seqObj "list" #[] e1):=⟨_,get?_update_seq ho fun _=>#[]⟩
 refine wpAny_bind (seqEpoch_at ho1 rfl ?_)
 refine wpAny_bind (wpAny_newTuple ?_ (by show vs.length ≤ _; rw [sizeLine_eq]; lia))
 refine wpAny_bind (wpAny_newList ?_ (Nat.zero_le _))
 refine wpAny_holding ?_
 have keep:∀ b o,b ≠ a → s.heap.get? b = some o → (((s.heap.update a (Obj.mapSeq fun _=>(#[]:Array Value))).push (seqObj "tuple" vs.toArray 0)).push (seqObj "list" #[] 0)).get? b = some o:=fun b o hb q =>
  Heap.get?_push_of_some _ (Heap.get?_push_of_some _ ((Heap.get?_update_other _ _ (Ne.symm hb)).trans q))
 have ho6:(((s.heap.update a (Obj.mapSeq fun _=>(#[]:Array Value))).push (seqObj "tuple" vs.toArray 0)).push (seqObj "list" #[] 0)).get? a = some (seqObj "list" #[] e1):=Heap.get?_push_of_some _ (Heap.get?_push_of_some _ ho1)
 show wpAny (model prog w) A _ P E { s with heap:=((s.heap.update a (Obj.mapSeq fun _=>(#[]:Array Value))).push (seqObj "tuple" vs.toArray 0)).push (seqObj "list" #[] 0) }
 dsimp only
 by_cases h2:vs.toArray.size < 2
 ·rw [if_pos h2,if_pos h2]
  refine wpAny_bind (wpAny_pure ?_)
  rw [StateT.run_pure]
  refine wpAny_bind (wpAny_pure ?_)
  dsimp only
  refine wpAny_bind (seqEpoch_at ho6 rfl ?_)
  have eo:(arrOf (SortSt.mk' general' (vs.toArray.zip vs.toArray) #[] 7 none)).map (·.2) = (((List.range vs.length).toArray.toList).map fun i=>vs.getD i Value.none).toArray:=by
   have e3:((List.range vs.length).toArray.toList.map fun i=>vs.getD i Value.none) = vs:=by
    apply List.ext_getElem
    ·simp
    ·intro i q1 q2
     simp [List.getD,q2]
   rw [e3]
   show (vs.toArray.zip vs.toArray).map (·.2) = vs.toArray
   apply Array.ext
   ·simp
   ·intro i q1 q2
    simp
  refine wpAny_bind (listUpdate_at ho6 rfl ?_ (Nat.zero_le _) (by rw [eo,List.size_toArray,List.length_map]; simp; rw [sizeLine_eq]; lia))
  simp only [bne_self_eq_false,Bool.false_eq_true,if_false]
  refine wpAny_pure ?_
  rw [eo]
  refine h (List.range vs.length).toArray (Array.Perm.refl _) fun i hi hb=>?_
  rw [List.size_toArray] at h2
  lia
 ·rw [if_neg h2,if_neg h2]
  rw [List.size_toArray] at h2
  refine wpAny_bind (hk _ keep (by lia) _ ?_)
  have run:=kat_run (E:=E) (κ:=tuples' true) (ks:=vs) (vs:=vs) (prog:=prog) (w:=w) (A:=A) (Q:=fun st' s'=>s' = { s with heap:=((s.heap.update a (Obj.mapSeq fun _=>(#[]:Array Value))).push (seqObj "tuple" vs.toArray 0)).push (seqObj "list" #[] 0) } ∧ failedOf st' = none ∧ ∃ p:Array Nat,p.Perm (List.range vs.length).toArray ∧ Up r p vs.length ∧ arrOf st' = p.map (kas_item (vs.toArray.zip vs.toArray)))
   (G:=fun p s'=>s' = { s with heap:=((s.heap.update a (Obj.mapSeq fun _=>(#[]:Array Value))).push (seqObj "tuple" vs.toArray 0)).push (seqObj "list" #[] 0) } ∧ p.Perm (List.range vs.length).toArray ∧ Up r p vs.length) rfl (by lia) h64 (fun p st' s' a1 a2 a3 ⟨b1,b2,b3⟩=>⟨b1,a3,p,b2,b3,a2⟩)
   (oP (J:=fun s'=>s' = { s with heap:=((s.heap.update a (Obj.mapSeq fun _=>(#[]:Array Value))).push (seqObj "tuple" vs.toArray 0)).push (seqObj "list" #[] 0) }) (lt:=ltR r) (n:=vs.length) (fun i j C s' hi hj hJ q=>by
    subst hJ
    exact hc _ keep i j hi hj C (q _ rfl)) _ _ _ (jH (by lia)) rfl fun s' hJ=>⟨hJ,mU (by lia)⟩)
  refine wpAny_bind (wpAny_mono run ?_ fun _ _ e=>e)
  rintro ⟨⟨⟩,st'⟩ s' ⟨rfl,hf,p,pm,up,har⟩
  dsimp only
  have hout:=kat_snds (ks:=vs) (vs:=vs) rfl har
  have hsz:(p.toList.map fun i=>vs.getD i Value.none).toArray.size = vs.length:=by rw [List.size_toArray,List.length_map,Array.length_toList,pm.size_eq]; simp
  rw [hout]
  refine wpAny_bind (seqEpoch_at ho6 rfl ?_)
  refine wpAny_bind (listUpdate_at ho6 rfl ?_ (Nat.zero_le _) (by rw [hsz,sizeLine_eq]; lia))
  rw [hf]
  simp only [bne_self_eq_false,Bool.false_eq_true,if_false]
  exact wpAny_pure (h p pm up)
theorem jp {l:Addr} {vs:List Value} {r:Nat → Int} {Q:Value → Shared → Prop} (hl:s.heap.IsList l vs.toArray) (h64:vs.length < 64)
  (hk:∀ (A:Around) (E:Value → Shared → Prop) (h':Heap),(∀ b o,s.heap.get? b = some o → h'.get? b = some o) → 2 ≤ vs.length → ∀ Q':SortKind → Shared → Prop,Q' (tuples' true) { s with heap:=h' } → wpAny (model prog w) A (keyKind' vs.toArray) Q' E { s with heap:=h' })
  (hc:∀ (A:Around) (h':Heap),(∀ b o,s.heap.get? b = some o → h'.get? b = some o) → ∀ i j,i < vs.length → j < vs.length → ∀ C:Bool → Shared → Prop,C (decide (r i < r j)) { s with heap:=h' } → wpAny (model prog w) A (keyLt' (tuples' true) (vs.getD i Value.none) (vs.getD j Value.none)) C (fun _ _=>False) { s with heap:=h' })
  (h:∀ (p:Array Nat),p.Perm (List.range vs.length).toArray → Up r p vs.length → Q (.ref (s.heap.objs.size + 1)) { s with heap:=sortedAll s.heap vs (p.toList.map fun i=>vs.getD i Value.none).toArray }) :
  wpAny (model prog w) A (call (.builtin "sorted") [.ref l]) Q E s:=by
 refine Calls.call_function_entry kind_sorted plain_sorted entry_sorted (args_sorted1 _) ?_
 unfold Builtin.«sorted»
 refine wpAny_bind (m:=checkCount "sorted" 1 1 _) (wpAny_pure ?_)
 refine wpAny_bind (collect_list hl ?_ (by rw [sizeLine_eq]; lia))
 refine wpAny_bind (wpAny_newList ?_ (by rw [sizeLine_eq]; lia))
 have sz:((s.heap.push (seqObj "list" #[] 0)).update s.heap.objs.size (Obj.mapSeq (· ++ vs.toArray))).objs.size = s.heap.objs.size + 1:=by rw [Heap.size_update,size_push']
 have hoL:(((s.heap.push (seqObj "list" #[] 0)).update s.heap.objs.size (Obj.mapSeq (· ++ vs.toArray))).push (seqObj "list" vs.toArray 0)).get? (s.heap.objs.size + 1) = some (seqObj "list" vs.toArray 0):=by
  rw [← sz]; exact Heap.get?_push_size _ rfl
 have keep:∀ b o,s.heap.get? b = some o → (((s.heap.push (seqObj "list" #[] 0)).update s.heap.objs.size (Obj.mapSeq (· ++ vs.toArray))).push (seqObj "list" vs.toArray 0)).get? b = some o:=fun b o q =>
  Heap.get?_push_of_some _ ((Heap.get?_update_other _ _ (Nat.ne_of_gt (Heap.lt_size q))).trans (Heap.get?_push_of_some _ q))
 show wpAny _ _ _ _ _ { s with heap:=((s.heap.push (seqObj "list" #[] 0)).update s.heap.objs.size (Obj.mapSeq (· ++ vs.toArray))).push (seqObj "list" vs.toArray 0) }
 rw [sz]
 refine wpAny_bind (wpAny_holding (wpAny_call_entry slot_list_sort ⟨_,hoL,rfl⟩ entry_list_sort (du (r:=r) (s:={ s with heap:=((s.heap.push (seqObj "list" #[] 0)).update s.heap.objs.size (Obj.mapSeq (· ++ vs.toArray))).push (seqObj "list" vs.toArray 0) }) hoL h64
  (fun h' kp h2 Q' q=>hk _ _ h' (fun b o e=>kp b o (Nat.ne_of_lt (Nat.lt_succ_of_lt (Heap.lt_size e))) (keep b o e)) h2 Q' q)
  (fun h' kp i j hi hj C q=>hc _ h' (fun b o e=>kp b o (Nat.ne_of_lt (Nat.lt_succ_of_lt (Heap.lt_size e))) (keep b o e)) i j hi hj C q) fun p pm up=>⟨_,rfl,?_⟩) (args_list_sort _)))
 exact wpAny_pure ⟨_,rfl,h p pm up⟩
end
section
variable {X:Cx}
def V7 (K:PySem.W.Frag) (H:Hp) (as:List Addr) (its:List (List V)):Prop:=Paired (fun a xs=>SqT K H a xs ∧ ∃ i r,xs = V.int i :: r) as its
theorem eu {K:PySem.W.Frag} {H:Hp} {as:List Addr} {its:List (List V)} (h:V7 K H as its):∀ (i:Nat),i < as.length → ∃ a xs,as[i]? = some a ∧ its[i]? = some xs ∧ SqT K H a xs ∧ ∃ j r,xs = V.int j :: r:=fun i hi=>by
 have e:as[i]? = some as[i]:=List.getElem?_eq_getElem hi
 obtain ⟨d,e2,q⟩:=m9 h i _ e
 exact ⟨_,d,e,e2,q.1,q.2⟩
theorem O9:A4 X (.builtin "sorted") (fun xs H Q=>∃ (p:Addr) (as:List Addr) (its:List (List V)) (r:Nat → Int),xs = [.ref p] ∧ SqL X.K H p (as.map V.ref) ∧ V7 X.K H as its ∧ as.length < 64 ∧
  (∀ i j x y,its[i]? = some x → its[j]? = some y → O3 x y = some (decide (r i < r j))) ∧ ∀ q:Array Nat,q.Perm (List.range as.length).toArray → Up r q as.length → ∀ l,H l = none → Q (.ref l) (upd H l (.lst ((q.toList.map fun i=>as.getD i 0).map V.ref)))):=by
 intro pins s σ H xs us Q I r0 h
 obtain ⟨p,as,its,r,rfl,hq,ht,h64,hcmp,q⟩:=h
 obtain ⟨u,rfl,rx⟩:=U8 r0
 cases rx
 obtain ⟨vs,r',pl,hz⟩:=I.list hq
 have evs:vs = as.map Value.ref:=by
  have go:∀ (as:List Addr) (vs:List Value),n6 (as.map V.ref) vs → vs = as.map Value.ref:=by
   intro as
   induction as with
   | nil=>intro vs r; cases r; rfl
   | cons a t ih =>
    intro vs r
    rw [List.map_cons] at r
    cases r with
    | cons r1 r2=>rw [show _ = Value.ref a from r1,ih _ r2]; rfl
  exact go as vs r'
 subst evs
 have hl:(as.map Value.ref).length = as.length:=List.length_map _
 have hget:∀ i a,as[i]? = some a → (as.map Value.ref).getD i Value.none = .ref a:=fun i a e=>by
  rw [List.getD,List.getElem?_map,e]; rfl
 have tl:=Paired.length ht
 refine jp (r:=r) pl.isList (by rw [hl]; exact h64) (fun A E h' kp h2 Q' q'=>?_) (fun A h' kp i j hi hj C q'=>?_) fun pq pm up=>?_
 ·-- the kind
  have I':Inv X pins σ H { s with heap:=h' }:=I.kept (t':=s.toks) kp
  have go:∀ (as:List Addr) (its:List (List V)),V7 X.K H as its → ∃ fs:List Value,KatTups h' (as.map Value.ref) fs ∧ (∀ v ∈ fs,∃ i t,v = .int i t) ∧ fs.length = as.length:=by
   intro as its hT
   unfold V7 at hT
   induction hT with
   | nil=>exact ⟨[],trivial,fun v hv=>absurd hv (by simp),rfl⟩
   | @cons a xs as its hx t ih =>
    obtain ⟨fs,k1,k2,k3⟩:=ih
    obtain ⟨hS,i,r,rfl⟩:=hx
    obtain ⟨us,ru,pu,_⟩:=I'.tuple hS
    cases ru with
    | @cons _ u _ us r1 r2 =>
     obtain ⟨tk,rfl⟩:=r1
     obtain ⟨o,e1,e2,n,e3⟩:=pu
     refine ⟨.int i tk :: fs,KatTups.cons e1 e2 e3 (by simp) k1,fun v hv=>?_,by rw [List.length_cons,List.length_cons,k3]⟩
     rcases List.mem_cons.mp hv with rfl | hv
     ·exact ⟨i,tk,rfl⟩
     ·exact k2 v hv
  obtain ⟨fs,k1,k2,k3⟩:=go as its ht
  refine kat_kind (T:=.type "int") k1 (by rw [hl] at h2; lia) (fun v hv=>?_) (by decide) q'
  obtain ⟨i,tk,rfl⟩:=k2 v hv
  exact .now
 ·-- a comparison
  have I':Inv X pins σ H { s with heap:=h' }:=I.kept (t':=s.toks) kp
  rw [hl] at hi hj
  obtain ⟨a,x,ea,ex,hS,_⟩:=eu ht i hi
  obtain ⟨b,y,eb,ey,hS',_⟩:=eu ht j hj
  rw [hget i a ea,hget j b eb]
  obtain ⟨us,ru,⟨o,e1,e2,n,e3⟩,_⟩:=I'.tuple hS
  obtain ⟨us',ru',⟨o',e1',e2',n',e3'⟩,_⟩:=I'.tuple hS'
  refine kat_lt e1 e3 e1' e3' ?_
  exact aY x y us us' 0 _ (by simpa using ru) (by simpa using ru') (hcmp i j x y ex ey) (by simp) q'
 ·have sz:(pq.toList.map fun i=>(as.map Value.ref).getD i Value.none) = (pq.toList.map fun i=>as.getD i 0).map Value.ref:=by
   rw [List.map_map]
   apply List.map_congr_left
   intro i hi
   have hi':i < as.length:=by
    have:=(Array.Perm.mem_iff pm (a:=i)).mp (by simpa using hi)
    rw [hl] at this
    simpa using this
   show _ = Value.ref (as.getD i 0)
   rw [hget i as[i] (List.getElem?_eq_getElem hi')]
   simp [List.getD,hi']
  rw [sz]
  rw [hl] at pm up
  obtain ⟨e,he⟩:=sortedAll_at s.heap (as.map Value.ref) ((pq.toList.map fun i=>as.getD i 0).map Value.ref).toArray
  have vr:∀ bs:List Addr,n6 (bs.map V.ref) (bs.map Value.ref):=fun bs=>by
   induction bs with
   | nil=>exact .nil
   | cons b t ih=>exact .cons rfl ih
  have hlen:((pq.toList.map fun i=>as.getD i 0).map V.ref).length ≤ sizeLine:=by
   rw [List.length_map,List.length_map,Array.length_toList,pm.size_eq]
   exact Nat.le_of_lt (B5 (by simp; lia))
  exact ⟨.ref (s.heap.objs.size + 1),_,I.laid (t':=s.toks) (o:=.lst ((pq.toList.map fun i=>as.getD i 0).map V.ref)) (fun b o e=>sortedAll_old e) (Nat.le_succ _) ⟨hlen,_,e,vr _,by simpa [seqObj] using he⟩,rfl,q pq pm up _ (I.hok.fresh (Nat.le_succ _))⟩
end
end L2
namespace L2
open PySem PySem.Spec PyProof.Rows
section
variable {X:Cx} {x y z w:Str} {i j k l n:Nat} {px py pz pw pt:Pos}
structure Nm (X:Cx) (i:Nat) (x:Str):Prop where
 at_:X.N[i]? = some x
 loc:Loc X.env.scope x
 fn:X.fn x = true ∨ X.env.scope.names.lookup x = some .local
theorem Nm.pg (h:Nm X i x) (nd:X.N.Nodup):PG X (.Name x px) (o8 i):=m6 nd h.at_ h.loc h.fn
theorem pg2 (hc:X.calm = true) (nd:X.N.Nodup) (a:Nm X i x) (b:Nm X j y):PG X (.Tuple [.Name x px,.Name y py] n pt) (qp X.K 2 (dR (o8 i) (dR (o8 j) pQ))) :=
 qr (X:=X) (n:=2) hc (fC (X:=X) (a.pg nd) (fC (X:=X) (b.pg nd) og))
end
end L2
namespace L2
open PySem PySem.Spec PyProof.Rows
section
variable {es:List Expr} {env:Env} {c:Const} {i:Nat} {p:Pos}
theorem m7:starEach (.Constant c i p :: es) env = (false,eval (.Constant c i p) env) :: starEach es env:=by rw [starEach]; intro a b h; cases h
theorem b8 {x:Str}:starEach (.Name x p :: es) env = (false,eval (.Name x p) env) :: starEach es env:=by rw [starEach]; intro a b h; cases h
theorem w6 {f:Expr} {as:List Expr} {ks:List Keyword}:starEach (.Call f as ks p :: es) env = (false,eval (.Call f as ks p) env) :: starEach es env:=by rw [starEach]; intro a b h; cases h
theorem r6 {a b:Expr} {o:Operator}:starEach (.BinOp a o b p :: es) env = (false,eval (.BinOp a o b p) env) :: starEach es env:=by rw [starEach]; intro a b h; cases h
theorem oW {a:Expr} {o:List CmpOp} {b:List Expr}:starEach (.Compare a o b p :: es) env = (false,eval (.Compare a o b p) env) :: starEach es env:=by rw [starEach]; intro a b h; cases h
theorem m5 {a b:Expr}:starEach (.Subscript a b p :: es) env = (false,eval (.Subscript a b p) env) :: starEach es env:=by rw [starEach]; intro a b h; cases h
theorem S5 {a:List Expr}:starEach (.Tuple a i p :: es) env = (false,eval (.Tuple a i p) env) :: starEach es env:=by rw [starEach]; intro a b h; cases h
theorem iZ {a:List (Option Expr)} {b:List Expr}:starEach (.Dict a b p :: es) env = (false,eval (.Dict a b p) env) :: starEach es env:=by rw [starEach]; intro a b h; cases h
theorem M0 {a:Expr} {g:List Comprehension} {s:Scope}:starEach (.ListComp a g s p :: es) env = (false,eval (.ListComp a g s p) env) :: starEach es env:=by rw [starEach]; intro a b h; cases h
theorem nU {a:Expr} {x:Str}:starEach (.Attribute a x p :: es) env = (false,eval (.Attribute a x p) env) :: starEach es env:=by rw [starEach]; intro a b h; cases h
end
section
variable {X:Cx}
theorem p9 (K:PySem.W.Frag) (h:X.K = K:=by rfl):IxR X (qV K):=h ▸ nV
theorem d8 (K:PySem.W.Frag) (h:X.K = K:=by rfl):IxR X (mG K):=h ▸ pK
theorem pW (K:PySem.W.Frag) (h:X.K = K:=by rfl):OpR X (compareOp .In) (rIn K false):=h ▸ jr
def ir (K:PySem.W.Frag):List V → Hp → VK → Prop:=fun xs H Q=>∃ p ys,xs = [.ref p] ∧ (SqL K H p ys ∨ SqT K H p ys) ∧ Q (.int ys.length) H
theorem u7 (K:PySem.W.Frag) (h:X.K = K:=by rfl):A4 X (.builtin "len") (ir K):=h ▸ dj
def nB (K:PySem.W.Frag):List V → Hp → VK → Prop:=fun xs H Q=>∃ p ys,xs = [.ref p] ∧ (SqL K H p ys ∨ SqT K H p ys) ∧ ∀ l,H l = none → Q (.ref l) (upd H l (.lst ys))
theorem gR (K:PySem.W.Frag) (h:X.K = K:=by rfl):A4 X (.type "list") (nB K):=h ▸ dG
def lr (K:PySem.W.Frag):List V → Hp → VK → Prop:=fun xs H Q=>∃ p ys,xs = [.ref p] ∧ ((SqL K H p ys ∧ ∀ l,H l = none → Q (.ref l) (upd H l (.tup ys))) ∨ (SqT K H p ys ∧ Q (.ref p) H))
theorem S9 (K:PySem.W.Frag) (h:X.K = K:=by rfl):A4 X (.type "tuple") (lr K):=h ▸ bL
def mR (K:PySem.W.Frag):List V → Hp → VK → Prop:=fun xs H Q=>∃ v T t b,xs = [v,.ty T] ∧ O6 K H v t ∧ PySem.W.kitOne K t (.type T) = some b ∧ Q (.bl b) H
theorem u4 (K:PySem.W.Frag) (h:X.K = K:=by rfl):A4 X (.builtin "isinstance") (mR K):=h ▸ fF
def rb (K:PySem.W.Frag):List V → Hp → VK → Prop:=fun xs H Q=>∃ (p:Addr) (ns:List Int),xs = [.ref p] ∧ SqL K H p (ns.map V.int) ∧ Q (.int ns.sum) H
theorem jS (K:PySem.W.Frag) (hc:X.calm = true) (h:X.K = K:=by rfl):A4 X (.builtin "sum") (rb K):=h ▸ bN hc
def pX (P:Program) (w:World) (l:Addr) (ns:List Int):HO:=.ext fun h=>M3 (intKind P w) h l (fun k=>decide (k ∈ ns)) (B1 ns).length
def oF (K:PySem.W.Frag) (P:Program) (w:World):List V → Hp → VK → Prop:=fun xs H Q=>∃ (p:Addr) (ns:List Int),xs = [.ref p] ∧ SqL K H p (ns.map V.int) ∧ ns.length < 4000 ∧ ∀ l,H l = none → Q (.ref l) (upd H l (pX P w l ns))
theorem Z7 (K:PySem.W.Frag) (P:Program) (w:World) (hc:X.calm = true) (h:X.K = K:=by rfl) (hP:X.prog = P:=by rfl) (hw:X.w = w:=by rfl):A4 X (.type "set") (oF K P w):=by
 subst h hP hw
 exact bU hc
def dX (P:Program) (w:World):List V → Hp → VK → Prop:=fun xs H Q=>∃ (p:Addr) (ns:List Int),xs = [.ref p] ∧ H p = some (pX P w p ns) ∧ ns.length < 64 ∧ ∀ l,H l = none → Q (.ref l) (upd H l (.lst ((B1 ns).map V.int)))
theorem O2 (P:Program) (w:World) (hc:X.calm = true) (hP:X.prog = P:=by rfl) (hw:X.w = w:=by rfl):A4 X (.builtin "sorted") (dX P w):=by
 subst hP hw
 exact ar hc
def dP (K:PySem.W.Frag):List V → Hp → VK → Prop:=fun xs H Q=>∃ (p:Addr) (as:List Addr) (its:List (List V)) (r:Nat → Int),xs = [.ref p] ∧ SqL K H p (as.map V.ref) ∧ V7 K H as its ∧ as.length < 64 ∧
  (∀ i j x y,its[i]? = some x → its[j]? = some y → O3 x y = some (decide (r i < r j))) ∧ ∀ q:Array Nat,q.Perm (List.range as.length).toArray → Up r q as.length → ∀ l,H l = none → Q (.ref l) (upd H l (.lst ((q.toList.map fun i=>as.getD i 0).map V.ref)))
theorem bQ (K:PySem.W.Frag) (h:X.K = K:=by rfl):A4 X (.builtin "sorted") (dP K):=h ▸ O9
def rH (K:PySem.W.Frag) (ta:TE):TT:=fun σ H Q=>ta σ H fun x H'=>∃ k,pA K x H' k ∧ Q k H'
theorem p7 (K:PySem.W.Frag) {a:Expr} {ta:TE} (ha:PE X a ta) (he:∀ whole,isTrue a X.env whole = (do let v ← whole; standAt a.pos; holding [v] (truthy v))) (h:X.K = K:=by rfl):PT X a (rH K ta):=h ▸ ly ha he
theorem o6 (K:PySem.W.Frag) {tg l:Expr} {tl:TE} (hl:PE X l tl) (h:X.K = K:=by rfl):PI X tg l (oA K tl):=h ▸ mF hl
theorem iH (K:PySem.W.Frag) {tg l:Expr} {tl:TE} (hl:PE X l tl) (h:X.K = K:=by rfl):PI X tg l (rm K tl):=h ▸ qa hl
theorem mO (b:Bool) (K:PySem.W.Frag) {es:List Expr} {kk:Nat} {tpos:Pos} {e1 e2:Expr} {ta:TA} {p pos:Pos} (hg:Gl X "zip") (hm:X.mg "zip" = none) (ha:PA X [e1,e2] ta) (h:X.K = K:=by rfl) (hs:starEach [e1,e2] X.env = [(false,eval e1 X.env),(false,eval e2 X.env)]:=by rfl) (hs2:starEach [e2] X.env = [(false,eval e2 X.env)]:=by rfl) :
  PI X (.Tuple es kk tpos) (.Call (.Name "zip" p) [e1,e2] [] pos) (qL b K ta):=h ▸ pR hg hm ha hs hs2
variable {x y z w:Str} {i j k l n:Nat} {px py pz pw pt:Pos}
theorem om (K:PySem.W.Frag) (hc:X.calm = true) (nd:X.N.Nodup) (a:Nm X i x) (b:Nm X j y) (h:X.K = K:=by rfl):PG X (.Tuple [.Name x px,.Name y py] n pt) (qp K 2 (dR (o8 i) (dR (o8 j) pQ))):=h ▸ pg2 hc nd a b
end
section
variable {X:Cx} {o e:Expr} {es:List Expr} {to:TE} {t:TA} {name:Str} {apos cpos:Pos} {T id:String} {r:V → List V → Hp → VK → Prop}
theorem N3 (K:PySem.W.Frag) (pa:PlainAttrs T) (slot:Slot T name id) (hty:typeOf (.builtin id) = pure (.type "method_descriptor")) (hm:MtR X id r) (ho:PE X o to) (ha:PA X (e :: es) t) (h:X.K = K:=by rfl)
  (hbase:attributeBase o name X.env (eval o X.env) = eval o X.env:=by rfl)
  (hfew:((backTo cpos (starEach (e :: es) X.env)).all (fun x=>!x.1) && (backToKw cpos (keywordEach [] X.env)).all (fun x=>x.1.isSome)
   && decide ((e :: es).length + ([]:List Keyword).length + (if ([]:List Keyword).isEmpty then 0 else 1) < 30)) = true:=by rfl)
  (hline:(apos.endLine == cpos.line) = true:=by rfl) (hs:starEach (e :: es) X.env = (false,eval e X.env) :: starEach es X.env:=by rfl) (hplain:(backTo cpos (starEach es X.env)).any (·.1) = false:=by rfl) :
  PE X (.Call (.Attribute o name apos) (e :: es) [] cpos) (tBM K T r to t):=h ▸ qI pa slot hty hm ho ha hbase hfew hline hs hplain
end
end L2
namespace HT
open PySem PySem.Spec PyProof.Rows
section
variable {prog:Program} {w:World} {A:Around} {E:Value → Shared → Prop} {s:Shared}
theorem cat_tup0 {t b:Addr} {vs ws:List Value} {Q:Value → Shared → Prop} (ht:IsTup s.heap t vs.toArray) (hb:IsTup s.heap b ws.toArray) (hv:vs = []) (h:Q (.ref b) s):wpAny (model prog w) A (binaryOp .Add (.ref t) (.ref b)) Q E s:=by
 obtain ⟨⟨cls,dd,data,sl⟩,ho,hc,n,hd⟩:=id ht
 obtain ⟨⟨cls2,dd2,data2,sl2⟩,ho2,hc2,n2,hd2⟩:=id hb
 simp only at hc hd hc2 hd2
 subst hc hd hc2 hd2
 exact concat_meets ⟨_,ho,rfl⟩ ⟨_,ho2,rfl⟩ noFill_tuple_add seq_tuple_add PySem.F.slot_tuple_add PySem.F.entry_tuple_add (PySem.F.args_tuple_add_2 _ _)
  (tuple_addW0 t b vs.toArray ws.toArray n n2 dd dd2 sl sl2 (by simp [hv])) ⟨ho,ho2,h⟩
end
end HT
namespace L2
open PySem PySem.Spec PyProof.Rows
section
variable {X:Cx}
def qO:R2:=fun x y H Q=>∃ a b xs ys,x = .ref a ∧ y = .ref b ∧ H a = some (.tup xs) ∧ H b = some (.tup ys) ∧ xs.length + ys.length ≤ sizeLine ∧ ∀ (p:Addr) (H':Hp),j7 H H' → H' p = some (.tup (xs ++ ys)) → Q (.ref p) H'
theorem ip:OpR X (binaryOp .Add) qO:=by
 intro pins s σ H x y v u Q I rx ry h
 obtain ⟨a,b,xs,ys,rfl,rfl,ha,hb,hz,q⟩:=h
 by_cases hx:xs = []
 ·cases rx
  cases ry
  obtain ⟨its,r1,p1,_⟩:=I.tuple (SqT.of ha)
  obtain ⟨its2,r2,p2,_⟩:=I.tuple (SqT.of hb)
  exact HT.cat_tup0 p1 p2 (r1.nil_iff.mpr hx) ⟨.ref b,H,I,rfl,q _ _ (j7.refl H) (by rw [hx,List.nil_append]; exact hb)⟩
 ·exact nn pins s σ H _ _ v u Q I rx ry ⟨a,b,xs,ys,rfl,rfl,SqT.of ha,SqT.of hb,hx,hz,fun hy=>q _ _ (j7.refl H) (by rw [hy,List.append_nil]; exact ha),fun _ p hp=>q _ _ (fun b u q=>by rw [g7 (i4 q hp)]; exact q) d4⟩
end
end L2
namespace L2
open PySem PySem.Spec PyProof.Rows
def enc:List Int → Int
 | []=>0
 | x :: r=>x * 1000 ^ r.length + enc r
def Few (d:List Int):Prop:=∀ x ∈ d,0 ≤ x ∧ x < 1000
theorem Few.tail {x:Int} {r:List Int} (h:Few (x :: r)):Few r:=fun y hy=>h y (List.mem_cons_of_mem _ hy)
theorem gI:∀ {d:List Int},Few d → 0 ≤ enc d ∧ enc d < 1000 ^ d.length
 | [],_=>⟨Int.le_refl _,by decide⟩
 | x :: r,h=>by
  obtain ⟨h1,h2⟩:=gI h.tail
  obtain ⟨g1,g2⟩:=h x (List.mem_cons_self ..)
  have p:(0:Int) < 1000 ^ r.length:=Int.lt_of_le_of_lt h1 h2
  generalize hP:(1000:Int) ^ r.length = P at h2 p
  have e:(1000:Int) ^ (x :: r).length = 1000 * P:=by rw [List.length_cons,Int.pow_succ,hP,Int.mul_comm]
  rw [e]
  show 0 ≤ x * 1000 ^ r.length + enc r ∧ x * 1000 ^ r.length + enc r < 1000 * P
  rw [hP]
  have a1:0 ≤ x * P:=Int.mul_nonneg g1 (Int.le_of_lt p)
  have a2:(x + 1) * P ≤ 1000 * P:=Int.mul_le_mul_of_nonneg_right (by lia) (Int.le_of_lt p)
  rw [Int.add_mul,Int.one_mul] at a2
  lia
theorem fJ {a b:Int} {r r':List Int} (hl:r.length = r'.length) (hr:Few r) (hr':Few r') (h:a < b):enc (a :: r) < enc (b :: r'):=by
 obtain ⟨h1,h2⟩:=gI hr
 obtain ⟨g1,g2⟩:=gI hr'
 show a * 1000 ^ r.length + enc r < b * 1000 ^ r'.length + enc r'
 rw [← hl] at g2 ⊢
 generalize (1000:Int) ^ r.length = P at h2 g2
 have a2:(a + 1) * P ≤ b * P:=Int.mul_le_mul_of_nonneg_right (by lia) (by lia)
 rw [Int.add_mul,Int.one_mul] at a2
 lia
theorem kQ {a:Int} {r r':List Int} (hl:r.length = r'.length):(enc (a :: r) < enc (a :: r') ↔ enc r < enc r') ∧ (enc (a :: r) = enc (a :: r') ↔ enc r = enc r'):=by
 show (a * 1000 ^ r.length + enc r < a * 1000 ^ r'.length + enc r' ↔ _) ∧ (a * 1000 ^ r.length + enc r = a * 1000 ^ r'.length + enc r' ↔ _)
 rw [hl]
 lia
theorem fU:∀ {d d':List Int},d.length = d'.length → Few d → Few d' → O3 (d.map V.int) (d'.map V.int) = some (decide (enc d < enc d'))
 | [],[],_,_,_=>rfl
 | [],_ :: _,h,_,_=>by cases h
 | _ :: _,[],h,_,_=>by cases h
 | a :: r,b :: r',h,f,f'=>by
  have hl:r.length = r'.length:=by simpa using h
  show (if a = b then O3 (r.map V.int) (r'.map V.int) else some (decide (a < b))) = _
  by_cases c:a = b
  ·subst c
   rw [if_pos rfl,fU hl f.tail f'.tail,decide_eq_decide.mpr (kQ hl).1]
  ·rw [if_neg c]
   by_cases k:a < b
   ·rw [decide_eq_true k,decide_eq_true (fJ hl f.tail f'.tail k)]
   ·have:=fJ hl.symm f'.tail f.tail (show b < a by lia)
    rw [decide_eq_false k,decide_eq_false (by lia)]
def qb (K:PySem.W.Frag) (H:Hp) (as:List Addr) (ds:List (List Int)):Prop:=Paired (fun a d=>SqT K H a (d.map V.int)) as ds
def fh (K:PySem.W.Frag):List V → Hp → VK → Prop:=fun xs H Q=>∃ (p:Addr) (as:List Addr) (ds:List (List Int)) (n:Nat),xs = [.ref p] ∧ SqL K H p (as.map V.ref) ∧ qb K H as ds ∧ as.length < 64 ∧ 0 < n ∧ (∀ d ∈ ds,d.length = n ∧ Few d) ∧
 ∀ (as':List Addr) (ds':List (List Int)),(∀ R:Addr → List Int → Prop,Paired R as ds → Paired R as' ds') → ds'.Perm ds → ds'.Pairwise (fun a b=>enc a ≤ enc b) → ∀ l,H l = none → Q (.ref l) (upd H l (.lst (as'.map V.ref)))
theorem K0 {α β γ:Type} {R:α → γ → Prop} {f:β → γ}:∀ {as:List α} {ds:List β},Paired (fun a d=>R a (f d)) as ds → Paired R as (ds.map f)
 | _,_,.nil=>.nil
 | _,_,.cons h t=>.cons h (K0 t)
theorem bJ {α β:Type} {R R':α → β → Prop}:∀ {as:List α} {ds:List β},Paired R as ds → (∀ a b,b ∈ ds → R a b → R' a b) → Paired R' as ds
 | _,_,.nil,_=>.nil
 | _,_,.cons h t,hi=>.cons (hi _ _ (List.mem_cons_self ..) h) (bJ t fun a b hb=>hi a b (List.mem_cons_of_mem _ hb))
theorem O4 {X:Cx} (K:PySem.W.Frag) (h:X.K = K:=by rfl):A4 X (.builtin "sorted") (fh K):=by
 subst h
 intro pins s σ H xs us Q I r hh
 obtain ⟨p,as,ds,n,rfl,hq,hd,h64,hn,hok,q⟩:=hh
 have hl:as.length = ds.length:=Paired.length hd
 refine O9 pins s σ H _ us Q I r ⟨p,as,ds.map (fun d=>d.map V.int),fun i=>enc (ds.getD i []),rfl,hq,?_,h64,?_,?_⟩
 ·unfold V7
  refine K0 (bJ hd fun a d hd' hs=>⟨hs,?_⟩)
  obtain ⟨h1,_⟩:=hok d hd'
  cases d with
  | nil=>rw [← h1] at hn; cases hn
  | cons x t=>exact ⟨x,t.map V.int,rfl⟩
 ·intro i j x y hx hy
  rw [List.getElem?_map] at hx hy
  obtain ⟨dx,ex,rfl⟩:=Option.map_eq_some_iff.mp hx
  obtain ⟨dy,ey,rfl⟩:=Option.map_eq_some_iff.mp hy
  obtain ⟨a1,a2⟩:=hok dx (List.mem_of_getElem? ex)
  obtain ⟨b1,b2⟩:=hok dy (List.mem_of_getElem? ey)
  rw [fU (by rw [a1,b1]) a2 b2]
  show _ = some (decide (enc (ds.getD i []) < enc (ds.getD j [])))
  rw [List.getD,List.getD,ex,ey]
  rfl
 ·intro pq pm up l hl0
  rw [hl] at pm up
  obtain ⟨s1,s2⟩:=fi (xs:=ds) pm up [] enc fun i _=>rfl
  refine q _ (pq.toList.map fun i=>ds.getD i []) (fun R hR=>?_) s1 s2 l hl0
  have hin:∀ i ∈ pq.toList,i < ds.length:=fun i hi=>by
   have:=(Array.Perm.mem_iff pm (a:=i)).mp (by simpa using hi)
   simpa using this
  generalize pq.toList = is at hin
  induction is with
  | nil=>exact .nil
  | cons i t ih =>
   refine .cons ?_ (ih fun j hj=>hin j (List.mem_cons_of_mem _ hj))
   have hi:=hin i (List.mem_cons_self ..)
   have ea:as[i]? = some (as[i]'(by lia)):=List.getElem?_eq_getElem (by lia)
   obtain ⟨d,e2,hs⟩:=m9 hR i _ ea
   show R (as.getD i 0) (ds.getD i [])
   rw [show as.getD i 0 = as[i]'(by lia) by rw [List.getD,ea]; rfl,show ds.getD i [] = d by rw [List.getD,e2]; rfl]
   exact hs
end L2
namespace L2
open PySem PySem.Spec PyProof.Rows
theorem x9 {X:Cx}:MtR X "list.append" iA:=jx
end L2
namespace L2
open PySem PySem.Spec PyProof.Rows
def qJ:Hp → V → Key → Prop:=fun _ x k=>x = kV k
section
variable {X:Cx}
theorem pf:eO X 0 qJ where
 eq:=fun H x y dx dy hx hy A pins s σ u v I ru rv hu=>by
  subst hx hy
  rcases dx with i | i <;> rcases dy with j | j
  ·obtain ⟨t,rfl⟩:=ru
   obtain ⟨t',rfl⟩:=rv
   have:=SeqAt.EqAt.int_int (A:=A) (s:=s) i t j t'
   rw [show decide ((Sum.inl i:Key) = Sum.inl j) = (i == j) by rw [Bool.eq_iff_iff]; simp]
   exact this
  ·obtain ⟨t,rfl⟩:=ru
   obtain ⟨t',rfl⟩:=rv
   have:=SeqAt.EqAt.int_str (A:=A) (s:=s) i t j t'
   rw [decide_eq_false (fun z=>nomatch z)]
   exact this
  ·obtain ⟨t,rfl⟩:=ru
   obtain ⟨t',rfl⟩:=rv
   have:=SeqAt.EqAt.str_int (A:=A) (s:=s) i t j t'
   rw [decide_eq_false (fun z=>nomatch z)]
   exact this
  ·obtain ⟨t,rfl⟩:=ru
   obtain ⟨t',rfl⟩:=rv
   have:=SeqAt.EqAt.str_str (A:=A) (s:=s) i t j t'
   rw [show decide ((Sum.inr i:Key) = Sum.inr j) = (i == j) by rw [Bool.eq_iff_iff]; simp]
   exact this
 fn:=fun _ _ _ _ x d d' _ h h'=>by subst h; exact pV h'
def inD (ds:List (List Key)) (d:List Key):Bool:=ds.any fun x=>decide (x = d)
theorem jd {ds:List (List Key)} {d:List Key}:inD ds d = true ↔ d ∈ ds:=by
 unfold inD
 rw [List.any_eq_true]
 constructor
 ·rintro ⟨x,hx,h⟩
  rw [← of_decide_eq_true h]
  exact hx
 ·intro h
  exact ⟨d,h,decide_eq_true rfl⟩
def rR (K:PySem.W.Frag) (neg:Bool):R2:=fun x y H Q=>∃ (p b:Addr) (as:List Addr) (d:List Key) (ds:List (List Key)),x = .ref b ∧ y = .ref p ∧ SqL K H p (as.map V.ref) ∧ SqT K H b (d.map kV) ∧ Paired (fun a d=>SqT K H a (d.map kV)) as ds ∧ Q (.bl (if neg then !inD ds d else inD ds d)) H
theorem K6 {H:Hp}:∀ d:List Key,Paired (qJ H) (d.map kV) d
 | []=>.nil
 | _ :: t=>.cons rfl (K6 t)
theorem nE {pins:List (Addr × Obj)} {σ:St} {H:Hp} {s:Shared} {b:Addr} {as:List Addr} {d:List Key} {ds:List (List Key)} {A:Around} (I:Inv X pins σ H s) (hb:SqT X.K H b (d.map kV)) (hp:Paired (fun a d=>SqT X.K H a (d.map kV)) as ds)
  (hu:A.units + 1 < cLine) {its:List Value} (r:n6 (as.map V.ref) its) :
  ∃ e:Value → Bool,(∀ y,y ∈ its.toArray → SeqAt.EqAt A s y (.ref b) (e y)) ∧ its.toArray.any e = inD ds d:=by
 have ep:=oS (X:=X) pf
 have rd:∀ (j:Nat) a,as[j]? = some a → ∃ d',ds[j]? = some d' ∧ SqT X.K H a (d'.map kV):=fun j a h=>m9 hp j a h
 have evs:its = as.map Value.ref:=by
  have go:∀ (as:List Addr) (vs:List Value),n6 (as.map V.ref) vs → vs = as.map Value.ref:=by
   intro as
   induction as with
   | nil=>intro vs r; cases r; rfl
   | cons a t ih =>
    intro vs r
    rw [List.map_cons] at r
    cases r with
    | cons r1 r2=>rw [show _ = Value.ref a from r1,ih _ r2]; rfl
  exact go as its r
 subst evs
 let e:Value → Bool:=fun y=>match y with
  | .ref a=>(List.range as.length).any fun j=>decide (as[j]? = some a) && decide (ds[j]? = some d)
  | _=>false
 have eR:∀ a,e (.ref a) = true ↔ ∃ j:Nat,as[j]? = some a ∧ ds[j]? = some d:=fun a=>by
  show ((List.range as.length).any fun j=>decide (as[j]? = some a) && decide (ds[j]? = some d)) = true ↔ _
  rw [List.any_eq_true]
  constructor
  ·rintro ⟨j,_,h⟩
   rw [Bool.and_eq_true] at h
   exact ⟨j,of_decide_eq_true h.1,of_decide_eq_true h.2⟩
  ·rintro ⟨j,h1,h2⟩
   exact ⟨j,List.mem_range.mpr (List.getElem?_eq_some_iff.mp h1).1,by rw [Bool.and_eq_true]; exact ⟨decide_eq_true h1,decide_eq_true h2⟩⟩
 have key:∀ (j:Nat) a d',as[j]? = some a → ds[j]? = some d' → e (.ref a) = decide (d' = d):=fun j a d' h1 h2=>by
  rw [Bool.eq_iff_iff,eR,decide_eq_true_iff]
  constructor
  ·rintro ⟨k,g1,g2⟩
   obtain ⟨d1,q1,s1⟩:=rd j a h1
   obtain ⟨d2,q2,s2⟩:=rd k a g1
   rw [h2] at q1
   rw [g2] at q2
   cases q1
   cases q2
   exact ep.fn pins s σ H (.ref a) _ _ I ⟨a,_,rfl,s1,K6 _⟩ ⟨a,_,rfl,s2,K6 _⟩
  ·rintro rfl
   exact ⟨j,h1,h2⟩
 refine ⟨e,fun y hy=>?_,?_⟩
 ·have hy':y ∈ as.map Value.ref:=by simpa using hy
  obtain ⟨a,ha,rfl⟩:=List.mem_map.mp hy'
  obtain ⟨j,hj⟩:=List.getElem?_of_mem ha
  obtain ⟨d',q1,s1⟩:=rd j a hj
  rw [key j a d' hj q1]
  exact ep.eq H (.ref a) (.ref b) d' d ⟨a,_,rfl,s1,K6 _⟩ ⟨b,_,rfl,hb,K6 _⟩ A pins s σ (.ref a) (.ref b) I rfl rfl (by lia)
 ·rw [Bool.eq_iff_iff,jd,Array.any_eq_true']
  constructor
  ·rintro ⟨y,hy,h⟩
   have hy':y ∈ as.map Value.ref:=by simpa using hy
   obtain ⟨a,ha,rfl⟩:=List.mem_map.mp hy'
   obtain ⟨j,_,h2⟩:=(eR a).mp h
   exact List.mem_of_getElem? h2
  ·intro h
   obtain ⟨j,hj⟩:=List.getElem?_of_mem h
   have hl:as.length = ds.length:=Paired.length hp
   have hj':=(List.getElem?_eq_some_iff.mp hj).1
   have ea:as[j]? = some (as[j]'(by lia)):=List.getElem?_eq_getElem (by lia)
   exact ⟨.ref (as[j]'(by lia)),by simp,(eR _).mpr ⟨j,ea,hj⟩⟩
theorem gL (K:PySem.W.Frag) (hu:X.A.units + 2 < cLine) (h:X.K = K:=by rfl):OpR X (compareOp .NotIn) (rR K true):=by
 subst h
 intro pins s σ H x y v u Q I rx ry h
 obtain ⟨p,b,as,d,ds,rfl,rfl,hq,hb,hp,q⟩:=h
 cases rx
 cases ry
 obtain ⟨its,r,pl,hz⟩:=I.list hq
 obtain ⟨e,h1,h2⟩:=nE (A:=X.A.in1) I hb hp (by show X.A.units + 1 + 1 < cLine; lia) r
 refine SeqAt.notIn_listAt e pl.isList h1 ⟨.bl _,H,I,rfl,?_⟩
 rw [h2]
 exact q
theorem C3.unitsT {k:Nat} {A:Around} (r:C3 k A):A.units + 2 < cLine:=by have:=r.un; lia
end
end L2
namespace L2
open PySem PySem.Spec PyProof.Rows
section
variable {X:Cx}
def ng (K:PySem.W.Frag):R2:=fun x y H Q=>∃ (a b:Addr) (xs:List V),x = .ref a ∧ y = .ref b ∧ SqL K H a (xs) ∧ SqL K H b xs ∧ (∀ x ∈ xs,∃ c,x = .ref c) ∧ Q (.bl false) H
theorem gm (K:PySem.W.Frag) (hu:X.A.units < cLine) (h:X.K = K:=by rfl):OpR X (compareOp .NotEq) (ng K):=by
 subst h
 intro pins s σ H x y v u Q I rx ry h
 obtain ⟨a,b,xs,rfl,rfl,ha,hb,hr,q⟩:=h
 cases rx
 cases ry
 obtain ⟨us,r1,p1,_⟩:=I.list ha
 obtain ⟨vs,r2,p2,_⟩:=I.list hb
 have e:us = vs:=by
  have go:∀ (xs:List V) (us vs:List Value),(∀ x ∈ xs,∃ c,x = V.ref c) → n6 xs us → n6 xs vs → us = vs:=by
   intro xs
   induction xs with
   | nil=>intro us vs _ r r'; cases r; cases r'; rfl
   | cons x t ih =>
    intro us vs hx r r'
    obtain ⟨c,rfl⟩:=hx x (List.mem_cons_self ..)
    cases r with
    | cons q1 q2 =>
     cases r' with
     | cons q3 q4=>rw [show _ = Value.ref c from q1,show _ = Value.ref c from q3,ih _ _ (fun y hy=>hx y (List.mem_cons_of_mem _ hy)) q2 q4]
  exact go xs us vs hr r1 r2
 subst e
 refine SeqAt.RcNeAt.lists (e:=fun j=>true) p1.isList p2.isList rfl (by lia) (fun j h1 h2=>SeqAt.EqAt.same _) X.prog X.w X.xe _ ?_
 have:((List.range us.toArray.size).all fun _=>true) = true:=by simp
 rw [this]
 exact ⟨.bl false,H,I,rfl,q⟩
theorem nM:PIp X .Add (rI0 fun i j=>.int (i + j)):=mv
end
end L2
namespace L2
open PySem PySem.Spec PyProof.Rows
structure eX (K:PySem.W.Frag) (mg:Str → Option Value) (x:Str) (st:Stmt) (ps:List Str) (dvs:List V):Prop where
 ex:∃ (f:Addr) (fd:FuncData),(∃ (oc:Value) (od:Option Addr) (dV kV doc pm:Value) (an:Option Addr) (cdv ct:Value) (osl:Array (Option Value)),
   fd = PySem.W.fnOf x x (j6 st) (i7 st) (d7 st) dV kV doc pm an cdv ct ∧ K.lookup f = some ⟨oc,od,.func fd,osl⟩ ∧ PySem.W.codeIn K cdv x = true) ∧ PySem.W.keepIn K (.ref f) = true ∧
  (∀ m,m ≤ dvs.length → ∃ ds,n6 (dvs.drop m) ds ∧ R8 K fd ps ds) ∧ mg x = some (.ref f)
structure Y3 (P:Program) (w:World) (K:PySem.W.Frag) (mg:Str → Option Value) (base:Heap) (k:Nat) (x:Str) (ps:List Str) (dvs:List V) (sp:Sp):Prop where
 ex:∃ (f:Addr) (fd:FuncData),X5 P w K mg base CX0 k f fd ps sp ∧ (∀ m,m ≤ dvs.length → ∃ ds,n6 (dvs.drop m) ds ∧ R8 K fd ps ds) ∧ PySem.W.keepIn K (.ref f) = true ∧ mg x = some (.ref f)
section
variable {P:Program} {w:World} {K:PySem.W.Frag} {mg:Str → Option Value} {base:Heap}
theorem eX.ok {x:Str} {st:Stmt} {N ps:List Str} {k:Nat} {dvs:List V} {sp:Sp} (D:eX K mg x st ps dvs) (S:FnScope N ps (d7 st)) (len:∀ vs H Q E,sp vs H Q E → vs.length = ps.length)
  (hbody:∀ (f:Addr) (cdv:Value) (A:Around) (outer:List Env) (s:Shared) (H:Hp) (vs:List V) (Q:VK) (E:XK),C3 k (A.deeper (envOfC x (d7 st) s.heap.objs.size f cdv)) → sp vs H Q E →
   ∃ t,PSs (M6 CX0 P w K mg base N x (d7 st) f cdv A outer s H E).nox (i7 st) t ∧ t { nx:=fun _ H'=>Q .non H',rt:=Q } (start N vs) H):Y3 P w K mg base (k + 1) x ps dvs sp:=by
 obtain ⟨f,fd,⟨oc,od,dV,kV,doc,pm,an,cdv,ct,osl,rfl,lk,hcd⟩,kp,b,m⟩:=D.ex
 refine ⟨f,_,dY lk hcd S len fun A outer s H vs Q E hr hsp=>?_,b,kp,m⟩
 obtain ⟨t,h,q⟩:=hbody f cdv A outer s H vs Q E hr hsp
 exact ⟨t,h.nox,q⟩
theorem Y3.all {x:Str} {ps:List Str} {k:Nat} {dvs:List V} {sp:Sp} (C:Y3 P w K mg base k x ps dvs sp):h9 P w K mg base k x ps sp:=by
 obtain ⟨f,fd,F,b,kp,m⟩:=C.ex
 obtain ⟨ds,hv,hb⟩:=b dvs.length (Nat.le_refl _)
 rw [List.drop_length] at hv
 cases hv
 exact ⟨f,fd,F,hb,kp,m⟩
end
end L2
namespace L2
open PySem PySem.Spec PyProof.Rows
theorem A9 {A u:TS} {D:Y9} {σ:St} {H:Hp} (S:St → Hp → Prop) (h1:∀ R:St → Hp → Prop,(∀ σ' H',S σ' H' → R σ' H') → A { D with nx:=R } σ H) (h2:∀ σ' H',S σ' H' → u D σ' H'):mh A u D σ H:=h1 (u D) h2
end L2
namespace L2
open PySem PySem.Spec PyProof.Rows PyProof PySem.W
section
variable {prog:Program} {w:World} {A:Around} {E:Value → Shared → Prop} {s:Shared} {d:Addr}
theorem dB {K:Type} [DecidableEq K] {knd:KeyKind prog w K} {kvs:List (K × Value)} {ep:Nat} {Q:List Value → Shared → Prop} (hh:A.handled = none) (lo:(d == sysModules) = false) (hm:s.heap.DictAt knd d kvs ep) (hn:kvs.length ≤ sizeLine)
  (hQ:∀ (h':Heap) (tk:Nat) (xs:List Value),xs.length = kvs.length → (∀ (j:Nat) v,xs[j]? = some v → ∃ k x,kvs[j]? = some (k,x) ∧ knd.is k v = true) → s.heap.objs.size < h'.objs.size → (∀ b ob,s.heap.get? b = some ob → h'.get? b = some ob) → Q xs { s with heap:=h',toks:=tk }) :
  wpAny (model prog w) A (collect (.ref d)) Q E s:=by
 have hdl:=hm.lt_size
 unfold collect
 refine wpAny_bind (wpAny_runValue (codeAny_builtin PySem.F.entry_proto_collect ?_))
 rw [Around.under_plainId PySem.F.plain_proto_collect _]
 show wpAny _ A.in1 (newList [] >>= fun l=>again (.builtin "list.__iadd__" ⟨[l,.ref d],[]⟩)) _ _ s
 refine wpAny_bind (wpAny_newObj_type ?_)
 refine wpAny_pure ⟨plainId_quiet PySem.F.plain_list_iadd _,codeAny_builtin PySem.F.entry_list_iadd ?_⟩
 rw [Around.under_plainId PySem.F.plain_list_iadd _]
 have hS:(s.heap.push { cls:=.type "list",data:=.seq ([]:List Value).toArray }).get? s.heap.objs.size = some { cls:=.type "list",data:=.seq #[] }:=Heap.get?_push_size _ rfl
 show wpAny _ A.in1 (Builtin.List.listExtendWith (.ref s.heap.objs.size) (.ref d) (.ref s.heap.objs.size)) _ _ _
 refine kdl_extend (R:=fun r s'=>match r with | .ok (.ret v)=>wpAny (model prog w) A (match v with | .ref a=>(do match (← load a).data with | .seq xs _=>pure xs.toList | _=>unsupported "internal:collect") | _=>unsupported "internal:collect") Q E s' | .ok _=>False | .error e=>E e s')
  (kdl_dict (knd:=knd) (kvs:=kvs) (ep:=ep) lo) hh (hm.push _) _ (Nat.ne_of_gt hdl) (Nat.ne_of_gt hdl) _ 0 hS (fun h' tk acc c keep hS' items=>?_) hn
 show wpAny _ A (load s.heap.objs.size >>= _) _ _ _
 refine wpAny_bind (wpAny_load hS' (wpAny_pure (hQ h' tk acc.toList (by rw [Array.length_toList]; exact items.1) (fun j v e=>items.2 j v (by rw [← Array.getElem?_toList]; exact e)) (Heap.lt_size hS') fun b ob e=>?_)))
 exact keep b ob (Nat.ne_of_lt (Heap.lt_size e)) (Heap.get?_push_of_some _ e)
theorem eL {kvs:List (Key × Value)} {ns:List Int} {ep:Nat} {Q:Value → Shared → Prop} (hh:A.handled = none) (lo:(d == sysModules) = false) (hm:s.heap.DictAt (u9 prog w) d kvs ep) (hk:kvs.map (·.1) = ns.map Sum.inl) (h64:ns.length < 64)
  (h:∀ (l:Addr) (h':Heap) (tk e:Nat) (out:Array Value) (ns':List Int),IntsAre out.toList ns' → ns'.Perm ns → ns'.Pairwise (· ≤ ·) → s.heap.objs.size ≤ l → (∀ b ob,s.heap.get? b = some ob → h'.get? b = some ob) →
   h'.get? l = some (seqObj "list" out e) → Q (.ref l) { s with heap:=h',toks:=tk }):wpAny (model prog w) A (call (.builtin "sorted") [.ref d]) Q E s:=by
 have hl:kvs.length = ns.length:=by
  have:=congrArg List.length hk
  rwa [List.length_map,List.length_map] at this
 refine Calls.call_function_entry kind_sorted plain_sorted entry_sorted (args_sorted1 _) ?_
 unfold Builtin.«sorted»
 refine wpAny_bind (m:=checkCount "sorted" 1 1 _) (wpAny_pure ?_)
 refine wpAny_bind (dB hh lo hm (by rw [hl]; exact Nat.le_trans (Nat.le_of_lt h64) (by decide)) fun h1 tk xs hxl hx big old=>?_)
 have im:IntsAre xs ns:=by
  have go:∀ (xs:List Value) (ns:List Int),xs.length = ns.length → (∀ (j:Nat) v,xs[j]? = some v → ∃ i t,ns[j]? = some i ∧ v = Value.int i t) → IntsAre xs ns:=by
   intro xs
   induction xs with
   | nil =>
    intro ns h _
    cases ns with
    | nil=>exact .nil
    | cons=>cases h
   | cons x xs ih =>
    intro ns h q
    cases ns with
    | nil=>cases h
    | cons n ns =>
     obtain ⟨i,t,e1,e2⟩:=q 0 x rfl
     simp at e1
     subst e1 e2
     exact .cons _ _ (ih ns (by simpa using h) fun j v e=>q (j + 1) v (by simpa using e))
  refine go xs ns (hxl.trans hl) fun j v e=>?_
  obtain ⟨k,x,e1,e2⟩:=hx j v e
  have e3:(kvs.map (·.1))[j]? = some k:=by rw [List.getElem?_map,e1]; rfl
  rw [hk,List.getElem?_map] at e3
  obtain ⟨i,e4,e5⟩:=Option.map_eq_some_iff.mp e3
  subst e5
  rcases w9 (show bt (Sum.inl i) v = true from e2) with ⟨i',t,e6,rfl⟩ | ⟨_,_,e6,_⟩
  ·injection e6 with e6
   subst e6
   exact ⟨i,t,e4,rfl⟩
  ·cases e6
 refine wpAny_bind (wpAny_newList ?_ (by rw [hxl,hl]; exact Nat.le_trans (Nat.le_of_lt h64) (by decide)))
 have hoL:(h1.push (seqObj "list" xs.toArray 0)).get? h1.objs.size = some (seqObj "list" xs.toArray 0):=Heap.get?_push_size _ rfl
 show wpAny _ _ _ _ _ { s with heap:=h1.push (seqObj "list" xs.toArray 0),toks:=tk }
 refine wpAny_bind (wpAny_holding (wpAny_call_entry slot_list_sort ⟨_,hoL,rfl⟩ entry_list_sort (list_sort_tree hoL im (by lia) fun out ns' a1 a2 a3=>⟨_,rfl,?_⟩) (args_list_sort _)))
 obtain ⟨e,he⟩:=sortedHeap_at (out:=out) hoL
 refine wpAny_pure ⟨_,rfl,h h1.objs.size _ tk e out ns' a1 a2 a3 ?_ (fun b ob q=>?_) he⟩
 ·exact Nat.le_of_lt big
 ·have q1:=old b ob q
  have hlt:=Heap.lt_size q1
  rw [sortedHeap_old (Nat.ne_of_lt hlt) (by rw [Heap.size_push]; exact Nat.lt_succ_of_lt hlt)]
  exact Heap.get?_push_of_some _ q1
end
section
variable {X:Cx}
def gb:List V → Hp → VK → Prop:=fun xs H Q=>∃ (p:Addr) (kvs:List (Key × V)) (ns:List Int),xs = [.ref p] ∧ Rd H p (.dK kvs) ∧ kvs.map (·.1) = ns.map Sum.inl ∧ ns.length < 64 ∧ ∀ ns':List Int,ns'.Perm ns → ns'.Pairwise (· ≤ ·) → ∀ l,H l = none → Q (.ref l) (upd H l (.lst (ns'.map V.int)))
theorem bj (hc:X.calm = true):A4 X (.builtin "sorted") gb:=by
 intro pins s σ H xs us Q I r h
 obtain ⟨p,kvs,ns,rfl,rd,hk,h64,q⟩:=h
 obtain ⟨u,rfl,rx⟩:=U8 r
 cases rx
 obtain ⟨_,hs,vs,rel,dd⟩:=ai I.hok rd
 obtain ⟨ep,dd⟩:=dd.dictAt
 have hk':vs.map (·.1) = ns.map Sum.inl:=(KV.keys rel).symm.trans hk
 refine eL (I.ok.hd hc) hs dd hk' h64 fun l h' tk e out ns' a1 a2 a3 hlz kp g=>?_
 have fr:=I.hok.fresh hlz
 have new:p3 X.prog X.w (upd H l (.lst (ns'.map V.int))) h' l (.lst (ns'.map V.int)):=⟨by rw [List.length_map,a2.length_eq]; exact Nat.le_of_lt (B5 (by lia)),out.toList,e,T8 a1,by simpa [seqObj] using g⟩
 exact ⟨.ref l,_,I.call' (s':={ s with heap:=h',toks:=tk }) (ch:=[]) rfl (Un.track (Un.kept kp) hlz fr) (HOk.track (I.hok.kept kp) fr new) I.bare (fun b z=>nomatch z),rfl,q ns' a2 a3 l fr⟩
end
end L2
namespace L2
open PySem PySem.Spec PyProof.Rows
def Ite (K:PySem.W.Frag) (l:Addr):It :=
  ⟨fun i H=>∃ xs x,SqL K H l xs ∧ xs[i]? = some x,
   fun i H v H'=>∃ p x,H p = none ∧ v = .ref p ∧ H' = upd H p (.tup [.int (i:Nat),x]) ∧ ∀ xs,SqL K H l xs → xs[i]? = some x,
   fun i H=>∃ xs,SqL K H l xs ∧ xs.length ≤ i⟩
theorem jM {P:Program} {w:World} {K:PySem.W.Frag} {es:List Expr} {kk:Nat} {pos:Pos} {e it l:Addr} (hei:e ≠ it) (hle:l ≠ e) (hli:l ≠ it) :
  gK P w K (.Tuple es kk pos) (Ite K l) [e,it] e (fun n h=>(∃ old,IsEnum h e it (n:Int) old) ∧ h.IsListIter it l n) where
 mem:=by simp
 obj:=fun n h ⟨⟨old,he⟩,hi⟩ a ha=>by
  simp only [List.mem_cons,List.not_mem_nil,or_false] at ha
  rcases ha with rfl | rfl
  ·exact ⟨_,he,fun v q=>nomatch q⟩
  ·obtain ⟨o,e1,_,d⟩:=hi
   exact ⟨o,e1,fun v z=>by rw [d] at z; cases z⟩
 keep:=fun n h h' ⟨⟨old,he⟩,hi⟩ k=>⟨⟨old,k e (by simp) _ he⟩,hi.at fun o x=>k it (by simp) o x⟩
 item:=by
  intro X hP hw hK hc n pins s σ H E I hf ⟨⟨old,he⟩,hi⟩ hg
  subst hP hw hK
  obtain ⟨xs,x,hl,hx⟩:=hg
  obtain ⟨us,ru,hl',hzl⟩:=I.list hl
  obtain ⟨u,hu,r1⟩:=ru.get hx
  refine wpAny_pyNext_enum_item he hi hl'.isList (x:=u) (by simpa using hu) hei fun h' ho hit hT hsz kp=>⟨_,rfl,?_⟩
  refine wpAny_letOwnedTupleGo_enum (s:={ s with heap:=h',toks:=s.toks + 1 }) ho fun h'' he'' sb=>?_
  replace sb:Heap.SameBut e h' h'':=sb
  have fresh:H s.heap.objs.size = none:=I.hok.fresh (Nat.le_refl _)
  have kp2:∀ a q,a ≠ e → a ≠ it → s.heap.get? a = some q → h''.get? a = some q:=fun a q a1 a2 z=>sb.extBut _ _ a1 (kp a q a1 a2 z)
  have hTe:s.heap.objs.size ≠ e:=Nat.ne_of_gt (Heap.lt_size he)
  have pT:h''.get? s.heap.objs.size = some { cls:=.type "tuple",data:=.seq #[.int n s.toks,u] }:=sb.extBut _ _ hTe hT
  have notin:∀ a,a ∉ [e,it] → a ≠ e ∧ a ≠ it:=fun a ha=>by simpa using ha
  have trk:∀ a q,H a = some q → a ∉ [e,it]:=fun a q z ha=>by rw [(hf a ha).1] at z; cases z
  have hok:HOk X.prog X.w (upd H s.heap.objs.size (.tup [.int (n:Nat),x])) h'':=fun a q z=>by
   by_cases ha:a = s.heap.objs.size
   ·subst ha
    rw [d4] at z
    cases z
    exact ⟨by show 2 ≤ sizeLine; decide,[.int n s.toks,u],.cons ⟨_,rfl⟩ (.cons r1 .nil),⟨_,pT,rfl,_,rfl⟩⟩
   ·rw [g7 ha] at z
    refine (I.hok a q z).stay (fun a' q' h1 h2=>?_) (fun a' q'=>by rw [g7 (i4 q' fresh)]; exact q') fun a' xs' q'=>by rw [g7 (i4 q' fresh)]; exact q'
    have ni:a' ∉ [e,it]:=by
     rcases h1 with rfl | h1
     ·exact trk _ _ z
     ·exact trk _ _ h1
    obtain ⟨n1,n2⟩:=notin a' ni
    exact kp2 a' q' n1 n2 h2
  have J:Inv X pins σ (upd H s.heap.objs.size (.tup [.int (n:Nat),x])) { s with heap:=h'',toks:=s.toks + 1 }:=by
   refine I.step (g':=s.gens) (d':=s.drawn) (t':=s.toks + 1) (ch:=[e,it]) (fun a ha=>?_) (fun a q _ _ hc' z _=>?_) (fun a q _ _ hc' z _=>?_) (fun a q _ z n2=>?_) (fun a q hc' z=>?_) (fun a xs' z=>?_) (fun a q u' z=>?_) (fun a ps z=>?_) (fun m' hm''=>?_) hok I.bare
   ·obtain ⟨_,f1,_,f3,f4,f5⟩:=hf a ha
    exact ⟨f3,f1,f4,f5⟩
   ·obtain ⟨n1,n2⟩:=notin a hc'
    exact kp2 a q n1 n2 z
   ·obtain ⟨n1,n2⟩:=notin a hc'
    exact ⟨q.slots,kp2 a q n1 n2 z⟩
   ·rw [g7 (Nat.ne_of_lt (Heap.lt_size z))]
    exact n2
   ·obtain ⟨n1,n2⟩:=notin a hc'
    exact ⟨q,kp2 a q n1 n2 z⟩
   ·rw [g7 (i4 z fresh)]
    exact z
   ·rw [g7 (i4 z fresh)]
    exact z
   ·exact ⟨#[],by rw [g7 (i4 z fresh),z]; simp⟩
   ·obtain ⟨ob,es',ep,e1,r⟩:=hm''
    have f1:∀ a' ∈ [e,it],a' ≠ X.env.locals:=fun a' ha'=>(hf a' ha').2.1
    exact ⟨ob,es',ep,kp2 _ _ (Ne.symm (f1 e (by simp))) (Ne.symm (f1 it (by simp))) e1,r⟩
  have hi2:h''.IsListIter it l (n + 1):=hit.at fun o z=>sb.extBut _ _ (Ne.symm hei) z
  refine ⟨.ref s.heap.objs.size,_,J,rfl,⟨s.heap.objs.size,x,fresh,rfl,rfl,fun xs' q=>?_⟩,⟨⟨_,by have:=he''; rw [show ((n:Nat):Int) + 1 = ((n + 1:Nat):Int) by lia] at this; exact this⟩,hi2⟩,fun a ha=>?_⟩
  ·have e2:=I.row_inj (b:=false) (show Sq false X.K H l xs' from q) (show Sq false X.K H l xs from hl)
   rw [e2]
   exact hx
  ·have:a ≠ s.heap.objs.size:=by
    simp only [List.mem_cons,List.not_mem_nil,or_false] at ha
    rcases ha with rfl | rfl
    ·exact Ne.symm hTe
    ·obtain ⟨q,z,_⟩:=hi; exact Nat.ne_of_lt (Heap.lt_size z)
   rw [g7 this]
   exact (hf a ha).1
 done:=by
  intro X hP hw hK hc n pins s σ H E I hf ⟨⟨old,he⟩,hi⟩ hg
  subst hP hw hK
  obtain ⟨xs,hl,hend⟩:=hg
  obtain ⟨us,ru,hl',hzl⟩:=I.list hl
  have e1:=ru.length
  refine wpAny_pyNext_enum_end (I.ok.hd hc) he hi hl'.isList (by simp; lia) fun h' kp=>⟨rfl,?_⟩
  obtain ⟨f0,f1,f2,f3,f4,f5⟩:=hf it (by simp)
  exact I.turned (t':=s.toks) (fun b o hb z=>kp b o hb z) f0 f1 f3 f4 f5
 self:=fun _ _ _ _ _ ⟨⟨old,he⟩,_⟩ h=>wpAny_pyIter_enum he h
section
variable {X:Cx}
def rc (K:PySem.W.Frag) (ta:TA):TI:=fun σ H R=>ta σ H fun vs H1=>∃ l xs,vs = [.ref l] ∧ SqL K H1 l xs ∧ R (Ite K l) H1
theorem iN (K:PySem.W.Frag) {es:List Expr} {kk:Nat} {tpos:Pos} {e1:Expr} {ta:TA} {p pos:Pos} (hg:Gl X "enumerate") (hm:X.mg "enumerate" = none) (ha:PA X [e1] ta) (hK:X.K = K:=by rfl) (hs:starEach [e1] X.env = [(false,eval e1 X.env)]:=by rfl) (hs0:starEach [] X.env = []:=by rfl) :
  PI X (.Tuple es kk tpos) (.Call (.Name "enumerate" p) [e1] [] pos) (rc K ta):=by
 subst hK
 intro pins s σ H R I h
 refine Call_ (V6 I hg hm boot_enumerate (PyProof.Rows.callWith_type1 (thn (ha pos pins s σ H _ I h) fun us s1 ⟨vs,H1,I1,r1,q1⟩=>?_) (by rw [hs,hs0]) (by rw [hs0]; rfl)))
 obtain ⟨l,xs,e,hl,q⟩:=q1
 subst e
 obtain ⟨u,rfl,ru⟩:=U8 r1
 cases ru
 obtain ⟨its,rv,hl',_⟩:=I1.list hl
 refine call_enumerate_list hl'.isList fun h' he hi hz kp=>wpAny_pyIter_enum he ?_
 obtain ⟨ol,gl,_⟩:=id hl'.isList
 have ll:l < s1.heap.objs.size:=Heap.lt_size gl
 have fr:∀ n,az X pins H1 (s1.heap.objs.size + n):=fun n=>I1.fpOk (Nat.le_add_right _ n) (I1.hok.fresh (Nat.le_add_right _ n))
 refine ⟨s1.heap.objs.size + 1,[s1.heap.objs.size + 1,s1.heap.objs.size],_,_,H1,rfl,I1.kept (t':=s1.toks) kp,jM (Nat.succ_ne_self _) (Nat.ne_of_lt (Nat.lt_succ_of_lt ll)) (Nat.ne_of_lt ll),⟨⟨_,he⟩,hi⟩,fun a ha=>?_,q⟩
 simp only [List.mem_cons,List.not_mem_nil,or_false] at ha
 rcases ha with rfl | rfl
 ·exact fr 1
 ·exact fr 0
end
theorem ez {K:PySem.W.Frag} {l:Addr} {xs:List V} {g:TG} {tb:TS} {D:Y9} {σ:St} {H:Hp} (Pv:Nat → St → Hp → Prop) (h0:Pv 0 σ H) (hl:∀ i σ H,i ≤ xs.length → Pv i σ H → SqL K H l xs)
  (hs:∀ i x σ H p,xs[i]? = some x → Pv i σ H → H p = none → g (.ref p) σ (upd H p (.tup [.int (i:Nat),x])) fun σ2 H2=>tb { D with nx:=Pv (i + 1),ct:=Pv (i + 1),bk:=D.nx } σ2 H2) (hd:∀ σ H,Pv xs.length σ H → D.nx σ H) :
  ∃ W:Nat → Nat → St → Hp → Prop,(∃ m,W 0 m σ H) ∧ ∀ i m σ H,W i m σ H →
   ((Ite K l).stop i H ∧ D.nx σ H) ∨ ((Ite K l).go i H ∧ ∃ N:St → Hp → Prop,(∀ σ' H',N σ' H' → ∃ m',m' < m ∧ W (i + 1) m' σ' H') ∧ ∀ x H',(Ite K l).yld i H x H' → g x σ H' fun σ2 H2=>tb { D with nx:=N,ct:=N,bk:=D.nx } σ2 H2):=by
 refine ⟨fun i m σ H=>m = xs.length - i ∧ i ≤ xs.length ∧ Pv i σ H,⟨xs.length,by simp,Nat.zero_le _,h0⟩,?_⟩
 rintro i m σ H ⟨rfl,hi,p⟩
 have hq:=hl i σ H hi p
 by_cases hlt:i < xs.length
 ·refine .inr ⟨⟨xs,xs[i],hq,by simp [hlt]⟩,Pv (i + 1),fun σ' H' p'=>⟨xs.length - (i + 1),by lia,rfl,hlt,p'⟩,fun x H' y=>?_⟩
  obtain ⟨a,v,fr,rfl,rfl,k⟩:=y
  exact hs i v σ H a (k xs hq) p fr
 ·have e:i = xs.length:=by lia
  subst e
  exact .inl ⟨⟨xs,hq,Nat.le_refl _⟩,hd σ H p⟩
theorem nN {b:Bool} {K:PySem.W.Frag} {l m:Addr} {xs ys:List V} {g:TG} {tb:TS} {D:Y9} {σ:St} {H:Hp} (Pv:Nat → St → Hp → Prop) (he:ys.length = xs.length) (h0:Pv 0 σ H) (hl:∀ i σ H,i ≤ xs.length → Pv i σ H → Sq b K H l xs ∧ Sq b K H m ys)
  (hs:∀ i x y σ H p,xs[i]? = some x → ys[i]? = some y → Pv i σ H → H p = none → g (.ref p) σ (upd H p (.tup [x,y])) fun σ2 H2=>tb { D with nx:=Pv (i + 1),ct:=Pv (i + 1),bk:=D.nx } σ2 H2) (hd:∀ σ H,Pv xs.length σ H → D.nx σ H) :
  ∃ W:Nat → Nat → St → Hp → Prop,(∃ m,W 0 m σ H) ∧ ∀ i n σ H,W i n σ H →
   ((Itz b K l m).stop i H ∧ D.nx σ H) ∨ ((Itz b K l m).go i H ∧ ∃ N:St → Hp → Prop,(∀ σ' H',N σ' H' → ∃ n',n' < n ∧ W (i + 1) n' σ' H') ∧ ∀ x H',(Itz b K l m).yld i H x H' → g x σ H' fun σ2 H2=>tb { D with nx:=N,ct:=N,bk:=D.nx } σ2 H2):=by
 refine ⟨fun i n σ H=>n = xs.length - i ∧ i ≤ xs.length ∧ Pv i σ H,⟨xs.length,by simp,Nat.zero_le _,h0⟩,?_⟩
 rintro i n σ H ⟨rfl,hi,p⟩
 obtain ⟨q1,q2⟩:=hl i σ H hi p
 by_cases hlt:i < xs.length
 ·have h2:i < ys.length:=by lia
  refine .inr ⟨⟨xs,ys,xs[i],ys[i],q1,q2,by simp [hlt],by simp [h2]⟩,Pv (i + 1),fun σ' H' p'=>⟨xs.length - (i + 1),by lia,rfl,hlt,p'⟩,fun x H' y=>?_⟩
  obtain ⟨a,u,v,fr,rfl,rfl,k1,k2⟩:=y
  exact hs i u v σ H a (k1 xs q1) (k2 ys q2) p fr
 ·have e:i = xs.length:=by lia
  subst e
  exact .inl ⟨⟨xs,ys,q1,q2,.inl (Nat.le_refl _)⟩,hd σ H p⟩
end L2
namespace L2
open PySem PySem.Spec PyProof.Rows
section
variable {K:Type} [DecidableEq K]
def R9 (xs:List (K × Addr × Value)) (k:K):List (K × Addr × Value):=xs.filter fun x=>decide (x.1 ≠ k)
theorem aM:∀ {xs:List (K × Addr × Value)} {j:Nat} {k:K} {p:Addr × Value},(xs.map (·.1)).Nodup → xs[j]? = some (k,p) → xs.eraseIdx j = R9 xs k
 | [],j,k,p,_,h=>by simp at h
 | x :: t,0,k,p,n,h=>by
  simp at h
  subst h
  obtain ⟨n1,n2⟩:=List.nodup_cons.mp n
  have:R9 t k = t:=by
   unfold R9
   rw [List.filter_eq_self]
   intro y hy
   simp
   intro e
   exact n1 (List.mem_map.mpr ⟨y,hy,e⟩)
  show t = R9 ((k,p) :: t) k
  unfold R9 at this ⊢
  rw [List.filter_cons_of_neg (by simp),this]
 | x :: t,j + 1,k,p,n,h=>by
  obtain ⟨n1,n2⟩:=List.nodup_cons.mp n
  have h':t[j]? = some (k,p):=by simpa using h
  have hx:x.1 ≠ k:=fun e=>n1 (List.mem_map.mpr ⟨(k,p),List.mem_of_getElem? h',e.symm⟩)
  have ih:=aM n2 h'
  show x :: t.eraseIdx j = R9 (x :: t) k
  unfold R9 at ih ⊢
  rw [List.filter_cons_of_pos (by simpa using hx),ih]
end
theorem cm {α β:Type} (f:α → β):∀ (l:List α) (j:Nat),(l.eraseIdx j).map f = (l.map f).eraseIdx j
 | [],_=>by simp
 | x :: t,0=>rfl
 | x :: t,j + 1=>by
  show f x :: (t.eraseIdx j).map f = f x :: (t.map f).eraseIdx j
  rw [cm f t j]
section
variable {prog:Program} {w:World} {K:Type} [DecidableEq K] {knd:HeapKind prog w K} {A:Around} {E:Value → Shared → Prop} {s:Shared}
theorem cP {d a b:Addr} {v:Value} {xs:List (K × Addr × Value)} {k:K} {Q:Option DictEntry → Shared → Prop} (hu:knd.room A) (hkey:knd.is s.heap k a) (hm:s.heap.DictOfH knd d xs) (hat:atKey xs k = some (b,v))
  (hQ:∀ (e:DictEntry) h',e.val = v → h'.DictOfH knd d (R9 xs k) → Heap.SameBut d s.heap h' → Q (some e) { s with heap:=h',toks:=s.toks + knd.draws k }) (hsz:xs.length ≤ sizeLine) :
  wpAny (model prog w) A (Builtin.Dict.takeOut d (.ref a)) Q E s:=by
 obtain ⟨o,es,ep,ho,hc,hd,he,his,hn⟩:=hm
 have hes:es.size = xs.length:=size_of_entries he
 unfold Builtin.Dict.takeOut
 try with_reducible refine wpAny_holding ?_
 refine wpAny_bind (knd.pyHash hu hkey ?_)
 refine wpAny_bind (wpAny_dictFind_heap (s:={ s with toks:=s.toks + knd.draws k }) hu hkey ho hd he his hn ?_ ?_)
 ·intro hno
  rw [atKey_none_of_get hno] at hat
  cases hat
 ·intro j p hj
  have hp:=atKey_of_get hn hj
  rw [hat] at hp
  cases hp
  refine wpAny_bind (wpAny_dictEntries (s:={ s with toks:=s.toks + knd.draws k }) ho hd ?_)
  rw [entry_at he j,hj]
  refine wpAny_bind (wpAny_updateDictKeys (hz:=by rw [hes]; exact hsz) (s:={ s with toks:=s.toks + knd.draws k }) ho hd (wpAny_pure (hQ _ _ rfl ⟨_,_,ep + 1,Heap.get?_update_self _ ho (Obj.isFreed_of_dict (Obj.data_mapDictKeys hd _)),
   hc.mapDictKeys _,Obj.data_mapDictKeys hd _,?_,?_,?_⟩ (Heap.SameBut.update ..))))
  ·rw [← aM hn hj,cm,← he]
   obtain ⟨l⟩:=es
   simp
  ·intro x hx
   exact knd.keeps (his x (List.mem_filter.mp hx).1) ho hd (Heap.SameBut.update ..)
  ·exact (List.Sublist.map _ List.filter_sublist).nodup hn
theorem ax {d a:Addr} (knd:HeapKind prog w K) (hd:(d == sysModules) = false) :
  MeetsIn prog w (Builtin.«dict.pop» ⟨[.ref d,.ref a],[]⟩) (fun A R s=>knd.room A.in1 ∧ ∃ k xs b v,knd.is s.heap k a ∧ s.heap.DictOfH knd d xs ∧ xs.length ≤ sizeLine ∧ atKey xs k = some (b,v) ∧
   ∀ h',h'.DictOfH knd d (R9 xs k) → Heap.SameBut d s.heap h' → R (.ok (.ret v)) { s with heap:=h',toks:=s.toks + knd.draws k }) :=
 .of_wp fun A R s ⟨hu,k,xs,b,v,hkey,hm,hsz,hat,h⟩=>by
  unfold Builtin.«dict.pop»
  refine wpAny_bind ?_
  unfold Builtin.Dict.keyAndDefault
  refine wpAny_bind (wpAny_notOrdered_dict hm.typeIs ?_)
  show wpAny _ _ (pure (d,Value.ref a,none)) _ _ s
  refine wpAny_pure ?_
  obtain ⟨o,es,ep,ho,hc,hdat,he,his,hn⟩:=id hm
  have hne:es.isEmpty = false:=by
   have hs:es.size = xs.length:=size_of_entries he
   have:xs ≠ []:=fun z=>by rw [z] at hat; cases hat
   have:0 < xs.length:=List.length_pos_iff.mpr this
   rw [Array.isEmpty_eq_false_iff]
   intro z
   rw [z] at hs
   simp at hs
   lia
  simp only [show (keyPart (Value.ref a)).isSome = false from rfl,Bool.false_eq_true,if_false]
  refine wpAny_bind (wpAny_dictEntries ho hdat ?_)
  refine wpAny_bind (wpAny_pure ?_)
  simp only [hne,Bool.false_eq_true,if_false]
  refine wpAny_bind (cP hu hkey hm hat (fun e h' hev hm' hs'=>?_) hsz)
  simp only [Option.isNone_some,Bool.false_eq_true,if_false]
  exact wpAny_bind (wpAny_letGo (wpAny_pure ⟨e.val,rfl,by rw [hev]; exact h h' hm' hs'⟩))
end
end L2
namespace L2
open PySem PySem.Spec PyProof.Rows
theorem KT.drop {H:Hp} {kvs:List (List Key × V)} {xs:List (List Key × Addr × Value)} (r:KT H kvs xs) (k:List Key):KT H (K4 kvs k) (R9 xs k):=by
 induction r with
 | nil=>exact .nil
 | @cons p q ps qs h t ih =>
  by_cases e:p.1 = k
  ·have e':q.1 = k:=h.1.symm.trans e
   rw [cA e]
   unfold R9
   rw [List.filter_cons_of_neg (by simp [e'])]
   exact ih
  ·have e':¬ q.1 = k:=fun z=>e (h.1.trans z)
   rw [cF e]
   unfold R9
   rw [List.filter_cons_of_pos (by simp [e'])]
   exact .cons h ih
section
variable {X:Cx} {o e:Expr} {apos cpos:Pos} {td ty:TE}
def pC (td ty:TE):TE:=fun σ H Q=>td σ H fun x H1=>∃ a,x = .ref a ∧ IsD H1 a ∧ ty σ H1 fun y H2=>∃ kvs k b v,H2 a = some (.dT kvs) ∧ y = .ref b ∧ H2 b = some (.tup (k.map kV)) ∧ r9 kvs k = some v ∧ Q v (upd H2 a (.dT (K4 kvs k)))
theorem lK (hu:X.A.units + 1 < cLine) (ho:PE X o td) (he:PE X e ty) (m:M1 X o "pop" apos e cpos):PE X (.Call (.Attribute o "pop" apos) [e] [] cpos) (pC td ty):=by
 intro pins s σ H Q I h
 refine wpAny_Call_method m.base m.few m.line PySem.F.plainAttrs_dict PySem.F.slot_dict_pop PySem.F.type_dict_pop (thn (ho pins s σ H _ I h) fun u s1 ⟨x,H1,I1,rx,a,ex,d,q1⟩=>?_)
 subst ex
 obtain rfl:u = Value.ref a:=rx
 obtain ⟨t1,t2,_⟩:=gB I1 d
 refine ⟨t1,t2,?_⟩
 rw [m.trees]
 refine Calls.callWith_builtin rfl (Calls.evalArgs_plain (Calls.spliced_cons (thn (he pins s1 σ H1 _ I1 q1) fun iv s2 ⟨y,H2,I2,ry,kvs,k,b,v,ea,ey,eb,l,q2⟩=>Calls.spliced_nil ?_)))
 subst ey
 cases (show iv = Value.ref b from ry)
 obtain ⟨z,hd,xs,rel,dd⟩:=oJ I2.hok ea
 have hz:xs.length ≤ sizeLine:=by rw [← Paired.length rel]; exact z
 obtain ⟨w',hw,rw'⟩:=T2.some_of (v:=v) (o:=(atKey xs k).map (·.2)) (by rw [← l]; exact rel.val k)
 obtain ⟨⟨b',w''⟩,hw1,hw2⟩:=Option.map_eq_some_iff.mp hw
 cases hw2
 refine call_meetsIn PySem.F.slot_dict_pop dd.typeIs PySem.F.entry_dict_pop (PySem.F.args_dict_pop_2 _ _) (ax (tupleKind (u9 X.prog X.w)) hd) ⟨tupleKind_room_in1 hu,k,xs,b',_,W3 I2.hok eb,dd,hz,hw1,fun h' dd' hs=>?_⟩
 obtain ⟨q,es,ep,hq,h2,h3,h4,_,h5⟩:=dd'
 refine ⟨v,upd H2 a (.dT (K4 kvs k)),df I2 (ob:=.dT (K4 kvs k)) (by rw [ea]; exact True.intro) hs ⟨q,hq⟩ ⟨Nat.le_trans (bG kvs k) z,hd,_,(rel.drop k).keeps fun c ys ec=>?_,q,es,ep,hq,h2,h3,h4,h5⟩,rw',q2⟩
 rw [g7 (oH ec ea (fun z=>nomatch z))]
 exact ec
end
end L2
namespace L2
open PySem PySem.Spec PyProof.Rows
structure FnQ (K:PySem.W.Frag) (x qual:Str) (st:Stmt) (f:Addr) (fd:FuncData):Prop where
 ex:∃ (oc:Value) (od:Option Addr) (dV kV doc pm:Value) (an:Option Addr) (cdv ct:Value) (osl:Array (Option Value)),
  fd = PySem.W.fnOf x qual (j6 st) (i7 st) (d7 st) dV kV doc pm an cdv ct ∧ K.lookup f = some ⟨oc,od,.func fd,osl⟩ ∧ PySem.W.codeIn K cdv qual = true
structure oh (K:PySem.W.Frag) (C:Addr) (m qual:Str) (st:Stmt) (ps:List Str) (dvs:List V) (kb:FuncData → Prop):Prop where
 ex:∃ (f:Addr) (fd:FuncData),FnQ K m qual st f fd ∧ qN K C m f ∧ kb fd ∧ ∀ j,j ≤ dvs.length → ∃ ds,n6 (dvs.drop j) ds ∧ R8 K fd ps ds
structure aL (P:Program) (w:World) (K:PySem.W.Frag) (mg:Str → Option Value) (base:Heap) (k:Nat) (C:Addr) (m:Str) (ps:List Str) (dvs:List V) (kb:FuncData → Prop) (sp:Sp):Prop where
 ex:∃ (f:Addr) (fd:FuncData),X5 P w K mg base CX0 k f fd ps sp ∧ qN K C m f ∧ kb fd ∧ ∀ j,j ≤ dvs.length → ∃ ds,n6 (dvs.drop j) ds ∧ R8 K fd ps ds
abbrev noKw:FuncData → Prop:=fun _=>True
section
variable {P:Program} {w:World} {K:PySem.W.Frag} {mg:Str → Option Value} {base:Heap}
theorem oh.ok {C:Addr} {m qual:Str} {st:Stmt} {N ps:List Str} {k:Nat} {dvs:List V} {kb:FuncData → Prop} {sp:Sp} (D:oh K C m qual st ps dvs kb) (S:FnScope N ps (d7 st)) (len:∀ vs H Q E,sp vs H Q E → vs.length = ps.length)
  (hbody:∀ (f:Addr) (cdv:Value) (A:Around) (outer:List Env) (s:Shared) (H:Hp) (vs:List V) (Q:VK) (E:XK),C3 k (A.deeper (envOfC qual (d7 st) s.heap.objs.size f cdv)) → sp vs H Q E →
   ∃ t,PSs (M6 CX0 P w K mg base N qual (d7 st) f cdv A outer s H E).nox (i7 st) t ∧ t { nx:=fun _ H'=>Q .non H',rt:=Q } (start N vs) H):aL P w K mg base (k + 1) C m ps dvs kb sp:=by
 obtain ⟨f,fd,⟨oc,od,dV,kV,doc,pm,an,cdv,ct,osl,rfl,lk,hcd⟩,mt,hkb,b⟩:=D.ex
 refine ⟨f,_,dY lk hcd S len fun A outer s H vs Q E hr hsp=>?_,mt,hkb,b⟩
 obtain ⟨t,h,q⟩:=hbody f cdv A outer s H vs Q E hr hsp
 exact ⟨t,h.nox,q⟩
end
section
variable {X:Cx} {k n:Nat} {C:Addr} {ps:List Str} {dvs:List V} {kb:FuncData → Prop} {sp:Sp} {x m:Str} {p pos apos kpos:Pos} {e o:Expr} {es:List Expr} {ta te:TE} {t:TA}
theorem iV {K:PySem.W.Frag} {C D:Addr} (hc:PySem.W.isClsIn K D = true) (ht:PySem.W.typeIn K (.ref D) = some (.type "type")) (hs:PySem.W.subIn K (.ref C) (.ref D) = some true):PySem.W.kitOne K (.ref C) (.ref D) = some true:=by
 unfold PySem.W.kitOne
 split
 ·rfl
 ·show (if ((PySem.W.clsIn K D).isSome && PySem.W.typeIn K (.ref D) == some (.type "type")) = true then PySem.W.subIn K (.ref C) (.ref D) else none) = some true
  rw [if_pos (by rw [show (PySem.W.clsIn K D).isSome = true from hc,ht]; rfl),hs]
end
end L2
namespace L2
open PySem PySem.Spec PyProof.Rows
theorem p3.at_ {P:Program} {w:World} {H:Hp} {h:Heap} {a:Addr} {o:HO} (x:p3 P w H h a o):∃ u,h.get? a = some u:=by
 cases o with
 | lst xs=>obtain ⟨_,_,_,_,e⟩:=x; exact ⟨_,e⟩
 | tup xs=>obtain ⟨_,_,_,p⟩:=x; exact ⟨_,p.choose_spec.1⟩
 | dK kvs=>obtain ⟨_,_,_,_,o,_,_,e,_⟩:=x; exact ⟨_,e⟩
 | dT kvs=>obtain ⟨_,_,_,_,o,_,_,e,_⟩:=x; exact ⟨_,e⟩
 | set S n=>obtain ⟨o,_,_,_,e,_⟩:=x; exact ⟨_,e⟩
 | ins C dx fs=>obtain ⟨_,_,_,e,_⟩:=x; exact ⟨_,e⟩
 | own y=>obtain ⟨_,e⟩:=x; exact ⟨_,e⟩
 | xd fs=>obtain ⟨_,⟨_,_,_,e,_⟩,_⟩:=x; exact ⟨_,e⟩
 | rng lo hi=>obtain ⟨_,_,_,e⟩:=x; exact ⟨_,e⟩
 | frz ob u=>obtain ⟨e,_⟩:=x; exact ⟨_,e⟩
 | tbl ps=>exact ⟨_,(show h.get? a = some _ from x)⟩
 | met f y=>exact ⟨_,(show h.get? a = some _ from x)⟩
 | ext φ=>obtain ⟨_,e,_⟩:=x; exact e
structure Fly (fs:List Addr) (H1 H2:Hp) (h1 B h2:Heap):Prop where
 kp:∀ b o,h1.get? b = some o → b ∉ fs → (∃ o',B.get? b = some o') ∧ (H1 b = none → B.get? b = some o)
 sl:∀ b o,h1.get? b = some o → b ∈ fs → ∃ sl,h2.get? b = some { o with slots:=sl }
 free:∀ b o,h1.get? b = some o → H1 b = none → H2 b = none
 tups:∀ b xs,H1 b = some (.tup xs) → H2 b = some (.tup xs)
 frzs:∀ b o u,H1 b = some (.frz o u) → H2 b = some (.frz o u)
 tbls:∀ b ps,H1 b = some (.tbl ps) → ∃ more,H2 b = some (.tbl (ps ++ more))
theorem Fly.un {fs:List Addr} {H1 H2:Hp} {h1 B h2:Heap} (f:Fly fs H1 H2 h1 B h2) (st:B.StaysIn h2):Un fs [] H1 H2 h1 h2 where
 keep:=fun b o e n hb _=>st b o ((f.kp b o e hb).2 n)
 slot:=fun b o e _ hb _=>f.sl b o e hb
 free:=fun b o e n _=>f.free b o e n
 there:=fun b o e _=>by
  by_cases hb:b ∈ fs
  ·obtain ⟨sl,q⟩:=f.sl b o e hb; exact ⟨_,q⟩
  ·obtain ⟨⟨o',q⟩,_⟩:=f.kp b o e hb; exact ⟨o',st _ _ q⟩
 tups:=f.tups
 frzs:=f.frzs
 tbls:=f.tbls
theorem Fly.up {fs:List Addr} {H1 H2:Hp} {h1 B h2 h3:Heap} (f:Fly fs H1 H2 h1 B h2) (up:∀ b ∈ fs,∀ o,h2.get? b = some o → ∃ sl,h3.get? b = some { o with slots:=sl }):Fly fs H1 H2 h1 B h3 :=
 ⟨f.kp,fun b o e hb=>by
  obtain ⟨s1,q1⟩:=f.sl b o e hb
  obtain ⟨s2,q2⟩:=up b hb _ q1
  exact ⟨s2,q2⟩,f.free,f.tups,f.frzs,f.tbls⟩
theorem Fly.after {fs fs':List Addr} {H0 H1 H2:Hp} {h0 h1 B h2:Heap} (u:Un fs [] H0 H1 h0 h1) (f:Fly fs' H1 H2 h1 B h2) (hL:∀ b o,h0.get? b = some o → b ∉ fs → b ∉ fs') (hs:∀ b ∈ fs,b ∈ fs') (hf:∀ b ∈ fs,H0 b = none) :
  Fly fs H0 H2 h0 B h2 where
 kp:=fun b o e hb=>by
  obtain ⟨o1,e1⟩:=u.there b o e (by simp)
  refine ⟨(f.kp b o1 e1 (hL b o e hb)).1,fun n=>?_⟩
  exact (f.kp b o (u.keep b o e n hb (by simp)) (hL b o e hb)).2 (u.free b o e n (by simp))
 sl:=fun b o e hb=>by
  obtain ⟨s1,q1⟩:=u.slot b o e (hf b hb) hb (by simp)
  obtain ⟨s2,q2⟩:=f.sl b _ q1 (hs b hb)
  exact ⟨s2,q2⟩
 free:=fun b o e n=>by
  obtain ⟨o1,e1⟩:=u.there b o e (by simp)
  exact f.free b o1 e1 (u.free b o e n (by simp))
 tups:=fun b xs e=>f.tups b xs (u.tups b xs e)
 frzs:=fun b o x e=>f.frzs b o x (u.frzs b o x e)
 tbls:=fun b ps e=>by
  obtain ⟨m1,e1⟩:=u.tbls b ps e
  obtain ⟨m2,e2⟩:=f.tbls b _ e1
  exact ⟨m1 ++ m2,by rw [e2,Array.append_assoc]⟩
section
variable {P:Program} {w:World} {K:PySem.W.Frag} {mg:Str → Option Value} {base:Heap} {N:List Str} {qual:Str} {scope:Scope} {f:Addr} {cd:Value} {A:Around} {outer:List Env} {s:Shared} {H:Hp} {E:XK}
theorem fY {env:Env} {L:Addr} {l:List Env} (h:env.frame = some L):frs (env :: l) = L :: frs l:=by unfold frs; rw [List.filterMap_cons,h]
end
end L2
namespace L2
open PySem PySem.Spec PyProof.Rows
def qo (sp:Sp) (dvs:List V) (E:St → XK) (t:TA):TE:=fun σ H Q=>t σ H fun vs H1=>sp (vs ++ dvs) H1 Q (E σ)
def jC:List Value:=[.type "ValueError",.type "Exception",.type "BaseException",.type "object"]
end L2
namespace L2
open PySem PySem.Spec PyProof.Rows
abbrev Cx.pinned (X:Cx) (pn:List (Addr × Obj)):Cx:={ X with pn:=pn }
abbrev hcx (X:Cx) (ea:Addr):Cx:={ X with A:=X.A.mark (some (.ref ea)),calm:=false,xe:=fun _ _=>False }
section
variable {X:Cx} {pins:List (Addr × Obj)} {σ:St} {H:Hp} {s:Shared}
theorem Inv.toPinned (I:Inv X pins σ H s):Inv (X.pinned (X.pn ++ pins)) [] σ H s :=
 ⟨⟨I.ok.mod,I.ok.kind,I.ok.glob,I.ok.blt,I.ok.above,I.ok.inj,I.ok.has,I.ok.cab,I.ok.hd,I.ok.frames,I.ok.stk,I.ok.exf,I.ok.bs,I.ok.bsz,I.ok.noex,I.ok.exfs,I.ok.funs,I.ok.frf⟩,I.os,I.bare,I.base,I.loc,I.cell,I.free,I.freeC,fun p hp=>I.pin p (by rw [List.append_nil] at hp; exact hp),I.hok,I.len⟩
theorem Inv.ofPinned {ps:List (Addr × Obj)} (I:Inv (X.pinned (X.pn ++ pins)) ps σ H s):Inv X pins σ H s :=
 ⟨⟨I.ok.mod,I.ok.kind,I.ok.glob,I.ok.blt,I.ok.above,I.ok.inj,I.ok.has,I.ok.cab,I.ok.hd,I.ok.frames,I.ok.stk,I.ok.exf,I.ok.bs,I.ok.bsz,I.ok.noex,I.ok.exfs,I.ok.funs,I.ok.frf⟩,I.os,I.bare,I.base,I.loc,I.cell,I.free,I.freeC,fun p hp=>I.pin p (List.mem_append_left _ hp),I.hok,I.len⟩
theorem Inv.toH (I:Inv X pins σ H s) (ea:Addr):Inv (hcx X ea) pins σ H s :=
 ⟨⟨I.ok.mod,I.ok.kind,I.ok.glob,I.ok.blt,I.ok.above,I.ok.inj,I.ok.has,I.ok.cab,(fun z=>nomatch z),I.ok.frames,I.ok.stk,I.ok.exf,I.ok.bs,I.ok.bsz,I.ok.noex,I.ok.exfs,I.ok.funs,I.ok.frf⟩,I.os,I.bare,I.base,I.loc,I.cell,I.free,I.freeC,I.pin,I.hok,I.len⟩
theorem Inv.ofH {ea:Addr} (ok:X.Ok) (I:Inv (hcx X ea) pins σ H s):Inv X pins σ H s :=
 ⟨ok,I.os,I.bare,I.base,I.loc,I.cell,I.free,I.freeC,I.pin,I.hok,I.len⟩
theorem aE {M:Model} {A:Around} {E:Value → Shared → Prop} {i:Nat} {n:Str} {pos:Pos} {Q:Unit → Shared → Prop} (I:Inv X pins σ H s) (hN:X.N.Nodup) (hi:X.N[i]? = some n) (hl:X.env.scope.names.lookup n = some .local)
  (h:∀ s',Inv X pins (σ.set i none) H s' → Q () s'):wpAny M A (do bindName X.env n .none; unbindBehindTheSuite X.env n pos) Q E s:=by
 obtain ⟨m,hn,hlm⟩:=id I.loc
 have hcls:(X.env.scope.kind == .class || (X.env.scope.kind == .module && X.env.locals != X.env.globals)) = false:=by rw [I.ok.kind]; rfl
 have cne:=I.cne
 obtain ⟨oL,_,_,hoL,_⟩:=id hn
 have iσ:i < σ.length:=by rw [I.len]; exact (List.getElem?_eq_some_iff.mp hi).1
 refine wpAny_nameGoes_keeps hl hn hcls fun h' v hn' hs=>?_
 refine h _ ⟨I.ok,I.os,I.bare,⟨fun b o e n hb hx=>?_,fun b o e n hb hx=>?_,I.base.free,fun b o e hx=>?_,I.base.tups,I.base.frzs,I.base.tbls⟩,⟨_,hn',fun j y v' e1 e2 e3=>?_⟩,fun y c e=>?_,I.free,I.freeC,fun p hp=>?_,fun b ob e=>?_,by simpa using I.len⟩
 ·exact (hs.2 b (Nat.ne_of_lt (Nat.lt_of_lt_of_le (Heap.lt_size e) I.ok.above))).trans (I.base.keep b o e n hb hx)
 ·obtain ⟨sl,e1⟩:=I.base.slot b o e n hb hx
  exact ⟨sl,(hs.2 b (Nat.ne_of_lt (Nat.lt_of_lt_of_le (Heap.lt_size e) I.ok.above))).trans e1⟩
 ·obtain ⟨o',e1⟩:=I.base.there b o e hx
  exact ⟨o',(hs.2 b (Nat.ne_of_lt (Nat.lt_of_lt_of_le (Heap.lt_size e) I.ok.above))).trans e1⟩
 ·by_cases hj:j = i
  ·subst hj
   rw [List.getElem?_set_self iσ] at e2
   cases e2
  ·rw [List.getElem?_set_ne (Ne.symm hj)] at e2
   obtain ⟨u',r',q⟩:=hlm j y v' e1 e2 e3
   refine ⟨u',r',?_⟩
   rcases q with ⟨k,e⟩ | ⟨k,c,e,z⟩
   ·refine .inl ⟨k,?_⟩
    have:y ≠ n:=fun e=>hj (bx hN e1 (e ▸ hi))
    simp [this,e]
   ·exact .inr ⟨k,c,e,z.sameBut hs (cne y c e)⟩
 ·obtain ⟨w',z⟩:=I.cell y c e
  exact ⟨w',z.sameBut hs (cne y c e)⟩
 ·obtain ⟨e,n,ne,nf,d⟩:=I.pin p hp
  exact ⟨(hs.2 p.1 ne).trans e,n,ne,nf,d⟩
 ·refine (I.hok b ob e).stay (fun c w' hc q=>(hs.2 c ?_).trans q) (fun _ q=>q) fun _ _ q=>q
  rintro rfl
  have fr:=I.free
  rcases hc with rfl | hc
  ·rw [fr] at e; cases e
  ·rw [fr] at hc; cases hc
end
section
variable {X:Cx}
def Y9.gone (D:Y9) (i:Nat):Y9:={ nx:=fun σ H=>D.nx (σ.set i none) H,rt:=D.rt,bk:=fun σ H=>D.bk (σ.set i none) H,ct:=fun σ H=>D.ct (σ.set i none) H }
end
end L2
namespace L2
open PySem PySem.Spec PyProof.Rows
open PySem.W (Looks)
open PySem.Builtin PySem.Builtin.ObjectAttr PySem.Builtin.Getset_descriptor
structure dh (K:PySem.W.Frag) (C:Addr):Prop where
 ga:PySem.W.findIn K (.ref C) "__getattribute__" = some (some (.builtin "BaseException.__getattribute__"))
 gn:PySem.W.findIn K (.ref C) "__getattr__" = some none
 cl:PySem.W.findIn K (.ref C) "__class__" = some (some (.builtin "object.__class__"))
 gt:PySem.W.specialIn K (.builtin "object.__class__") "__get__" = some (some (.builtin "getset_descriptor.__get__"))
 tk:PySem.W.takesIn K (.builtin "object.__class__") = some true
 mo:PySem.W.mroIn K C (.type "object") = some true
 mb:PySem.W.mroIn K C (.type "BaseException") = some true
 cs:(PySem.W.clsIn K C).isSome = true
section
variable {prog:Program} {w:World} {A:Around} {E:Value → Shared → Prop} {s:Shared} {K:PySem.W.Frag} {x C:Addr}
theorem kW {M:Model} {h:Heap} (X:K.In h) (Z:dh K C):Looks M h (find (.ref x) (.ref C) "__class__") (.bind (.builtin "getset_descriptor.__get__") (.builtin "object.__class__")):=by
 have L1:=PySem.W.looks_findIn (M:=M) X Z.cl
 have L2:Looks M h (getOf (some (.builtin "object.__class__"))) (some (.builtin "getset_descriptor.__get__")):=PySem.W.looks_specialIn X Z.gt
 have L3:=PySem.W.looks_takesIn (M:=M) X Z.tk
 exact L1.andThen (L2.andThen ((show Looks M h (dataDescriptor? (some (.builtin "object.__class__")) (some (.builtin "getset_descriptor.__get__"))) (some (.builtin "getset_descriptor.__get__",.builtin "object.__class__")) from L3.andThen .now).andThen (Looks.tag .now)))
theorem ny {R:Result → Shared → Prop} {tp:Value} {o:Obj} (X:K.In s.heap) (Z:dh K C) (ho:s.heap.get? x = some o) (hc:o.cls = .ref C) (h:R (.ok (.ret (.ref C))) s) :
  codeAny (model prog w) A (.call (.builtin "getset_descriptor.__get__") ⟨[.builtin "object.__class__",.ref x,tp],[]⟩) R s:=by
 obtain ⟨hh,g,dr,t,os⟩:=s
 have L0:Looks (model prog w) hh (typeOf (.ref x)) (.ref C):=hc ▸ (Looks.ld ho).andThen .now
 have L1:=PySem.W.looks_mroIn (M:=model prog w) X Z.mo
 refine codeAny_call_builtin PySem.W.KF.slot_gs.plain PySem.W.KF.entry_gs (PySem.W.KF.slot_gs.check _ _ _ _ _ _ _ _ PySem.W.KF.type_class (PySem.W.KF.args_gs _ _ _) ?_)
 unfold Builtin.«getset_descriptor.__get__» descrGet
 rw [PySem.W.dga_obj]
 refine wpAny_bind (wpAny_pure ?_)
 unfold descrGetter descrCheckInstance descrNameAndClass isInstance
 simp only [PySem.W.KF.owner_class]
 repeat lk
 refine ⟨Code.quiet_builtin _ (by decide +kernel),codeAny_builtin PySem.W.KF.entry_class ?_⟩
 unfold Builtin.«object.__class__» shownTypeOf
 repeat lk
 exact h
theorem jB {Q:Option Value → Shared → Prop} {o:Obj} (X:K.In s.heap) (Z:dh K C) (ho:s.heap.get? x = some o) (hc:o.cls = .ref C) (h:Q (some (.ref C)) { s with toks:=s.toks + 1 }) :
  wpAny (model prog w) A (getAttr? (.ref x) "__class__") Q E s:=by
 obtain ⟨hh,g,dr,t,os⟩:=s
 have L0:Looks (model prog w) hh (typeOf (.ref x)) (.ref C):=hc ▸ (Looks.ld ho).andThen .now
 have L1:=PySem.W.looks_findIn (M:=model prog w) X Z.ga
 have L2:=PySem.W.looks_findIn (M:=model prog w) X Z.gn
 have L3:=kW (M:=model prog w) (x:=x) X Z
 have L4:=PySem.W.looks_mroIn (M:=model prog w) X Z.mb
 have f3:=PySem.F.attr_ValueError.ga.bind (.ref x)
 have hk:builtinKind "BaseException.__getattribute__" = some .slot:=by decide +kernel
 have hsplit:splitId "BaseException.__getattribute__" = some ("BaseException","__getattribute__"):=by decide +kernel
 unfold getAttr? getAttrBy? getAttrBy
 refine wpAny_bind (wpAny_mkText (wpAny_bind (wpAny_attempt (wpAny_holding (wpAny_bind (L0.at (wpAny_bind (L1.at ?_))))))))
 show wpAny _ _ (getAttrByItsOwn _ _ _ _ _ _) _ _ _
 unfold getAttrByItsOwn
 refine wpAny_bind ?_
 show wpAny _ _ (typeLookup _ _) _ _ _
 refine L2.at ?_
 refine wpAny_bind (wpAny_attempt (wpAny_holding ?_))
 show wpAny _ _ (boundAndCalled _ _ _) _ _ _
 unfold boundAndCalled
 refine wpAny_bind ?_
 rw [f3]
 refine wpAny_pure ?_
 refine wpAny_call (codeAny_call_builtin PySem.F.attr_ValueError.ga.plain PySem.F.entry_bexc_ga ?_)
 have ha:=PySem.F.args_bexc_ga (.ref x) (.str "__class__" t)
 simp only [checkBuiltinCall,hk,hsplit]
 refine wpAny_bind ?_
 unfold isInstance
 refine wpAny_bind (L0.at (L4.at ?_))
 simp only [Bool.not_true,Bool.false_eq_true,if_false]
 repeat (any_goals (first | assumption | wp_step))
 rw [hc]
 have La:=PySem.W.looks_findIn (M:=model prog w) X Z.cl
 have Lb:Looks (model prog w) hh (getOf (some (.builtin "object.__class__"))) (some (.builtin "getset_descriptor.__get__")):=PySem.W.looks_specialIn X Z.gt
 have Lc:Looks (model prog w) hh (dataDescriptor? (some (.builtin "object.__class__")) (some (.builtin "getset_descriptor.__get__"))) (some (.builtin "getset_descriptor.__get__",.builtin "object.__class__")):=(PySem.W.looks_takesIn (M:=model prog w) X Z.tk).andThen .now
 refine La.at (wpAny_bind (Lb.at (wpAny_bind (Lc.at (wpAny_bind (wpAny_rule (wpAny_pure ?_)))))))
 unfold bindTo
 refine wpAny_bind (wpAny_holding (wpAny_call (ny (s:=⟨hh,g,dr,t + 1,os⟩) X Z ho hc ?_)))
 show wpAny _ _ (ret (.ref C)) _ _ _
 refine wpAny_pure ?_
 show wpAny _ _ (handedOut (.ref C)) _ _ _
 exact PySem.W.handed_on rfl (wpAny_pure h)
theorem eU (Z:dh K C):PySem.W.KitX K (.ref x) (.ref C) (fun h=>∃ o,h.get? x = some o ∧ o.cls = .ref C) where
 ty:=fun _ _ _ ⟨o,ho,hc⟩=>hc ▸ (Looks.ld ho).andThen .now
 it:=fun _ _ X _=>by
  have z0:=Z.cs
  unfold PySem.W.clsIn at z0
  split at z0
  ·rename_i c' d' cd' sl' ho
   intro A' Q' E' s' k q
   unfold isType loadHead
   exact wpAny_bind (wpAny_loadPart (k _ _ (X _ _ ho)) (wpAny_pure q))
  ·cases z0
 ne:=fun h tp dd its n sl X htp=>by
  have z0:=Z.cs
  refine Bool.eq_false_iff.mpr fun q=>?_
  have e:C = tp:=Value.ref.inj (beq_iff_eq.mp q)
  subst e
  unfold PySem.W.clsIn at z0
  split at z0
  ·rename_i c' d' cd' sl' ho
   have z:=(X _ _ ho).symm.trans htp
   cases z
  ·cases z0
 ca:=fun X ⟨o,ho,hc⟩ k=>jB X Z ho hc k
end
end L2
namespace L2
open PySem PySem.Spec PyProof.Rows PySem.SeqAt
section
variable {K:PySem.W.Frag} {C D:Addr}
theorem iT (hc:PySem.W.isClsIn K D = true) (ht:PySem.W.typeIn K (.ref D) = some (.type "type")) (hs:PySem.W.subIn K (.ref C) (.ref D) = some false) (h1:PySem.W.subIn K (.ref C) (.ref C) = some true):PySem.W.kitOne K (.ref C) (.ref D) = some false:=by
 unfold PySem.W.kitOne
 split
 ·rename_i z
  have e:C = D:=Value.ref.inj (beq_iff_eq.mp z)
  rw [← e,h1] at hs
  cases hs
 ·show (if ((PySem.W.clsIn K D).isSome && PySem.W.typeIn K (.ref D) == some (.type "type")) = true then PySem.W.subIn K (.ref C) (.ref D) else none) = some false
  rw [if_pos (by rw [show (PySem.W.clsIn K D).isSome = true from hc,ht]; rfl),hs]
theorem oj (hs:PySem.W.subIn K (.ref C) (.type "ValueError") = some true):PySem.W.kitOne K (.ref C) (.type "ValueError") = some true:=by
 unfold PySem.W.kitOne
 split
 ·rfl
 ·show (if PySem.W.kitMeta "ValueError" = true then PySem.W.subIn K (.ref C) (.type "ValueError") else none) = some true
  rw [if_pos (by decide +kernel),hs]
theorem mY (hc:PySem.W.isClsIn K D = true) (ht:PySem.W.typeIn K (.ref D) = some (.type "type")) (hs:PySem.W.subIn K (.ref C) (.ref D) = some true) (hb:PySem.W.subIn K (.ref D) (.type "BaseException") = some true):PySem.W.exmOne K (.ref C) (.ref D) = some true:=by
 unfold PySem.W.exmOne
 rw [if_pos (by rw [hb]; rfl)]
 show (if ((PySem.W.clsIn K D).isSome && PySem.W.typeIn K (.ref D) == some (.type "type")) = true then PySem.W.subIn K (.ref C) (.ref D) else none) = some true
 rw [if_pos (by rw [show (PySem.W.clsIn K D).isSome = true from hc,ht]; rfl),hs]
end
theorem ay:bootBuiltins "ValueError" = some (.type "ValueError"):=by first | rfl | decide +kernel
end L2
namespace L2
open PySem
def F0 (h:Heap) (e:Addr) (od:Option Addr):Prop:=∃ o,h.get? e = some o ∧ o.dict = od
theorem dS (f:Array Value → Array Value) (o:Obj):(Obj.mapFields f o).dict = o.dict:=by
 obtain ⟨c,d,dt,sl⟩:=o
 cases dt <;> rfl
section
variable {M:Model} {A:Around} {E:Value → Shared → Prop} {s:Shared} {B:Heap} {env:Env} {up:List Env} {L x:Addr} {k:Value} {a0:Value} {od:Option Addr} {Q:Unit → Shared → Prop}
abbrev pY (hd:Value) (L:Addr) (pl:List Value):Obj:={ cls:=.type "traceback",dict:=none,data:=.fields ([hd,.ref L,.none,rawInt L,.none] ++ (if pl.isEmpty then List.replicate 6 Value.none else pl)).toArray }
theorem aR {ob:Obj} {fs:Array Value} {hd:Value} {hn:Bool} (a1:A.frames = some (env :: up)) (a2:s.heap.FunFrames B (env :: up)) (a3:env.frame = some L) (b1:s.heap.get? x = some ob) (b2:B.StaysIn s.heap) (b3:B.get? x = none)
  (b4:ob.data = .fields fs) (b5:1 < fs.size) (b6:fs[0]? = some a0) (q:∀ g,Heap.NotedW B (env :: up) x ob.cls a0 (rawInt L) s.heap g → F0 g x ob.dict → Q () { s with heap:=g }) :
  wpAny M A (do let a ← frameOf env; let pl ← entryPlaceOf L hn; let b ← EntryCells.newEntry hd a .none (rawInt L) .none pl; setField (.ref x) 1 b) Q E s:=by
 have out:x ∉ (env :: up).filterMap (·.frame):=fun m=>by
  obtain ⟨_,o,e1,e2⟩:=a2.mem m
  rw [b1] at e1
  cases e1
  exact e2 fs b4
 refine wpAny_bind (wpAny_frameOf_fun a1 a2 a3 fun g1 k1=>wpAny_bind (wpAny_entryPlaceOf fun pl hpl=>?_))
 unfold EntryCells.newEntry newFields
 refine wpAny_bind (wpAny_newObj_type ?_ (hpl.sizeOk5 _ _ _ _ _))
 have x1:g1.get? x = some ob:=(k1.2.1 x out).trans b1
 have st1:B.StaysIn g1:=fun b o e=>(k1.2.1 b fun m=>by rw [(a2.mem m).1] at e; cases e).trans (b2 b o e)
 have x2:=Heap.get?_push_of_some (h:=g1) (pY hd L pl) x1
 refine wpAny_setField x2 b4 b5 ?_
 have nT:g1.objs.size ≠ x:=Nat.ne_of_gt (Heap.lt_size x1)
 have d3:=Obj.data_mapFields b4 (·.setIfInBounds 1 (Value.ref g1.objs.size))
 have x3:=Heap.get?_update_self (Obj.mapFields (·.setIfInBounds 1 (Value.ref g1.objs.size))) x2 (Obj.isFreed_of_fields d3)
 have t3:=(Heap.get?_update_other (g1.push (pY hd L pl)) (Obj.mapFields (·.setIfInBounds 1 (Value.ref g1.objs.size))) (Ne.symm nT)).trans (Heap.get?_push_size g1 rfl)
 have kp:∀ b o,b ≠ x → g1.get? b = some o → ((g1.push (pY hd L pl)).update x (Obj.mapFields (·.setIfInBounds 1 (Value.ref g1.objs.size)))).get? b = some o:=fun b o n e=>by
  rw [Heap.get?_update_other _ _ (Ne.symm n)]
  exact Heap.get?_push_of_some _ e
 have no:∀ b o,s.heap.get? b = some o → (∀ vs,o.data ≠ .fields vs) → b ≠ x:=fun b o e n z=>by
  rw [z,b1] at e
  cases e
  exact n fs b4
 refine q _ ⟨fun b o e=>kp b o (fun z=>by rw [z,b3] at e; cases e) (st1 b o e),a2.of_keeps fun b o e n=>?_,?_,fun b o e n=>?_⟩ ⟨_,x3,dS _ _⟩
 ·obtain ⟨sl,z⟩:=k1.2.2 b o e
  exact ⟨_,kp b _ (no b o e n) z,rfl⟩
 ·refine ⟨_,_,g1.objs.size,_,_,x3,⟨Obj.cls_mapFields _ _,?_⟩,d3,by simp [b5],st1.fresh,nT,t3,rfl,?_⟩
  ·rw [Array.getElem?_setIfInBounds_ne (by decide)]
   exact b6
  ·first | (simp; done) | (rcases hpl with rfl | ⟨_,_,_,_,_,_,_,rfl⟩ <;> simp)
 ·obtain ⟨sl,z⟩:=k1.2.2 b o e
  exact ⟨sl,kp b _ (no b o e n) z⟩
theorem cC (a1:A.frames = some (env :: up)) (a2:s.heap.FunFrames B (env :: up)) (a3:env.frame = some L) (tr:s.heap.TracedW B x k a0) (dx:F0 s.heap x od) (b2:B.StaysIn s.heap) (b3:B.get? x = none)
  (q:∀ g,Heap.NotedW B (env :: up) x k a0 (rawInt L) s.heap g → F0 g x od → Q () { s with heap:=g }):wpAny M A (noteFrame (.ref x) env) Q E s:=by
 obtain ⟨ob,fs,T,oT,ts,e1,⟨e2,e3⟩,e4,e5,e6,e7,e8,e9,e10⟩:=tr
 subst e2
 obtain ⟨o2,f1,f2⟩:=dx
 rw [e1] at f1
 cases f1
 subst f2
 unfold noteFrame
 simp only [a3]
 refine wpAny_bind (wpAny_field e1 e4 e5 ?_)
 rw [if_pos (show (Value.ref T != Value.none) = true by simp)]
 refine wpAny_bind (wpAny_field e8 e9 e10 ?_)
 rw [if_neg (show ¬ (Value.none == rawInt L) = true by simp [rawInt])]
 refine wpAny_bind (wpAny_setField e8 e9 (Array.getElem?_eq_some_iff.mp e10).1 ?_)
 have oth:∀ b,b ≠ T → (s.heap.update T (Obj.mapFields (·.setIfInBounds 3 Value.none))).get? b = s.heap.get? b:=fun b n=>Heap.get?_update_other _ _ (Ne.symm n)
 have no:∀ b o,s.heap.get? b = some o → (∀ vs,o.data ≠ .fields vs) → b ≠ T:=fun b o e n z=>by
  rw [z,e8] at e
  cases e
  exact n ts e9
 refine aR a1 (a2.of_keeps fun b o e n=>⟨o,(oth b (no b o e n)).trans e,rfl⟩) a3 ((oth x (Ne.symm e7)).trans e1) (fun b o e=>(oth b fun z=>by rw [z,e6] at e; cases e).trans (b2 b o e)) b3 e4 (Array.getElem?_eq_some_iff.mp e5).1 e3 fun g z dz=>?_
 obtain ⟨z1,z2,z3,z4⟩:=z
 exact q g ⟨z1,z2,z3,fun b o e n=>z4 b o ((oth b (no b o e n)).trans e) n⟩ dz
theorem N9 {l:List Env} {fl:Value} (b2:B.StaysIn s.heap) (a2:s.heap.FunFrames B l) (tr:s.heap.TracedAtW B x k a0 fl) (dx:F0 s.heap x od)
  (q:∀ g,B.StaysIn g → g.FunFrames B l → g.TracedW B x k a0 → s.heap.UpToSlots g → F0 g x od → Q () { s with heap:=g }):wpAny M A (setFlight (.ref x) none) Q E s:=by
 obtain ⟨ob,fs,T,oT,ts,e1,e2,e4,e5,e6,e7,e8,e9,e10⟩:=tr
 obtain ⟨o2,f1,f2⟩:=dx
 have l3:3 < ts.size:=(Array.getElem?_eq_some_iff.mp e10).1
 have oth:∀ b,b ≠ T → (s.heap.update T (Obj.mapFields (·.setIfInBounds 3 ((none:Option Addr).elim Value.none fun f=>rawInt f)))).get? b = s.heap.get? b:=fun b n=>Heap.get?_update_other _ _ (Ne.symm n)
 have no:∀ b o,s.heap.get? b = some o → (∀ vs,o.data ≠ .fields vs) → b ≠ T:=fun b o e n z=>by
  rw [z,e8] at e
  cases e
  exact n ts e9
 unfold setFlight
 refine wpAny_bind (wpAny_field e1 e4 e5 ?_)
 rw [if_pos (show (Value.ref T != Value.none) = true by simp)]
 refine wpAny_setField e8 e9 l3 (q _ (fun b o e=>(oth b fun z=>by rw [z,e6] at e; cases e).trans (b2 b o e)) (a2.of_keeps fun b o e n=>⟨o,(oth b (no b o e n)).trans e,rfl⟩) ?_ (fun b o e n=>⟨o.slots,(oth b (no b o e n)).trans e⟩) ⟨o2,(oth x (Ne.symm e7)).trans f1,f2⟩)
 exact ⟨ob,fs,T,_,_,(oth x (Ne.symm e7)).trans e1,e2,e4,e5,e6,e7,Heap.get?_update_self _ e8 (Obj.isFreed_of_fields (Obj.data_mapFields e9 _)),Obj.data_mapFields e9 _,by simp [l3]⟩
theorem gy (a1:A.frames = some (env :: up)) (a3:env.frame = some L) (fl:Heap.FlyingW B (env :: up) x k a0 s.heap) (dx:F0 s.heap x od)
  (q:∀ g,Heap.FlyingW B up x k a0 g → s.heap.UpToSlots g → F0 g x od → Q () { s with heap:=g }):wpAny M A (leaving env (.ref x)) Q E s:=by
 obtain ⟨f1,f2,f3,f4⟩:=fl
 unfold leaving
 refine wpAny_bind (cC a1 f3 a3 f4 dx f1 f2 fun g1 z1 d1=>?_)
 obtain ⟨z1,z2,z3,z4⟩:=z1
 refine N9 (s:={ s with heap:=g1 }) z1 z2 z3 d1 fun g2 y1 y2 y3 y4 d2=>?_
 obtain ⟨_,_,y2'⟩:=y2
 exact q g2 ⟨y1,f2,y2',y3⟩ (Heap.UpToSlots.trans (fun b o e n=>z4 b o e n) y4) d2
theorem ji (a1:A.frames = some (env :: up)) (a3:env.frame = some L) (fl:Heap.FlyingW B (env :: up) x k a0 s.heap) (dx:F0 s.heap x od)
  (q:∀ g,Heap.HeldW B (env :: up) x k a0 L g → s.heap.UpToSlots g → F0 g x od → Q () { s with heap:=g }):wpAny M A (noteFrame (.ref x) env) Q E s:=by
 obtain ⟨f1,f2,f3,f4⟩:=fl
 refine cC a1 f3 a3 f4 dx f1 f2 fun g1 z1 d1=>?_
 obtain ⟨z1,z2,z3,z4⟩:=z1
 exact q g1 ⟨z1,f2,z2,z3⟩ z4 d1
theorem pH {l:List Env} (hh:Heap.HeldW B l x k a0 L s.heap) (dx:F0 s.heap x od) (q:∀ g,Heap.FlyingW B l x k a0 g → s.heap.UpToSlots g → F0 g x od → Q () { s with heap:=g }):wpAny M A (setFlight (.ref x) none) Q E s:=by
 obtain ⟨f1,f2,f3,f4⟩:=hh
 exact N9 f1 f3 f4 dx fun g y1 y2 y3 y4 d=>q g ⟨y1,f2,y2,y3⟩ y4 d
theorem cS {l:List Env} (hh:Heap.FlyingW B l x k a0 s.heap) (dx:F0 s.heap x od) (q:∀ g,Heap.FlyingW B l x k a0 g → s.heap.UpToSlots g → F0 g x od → Q () { s with heap:=g }):wpAny M A (setFlight (.ref x) none) Q E s:=by
 obtain ⟨f1,f2,f3,f4⟩:=hh
 exact N9 f1 f3 f4.at dx fun g y1 y2 y3 y4 d=>q g ⟨y1,f2,y2,y3⟩ y4 d
theorem bT {ob:Obj} {fs:Array Value} (a1:A.frames = some (env :: up)) (a2:s.heap.FunFrames B (env :: up)) (a3:env.frame = some L) (b1:s.heap.get? x = some ob) (b2:B.StaysIn s.heap) (b3:B.get? x = none)
  (b4:ob.data = .fields fs) (b5:fs[1]? = some .none) (b6:fs[0]? = some a0) (q:∀ g,Heap.FlyingW B up x ob.cls a0 g → s.heap.UpToSlots g → F0 g x ob.dict → Q () { s with heap:=g }):wpAny M A (leaving env (.ref x)) Q E s:=by
 unfold leaving noteFrame
 simp only [a3]
 refine wpAny_bind (wpAny_bind (wpAny_field b1 b4 b5 ?_))
 rw [if_neg (by decide)]
 refine aR a1 a2 a3 b1 b2 b3 b4 (Array.getElem?_eq_some_iff.mp b5).1 b6 fun g1 z1 d1=>?_
 obtain ⟨z1,z2,z3,z4⟩:=z1
 refine N9 (s:={ s with heap:=g1 }) z1 z2 z3 d1 fun g2 y1 y2 y3 y4 d2=>?_
 obtain ⟨_,_,y2'⟩:=y2
 exact q g2 ⟨y1,b3,y2',y3⟩ (Heap.UpToSlots.trans (fun b o e n=>z4 b o e n) y4) d2
end
end L2
namespace L2
open PySem PySem.Spec PyProof.Rows
def Q1:List Value → Bool
 | .ref _ :: r=>Q1 r
 | l=>l == jC
def Z2 (K:PySem.W.Frag) (C fI:Addr):Bool:=match K.lookup C with
 | some ⟨.type "type",_,.cls cd,sl⟩=>(match cd.mro,sl.toList with
  | .ref C' :: bm,[_,_,_,_,some (.builtin n),_]=>C' == C && n == "ValueError.__new__" && !cd.hasDel && cd.hasDict && PySem.W.tailIn K jC bm && PySem.W.nsOkIn K cd.ns && PySem.W.nsIn K cd.ns "__init__" == some (some (.ref fI)) && Q1 bm
  | _,_=>false)
 | _=>false
theorem nY {K:PySem.W.Frag} {h:Heap} {N:Addr} {m:Str → Option Value} {n:Str} {v:Value} (X:K.In h) (G:h.Ns N m) (e:PySem.W.nsIn K N n = some (some v)):m n = some v:=by
 obtain ⟨o,es,ep,ho,hd,_,hf⟩:=G
 unfold PySem.W.nsIn at e
 split at e
 ·rename_i c d es' n' sl q
  have z:=X _ _ q
  rw [ho] at z
  cases z
  cases hd
  split at e
  ·rename_i en he
   cases e
   rw [← hf]
   unfold nsFind findBy
   rw [← Array.find?_toList,he]
   rfl
  ·split at e <;> cases e
 ·cases e
structure mJ (C fI:Addr) (h:Heap):Prop where
 obj:∃ bm N nm q bs sn sub ab col dd k0 k1 k2 k3 k5 mN,h.get? C = some (excClassObj nm q C N bs bm true sn sub ab col dd k0 k1 k2 k3 k5 "ValueError.__new__") ∧ h.Ns N mN ∧ mN "__init__" = some (.ref fI) ∧ OwnTail h jC bm ∧ Q1 bm = true
theorem ix {K:PySem.W.Frag} {C fI:Addr} {h:Heap} (X:K.In h) (q:Z2 K C fI = true):mJ C fI h:=by
 unfold Z2 at q
 split at q
 ·rename_i dd cd sl ho
  split at q
  ·rename_i C' bm k0 k1 k2 k3 n k5 hm hs
   simp only [Bool.and_eq_true,beq_iff_eq,Bool.not_eq_true'] at q
   obtain ⟨⟨⟨⟨⟨⟨⟨rfl,rfl⟩,hdel⟩,hdc⟩,ht⟩,hok⟩,hni⟩,hrf⟩:=q
   obtain ⟨nm,bs,mro,ns,qn,hd,sn,sub,ab,col,del⟩:=cd
   dsimp only at hm hdel hdc hok hni
   subst hm hdel hdc
   have hsl:sl = #[k0,k1,k2,k3,some (.builtin "ValueError.__new__"),k5]:=by
    obtain ⟨l⟩:=sl
    simp only at hs
    rw [hs]
   subst hsl
   have N1:h.Ns ns _:=.of_isNs (PySem.W.isNs_of_in X hok)
   exact ⟨bm,ns,nm,qn,bs,sn,sub,ab,col,dd,k0,k1,k2,k3,k5,_,X _ _ ho,N1,nY X N1 hni,PySem.W.tail_of_in X ht,hrf⟩
  ·cases q
 ·cases q
end L2
namespace L2
open PySem
abbrev L5 (C t:Addr) (od:Option Addr):Obj:={ cls:=.ref C,dict:=od,data:=.fields #[.ref t,.none,.none,.none,.bool false,.none] }
section
variable {prog:Program} {w:World} {A:Around} {E:Value → Shared → Prop} {h:Heap} {g:Array GenState} {d:Drawn} {t:Nat} {os:OsState}
variable {nm q:Str} {C N fI:Addr} {bs bm:List Value} {hdct:Bool} {sn:List Str} {sub:List Value} {ab:Bool} {col:Option Bool} {dd:Option Addr} {k0 k1 k2 k3 k5:Option Value}
set_option maxHeartbeats 4000000 in
theorem gj (T:OwnTail h jC bm) {mN:Str → Option Value} {rest:List Value} {oI:Obj} {Q:Fin → Shared → Prop}
  (hC:h.get? C = some (excClassObj nm q C N bs bm hdct sn sub ab col dd k0 k1 k2 k3 k5 "ValueError.__new__")) (hn:h.Ns N mN) (hi:mN "__init__" = some (.ref fI)) (hfI:h.get? fI = some oI) (hfc:oI.cls = .type "function")
  (hq:∀ h' e,(∀ b o,h.get? b = some o → h'.get? b = some o) → h.objs.size ≤ e → (∃ tt,h'.get? e = some (L5 C tt none)) →
   wpAny (model prog w) A (call (.ref fI) (.ref e :: rest)) (fun r s'=>r = .none ∧ Q (.done (.ret (.ref e))) s') E ⟨h',g,d,t,os⟩) (hrest:rest.length ≤ sizeLine) :
  wpAny (model prog w) A (Builtin.«type.__call__» ⟨.ref C :: rest,[]⟩) Q E ⟨h,g,d,t,os⟩:=by
 have F:=PySem.F.excBase_ValueError
 repeat (first | with_reducible refine wpAny_loadPart_at hC ?_ | with_reducible refine wpAny_madeBy_exc hC ?_ | wp_step)
 refine codeAny_call_builtin_code (Code.quiet_builtin _ F.quiet) (wpAny_check_new_subT F T hC ?_)
 refine codeAny_exc_new_subT F T hC ?_ hrest
 show wpAny _ _ _ _ _ _
 let tp:Obj:={ cls:=.type "tuple",data:=.seq rest.toArray }
 let eo:Obj:={ cls:=.ref C,data:=.fields #[.ref h.objs.size,.none,.none,.none,.bool false,.none] }
 have kp:∀ b o,h.get? b = some o → ((h.push tp).push eo).get? b = some o:=fun b o z=>Heap.get?_push_of_some _ (Heap.get?_push_of_some _ z)
 have C1:=kp _ _ hC
 have I1:=kp _ _ hfI
 have N1:((h.push tp).push eo).Ns N mN:=let ⟨o,es,ep,z,r⟩:=hn; ⟨o,es,ep,kp _ _ z,r⟩
 have G1:((h.push tp).push eo).get? (h.objs.size + 1) = some eo:=by
  show ((h.push { cls:=.type "tuple",data:=.seq rest.toArray }).push _).get? (h.objs.size + 1) = some _
  heap_get
 have c1:(Value.ref C :: bm).contains (.ref C) = true:=by simp
 have T1:=T.keeps kp
 unfold isInstance
 repeat (first | with_reducible refine wpAny_loadPart_at G1 ?_ | (with_reducible refine wpAny_isSubtype_exc C1 ?_; rw [c1]) | wp_step)
 show wpAny _ _ (typeLookup (.ref C) _) _ _ _
 refine wpAny_typeLookup_tail C1 N1 T1 F.mroIs F.init.lookup ?_
 rw [hi]
 refine wpAny_holding (wpAny_bind ?_)
 unfold bindSpecial
 refine wpAny_bind (wpAny_typeOf (T:="function") ⟨_,I1,hfc⟩ ?_)
 rw [if_pos (by decide)]
 refine wpAny_pure (wpAny_bind (wpAny_mono (hq _ (h.objs.size + 1) kp (Nat.le_succ _) ⟨_,G1⟩) (fun r s' hr=>?_) fun _ _ z=>z))
 obtain ⟨rfl,hQ⟩:=hr
 wp_walk
 exact hQ
theorem jY (T:OwnTail h jC bm) {mN:Str → Option Value} {rest:List Value} {oI:Obj} {Q:Value → Shared → Prop}
  (hC:h.get? C = some (excClassObj nm q C N bs bm hdct sn sub ab col dd k0 k1 k2 k3 k5 "ValueError.__new__")) (hn:h.Ns N mN) (hi:mN "__init__" = some (.ref fI)) (hfI:h.get? fI = some oI) (hfc:oI.cls = .type "function")
  (hq:∀ h' e,(∀ b o,h.get? b = some o → h'.get? b = some o) → h.objs.size ≤ e → (∃ tt,h'.get? e = some (L5 C tt none)) →
   wpAny (model prog w) (A.under (.builtin "type.__call__" ⟨.ref C :: rest,[]⟩)) (call (.ref fI) (.ref e :: rest)) (fun r s'=>r = .none ∧ Q (.ref e) s') E ⟨h',g,d,t,os⟩) (hrest:rest.length ≤ sizeLine) :
  wpAny (model prog w) A (call (.ref C) rest) Q E ⟨h,g,d,t,os⟩:=by
 have f1:=tc_lookup
 have f2:=tc_bind (.ref C)
 have hT:(⟨h,g,d,t,os⟩:Shared).TypeIs (.ref C) "type":=⟨_,hC,rfl⟩
 refine wpAny_call (codeAny_of_tree ?_)
 show wpAny _ _ (callAny (.ref C) _) _ _ _
 repeat (any_goals (first | assumption | with_reducible refine wpAny_loadPart_at hC ?_ | wp_step))
 refine ⟨rfl,?_⟩
 refine codeAny_call_builtin_at (Code.quiet_builtin _ (by decide +kernel)) entry_typeCall (wpAny_check_type_call_sub hC (gj T hC hn hi hfI hfc (fun h' e a1 a2 a3=>?_) hrest))
 exact hq h' e a1 a2 a3
end
section
variable {M:Model} {A:Around} {E:Value → Shared → Prop} {s:Shared} {env:Env} {C:Addr}
theorem aZ {x:Sem Value} {Q:Flow → Shared → Prop} (hh:A.handled = none)
  (h:wpAny M A x (fun v s1=>∃ e t od fI,v = .ref e ∧ mJ C fI s1.heap ∧ s1.heap.get? e = some (L5 C t od) ∧ E (.ref e) s1) E s) :
  wpAny M A (raiseStmt env (some x) none) Q E s:=by
 unfold raiseStmt
 refine wpAny_bind (wpAny_mono h (fun v s1 z=>?_) fun _ _ y=>y)
 obtain ⟨e,t,od,fI,rfl,Z,he,hE⟩:=z
 obtain ⟨bm,N,nm,q,bs,sn,sub,ab,col,dd,k0,k1,k2,k3,k5,mN,hC,_,_,T,_⟩:=Z.obj
 have hcB:(Value.ref C :: bm).contains (.type "BaseException") = true:=by rw [List.contains_cons,T.hasType PySem.F.excBase_ValueError.hasBase,Bool.or_true]
 obtain ⟨hp,g,d,tk,os⟩:=s1
 repeat (first | with_reducible refine wpAny_loadPart_at he ?_ | with_reducible refine wpAny_loadPart_at hC ?_ | (with_reducible refine wpAny_isSubtype_exc hC ?_; rw [hcB]) | wp_step)
 exact wpAny_raiseNew_none hh hE
end
section
variable {prog:Program} {w:World} {A:Around} {E:Value → Shared → Prop} {s:Shared} {env:Env} {C fI:Addr}
theorem gN {x:Str} {np cpos pos:Pos} {args:List Expr} {Q:Flow → Shared → Prop} (hh:A.handled = none) (hplain:(backTo cpos (starEach args env)).any (·.1) = false)
  (h:wpAny (model prog w) A (eval (.Name x np) env) (fun f s1=>f = .ref C ∧ wpAny (model prog w) A (evalArgs (.ref C) true (backTo cpos (starEach args env)) [])
   (fun a s2=>a.kw = [] ∧ a.pos.length ≤ sizeLine ∧ mJ C fI s2.heap ∧ (∃ oI,s2.heap.get? fI = some oI ∧ oI.cls = .type "function") ∧
    ∀ h' e,(∀ b o,s2.heap.get? b = some o → h'.get? b = some o) → s2.heap.objs.size ≤ e → (∃ tt,h'.get? e = some (L5 C tt none)) →
     wpAny (model prog w) (A.under (.builtin "type.__call__" ⟨.ref C :: a.pos,[]⟩)) (call (.ref fI) (.ref e :: a.pos)) (fun r s'=>r = .none ∧ mJ C fI s'.heap ∧ (∃ t od,s'.heap.get? e = some (L5 C t od)) ∧ E (.ref e) s') E { s2 with heap:=h' }) E s1) E s) :
  wpAny (model prog w) A (exec (.Raise (some (.Call (.Name x np) args [] cpos)) none pos) env) Q E s:=by
 rw [arm_exec_Raise]
 first
  | refine wpAny_bind (wpAny_standAt (aZ (C:=C) hh (wpAny_bind (wpAny_mono (wpAny_Call_ofName (wpAny_mono h (fun f s1 z=>?_) fun _ _ y=>y)) (fun v s3 y3=>wpAny_bind (wpAny_standAt (wpAny_pure y3))) fun _ _ y=>y))))
  | (simp only [evalOpt,Option.map]; refine wpAny_bind (wpAny_standAt (aZ (C:=C) hh (wpAny_bind (wpAny_mono (wpAny_Call_ofName (wpAny_mono h (fun f s1 z=>?_) fun _ _ y=>y)) (fun v s3 y3=>wpAny_bind (wpAny_standAt (wpAny_pure y3))) fun _ _ y=>y)))))
  | (refine wpAny_bind (wpAny_standAt (aZ (C:=C) hh ?_)); refine wpAny_bind (wpAny_mono (wpAny_Call_ofName (wpAny_mono h (fun f s1 z=>?_) fun _ _ y=>y)) (fun v s3 y3=>wpAny_bind (wpAny_standAt (wpAny_pure y3))) fun _ _ y=>y))
 obtain ⟨rfl,z⟩:=z
 unfold callWith
 refine wpAny_bind (wpAny_holding (wpAny_mono z (fun a s2 y=>wpAny_bind (wpAny_standAt ?_)) fun _ _ y=>y))
 obtain ⟨apos,akw⟩:=a
 obtain ⟨hkw,hlen,Z,⟨oI,hfI,hfc⟩,y⟩:=y
 obtain rfl:akw = []:=hkw
 obtain ⟨bm,N,nm,q,bs,sn,sub,ab,col,dd,k0,k1,k2,k3,k5,mN,hC,hn,hi,T,_⟩:=Z.obj
 obtain ⟨hp,g,d,tk,os⟩:=s2
 simp only [hplain]
 refine wpAny_bind (wpAny_keeperOf_exc hC ?_)
 refine wpAny_bind (jY T hC hn hi hfI hfc (fun h' e a1 a2 a3=>?_) hlen)
 refine wpAny_mono (y h' e a1 a2 a3) (fun r s' u=>?_) fun _ _ u=>u
 obtain ⟨rfl,u1,⟨t,od,u2⟩,u3⟩:=u
 exact ⟨rfl,wpAny_bind (wpAny_holding (wpAny_point (wpAny_pure ⟨e,t,od,fI,rfl,u1,u2,u3⟩)))⟩
end
end L2
namespace L2
open PySem PySem.Spec PyProof.Rows
open PySem.W (Looks InstAt)
open PySem.Builtin PySem.Builtin.ObjectAttr
theorem fH (self:Value):∀ {l:List Value},Q1 l = true → refuseLoop self "__setattr__" l = pure ()
 | .ref c :: r,e=>by rw [refuseLoop_ref]; exact fH self (l:=r) e
 | [],e=>by cases e
 | .none :: _,e=>by cases e
 | .bool _ :: _,e=>by cases e
 | .int _ _ :: _,e=>by cases e
 | .str _ _ :: _,e=>by cases e
 | .bytes _ _ :: _,e=>by cases e
 | .float _ _ :: _,e=>by cases e
 | .builtin _ :: _,e=>by cases e
 | .type n :: r,e=>by
  rw [show (Value.type n :: r) = jC from beq_iff_eq.mp e]
  exact PySem.F.store_ValueError.passes self
structure gf (K:PySem.W.Frag) (C:Addr):Prop where
 cd:∃ cd,PySem.W.clsIn K C = some cd ∧ Q1 cd.mro = true ∧ cd.hasDict = true
 sa:PySem.W.findIn K (.ref C) "__setattr__" = some (some (.builtin "object.__setattr__"))
 hd:PySem.W.hasDictIn K C = true
section
variable {prog:Program} {w:World} {A:Around} {E:Value → Shared → Prop} {s:Shared} {K:PySem.W.Frag} {x C:Addr} {R:Result → Shared → Prop}
theorem jy {ox:Obj} {od:Option Obj} {name:Str} {tk:Tok} {v:Value} (X:K.In s.heap) (I:InstAt s.heap x ox C od) (Z:gf K C) (mo:PySem.W.mroIn K C (.type "object") = some true) (ht:PySem.W.findIn K (.ref C) name = some none)
  (h:∀ b,wpAny (model prog w) A.in1 (storeInOwnDict (.ref x) (.ref C) (.str name tk) name v b)
   (fun fin s'=>match fin with | .done f=>R (.ok f) s' | .again c'=>c'.quiet = true ∧ codeAny (model prog w) A c' R s') (fun e s'=>R (.error e) s') s) :
  codeAny (model prog w) A (.call (.builtin "object.__setattr__") ⟨[.ref x,.str name tk,v],[]⟩) R s:=by
 have SF:=PySem.F.store_object
 obtain ⟨cd,hc,ho,_⟩:=Z.cd
 have sub:Looks (model prog w) s.heap (isInstance (.ref x) (.type "object")) true:=I.type.andThen (PySem.W.looks_mroIn X mo)
 refine codeAny_call_builtin SF.slot.plain SF.entry (@PySem.W.check_slot (model prog w) _ _ s "object.__setattr__" "object" "__setattr__" (.ref x) [.str name tk,v] [] _ SF.kind SF.split sub (SF.args (.ref x) (.str name tk) v) ?_)
 have hm:Looks (model prog w) s.heap (mroOf (.ref C)) cd.mro:=(PySem.W.looks_clsIn X hc).andThen .now
 rw [PySem.W.osa_eq,refuse_eq]
 refine wpAny_bind (wpAny_bind (I.type.here (wpAny_bind (hm.here ?_))))
 rw [fH _ ho]
 refine wpAny_pure (wpAny_bind (I.type.here (wpAny_bind ((PySem.W.looks_findIn X ht).here (wpAny_bind (wpAny_pure ?_))))))
 exact h _
theorem jQ {t:Addr} {name:Str} {v:Value} {Q:Unit → Shared → Prop} (X:K.In s.heap) (hx:s.heap.get? x = some (L5 C t none)) (Z:gf K C) (mo:PySem.W.mroIn K C (.type "object") = some true) (ht:PySem.W.findIn K (.ref C) name = some none)
  (h:∀ h',h'.get? x = some (L5 C t (some s.heap.objs.size)) → h'.Ns1 s.heap.objs.size (fun y=>if y = name then some v else none) → (∀ b o,b ≠ x → s.heap.get? b = some o → h'.get? b = some o) → Q () { s with heap:=h',toks:=s.toks + 2 }) :
  wpAny (model prog w) A (setAttr (.ref x) name v) Q E s:=by
 have J:InstAt s.heap x (L5 C t none) C none:=⟨hx,rfl,rfl,trivial⟩
 refine PySem.W.set_plain X J Z.sa (jy (s:={ s with toks:=s.toks + 1 }) X J Z mo ht fun b=>?_)
 obtain ⟨cd,hc,_,hd'⟩:=Z.cd
 refine wpAny_bind (wpAny_pure (wpAny_bind (wpAny_bind (wpAny_loadPart hx (wpAny_bind (Looks.here (s:={ s with toks:=s.toks + 1 }) (PySem.W.looks_clsIn X hc) ?_))))))
 rw [hd']
 have x1:(s.heap.push { cls:=.type "dict",data:=.dict #[] }).get? x = some (L5 C t none):=Heap.get?_push_of_some _ hx
 have nx:x ≠ s.heap.objs.size:=Nat.ne_of_lt (Heap.lt_size hx)
 show wpAny _ _ ((if (!true || !typeHasDict (Value.ref C)) = true then _ else _)) _ _ _
 rw [if_neg (by simp [typeHasDict])]
 refine wpAny_bind (wpAny_alloc' ?_)
 refine wpAny_bind (wpAny_update' x1 ?_)
 refine wpAny_pure ?_
 show wpAny _ _ (storeInDict s.heap.objs.size (.str name s.toks) name v) _ _ _
 have gx:((s.heap.push { cls:=.type "dict",data:=.dict #[] }).update x fun o=>{ cls:=o.cls,dict:=some s.heap.objs.size,data:=o.data,slots:=o.slots }).get? x = some (L5 C t (some s.heap.objs.size)):=Heap.get?_update_self _ x1 rfl
 have gd:((s.heap.push { cls:=.type "dict",data:=.dict #[] }).update x fun o=>{ cls:=o.cls,dict:=some s.heap.objs.size,data:=o.data,slots:=o.slots }).get? s.heap.objs.size = some { cls:=.type "dict",data:=.dict #[] } :=
  (Heap.get?_update_ne _ _ _ _ nx.symm).trans (Heap.get?_push_at rfl rfl)
 have ko:∀ b o,b ≠ x → s.heap.get? b = some o → ((s.heap.push { cls:=.type "dict",data:=.dict #[] }).update x fun o=>{ cls:=o.cls,dict:=some s.heap.objs.size,data:=o.data,slots:=o.slots }).get? b = some o:=fun b o n e=>(Heap.get?_update_ne _ _ _ _ n).trans (Heap.get?_push_of_some _ e)
 generalize ((s.heap.push { cls:=.type "dict",data:=.dict #[] }).update x fun o=>{ cls:=o.cls,dict:=some s.heap.objs.size,data:=o.data,slots:=o.slots }) = g1 at gx gd ko ⊢
 have nd:g1.Ns s.heap.objs.size (fun _=>none):=⟨_,#[],_,gd,rfl,fun e he=>absurd he (by simp),fun _=>rfl⟩
 unfold storeInDict newKeyGuard
 refine wpAny_bind (wpAny_pure (wpAny_bind (wpAny_nsSet1 (Heap.Ns1.of_empty nd) fun h' hn' hs=>?_)))
 obtain ⟨oD,esD,epD,hoD,hdD,hcD⟩:=hn'.count (PySem.Within.cons name v PySem.Within.nil)
 refine wpAny_bind (wpAny_lookBehind hoD (by rw [hdD]; exact pastItsLine_dict (Nat.le_trans hcD (by rw [List.length_cons,List.length_nil,sizeLine_eq]; lia))) ?_)
 exact wpAny_pure (h h' ((hs.2 x nx).trans gx) hn' fun b o n e=>(hs.2 b (Nat.ne_of_lt (Heap.lt_size e))).trans (ko b o n e))
theorem rM {o:Obj} {dx:Addr} {mA:Str → Option Value} {name:Str} {v:Value} {expr:Bool} {Q:Value → Shared → Prop} (X:K.In s.heap) (Z:dh K C) (N:gf K C) (hx:s.heap.get? x = some o) (hc:o.cls = .ref C) (hf:∃ fs,o.data = .fields fs) (hd:o.dict = some dx) (hn:s.heap.Ns1 dx mA)
  (ht:PySem.W.findIn K (.ref C) name = some none) (hv:mA name = some v) (hh:PySem.W.handedIn v = true) (h:Q v { s with toks:=s.toks + 1 }) :
  wpAny (model prog w) A (getAttr (.ref x) name expr) Q E s:=by
 obtain ⟨od,ho,hl⟩:=cI hn
 obtain ⟨fs,hfs⟩:=hf
 have J:InstAt s.heap x o C (some od):=⟨hx,hc,by obtain ⟨a,b,c,d⟩:=o; cases hfs; rfl,by rw [hd]; exact ho⟩
 have Lf:=PySem.W.looks_find (M:=model prog w) X J (PySem.W.findObj_own N.hd ht rfl (by rw [hl,hv]))
 obtain ⟨hh0,g,dr,t,os⟩:=s
 have L0:Looks (model prog w) hh0 (typeOf (.ref x)) (.ref C):=hc ▸ (Looks.ld hx).andThen .now
 have L1:=PySem.W.looks_findIn (M:=model prog w) X Z.ga
 have L2:=PySem.W.looks_findIn (M:=model prog w) X Z.gn
 have L4:=PySem.W.looks_mroIn (M:=model prog w) X Z.mb
 have f3:=PySem.F.attr_ValueError.ga.bind (.ref x)
 have hk:builtinKind "BaseException.__getattribute__" = some .slot:=by decide +kernel
 have hsplit:splitId "BaseException.__getattribute__" = some ("BaseException","__getattribute__"):=by decide +kernel
 unfold getAttr getAttrBy
 refine wpAny_bind (wpAny_mkText (wpAny_holding (wpAny_bind (L0.at (wpAny_bind (L1.at ?_))))))
 show wpAny _ _ (getAttrByItsOwn _ _ _ _ _ _) _ _ _
 unfold getAttrByItsOwn
 refine wpAny_bind ?_
 show wpAny _ _ (typeLookup _ _) _ _ _
 refine L2.at ?_
 refine wpAny_bind (wpAny_attempt (wpAny_holding ?_))
 unfold callGetattribute
 rw [if_neg (by simp [onTheHeap])]
 unfold boundAndCalled
 refine wpAny_bind ?_
 rw [f3]
 refine wpAny_pure ?_
 refine wpAny_call (codeAny_call_builtin PySem.F.attr_ValueError.ga.plain PySem.F.entry_bexc_ga ?_)
 have ha:=PySem.F.args_bexc_ga (.ref x) (.str name t)
 simp only [checkBuiltinCall,hk,hsplit]
 refine wpAny_bind ?_
 unfold isInstance
 refine wpAny_bind (L0.at (L4.at ?_))
 simp only [Bool.not_true,Bool.false_eq_true,if_false]
 refine wpAny_mono (Q:=fun _ s1=>s1 = ⟨hh0,g,dr,t + 1,os⟩) (E:=fun _ _=>False) ?_ (fun _ s1 z=>?_) fun _ _ z=>z.elim
 ·cases hs:Manifest.signature? "BaseException.__getattribute__" with
  | none=>exact wpAny_pure rfl
  | some sig =>
   simp only [argsOk,hs] at ha
   have h2:Bind.checkArgs "BaseException.__getattribute__" sig ⟨[.ref x,.str name t],[]⟩ = pure ():=ha
   show wpAny _ _ (Bind.checkArgs "BaseException.__getattribute__" sig ⟨[.ref x,.str name t],[]⟩) _ _ _
   rw [h2]
   exact wpAny_pure rfl
 subst z
 unfold Builtin.«object.__getattribute__»
 refine wpAny_bind (wpAny_pure (wpAny_bind (wpAny_pure (wpAny_bind (L0.at (wpAny_bind (Lf.at (wpAny_pure ?_))))))))
 show wpAny _ _ (handedOut v) _ _ _
 rw [PySem.W.handedOut_of hh]
 exact wpAny_pure h
end
end L2
namespace L2
open PySem PySem.Spec PyProof.Rows
def W2 (e C:Addr) (od:Option Addr):HO:=.ext fun h=>∃ t,h.get? e = some (L5 C t od)
def XdO (dx:Addr) (fs:List (Str × V)):HO:=.ext fun h=>∃ mA,h.Ns1 dx mA ∧ (∀ f,T2 (fs.lookup f) (mA f)) ∧ PySem.Within mA (fs.map (·.1))
def aw (e C:Addr) (od:Option Addr):HO:=.ext fun h=>∃ o vs,h.get? e = some o ∧ o.cls = .ref C ∧ o.data = .fields vs ∧ o.dict = od
theorem iL {P:Program} {w:World} {H:Hp} {h:Heap} {e C t:Addr} {od:Option Addr} (g:h.get? e = some (L5 C t od)):p3 P w H h e (W2 e C od):=⟨⟨t,g⟩,⟨_,g⟩,fun h1 h2 ⟨t',g'⟩ k=>⟨t',k _ g'⟩⟩
theorem oR {h1 h2:Heap} {d:Addr} {m:Str → Option Value} (n:h1.Ns1 d m) (k:∀ o,h1.get? d = some o → h2.get? d = some o):h2.Ns1 d m:=by
 obtain ⟨o,es,ep,e,r⟩:=n
 exact ⟨o,es,ep,k _ e,r⟩
theorem qv {P:Program} {w:World} {H:Hp} {h:Heap} {dx:Addr} {fs:List (Str × V)} {mA:Str → Option Value} (n:h.Ns1 dx mA) (r:∀ f,T2 (fs.lookup f) (mA f)) (wi:PySem.Within mA (fs.map (·.1))):p3 P w H h dx (XdO dx fs):=by
 obtain ⟨o,es,ep,e,r'⟩:=id n
 exact ⟨⟨mA,n,r,wi⟩,⟨_,e⟩,fun h1 h2 ⟨m,n1,r1,w1⟩ k=>⟨m,oR n1 k,r1,w1⟩⟩
section
variable {X:Cx} {o value:Expr} {ta tv:TE} {f:Str} {pos pos':Pos}
def sX0 (K:PySem.W.Frag) (ta tv:TE) (f:Str):TS:=fun D σ H=>tv σ H fun y H1=>ta σ H1 fun x H2=>∃ a C,x = .ref a ∧ H2 a = some (W2 a C none) ∧ gf K C ∧ PySem.W.mroIn K C (.type "object") = some true ∧ PySem.W.findIn K (.ref C) f = some none ∧
 ∀ dx,H2 dx = none → D.nx σ (upd (upd H2 a (W2 a C (some dx))) dx (XdO dx [(f,y)]))
theorem re (K:PySem.W.Frag) (ha:PE X o ta) (hv:PE X value tv) (hs:swapsWith value (some (.Attribute o f pos')) pos.line X.env = pure false) (hK:X.K = K:=by rfl):PS X (.Assign [.Attribute o f pos'] value pos) (sX0 K ta tv f):=by
 subst hK
 intro pins s σ H D I h
 refine plainObj_wpAny_Assign_Attribute (thn (hv pins s σ H _ I h) fun u s1 ⟨y,H1,I1,ry,q⟩=>thn (ha pins s1 σ H1 _ I1 q) fun ov s2 ⟨x,H2,I2,rx,a,C,ex,ea,Z,mo,nf,q2⟩=>?_) hs
 subst ex
 obtain rfl:ov = Value.ref a:=rx
 obtain ⟨⟨t,g⟩,_,_⟩:=(show p3 X.prog X.w H2 s2.heap a (W2 a C none) from I2.hok a _ ea)
 refine jQ I2.kIn g Z mo nf fun h' g' n' kp=>?_
 have fr:H2 s2.heap.objs.size = none:=I2.hok.fresh (Nat.le_refl _)
 have na:s2.heap.objs.size ≠ a:=Nat.ne_of_gt (Heap.lt_size g)
 have mu:Mut (H2 a):=by rw [ea]; exact True.intro
 have new1:p3 X.prog X.w (upd H2 a (W2 a C (some s2.heap.objs.size))) h' a (W2 a C (some s2.heap.objs.size)):=iL g'
 have ok1:=I2.hok.write (e:=a) mu (.inl rfl) (fun b u hb z=>kp b u hb z) ⟨_,g'⟩ new1
 have fr1:upd H2 a (W2 a C (some s2.heap.objs.size)) s2.heap.objs.size = none:=by rw [g7 na]; exact fr
 refine ⟨σ,_,I2.call' (s':={ s2 with heap:=h',toks:=s2.toks + 2 }) (ch:=[]) rfl (Un.track (Un.write (e:=a) mu (.inl rfl) (fun b u hb z=>kp b u hb z) ⟨_,g'⟩) (Nat.le_refl _) fr) (HOk.track ok1 fr1 (qv (fs:=[(f,y)]) n' (fun g=>?_) ?_)) I2.bare (fun b z=>nomatch z),q2 _ fr⟩
 ·by_cases z:g = f
  ·subst z
   simp only [List.lookup,beq_self_eq_true,if_true]
   exact ry
  ·have z':(g == f) = false:=beq_eq_false_iff_ne.mpr z
   simp only [List.lookup,z',if_neg z]
   exact True.intro
 ·exact PySem.Within.cons f u PySem.Within.nil
def tXf (K:PySem.W.Frag) (ta:TE) (f:Str):TE:=fun σ H Q=>ta σ H fun x H1=>∃ a C dx fs v,x = .ref a ∧ H1 a = some (aw a C (some dx)) ∧ H1 dx = some (XdO dx fs) ∧ dh K C ∧ gf K C ∧ PySem.W.findIn K (.ref C) f = some none ∧ fs.lookup f = some v ∧ Q v H1
theorem oC (K:PySem.W.Frag) (he:PE X o ta) (hK:X.K = K:=by rfl) (hb:attributeBase o f X.env (eval o X.env) = eval o X.env:=by rfl):PE X (.Attribute o f pos) (tXf K ta f):=by
 subst hK
 intro pins s σ H Q I h
 refine mQ hb (thn (he pins s σ H _ I h) fun u s1 ⟨x,H1,I1,rx,a,C,dx,fs,v,ex,ea,ed,Z,N,nf,l,q⟩=>?_)
 subst ex
 obtain rfl:u = Value.ref a:=rx
 obtain ⟨⟨o,vs,g,hc,hd,hdd⟩,_,_⟩:=(show p3 X.prog X.w H1 s1.heap a (aw a C (some dx)) from I1.hok a _ ea)
 obtain ⟨⟨mA,n,r,wi⟩,_,_⟩:=(show p3 X.prog X.w H1 s1.heap dx (XdO dx fs) from I1.hok dx _ ed)
 obtain ⟨u',hu,ru⟩:=T2.some_of (v:=v) (o:=mA f) (by rw [← l]; exact r f)
 exact rM I1.kIn Z N g hc ⟨vs,hd⟩ hdd n nf hu (jT ru) ⟨v,H1,I1.tok _,ru,q⟩
def mq (K:PySem.W.Frag):List V → Hp → VK → Prop:=fun xs H Q=>∃ ea C od d c b,xs = [.ref ea,d] ∧ (∀ u,o9 d u → u = c) ∧ H ea = some (aw ea C od) ∧ dh K C ∧ PySem.W.kitOne K (.ref C) c = some b ∧ Q (.bl b) H
theorem X8 (K:PySem.W.Frag) (h:X.K = K:=by rfl):A4 X (.builtin "isinstance") (mq K):=by
 subst h
 intro pins s σ H xs us Q I r h
 obtain ⟨ea,C,od,d,c,b,rfl,hd,he,Z,e,q⟩:=h
 obtain ⟨u,u',rfl,r1,r2⟩:=ah r
 cases (show u = Value.ref ea from r1)
 cases hd u' r2
 obtain ⟨⟨o,vs,ho,hc,_⟩,_⟩:=(show p3 X.prog X.w H s.heap ea (aw ea C od) from I.hok ea _ he)
 exact PySem.W.kia_one (eU Z) I.kIn ⟨o,ho,hc⟩ e (fun z=>nomatch z) fun tk=>⟨.bl b,H,I.tok _,rfl,q⟩
end
end L2
namespace L2
open PySem PySem.Spec PyProof.Rows
def jh (H:Hp) (e:Addr):Hp:=fun b=>if b = e then none else H b
theorem kc {H:Hp} {e:Addr}:jh H e e = none:=if_pos rfl
theorem M5 {H:Hp} {e b:Addr} (h:b ≠ e):jh H e b = H b:=if_neg h
def CXF (P:Program) (w:World):CXT:=fun outer H s E e s'=>∃ (ea C:Addr) (a0:Value) (B:Heap) (H':Hp) (od:Option Addr),
 e = .ref ea ∧ s'.os = s.os ∧ AllBare s'.gens ∧ Heap.FlyingW B outer ea (.ref C) a0 s'.heap ∧ F0 s'.heap ea od ∧ Fly (frs outer) H H' s.heap B s'.heap ∧ HOk P w H' B ∧ E (.ref C) od H'
def hZ (X:Cx) (E:St → XK):Prop:=∀ (pins:List (Addr × Obj)) (σ:St) (H:Hp) (s:Shared) (e:Value) (s':Shared),Inv X pins σ H s → CXF X.prog X.w X.stack H s (E σ) e s' → X.xe e s'
def oM (X:Cx) (E:XK):Prop:=∀ (pins:List (Addr × Obj)) (σ:St) (H:Hp) (s:Shared) (e C:Addr) (od:Option Addr),Inv X pins σ H s → H e = some (W2 e C od) → X.s₀.heap.get? e = none → E (.ref C) od (jh H e) → X.xe (.ref e) s
section
variable {P:Program} {w:World} {K:PySem.W.Frag} {mg:Str → Option Value} {base:Heap} {N:List Str} {qual:Str} {scope:Scope} {f:Addr} {cd:Value} {A:Around} {outer:List Env} {s:Shared} {H:Hp} {E:XK}
theorem lc:oM (M6 (CXF P w) P w K mg base N qual scope f cd A outer s H E) E:=by
 intro pins σ H1 s1 e C od I he h0 hE
 show wpAny _ _ (leaving _ (.ref e)) _ _ _
 have fr:frs (M6 (CXF P w) P w K mg base N qual scope f cd A outer s H E).stack = s.heap.objs.size :: frs outer:=fY rfl
 have hin:∀ env ∈ (M6 (CXF P w) P w K mg base N qual scope f cd A outer s H E).stack,∀ a,env.frame = some a → a ∈ e :: frs (M6 (CXF P w) P w K mg base N qual scope f cd A outer s H E).stack:=fun env hm b hb=>List.mem_cons_of_mem _ (List.mem_filterMap.mpr ⟨env,hm,hb⟩)
 have frees:=I.stkFree
 have stk:=I.stack
 obtain ⟨⟨t,g⟩,_,_⟩:=(show p3 P w H1 s1.heap e (W2 e C od) from I.hok e _ he)
 refine bT (B:=PySem.W.hideAll s1.heap (e :: frs (M6 (CXF P w) P w K mg base N qual scope f cd A outer s H E).stack)) I.ok.frames (PySem.W.funFrames_hide stk hin) rfl g (fun b o q=>PySem.W.of_hideAll _ q) (PySem.W.hideAll_none _ (List.mem_cons_self ..)) rfl rfl rfl fun h'' fl up dz=>?_
 have ne:∀ b,b ∈ frs (M6 (CXF P w) P w K mg base N qual scope f cd A outer s H E).stack → b ≠ e:=fun b hb z=>by
  have:=frees b hb
  rw [z,he] at this
  cases this
 have keepB:∀ b o,s1.heap.get? b = some o → b ≠ e → b ∉ frs (M6 (CXF P w) P w K mg base N qual scope f cd A outer s H E).stack → (PySem.W.hideAll s1.heap (e :: frs (M6 (CXF P w) P w K mg base N qual scope f cd A outer s H E).stack)).get? b = some o:=fun b o q n1 n2=>PySem.W.hideAll_get _ q fun z=>(List.mem_cons.mp z).elim n1 n2
 have n0:∀ b o,s.heap.get? b = some o → b ≠ e:=fun b o q z=>by
  have h0':s.heap.get? e = none:=h0
  rw [z,h0'] at q
  cases q
 have nL:∀ b o,s.heap.get? b = some o → b ∉ frs outer → b ∉ frs (M6 (CXF P w) P w K mg base N qual scope f cd A outer s H E).stack:=fun b o q hb z=>by
  rw [fr] at z
  rcases List.mem_cons.mp z with y | y
  ·exact absurd (Heap.lt_size q) (by rw [y]; exact Nat.lt_irrefl _)
  ·exact hb y
 have fly:Fly (frs outer) H (jh H1 e) s.heap (PySem.W.hideAll s1.heap (e :: frs (M6 (CXF P w) P w K mg base N qual scope f cd A outer s H E).stack)) h'':=by
  refine ⟨fun b o q hb=>?_,fun b o q hb=>?_,fun b o q n=>?_,fun b xs q=>?_,fun b o u q=>?_,fun b ps q=>?_⟩
  ·obtain ⟨o1,e1⟩:=I.base.there b o q (show _ ∉ ([]:List Addr) by simp)
   refine ⟨⟨o1,keepB b o1 e1 (n0 b o q) (nL b o q hb)⟩,fun n=>?_⟩
   exact keepB b o (I.base.keep b o q n hb (show _ ∉ ([]:List Addr) by simp)) (n0 b o q) (nL b o q hb)
  ·obtain ⟨s1',q1⟩:=I.base.slot b o q (I.ok.frf b hb) hb (show _ ∉ ([]:List Addr) by simp)
   have hb':b ∈ frs (M6 (CXF P w) P w K mg base N qual scope f cd A outer s H E).stack:=by rw [fr]; exact List.mem_cons_of_mem _ hb
   obtain ⟨s2',q2⟩:=up b _ q1 (by
    obtain ⟨_,o',q',d⟩:=stk.mem hb'
    rw [q1] at q'
    cases q'
    exact d)
   exact ⟨s2',q2⟩
  ·rw [M5 (n0 b o q)]
   exact I.base.free b o q n (show _ ∉ ([]:List Addr) by simp)
  ·have z:=I.base.tups b xs q
   rw [M5 (fun y=>by rw [y,he] at z; cases z)]
   exact z
  ·have z:=I.base.frzs b o u q
   rw [M5 (fun y=>by rw [y,he] at z; cases z)]
   exact z
  ·obtain ⟨m,z⟩:=I.base.tbls b ps q
   exact ⟨m,by rw [M5 (fun y=>by rw [y,he] at z; cases z)]; exact z⟩
 refine ⟨e,C,_,_,jh H1 e,od,rfl,I.os,I.bare,fl,dz,fly,fun b u e1=>?_,hE⟩
 have nb:b ≠ e:=fun z=>by rw [z,kc] at e1; cases e1
 rw [M5 nb] at e1
 refine (I.hok b u e1).stay (fun c v hc q=>keepB c v q ?_ fun hm=>?_) (fun c q=>?_) fun c xs q=>?_
 ·rintro rfl
  rcases hc with z | z
  ·exact nb z.symm
  ·rw [he] at z; cases z
 ·have hn:=frees c hm
  rcases hc with z | z
  ·rw [z] at hn; rw [e1] at hn; cases hn
  ·rw [z] at hn; cases hn
 ·rw [M5 (fun y=>by rw [y,he] at q; cases q)]; exact q
 ·rw [M5 (fun y=>by rw [y,he] at q; cases q)]; exact q
theorem kX {E2:XK} (hE:∀ c d H,E2 c d H → E c d H):hZ (M6 (CXF P w) P w K mg base N qual scope f cd A outer s H E) (fun _=>E2):=by
 intro pins σ H1 s1 e s' I c
 obtain ⟨ea,C,a0,B,H2,od,rfl,os,bare,fl,dz,fy,hok,hE2⟩:=c
 show wpAny _ _ (leaving _ (.ref ea)) _ _ _
 have fr:frs (M6 (CXF P w) P w K mg base N qual scope f cd A outer s H E).stack = s.heap.objs.size :: frs outer:=fY rfl
 refine gy I.ok.frames rfl fl dz fun h'' fl' up dz'=>?_
 have f2:=fy.up (h3:=h'') fun b hb o e1=>up b o e1 (by
  obtain ⟨_,o',q,d⟩:=fl.2.2.1.mem hb
  rw [e1] at q; cases q; exact d)
 refine ⟨ea,C,a0,B,H2,od,rfl,os.trans I.os,bare,fl',dz',f2.after (u:=I.base) (fun b o e1 hb=>?_) (fun b hb=>by rw [fr]; exact List.mem_cons_of_mem _ hb) I.ok.frf,hok,hE _ _ _ hE2⟩
 rw [fr]
 intro z
 rcases List.mem_cons.mp z with z | z
 ·exact absurd (Heap.lt_size e1) (by rw [z]; exact Nat.lt_irrefl _)
 ·exact hb z
end
structure R5 (P:Program) (w:World) (K:PySem.W.Frag) (mg:Str → Option Value) (base:Heap) (k:Nat) (x:Str) (ps:List Str) (dvs:List V) (sp:Sp):Prop where
 ex:∃ (f:Addr) (fd:FuncData),X5 P w K mg base (CXF P w) k f fd ps sp ∧ (∀ m,m ≤ dvs.length → ∃ ds,n6 (dvs.drop m) ds ∧ R8 K fd ps ds) ∧ PySem.W.keepIn K (.ref f) = true ∧ mg x = some (.ref f)
section
variable {P:Program} {w:World} {K:PySem.W.Frag} {mg:Str → Option Value} {base:Heap}
theorem eX.okF {x:Str} {st:Stmt} {N ps:List Str} {k:Nat} {dvs:List V} {sp:Sp} (D:eX K mg x st ps dvs) (S:FnScope N ps (d7 st)) (len:∀ vs H Q E,sp vs H Q E → vs.length = ps.length)
  (hbody:∀ (f:Addr) (cdv:Value) (A:Around) (outer:List Env) (s:Shared) (H:Hp) (vs:List V) (Q:VK) (E:XK),C3 k (A.deeper (envOfC x (d7 st) s.heap.objs.size f cdv)) → sp vs H Q E →
   ∃ t,PSs (M6 (CXF P w) P w K mg base N x (d7 st) f cdv A outer s H E) (i7 st) t ∧ t { nx:=fun _ H'=>Q .non H',rt:=Q } (start N vs) H):R5 P w K mg base (k + 1) x ps dvs sp:=by
 obtain ⟨f,fd,⟨oc,od,dV,kV,doc,pm,an,cdv,ct,osl,rfl,lk,hcd⟩,kp,b,m⟩:=D.ex
 exact ⟨f,_,dY lk hcd S len fun A outer s H vs Q E hr hsp=>hbody f cdv A outer s H vs Q E hr hsp,b,kp,m⟩
theorem Def.okF {x:Str} {st:Stmt} {N ps:List Str} {k:Nat} {sp:Sp} (D:Def K mg x st ps) (S:FnScope N ps (d7 st)) (len:∀ vs H Q E,sp vs H Q E → vs.length = ps.length)
  (hbody:∀ (f:Addr) (cdv:Value) (A:Around) (outer:List Env) (s:Shared) (H:Hp) (vs:List V) (Q:VK) (E:XK),C3 k (A.deeper (envOfC x (d7 st) s.heap.objs.size f cdv)) → sp vs H Q E →
   ∃ t,PSs (M6 (CXF P w) P w K mg base N x (d7 st) f cdv A outer s H E) (i7 st) t ∧ t { nx:=fun _ H'=>Q .non H',rt:=Q } (start N vs) H):R5 P w K mg base (k + 1) x ps [] sp:=by
 obtain ⟨f,fd,⟨⟨oc,od,kV,doc,pm,an,cdv,ct,osl,rfl,lk,hcd⟩,kp⟩,b,m⟩:=D.ex
 refine ⟨f,_,dY lk hcd S len fun A outer s H vs Q E hr hsp=>hbody f cdv A outer s H vs Q E hr hsp,fun j hj=>⟨[],?_,b⟩,kp,m⟩
 rw [List.drop_nil]; exact .nil
end
section
variable {X:Cx} {k n:Nat} {ps:List Str} {dvs:List V} {sp:Sp} {x:Str} {p pos:Pos} {e:Expr} {es:List Expr} {t:TA} {E:St → XK}
theorem mw {f:Addr} {fd:FuncData} {ds:List Value} {pins:List (Addr × Obj)} {σ:St} {H:Hp} {s:Shared} {Q:VK} {us:List Value} {vs:List V} (F:X5 X.prog X.w X.K X.mg X.base (CXF X.prog X.w) k f fd ps sp) (hr:C3 k X.A) (hb:R8 X.K fd ps ds) (hd:n6 dvs ds) (hx:hZ X E)
  (I:Inv X pins σ H s) (r:n6 vs us) (h:sp (vs ++ dvs) H Q (E σ)):wpAny (model X.prog X.w) X.A (call (.ref f) us) (EP X pins σ Q) X.xe s:=by
 have r2:n6 (vs ++ dvs) (us ++ ds):=r.append hd
 have hl:(us ++ ds).length = ps.length:=by rw [← r2.length]; exact F.len _ _ _ _ h
 refine wpAny_call (codeAny_mono (F.run X.A X.stack s H ⟨us,[]⟩ (us ++ ds) (vs ++ dvs) Q (E σ) hr I.env0 (hb s us I.kIn hl) r2 h) fun r s' hq=>?_)
 cases r with
 | error e=>exact hx pins σ H s e s' I hq
 | ok fl =>
  cases fl with
  | ret u=>exact I.after hq
  | next=>exact False.elim hq
  | brk=>exact False.elim hq
  | cont=>exact False.elim hq
theorem gH (m:Nat) (C:R5 X.prog X.w X.K X.mg X.base k x ps dvs sp) (hx:hZ X E) (hr:C3 n X.A) (hg:Gl X x) (ha:PA X (e :: es) t) (hm:m ≤ dvs.length:=by decide) (hk:k ≤ n:=by decide) (hdb:(x == ("__debug__":Str)) = false:=by decide)
  (he:starEach (e :: es) X.env = (false,eval e X.env) :: starEach es X.env:=by rfl) (hpl:(backTo pos (starEach es X.env)).any (·.1) = false:=by rfl) :
  PE X (.Call (.Name x p) (e :: es) [] pos) (qo sp (dvs.drop m) E t):=by
 obtain ⟨f,fd,F,b,kp,mm⟩:=C.ex
 obtain ⟨ds,hv,hb⟩:=b m hm
 intro pins s σ H Q I h
 refine wpAny_Call_Name_kw (Y1 I hg mm ?_ hdb)
 refine PySem.W.callWith_K (h₀:=X.base) I.ok.mod.kin kp (thn (ha pos pins s σ H _ I h) fun us s1 ⟨vs,H1,I1,r,q⟩=>⟨I1.kIn,?_⟩) he hpl
 exact mw F (hr.mono hk) hb hv hx I1 r q
end
end L2
namespace L2
open PySem PySem.Spec PyProof.Rows
structure qU (K:PySem.W.Frag) (mg:Str → Option Value) (x:Str) (C fI:Addr):Prop where
 mg:mg x = some (.ref C)
 exc:Z2 K C fI = true
 at_:PySem.W.findIn K (.ref C) "__init__" = some (some (.ref fI))
section
variable {X:Cx} {C:Addr} {x:Str} {E:XK} {np cpos pos:Pos} {e:Expr} {es:List Expr} {t:TA} {k n:Nat} {ps:List Str} {kb:FuncData → Prop} {sp:Sp}
def nq (C:Addr) (sp:Sp) (E:XK) (t:TA):TS:=fun _ σ H=>t σ H fun vs H1=>vs.length ≤ 1000 ∧ ∀ ea,H1 ea = none → sp (.ref ea :: vs) (upd H1 ea (W2 ea C none)) (fun r H2=>r = .non ∧ ∃ od,H2 ea = some (W2 ea C od) ∧ E (.ref C) od (jh H2 ea)) E0
theorem jn (hl:oM X E) (M:∃ fI,qU X.K X.mg x C fI) (Z:aL X.prog X.w X.K X.mg X.base k C "__init__" ps [] kb sp) (hr:C3 n X.A) (hh:X.A.handled = none) (hg:Gl X x) (ha:PA X (e :: es) t) (hk:k + 1 ≤ n:=by decide) (hdb:(x == ("__debug__":Str)) = false:=by decide) (hx0:X.ex = []:=by rfl)
  (hst:starEach (e :: es) X.env = (false,eval e X.env) :: starEach es X.env:=by rfl) (hpl:(backTo cpos (starEach es X.env)).any (·.1) = false:=by rfl):PS X (.Raise (some (.Call (.Name x np) (e :: es) [] cpos)) none pos) (nq C sp E t):=by
 obtain ⟨fI,M⟩:=M
 obtain ⟨f,fd,F,mt,hkb,b⟩:=Z.ex
 have ef:f = fI:=by
  have z:=mt.at_
  rw [M.at_] at z
  cases z
  rfl
 subst ef
 obtain ⟨ds,hv,hb⟩:=b 0 (Nat.zero_le _)
 rw [List.drop_zero] at hv
 cases hv
 intro pins s σ H D I h
 have hpl':(backTo cpos (starEach (e :: es) X.env)).any (·.1) = false:=by rw [hst]; exact hpl
 refine gN (C:=C) (fI:=f) hh hpl' (Y1 I hg M.mg ⟨rfl,?_⟩ hdb)
 have hA:=ha cpos pins s σ H _ I h
 rw [hst] at hA ⊢
 refine Calls.evalArgs_plain ?_
 refine thn hA fun us s2 ⟨vs,H2,I2,r2,hlen,q2⟩=>?_
 have hfn:∃ oI,s2.heap.get? f = some oI ∧ oI.cls = .type "function":=by
  have z:PySem.W.typeIn X.K (.ref f) = some (.type "function"):=beq_iff_eq.mp mt.fn
  obtain ⟨oI,h1,h2⟩:=Option.map_eq_some_iff.mp (show (X.K.lookup f).map (·.cls) = _ from z)
  exact ⟨oI,I2.kIn _ _ h1,h2⟩
 refine ⟨rfl,by rw [← r2.length]; exact Nat.le_of_lt (B5 hlen),ix I2.kIn M.exc,hfn,fun h' ea kp hsz ⟨tt,ge⟩=>?_⟩
 have fr:=I2.hok.fresh hsz
 have I3:Inv X pins σ (upd H2 ea (W2 ea C none)) { s2 with heap:=h' }:=I2.laid (t':=s2.toks) kp hsz (iL ge)
 have hq:=q2 ea fr
 have rr:n6 (V.ref ea :: vs) (Value.ref ea :: us):=.cons rfl r2
 have hll:(Value.ref ea :: us).length = ps.length:=by rw [← rr.length]; exact F.len _ _ _ _ hq
 have s0n:X.s₀.heap.get? ea = none:=by
  cases z:X.s₀.heap.get? ea with
  | none=>rfl
  | some o =>
   obtain ⟨o',e'⟩:=I2.base.there ea o z (by rw [hx0]; simp)
   exact absurd (Heap.lt_size e') (Nat.not_lt.mpr hsz)
 refine wpAny_call (codeAny_mono (F.run _ X.stack _ _ ⟨.ref ea :: us,[]⟩ (.ref ea :: us) _ _ E0 ((hr.mono hk).make C us []) (I3.env0.make C us []) (by have:=hb _ (.ref ea :: us) I3.kIn (by rw [List.append_nil]; exact hll); rw [List.append_nil] at this; exact this) rr hq) fun r s' hq'=>?_)
 cases r with
 | error e=>exact (oG (X:=X)) pins σ _ _ e s' I3 hq'
 | ok fl =>
  cases fl with
  | ret u =>
   obtain ⟨v,H',I4,rv,ev,od,eH,hE⟩:=I3.after hq'
   subst ev
   cases (show u = Value.none from rv)
   obtain ⟨⟨t',g'⟩,_,_⟩:=(show p3 X.prog X.w H' s'.heap ea (W2 ea C od) from I4.hok ea _ eH)
   exact ⟨rfl,ix I4.kIn M.exc,⟨t',od,g'⟩,hl pins σ H' s' ea C od I4 eH s0n hE⟩
  | next=>exact False.elim hq'
  | brk=>exact False.elim hq'
  | cont=>exact False.elim hq'
end
def xeF (X:Cx) (pn:List (Addr × Obj)) (E:St → XK):Value → Shared → Prop:=fun e s'=>∃ (pins:List (Addr × Obj)) (σ:St) (H:Hp) (s1:Shared),Inv (X.pinned pn) pins σ H s1 ∧ CXF X.prog X.w X.stack H s1 (E σ) e s'
abbrev rB (X:Cx) (pn:List (Addr × Obj)) (E:St → XK):Cx:=(X.pinned pn).wish (xeF X pn E)
section
variable {X:Cx} {pins:List (Addr × Obj)} {σ:St} {H:Hp} {s:Shared}
theorem cr {pn:List (Addr × Obj)} {E:St → XK}:hZ (rB X pn E) E:=fun pins σ H s _ _ I c=>⟨pins,σ,H,s,I.unwish,c⟩
end
section
variable {X:Cx}
def rq (K:PySem.W.Frag) (c:Value) (i:Nat) (tb:(St → XK) → TS) (th:TS):TS:=fun D σ H=>∃ E:St → XK,tb E D σ H ∧ ∀ σ' c0 d H',E σ' c0 d H' → σ'.length = σ.length ∧ PySem.W.exmOne K c0 c = some true ∧
 ∀ (ea C:Addr),c0 = .ref C → H' ea = none → th (D.gone i) (σ'.set i (some (.ref ea))) (upd H' ea (aw ea C d))
theorem mL {x n:Str} {c:Value} {i:Nat} {body:List Stmt} {b₀:Stmt} {suite:List Stmt} {np hpos pos:Pos} {tb:(St → XK) → TS} {th:TS} (hg:Gl X x) (hm:X.mg x = some c) (hN:X.N.Nodup) (hi:X.N[i]? = some n)
  (hl:X.env.scope.names.lookup n = some .local) (hst:X.stack = X.env :: X.outer) (hf:X.env.frame = some X.env.locals) (hx0:X.ex = [])
  (hb:∀ (pn:List (Addr × Obj)) (E:St → XK),PSs (rB X pn E) body (tb E)) (hs:∀ ea,PSs (hcx X ea) (b₀ :: suite) th) (hdb:(x == ("__debug__":Str)) = false:=by decide) :
  PS X (.Try body [.ExceptHandler (some (.Name x np)) (some n) (b₀ :: suite) hpos] [] [] pos) (rq X.K c i tb th):=by
 intro pins s σ H D I h
 obtain ⟨E,h1,h2⟩:=h
 have lenσ:=I.len
 refine wpAny_Try_except ?_
 refine wpAny_mono (hb (X.pn ++ pins) E [] s σ H D (I.toPinned.wish _) h1) (fun fl s1 q=>?_) (fun e s1 q=>?_)
 ·cases fl with
  | next=>obtain ⟨σ',H',J,q⟩:=q; exact wpAny_execs_nil ⟨σ',H',J.unwish.ofPinned,q⟩
  | brk=>obtain ⟨σ',H',J,q⟩:=q; exact ⟨σ',H',J.unwish.ofPinned,q⟩
  | cont=>obtain ⟨σ',H',J,q⟩:=q; exact ⟨σ',H',J.unwish.ofPinned,q⟩
  | ret u=>obtain ⟨v,σ',H',J,r,q⟩:=q; exact ⟨v,σ',H',J.unwish.ofPinned,r,q⟩
 ·obtain ⟨ps,σ1,H1,s0,J0,ea,C,a0,B,H2,od,rfl,os,bare,fl,dz0,fy,hok,hE⟩:=q
  have J1:Inv X pins σ1 H1 s0:=J0.ofPinned
  obtain ⟨lσ,hex,hth⟩:=h2 σ1 _ _ H2 hE
  have he2:H2 ea = none:=by
   cases q:H2 ea with
   | none=>rfl
   | some o=>obtain ⟨u,e⟩:=(hok ea o q).at_; rw [fl.2.1] at e; cases e
  have hframes:X.A.frames = some (X.env :: X.outer):=hst ▸ I.ok.frames
  have flup:∀ {h3:Heap},s1.heap.UpToSlots h3 → Fly (frs X.stack) H1 H2 s0.heap B h3:=fun {h3} up=>fy.up fun b hb o e1=>up b o e1 (by
   obtain ⟨_,o',q,d⟩:=fl.2.2.1.mem hb
   rw [e1] at q; cases q; exact d)
  have inv:∀ {h3:Heap} {t:Nat},s1.heap.UpToSlots h3 → B.StaysIn h3 → Inv X pins σ1 H2 { s1 with heap:=h3,toks:=t }:=fun {h3 t} up st =>
   J1.call' (s':={ s1 with heap:=h3,toks:=t }) (ch:=[]) os ((flup up).un st) (hok.kept st) bare (fun _ z=>nomatch z)
  refine ji hframes hf (hst ▸ fl) dz0 fun h4 held up4 dz4=>?_
  refine pH held dz4 fun h5 fl5 up5 dz5=>?_
  have up45:=up4.trans up5
  have I5:Inv X pins σ1 H2 { s1 with heap:=h5 }:=inv (t:=s1.toks) up45 fl5.1
  obtain ⟨ob,hob,hobc⟩:=fl5.there
  refine wpAny_handleBy_cons (codeAny_handlers_test (Y1 (X:=hcx X ea) (I5.toH ea) hg hm ?_ hdb)) (by intro q; cases q)
  have LT:PySem.W.Looks (model X.prog X.w) h5 (typeOf (.ref ea)) (.ref C):=hobc ▸ (PySem.W.Looks.ld hob).andThen .now
  refine (PySem.W.exm_one (M:=model X.prog X.w) (K:=X.K) (h:=h5) I5.kIn LT hex).here ?_
  refine codeAny_handlers_suite_as ?_
  refine cS fl5 dz5 fun h6 fl6 up6 dz6=>?_
  have I6:Inv X pins σ1 H2 { s1 with heap:=h6 }:=inv (t:=s1.toks) (up45.trans up6) fl6.1
  obtain ⟨oe,ws,hoe,hoec,hoed,_⟩:=fl6.first
  have hodd:oe.dict = od:=by
   obtain ⟨o2,z1,z2⟩:=dz6
   rw [hoe] at z1
   cases z1
   exact z2
  have new:p3 X.prog X.w (upd H2 ea (aw ea C od)) h6 ea (aw ea C od):=⟨⟨oe,ws,hoe,hoec,hoed,hodd⟩,⟨oe,hoe⟩,fun g1 g2 ⟨o,vs,e1,e2,e3,e4⟩ k=>⟨o,vs,k _ e1,e2,e3,e4⟩⟩
  have none0:X.s₀.heap.get? ea = none:=by
   cases q:X.s₀.heap.get? ea with
   | none=>rfl
   | some o =>
    exfalso
    have hx:ea ∉ X.ex:=by rw [hx0]; simp
    obtain ⟨o1,e1⟩:=J1.base.there ea o q hx
    by_cases hb:ea ∈ frs X.stack
    ·obtain ⟨_,o',q',d⟩:=fl6.2.2.1.mem (hst ▸ hb)
     rw [hoe] at q'; cases q'; exact d _ hoed
    ·obtain ⟨⟨o',q'⟩,_⟩:=fy.kp ea o1 e1 hb
     rw [fl.2.1] at q'; cases q'
  have ne:∀ {b:Addr} {u:HO},H2 b = some u → b ≠ ea:=fun {b u} e z=>by rw [z,he2] at e; cases e
  have nL:X.env.locals ≠ ea:=fun z=>by
   obtain ⟨m,⟨o,es,ep,ho,hd,_⟩,_⟩:=I6.loc
   rw [z] at ho
   have ho2:h6.get? ea = some o:=ho
   rw [hoe] at ho2; cases ho2; rw [hoed] at hd; cases hd
  have I7:Inv X pins σ1 (upd H2 ea (aw ea C od)) { s1 with heap:=h6 }:=by
   refine ⟨I6.ok,I6.os,I6.bare,⟨I6.base.keep,I6.base.slot,fun b o e n hx=>?_,I6.base.there,fun b xs e=>?_,fun b o u e=>?_,fun b ps e=>?_⟩,I6.loc,I6.cell,?_,fun y c e=>?_,fun p hp=>?_,fun b u e=>?_,I6.len⟩
   ·rw [g7 (fun z=>by rw [z,none0] at e; cases e)]; exact I6.base.free b o e n hx
   ·have q:=I6.base.tups b xs e; rw [g7 (ne q)]; exact q
   ·have q:=I6.base.frzs b o u e; rw [g7 (ne q)]; exact q
   ·obtain ⟨m,q⟩:=I6.base.tbls b ps e; exact ⟨m,by rw [g7 (ne q)]; exact q⟩
   ·rw [g7 nL]; exact I6.free
   ·have nC:c ≠ ea:=fun z=>by
     obtain ⟨v,o,ho,hd⟩:=I6.cell y c e
     rw [z] at ho
     have ho2:h6.get? ea = some o:=ho
     rw [hoe] at ho2; cases ho2; rw [hoed] at hd; cases hd
    rw [g7 nC]; exact I6.freeC y c e
   ·obtain ⟨e,n,ne1,nf,d⟩:=I6.pin p hp
    obtain ⟨e0,n0,_,_,_⟩:=J1.pin p hp
    have np:p.1 ≠ ea:=fun z=>by
     have hb:p.1 ∉ frs X.stack:=fun hm=>(List.mem_cons.mp (J1.stkSub _ hm)).elim ne1 nf
     have q:=(fy.kp p.1 p.2 e0 hb).2 n0
     rw [z,fl.2.1] at q; cases q
    exact ⟨e,by rw [g7 np]; exact n,ne1,nf,d⟩
   ·by_cases hb:b = ea
    ·subst hb; rw [d4] at e; cases e; exact new
    ·rw [g7 hb] at e
     exact (I6.hok b u e).stay (fun c v _ q=>q) (fun c q=>by rw [g7 (ne q)]; exact q) fun c xs q=>by rw [g7 (ne q)]; exact q
  refine X9 (X:=hcx X ea) (I7.toH ea) hN hi (.inl hl) (v:=.ref ea) rfl (fun s7 I8=>?_) (.inr hl)
  refine wpAny_mono (hs ea pins s7 _ _ (D.gone i) I8 (hth ea C rfl he2)) (fun fl8 s8 q8=>?_) fun _ _ z=>z.elim
  cases fl8 with
  | next =>
   obtain ⟨σ',H',J,q⟩:=q8
   exact aE (J.ofH I.ok) hN hi hl fun s9 J9=>⟨_,H',J9,q⟩
  | brk =>
   obtain ⟨σ',H',J,q⟩:=q8
   exact aE (J.ofH I.ok) hN hi hl fun s9 J9=>⟨_,H',J9,q⟩
  | cont =>
   obtain ⟨σ',H',J,q⟩:=q8
   exact aE (J.ofH I.ok) hN hi hl fun s9 J9=>⟨_,H',J9,q⟩
  | ret u =>
   obtain ⟨v,σ',H',J,r,q⟩:=q8
   exact aE (J.ofH I.ok) hN hi hl fun s9 J9=>⟨v,_,H',J9,r,q⟩
end
end L2
namespace L2
open PySem PySem.Spec PyProof.Rows
theorem nX {K:PySem.W.Frag} {C fI:Addr} (q:Z2 K C fI = true) (sa:PySem.W.findIn K (.ref C) "__setattr__" = some (some (.builtin "object.__setattr__"))):gf K C:=by
 have key:∃ cd,PySem.W.clsIn K C = some cd ∧ Q1 cd.mro = true ∧ cd.hasDict = true:=by
  unfold Z2 at q
  split at q
  ·rename_i dd cd sl ho
   split at q
   ·rename_i C' bm k0 k1 k2 k3 n k5 hm hs
    simp only [Bool.and_eq_true,beq_iff_eq,Bool.not_eq_true'] at q
    obtain ⟨⟨⟨⟨⟨⟨⟨rfl,rfl⟩,hdel⟩,hdc⟩,ht⟩,hok⟩,hni⟩,hrf⟩:=q
    refine ⟨cd,?_,?_,hdc⟩
    ·unfold PySem.W.clsIn
     rw [ho]
    ·rw [hm]
     exact hrf
   ·cases q
  ·cases q
 refine ⟨key,sa,?_⟩
 obtain ⟨cd,h1,_,h2⟩:=key
 unfold PySem.W.hasDictIn
 rw [h1]
 exact h2
section
variable {X:Cx}
def jj (K:PySem.W.Frag):List V → Hp → VK → Prop:=fun xs H Q=>∃ ea C od p D1 D2 b1 b2,xs = [.ref ea,.ref p] ∧ H p = some (.tup [.ref D1,.ref D2]) ∧ H ea = some (aw ea C od) ∧ dh K C ∧ PySem.W.kitOne K (.ref C) (.ref D1) = some b1 ∧ PySem.W.kitOne K (.ref C) (.ref D2) = some b2 ∧ Q (.bl (b1 || b2)) H
theorem bM (K:PySem.W.Frag) (h:X.K = K:=by rfl):A4 X (.builtin "isinstance") (jj K):=by
 subst h
 intro pins s σ H xs us Q I r h
 obtain ⟨ea,C,od,p,D1,D2,b1,b2,rfl,hp,he,Z,e1,e2,q⟩:=h
 obtain ⟨u,u',rfl,r1,r2⟩:=ah r
 cases (show u = Value.ref ea from r1)
 cases r2
 obtain ⟨⟨o,vs,ho,hc,_⟩,_⟩:=(show p3 X.prog X.w H s.heap ea (aw ea C od) from I.hok ea _ he)
 obtain ⟨_,its,rv,pl⟩:=(show p3 X.prog X.w H s.heap p (.tup [.ref D1,.ref D2]) from I.hok p _ hp)
 obtain ⟨w1,w2,rfl,q1,q2⟩:=ah rv
 cases q1
 cases q2
 obtain ⟨⟨oc,od',dat,sl⟩,g1,g2,n,g3⟩:=pl
 simp only at g2 g3
 subst g2 g3
 have ka:PySem.W.kitAny X.K (.ref C) [.ref D1,.ref D2] = some (b1 || b2):=by
  unfold PySem.W.kitAny
  rw [e1]
  cases b1 with
  | true=>rfl
  | false =>
   show PySem.W.kitAny X.K (.ref C) [.ref D2] = some b2
   unfold PySem.W.kitAny
   rw [e2]
   cases b2 <;> rfl
 exact PySem.W.kia_tup (eU Z) I.kIn ⟨o,ho,hc⟩ g1 ka (fun z=>nomatch z) fun tk=>⟨.bl (b1 || b2),H,I.tok _,rfl,q⟩
end
end L2
open PySem
namespace L2
variable {X:Cx}
end L2
def PySem.W.Fast.tw3875097659385284372:Nat:=0
def PySem.W.Fast.tw831823769279122524:Nat:=0
def PySem.W.Fast.tw3476177652093653744:Nat:=0
def PySem.W.Fast.tw15798654828588749217:Nat:=0
def PySem.W.Fast.tw16005797721374395281:Nat:=0
def PySem.W.Fast.tw8116507637211750392:Nat:=0
def PySem.W.Fast.tw11937313944382476292:Nat:=0
def PySem.W.Fast.tw8368244538803914709:Nat:=0
def PySem.W.Fast.tw16161962114863825387:Nat:=0
def PySem.W.Fast.tw11125271878051996226:Nat:=0
def PySem.W.Fast.tw6420333469183248102:Nat:=0
def PySem.W.Fast.tw17349537103161108509:Nat:=0
def PySem.W.Fast.tw15721479695808361059:Nat:=0
def PySem.W.Fast.tw10719919420033978302:Nat:=0
def PySem.W.Fast.tw14463487256053060950:Nat:=0
def PySem.W.Fast.tw11292407245176820801:Nat:=0
def PySem.W.Fast.tw11473533136710395799:Nat:=0
def PySem.W.Fast.tw3009511609734749017:Nat:=0
def PySem.W.Fast.tw6073821010226837218:Nat:=0
def PySem.W.Fast.tw7985200650137570042:Nat:=0
def PySem.W.Fast.tw3318919570228984306:Nat:=0
def PySem.W.Fast.tw800603228083399171:Nat:=0
def PySem.W.Fast.tw2374094118610012014:Nat:=0
def PySem.W.Fast.tw18119236816969075448:Nat:=0
def PySem.W.Fast.tw3257045005221100836:Nat:=0
def PySem.W.Fast.tw10245272014510759471:Nat:=0
def PySem.W.Fast.tw2434887587615104713:Nat:=0
def PySem.W.Fast.tw14652901063183484323:Nat:=0
def PySem.W.Fast.tw10375003913010838466:Nat:=0
def PySem.W.Fast.tw5023989243743818296:Nat:=0
def PySem.W.Fast.tw7779829562829041040:Nat:=0
def PySem.W.Fast.tw4977389255690177388:Nat:=0
def PySem.W.Fast.tw16053555131702551432:Nat:=0
def PySem.W.Fast.tw18121733456875914769:Nat:=0
def PySem.W.Fast.tw11526444410279944802:Nat:=0
def PySem.W.Fast.tw1927503150271563343:Nat:=0
def PySem.W.Fast.tw2795271268320406009:Nat:=0
def PySem.W.Fast.tw16107915266383211016:Nat:=0
def PySem.W.Fast.tw12172762664353055909:Nat:=0
def PySem.W.Fast.tw1934724330195122642:Nat:=0
def PySem.W.Fast.tw2624070097909949789:Nat:=0
def PySem.W.Fast.tw6170491079166991275:Nat:=0
def PySem.W.Fast.tw16540925047935181729:Nat:=0
def PySem.W.Fast.tw7262968889511595622:Nat:=0
def PySem.W.Fast.tw8364992317977218576:Nat:=0
def PySem.W.Fast.tw4401682926052657578:Nat:=0
def PySem.W.Fast.tw5429068440585072337:Nat:=0
def PySem.W.Fast.tw16723636391155967410:Nat:=0
def PySem.W.Fast.tw3021859169250784115:Nat:=0
def PySem.W.Fast.tw103814753135298397:Nat:=0
def PySem.W.Fast.tw12539955533079730253:Nat:=0
def PySem.W.Fast.tw4472694190067592664:Nat:=0
def PySem.W.Fast.tw18401913867715523796:Nat:=0
def PySem.W.Fast.tw7008183869282807845:Nat:=0
def PySem.W.Fast.tw5084334168492697187:Nat:=0
def PySem.W.Fast.tw3565148812625091665:Nat:=0
def PySem.W.Fast.tw8768180987741443151:Nat:=0
def PySem.W.Fast.tw14410984828863777156:Nat:=0
def PySem.W.Fast.tw1558706143393426928:Nat:=0
def PySem.W.Fast.tw18335446254058280150:Nat:=0
def PySem.W.Fast.tw17669540861941587239:Nat:=0
def PySem.W.Fast.tw15062750758112951104:Nat:=0
def PySem.W.Fast.tw4981637556308319715:Nat:=0
def PySem.W.Fast.tw14358352671243353261:Nat:=0
def PySem.W.Fast.tw2574595300293589064:Nat:=0
def PySem.W.Fast.tw9120961937026330280:Nat:=0
def PySem.W.Fast.tw17519822844358532244:Nat:=0
def PySem.W.Fast.tw7658089054131183896:Nat:=0
def PySem.W.Fast.tw9195354681094416895:Nat:=0
def PySem.W.Fast.tw5756364060811637194:Nat:=0
def PySem.W.Fast.tw5260054063393177431:Nat:=0
def PySem.W.Fast.tw8569377194962560723:Nat:=0
def PySem.W.Fast.tw8620510014858869618:Nat:=0
def PySem.W.Fast.tw3401634909022036952:Nat:=0
def PySem.W.Fast.tw15160199121094315229:Nat:=0
def PySem.W.Fast.tw6447482856787125363:Nat:=0
def PySem.W.Fast.tw18287478373981199293:Nat:=0
def PySem.W.Fast.tw4717162964055055804:Nat:=0
def PySem.W.Fast.tw766525107839801965:Nat:=0
def PySem.W.Fast.tw7052646622788420679:Nat:=0
def PySem.W.Fast.tw8704780357000768160:Nat:=0
def PySem.W.Fast.tw4830115798628479259:Nat:=0
def PySem.W.Fast.tw7589949587074876328:Nat:=0
def PySem.W.Fast.tw11743986385693071915:Nat:=0
def PySem.W.Fast.tw9286004087604099660:Nat:=0
def PySem.W.Fast.tw5078252849538938891:Nat:=0
def PySem.W.Fast.tw10783625522033973138:Nat:=0
def PySem.W.Fast.tw11837847927512709016:Nat:=0
def PySem.W.Fast.tw12776765079566313233:Nat:=0
def PySem.W.Fast.tw6737111146962753486:Nat:=0
def PySem.W.Fast.tw17386272145485377411:Nat:=0
def PySem.W.Fast.tw3383893568720540995:Nat:=0
def PySem.W.Fast.tw3652059792365225948:Nat:=0
def PySem.W.Fast.tw16483675777370143594:Nat:=0
def PySem.W.Fast.tw13429323674138539578:Nat:=0
def PySem.W.Fast.tw931081700980795243:Nat:=0
def PySem.W.Fast.tw12175333993292896603:Nat:=0
def PySem.W.Fast.tw2913917663757830897:Nat:=0
def PySem.W.Fast.tw14211251005167924725:Nat:=0
def PySem.W.Fast.tw16166772686871500817:Nat:=0
def PySem.W.Fast.tw10121417518121417161:Nat:=0
def PySem.W.Fast.tw1105077647492035903:Nat:=0
def PySem.W.Fast.tw16627902584152461723:Nat:=0
def PySem.W.Fast.tw2029851390032490717:Nat:=0
def PySem.W.Fast.tw5679649356751655905:Nat:=0
def PySem.W.Fast.tw16758451499643739200:Nat:=0
def PySem.W.Fast.tw14508907200644902397:Nat:=0
def PySem.W.Fast.tw5062989634755534745:Nat:=0
def PySem.W.Fast.tw17014119698689486746:Nat:=0
def PySem.W.Fast.tw2694401057420236704:Nat:=0
def PySem.W.Fast.tw9505627521255843848:Nat:=0
def PySem.W.Fast.tw6963143084654927089:Nat:=0
def PySem.W.Fast.tw14558176787504087032:Nat:=0
def PySem.W.Fast.tw5252420373110048393:Nat:=0
def PySem.W.Fast.tw9602606537123834032:Nat:=0
def PySem.W.Fast.tw8563467610730348978:Nat:=0
def PySem.W.Fast.tw12473284364523853960:Nat:=0
def PySem.W.Fast.tw12857462312899696935:Nat:=0
def PySem.W.Fast.tw12082082128408546958:Nat:=0
def PySem.W.Fast.tw13087376525061960407:Nat:=0
def PySem.W.Fast.tw395601873521910509:Nat:=0
def PySem.W.Fast.tw5976886481294127830:Nat:=0
def PySem.W.Fast.tw1073300656545083980:Nat:=0
def PySem.W.Fast.tw4021746333200366154:Nat:=0
def PySem.W.Fast.tw2023156941046403212:Nat:=0
def PySem.W.Fast.tw2832002629485890085:Nat:=0
def PySem.W.Fast.tw15913819187200415912:Nat:=0
def PySem.W.Fast.tw2884948674588619325:Nat:=0
def PySem.W.Fast.tw13395431593576621767:Nat:=0
def PySem.W.Fast.tw325825071611181393:Nat:=0
def PySem.W.Fast.tw5473680141077415737:Nat:=0
def PySem.W.Fast.tw17485464178041074288:Nat:=0
def PySem.W.Fast.tw16249518227689767345:Nat:=0
def PySem.W.Fast.tw14022761913415863959:Nat:=0
def PySem.W.Fast.tw4788583871142264641:Nat:=0
def PySem.W.Fast.tw15638227806225195298:Nat:=0
def PySem.W.Fast.tw16334647369646969479:Nat:=0
def PySem.W.Fast.tw13244039688751475465:Nat:=0
def PySem.W.Fast.tw1733451712804839274:Nat:=0
def PySem.W.Fast.tw13674567640290879133:Nat:=0
def PySem.W.Fast.tw4574258636680858954:Nat:=0
def PySem.W.Fast.tw2103095251791566592:Nat:=0
def PySem.W.Fast.tw4779049757585450813:Nat:=0
def PySem.W.Fast.tw16644594810643755083:Nat:=0
def PySem.W.Fast.tw12441525446575883479:Nat:=0
def PySem.W.Fast.tw11096124980715055079:Nat:=0
def PySem.W.Fast.tw2050938731736033237:Nat:=0
def PySem.W.Fast.tw16591323827445622889:Nat:=0
def PySem.W.Fast.tw11543923420748240915:Nat:=0
def PySem.W.Fast.tw11390312799853099762:Nat:=0
def PySem.W.Fast.tw9432785970663484700:Nat:=0
def PySem.W.Fast.tw7984325271584066839:Nat:=0
def PySem.W.Fast.tw6686413521621291418:Nat:=0
def PySem.W.Fast.tw7200141454930494550:Nat:=0
def PySem.W.Fast.tw16512692399423513373:Nat:=0
def PySem.W.Fast.tw1281321875809348463:Nat:=0
def PySem.W.Fast.tw4106543955043282444:Nat:=0
def PySem.W.Fast.tw11620933985333557085:Nat:=0
def PySem.W.Fast.tw3751219319392603209:Nat:=0
def PySem.W.Fast.tw10434271471120980919:Nat:=0
def PySem.W.Fast.tw8439663366161526516:Nat:=0
def PySem.W.Fast.tw14069457445396535281:Nat:=0
def PySem.W.Fast.tw9004722515731171933:Nat:=0
def PySem.W.Fast.tw549414391331688775:Nat:=0
def PySem.W.Fast.tw5084222186460029843:Nat:=0
def PySem.W.Fast.tw8495334575937224323:Nat:=0
def PySem.W.Fast.tw18345425326633639514:Nat:=0
def PySem.W.Fast.tw17507313500461866140:Nat:=0
def PySem.W.Fast.tw13722770762138402127:Nat:=0
def PySem.W.Fast.tw12846302806208602333:Nat:=0
def PySem.W.Fast.tw7197097103500769707:Nat:=0
def PySem.W.Fast.tw16362593364282727310:Nat:=0
def PySem.W.Fast.tw6045091084496697853:Nat:=0
def PySem.W.Fast.tw16586138971315093684:Nat:=0
def PySem.W.Fast.tw11458851404589120825:Nat:=0
def PySem.W.Fast.tw16075350027587651577:Nat:=0
def PySem.W.Fast.tw2660300206793044527:Nat:=0
def PySem.W.Fast.tw14724247488782014092:Nat:=0
def PySem.W.Fast.tw11632829421045653664:Nat:=0
def PySem.W.Fast.tw10535418036823344636:Nat:=0
def PySem.W.Fast.tw922316229733467204:Nat:=0
def PySem.W.Fast.tw5107360585340285137:Nat:=0
def PySem.W.Fast.tw9384227648057103815:Nat:=0
def PySem.W.Fast.tw5278693472828927118:Nat:=0
def PySem.W.Fast.tw7468986248791954704:Nat:=0
def PySem.W.Fast.tw9804556053543601782:Nat:=0
def PySem.W.Fast.tw18153997436575765361:Nat:=0
def PySem.W.Fast.tw10901389203779884247:Nat:=0
def PySem.W.Fast.tw3502351691246893784:Nat:=0
def PySem.W.Fast.tw14161743402061776466:Nat:=0
def PySem.W.Fast.tw8108492971336404461:Nat:=0
def PySem.W.Fast.tw15986708905608920517:Nat:=0
def PySem.W.Fast.tw5347641906115466545:Nat:=0
def PySem.W.Fast.tw5155407658310371520:Nat:=0
def PySem.W.Fast.tw1744472054392796617:Nat:=0
def PySem.W.Fast.tw2467633401397232803:Nat:=0
def PySem.W.Fast.tw1310511001151379619:Nat:=0
def PySem.W.Fast.tw7886714568735839251:Nat:=0
def PySem.W.Fast.tw14393236051886702691:Nat:=0
def PySem.W.Fast.tw14196394464142424672:Nat:=0
def PySem.W.Fast.tw6925482949791271953:Nat:=0
def PySem.W.Fast.tw6007954598446991787:Nat:=0
def PySem.W.Fast.tw3468246452011774406:Nat:=0
def PySem.W.Fast.tw743156663044062720:Nat:=0
def PySem.W.Fast.tw8633957615013378814:Nat:=0
def PySem.W.Fast.tw2950334350529165317:Nat:=0
def PySem.W.Fast.tw5078839892549367236:Nat:=0
def PySem.W.Fast.tw10832154583486833632:Nat:=0
def PySem.W.Fast.tw11157002992537467744:Nat:=0
def PySem.W.Fast.tw12932715849920517494:Nat:=0
def PySem.W.Fast.tw16398507722304462240:Nat:=0
def PySem.W.Fast.tw17332750743015850866:Nat:=0
def PySem.W.Fast.tw4720084157683911978:Nat:=0
def PySem.W.Fast.tw6555794088761486359:Nat:=0
def PySem.W.Fast.tw15527004340291377881:Nat:=0
def PySem.W.Fast.tw9471492549133996840:Nat:=0
def PySem.W.Fast.tw7732615500132782238:Nat:=0
def PySem.W.Fast.tw3024849627979729820:Nat:=0
def PySem.W.Fast.tw11549492612617181460:Nat:=0
def PySem.W.Fast.tw9562379936819458907:Nat:=0
def PySem.W.Fast.tw3009153384083265161:Nat:=0
def PySem.W.Fast.tw9493205410247258591:Nat:=0
def PySem.W.Fast.tw7309626581478239836:Nat:=0
def PySem.W.Fast.tw14320923139341263142:Nat:=0
def PySem.W.Fast.tw5226334716741743504:Nat:=0
def PySem.W.Fast.tw15713163354931857124:Nat:=0
def PySem.W.Fast.tw2935846314704088748:Nat:=0
def PySem.W.Fast.tw4329021306551170415:Nat:=0
def PySem.W.Fast.tw8894282104057306975:Nat:=0
def PySem.W.Fast.tw12334723667538624010:Nat:=0
def PySem.W.Fast.tw14458241486247483616:Nat:=0
def PySem.W.Fast.tw12491757276819102442:Nat:=0
def PySem.W.Fast.tw10581522265949070529:Nat:=0
def PySem.W.Fast.tw6153903399280677234:Nat:=0
def PySem.W.Fast.tw292692410926770925:Nat:=0
def PySem.W.Fast.tw10289137724996854550:Nat:=0
def PySem.W.Fast.tw6298760865970142096:Nat:=0
def PySem.W.Fast.tw1612410325096518420:Nat:=0
def PySem.W.Fast.tw4691575232359754295:Nat:=0
def PySem.W.Fast.tw2020535042508125928:Nat:=0
def PySem.W.Fast.tw1707335501538934440:Nat:=0
def PySem.W.Fast.tw6176656267969770903:Nat:=0
def PySem.W.Fast.tw3733752654257682962:Nat:=0
def PySem.W.Fast.tw2445761669545687596:Nat:=0
def PySem.W.Fast.tw12950673753720445438:Nat:=0
def PySem.W.Fast.tw6776574524245998334:Nat:=0
def PySem.W.Fast.tw9169959056248009460:Nat:=0
def PySem.W.Fast.tw7045392266765688139:Nat:=0
def PySem.W.Fast.tw5617009197227368337:Nat:=0
def PySem.W.Fast.tw13693106482771546332:Nat:=0
def PySem.W.Fast.tw2403704234413162583:Nat:=0
def PySem.W.Fast.tw2686282448150618379:Nat:=0
def PySem.W.Fast.tw15773435238280904732:Nat:=0
def PySem.W.Fast.tw13369292705523296113:Nat:=0
def PySem.W.Fast.tw7994328496430851057:Nat:=0
def PySem.W.Fast.tw17777854780366090444:Nat:=0
def PySem.W.Fast.tw13294407190977181755:Nat:=0
def PySem.W.Fast.tw5453473786749767666:Nat:=0
def PySem.W.Fast.tw10529254643219186215:Nat:=0
def PySem.W.Fast.tw15302057701151843075:Nat:=0
def PySem.W.Fast.tw5042764690693310018:Nat:=0
def PySem.W.Fast.tw15034312818392900007:Nat:=0
def PySem.W.Fast.tw9971683356420427193:Nat:=0
def PySem.W.Fast.tw8320842892647879056:Nat:=0
def PySem.W.Fast.tw9312954072305618991:Nat:=0
def PySem.W.Fast.tw8498360435162573906:Nat:=0
def PySem.W.Fast.tw16584810567729742968:Nat:=0
def PySem.W.Fast.tw14710363033481877573:Nat:=0
def PySem.W.Fast.tw7141369654473989091:Nat:=0
def PySem.W.Fast.tw723528328280454690:Nat:=0
def PySem.W.Fast.tw5348450446686314513:Nat:=0
def PySem.W.Fast.tw3397836870014439387:Nat:=0
def PySem.W.Fast.tw16888847564303578345:Nat:=0
def PySem.W.Fast.tw7467536774172805706:Nat:=0
def PySem.W.Fast.tw12043621299740586775:Nat:=0
def PySem.W.Fast.tw10884274258544229435:Nat:=0
def PySem.W.Fast.tw17312394726313209097:Nat:=0
def PySem.W.Fast.tw6404405134833578800:Nat:=0
def PySem.W.Fast.tw1003851382009330374:Nat:=0
def PySem.W.Fast.tw4287451795962984502:Nat:=0
def PySem.W.Fast.tw11295202775465698163:Nat:=0
def PySem.W.Fast.tw4238168594030302859:Nat:=0
def PySem.W.Fast.tw6484827978111352707:Nat:=0
def PySem.W.Fast.tw1138725518195736637:Nat:=0
def PySem.W.Fast.tw554422611888677770:Nat:=0
def PySem.W.Fast.tw6796092722896701834:Nat:=0
def PySem.W.Fast.tw4756514996910174996:Nat:=0
def PySem.W.Fast.tw4982672855804026964:Nat:=0
def PySem.W.Fast.tw9924864416973626998:Nat:=0
def PySem.W.Fast.tw5673243318199463329:Nat:=0
def PySem.W.Fast.tw5722242204476065552:Nat:=0
def PySem.W.Fast.tw15932971924036412952:Nat:=0
def PySem.W.Fast.tw5182666894955933400:Nat:=0
def PySem.W.Fast.tw13463521512350248797:Nat:=0
def PySem.W.Fast.tw4895231510849057006:Nat:=0
def PySem.W.Fast.tw17586053491673151442:Nat:=0
def PySem.W.Fast.tw582278311083445554:Nat:=0
def PySem.W.Fast.tw6919940071101146343:Nat:=0
def PySem.W.Fast.tw17593398959866709109:Nat:=0
def PySem.W.Fast.tw6761836610358503375:Nat:=0
def PySem.W.Fast.tw4338107462042980140:Nat:=0
def PySem.W.Fast.tw2248986205218522200:Nat:=0
def PySem.W.Fast.tw2714762862441170969:Nat:=0
def PySem.W.Fast.tw13839485386839396814:Nat:=0
def PySem.W.Fast.tw3800488406989650256:Nat:=0
def PySem.W.Fast.tw15127110163457704420:Nat:=0
def PySem.W.Fast.tw1643579749528696956:Nat:=0
def PySem.W.Fast.tw12612008293159567032:Nat:=0
def PySem.W.Fast.tw14660858691031508353:Nat:=0
def PySem.W.Fast.tw14839487291921805445:Nat:=0
def PySem.W.Fast.tw14143517524628326658:Nat:=0
def PySem.W.Fast.tw16653695171260409282:Nat:=0
def PySem.W.Fast.tw13811223962137302047:Nat:=0
def PySem.W.Fast.tw17805720177539803205:Nat:=0
def PySem.W.Fast.tw2551474735017759415:Nat:=0
def PySem.W.Fast.tw11005467979933140796:Nat:=0
def PySem.W.Fast.tw14124352651318499665:Nat:=0
def PySem.W.Fast.tw16429416239705335570:Nat:=0
def PySem.W.Fast.tw3756528695490816884:Nat:=0
def PySem.W.Fast.tw1825664544292716424:Nat:=0
def PySem.W.Fast.tw2946669175314348767:Nat:=0
def PySem.W.Fast.tw1193893088599868413:Nat:=0
def PySem.W.Fast.tw2434835174070509911:Nat:=0
def PySem.W.Fast.tw1756655859150843553:Nat:=0
def PySem.W.Fast.tw15630729372377309608:Nat:=0
def PySem.W.Fast.tw3386172824206205110:Nat:=0
def PySem.W.Fast.tw16607338939168089446:Nat:=0
def PySem.W.Fast.tw723073444842757481:Nat:=0
def PySem.W.Fast.tw1850654788848405574:Nat:=0
def PySem.W.Fast.tw9496051722216037152:Nat:=0
def PySem.W.Fast.tw13630292782916686006:Nat:=0
def PySem.W.Fast.tw18056603210547732712:Nat:=0
def PySem.W.Fast.tw249993969251717790:Nat:=0
namespace My
open PySem L2 PyProof.Rows
seal PE PT PW PA PS PSs PG PGs PI jL OpR UnR A4 qW IxR MtR MtM qm PIp PC
def top (i:Nat):Stmt:=PySem.Challenge.pw_crossracks_k56_whole_hall_of_nests.main.body.getD i (.Pass ⟨0,0,0,0⟩)
structure Txt (K:PySem.W.Frag) (mg:Str → Option Value):Prop where
 m_len:mg "len" = none
 m_isinstance:mg "isinstance" = none
 m_int:mg "int" = none
 m_bool:mg "bool" = none
 m_tuple:mg "tuple" = none
 m_list:mg "list" = none
 m_range:mg "range" = none
 m_abs:mg "abs" = none
 m_min:mg "min" = none
 m_max:mg "max" = none
 m_sorted:mg "sorted" = none
 m_zip:mg "zip" = none
 m_enumerate:mg "enumerate" = none
 m_divmod:mg "divmod" = none
 m_set:mg "set" = none
 m_sum:mg "sum" = none
 m_ValueError:mg "ValueError" = none
structure kE (K:PySem.W.Frag) (mg:Str → Option Value) (C_HallError:Addr) (C_TooFull:Addr) (C_NoTurns:Addr) (C_Wide:Addr):Prop where
 mg_HallError:mg "HallError" = some (.ref C_HallError)
 mg_TooFull:mg "TooFull" = some (.ref C_TooFull)
 mg_NoTurns:mg "NoTurns" = some (.ref C_NoTurns)
 mg_Wide:mg "Wide" = some (.ref C_Wide)
 i_Wide:∃ fI,qU K mg "Wide" C_Wide fI
 n_Wide:gf K C_Wide
 x_Wide:dh K C_Wide
 kv_Wide:PySem.W.kitOne K (.ref C_Wide) (.type "ValueError") = some true
 kh_Wide:PySem.W.exmOne K (.ref C_Wide) (.ref C_HallError) = some true
 kx_Wide_HallError:PySem.W.kitOne K (.ref C_Wide) (.ref C_HallError) = some true
 kx_Wide_TooFull:PySem.W.kitOne K (.ref C_Wide) (.ref C_TooFull) = some false
 kx_Wide_NoTurns:PySem.W.kitOne K (.ref C_Wide) (.ref C_NoTurns) = some false
 kx_Wide_Wide:PySem.W.kitOne K (.ref C_Wide) (.ref C_Wide) = some true
 f_Wide_caller:PySem.W.findIn K (.ref C_Wide) "caller" = some none
def cell (ns:List Int) (k:Nat):Int:=ns.getD k 0
theorem lJ {ns:List Int} {k:Nat} (h:k < ns.length):atI (ns.map V.int) (k:Int) = some (.int (cell ns k)):=C0 (by
 rw [List.getElem?_map,List.getElem?_eq_getElem h]
 simp [cell,List.getD,h])
theorem g6 {H:Hp} {p:Addr} (h:H p = none) (o:HO):j7 H (upd H p o):=fun b u q=>by rw [g7 (i4 q h)]; exact q
theorem j7.put {H H':Hp} {l:Addr} {o:HO} (s:j7 H H') (hl:H l = none):j7 H (upd H' l o):=fun b u q=>by
 rw [g7 (i4 q hl)]
 exact s b u q
def rg (t:Addr) (H H':Hp):Prop:=∀ b u,b ≠ t → H b = some u → H' b = some u
def gZ (K:PySem.W.Frag):Sp:=fun vs H Q _=>∃ (a:Addr) (ns:List Int) (k:Nat),vs = [.ref a,.int k] ∧ SqL K H a (ns.map V.int) ∧ Q (.int (cell ns k)) H
def iB (K:PySem.W.Frag):Sp:=fun vs H Q _=>∃ (a:Addr) (ns:List Int),vs = [.ref a] ∧ SqL K H a (ns.map V.int) ∧ ns.length ≤ 63 ∧ ∀ H',Q (.bl true) H'
def aG:Sp:=fun vs H Q _=>∃ (c:Int) (k:Nat),vs = [.int c,.int k] ∧ k ≤ 63 ∧ ∀ v:Int,0 ≤ v → v < 2147483647 → Q (.int v) H
theorem j7.seqT {K:PySem.W.Frag} {H H':Hp} {a:Addr} {xs:List V} (e:j7 H H') (h:SqT K H a xs):SqT K H' a xs:=by
 rcases h with (h | ⟨o,h⟩) | h
 ·exact .inl (.inl (e _ _ h))
 ·exact .inl (.inr ⟨o,e _ _ h⟩)
 ·exact .inr h
section
variable {P:Program} {w:World} {K:PySem.W.Frag} {mg:Str → Option Value} {base:Heap}
theorem aq:FnScope ["_law_script","_law_k"] ["_law_script","_law_k"] (d7 (top 35)):=⟨rfl,rfl,rfl,by decide +kernel,rfl,by decide +kernel,by decide +kernel⟩
theorem nP (T:Txt K mg) (D:Def K mg "_law_cell_at" (top 35) ["_law_script","_law_k"]):h9 P w K mg base 1 "_law_cell_at" ["_law_script","_law_k"] (gZ K):=by
 refine D.ok aq (fun vs H Q E h=>?_) (fun f cdv A outer s H vs Q E hr h=>?_)
 ·obtain ⟨a,ns,k,rfl,_⟩:=h
  rfl
 obtain ⟨a,ns,k,rfl,hS,q⟩:=h
 refine ⟨_,(d5 (p4 (j0 kH (pv 1) (i8 (u7 K) rfl T.m_len boot_len (b7 (pv 0) d6 b8)) (j8 _)) (d9 (i9 (g9 (p9 K) (pv 0) (pv 1) (fun _ _=>rfl)))) j9)
  (d9 (i9 b9))),?_⟩
 refine ⟨_,rfl,_,rfl,a,_,rfl,.inl hS,_,_,rfl,rfl,_,rfl,?_⟩
 refine E9 (fun c=>?_) (fun c=>?_)
 ·have c':(k:Int) < (((ns.map V.int).length:Nat):Int):=of_decide_eq_true c
  rw [List.length_map] at c'
  exact ⟨_,rfl,_,rfl,a,_,_,_,rfl,rfl,hS,lJ (by lia),q⟩
 ·have c':¬ (k:Int) < (((ns.map V.int).length:Nat):Int):=of_decide_eq_false (Bool.eq_false_iff.mpr c)
  rw [List.length_map] at c'
  have e:cell ns k = 0:=by simp [cell,List.getD,List.getElem?_eq_none (show ns.length ≤ k by lia)]
  rw [e] at q
  exact q
theorem bO:FnScope ["_law_cell","_law_k"] ["_law_cell","_law_k"] (d7 (top 36)):=⟨rfl,rfl,rfl,by decide +kernel,rfl,by decide +kernel,by decide +kernel⟩
theorem lZ (T:Txt K mg) (D:Def K mg "_law_mixed" (top 36) ["_law_cell","_law_k"]):h9 P w K mg base 1 "_law_mixed" ["_law_cell","_law_k"] aG:=by
 refine D.ok bO (fun vs H Q E h=>?_) (fun f cdv A outer s H vs Q E hr h=>?_)
 ·obtain ⟨c,k,rfl,_⟩:=h
  rfl
 obtain ⟨c,k,rfl,hk,q⟩:=h
 refine ⟨_,(d9 (i9 (i0 q5 (i0 F7 (i0 p8 (i0 p8 (i0 q5 (pv 0) b9) (i0 F7 (pv 1) (pv 1))) b9) b9) b9))),?_⟩
 exact ⟨_,rfl,_,_,rfl,rfl,(by show (0:Int) < 1000003; decide),_,rfl,_,rfl,_,_,rfl,rfl,.inl ⟨by lia,by lia⟩,_,_,rfl,rfl,_,_,rfl,rfl,_,_,rfl,rfl,.inr ⟨by decide,by decide⟩,_,_,rfl,rfl,(by show (0:Int) < 2147483647; decide),q _ (Int.emod_nonneg _ (by decide)) (Int.emod_lt_of_pos _ (by decide))⟩
end
def X2:Sp:=fun vs H Q _=>∃ (l:Addr) (n m:Int),vs = [.ref l,.int m] ∧ H l = some (.lst [.int n]) ∧ 0 < m ∧ m < 1000 ∧ Q (.int (n % m)) (upd H l (.lst [.int (n / m)]))
section
variable {P:Program} {w:World} {K:PySem.W.Frag} {mg:Str → Option Value} {base:Heap}
theorem V0:FnScope ["_law_left","_law_many","_law_found"] ["_law_left","_law_many"] (d7 (top 38)):=⟨rfl,rfl,rfl,by decide +kernel,rfl,by decide +kernel,by decide +kernel⟩
theorem lT (T:Txt K mg) (D:Def K mg "_law_digit" (top 38) ["_law_left","_law_many"]):h9 P w K mg base 1 "_law_digit" ["_law_left","_law_many"] X2:=by
 refine D.ok V0 (fun vs H Q E h=>?_) (fun f cdv A outer s H vs Q E hr h=>?_)
 ·obtain ⟨l,n,m,rfl,_⟩:=h
  rfl
 obtain ⟨l,n,m,rfl,hl,hm,hm2,q⟩:=h
 refine ⟨_,(d5 (i6 (i:=2) V0.nd rfl (Or.inl rfl) (i0 q5 (g9 (p9 K) (pv 0) b9 (fun _ _=>rfl)) (pv 1)))
  (d5 (gU (i0 n5 (g9 (p9 K) (pv 0) b9 (fun _ _=>rfl)) (pv 1)) (fZ (pv 0) b9 bv))
  (d9 (i9 (pv 2))))),?_⟩
 refine ⟨_,rfl,l,_,_,_,rfl,rfl,SqL.of hl,rfl,_,rfl,_,_,rfl,rfl,hm,?_⟩
 exact ⟨_,rfl,l,_,_,_,rfl,rfl,SqL.of hl,rfl,_,rfl,_,_,rfl,rfl,⟨hm,by lia⟩,_,rfl,l,_,_,0,rfl,rfl,hl,rfl,_,rfl,q⟩
end
def oN:Option Nat → V
 | none=>.non
 | some n=>.int (n:Nat)
def kf (H:Hp) (a:Addr) (p:Int × Int):Prop:=H a = some (.tup [.int p.1,.int p.2])
def F1 (H:Hp) (as:List Addr) (ps:List (Int × Int)):Prop:=Paired (kf H) as ps
theorem F1.mono {H H':Hp} {as:List Addr} {ps:List (Int × Int)} (s:∀ a xs,H a = some (.tup xs) → H' a = some (.tup xs)) (h:F1 H as ps):F1 H' as ps:=Paired.mapP h fun a p z=>s _ _ z
theorem F1.same {H H':Hp} {as:List Addr} {ps:List (Int × Int)} (s:j7 H H') (h:F1 H as ps):F1 H' as ps:=h.mono fun a xs z=>s _ _ z
theorem iD {F:Addr → Int × Int → Prop} {a:Addr} {p:Int × Int}:∀ {as:List Addr} {ps:List (Int × Int)},Paired F as ps → F a p → Paired F (as ++ [a]) (ps ++ [p])
 | _,_,.nil,h=>.cons h .nil
 | _,_,.cons r t,h=>.cons r (iD t h)
theorem F1.snoc {H:Hp} {as:List Addr} {ps:List (Int × Int)} {a:Addr} {p:Int × Int} (h:F1 H as ps) (e:H a = some (.tup [.int p.1,.int p.2])):F1 H (as ++ [a]) (ps ++ [p]):=iD h e
def sdI (side:Int) (p:Int × Int):Int:=if side = 0 then p.1 else p.2
def rks (side:Int) (ps:List (Int × Int)):List Int:=ps.map (sdI side)
theorem oE {side:Int} (hs:side = 0 ∨ side = 1) (p:Int × Int):atI [V.int p.1,V.int p.2] side = some (V.int (sdI side p)):=by
 rcases hs with rfl | rfl <;> rfl
theorem aC {n k:Nat} (h:k < n):ixN n (k:Int) = some k:=by
 unfold ixN
 simp
 lia
theorem iG {α:Type} (f:α → V) (l:List α) (i:Nat) (x:α):(l.map f).set i (f x) = (l.set i x).map f:=by rw [List.map_set]
theorem cR {f:Int → V} (r:Int):∀ ns:List Int,r9 (ns.map fun r=>((Sum.inl r:Key),f r)) (.inl r) = if r ∈ ns then some (f r) else none
 | []=>rfl
 | n :: ns=>by
  rw [List.map_cons]
  by_cases e:n = r
  ·subst e
   rw [A0 (by rfl),if_pos (List.mem_cons_self ..)]
  ·rw [x8 (fun z=>e (Sum.inl.inj z)),cR r ns]
   have:r ∈ n :: ns ↔ r ∈ ns:=by
    rw [List.mem_cons]
    exact ⟨fun z=>z.elim (fun y=>absurd y.symm e) id,.inr⟩
   by_cases m:r ∈ ns
   ·rw [if_pos m,if_pos (this.mpr m)]
   ·rw [if_neg m,if_neg (fun z=>m (this.mp z))]
def aA (kvs:List (Key × V)) (rs:List Int):Prop:=∃ ns:List Int,ns.Nodup ∧ (∀ r,r ∈ ns ↔ r ∈ rs) ∧ ns.length ≤ rs.length ∧ kvs = ns.map fun r=>((Sum.inl r:Key),V.int ((rs.count r:Nat):Int))
theorem aA.nil:aA [] []:=⟨[],List.nodup_nil,fun r=>Iff.rfl,Nat.le_refl _,rfl⟩
theorem aA.val {kvs:List (Key × V)} {rs:List Int} (h:aA kvs rs) (r:Int):r9 kvs (.inl r) = if r ∈ rs then some (.int ((rs.count r:Nat):Int)) else none:=by
 obtain ⟨ns,_,h2,_,rfl⟩:=h
 rw [cR]
 by_cases m:r ∈ rs
 ·rw [if_pos m,if_pos ((h2 r).mpr m)]
 ·rw [if_neg m,if_neg fun z=>m ((h2 r).mp z)]
theorem aA.get {kvs:List (Key × V)} {rs:List Int} (h:aA kvs rs) (r:Int):(r9 kvs (.inl r)).getD (.int 0) = .int ((rs.count r:Nat):Int):=by
 rw [h.val]
 by_cases m:r ∈ rs
 ·rw [if_pos m]; rfl
 ·rw [if_neg m,List.count_eq_zero.mpr m]; rfl
theorem N2 (rs:List Int) (r x:Int):(rs ++ [r]).count x = rs.count x + if r = x then 1 else 0:=by
 rw [List.count_append,List.count_singleton]
 by_cases e:r = x
 ·rw [if_pos e,if_pos (by simpa using e)]
 ·rw [if_neg e,if_neg (by simpa using e)]
theorem aA.put {kvs:List (Key × V)} {rs:List Int} (h:aA kvs rs) (r:Int):aA (B7 kvs (.inl r) (.int ((rs.count r:Nat) + 1:Int))) (rs ++ [r]):=by
 obtain ⟨ns,h1,h2,h3,rfl⟩:=h
 have hv:=cR (f:=fun r=>V.int ((rs.count r:Nat):Int)) r ns
 by_cases m:r ∈ ns
 ·rw [if_pos m] at hv
  refine ⟨ns,h1,fun x=>?_,by rw [List.length_append]; lia,?_⟩
  ·rw [h2 x,List.mem_append,List.mem_singleton]
   exact ⟨.inl,fun z=>z.elim id fun y=>y ▸ (h2 r).mp m⟩
  ·unfold B7
   rw [if_pos (by rw [O7,hv]; rfl),List.map_map]
   refine List.map_congr_left fun x hx=>?_
   by_cases e:x = r
   ·subst e
    simp only [Function.comp,if_pos,N2]
    rfl
   ·have e':¬ (Sum.inl x:Key) = Sum.inl r:=fun z=>e (Sum.inl.inj z)
    simp only [Function.comp,if_neg e',N2,if_neg (show ¬ r = x from fun z=>e z.symm),Nat.add_zero]
 ·rw [if_neg m] at hv
  rw [kz _ hv]
  have mr:¬ r ∈ rs:=fun z=>m ((h2 r).mpr z)
  refine ⟨ns ++ [r],hV h1 m,fun x=>?_,by rw [List.length_append,List.length_append]; exact Nat.add_le_add_right h3 _,?_⟩
  ·rw [List.mem_append,List.mem_append,h2 x]
  ·rw [List.map_append]
   congr 1
   ·refine List.map_congr_left fun x hx=>?_
    have e:¬ r = x:=fun z=>m (z ▸ hx)
    rw [N2,if_neg e,Nat.add_zero]
   ·rw [List.map_singleton,N2,if_pos rfl]
    rfl
def lE (K:PySem.W.Frag):Sp:=fun vs H Q _=>∃ (l:Addr) (as:List Addr) (ps:List (Int × Int)) (side:Int),vs = [.ref l,.int side] ∧ SqL K H l (as.map V.ref) ∧ F1 H as ps ∧ ps.length ≤ 60 ∧ (side = 0 ∨ side = 1) ∧ ∀ (d:Addr) (kvs:List (Key × V)) (H':Hp),j7 H H' → H d = none → H' d = some (.dK kvs) → aA kvs (rks side ps) → Q (.ref d) H'
theorem O8 {α:Type} {l:List α} {i:Nat} {x:α} (h:l[i]? = some x):l.take (i + 1) = l.take i ++ [x]:=by
 rw [List.take_add_one,h]
 rfl
section
variable {P:Program} {w:World} {K:PySem.W.Frag} {mg:Str → Option Value} {base:Heap}
theorem L6:FnScope ["pairs","side","found","pair"] ["pairs","side"] (d7 (top 17)):=⟨rfl,rfl,rfl,by decide +kernel,rfl,by decide +kernel,by decide +kernel⟩
theorem mT (T:Txt K mg) (D:Def K mg "side_weights" (top 17) ["pairs","side"]):h9 P w K mg base 1 "side_weights" ["pairs","side"] (lE K):=by
 refine D.ok L6 (fun vs H Q E h=>?_) (fun f cdv A outer s H vs Q E hr h=>?_)
 ·obtain ⟨l,as,ps,side,rfl,_⟩:=h
  rfl
 obtain ⟨l,as,ps,side,rfl,hl,pr,few,hs,q⟩:=h
 refine ⟨_,(d5 (i6 (i:=2) L6.nd rfl (Or.inl rfl) X3)
  (d5 (w5 PassesOwn.never rfl (o6 K (pv 0)) (m6 (i:=3) L6.nd rfl (Or.inl rfl))
  (d9 (U1 (L9 hr) (pv 2) (g9 (d8 K) (pv 3) (pv 1) (fun _ _=>rfl)) (i0 p8 (kR (L9 hr) (pv 2) (g9 (d8 K) (pv 3) (pv 1) (fun _ _=>rfl)) b9 ⟨rfl,rfl,rfl,rfl⟩) b9) rfl)))
  (d9 (i9 (pv 2))))),?_⟩
 refine fun d hd=>?_
 have ed:=d4 (H:=H) (a:=d) (o:=.dK [])
 have s1:=g6 hd (.dK [])
 generalize upd H d (.dK []) = H1 at ed s1 ⊢
 have ln:as.length = ps.length:=Paired.length pr
 refine ⟨_,rfl,l,rfl,⟨_,s1.seq hl⟩,?_⟩
 refine y9 (xs:=as.map V.ref) (fun i σ H'=>j7 H H' ∧ (∃ kvs,H' d = some (.dK kvs) ∧ aA kvs (rks side (ps.take i))) ∧ ∃ v3,σ = [some (.ref l),some (.int side),some (.ref d),v3])
  ⟨s1,⟨[],ed,aA.nil⟩,none,rfl⟩ (fun i σ H' _ g=>g.1.seq hl) ?_ ?_
 ·rintro i x σ H' hx ⟨s2,⟨kvs,e1,cd⟩,v3,rfl⟩
  rw [List.getElem?_map] at hx
  obtain ⟨a,ha,rfl⟩:=Option.map_eq_some_iff.mp hx
  obtain ⟨p,hp,pa⟩:=m9 pr i a ha
  have pa':H' a = some (.tup [.int p.1,.int p.2]):=s2 _ _ pa
  have hi:=(List.getElem?_eq_some_iff.mp hp).1
  have kl:kvs.length ≤ 60:=by
   obtain ⟨ns,_,_,h3,rfl⟩:=cd
   rw [rks,List.length_map,List.length_take] at h3
   rw [List.length_map]
   lia
  refine ⟨_,rfl,d,rfl,.inl ⟨_,.inl e1⟩,_,rfl,_,rfl,a,_,_,_,rfl,rfl,SqT.of pa',oE hs p,_,N4.k (k:=.inl (sdI side p)) e1,_,_,cd.get _,rfl,_,rfl,_,rfl,_,rfl,a,_,_,_,rfl,rfl,SqT.of pa',oE hs p,d,_,rfl,aB.k (k:=.inl (sdI side p)) e1 (B5 (by lia)),?_⟩
  refine ⟨j7.put s2 hd,⟨_,d4,?_⟩,_,rfl⟩
  have:=cd.put (sdI side p)
  rw [O8 hp,show rks side (ps.take i ++ [p]) = rks side (ps.take i) ++ [sdI side p] by rw [rks,rks,List.map_append]; rfl]
  exact this
 ·rintro σ H' ⟨s2,⟨kvs,e1,cd⟩,v3,rfl⟩
  rw [List.length_map,ln,List.take_length] at cd
  exact ⟨_,rfl,q d kvs H' s2 hd e1 cd⟩
end
structure Num (R0 R1:Nat → Int) (t:Nat) (nu:Nat → Int):Prop where
 p0:∀ i j,i < t → j < t → nu i = nu j → R0 i = R0 j → i = j
 p1:∀ i j,i < t → j < t → nu i = nu j → R1 i = R1 j → i = j
structure Cha (R0 R1:Nat → Int) (t:Nat) (nu:Nat → Int) (a b r1:Int) (cs pre:List Nat):Prop where
 nd:cs.Nodup
 sub:∀ i ∈ pre,i ∈ cs
 lt:∀ i ∈ cs,i < t
 ab:∀ i ∈ cs,nu i = a ∨ nu i = b
 A:∀ p ∈ cs,nu p = b → ∃ e ∈ pre,nu e = a ∧ R0 e = R0 p
 B:∀ p ∈ cs,nu p = a → R1 p = r1 ∨ ∃ e ∈ pre,nu e = b ∧ R1 e = R1 p
 C:∀ e ∈ pre,nu e = a → ∀ j,j < t → nu j = b → R0 j = R0 e → j ∈ cs
 D:∀ e ∈ pre,nu e = b → ∀ j,j < t → nu j = a → R1 j = R1 e → j ∈ cs
 F:∀ j,j < t → nu j = a → R1 j = r1 → j ∈ cs
section
variable {R0 R1:Nat → Int} {t:Nat} {nu:Nat → Int} {a b r1:Int} {cs pre:List Nat} {e p:Nat}
theorem Cha.none (h:∀ j,j < t → nu j = a → R1 j ≠ r1):Cha R0 R1 t nu a b r1 [] [] :=
 ⟨List.nodup_nil,(fun i z=>z),(fun i z=>nomatch z),(fun i z=>nomatch z),(fun i z=>nomatch z),(fun i z=>nomatch z),(fun i z=>nomatch z),(fun i z=>nomatch z),fun j h1 h2 h3=>absurd h3 (h j h1 h2)⟩
theorem Cha.one (N:Num R0 R1 t nu) (hb:∀ j,j < t → R1 j = r1 → nu j ≠ b) (hp:p < t) (pa:nu p = a) (pr:R1 p = r1):Cha R0 R1 t nu a b r1 [p] []:=by
 have hab:a ≠ b:=fun z=>hb p hp pr (by rw [pa,z])
 refine ⟨by simp,(fun i z=>nomatch z),fun i z=>?_,fun i z=>?_,fun i z y=>?_,fun i z y=>?_,(fun i z=>nomatch z),(fun i z=>nomatch z),fun j h1 h2 h3=>?_⟩
 ·rw [List.mem_singleton.mp z]; exact hp
 ·rw [List.mem_singleton.mp z]; exact .inl pa
 ·rw [List.mem_singleton.mp z,pa] at y; exact absurd y hab
 ·rw [List.mem_singleton.mp z]; exact .inl pr
 ·rw [N.p1 j p h1 hp (by rw [h2,pa]) (by rw [h3,pr])]; exact List.mem_singleton.mpr rfl
theorem hX (h:(pre ++ [e]).Nodup):¬ e ∈ pre:=fun z=>by
 rw [List.nodup_append] at h
 exact h.2.2 e z e (List.mem_singleton.mpr rfl) rfl
theorem fD {l:List Nat} {x:Nat} (h:l.Nodup) (hx:¬ x ∈ l):(l ++ [x]).Nodup:=by
 rw [List.nodup_append]
 refine ⟨h,by simp,fun y hy z hz w=>?_⟩
 rw [List.mem_singleton.mp hz] at w
 exact hx (w ▸ hy)
theorem Cha.to0 (N:Num R0 R1 t nu) (hab:a ≠ b) (h:Cha R0 R1 t nu a b r1 (pre ++ [e]) pre) (ea:nu e = a) (hp:p < t) (pb:nu p = b) (pr:R0 p = R0 e):Cha R0 R1 t nu a b r1 ((pre ++ [e]) ++ [p]) (pre ++ [e]):=by
 have he:e ∈ pre ++ [e]:=List.mem_append_right _ (List.mem_singleton.mpr rfl)
 have le:=h.lt e he
 have np:¬ p ∈ pre ++ [e]:=fun z=>by
  obtain ⟨e',h1,h2,h3⟩:=h.A p z pb
  have:e' = e:=N.p0 e' e (h.lt e' (h.sub e' h1)) le (by rw [h2,ea]) (by rw [h3,pr])
  exact hX h.nd (this ▸ h1)
 have old:∀ i,i ∈ pre ++ [e] → i ∈ (pre ++ [e]) ++ [p]:=fun i z=>List.mem_append_left _ z
 have cas:∀ i,i ∈ (pre ++ [e]) ++ [p] → i ∈ pre ++ [e] ∨ i = p:=fun i z=>(List.mem_append.mp z).imp id List.mem_singleton.mp
 refine ⟨fD h.nd np,old,fun i z=>?_,fun i z=>?_,fun i z y=>?_,fun i z y=>?_,fun i z y j h1 h2 h3=>?_,fun i z y j h1 h2 h3=>?_,fun j h1 h2 h3=>old _ (h.F j h1 h2 h3)⟩
 ·rcases cas i z with w | rfl
  ·exact h.lt i w
  ·exact hp
 ·rcases cas i z with w | rfl
  ·exact h.ab i w
  ·exact .inr pb
 ·rcases cas i z with w | rfl
  ·obtain ⟨e',h1,h2⟩:=h.A i w y
   exact ⟨e',h.sub e' h1,h2⟩
  ·exact ⟨e,he,ea,pr.symm⟩
 ·rcases cas i z with w | rfl
  ·rcases h.B i w y with v | ⟨e',h1,h2⟩
   ·exact .inl v
   ·exact .inr ⟨e',h.sub e' h1,h2⟩
  ·exact absurd (y.symm.trans pb) hab
 ·rcases List.mem_append.mp z with w | w
  ·exact old _ (h.C i w y j h1 h2 h3)
  ·rw [List.mem_singleton.mp w] at h3
   rw [N.p0 j p h1 hp (by rw [h2,pb]) (by rw [h3,pr])]
   exact List.mem_append_right _ (List.mem_singleton.mpr rfl)
 ·rcases List.mem_append.mp z with w | w
  ·exact old _ (h.D i w y j h1 h2 h3)
  ·rw [List.mem_singleton.mp w,ea] at y
   exact absurd y hab
theorem Cha.to1 (N:Num R0 R1 t nu) (hab:a ≠ b) (hb:∀ j,j < t → R1 j = r1 → nu j ≠ b) (h:Cha R0 R1 t nu a b r1 (pre ++ [e]) pre) (eb:nu e = b) (hp:p < t) (pa:nu p = a) (pr:R1 p = R1 e):Cha R0 R1 t nu a b r1 ((pre ++ [e]) ++ [p]) (pre ++ [e]):=by
 have he:e ∈ pre ++ [e]:=List.mem_append_right _ (List.mem_singleton.mpr rfl)
 have le:=h.lt e he
 have np:¬ p ∈ pre ++ [e]:=fun z=>by
  rcases h.B p z pa with w | ⟨e',h1,h2,h3⟩
  ·exact hb e le (by rw [← pr,w]) eb
  ·have:e' = e:=N.p1 e' e (h.lt e' (h.sub e' h1)) le (by rw [h2,eb]) (by rw [h3,pr])
   exact hX h.nd (this ▸ h1)
 have old:∀ i,i ∈ pre ++ [e] → i ∈ (pre ++ [e]) ++ [p]:=fun i z=>List.mem_append_left _ z
 have cas:∀ i,i ∈ (pre ++ [e]) ++ [p] → i ∈ pre ++ [e] ∨ i = p:=fun i z=>(List.mem_append.mp z).imp id List.mem_singleton.mp
 refine ⟨fD h.nd np,old,fun i z=>?_,fun i z=>?_,fun i z y=>?_,fun i z y=>?_,fun i z y j h1 h2 h3=>?_,fun i z y j h1 h2 h3=>?_,fun j h1 h2 h3=>old _ (h.F j h1 h2 h3)⟩
 ·rcases cas i z with w | rfl
  ·exact h.lt i w
  ·exact hp
 ·rcases cas i z with w | rfl
  ·exact h.ab i w
  ·exact .inl pa
 ·rcases cas i z with w | rfl
  ·obtain ⟨e',h1,h2⟩:=h.A i w y
   exact ⟨e',h.sub e' h1,h2⟩
  ·exact absurd (pa.symm.trans y) hab
 ·rcases cas i z with w | rfl
  ·rcases h.B i w y with v | ⟨e',h1,h2⟩
   ·exact .inl v
   ·exact .inr ⟨e',h.sub e' h1,h2⟩
  ·exact .inr ⟨e,he,eb,pr.symm⟩
 ·rcases List.mem_append.mp z with w | w
  ·exact old _ (h.C i w y j h1 h2 h3)
  ·rw [List.mem_singleton.mp w,eb] at y
   exact absurd y.symm hab
 ·rcases List.mem_append.mp z with w | w
  ·exact old _ (h.D i w y j h1 h2 h3)
  ·rw [List.mem_singleton.mp w] at h3
   rw [N.p1 j p h1 hp (by rw [h2,pa]) (by rw [h3,pr])]
   exact List.mem_append_right _ (List.mem_singleton.mpr rfl)
theorem Cha.end0 (hab:a ≠ b) (h:Cha R0 R1 t nu a b r1 (pre ++ [e]) pre) (ea:nu e = a) (no:∀ j,j < t → nu j = b → R0 j ≠ R0 e):Cha R0 R1 t nu a b r1 (pre ++ [e]) (pre ++ [e]):=by
 refine ⟨h.nd,fun i z=>z,h.lt,h.ab,fun i z y=>?_,fun i z y=>?_,fun i z y j h1 h2 h3=>?_,fun i z y j h1 h2 h3=>?_,h.F⟩
 ·obtain ⟨e',h1,h2⟩:=h.A i z y
  exact ⟨e',h.sub e' h1,h2⟩
 ·rcases h.B i z y with v | ⟨e',h1,h2⟩
  ·exact .inl v
  ·exact .inr ⟨e',h.sub e' h1,h2⟩
 ·rcases List.mem_append.mp z with w | w
  ·exact h.C i w y j h1 h2 h3
  ·rw [List.mem_singleton.mp w] at h3
   exact absurd h3 (no j h1 h2)
 ·rcases List.mem_append.mp z with w | w
  ·exact h.D i w y j h1 h2 h3
  ·rw [List.mem_singleton.mp w,ea] at y
   exact absurd y hab
theorem Cha.end1 (hab:a ≠ b) (h:Cha R0 R1 t nu a b r1 (pre ++ [e]) pre) (eb:nu e = b) (no:∀ j,j < t → nu j = a → R1 j ≠ R1 e):Cha R0 R1 t nu a b r1 (pre ++ [e]) (pre ++ [e]):=by
 refine ⟨h.nd,fun i z=>z,h.lt,h.ab,fun i z y=>?_,fun i z y=>?_,fun i z y j h1 h2 h3=>?_,fun i z y j h1 h2 h3=>?_,h.F⟩
 ·obtain ⟨e',h1,h2⟩:=h.A i z y
  exact ⟨e',h.sub e' h1,h2⟩
 ·rcases h.B i z y with v | ⟨e',h1,h2⟩
  ·exact .inl v
  ·exact .inr ⟨e',h.sub e' h1,h2⟩
 ·rcases List.mem_append.mp z with w | w
  ·exact h.C i w y j h1 h2 h3
  ·rw [List.mem_singleton.mp w,eb] at y
   exact absurd y.symm hab
 ·rcases List.mem_append.mp z with w | w
  ·exact h.D i w y j h1 h2 h3
  ·rw [List.mem_singleton.mp w] at h3
   exact absurd h3 (no j h1 h2)
theorem Cha.closed (N:Num R0 R1 t nu) (hb:∀ j,j < t → R1 j = r1 → nu j ≠ b) (h:Cha R0 R1 t nu a b r1 cs cs) {i j:Nat} (hi:i ∈ cs) (hj:j < t) (ja:nu j = a ∨ nu j = b) (sh:R0 i = R0 j ∨ R1 i = R1 j):j ∈ cs:=by
 have li:=h.lt i hi
 rcases h.ab i hi with ia | ib
 ·rcases ja with ja | jb
  ·rcases sh with s | s
   ·rw [← N.p0 i j li hj (by rw [ia,ja]) s]; exact hi
   ·rw [← N.p1 i j li hj (by rw [ia,ja]) s]; exact hi
  ·rcases sh with s | s
   ·exact h.C i hi ia j hj jb s.symm
   ·rcases h.B i hi ia with v | ⟨e,h1,h2,h3⟩
    ·exact absurd jb (hb j hj (by rw [← s,v]))
    ·rw [N.p1 j e hj (h.lt e h1) (by rw [jb,h2]) (by rw [← s,h3])]; exact h1
 ·rcases ja with ja | jb
  ·rcases sh with s | s
   ·obtain ⟨e,h1,h2,h3⟩:=h.A i hi ib
    rw [N.p0 j e hj (h.lt e h1) (by rw [ja,h2]) (by rw [← s,h3])]; exact h1
   ·exact h.D i hi ib j hj ja s.symm
  ·rcases sh with s | s
   ·rw [← N.p0 i j li hj (by rw [ib,jb]) s]; exact hi
   ·rw [← N.p1 i j li hj (by rw [ib,jb]) s]; exact hi
def swp (a b x:Int):Int:=if x = a then b else a
theorem cO (x:Int):swp a b x = a ∨ swp a b x = b:=by
 unfold swp
 split
 ·exact .inr rfl
 ·exact .inl rfl
theorem iy {x y:Int} (hx:x = a ∨ x = b) (hy:y = a ∨ y = b) (h:swp a b x = swp a b y):x = y:=by
 unfold swp at h
 split at h <;> split at h
 ·lia
 ·lia
 ·lia
 ·lia
theorem oa (N:Num R0 R1 t nu) (hb:∀ j,j < t → R1 j = r1 → nu j ≠ b) (h:Cha R0 R1 t nu a b r1 cs cs) {nu':Nat → Int} (hn:∀ i,i < t → nu' i = if i ∈ cs then swp a b (nu i) else nu i):Num R0 R1 t nu':=by
 have key:∀ i j,i < t → j < t → nu' i = nu' j → (R0 i = R0 j ∨ R1 i = R1 j) → nu i = nu j:=fun i j hi hj e sh=>by
  rw [hn i hi,hn j hj] at e
  by_cases ci:i ∈ cs
  ·rw [if_pos ci] at e
   by_cases cj:j ∈ cs
   ·rw [if_pos cj] at e
    exact iy (h.ab i ci) (h.ab j cj) e
   ·rw [if_neg cj] at e
    exact absurd (h.closed N hb ci hj (by rw [← e]; exact cO _) sh) cj
  ·rw [if_neg ci] at e
   by_cases cj:j ∈ cs
   ·rw [if_pos cj] at e
    exact absurd (h.closed N hb cj hi (by rw [e]; exact cO _) (sh.imp Eq.symm Eq.symm)) ci
   ·rw [if_neg cj] at e
    exact e
 exact ⟨fun i j hi hj e s=>N.p0 i j hi hj (key i j hi hj e (.inl s)) s,fun i j hi hj e s=>N.p1 i j hi hj (key i j hi hj e (.inr s)) s⟩
theorem lO {r0:Int} (ha:∀ j,j < t → R0 j = r0 → nu j ≠ a) (h:Cha R0 R1 t nu a b r1 cs cs) {nu':Nat → Int} (hn:∀ i,i < t → nu' i = if i ∈ cs then swp a b (nu i) else nu i):∀ j,j < t → R0 j = r0 → nu' j ≠ a:=fun j hj hr e=>by
 rw [hn j hj] at e
 by_cases cj:j ∈ cs
 ·rcases h.ab j cj with w | w
  ·exact ha j hj hr w
  ·obtain ⟨e',h1,h2,h3⟩:=h.A j cj w
   exact ha e' (h.lt e' h1) (by rw [h3,hr]) h2
 ·rw [if_neg cj] at e
  exact ha j hj hr e
theorem lL (hb:∀ j,j < t → R1 j = r1 → nu j ≠ b) (h:Cha R0 R1 t nu a b r1 cs cs) {nu':Nat → Int} (hn:∀ i,i < t → nu' i = if i ∈ cs then swp a b (nu i) else nu i):∀ j,j < t → R1 j = r1 → nu' j ≠ a:=fun j hj hr e=>by
 rw [hn j hj] at e
 by_cases cj:j ∈ cs
 ·rw [if_pos cj] at e
  rcases h.ab j cj with w | w
  ·unfold swp at e
   rw [if_pos w] at e
   exact hb j hj hr (by rw [w,e])
  ·exact hb j hj hr w
 ·rw [if_neg cj] at e
  exact cj (h.F j hj e hr)
theorem Num.snoc {x:Int} (N:Num R0 R1 t nu) (h0:∀ j,j < t → R0 j = R0 t → nu j ≠ x) (h1:∀ j,j < t → R1 j = R1 t → nu j ≠ x) {nu':Nat → Int} (ho:∀ i,i < t → nu' i = nu i) (hx:nu' t = x):Num R0 R1 (t + 1) nu':=by
 refine ⟨fun i j hi hj e s=>?_,fun i j hi hj e s=>?_⟩
 ·by_cases zi:i = t
  ·by_cases zj:j = t
   ·rw [zi,zj]
   ·rw [zi,hx,ho j (by lia)] at e
    rw [zi] at s
    exact absurd e.symm (h0 j (by lia) s.symm)
  ·by_cases zj:j = t
   ·rw [zj,hx,ho i (by lia)] at e
    rw [zj] at s
    exact absurd e (h0 i (by lia) s)
   ·rw [ho i (by lia),ho j (by lia)] at e
    exact N.p0 i j (by lia) (by lia) e s
 ·by_cases zi:i = t
  ·by_cases zj:j = t
   ·rw [zi,zj]
   ·rw [zi,hx,ho j (by lia)] at e
    rw [zi] at s
    exact absurd e.symm (h1 j (by lia) s.symm)
  ·by_cases zj:j = t
   ·rw [zj,hx,ho i (by lia)] at e
    rw [zj] at s
    exact absurd e (h1 i (by lia) s)
   ·rw [ho i (by lia),ho j (by lia)] at e
    exact N.p1 i j (by lia) (by lia) e s
end
theorem gE {α:Type} [BEq α] [LawfulBEq α]:∀ {l l':List α},l.Nodup → (∀ x ∈ l,x ∈ l') → l.length ≤ l'.length
 | [],_,_,_=>Nat.zero_le _
 | x :: t,l',n,h=>by
  obtain ⟨n1,n2⟩:=List.nodup_cons.mp n
  have hx:=h x (List.mem_cons_self ..)
  have ih:=gE (l:=t) (l':=l'.erase x) n2 fun y hy=>(List.mem_erase_of_ne (show y ≠ x from fun z=>n1 (z ▸ hy))).mpr (h y (List.mem_cons_of_mem _ hy))
  rw [List.length_erase_of_mem hx] at ih
  have:=List.length_pos_of_mem hx
  rw [List.length_cons]
  lia
theorem qF {t:Nat} {l:List Nat} (n:l.Nodup) (h:∀ x ∈ l,x < t):l.length ≤ t:=by
 have:=gE (l':=List.range t) n fun x hx=>List.mem_range.mpr (h x hx)
 rwa [List.length_range] at this
theorem lq {R nu:Nat → Int} {t x:Nat} {r:Int} (h:∀ y:Nat,y < x → ∃ i,i < t ∧ R i = r ∧ nu i = (y:Int)):x ≤ ((List.range t).filter fun i=>decide (R i = r)).length:=by
 have:=gE (l:=(List.range x).map fun y:Nat=>(y:Int)) (l':=((List.range t).filter fun i=>decide (R i = r)).map nu) (List.Pairwise.map _ (fun a b c z=>c (by lia)) List.nodup_range) fun y hy=>by
  obtain ⟨k,hk,rfl⟩:=List.mem_map.mp hy
  obtain ⟨i,h1,h2,h3⟩:=h k (List.mem_range.mp hk)
  exact List.mem_map.mpr ⟨i,List.mem_filter.mpr ⟨List.mem_range.mpr h1,decide_eq_true h2⟩,h3⟩
 rwa [List.length_map,List.length_map,List.length_range] at this
theorem lQ {n:Nat} (h:n ≤ 100000):n < sizeLine:=Nat.lt_of_le_of_lt h (by decide)
def kRN (r x:Int):List Key:=[.inl r,.inl x]
theorem dD {r x r' x':Int} (h:kRN r x = kRN r' x'):r = r' ∧ x = x':=by
 unfold kRN at h
 injection h with h1 h2
 injection h2 with h2 _
 exact ⟨Sum.inl.inj h1,Sum.inl.inj h2⟩
theorem T9 {κ:Type} [DecidableEq κ] (k j:κ):∀ kvs:List (κ × V),r9 (K4 kvs k) j = if j = k then none else r9 kvs j
 | []=>by
  show none = _
  split <;> rfl
 | p :: r=>by
  by_cases e:p.1 = k
  ·rw [cA e,T9 k j r]
   by_cases z:j = k
   ·rw [if_pos z,if_pos z]
   ·rw [if_neg z,if_neg z,x8 (fun y=>z (y.symm.trans e))]
  ·rw [cF e]
   by_cases z:p.1 = j
   ·rw [A0 z,if_neg (fun y=>e (z.trans y)),A0 z]
   ·rw [x8 z,T9 k j r,x8 z]
def DT (kvs:List (List Key × V)) (R nu:Nat → Int) (In:Nat → Prop):Prop:=(∀ i,In i → r9 kvs (kRN (R i) (nu i)) = some (.int (i:Nat))) ∧ ∀ (r x:Int) (v:V),r9 kvs (kRN r x) = some v → ∃ i:Nat,In i ∧ R i = r ∧ nu i = x ∧ v = .int (i:Nat)
theorem DT.put {kvs:List (List Key × V)} {R nu nu':Nat → Int} {In In':Nat → Prop} {i:Nat} {x:Int} (h:DT kvs R nu In) (hi:¬ In i) (hno:∀ j,In j → R j = R i → nu j ≠ x) (ho:∀ j,In j → nu' j = nu j) (hx:nu' i = x) (hI:∀ j,In' j ↔ In j ∨ j = i):DT (B7 kvs (kRN (R i) x) (.int (i:Nat))) R nu' In':=by
 refine ⟨fun j hj=>?_,fun r y v hv=>?_⟩
 ·rw [Q3]
  rcases (hI j).mp hj with z | rfl
  ·rw [ho j z,if_neg,h.1 j z]
   intro w
   obtain ⟨w1,w2⟩:=dD w
   exact hno j z w1 w2
  ·rw [hx,if_pos rfl]
 ·rw [Q3] at hv
  by_cases z:kRN r y = kRN (R i) x
  ·rw [if_pos z] at hv
   cases hv
   obtain ⟨w1,w2⟩:=dD z
   exact ⟨i,(hI i).mpr (.inr rfl),w1.symm,by rw [hx,w2],rfl⟩
  ·rw [if_neg z] at hv
   obtain ⟨j,j1,j2,j3,j4⟩:=h.2 r y v hv
   exact ⟨j,(hI j).mpr (.inl j1),j2,by rw [ho j j1]; exact j3,j4⟩
theorem DT.drop {kvs:List (List Key × V)} {R nu:Nat → Int} {In In':Nat → Prop} {i:Nat} (h:DT kvs R nu In) (inj:∀ j,In j → R j = R i → nu j = nu i → j = i) (hI:∀ j,In' j ↔ In j ∧ j ≠ i):DT (K4 kvs (kRN (R i) (nu i))) R nu In':=by
 refine ⟨fun j hj=>?_,fun r y v hv=>?_⟩
 ·obtain ⟨j1,j2⟩:=(hI j).mp hj
  rw [T9,if_neg,h.1 j j1]
  intro w
  obtain ⟨w1,w2⟩:=dD w
  exact j2 (inj j j1 w1 w2)
 ·rw [T9] at hv
  by_cases z:kRN r y = kRN (R i) (nu i)
  ·rw [if_pos z] at hv
   cases hv
  ·rw [if_neg z] at hv
   obtain ⟨j,j1,j2,j3,j4⟩:=h.2 r y v hv
   exact ⟨j,(hI j).mpr ⟨j1,fun w=>z (by rw [← j2,← j3,w])⟩,j2,j3,j4⟩
theorem DT.look {kvs:List (List Key × V)} {R nu:Nat → Int} {In:Nat → Prop} (h:DT kvs R nu In) (r x:Int):(r9 kvs (kRN r x) = none ∧ ∀ i,In i → R i = r → nu i ≠ x) ∨ ∃ i,r9 kvs (kRN r x) = some (.int (i:Nat)) ∧ In i ∧ R i = r ∧ nu i = x:=by
 cases e:r9 kvs (kRN r x) with
 | none =>
  refine .inl ⟨rfl,fun i h1 h2 h3=>?_⟩
  have:=h.1 i h1
  rw [h2,h3,e] at this
  cases this
 | some v =>
  obtain ⟨i,h1,h2,h3,h4⟩:=h.2 r x v e
  exact .inr ⟨i,by rw [h4],h1,h2,h3⟩
def RI (side:Int) (ps:List (Int × Int)) (i:Nat):Int:=sdI side (ps.getD i (0,0))
theorem S7 {side:Int} {ps:List (Int × Int)} {i:Nat} {p:Int × Int} (h:ps[i]? = some p):RI side ps i = sdI side p:=by
 unfold RI
 rw [List.getD,h]
 rfl
def nuL (ns:List Int) (i:Nat):Int:=ns.getD i 0
theorem cL {side r:Int} {ps:List (Int × Int)}:∀ t,t ≤ ps.length → (rks side (ps.take t)).count r = ((List.range t).filter fun i=>decide (RI side ps i = r)).length
 | 0,_=>rfl
 | t + 1,h=>by
  have e:ps[t]? = some (ps[t]'(by lia)):=List.getElem?_eq_getElem _
  rw [O8 e,rks,List.map_append,List.map_singleton,N2,List.range_succ,List.filter_append,List.length_append,← cL t (by lia)]
  congr 1
  rw [← S7 (side:=side) e]
  by_cases z:RI side ps t = r
  ·rw [if_pos z,List.filter_cons_of_pos (by simpa using z)]; rfl
  ·rw [if_neg z,List.filter_cons_of_neg (by simpa using z)]; rfl
theorem eA {side r:Int} {ps:List (Int × Int)} {t:Nat} (ht:t < ps.length) (hr:RI side ps t = r):((List.range t).filter fun i=>decide (RI side ps i = r)).length + 1 ≤ (rks side ps).count r:=by
 have h1:=cL (side:=side) (r:=r) (ps:=ps) (t + 1) ht
 rw [List.range_succ,List.filter_append,List.length_append,List.filter_cons_of_pos (by simpa using hr)] at h1
 have h2:(rks side (ps.take (t + 1))).count r ≤ (rks side ps).count r:=List.Sublist.count_le r (List.Sublist.map _ (List.take_sublist _ _))
 rw [h1] at h2
 exact h2
def V9 (c d:Addr) (H H':Hp):Prop:=∀ b u,b ≠ c → b ≠ d → H b = some u → H' b = some u
def Z9 (c d e:Addr) (H H':Hp):Prop:=∀ b u,b ≠ c → b ≠ d → b ≠ e → H b = some u → H' b = some u
structure Tk (H:Hp) (tk d0 d1:Addr) (kv0 kv1:List (List Key × V)):Prop where
 tk:H tk = some (.tup [.ref d0,.ref d1])
 e0:H d0 = some (.dT kv0)
 e1:H d1 = some (.dT kv1)
 ne:d0 ≠ d1
theorem Tk.same {H H':Hp} {tk d0 d1:Addr} {kv0 kv1:List (List Key × V)} (s:j7 H H') (h:Tk H tk d0 d1 kv0 kv1):Tk H' tk d0 d1 kv0 kv1:=⟨s _ _ h.tk,s _ _ h.e0,s _ _ h.e1,h.ne⟩
theorem L8 {H:Hp} {a b:Addr} {xs:List V} {kv:List (List Key × V)} (h:H a = some (.tup xs)) (h':H b = some (.dT kv)):a ≠ b:=fun z=>by rw [z,h'] at h; cases h
def gY:Sp:=fun vs H Q _=>∃ (tk d0 d1 pa:Addr) (kv0 kv1:List (List Key × V)) (p:Int × Int) (i:Nat) (x:Int),vs = [.ref tk,.int (i:Nat),.ref pa,.int x] ∧ Tk H tk d0 d1 kv0 kv1 ∧ H pa = some (.tup [.int p.1,.int p.2]) ∧ kv0.length ≤ 9000 ∧ kv1.length ≤ 9000 ∧
 ∀ H',V9 d0 d1 H H' → Tk H' tk d0 d1 (B7 kv0 (kRN p.1 x) (.int (i:Nat))) (B7 kv1 (kRN p.2 x) (.int (i:Nat))) → Q .non H'
def iW:Sp:=fun vs H Q _=>∃ (tk d0 d1 pa:Addr) (kv0 kv1:List (List Key × V)) (p:Int × Int) (x:Int) (v0 v1:V),vs = [.ref tk,.ref pa,.int x] ∧ Tk H tk d0 d1 kv0 kv1 ∧ H pa = some (.tup [.int p.1,.int p.2]) ∧ r9 kv0 (kRN p.1 x) = some v0 ∧ r9 kv1 (kRN p.2 x) = some v1 ∧
 ∀ H',V9 d0 d1 H H' → Tk H' tk d0 d1 (K4 kv0 (kRN p.1 x)) (K4 kv1 (kRN p.2 x)) → Q .non H'
def kS:Sp:=fun vs H Q _=>∃ (d:Addr) (kvs:List (List Key × V)) (r:Int),vs = [.ref d,.int r] ∧ H d = some (.dT kvs) ∧ (∀ x:Nat,(∀ y:Nat,y < x → (r9 kvs (kRN r y)).isSome = true) → x ≤ 60) ∧
 ∀ (x:Nat) (H':Hp),j7 H H' → (∀ y:Nat,y < x → (r9 kvs (kRN r y)).isSome = true) → r9 kvs (kRN r x) = none → Q (.int (x:Nat)) H'
def ie (K:PySem.W.Frag):Sp:=fun vs H Q _=>∃ (l tk d0 d1:Addr) (as:List Addr) (ps:List (Int × Int)) (kv0 kv1:List (List Key × V)) (nu:Nat → Int) (t:Nat) (r1 a b:Int),vs = [.ref l,.ref tk,.int r1,.int a,.int b] ∧ SqL K H l (as.map V.ref) ∧ F1 H as ps ∧ t ≤ ps.length ∧ ps.length ≤ 60 ∧ Tk H tk d0 d1 kv0 kv1 ∧
 DT kv0 (RI 0 ps) nu (· < t) ∧ DT kv1 (RI 1 ps) nu (· < t) ∧ Num (RI 0 ps) (RI 1 ps) t nu ∧ (∀ j,j < t → RI 1 ps j = r1 → nu j ≠ b) ∧
 ∀ (cl:Addr) (cs:List Nat) (H':Hp),j7 H H' → H cl = none → H' cl = some (.lst (cs.map fun c=>V.int (c:Nat))) → Cha (RI 0 ps) (RI 1 ps) t nu a b r1 cs cs → Q (.ref cl) H'
def kC (K:PySem.W.Frag):Sp:=fun vs H Q _=>∃ (l tk nl cl d0 d1:Addr) (as:List Addr) (ps:List (Int × Int)) (kv0 kv1:List (List Key × V)) (ns:List Int) (cs:List Nat) (r1 a b:Int),vs = [.ref l,.ref tk,.ref nl,.ref cl,.int a,.int b] ∧ SqL K H l (as.map V.ref) ∧ F1 H as ps ∧ ns.length ≤ ps.length ∧ ps.length ≤ 60 ∧ Tk H tk d0 d1 kv0 kv1 ∧ l ≠ nl ∧ cl ≠ nl ∧
 H nl = some (.lst (ns.map V.int)) ∧ H cl = some (.lst (cs.map fun c=>V.int (c:Nat))) ∧ H l = some (.lst (as.map V.ref)) ∧ kv0.length ≤ 5000 ∧ kv1.length ≤ 5000 ∧
 DT kv0 (RI 0 ps) (nuL ns) (· < ns.length) ∧ DT kv1 (RI 1 ps) (nuL ns) (· < ns.length) ∧ Num (RI 0 ps) (RI 1 ps) ns.length (nuL ns) ∧ (∀ j,j < ns.length → RI 1 ps j = r1 → nuL ns j ≠ b) ∧ Cha (RI 0 ps) (RI 1 ps) ns.length (nuL ns) a b r1 cs cs ∧
 ∀ (ns':List Int) (kv0' kv1':List (List Key × V)) (H':Hp),Z9 d0 d1 nl H H' → Tk H' tk d0 d1 kv0' kv1' → H' nl = some (.lst (ns'.map V.int)) → ns'.length = ns.length → kv0'.length ≤ kv0.length + 60 → kv1'.length ≤ kv1.length + 60 → (∀ i,i < ns.length → nuL ns' i = if i ∈ cs then swp a b (nuL ns i) else nuL ns i) → DT kv0' (RI 0 ps) (nuL ns') (· < ns.length) → DT kv1' (RI 1 ps) (nuL ns') (· < ns.length) → Q .non H'
section
variable {P:Program} {w:World} {K:PySem.W.Frag} {mg:Str → Option Value} {base:Heap}
theorem iI:FnScope ["taken","place","pair","number","side"] ["taken","place","pair","number"] (d7 (top 20)):=⟨rfl,rfl,rfl,by decide +kernel,rfl,by decide +kernel,by decide +kernel⟩
theorem mZ (T:Txt K mg) (D:Def K mg "take" (top 20) ["taken","place","pair","number"]):h9 P w K mg base 1 "take" ["taken","place","pair","number"] gY:=by
 refine D.ok iI (fun vs H Q E h=>?_) (fun f cdv A outer s H vs Q E hr h=>?_)
 ·obtain ⟨tk,d0,d1,pa,kv0,kv1,p,i,x,rfl,_⟩:=h
  rfl
 obtain ⟨tk,d0,d1,pa,kv0,kv1,p,i,x,rfl,tt,ep,l0,l1,q⟩:=h
 refine ⟨_,(d9 (w5 PassesOwn.never rfl (B4 rfl T.m_range (b7 b9 d6 m7)) (m6 (i:=4) iI.nd rfl (Or.inl rfl))
  (d9 (U1 (L9 hr) (g9 (d8 K) (pv 0) (pv 4) (fun _ _=>rfl)) (w4 (b7 (g9 (d8 K) (pv 2) (pv 4) (fun _ _=>rfl)) (b7 (pv 3) d6 b8) m5)) (pv 1) rfl)))),?_⟩
 refine ⟨_,rfl,by decide,by decide,?_⟩
 have nt0:=L8 tt.tk tt.e0
 have nt1:=L8 tt.tk tt.e1
 have np0:=L8 ep tt.e0
 have np1:=L8 ep tt.e1
 refine K1 (lo:=0) (n:=2) (fun j σ H'=>V9 d0 d1 H H' ∧ Tk H' tk d0 d1 (if 0 < j then B7 kv0 (kRN p.1 x) (.int (i:Nat)) else kv0) (if 1 < j then B7 kv1 (kRN p.2 x) (.int (i:Nat)) else kv1) ∧ ∃ v4,σ = [some (.ref tk),some (.int (i:Nat)),some (.ref pa),some (.int x),v4])
  ⟨fun b u _ _ z=>z,tt,none,rfl⟩ ?_ ?_
 ·rintro j σ H' hj ⟨sx,tj,v4,rfl⟩
  have ep':=sx _ _ np0 np1 ep
  match j,hj with
  | 0,_ =>
   refine ⟨_,rfl,_,rfl,_,rfl,tk,_,_,_,rfl,rfl,SqT.of tj.tk,rfl,_,rfl,_,rfl,pa,_,_,_,rfl,rfl,SqT.of ep',rfl,_,rfl,(by show 2 ≤ sizeLine; decide),fun k hk=>?_⟩
   have s2:=g6 hk (.tup [.int p.1,.int x])
   have ek:=d4 (H:=H') (a:=k) (o:=.tup [.int p.1,.int x])
   have t2:=tj.same s2
   generalize upd H' k (.tup [.int p.1,.int x]) = H2 at s2 ek t2 ⊢
   refine ⟨d0,_,rfl,aB.t (k:=kRN p.1 x) t2.e0 ek (lQ (show kv0.length ≤ 100000 by lia)),?_⟩
   refine ⟨fun b u b0 b1 z=>by rw [g7 b0]; exact s2 _ _ (sx b u b0 b1 z),⟨by rw [g7 nt0]; exact t2.tk,d4,by rw [g7 (Ne.symm tt.ne)]; exact t2.e1,tt.ne⟩,_,rfl⟩
  | 1,_ =>
   refine ⟨_,rfl,_,rfl,_,rfl,tk,_,_,_,rfl,rfl,SqT.of tj.tk,rfl,_,rfl,_,rfl,pa,_,_,_,rfl,rfl,SqT.of ep',rfl,_,rfl,(by show 2 ≤ sizeLine; decide),fun k hk=>?_⟩
   have s2:=g6 hk (.tup [.int p.2,.int x])
   have ek:=d4 (H:=H') (a:=k) (o:=.tup [.int p.2,.int x])
   have t2:=tj.same s2
   generalize upd H' k (.tup [.int p.2,.int x]) = H2 at s2 ek t2 ⊢
   refine ⟨d1,_,rfl,aB.t (k:=kRN p.2 x) t2.e1 ek (lQ (show kv1.length ≤ 100000 by lia)),?_⟩
   refine ⟨fun b u b0 b1 z=>by rw [g7 b1]; exact s2 _ _ (sx b u b0 b1 z),⟨by rw [g7 nt1]; exact t2.tk,by rw [g7 tt.ne]; exact t2.e0,d4,tt.ne⟩,_,rfl⟩
 ·rintro σ H' ⟨sx,tj,v4,rfl⟩
  exact q H' sx tj
theorem eZ:FnScope ["taken","pair","number","side"] ["taken","pair","number"] (d7 (top 21)):=⟨rfl,rfl,rfl,by decide +kernel,rfl,by decide +kernel,by decide +kernel⟩
theorem kD (T:Txt K mg) (D:Def K mg "leave" (top 21) ["taken","pair","number"]):h9 P w K mg base 1 "leave" ["taken","pair","number"] iW:=by
 refine D.ok eZ (fun vs H Q E h=>?_) (fun f cdv A outer s H vs Q E hr h=>?_)
 ·obtain ⟨tk,d0,d1,pa,kv0,kv1,p,x,v0,v1,rfl,_⟩:=h
  rfl
 obtain ⟨tk,d0,d1,pa,kv0,kv1,p,x,v0,v1,rfl,tt,ep,l0,l1,q⟩:=h
 refine ⟨_,(d9 (w5 PassesOwn.never rfl (B4 rfl T.m_range (b7 b9 d6 m7)) (m6 (i:=3) eZ.nd rfl (Or.inl rfl))
  (d9 (y6 (lK (L9 hr) (g9 (d8 K) (pv 0) (pv 3) (fun _ _=>rfl)) (w4 (b7 (g9 (d8 K) (pv 1) (pv 3) (fun _ _=>rfl)) (b7 (pv 2) d6 b8) m5)) ⟨rfl,rfl,rfl,rfl⟩))))),?_⟩
 refine ⟨_,rfl,by decide,by decide,?_⟩
 have nt0:=L8 tt.tk tt.e0
 have nt1:=L8 tt.tk tt.e1
 have np0:=L8 ep tt.e0
 have np1:=L8 ep tt.e1
 refine K1 (lo:=0) (n:=2) (fun j σ H'=>V9 d0 d1 H H' ∧ Tk H' tk d0 d1 (if 0 < j then K4 kv0 (kRN p.1 x) else kv0) (if 1 < j then K4 kv1 (kRN p.2 x) else kv1) ∧ ∃ v3,σ = [some (.ref tk),some (.ref pa),some (.int x),v3])
  ⟨fun b u _ _ z=>z,tt,none,rfl⟩ ?_ ?_
 ·rintro j σ H' hj ⟨sx,tj,v3,rfl⟩
  have ep':=sx _ _ np0 np1 ep
  match j,hj with
  | 0,_ =>
   refine ⟨_,rfl,_,rfl,tk,_,_,_,rfl,rfl,SqT.of tj.tk,rfl,d0,rfl,.inr ⟨_,.inl tj.e0⟩,_,rfl,_,rfl,pa,_,_,_,rfl,rfl,SqT.of ep',rfl,_,rfl,(by show 2 ≤ sizeLine; decide),fun k hk=>?_⟩
   have s2:=g6 hk (.tup [.int p.1,.int x])
   have ek:=d4 (H:=H') (a:=k) (o:=.tup [.int p.1,.int x])
   have t2:=tj.same s2
   generalize upd H' k (.tup [.int p.1,.int x]) = H2 at s2 ek t2 ⊢
   refine ⟨_,kRN p.1 x,k,v0,t2.e0,rfl,ek,l0,?_⟩
   refine ⟨fun b u b0 b1 z=>by rw [g7 b0]; exact s2 _ _ (sx b u b0 b1 z),⟨by rw [g7 nt0]; exact t2.tk,d4,by rw [g7 (Ne.symm tt.ne)]; exact t2.e1,tt.ne⟩,_,rfl⟩
  | 1,_ =>
   refine ⟨_,rfl,_,rfl,tk,_,_,_,rfl,rfl,SqT.of tj.tk,rfl,d1,rfl,.inr ⟨_,.inl tj.e1⟩,_,rfl,_,rfl,pa,_,_,_,rfl,rfl,SqT.of ep',rfl,_,rfl,(by show 2 ≤ sizeLine; decide),fun k hk=>?_⟩
   have s2:=g6 hk (.tup [.int p.2,.int x])
   have ek:=d4 (H:=H') (a:=k) (o:=.tup [.int p.2,.int x])
   have t2:=tj.same s2
   generalize upd H' k (.tup [.int p.2,.int x]) = H2 at s2 ek t2 ⊢
   refine ⟨_,kRN p.2 x,k,v1,t2.e1,rfl,ek,l1,?_⟩
   refine ⟨fun b u b0 b1 z=>by rw [g7 b1]; exact s2 _ _ (sx b u b0 b1 z),⟨by rw [g7 nt1]; exact t2.tk,by rw [g7 tt.ne]; exact t2.e0,d4,tt.ne⟩,_,rfl⟩
 ·rintro σ H' ⟨sx,tj,v3,rfl⟩
  exact q H' sx tj
theorem O0:FnScope ["places","rack","number"] ["places","rack"] (d7 (top 22)):=⟨rfl,rfl,rfl,by decide +kernel,rfl,by decide +kernel,by decide +kernel⟩
theorem nr (T:Txt K mg) (D:Def K mg "first_left" (top 22) ["places","rack"]):h9 P w K mg base 1 "first_left" ["places","rack"] kS:=by
 refine D.ok O0 (fun vs H Q E h=>?_) (fun f cdv A outer s H vs Q E hr h=>?_)
 ·obtain ⟨d,kvs,r,rfl,_⟩:=h
  rfl
 obtain ⟨d,kvs,r,rfl,ed,hb,q⟩:=h
 refine ⟨_,(d5 (i6 (i:=2) O0.nd rfl (Or.inl rfl) b9)
  (d5 (bg PassesOwn.never (ba (aN (L9 hr) (w4 (b7 (pv 1) (b7 (pv 2) d6 b8) b8)) (pv 0))) (d9 (qy (i:=2) O0.nd rfl (Or.inl rfl) b9 nM)))
  (d9 (i9 (pv 2))))),?_⟩
 refine ⟨fun m σ H'=>j7 H H' ∧ ∃ x:Nat,m = 61 - x ∧ (∀ y:Nat,y < x → (r9 kvs (kRN r y)).isSome = true) ∧ σ = [some (.ref d),some (.int r),some (.int (x:Nat))],
  ⟨_,fun b u z=>z,0,rfl,fun y hy=>absurd hy (Nat.not_lt_zero _),rfl⟩,?_⟩
 rintro m σ H' ⟨s1,x,rfl,hx,rfl⟩
 refine ⟨_,rfl,_,rfl,(by show 2 ≤ sizeLine; decide),fun k hk=>?_⟩
 have s2:=g6 hk (.tup [.int r,.int (x:Nat)])
 have ek:=d4 (H:=H') (a:=k) (o:=.tup [.int r,.int (x:Nat)])
 generalize upd H' k (.tup [.int r,.int (x:Nat)]) = H2 at s2 ek ⊢
 refine ⟨_,rfl,d,_,rfl,N4.t (k:=kRN r x) (s2 _ _ (s1 _ _ ed)) ek,?_⟩
 have h60:=hb x hx
 cases e:r9 kvs (kRN r x) with
 | some v =>
  refine ⟨true,rfl,V8 ?_⟩
  have hx':∀ y:Nat,y < x + 1 → (r9 kvs (kRN r y)).isSome = true:=fun y hy=>by
   rcases Nat.lt_succ_iff_lt_or_eq.mp hy with z | rfl
   ·exact hx y z
   ·rw [e]; rfl
  have h61:=hb (x + 1) hx'
  refine ⟨fun σ' G=>∃ m',m' < 61 - x ∧ (j7 H G ∧ ∃ x:Nat,m' = 61 - x ∧ (∀ y:Nat,y < x → (r9 kvs (kRN r y)).isSome = true) ∧ σ' = [some (.ref d),some (.int r),some (.int (x:Nat))]),fun σ' G z=>z,?_⟩
  exact ⟨_,rfl,_,_,rfl,rfl,61 - (x + 1),by lia,s1.trans s2,x + 1,rfl,hx',rfl⟩
 | none =>
  refine ⟨false,rfl,C2 ?_⟩
  exact ⟨_,rfl,q x H2 (s1.trans s2) hx e⟩
end
def lU (R0 R1:Nat → Int) (t:Nat) (nu:Nat → Int) (a b r1:Int) (cs:List Nat) (side:Int) (nx:Option Nat):Prop :=
 (side = 0 ∨ side = 1) ∧ (nx = none → Cha R0 R1 t nu a b r1 cs cs) ∧ ∀ p,nx = some p → p < t ∧ a ≠ b ∧ nu p = (if side = 1 then a else b) ∧ Cha R0 R1 t nu a b r1 (cs ++ [p]) cs
theorem je {R0 R1:Nat → Int} {t:Nat} {nu:Nat → Int} {a b r1:Int} {cs pre:List Nat} (h:Cha R0 R1 t nu a b r1 cs pre):cs.length ≤ t:=qF h.nd h.lt
theorem cW {H:Hp} {as:List Addr} {ps:List (Int × Int)} (h:F1 H as ps) {i:Nat} (hi:i < ps.length):∃ a p,as[i]? = some a ∧ ps[i]? = some p ∧ H a = some (.tup [.int p.1,.int p.2]):=by
 have ln:as.length = ps.length:=Paired.length h
 have ea:as[i]? = some (as[i]'(by lia)):=List.getElem?_eq_getElem _
 obtain ⟨p,hp,e⟩:=m9 h i _ ea
 exact ⟨_,p,ea,hp,e⟩
section
variable {P:Program} {w:World} {K:PySem.W.Frag} {mg:Str → Option Value} {base:Heap}
theorem A6:FnScope ["pairs","taken","rack","a","b","chain","side","place"] ["pairs","taken","rack","a","b"] (d7 (top 23)):=⟨rfl,rfl,rfl,by decide +kernel,rfl,by decide +kernel,by decide +kernel⟩
set_option maxHeartbeats 4000000 in
theorem kM (T:Txt K mg) (D:Def K mg "chain_along" (top 23) ["pairs","taken","rack","a","b"]):h9 P w K mg base 1 "chain_along" ["pairs","taken","rack","a","b"] (ie K):=by
 refine D.ok A6 (fun vs H Q E h=>?_) (fun f cdv A outer s H vs Q E hr h=>?_)
 ·obtain ⟨l,tk,d0,d1,as,ps,kv0,kv1,nu,t,r1,a,b,rfl,_⟩:=h
  rfl
 obtain ⟨l,tk,d0,d1,as,ps,kv0,kv1,nu,t,r1,a,b,rfl,hl,pr,ht,few,tt,D0,D1,N,hb,q⟩:=h
 have ln:as.length = ps.length:=Paired.length pr
 refine ⟨_,(d5 (i6 (i:=5) A6.nd rfl (Or.inl rfl) (F8 d6))
  (d5 (i6 (i:=6) A6.nd rfl (Or.inl rfl) b9)
  (d5 (i6 (i:=7) A6.nd rfl (Or.inl rfl) (fq (L9 hr) (g9 (d8 K) (pv 1) (pv 6) (fun _ _=>rfl)) (w4 (b7 (pv 2) (b7 (pv 3) d6 b8) b8)) ⟨rfl,rfl,rfl,rfl⟩))
  (d5 (bg PassesOwn.never (j0 dm (pv 7) F9 (j8 _)) (d5 (y6 (N3 K PySem.F.plainAttrs_list PySem.F.slot_list_append PySem.F.type_list_append x9 (pv 5) (b7 (pv 7) d6 b8)))
  (d5 (i6 (i:=6) A6.nd rfl (Or.inl rfl) (i0 S6 b9 (pv 6)))
  (d9 (i6 (i:=7) A6.nd rfl (Or.inl rfl) (fq (L9 hr) (g9 (d8 K) (pv 1) (pv 6) (fun _ _=>rfl)) (w4 (b7 (g9 (d8 K) (g9 (p9 K) (pv 0) (pv 7) (fun _ _=>rfl)) (pv 6) (fun _ _=>rfl)) (b7 (g9 (d8 K) (w4 (b7 (pv 4) (b7 (pv 3) d6 b8) b8)) (pv 6) (fun _ _=>rfl)) d6 m5) m5)) ⟨rfl,rfl,rfl,rfl⟩))))))
  (d9 (i9 (pv 5))))))),?_⟩
 refine ⟨(by show 0 ≤ sizeLine; decide),fun cl hcl=>?_⟩
 have s1:=g6 hcl (.lst [])
 have ec:=d4 (H:=H) (a:=cl) (o:=.lst [])
 have t1:=tt.same s1
 generalize upd H cl (.lst []) = H1 at s1 ec t1 ⊢
 refine ⟨_,rfl,_,rfl,tk,_,_,_,rfl,rfl,SqT.of t1.tk,rfl,d1,rfl,.inr ⟨_,.inl t1.e1⟩,_,rfl,_,rfl,(by show 2 ≤ sizeLine; decide),fun k hk=>?_⟩
 have s2:=g6 hk (.tup [.int r1,.int a])
 have ek:=d4 (H:=H1) (a:=k) (o:=.tup [.int r1,.int a])
 have t2:=t1.same s2
 have ec2:=s2 _ _ ec
 generalize upd H1 k (.tup [.int r1,.int a]) = H2 at s2 ek t2 ec2 ⊢
 refine ⟨_,N4.t (k:=kRN r1 a) t2.e1 ek,?_⟩
 obtain ⟨nx,vx,pd⟩:∃ nx:Option Nat,(r9 kv1 (kRN r1 a)).getD .non = oN nx ∧ lU (RI 0 ps) (RI 1 ps) t nu a b r1 [] 1 nx:=by
  rcases D1.look r1 a with ⟨e1,e2⟩ | ⟨i,e1,e2,e3,e4⟩
  ·exact ⟨none,by rw [e1]; rfl,.inr rfl,fun _=>Cha.none fun j h1 h2 h3=>e2 j h1 h3 h2,fun p z=>nomatch z⟩
  ·refine ⟨some i,by rw [e1]; rfl,.inr rfl,fun z=>(nomatch z),fun p z=>?_⟩
   cases z
   exact ⟨e2,fun z=>hb i e2 e3 (by rw [e4,z]),by rw [if_pos rfl]; exact e4,Cha.one N hb e2 e4 e3⟩
 rw [vx]
 have s12:=s1.trans s2
 refine ⟨fun m σ H'=>j7 H H' ∧ ∃ (cs:List Nat) (side:Int) (nx:Option Nat),m = 61 - cs.length ∧ H' cl = some (.lst (cs.map fun c=>V.int (c:Nat))) ∧ lU (RI 0 ps) (RI 1 ps) t nu a b r1 cs side nx ∧ σ = [some (.ref l),some (.ref tk),some (.int r1),some (.int a),some (.int b),some (.ref cl),some (.int side),some (oN nx)],
  ⟨_,s12,[],1,nx,rfl,ec2,pd,rfl⟩,?_⟩
 rintro m σ H' ⟨s3,cs,side,nx,rfl,e3,pd,rfl⟩
 obtain ⟨hside,pd0,pd1⟩:=pd
 cases nx with
 | none =>
  refine ⟨_,rfl,rfl,_,rfl,C2 ?_⟩
  exact ⟨_,rfl,q cl cs H' s3 hcl e3 (pd0 rfl)⟩
 | some p =>
  obtain ⟨pt,hab,pn,cha⟩:=pd1 p rfl
  refine ⟨_,rfl,rfl,_,rfl,V8 ?_⟩
  have cl60:(cs ++ [p]).length ≤ t:=je cha
  rw [List.length_append,List.length_singleton] at cl60
  refine ⟨fun σ' G=>∃ m',m' < 61 - cs.length ∧ (j7 H G ∧ ∃ (cs:List Nat) (side:Int) (nx:Option Nat),m' = 61 - cs.length ∧ G cl = some (.lst (cs.map fun c=>V.int (c:Nat))) ∧ lU (RI 0 ps) (RI 1 ps) t nu a b r1 cs side nx ∧ σ' = [some (.ref l),some (.ref tk),some (.int r1),some (.int a),some (.int b),some (.ref cl),some (.int side),some (oN nx)]),fun σ' G z=>z,?_⟩
  refine ⟨_,rfl,.inl ⟨rfl,_,SqL.of e3⟩,_,rfl,cl,_,_,rfl,rfl,e3,B5 (by rw [List.length_map]; lia),?_⟩
  have s4:j7 H (upd H' cl (.lst ((cs.map fun c=>V.int (c:Nat)) ++ [oN (some p)]))):=j7.put s3 hcl
  have e4:upd H' cl (.lst ((cs.map fun c=>V.int (c:Nat)) ++ [oN (some p)])) cl = some (.lst ((cs ++ [p]).map fun c=>V.int (c:Nat))):=by rw [d4,List.map_append]; rfl
  generalize upd H' cl (.lst ((cs.map fun c=>V.int (c:Nat)) ++ [oN (some p)])) = H4 at s4 e4 ⊢
  have t4:=tt.same s4
  refine ⟨_,rfl,_,_,rfl,rfl,?_⟩
  obtain ⟨ap,pp,ha,hp,ep⟩:=cW pr (show p < ps.length by lia)
  have ep4:=s4 _ _ ep
  have hat:atI (as.map V.ref) ((p:Nat):Int) = some (.ref ap):=C0 (by rw [List.getElem?_map,ha]; rfl)
  rcases hside with rfl | rfl
  ·-- behind a pair with b: its out rack
   rw [if_neg (by decide)] at pn
   refine ⟨_,rfl,_,rfl,tk,_,_,_,rfl,rfl,SqT.of t4.tk,rfl,d1,rfl,.inr ⟨_,.inl t4.e1⟩,_,rfl,_,rfl,l,_,_,_,rfl,rfl,s4.seq hl,hat,_,rfl,ap,_,_,_,rfl,rfl,SqT.of ep4,rfl,_,rfl,_,rfl,(by show 2 ≤ sizeLine; decide),fun k2 hk2=>?_⟩
   have s5:=g6 hk2 (.tup [.int b,.int a])
   have ek2:=d4 (H:=H4) (a:=k2) (o:=.tup [.int b,.int a])
   have t5:=t4.same s5
   have e5:=s5 _ _ e4
   generalize upd H4 k2 (.tup [.int b,.int a]) = H5 at s5 ek2 t5 e5 ⊢
   refine ⟨_,rfl,k2,_,_,_,rfl,rfl,SqT.of ek2,rfl,(by show 2 ≤ sizeLine; decide),fun k3 hk3=>?_⟩
   have s6:=g6 hk3 (.tup [.int pp.2,.int a])
   have ek3:=d4 (H:=H5) (a:=k3) (o:=.tup [.int pp.2,.int a])
   have t6:=t5.same s6
   have e6:=s6 _ _ e5
   generalize upd H5 k3 (.tup [.int pp.2,.int a]) = H6 at s6 ek3 t6 e6 ⊢
   refine ⟨_,N4.t (k:=kRN pp.2 a) t6.e1 ek3,?_⟩
   have rp:RI 1 ps p = pp.2:=S7 hp
   obtain ⟨nx,vx,pd⟩:∃ nx:Option Nat,(r9 kv1 (kRN pp.2 a)).getD .non = oN nx ∧ lU (RI 0 ps) (RI 1 ps) t nu a b r1 (cs ++ [p]) 1 nx:=by
    rcases D1.look pp.2 a with ⟨e1,e2⟩ | ⟨i,e1,e2,e3,e4⟩
    ·exact ⟨none,by rw [e1]; rfl,.inr rfl,fun _=>cha.end1 hab pn fun j h1 h2 h3=>e2 j h1 (by rw [h3,rp]) h2,fun p z=>nomatch z⟩
    ·refine ⟨some i,by rw [e1]; rfl,.inr rfl,fun z=>(nomatch z),fun p' z=>?_⟩
     cases z
     exact ⟨e2,hab,by rw [if_pos rfl]; exact e4,cha.to1 N hab hb pn e2 e4 (by rw [e3,rp])⟩
   rw [vx]
   exact ⟨61 - (cs ++ [p]).length,by rw [List.length_append,List.length_singleton]; lia,s4.trans (s5.trans s6),cs ++ [p],1,nx,rfl,e6,pd,rfl⟩
  ·rw [if_pos rfl] at pn
   refine ⟨_,rfl,_,rfl,tk,_,_,_,rfl,rfl,SqT.of t4.tk,rfl,d0,rfl,.inr ⟨_,.inl t4.e0⟩,_,rfl,_,rfl,l,_,_,_,rfl,rfl,s4.seq hl,hat,_,rfl,ap,_,_,_,rfl,rfl,SqT.of ep4,rfl,_,rfl,_,rfl,(by show 2 ≤ sizeLine; decide),fun k2 hk2=>?_⟩
   have s5:=g6 hk2 (.tup [.int b,.int a])
   have ek2:=d4 (H:=H4) (a:=k2) (o:=.tup [.int b,.int a])
   have t5:=t4.same s5
   have e5:=s5 _ _ e4
   generalize upd H4 k2 (.tup [.int b,.int a]) = H5 at s5 ek2 t5 e5 ⊢
   refine ⟨_,rfl,k2,_,_,_,rfl,rfl,SqT.of ek2,rfl,(by show 2 ≤ sizeLine; decide),fun k3 hk3=>?_⟩
   have s6:=g6 hk3 (.tup [.int pp.1,.int b])
   have ek3:=d4 (H:=H5) (a:=k3) (o:=.tup [.int pp.1,.int b])
   have t6:=t5.same s6
   have e6:=s6 _ _ e5
   generalize upd H5 k3 (.tup [.int pp.1,.int b]) = H6 at s6 ek3 t6 e6 ⊢
   refine ⟨_,N4.t (k:=kRN pp.1 b) t6.e0 ek3,?_⟩
   have rp:RI 0 ps p = pp.1:=S7 hp
   obtain ⟨nx,vx,pd⟩:∃ nx:Option Nat,(r9 kv0 (kRN pp.1 b)).getD .non = oN nx ∧ lU (RI 0 ps) (RI 1 ps) t nu a b r1 (cs ++ [p]) 0 nx:=by
    rcases D0.look pp.1 b with ⟨e1,e2⟩ | ⟨i,e1,e2,e3,e4⟩
    ·exact ⟨none,by rw [e1]; rfl,.inl rfl,fun _=>cha.end0 hab pn fun j h1 h2 h3=>e2 j h1 (by rw [h3,rp]) h2,fun p z=>nomatch z⟩
    ·refine ⟨some i,by rw [e1]; rfl,.inl rfl,fun z=>(nomatch z),fun p' z=>?_⟩
     cases z
     exact ⟨e2,hab,by rw [if_neg (by decide)]; exact e4,cha.to0 N hab pn e2 e4 (by rw [e3,rp])⟩
   rw [vx]
   exact ⟨61 - (cs ++ [p]).length,by rw [List.length_append,List.length_singleton]; lia,s4.trans (s5.trans s6),cs ++ [p],0,nx,rfl,e6,pd,rfl⟩
end
theorem qe {ns:List Int} {i:Nat} {x:Int} (h:i < ns.length) (j:Nat):nuL (ns.set i x) j = if j = i then x else nuL ns j:=by
 unfold nuL
 by_cases e:j = i
 ·rw [if_pos e,e,List.getD,List.getElem?_set_self h]
  rfl
 ·rw [if_neg e,List.getD,List.getElem?_set_ne (Ne.symm e),List.getD]
theorem mI {ns:List Int} {x:Int}:(∀ i,i < ns.length → nuL (ns ++ [x]) i = nuL ns i) ∧ nuL (ns ++ [x]) ns.length = x:=by
 refine ⟨fun i hi=>?_,?_⟩
 ·unfold nuL
  rw [List.getD,List.getElem?_append_left hi,List.getD]
 ·unfold nuL
  rw [List.getD,List.getElem?_concat_length]
  rfl
theorem aj {cs:List Nat} {k j:Nat} {c:Nat} (nd:cs.Nodup) (hc:cs[k]? = some c):¬ c ∈ cs.take k:=fun z=>by
 obtain ⟨i,hi,e⟩:=List.getElem_of_mem z
 rw [List.length_take] at hi
 have hk:=(List.getElem?_eq_some_iff.mp hc).1
 have e1:cs[i]? = some c:=by
  rw [List.getElem_take] at e
  rw [List.getElem?_eq_getElem (by lia),e]
 have:=(List.getElem?_inj (by lia) nd).mp (e1.trans hc.symm)
 lia
section
variable {P:Program} {w:World} {K:PySem.W.Frag} {mg:Str → Option Value} {base:Heap}
theorem S3:FnScope ["pairs","taken","numbers","chain","a","b","place"] ["pairs","taken","numbers","chain","a","b"] (d7 (top 24)):=⟨rfl,rfl,rfl,by decide +kernel,rfl,by decide +kernel,by decide +kernel⟩
set_option maxHeartbeats 4000000 in
theorem mB (T:Txt K mg) (C_take:h9 P w K mg base 1 "take" ["taken","place","pair","number"] gY) (C_leave:h9 P w K mg base 1 "leave" ["taken","pair","number"] iW) (D:Def K mg "exchange" (top 24) ["pairs","taken","numbers","chain","a","b"]):h9 P w K mg base 2 "exchange" ["pairs","taken","numbers","chain","a","b"] (kC K):=by
 refine D.ok S3 (fun vs H Q E h=>?_) (fun f cdv A outer s H vs Q E hr h=>?_)
 ·obtain ⟨l,tk,nl,cl,d0,d1,as,ps,kv0,kv1,ns,cs,r1,a,b,rfl,_⟩:=h
  rfl
 obtain ⟨l,tk,nl,cl,d0,d1,as,ps,kv0,kv1,ns,cs,r1,a,b,rfl,hl,pr,ht,few,tt,hln,hcn,en,ec,el,k0,k1,D0,D1,N,hb,ch,q⟩:=h
 have ln:as.length = ps.length:=Paired.length pr
 have cl60:=je ch
 refine ⟨_,(d5 (w5 PassesOwn.never rfl (o6 K (pv 3)) (m6 (i:=6) S3.nd rfl (Or.inl rfl))
  (d9 (y6 (m4 C_leave hr rfl (b7 (pv 1) (b7 (g9 (p9 K) (pv 0) (pv 6) (fun _ _=>rfl)) (b7 (g9 (p9 K) (pv 2) (pv 6) (fun _ _=>rfl)) d6 m5) m5) b8)))))
  (d9 (w5 PassesOwn.never rfl (o6 K (pv 3)) (m6 (i:=6) S3.nd rfl (Or.inl rfl))
  (d5 (gU (lS (j0 E3 (g9 (p9 K) (pv 2) (pv 6) (fun _ _=>rfl)) (pv 4) (j8 _)) (pv 5) (pv 4)) (fZ (pv 2) (pv 6) bv))
  (d9 (y6 (m4 C_take hr rfl (b7 (pv 1) (b7 (pv 6) (b7 (g9 (p9 K) (pv 0) (pv 6) (fun _ _=>rfl)) (b7 (g9 (p9 K) (pv 2) (pv 6) (fun _ _=>rfl)) d6 m5) m5) b8) b8)))))))),?_⟩
 have ln0:l ≠ d0:=fun z=>by rw [z,tt.e0] at el; cases el
 have ln1:l ≠ d1:=fun z=>by rw [z,tt.e1] at el; cases el
 have cn0:cl ≠ d0:=fun z=>by rw [z,tt.e0] at ec; cases ec
 have cn1:cl ≠ d1:=fun z=>by rw [z,tt.e1] at ec; cases ec
 have nn0:nl ≠ d0:=fun z=>by rw [z,tt.e0] at en; cases en
 have nn1:nl ≠ d1:=fun z=>by rw [z,tt.e1] at en; cases en
 have ntn:tk ≠ nl:=fun z=>by
  have:=tt.tk
  rw [z,en] at this
  cases this
 have tupX:∀ {H':Hp},V9 d0 d1 H H' → ∀ x xs,H x = some (.tup xs) → H' x = some (.tup xs):=fun sx x xs z=>sx _ _ (L8 z tt.e0) (L8 z tt.e1) z
 refine ⟨_,rfl,cl,rfl,⟨_,SqL.of ec⟩,?_⟩
 refine y9 (xs:=cs.map fun c=>V.int (c:Nat)) (fun i σ H'=>V9 d0 d1 H H' ∧ (∃ kv0' kv1',Tk H' tk d0 d1 kv0' kv1' ∧ kv0'.length ≤ kv0.length ∧ kv1'.length ≤ kv1.length ∧ DT kv0' (RI 0 ps) (nuL ns) (fun j=>j < ns.length ∧ ¬ j ∈ cs.take i) ∧ DT kv1' (RI 1 ps) (nuL ns) (fun j=>j < ns.length ∧ ¬ j ∈ cs.take i)) ∧ ∃ v6,σ = [some (.ref l),some (.ref tk),some (.ref nl),some (.ref cl),some (.int a),some (.int b),v6])
  ⟨fun b u _ _ z=>z,⟨kv0,kv1,tt,Nat.le_refl _,Nat.le_refl _,?_,?_⟩,none,rfl⟩ (fun i σ H' _ g=>SqL.of (g.1 _ _ cn0 cn1 ec)) ?_ ?_
 ·have e:(fun j=>j < ns.length ∧ ¬ j ∈ cs.take 0) = fun j=>j < ns.length:=funext fun j=>propext ⟨And.left,fun z=>⟨z,fun y=>nomatch y⟩⟩
  rw [e]; exact D0
 ·have e:(fun j=>j < ns.length ∧ ¬ j ∈ cs.take 0) = fun j=>j < ns.length:=funext fun j=>propext ⟨And.left,fun z=>⟨z,fun y=>nomatch y⟩⟩
  rw [e]; exact D1
 ·rintro i x σ H' hx ⟨sx,⟨kv0',kv1',t',z0,z1,E0,E1⟩,v6,rfl⟩
  rw [List.getElem?_map] at hx
  obtain ⟨c,hc,rfl⟩:=Option.map_eq_some_iff.mp hx
  have hcl:=ch.lt c (List.mem_of_getElem? hc)
  obtain ⟨ap,pp,ha,hp,ep⟩:=cW pr (show c < ps.length by lia)
  have ep':=tupX sx _ _ ep
  have hat:atI (as.map V.ref) ((c:Nat):Int) = some (.ref ap):=C0 (by rw [List.getElem?_map,ha]; rfl)
  have hat2:atI (ns.map V.int) ((c:Nat):Int) = some (.int (nuL ns c)):=C0 (by
   rw [List.getElem?_map,List.getElem?_eq_getElem hcl,nuL,List.getD,List.getElem?_eq_getElem hcl]
   rfl)
  have r0:RI 0 ps c = pp.1:=S7 hp
  have r1':RI 1 ps c = pp.2:=S7 hp
  have hnt:=aj (j:=0) ch.nd hc
  have g0:=E0.1 c ⟨hcl,hnt⟩
  have g1:=E1.1 c ⟨hcl,hnt⟩
  rw [r0] at g0
  rw [r1'] at g1
  refine ⟨_,rfl,_,rfl,_,rfl,l,_,_,_,rfl,rfl,SqL.of (sx _ _ ln0 ln1 el),hat,_,rfl,_,rfl,nl,_,_,_,rfl,rfl,SqL.of (sx _ _ nn0 nn1 en),hat2,tk,d0,d1,ap,kv0',kv1',pp,nuL ns c,_,_,rfl,t',ep',g0,g1,fun H2 s2 t2=>?_⟩
  refine ⟨fun b u b0 b1 z=>s2 b u b0 b1 (sx b u b0 b1 z),⟨_,_,t2,Nat.le_trans (bG ..) z0,Nat.le_trans (bG ..) z1,?_,?_⟩,_,rfl⟩
  ·rw [← r0]
   refine E0.drop (fun j hj e1 e2=>N.p0 j c hj.1 hcl e2 e1) fun j=>?_
   rw [O8 hc,List.mem_append,List.mem_singleton]
   exact ⟨fun z=>⟨⟨z.1,fun y=>z.2 (.inl y)⟩,fun y=>z.2 (.inr y)⟩,fun z=>⟨z.1.1,fun y=>y.elim z.1.2 z.2⟩⟩
  ·rw [← r1']
   refine E1.drop (fun j hj e1 e2=>N.p1 j c hj.1 hcl e2 e1) fun j=>?_
   rw [O8 hc,List.mem_append,List.mem_singleton]
   exact ⟨fun z=>⟨⟨z.1,fun y=>z.2 (.inl y)⟩,fun y=>z.2 (.inr y)⟩,fun z=>⟨z.1.1,fun y=>y.elim z.1.2 z.2⟩⟩
 rintro σ H2 ⟨sx,⟨kv0',kv1',t',z0,z1,E0,E1⟩,v6,rfl⟩
 rw [List.length_map,List.take_length] at E0 E1
 have ec2:=sx _ _ cn0 cn1 ec
 refine ⟨_,rfl,cl,rfl,⟨_,SqL.of ec2⟩,?_⟩
 refine y9 (xs:=cs.map fun c=>V.int (c:Nat)) (fun i σ H'=>Z9 d0 d1 nl H H' ∧ (∃ (ns':List Int) (kv0'' kv1'':List (List Key × V)),Tk H' tk d0 d1 kv0'' kv1'' ∧ H' nl = some (.lst (ns'.map V.int)) ∧ ns'.length = ns.length ∧ kv0''.length ≤ kv0.length + i ∧ kv1''.length ≤ kv1.length + i ∧ (∀ j,j < ns.length → nuL ns' j = if j ∈ cs.take i then swp a b (nuL ns j) else nuL ns j) ∧
   DT kv0'' (RI 0 ps) (nuL ns') (fun j=>j < ns.length ∧ (¬ j ∈ cs ∨ j ∈ cs.take i)) ∧ DT kv1'' (RI 1 ps) (nuL ns') (fun j=>j < ns.length ∧ (¬ j ∈ cs ∨ j ∈ cs.take i))) ∧ ∃ v6,σ = [some (.ref l),some (.ref tk),some (.ref nl),some (.ref cl),some (.int a),some (.int b),v6])
  ⟨fun b u b0 b1 _ z=>sx b u b0 b1 z,⟨ns,kv0',kv1',t',sx _ _ nn0 nn1 en,rfl,by lia,by lia,fun j hj=>?_,?_,?_⟩,_,rfl⟩ (fun i σ H' _ g=>SqL.of (g.1 _ _ cn0 cn1 hcn ec)) ?_ ?_
 ·rw [if_neg (fun z=>nomatch z)]
 ·have e:(fun j=>j < ns.length ∧ (¬ j ∈ cs ∨ j ∈ cs.take 0)) = fun j=>j < ns.length ∧ ¬ j ∈ cs:=funext fun j=>propext ⟨fun z=>⟨z.1,z.2.elim id fun y=>nomatch y⟩,fun z=>⟨z.1,.inl z.2⟩⟩
  rw [e]; exact E0
 ·have e:(fun j=>j < ns.length ∧ (¬ j ∈ cs ∨ j ∈ cs.take 0)) = fun j=>j < ns.length ∧ ¬ j ∈ cs:=funext fun j=>propext ⟨fun z=>⟨z.1,z.2.elim id fun y=>nomatch y⟩,fun z=>⟨z.1,.inl z.2⟩⟩
  rw [e]; exact E1
 ·rintro i x σ H' hx ⟨s3,⟨ns',w0,w1,t3,f1,f2,f3,f4,f5,G0,G1⟩,v6,rfl⟩
  rw [List.getElem?_map] at hx
  obtain ⟨c,hc,rfl⟩:=Option.map_eq_some_iff.mp hx
  have hi:=(List.getElem?_eq_some_iff.mp hc).1
  have hcm:=List.mem_of_getElem? hc
  have hcl:=ch.lt c hcm
  have hnt:=aj (j:=0) ch.nd hc
  obtain ⟨ap,pp,ha,hp,ep⟩:=cW pr (show c < ps.length by lia)
  have hne_ap:∀ z:Addr,z = nl → ¬ H z = some (.tup [.int pp.1,.int pp.2]):=fun z e y=>by rw [e,en] at y; cases y
  have ep3:H' ap = some (.tup [.int pp.1,.int pp.2]):=s3 _ _ (L8 ep tt.e0) (L8 ep tt.e1) (fun z=>hne_ap ap z ep) ep
  have hat:atI (as.map V.ref) ((c:Nat):Int) = some (.ref ap):=C0 (by rw [List.getElem?_map,ha]; rfl)
  have cl':c < ns'.length:=by lia
  have nc:nuL ns' c = nuL ns c:=by rw [f5 c hcl,if_neg hnt]
  have hat2:atI (ns'.map V.int) ((c:Nat):Int) = some (.int (nuL ns c)):=C0 (by
   rw [List.getElem?_map,List.getElem?_eq_getElem cl',← nc,nuL,List.getD,List.getElem?_eq_getElem cl']
   rfl)
  have r0:RI 0 ps c = pp.1:=S7 hp
  have r1':RI 1 ps c = pp.2:=S7 hp
  have rest:H' nl = some (.lst (ns'.map V.int)) ∧ ∃ j,ixN (ns'.map V.int).length ((c:Nat):Int) = some j ∧ j = c:=⟨f1,c,by rw [List.length_map]; exact aC cl',rfl⟩
  have goal:∀ G:Hp,G = upd H' nl (.lst ((ns'.set c (swp a b (nuL ns c))).map V.int)) → Z9 d0 d1 nl H G ∧ Tk G tk d0 d1 w0 w1 ∧ G nl = some (.lst ((ns'.set c (swp a b (nuL ns c))).map V.int)) ∧ G l = some (.lst (as.map V.ref)) ∧ G ap = some (.tup [.int pp.1,.int pp.2]):=fun G e=>by
   subst e
   refine ⟨fun b u b0 b1 b2 z=>by rw [g7 b2]; exact s3 b u b0 b1 b2 z,⟨by rw [g7 ntn]; exact t3.tk,by rw [g7 (Ne.symm nn0)]; exact t3.e0,by rw [g7 (Ne.symm nn1)]; exact t3.e1,t3.ne⟩,d4,by rw [g7 hln]; exact s3 _ _ ln0 ln1 hln el,by rw [g7 (fun z=>hne_ap ap z ep)]; exact ep3⟩
  have nset:=qe (ns:=ns') (x:=swp a b (nuL ns c)) cl'
  have fin:∀ G:Hp,Z9 d0 d1 nl H G → Tk G tk d0 d1 w0 w1 → G nl = some (.lst ((ns'.set c (swp a b (nuL ns c))).map V.int)) → ∀ G',V9 d0 d1 G G' → Tk G' tk d0 d1 (B7 w0 (kRN pp.1 (swp a b (nuL ns c))) (.int (c:Nat))) (B7 w1 (kRN pp.2 (swp a b (nuL ns c))) (.int (c:Nat))) →
    (Z9 d0 d1 nl H G' ∧ (∃ (ns':List Int) (kv0'' kv1'':List (List Key × V)),Tk G' tk d0 d1 kv0'' kv1'' ∧ G' nl = some (.lst (ns'.map V.int)) ∧ ns'.length = ns.length ∧ kv0''.length ≤ kv0.length + (i + 1) ∧ kv1''.length ≤ kv1.length + (i + 1) ∧ (∀ j,j < ns.length → nuL ns' j = if j ∈ cs.take (i + 1) then swp a b (nuL ns j) else nuL ns j) ∧
    DT kv0'' (RI 0 ps) (nuL ns') (fun j=>j < ns.length ∧ (¬ j ∈ cs ∨ j ∈ cs.take (i + 1))) ∧ DT kv1'' (RI 1 ps) (nuL ns') (fun j=>j < ns.length ∧ (¬ j ∈ cs ∨ j ∈ cs.take (i + 1))))):=fun G g1 g2 g3 G' s4 t4=>by
   have mem1:∀ j,(j ∈ cs.take (i + 1)) ↔ (j ∈ cs.take i ∨ j = c):=fun j=>by rw [O8 hc,List.mem_append,List.mem_singleton]
   have inI:∀ j,(j < ns.length ∧ (¬ j ∈ cs ∨ j ∈ cs.take (i + 1))) ↔ ((j < ns.length ∧ (¬ j ∈ cs ∨ j ∈ cs.take i)) ∨ j = c):=fun j=>by
    rw [mem1]
    refine ⟨fun z=>?_,fun z=>?_⟩
    ·rcases z.2 with y | y | y
     ·exact .inl ⟨z.1,.inl y⟩
     ·exact .inl ⟨z.1,.inr y⟩
     ·exact .inr y
    ·rcases z with y | y
     ·exact ⟨y.1,y.2.imp id .inl⟩
     ·exact ⟨y ▸ hcl,.inr (.inr y)⟩
   have notin:¬ (c < ns.length ∧ (¬ c ∈ cs ∨ c ∈ cs.take i)):=fun z=>z.2.elim (fun y=>y hcm) hnt
   have oldn:∀ j,(j < ns.length ∧ (¬ j ∈ cs ∨ j ∈ cs.take i)) → nuL (ns'.set c (swp a b (nuL ns c))) j = nuL ns' j:=fun j hj=>by
    rw [nset j,if_neg (show ¬ j = c from fun z=>notin (by rw [z] at hj; exact hj))]
   have clash:∀ j,(j < ns.length ∧ (¬ j ∈ cs ∨ j ∈ cs.take i)) → (RI 0 ps j = RI 0 ps c ∨ RI 1 ps j = RI 1 ps c) → nuL ns' j ≠ swp a b (nuL ns c):=fun j hj sh e=>by
    rw [f5 j hj.1] at e
    by_cases m:j ∈ cs.take i
    ·rw [if_pos m] at e
     have jm:=List.mem_of_mem_take m
     have:=iy (ch.ab j jm) (ch.ab c hcm) e
     have jc:j = c:=sh.elim (fun y=>N.p0 j c hj.1 hcl this y) (fun y=>N.p1 j c hj.1 hcl this y)
     exact hnt (jc ▸ m)
    ·rw [if_neg m] at e
     have nj:¬ j ∈ cs:=hj.2.elim id (fun y=>absurd y m)
     exact nj (ch.closed N hb hcm hj.1 (by rw [e]; exact cO _) (sh.imp Eq.symm Eq.symm))
   refine ⟨fun b u b0 b1 b2 z=>s4 b u b0 b1 (g1 b u b0 b1 b2 z),_,_,_,t4,s4 _ _ nn0 nn1 g3,by rw [List.length_set]; exact f2,Nat.le_trans (F2 ..) (by lia),Nat.le_trans (F2 ..) (by lia),fun j hj=>?_,?_,?_⟩
   ·rw [nset j]
    by_cases e:j = c
    ·rw [if_pos e,if_pos ((mem1 j).mpr (.inr e)),e]
    ·rw [if_neg e,f5 j hj]
     by_cases m:j ∈ cs.take i
     ·rw [if_pos m,if_pos ((mem1 j).mpr (.inl m))]
     ·rw [if_neg m,if_neg (fun z=>((mem1 j).mp z).elim m e)]
   ·rw [← r0]
    exact G0.put notin (fun j hj e=>clash j hj (.inl e)) oldn (by rw [nset c,if_pos rfl]) inI
   ·rw [← r1']
    exact G1.put notin (fun j hj e=>clash j hj (.inr e)) oldn (by rw [nset c,if_pos rfl]) inI
  have step:∀ xv:Int,xv = swp a b (nuL ns c) → ∀ R:Hp → Prop,(∀ G',Z9 d0 d1 nl H G' ∧ (∃ (ns':List Int) (kv0'' kv1'':List (List Key × V)),Tk G' tk d0 d1 kv0'' kv1'' ∧ G' nl = some (.lst (ns'.map V.int)) ∧ ns'.length = ns.length ∧ kv0''.length ≤ kv0.length + (i + 1) ∧ kv1''.length ≤ kv1.length + (i + 1) ∧ (∀ j,j < ns.length → nuL ns' j = if j ∈ cs.take (i + 1) then swp a b (nuL ns j) else nuL ns j) ∧
    DT kv0'' (RI 0 ps) (nuL ns') (fun j=>j < ns.length ∧ (¬ j ∈ cs ∨ j ∈ cs.take (i + 1))) ∧ DT kv1'' (RI 1 ps) (nuL ns') (fun j=>j < ns.length ∧ (¬ j ∈ cs ∨ j ∈ cs.take (i + 1)))) → R G') → True:=fun _ _ _ _=>trivial
  refine ⟨_,rfl,_,rfl,nl,_,_,_,rfl,rfl,SqL.of f1,hat2,_,rfl,rfl,_,rfl,?_⟩
  refine E9 (fun e=>?_) (fun e=>?_)
  ·have e':nuL ns c = a:=V.int.inj (of_decide_eq_true e)
   have sv:swp a b (nuL ns c) = b:=if_pos e'
   refine ⟨_,rfl,_,rfl,_,rfl,nl,_,_,c,rfl,rfl,f1,by rw [List.length_map]; exact aC cl',?_⟩
   rw [show V.int b = V.int (swp a b (nuL ns c)) by rw [sv],iG]
   obtain ⟨g1,g2,g3,g4,g5⟩:=goal _ rfl
   generalize upd H' nl (.lst ((ns'.set c (swp a b (nuL ns c))).map V.int)) = G at g1 g2 g3 g4 g5 ⊢
   have hat3:atI ((ns'.set c (swp a b (nuL ns c))).map V.int) ((c:Nat):Int) = some (.int (swp a b (nuL ns c))):=C0 (by rw [List.getElem?_map,List.getElem?_set_self cl']; rfl)
   refine ⟨_,rfl,_,rfl,_,rfl,_,rfl,l,_,_,_,rfl,rfl,SqL.of g4,hat,_,rfl,_,rfl,nl,_,_,_,rfl,rfl,SqL.of g3,hat3,tk,d0,d1,ap,w0,w1,pp,c,_,rfl,g2,g5,by lia,by lia,fun G' s4 t4=>?_⟩
   obtain ⟨o1,o2⟩:=fin G g1 g2 g3 G' s4 t4
   exact ⟨o1,o2,_,rfl⟩
  ·have e':¬ nuL ns c = a:=fun z=>e (decide_eq_true (by rw [z]))
   have sv:swp a b (nuL ns c) = a:=if_neg e'
   refine ⟨_,rfl,_,rfl,_,rfl,nl,_,_,c,rfl,rfl,f1,by rw [List.length_map]; exact aC cl',?_⟩
   rw [show V.int a = V.int (swp a b (nuL ns c)) by rw [sv],iG]
   obtain ⟨g1,g2,g3,g4,g5⟩:=goal _ rfl
   generalize upd H' nl (.lst ((ns'.set c (swp a b (nuL ns c))).map V.int)) = G at g1 g2 g3 g4 g5 ⊢
   have hat3:atI ((ns'.set c (swp a b (nuL ns c))).map V.int) ((c:Nat):Int) = some (.int (swp a b (nuL ns c))):=C0 (by rw [List.getElem?_map,List.getElem?_set_self cl']; rfl)
   refine ⟨_,rfl,_,rfl,_,rfl,_,rfl,l,_,_,_,rfl,rfl,SqL.of g4,hat,_,rfl,_,rfl,nl,_,_,_,rfl,rfl,SqL.of g3,hat3,tk,d0,d1,ap,w0,w1,pp,c,_,rfl,g2,g5,by lia,by lia,fun G' s4 t4=>?_⟩
   obtain ⟨o1,o2⟩:=fin G g1 g2 g3 G' s4 t4
   exact ⟨o1,o2,_,rfl⟩
 ·rintro σ H' ⟨s3,⟨ns',w0,w1,t3,f1,f2,f3,f4,f5,G0,G1⟩,v6,rfl⟩
  rw [List.length_map] at f3 f4
  rw [List.length_map,List.take_length] at f5 G0 G1
  have e:(fun j=>j < ns.length ∧ (¬ j ∈ cs ∨ j ∈ cs)) = fun j=>j < ns.length:=funext fun j=>propext ⟨And.left,fun z=>⟨z,(Classical.em (j ∈ cs)).symm⟩⟩
  rw [e] at G0 G1
  exact q ns' w0 w1 H' s3 t3 f1 f2 (by lia) (by lia) f5 G0 G1
end
def eJ (K:PySem.W.Frag):Sp:=fun vs H Q _=>∃ (l:Addr) (as:List Addr) (ps:List (Int × Int)) (W:Int),vs = [.ref l,.int W] ∧ SqL K H l (as.map V.ref) ∧ F1 H as ps ∧ ps.length ≤ 60 ∧ (∀ side r:Int,side = 0 ∨ side = 1 → (((rks side ps).count r:Nat):Int) ≤ W) ∧ ∀ H',j7 H H' → Q .non H'
def bn:Sp:=fun vs H Q _=>∃ (l:Addr) (as:List Addr) (ps:List (Int × Int)) (W:Int),vs = [.ref l,.int W] ∧ H l = some (.lst (as.map V.ref)) ∧ F1 H as ps ∧ ps.length ≤ 60 ∧ (∀ side r:Int,side = 0 ∨ side = 1 → (((rks side ps).count r:Nat):Int) ≤ W) ∧
 ∀ (nl:Addr) (ns:List Int) (H':Hp),j7 H H' → H nl = none → H' nl = some (.lst (ns.map V.int)) → ns.length = ps.length → Num (RI 0 ps) (RI 1 ps) ps.length (nuL ns) → (∀ i,i < ps.length → 0 ≤ nuL ns i ∧ nuL ns i < W) → Q (.ref nl) H'
theorem X7 {kvs:List (List Key × V)} {R nu:Nat → Int} {t x:Nat} {r:Int} (h:DT kvs R nu (· < t)) (hx:∀ y:Nat,y < x → (r9 kvs (kRN r y)).isSome = true):x ≤ ((List.range t).filter fun i=>decide (R i = r)).length:=lq (nu:=nu) fun y hy=>by
 obtain ⟨v,hv⟩:=Option.isSome_iff_exists.mp (hx y hy)
 obtain ⟨i,h1,h2,h3,_⟩:=h.2 r y v hv
 exact ⟨i,h1,h2,h3⟩
section
variable {P:Program} {w:World} {K:PySem.W.Frag} {mg:Str → Option Value} {base:Heap}
theorem J3:FnScope ["pairs","ways","side","weights","rack"] ["pairs","ways"] (d7 (top 19)):=⟨rfl,rfl,rfl,by decide +kernel,rfl,by decide +kernel,by decide +kernel⟩
theorem js (T:Txt K mg) (C_side_weights:h9 P w K mg base 1 "side_weights" ["pairs","side"] (lE K)) (D:Def K mg "refuse_full" (top 19) ["pairs","ways"]):h9 P w K mg base 2 "refuse_full" ["pairs","ways"] (eJ K):=by
 refine D.ok J3 (fun vs H Q E h=>?_) (fun f cdv A outer s H vs Q E hr h=>?_)
 ·obtain ⟨l,as,ps,W,rfl,_⟩:=h
  rfl
 obtain ⟨l,as,ps,W,rfl,hl,pr,few,hW,q⟩:=h
 refine ⟨_,(d9 (w5 PassesOwn.never rfl (B4 rfl T.m_range (b7 b9 d6 m7)) (m6 (i:=2) J3.nd rfl (Or.inl rfl))
  (d5 (i6 (i:=3) J3.nd rfl (Or.inl rfl) (m4 C_side_weights hr rfl (b7 (pv 0) (b7 (pv 2) d6 b8) b8)))
  (d9 (w5 PassesOwn.never rfl (o6 K (i8 (bj rfl) rfl T.m_sorted boot_sorted (b7 (pv 3) d6 b8))) (m6 (i:=4) J3.nd rfl (Or.inl rfl))
  (d9 (p4 (j0 iP (mD (L9 hr) (pv 3) (pv 4) (fun _ _=>rfl)) (pv 1) (j8 _)) (d9 eY) j9))))))),?_⟩
 refine ⟨_,rfl,by decide,by decide,?_⟩
 refine K1 (lo:=0) (n:=2) (fun j σ H'=>j7 H H' ∧ ∃ v2 v3 v4,σ = [some (.ref l),some (.int W),v2,v3,v4])
  ⟨fun b u z=>z,none,none,none,rfl⟩ ?_ ?_
 ·rintro j σ H' hj ⟨s1,v2,v3,v4,rfl⟩
  rw [Int.zero_add]
  have hs:(j:Int) = 0 ∨ (j:Int) = 1:=by lia
  refine ⟨_,rfl,_,rfl,l,as,ps,(j:Int),rfl,s1.seq hl,pr.same s1,few,hs,fun d kvs H2 s2 hd ed cd=>?_⟩
  obtain ⟨nsx,nd,mem,nlen,hk⟩:=id cd
  have n60:nsx.length ≤ 60:=by rw [rks,List.length_map] at nlen; lia
  refine ⟨_,rfl,d,kvs,nsx,rfl,.inl ed,by rw [hk,List.map_map]; rfl,by lia,fun ns' pm _ sl hsl=>?_⟩
  have s3:=g6 hsl (.lst (ns'.map V.int))
  have es:=d4 (H:=H2) (a:=sl) (o:=.lst (ns'.map V.int))
  have ed3:=s3 _ _ ed
  generalize upd H2 sl (.lst (ns'.map V.int)) = H3 at s3 es ed3 ⊢
  refine ⟨sl,rfl,⟨_,SqL.of es⟩,?_⟩
  refine y9 (xs:=ns'.map V.int) (fun k σ H'=>H' = H3 ∧ ∃ v4,σ = [some (.ref l),some (.int W),some (.int (j:Int)),some (.ref d),v4])
   ⟨rfl,_,rfl⟩ (fun k σ H' _ g=>by rw [g.1]; exact SqL.of es) ?_ ?_
  ·rintro k x σ G hx ⟨rfl,v4,rfl⟩
   rw [List.getElem?_map] at hx
   obtain ⟨r,hr,rfl⟩:=Option.map_eq_some_iff.mp hx
   have mr:=(mem r).mp (pm.mem_iff.mp (List.mem_of_getElem? hr))
   have hv:=cd.val r
   rw [if_pos mr] at hv
   have hw:=hW (j:Int) r hs
   refine ⟨_,rfl,_,rfl,d,_,rfl,.inl ⟨kvs,.inl r,.inl ed3,rfl,hv.symm⟩,_,rfl,_,_,rfl,rfl,_,rfl,L7 (by simpa using hw) ?_⟩
   exact ⟨rfl,_,rfl⟩
  ·rintro σ G ⟨rfl,v4,rfl⟩
   exact ⟨s1.trans (s2.trans s3),_,_,_,rfl⟩
 ·rintro σ H' ⟨s1,v2,v3,v4,rfl⟩
  exact q H' s1
theorem M8:FnScope ["pairs","ways","taken","numbers","place","pair","a","b"] ["pairs","ways"] (d7 (top 25)):=⟨rfl,rfl,rfl,by decide +kernel,rfl,by decide +kernel,by decide +kernel⟩
set_option maxHeartbeats 4000000 in
theorem jW (T:Txt K mg) (C_refuse_full:h9 P w K mg base 2 "refuse_full" ["pairs","ways"] (eJ K)) (C_first_left:h9 P w K mg base 1 "first_left" ["places","rack"] kS) (C_chain_along:h9 P w K mg base 1 "chain_along" ["pairs","taken","rack","a","b"] (ie K)) (C_exchange:h9 P w K mg base 2 "exchange" ["pairs","taken","numbers","chain","a","b"] (kC K)) (C_take:h9 P w K mg base 1 "take" ["taken","place","pair","number"] gY) (D:Def K mg "parted" (top 25) ["pairs","ways"]):h9 P w K mg base 3 "parted" ["pairs","ways"] bn:=by
 refine D.ok M8 (fun vs H Q E h=>?_) (fun f cdv A outer s H vs Q E hr h=>?_)
 ·obtain ⟨l,as,ps,W,rfl,_⟩:=h
  rfl
 obtain ⟨l,as,ps,W,rfl,el,pr,few,hW,q⟩:=h
 have ln:as.length = ps.length:=Paired.length pr
 refine ⟨_,(d5 (y6 (m4 C_refuse_full hr rfl (b7 (pv 0) (b7 (pv 1) d6 b8) b8)))
  (d5 (i6 (i:=2) M8.nd rfl (Or.inl rfl) (w4 (b7 bo (b7 bo d6 iZ) iZ)))
  (d5 (i6 (i:=3) M8.nd rfl (Or.inl rfl) (F8 d6))
  (d5 (w5 PassesOwn.never rfl (iN K rfl T.m_enumerate (b7 (pv 0) d6 b8)) (om K rfl M8.nd (Nm.mk (i:=4) rfl (Or.inl rfl) (Or.inl rfl)) (Nm.mk (i:=5) rfl (Or.inl rfl) (Or.inl rfl)))
  (d5 (i6 (i:=6) M8.nd rfl (Or.inl rfl) (m4 C_first_left hr rfl (b7 (g9 (d8 K) (pv 2) b9 (fun _ _=>rfl)) (b7 (g9 (d8 K) (pv 5) b9 (fun _ _=>rfl)) d6 m5) m5)))
  (d5 (i6 (i:=7) M8.nd rfl (Or.inl rfl) (m4 C_first_left hr rfl (b7 (g9 (d8 K) (pv 2) b9 (fun _ _=>rfl)) (b7 (g9 (d8 K) (pv 5) b9 (fun _ _=>rfl)) d6 m5) m5)))
  (d5 (y6 (m4 C_exchange hr rfl (b7 (pv 0) (b7 (pv 2) (b7 (pv 3) (b7 (m4 C_chain_along hr rfl (b7 (pv 0) (b7 (pv 2) (b7 (g9 (d8 K) (pv 5) b9 (fun _ _=>rfl)) (b7 (pv 6) (b7 (pv 7) d6 b8) b8) m5) b8) b8)) (b7 (pv 6) (b7 (pv 7) d6 b8) b8) w6) b8) b8) b8)))
  (d5 (y6 (N3 K PySem.F.plainAttrs_list PySem.F.slot_list_append PySem.F.type_list_append x9 (pv 3) (b7 (pv 6) d6 b8)))
  (d9 (y6 (m4 C_take hr rfl (b7 (pv 2) (b7 (pv 4) (b7 (pv 5) (b7 (pv 6) d6 b8) b8) b8) b8)))))))))
  (d9 (i9 (pv 3))))))),?_⟩
 refine ⟨_,rfl,_,rfl,l,as,ps,W,rfl,SqL.of el,pr,few,hW,fun H0 s0=>?_⟩
 refine fun d0 hd0=>fun d1 hd1=>?_
 have s1:=s0.trans (g6 hd0 (.dT []))
 have s2:=s1.trans (g6 hd1 (.dT []))
 have e0:=g6 hd1 (.dT []) _ _ (d4 (H:=H0) (a:=d0) (o:=.dT []))
 have e1:=d4 (H:=upd H0 d0 (.dT [])) (a:=d1) (o:=.dT [])
 have nd01:d0 ≠ d1:=i4 (d4 (H:=H0) (a:=d0) (o:=.dT [])) hd1
 have fr:∀ {G:Hp} {x:Addr},j7 H G → G x = none → H x = none:=fun {G x} s z=>by
  cases y:H x with
  | none=>rfl
  | some u=>rw [s _ _ y] at z; cases z
 have f0:=fr s0 hd0
 have f1:=fr s1 hd1
 generalize upd (upd H0 d0 (.dT [])) d1 (.dT []) = H2 at s2 e0 e1 ⊢
 refine ⟨(by show 2 ≤ sizeLine; decide),fun tk htk=>?_⟩
 have s3:=s2.trans (g6 htk (.tup [.ref d0,.ref d1]))
 have t3:Tk (upd H2 tk (.tup [.ref d0,.ref d1])) tk d0 d1 [] []:=⟨d4,g6 htk _ _ _ e0,g6 htk _ _ _ e1,nd01⟩
 generalize upd H2 tk (.tup [.ref d0,.ref d1]) = H3 at s3 t3 ⊢
 refine ⟨(by show 0 ≤ sizeLine; decide),fun nl hnl=>?_⟩
 have fn:=fr s3 hnl
 have s4:=s3.trans (g6 hnl (.lst []))
 have t4:=t3.same (g6 hnl (.lst []))
 have en:=d4 (H:=H3) (a:=nl) (o:=.lst [])
 generalize upd H3 nl (.lst []) = H4 at s4 t4 en ⊢
 refine ⟨_,rfl,l,_,rfl,SqL.of (s4 _ _ el),?_⟩
 refine ez (xs:=as.map V.ref) (fun i σ H'=>j7 H H' ∧ (∃ (ns:List Int) (kv0 kv1:List (List Key × V)),Tk H' tk d0 d1 kv0 kv1 ∧ H' nl = some (.lst (ns.map V.int)) ∧ ns.length = i ∧ kv0.length ≤ 61 * i ∧ kv1.length ≤ 61 * i ∧ DT kv0 (RI 0 ps) (nuL ns) (· < i) ∧ DT kv1 (RI 1 ps) (nuL ns) (· < i) ∧ Num (RI 0 ps) (RI 1 ps) i (nuL ns) ∧ ∀ j,j < i → 0 ≤ nuL ns j ∧ nuL ns j < W) ∧ ∃ v4 v5 v6 v7,σ = [some (.ref l),some (.int W),some (.ref tk),some (.ref nl),v4,v5,v6,v7])
  ⟨s4,⟨[],[],[],t4,en,rfl,Nat.le_refl _,Nat.le_refl _,⟨fun i z=>absurd z (Nat.not_lt_zero _),fun r x v z=>nomatch z⟩,⟨fun i z=>absurd z (Nat.not_lt_zero _),fun r x v z=>nomatch z⟩,⟨fun i j z=>absurd z (Nat.not_lt_zero _),fun i j z=>absurd z (Nat.not_lt_zero _)⟩,fun j z=>absurd z (Nat.not_lt_zero _)⟩,none,none,none,none,rfl⟩ (fun i σ H' _ g=>SqL.of (g.1 _ _ el)) ?_ ?_
 ·rintro i x σ H' p hx ⟨s5,⟨ns,kv0,kv1,t5,en5,hlen,z0,z1,D0,D1,N,bd⟩,v4,v5,v6,v7,rfl⟩ hp
  rw [List.getElem?_map] at hx
  obtain ⟨a,ha,rfl⟩:=Option.map_eq_some_iff.mp hx
  obtain ⟨pp,hpp,pa⟩:=m9 pr i a ha
  have hi:=(List.getElem?_eq_some_iff.mp hpp).1
  have r0:RI 0 ps i = pp.1:=S7 hpp
  have r1:RI 1 ps i = pp.2:=S7 hpp
  refine ⟨p,[.int (i:Nat),.ref a],rfl,SqT.of d4,rfl,.int (i:Nat),[.ref a],rfl,.ref a,[],rfl,rfl,?_⟩
  have s6':=g6 hp (.tup [.int (i:Nat),.ref a])
  have s6:=s5.trans s6'
  have t6:=t5.same s6'
  have en6:=s6' _ _ en5
  generalize upd H' p (.tup [.int (i:Nat),.ref a]) = H6 at s6 t6 en6 ⊢
  have fl:∀ (side r:Int),((List.range i).filter fun j=>decide (RI side ps j = r)).length ≤ i:=fun side r=>Nat.le_trans (List.length_filter_le ..) (by rw [List.length_range]; exact Nat.le_refl _)
  refine ⟨_,rfl,tk,_,_,_,rfl,rfl,SqT.of t6.tk,rfl,_,rfl,a,_,_,_,rfl,rfl,SqT.of (s6 _ _ pa),rfl,d0,kv0,pp.1,rfl,t6.e0,fun x hx=>Nat.le_trans (X7 D0 hx) (Nat.le_trans (fl _ _) (by lia)),fun na H7 s7 ha1 ha2=>?_⟩
  have t7:=t6.same s7
  refine ⟨_,rfl,tk,_,_,_,rfl,rfl,SqT.of t7.tk,rfl,_,rfl,a,_,_,_,rfl,rfl,SqT.of (s7 _ _ (s6 _ _ pa)),rfl,d1,kv1,pp.2,rfl,t7.e1,fun x hx=>Nat.le_trans (X7 D1 hx) (Nat.le_trans (fl _ _) (by lia)),fun nb H8 s8 hb1 hb2=>?_⟩
  have t8:=t7.same s8
  have s68:=(s6.trans s7).trans s8
  have aW:((na:Nat):Int) < W:=by
   have h1:=X7 D0 ha1
   have h2:=eA hi r0
   have h3:=hW 0 pp.1 (.inl rfl)
   lia
  have bW:((nb:Nat):Int) < W:=by
   have h1:=X7 D1 hb1
   have h2:=eA hi r1
   have h3:=hW 1 pp.2 (.inr rfl)
   lia
  have ha3:∀ j,j < i → RI 0 ps j = pp.1 → nuL ns j ≠ (na:Nat):=fun j h1 h2 h3=>by
   have:=D0.1 j h1
   rw [h2,h3,ha2] at this
   cases this
  have hb3:∀ j,j < i → RI 1 ps j = pp.2 → nuL ns j ≠ (nb:Nat):=fun j h1 h2 h3=>by
   have:=D1.1 j h1
   rw [h2,h3,hb2] at this
   cases this
  have pa8:=s68 _ _ pa
  have en8:=s8 _ _ (s7 _ _ en6)
  refine ⟨_,rfl,_,rfl,_,rfl,_,rfl,_,rfl,_,rfl,a,_,_,_,rfl,rfl,SqT.of pa8,rfl,_,rfl,_,rfl,l,tk,d0,d1,as,ps,kv0,kv1,nuL ns,i,pp.2,(na:Nat),(nb:Nat),rfl,SqL.of (s68 _ _ el),pr.same s68,by lia,few,t8,D0,D1,N,hb3,fun cl cs H9 s9 hcl ecl ch=>?_⟩
  have t9:=t8.same s9
  have s69:=s68.trans s9
  have en9:=s9 _ _ en8
  have hln:l ≠ nl:=i4 el fn
  have hcn:cl ≠ nl:=fun z=>by rw [z,en8] at hcl; cases hcl
  subst hlen
  refine ⟨_,rfl,_,rfl,l,tk,nl,cl,d0,d1,as,ps,kv0,kv1,ns,cs,pp.2,(na:Nat),(nb:Nat),rfl,SqL.of (s69 _ _ el),pr.same s69,by lia,few,t9,hln,hcn,en9,ecl,s69 _ _ el,by lia,by lia,D0,D1,N,hb3,ch,fun ns' kv0' kv1' HA sA tA enA lA y0 y1 nA E0 E1=>?_⟩
  have sHA:j7 H HA:=fun b u z=>sA b u (i4 z f0) (i4 z f1) (i4 z fn) (s69 b u z)
  have nn0:nl ≠ d0:=fun z=>by have:=tA.e0; rw [← z,enA] at this; cases this
  have nn1:nl ≠ d1:=fun z=>by have:=tA.e1; rw [← z,enA] at this; cases this
  have ntn:tk ≠ nl:=fun z=>by have:=tA.tk; rw [z,enA] at this; cases this
  refine ⟨_,rfl,.inl ⟨rfl,_,SqL.of enA⟩,_,rfl,nl,_,_,rfl,rfl,enA,B5 (by rw [List.length_map]; lia),?_⟩
  have sB:j7 H (upd HA nl (.lst (ns'.map V.int ++ [.int ((na:Nat):Int)]))):=j7.put sHA fn
  have tB:Tk (upd HA nl (.lst (ns'.map V.int ++ [.int ((na:Nat):Int)]))) tk d0 d1 kv0' kv1':=⟨by rw [g7 ntn]; exact tA.tk,by rw [g7 (Ne.symm nn0)]; exact tA.e0,by rw [g7 (Ne.symm nn1)]; exact tA.e1,tA.ne⟩
  have enB:upd HA nl (.lst (ns'.map V.int ++ [.int ((na:Nat):Int)])) nl = some (.lst ((ns' ++ [((na:Nat):Int)]).map V.int)):=by rw [d4,List.map_append]; rfl
  generalize upd HA nl (.lst (ns'.map V.int ++ [.int ((na:Nat):Int)])) = HB at sB tB enB ⊢
  refine ⟨_,rfl,_,rfl,_,rfl,_,rfl,tk,d0,d1,a,kv0',kv1',pp,ns.length,((na:Nat):Int),rfl,tB,sB _ _ pa,by lia,by lia,fun HC sC tC=>?_⟩
  have sHC:j7 H HC:=fun b u z=>sC b u (i4 z f0) (i4 z f1) (sB b u z)
  have N':=oa N hb3 ch nA
  have g0:=lO ha3 ch nA
  have g1:=lL hb3 ch nA
  obtain ⟨m1,m2⟩:=mI (ns:=ns') (x:=((na:Nat):Int))
  rw [lA] at m1 m2
  refine ⟨sHC,⟨ns' ++ [((na:Nat):Int)],_,_,tC,sC _ _ nn0 nn1 enB,by rw [List.length_append,List.length_singleton,lA],Nat.le_trans (F2 ..) (by lia),Nat.le_trans (F2 ..) (by lia),?_,?_,N'.snoc (fun j h1 h2=>g0 j h1 (by rw [h2,r0])) (fun j h1 h2=>g1 j h1 (by rw [h2,r1])) m1 m2,fun j hj=>?_⟩,_,_,_,_,rfl⟩
  ·rw [← r0]
   exact E0.put (Nat.lt_irrefl _) (fun j h1 h2=>g0 j h1 (by rw [h2,r0])) m1 m2 fun j=>by lia
  ·rw [← r1]
   exact E1.put (Nat.lt_irrefl _) (fun j h1 h2=>g1 j h1 (by rw [h2,r1])) m1 m2 fun j=>by lia
  ·by_cases e:j = ns.length
   ·rw [e,m2]
    exact ⟨by lia,aW⟩
   ·rw [m1 j (by lia),nA j (by lia)]
    split
    ·rcases cO (a:=((na:Nat):Int)) (b:=((nb:Nat):Int)) (nuL ns j) with y | y <;> rw [y] <;> exact ⟨by lia,by lia⟩
    ·exact bd j (by lia)
 ·rintro σ H' ⟨s5,⟨ns,kv0,kv1,t5,en5,hlen,z0,z1,D0,D1,N,bd⟩,v4,v5,v6,v7,rfl⟩
  rw [List.length_map,ln] at hlen N bd
  exact ⟨_,rfl,q nl ns H' s5 fn en5 hlen N bd⟩
end
abbrev Prs:=List (Int × Int)
abbrev Trs:=List ((Int × Int) × Int)
structure p5 (n:Int) (ps:Prs):Prop where
 bd:∀ p ∈ ps,(0 ≤ p.1 ∧ p.1 < n) ∧ 0 ≤ p.2 ∧ p.2 < n
 n1:(ps.map Prod.fst).Nodup
 n2:(ps.map Prod.snd).Nodup
def A7 (S:Int) (ts:Trs) (i:Nat):Prs:=(ts.filter fun t=>decide (t.1.1 / S = (i:Int))).map fun t=>(t.1.1 % S,t.2)
def C9 (S:Int) (ts:Trs) (i:Nat):Prs:=(ts.filter fun t=>decide (t.1.2 / S = (i:Int))).map fun t=>(t.2,t.1.2 % S)
def C6 (S:Int) (ts:Trs) (k:Nat):Prs:=(ts.filter fun t=>decide (t.2 = (k:Int))).map fun t=>(t.1.1 / S,t.1.2 / S)
structure lY (S:Int) (ts:Trs):Prop where
 bd:∀ t ∈ ts,0 ≤ t.2 ∧ t.2 < S
 ap:ts.Pairwise fun t u=>t.2 = u.2 → t.1.1 / S ≠ u.1.1 / S ∧ t.1.2 / S ≠ u.1.2 / S
theorem cu {α:Type} {l:List α} {p:α → Bool} {f:α → Int × Int} {g:Int × Int → Int} (h:l.Pairwise fun t u=>p t = true → p u = true → g (f t) ≠ g (f u)):(((l.filter p).map f).map g).Nodup:=by
 unfold List.Nodup
 rw [List.pairwise_map,List.pairwise_map,List.pairwise_filter]
 exact h
theorem p5.pw {n:Int} {ts:Trs} (h:p5 n (ts.map Prod.fst)):ts.Pairwise fun t u=>t.1.1 ≠ u.1.1 ∧ t.1.2 ≠ u.1.2:=by
 have h1:=h.n1
 have h2:=h.n2
 unfold List.Nodup at h1 h2
 rw [List.pairwise_map,List.pairwise_map] at h1 h2
 exact h1.and h2
theorem p5.t {n:Int} {ts:Trs} (h:p5 n (ts.map Prod.fst)) {t:(Int × Int) × Int} (ht:t ∈ ts):(0 ≤ t.1.1 ∧ t.1.1 < n) ∧ 0 ≤ t.1.2 ∧ t.1.2 < n:=h.bd t.1 (List.mem_map.mpr ⟨t,ht,rfl⟩)
theorem aF {S x y:Int} (h1:x / S = y / S) (h2:x % S = y % S):x = y:=by
 have e1:=Int.emod_add_mul_ediv x S
 have e2:=Int.emod_add_mul_ediv y S
 rw [h1,h2] at e1
 exact e1.symm.trans e2
theorem K7 {L S x:Int} (s2:2 ≤ S) (x0:0 ≤ x) (h:x < L):0 ≤ x / S ∧ x / S < (L + S - 1) / S:=by
 refine ⟨Int.ediv_nonneg x0 (by lia),?_⟩
 have e:(L + S - 1) / S = (L - 1) / S + 1:=by
  rw [show L + S - 1 = (L - 1) + S * 1 by lia,Int.add_mul_ediv_left _ _ (show S ≠ 0 by lia)]
 have:=Int.ediv_le_ediv (show 0 < S by lia) (show x ≤ L - 1 by lia)
 lia
theorem Y2 {L S:Int} {ts:Trs} (s2:2 ≤ S) (h:p5 L (ts.map Prod.fst)) (hn:lY S ts) (k:Nat):p5 ((L + S - 1) / S) (C6 S ts k):=by
 refine ⟨fun p hp=>?_,cu (hn.ap.imp fun {t u} z h1 h2=>(z ((of_decide_eq_true h1).trans (of_decide_eq_true h2).symm)).1),cu (hn.ap.imp fun {t u} z h1 h2=>(z ((of_decide_eq_true h1).trans (of_decide_eq_true h2).symm)).2)⟩
 obtain ⟨t,ht,rfl⟩:=List.mem_map.mp hp
 have:=h.t (List.mem_filter.mp ht).1
 exact ⟨K7 s2 this.1.1 this.1.2,K7 s2 this.2.1 this.2.2⟩
theorem cY {S:Int} (s2:2 ≤ S) (x:Int):0 ≤ x % S ∧ x % S < S:=⟨Int.emod_nonneg x (by lia),Int.emod_lt_of_pos x (by lia)⟩
theorem cf {L S:Int} {ts:Trs} (s2:2 ≤ S) (h:p5 L (ts.map Prod.fst)) (hn:lY S ts) (i:Nat):p5 S (A7 S ts i):=by
 refine ⟨fun p hp=>?_,cu (h.pw.imp fun {t u} z h1 h2 e=>z.1 (aF ((of_decide_eq_true h1).trans (of_decide_eq_true h2).symm) e)),cu (hn.ap.imp fun {t u} z h1 h2 e=>(z e).1 ((of_decide_eq_true h1).trans (of_decide_eq_true h2).symm))⟩
 obtain ⟨t,ht,rfl⟩:=List.mem_map.mp hp
 exact ⟨cY s2 _,hn.bd t (List.mem_filter.mp ht).1⟩
theorem aX {L S:Int} {ts:Trs} (s2:2 ≤ S) (h:p5 L (ts.map Prod.fst)) (hn:lY S ts) (i:Nat):p5 S (C9 S ts i):=by
 refine ⟨fun p hp=>?_,cu (hn.ap.imp fun {t u} z h1 h2 e=>(z e).2 ((of_decide_eq_true h1).trans (of_decide_eq_true h2).symm)),cu (h.pw.imp fun {t u} z h1 h2 e=>z.2 (aF ((of_decide_eq_true h1).trans (of_decide_eq_true h2).symm) e))⟩
 obtain ⟨t,ht,rfl⟩:=List.mem_map.mp hp
 exact ⟨hn.bd t (List.mem_filter.mp ht).1,cY s2 _⟩
theorem nW {α:Type} {l:List α} {x:α} {p:α → Bool} {f:α → Int × Int}:((l ++ [x]).filter p).map f = (l.filter p).map f ++ if p x = true then [f x] else []:=by
 rw [List.filter_append,List.map_append,List.filter_cons,List.filter_nil]
 split <;> rfl
def F4 (H:Hp) (l:Addr) (bs:Prs):Prop:=∃ as:List Addr,H l = some (.lst (as.map V.ref)) ∧ F1 H as bs
def Z3 (bs q:Prs):Prop:=bs.Perm q ∧ bs.Pairwise fun a b=>a.1 < b.1
def S4 (H:Hp) (L:Int) (ps:Prs) (a:Addr):Prop:=∃ (l:Addr) (bs:Prs),H a = some (.tup [.str "rack",.int L,.ref l]) ∧ F4 H l bs ∧ Z3 bs ps
def U4 (H:Hp) (fs:List Addr) (f:Nat → Prs):Prop:=∀ (i:Nat) (fa:Addr),fs[i]? = some fa → ∃ bs,F4 H fa bs ∧ Z3 bs (f i)
def x5 (H:Hp) (S:Int):Nat → Int → Prs → Addr → Prop
 | 0,L,ps,a=>S4 H L ps a
 | d + 1,L,ps,a=>(L ≤ S ∧ S4 H L ps a) ∨ (¬ L ≤ S ∧ ∃ (ts:Trs) (fl al ll:Addr) (fs ms ls:List Addr),ts.map Prod.fst = ps ∧ lY S ts ∧ H a = some (.tup [.str "hall",.int L,.int S,.ref fl,.ref al,.ref ll]) ∧
   H fl = some (.lst (fs.map V.ref)) ∧ H al = some (.lst (ms.map V.ref)) ∧ H ll = some (.lst (ls.map V.ref)) ∧
   ((fs.length:Nat):Int) = (L + S - 1) / S ∧ ((ls.length:Nat):Int) = (L + S - 1) / S ∧ ((ms.length:Nat):Int) = S ∧
   U4 H fs (A7 S ts) ∧ U4 H ls (C9 S ts) ∧ ∀ (k:Nat) (ma:Addr),ms[k]? = some ma → x5 H S d ((L + S - 1) / S) (C6 S ts k) ma)
theorem F4.same {H H':Hp} {l:Addr} {bs:Prs} (h:F4 H l bs) (s:j7 H H'):F4 H' l bs:=let ⟨as,e,p⟩:=h; ⟨as,s _ _ e,p.same s⟩
theorem S4.same {H H':Hp} {L:Int} {ps:Prs} {a:Addr} (h:S4 H L ps a) (s:j7 H H'):S4 H' L ps a:=let ⟨l,bs,e,b,o⟩:=h; ⟨l,bs,s _ _ e,b.same s,o⟩
theorem U4.same {H H':Hp} {fs:List Addr} {f:Nat → Prs} (h:U4 H fs f) (s:j7 H H'):U4 H' fs f:=fun i fa e=>let ⟨bs,b,o⟩:=h i fa e; ⟨bs,b.same s,o⟩
theorem x5.same {H H':Hp} {S:Int} (s:j7 H H'):∀ {d:Nat} {L:Int} {ps:Prs} {a:Addr},x5 H S d L ps a → x5 H' S d L ps a
 | 0,_,_,_,h=>S4.same h s
 | d + 1,L,ps,a,h=>by
  rcases h with ⟨c,h⟩ | ⟨c,ts,fl,al,ll,fs,ms,ls,e1,e2,e3,e4,e5,e6,e7,e8,e9,f1,f2,f3⟩
  ·exact .inl ⟨c,h.same s⟩
  ·exact .inr ⟨c,ts,fl,al,ll,fs,ms,ls,e1,e2,s _ _ e3,s _ _ e4,s _ _ e5,s _ _ e6,e7,e8,e9,f1.same s,f2.same s,fun k ma z=>x5.same s (f3 k ma z)⟩
theorem be {K:PySem.W.Frag} {H:Hp} {Q:VK} {l:Addr} {ps:Prs} {n:Int} (hb:F4 H l ps) (few:ps.length < 64) (ok:p5 n ps) (hn:n ≤ 1000)
  (q:∀ (as':List Addr) (bs:Prs),F1 H as' bs → Z3 bs ps → ∀ m,H m = none → Q (.ref m) (upd H m (.lst (as'.map V.ref)))):fh K [.ref l] H Q:=by
 obtain ⟨as,el,pr⟩:=hb
 have ln:as.length = ps.length:=Paired.length pr
 refine ⟨l,as,ps.map fun p=>[p.1,p.2],2,rfl,SqL.of el,K0 (Paired.mapP pr fun a p z=>SqT.of (show H a = some (.tup ([p.1,p.2].map V.int)) from z)),by lia,by decide,fun d hd=>?_,fun as' ds' hP hperm hs m hm=>?_⟩
 ·obtain ⟨p,hp,rfl⟩:=List.mem_map.mp hd
  have:=ok.bd p hp
  refine ⟨rfl,fun x hx=>?_⟩
  rcases List.mem_cons.mp hx with z | z
  ·subst z; lia
  ·rw [List.mem_singleton] at z; subst z; lia
 ·have all2:∀ d ∈ ds',∃ p ∈ ps,d = [p.1,p.2]:=fun d hd=>by
   obtain ⟨p,hp,e⟩:=List.mem_map.mp (hperm.mem_iff.mp hd)
   exact ⟨p,hp,e.symm⟩
  let un:List Int → Int × Int:=fun d=>(d.getD 0 0,d.getD 1 0)
  have pm:(ds'.map un).Perm ps:=by
   have:=hperm.map un
   rw [List.map_map] at this
   rwa [show (un ∘ fun p:Int × Int=>[p.1,p.2]) = id from rfl,List.map_id] at this
  refine q as' (ds'.map un) ?_ ⟨pm,?_⟩ m hm
  ·have:=hP (fun a d=>∃ p:Int × Int,d = [p.1,p.2] ∧ kf H a p) (K0 (Paired.mapP pr fun a p z=>⟨p,rfl,z⟩))
   refine K0 (Paired.mapP this fun a d z=>?_)
   obtain ⟨p,rfl,z⟩:=z
   exact z
  ·have nd:((ds'.map un).map Prod.fst).Nodup:=(pm.map Prod.fst).nodup_iff.mpr ok.n1
   unfold List.Nodup at nd
   rw [List.pairwise_map,List.pairwise_map] at nd
   rw [List.pairwise_map]
   refine (hs.and nd).imp_of_mem fun {a b} ha hb z=>?_
   obtain ⟨p,hp,rfl⟩:=all2 a ha
   obtain ⟨p',hp',rfl⟩:=all2 b hb
   obtain ⟨z1,z2⟩:=z
   have z2:p.1 ≠ p'.1:=z2
   show p.1 < p'.1
   have b1:=ok.bd p hp
   have b2:=ok.bd p' hp'
   have z1:p.1 * 1000 ^ 1 + (p.2 * 1000 ^ 0 + 0) ≤ p'.1 * 1000 ^ 1 + (p'.2 * 1000 ^ 0 + 0):=z1
   lia
theorem B3 {H H':Hp} {l:Addr} (s:j7 H H') (h:H' l = none):H l = none:=by
 cases e:H l with
 | none=>rfl
 | some u=>rw [s _ _ e] at h; cases h
def W1 (G:Hp) (fs:List Addr) (f:Nat → Prs):Prop:=∀ (i:Nat) (fa:Addr),fs[i]? = some fa → F4 G fa (f i)
theorem W1.same {G G':Hp} {fs:List Addr} {f:Nat → Prs} (h:W1 G fs f) (s:j7 G G'):W1 G' fs f:=fun i fa e=>(h i fa e).same s
theorem z9 {G:Hp} {fa:Addr} {xs:List V} {o:HO} (e:G fa = some (.lst xs)) (a:Addr) (zs:List V) (z:G a = some (.tup zs)):upd G fa o a = some (.tup zs):=by
 rw [g7 (fun y=>by rw [y,e] at z; cases z)]
 exact z
theorem W1.off {G:Hp} {fs:List Addr} {f:Nat → Prs} {fa:Addr} {xs:List V} {o:HO} (h:W1 G fs f) (hn:fa ∉ fs) (e:G fa = some (.lst xs)):W1 (upd G fa o) fs f:=fun i x hx=>by
 obtain ⟨as,e',p⟩:=h i x hx
 have ne:x ≠ fa:=fun z=>hn (by rw [← z]; exact List.mem_of_getElem? hx)
 exact ⟨as,by rw [g7 ne]; exact e',p.mono (z9 e)⟩
theorem W1.add {G:Hp} {fs:List Addr} {f:Nat → Prs} {fa t:Addr} {as:List Addr} {i:Nat} {p:Int × Int} (h:W1 G fs f) (nd:fs.Nodup) (hi:fs[i]? = some fa) (e:G fa = some (.lst (as.map V.ref))) (pr:F1 G as (f i)) (ht:kf G t p) :
  W1 (upd G fa (.lst (as.map V.ref ++ [.ref t]))) fs (fun j=>if j = i then f j ++ [p] else f j):=fun j x hx=>by
 by_cases c:j = i
 ·subst c
  rw [hi] at hx
  cases hx
  dsimp only
  rw [if_pos rfl]
  exact ⟨as ++ [t],by rw [d4,List.map_append]; rfl,(pr.mono (z9 e)).snoc (z9 e _ _ ht)⟩
 ·dsimp only
  rw [if_neg c]
  obtain ⟨as',e',p'⟩:=h j x hx
  refine ⟨as',?_,p'.mono (z9 e)⟩
  rw [g7 ?_]
  ·exact e'
  ·intro z
   subst z
   obtain ⟨h1,h2⟩:=List.getElem?_eq_some_iff.mp hx
   obtain ⟨h3,h4⟩:=List.getElem?_eq_some_iff.mp hi
   have e1:=nd.idxOf_getElem j h1
   have e2:=nd.idxOf_getElem i h3
   rw [h2] at e1
   rw [h4] at e2
   lia
theorem aa {n:Nat} {v:Option V} {H:Hp} {Q:VK} (hn:n ≤ sizeLine)
  (q:∀ (fs:List Addr) (p:Addr) (G:Hp),fs.length = n → fs.Nodup → (∀ a ∈ fs,H a = none ∧ G a = some (.lst [])) → j7 H G → H p = none → p ∉ fs → G p = some (.lst (fs.map V.ref)) → Q (.ref p) G):W4 (Itr 0 n) (o8 0) oY (qR fc) Q [v] H:=by
 refine bE (fun i acc σ G=>j7 H G ∧ (∃ fs:List Addr,acc = fs.map V.ref ∧ fs.length = i ∧ fs.Nodup ∧ ∀ a ∈ fs,H a = none ∧ G a = some (.lst [])) ∧ ∃ v,σ = [v]) ⟨j7.refl _,⟨[],rfl,rfl,List.nodup_nil,fun a h=>by cases h⟩,_,rfl⟩ hn ?_ ?_ ?_
 ·rintro i acc σ G ⟨_,⟨fs,rfl,hl,_⟩,_⟩
  rw [List.length_map]
  exact Nat.le_of_eq hl
 ·rintro i acc σ G hi ⟨s,⟨fs,rfl,hl,nd,hf⟩,v,rfl⟩
  refine ⟨(by show 0 ≤ sizeLine; decide),fun p hp=>?_⟩
  have s1:=g6 hp (.lst [])
  refine ⟨s.trans s1,⟨fs ++ [p],by rw [List.map_append]; rfl,by rw [List.length_append,hl]; rfl,?_,fun a ha=>?_⟩,_,rfl⟩
  ·rw [List.nodup_append]
   exact ⟨nd,by simp,fun a ha b hb=>by rw [List.mem_singleton] at hb; rw [hb]; exact fun z=>by rw [z] at ha; rw [(hf p ha).2] at hp; cases hp⟩
  ·rcases List.mem_append.mp ha with z | z
   ·exact ⟨(hf a z).1,s1 _ _ (hf a z).2⟩
   ·rw [List.mem_singleton] at z
    rw [z]
    exact ⟨B3 s hp,d4⟩
 ·rintro acc σ G ⟨s,⟨fs,rfl,hl,nd,hf⟩,v,rfl⟩ p hp
  have s1:=g6 hp (.lst (fs.map V.ref))
  exact q fs p _ hl nd (fun a ha=>⟨(hf a ha).1,s1 _ _ (hf a ha).2⟩) (s.trans s1) (B3 s hp) (fun z=>by rw [(hf p z).2] at hp; cases hp) d4
theorem V2 {K:PySem.W.Frag} {a:Addr} {as:List Addr} {te:TE} {v:Option V} {σ:L2.St} {H:Hp} {Q:VK} (R:Hp → Nat → Addr → Prop) (mono:∀ G G' k x,j7 G G' → R G k x → R G' k x) (hl:H a = some (.lst (as.map V.ref))) (hz:as.length ≤ sizeLine)
  (step:∀ (i:Nat) (x:Addr) (G:Hp),as[i]? = some x → j7 H G → ∀ Q':VK,(∀ y G',j7 G G' → R G' i y → Q' (.ref y) G') → te (some (.ref x) :: σ) G Q')
  (q:∀ (ms:List Addr) (p:Addr) (G:Hp),ms.length = as.length → (∀ k x,ms[k]? = some x → R G k x) → j7 H G → H p = none → G p = some (.lst (ms.map V.ref)) → Q (.ref p) G):W4 (Itl K a) (o8 0) oY te Q (v :: σ) H:=by
 refine C8 (xs:=as.map V.ref) (fun i acc σ' G=>j7 H G ∧ (∃ ms:List Addr,acc = ms.map V.ref ∧ ms.length = i ∧ ∀ k x,ms[k]? = some x → R G k x) ∧ ∃ v,σ' = v :: σ) ⟨j7.refl _,⟨[],rfl,rfl,fun k x h=>by cases h⟩,_,rfl⟩ ?_ ?_ ?_ ?_ ?_
 ·rw [List.length_map]; exact hz
 ·rintro i acc σ' G ⟨_,⟨ms,rfl,hl,_⟩,_⟩
  rw [List.length_map]
  exact Nat.le_of_eq hl
 ·rintro i acc σ' G _ ⟨s,_⟩
  exact SqL.of (s _ _ hl)
 ·rintro i x acc σ' G hx ⟨s,⟨ms,rfl,hl,hR⟩,v,rfl⟩
  rw [List.getElem?_map] at hx
  obtain ⟨x,hx',rfl⟩:=Option.map_eq_some_iff.mp hx
  refine step i x G hx' s _ fun y G' s' hy=>?_
  refine ⟨s.trans s',⟨ms ++ [y],by rw [List.map_append]; rfl,by rw [List.length_append,hl]; rfl,fun k z hz=>?_⟩,_,rfl⟩
  by_cases c:k < ms.length
  ·rw [List.getElem?_append_left c] at hz
   exact mono _ _ _ _ s' (hR k z hz)
  ·rw [List.getElem?_append_right (by lia)] at hz
   have e:k = i:=by
    have:=(List.getElem?_eq_some_iff.mp hz).1
    simp at this
    lia
   subst e
   rw [show k - ms.length = 0 by lia] at hz
   cases hz
   exact hy
 ·rintro acc σ' G ⟨s,⟨ms,rfl,hl,hR⟩,v,rfl⟩ p hp
  rw [List.length_map] at hl
  have s1:=g6 hp (.lst (ms.map V.ref))
  exact q ms p _ hl (fun k x h=>mono _ _ _ _ s1 (hR k x h)) (s.trans s1) (B3 s hp) d4
theorem kq:∀ {l xs:List Int},l.Nodup → (∀ c ∈ l,c ∈ xs) → l.length ≤ xs.length
 | [],_,_,_=>Nat.zero_le _
 | a :: t,xs,nd,sub=>by
  rw [List.nodup_cons] at nd
  have h1:∀ c ∈ t,c ∈ xs.erase a:=fun c hc=>(List.mem_erase_of_ne fun z=>nd.1 (by rw [← z]; exact hc)).mpr (sub c (List.mem_cons_of_mem _ hc))
  have h2:=kq nd.2 h1
  have ha:=sub a List.mem_cons_self
  rw [List.length_erase_of_mem ha] at h2
  have h3:=List.length_pos_of_mem ha
  rw [List.length_cons]
  lia
theorem cw {S:Int} (s2:2 ≤ S) (g:Int × Int → Int) (ps:Prs) (nd:(ps.map g).Nodup) (r:Int):(((ps.map fun p=>g p / S).count r:Nat):Int) ≤ S:=by
 have h1:(ps.map fun p=>g p / S).count r = ((ps.filter fun p=>decide (g p / S = r)).map fun p=>g p % S).length:=by
  rw [List.length_map,List.count_eq_countP,List.countP_map,List.countP_eq_length_filter]
  congr 1
 have h2:((ps.filter fun p=>decide (g p / S = r)).map fun p=>g p % S).Nodup:=by
  unfold List.Nodup at nd ⊢
  rw [List.pairwise_map] at nd
  rw [List.pairwise_map,List.pairwise_filter]
  exact nd.imp fun {t u} z h1 h2 e=>z (aF ((of_decide_eq_true h1).trans (of_decide_eq_true h2).symm) e)
 have h3:=kq (xs:=(List.range S.toNat).map fun (i:Nat)=>(i:Int)) h2 fun c hc=>by
  obtain ⟨p,_,rfl⟩:=List.mem_map.mp hc
  have:=cY s2 (g p)
  exact List.mem_map.mpr ⟨(g p % S).toNat,by rw [List.mem_range]; lia,by lia⟩
 rw [List.length_map (as:=List.range S.toNat),List.length_range] at h3
 rw [h1]
 lia
theorem qT {S:Int} {ps:Prs} {ns:List Int} (hl:ns.length = ps.length) (hN:Num (RI 0 (ps.map fun p=>(p.1 / S,p.2 / S))) (RI 1 (ps.map fun p=>(p.1 / S,p.2 / S))) (ps.map fun p=>(p.1 / S,p.2 / S)).length (nuL ns)) (hb:∀ i,i < (ps.map fun p=>(p.1 / S,p.2 / S)).length → 0 ≤ nuL ns i ∧ nuL ns i < S):lY S (ps.zip ns):=by
 rw [List.length_map] at hN hb
 have at_:∀ i (h:i < (ps.zip ns).length),(ps.zip ns)[i].2 = nuL ns i ∧ RI 0 (ps.map fun p=>(p.1 / S,p.2 / S)) i = (ps.zip ns)[i].1.1 / S ∧ RI 1 (ps.map fun p=>(p.1 / S,p.2 / S)) i = (ps.zip ns)[i].1.2 / S:=fun i h=>by
  rw [List.length_zip] at h
  have h1:i < ps.length:=by lia
  have h2:i < ns.length:=by lia
  have e:(ps.map fun p=>(p.1 / S,p.2 / S))[i]? = some (ps[i].1 / S,ps[i].2 / S):=by rw [List.getElem?_map,List.getElem?_eq_getElem h1]; rfl
  refine ⟨?_,?_,?_⟩
  ·rw [List.getElem_zip]
   simp [nuL,h2]
  ·rw [S7 e,List.getElem_zip]
   rfl
  ·rw [S7 e,List.getElem_zip]
   rfl
 refine ⟨fun t ht=>?_,List.pairwise_iff_getElem.mpr fun i j hi hj hij e=>?_⟩
 ·obtain ⟨i,hi,rfl⟩:=List.mem_iff_getElem.mp ht
  rw [(at_ i hi).1]
  rw [List.length_zip] at hi
  exact hb i (by lia)
 ·obtain ⟨a1,a2,a3⟩:=at_ i hi
  obtain ⟨b1,b2,b3⟩:=at_ j hj
  rw [List.length_zip] at hi hj
  rw [a1,b1] at e
  refine ⟨fun z=>?_,fun z=>?_⟩
  ·have:=hN.p0 i j (by lia) (by lia) e (by rw [a2,b2]; exact z)
   lia
  ·have:=hN.p1 i j (by lia) (by lia) e (by rw [a3,b3]; exact z)
   lia
structure Lay (H:Hp) (fl ll wl nl:Addr) (fs ls ws:List Addr):Prop where
 n1:fs.Nodup
 n2:ls.Nodup
 n3:ws.Nodup
 a12:∀ a,a ∈ fs → a ∉ ls
 a13:∀ a,a ∈ fs → a ∉ ws
 a23:∀ a,a ∈ ls → a ∉ ws
 fr:∀ a,a ∈ fs ∨ a ∈ ls ∨ a ∈ ws → H a = none ∧ a ≠ fl ∧ a ≠ ll ∧ a ≠ wl ∧ a ≠ nl
structure Pot (H G:Hp) (fl ll wl nl:Addr) (fs ls ws:List Addr) (ns:List Int) (f g h:Nat → Prs):Prop where
 same:j7 H G
 efl:G fl = some (.lst (fs.map V.ref))
 ell:G ll = some (.lst (ls.map V.ref))
 ewl:G wl = some (.lst (ws.map V.ref))
 enl:G nl = some (.lst (ns.map V.int))
 b1:W1 G fs f
 b2:W1 G ls g
 b3:W1 G ws h
section
variable {H G G':Hp} {fl ll wl nl:Addr} {fs ls ws:List Addr} {ns:List Int} {f g h:Nat → Prs}
theorem Pot.sm (P:Pot H G fl ll wl nl fs ls ws ns f g h) (s:j7 G G'):Pot H G' fl ll wl nl fs ls ws ns f g h:=⟨P.same.trans s,s _ _ P.efl,s _ _ P.ell,s _ _ P.ewl,s _ _ P.enl,P.b1.same s,P.b2.same s,P.b3.same s⟩
theorem Pot.up {fa:Addr} {o:HO} (P:Pot H G fl ll wl nl fs ls ws ns f g h) (hf:H fa = none ∧ fa ≠ fl ∧ fa ≠ ll ∧ fa ≠ wl ∧ fa ≠ nl) {f' g' h':Nat → Prs} (b1:W1 (upd G fa o) fs f') (b2:W1 (upd G fa o) ls g') (b3:W1 (upd G fa o) ws h'):Pot H (upd G fa o) fl ll wl nl fs ls ws ns f' g' h' :=
 ⟨(fun b u z=>by rw [g7 (i4 z hf.1)]; exact P.same b u z),by rw [g7 hf.2.1.symm]; exact P.efl,by rw [g7 hf.2.2.1.symm]; exact P.ell,by rw [g7 hf.2.2.2.1.symm]; exact P.ewl,by rw [g7 hf.2.2.2.2.symm]; exact P.enl,b1,b2,b3⟩
theorem Pot.add1 (P:Pot H G fl ll wl nl fs ls ws ns f g h) (Ly:Lay H fl ll wl nl fs ls ws) {i:Nat} {fa:Addr} (hi:fs[i]? = some fa):∃ as:List Addr,G fa = some (.lst (as.map V.ref)) ∧ as.length = (f i).length ∧ ∀ (t:Addr) (p:Int × Int),kf G t p → Pot H (upd G fa (.lst (as.map V.ref ++ [.ref t]))) fl ll wl nl fs ls ws ns (fun j=>if j = i then f j ++ [p] else f j) g h:=by
 obtain ⟨as,e,pr⟩:=P.b1 i fa hi
 have hm:=List.mem_of_getElem? hi
 exact ⟨as,e,Paired.length pr,fun t p ht=>P.up (Ly.fr fa (.inl hm)) (P.b1.add Ly.n1 hi e pr ht) (P.b2.off (Ly.a12 fa hm) e) (P.b3.off (Ly.a13 fa hm) e)⟩
theorem Pot.add2 (P:Pot H G fl ll wl nl fs ls ws ns f g h) (Ly:Lay H fl ll wl nl fs ls ws) {i:Nat} {fa:Addr} (hi:ls[i]? = some fa):∃ as:List Addr,G fa = some (.lst (as.map V.ref)) ∧ as.length = (g i).length ∧ ∀ (t:Addr) (p:Int × Int),kf G t p → Pot H (upd G fa (.lst (as.map V.ref ++ [.ref t]))) fl ll wl nl fs ls ws ns f (fun j=>if j = i then g j ++ [p] else g j) h:=by
 obtain ⟨as,e,pr⟩:=P.b2 i fa hi
 have hm:=List.mem_of_getElem? hi
 exact ⟨as,e,Paired.length pr,fun t p ht=>P.up (Ly.fr fa (.inr (.inl hm))) (P.b1.off (fun z=>Ly.a12 fa z hm) e) (P.b2.add Ly.n2 hi e pr ht) (P.b3.off (Ly.a23 fa hm) e)⟩
theorem Pot.add3 (P:Pot H G fl ll wl nl fs ls ws ns f g h) (Ly:Lay H fl ll wl nl fs ls ws) {i:Nat} {fa:Addr} (hi:ws[i]? = some fa):∃ as:List Addr,G fa = some (.lst (as.map V.ref)) ∧ as.length = (h i).length ∧ ∀ (t:Addr) (p:Int × Int),kf G t p → Pot H (upd G fa (.lst (as.map V.ref ++ [.ref t]))) fl ll wl nl fs ls ws ns f g (fun j=>if j = i then h j ++ [p] else h j):=by
 obtain ⟨as,e,pr⟩:=P.b3 i fa hi
 have hm:=List.mem_of_getElem? hi
 exact ⟨as,e,Paired.length pr,fun t p ht=>P.up (Ly.fr fa (.inr (.inr hm))) (P.b1.off (fun z=>Ly.a13 fa z hm) e) (P.b2.off (fun z=>Ly.a23 fa z hm) e) (P.b3.add Ly.n3 hi e pr ht)⟩
end
theorem lR {α:Type} {ts:List α} {t:α} {v:α → Int} {f:α → Int × Int} {i:Nat} (hv:v t = (i:Int)):(fun j:Nat=>if j = i then ((ts.filter fun t=>decide (v t = (j:Int))).map f) ++ [f t] else (ts.filter fun t=>decide (v t = (j:Int))).map f) = fun j:Nat=>((ts ++ [t]).filter fun t=>decide (v t = (j:Int))).map f:=by
 funext j
 rw [nW]
 by_cases c:j = i
 ·subst c
  rw [if_pos rfl,if_pos (decide_eq_true hv)]
 ·rw [if_neg c,if_neg (fun z=>c ?_),List.append_nil]
  have:=of_decide_eq_true z
  lia
theorem dE {α:Type} (ts:List α) (p:α → Bool) (f:α → Int × Int):((ts.filter p).map f).length ≤ ts.length:=by
 rw [List.length_map]
 exact List.length_filter_le _ _
def dA:Sp:=fun vs H Q _=>∃ L S D:Int,vs = [.int L,.int S,.int D] ∧ ∀ b:Bool,(b = true ↔ D = 0 ∨ L ≤ S) → Q (.bl b) H
def W0:Sp:=fun vs H Q _=>∃ L S:Int,vs = [.int L,.int S] ∧ 2 ≤ S ∧ S ≤ 8 ∧ Q (.int ((L + S - 1) / S)) H
def mW (n:Nat):Sp:=fun vs H Q _=>∃ (L S:Int) (d:Nat) (l:Addr) (ps:Prs),vs = [.int L,.int S,.ref l,.int (d:Nat)] ∧ d ≤ n ∧ (0 ≤ L ∧ L ≤ 64) ∧ (2 ≤ S ∧ S ≤ 8) ∧ F4 H l ps ∧ ps.length ≤ 60 ∧ p5 L ps ∧ ∀ (a:Addr) (H':Hp),j7 H H' → x5 H' S d L ps a → Q (.ref a) H'
def qQ (n:Nat):Sp:=fun vs H Q _=>∃ (L S:Int) (d:Nat) (l:Addr) (ps:Prs),vs = [.int L,.int S,.ref l,.int (d + 1:Nat)] ∧ d ≤ n ∧ (0 ≤ L ∧ L ≤ 64) ∧ (2 ≤ S ∧ S ≤ 8) ∧ ¬ L ≤ S ∧ F4 H l ps ∧ ps.length ≤ 60 ∧ p5 L ps ∧ ∀ (a:Addr) (H':Hp),j7 H H' → x5 H' S (d + 1) L ps a → Q (.ref a) H'
theorem fm {L S:Int} (s2:2 ≤ S) (l0:0 ≤ L) (l64:L ≤ 64):0 ≤ (L + S - 1) / S ∧ (L + S - 1) / S ≤ 64:=by
 refine ⟨Int.ediv_nonneg (by lia) (by lia),?_⟩
 have:(L + S - 1) / S < 65:=Int.ediv_lt_of_lt_mul (by lia) (by lia)
 lia
section
variable {P:Program} {w:World} {K:PySem.W.Frag} {mg:Str → Option Value} {base:Heap}
theorem fK:FnScope ["lines","small","depth"] ["lines","small","depth"] (d7 (top 27)):=⟨rfl,rfl,rfl,by decide +kernel,rfl,by decide +kernel,by decide +kernel⟩
theorem lM (T:Txt K mg) (D:Def K mg "is_plain" (top 27) ["lines","small","depth"]):h9 P w K mg base 1 "is_plain" ["lines","small","depth"] dA:=by
 refine D.ok fK (fun vs H Q E h=>?_) (fun f cdv A outer s H vs Q E hr h=>?_)
 ·obtain ⟨L,S,D,rfl,_⟩:=h
  rfl
 obtain ⟨L,S,D,rfl,q⟩:=h
 refine ⟨_,(d9 (i9 (qX (Y4 E3 (pv 2) b9 (j8 _)) (Z5 (Y4 dQ (pv 0) (pv 1) (j8 _)))))),?_⟩
 refine ⟨_,rfl,rfl,_,rfl,?_⟩
 refine E9 (fun c=>?_) (fun c=>?_)
 ·have c':D = 0:=V.int.inj (of_decide_eq_true c)
  exact q true ⟨fun _=>.inl c',fun _=>rfl⟩
 ·have c':D ≠ 0:=fun z=>c (decide_eq_true (by rw [z]))
  refine ⟨_,rfl,_,rfl,_,_,rfl,rfl,q _ ⟨fun z=>.inr (of_decide_eq_true z),fun z=>decide_eq_true (z.resolve_left c')⟩⟩
theorem dC:FnScope ["lines","small"] ["lines","small"] (d7 (top 28)):=⟨rfl,rfl,rfl,by decide +kernel,rfl,by decide +kernel,by decide +kernel⟩
theorem mE (T:Txt K mg) (D:Def K mg "racks_for" (top 28) ["lines","small"]):h9 P w K mg base 1 "racks_for" ["lines","small"] W0:=by
 refine D.ok dC (fun vs H Q E h=>?_) (fun f cdv A outer s H vs Q E hr h=>?_)
 ·obtain ⟨L,S,rfl,_⟩:=h
  rfl
 obtain ⟨L,S,rfl,s2,s8,q⟩:=h
 refine ⟨_,(d9 (i9 (i0 n5 (i0 S6 (i0 p8 (pv 0) (pv 1)) b9) (pv 1)))),?_⟩
 exact ⟨_,rfl,_,rfl,_,_,rfl,rfl,_,_,rfl,rfl,_,rfl,_,_,rfl,rfl,⟨by lia,by lia⟩,q⟩
theorem M4 {x:Str} {st:Stmt} {ps:List Str} (D:Def K mg x st ps) (k:Nat):L2.h9 P w K mg base k x ps (fun _ _ _ _=>False):=by
 obtain ⟨f,fd,F,b,m⟩:=D.ex
 exact ⟨f,fd,⟨fun _ _ _ _ h=>h.elim,fun _ _ _ _ _ _ _ _ _ _ _ _ _ h=>h.elim⟩,b,F.kp,m⟩
theorem bK:FnScope ["lines","small","turns","depth"] ["lines","small","turns","depth"] (d7 (top 30)):=⟨rfl,rfl,rfl,by decide +kernel,rfl,by decide +kernel,by decide +kernel⟩
theorem ii (T:Txt K mg) (n k:Nat) (hk:1 ≤ k) (sp:Sp) (C_is_plain:h9 P w K mg base 1 "is_plain" ["lines","small","depth"] dA) (C_hall_nest:h9 P w K mg base k "hall_nest" ["lines","small","turns","depth"] sp) (D:Def K mg "right_nest" (top 30) ["lines","small","turns","depth"]) (hsp:∀ m,n = m + 1 → sp = qQ m):h9 P w K mg base (k+1) "right_nest" ["lines","small","turns","depth"] (mW n):=by
 refine D.ok bK (fun vs H Q E h=>?_) (fun f cdv A outer s H vs Q E hr h=>?_)
 ·obtain ⟨L,S,d,l,ps,rfl,_⟩:=h
  rfl
 obtain ⟨L,S,d,l,ps,rfl,hd,hL,hS,hb,few,ok,q⟩:=h
 refine ⟨_,(d5 (p4 (p7 K (m4 C_is_plain hr rfl (b7 (pv 0) (b7 (pv 1) (b7 (pv 3) d6 b8) b8) b8) (by lia)) (fun _=>rfl)) (d9 (i9 (w4 (b7 M9 (b7 (pv 0) (b7 (i8 (O4 K) rfl T.m_sorted boot_sorted (b7 (pv 2) d6 b8)) d6 w6) b8) m7)))) j9)
  (d9 (i9 (m4 C_hall_nest hr rfl (b7 (pv 0) (b7 (pv 1) (b7 (pv 2) (b7 (pv 3) d6 b8) b8) b8) b8) (by lia))))),?_⟩
 refine ⟨_,rfl,_,rfl,_,rfl,L,S,_,rfl,fun b hb'=>⟨_,rfl,?_⟩⟩
 by_cases c:d = 0 ∨ L ≤ S
 ·obtain rfl:b = true:=hb'.mpr (by lia)
  refine V8 ⟨_,rfl,_,rfl,?_⟩
  dsimp only [fc]
  refine be (K:=K) hb (by lia) ok (by lia) fun as' bs pr so m hm=>?_
  have s1:=g6 hm (.lst (as'.map V.ref))
  refine ⟨(by show 3 ≤ sizeLine; decide),fun t ht=>?_⟩
  have s2:=g6 ht (.tup [.str "rack",.int L,.ref m])
  have R:S4 (upd (upd H m (.lst (as'.map V.ref))) t (.tup [.str "rack",.int L,.ref m])) L ps t:=⟨m,bs,d4,⟨as',s2 _ _ d4,(pr.same s1).same s2⟩,so⟩
  refine q t _ (s1.trans s2) ?_
  match d,c with
  | 0,_=>exact R
  | d + 1,c=>exact .inl ⟨c.resolve_left (by lia),R⟩
 ·obtain rfl:b = false:=Bool.eq_false_iff.mpr fun z=>c (by have:=hb'.mp z; lia)
  match d,hd,c,q with
  | 0,_,c,_=>exact absurd (.inl rfl) c
  | d + 1,hd,c,q =>
   obtain ⟨m,rfl⟩:∃ m,n = m + 1:=⟨n - 1,by lia⟩
   obtain rfl:=hsp m rfl
   exact C2 ⟨_,rfl,_,rfl,_,rfl,_,rfl,L,S,d,l,ps,rfl,by lia,hL,hS,fun z=>c (.inr z),hb,few,ok,q⟩
theorem u5:FnScope ["lines","small","turns","depth","many","firsts","lasts","within","numbers","turn","k","start","goal","amids"] ["lines","small","turns","depth"] (d7 (top 29)):=⟨rfl,rfl,rfl,by decide +kernel,rfl,by decide +kernel,by decide +kernel⟩
theorem nh (T:Txt K mg) (n k:Nat) (hk:3 ≤ k) (C_racks_for:h9 P w K mg base 1 "racks_for" ["lines","small"] W0) (C_parted:h9 P w K mg base 3 "parted" ["pairs","ways"] bn) (C_right_nest:h9 P w K mg base k "right_nest" ["lines","small","turns","depth"] (mW n)) (D:Def K mg "hall_nest" (top 29) ["lines","small","turns","depth"]):h9 P w K mg base (k+1) "hall_nest" ["lines","small","turns","depth"] (qQ n):=by
 refine D.ok u5 (fun vs H Q E h=>?_) (fun f cdv A outer s H vs Q E hr h=>?_)
 ·obtain ⟨L,S,d,l,ps,rfl,_⟩:=h
  rfl
 obtain ⟨L,S,d,l,ps,rfl,hd,hL,hS,hLS,hb,few,ok,q⟩:=h
 refine ⟨_,(d5 (i6 (i:=4) u5.nd rfl (Or.inr rfl) (m4 C_racks_for hr rfl (b7 (pv 0) (b7 (pv 1) d6 b8) b8) (by lia)))
  (d5 (T5 (i:=5) (own:=["i"]) (fr:=[]) rfl u5.nd rfl rfl (show CompScope ["lines","small","turns","depth","many","firsts","lasts","within","numbers","turn","k","start","goal","amids"] (d7 (top 29)) _ _ _ from ⟨rfl,by decide +kernel,by decide +kernel,by decide +kernel,by decide +kernel⟩) (B4 rfl T.m_range (b7 (pv 4) d6 b8)) (fun cl C s H ex=>⟨(m6 (i:=0) (show (["i"]:List Str).Nodup from by decide +kernel) rfl (Or.inl rfl) (Or.inr rfl)),D7,(F8 d6)⟩) rfl)
  (d5 (T5 (i:=6) (own:=["j"]) (fr:=[]) rfl u5.nd rfl rfl (show CompScope ["lines","small","turns","depth","many","firsts","lasts","within","numbers","turn","k","start","goal","amids"] (d7 (top 29)) _ _ _ from ⟨rfl,by decide +kernel,by decide +kernel,by decide +kernel,by decide +kernel⟩) (B4 rfl T.m_range (b7 (pv 4) d6 b8)) (fun cl C s H ex=>⟨(m6 (i:=0) (show (["j"]:List Str).Nodup from by decide +kernel) rfl (Or.inl rfl) (Or.inr rfl)),D7,(F8 d6)⟩) rfl)
  (d5 (T5 (i:=7) (own:=["k"]) (fr:=[]) rfl u5.nd rfl rfl (show CompScope ["lines","small","turns","depth","many","firsts","lasts","within","numbers","turn","k","start","goal","amids"] (d7 (top 29)) _ _ _ from ⟨rfl,by decide +kernel,by decide +kernel,by decide +kernel,by decide +kernel⟩) (B4 rfl T.m_range (b7 (pv 1) d6 b8)) (fun cl C s H ex=>⟨(m6 (i:=0) (show (["k"]:List Str).Nodup from by decide +kernel) rfl (Or.inl rfl) (Or.inr rfl)),D7,(F8 d6)⟩) rfl)
  (d5 (i6 (i:=8) u5.nd rfl (Or.inl rfl) (m4 C_parted hr rfl (b7 (J6 (own:=["one","other"]) (fr:=[(1,"small")]) rfl (show CompScope ["lines","small","turns","depth","many","firsts","lasts","within","numbers","turn","k","start","goal","amids"] (d7 (top 29)) _ _ _ from ⟨rfl,by decide +kernel,by decide +kernel,by decide +kernel,by decide +kernel⟩) (o6 K (pv 2)) (fun cl C s H ex=>⟨(om K rfl (show (["one","other","small"]:List Str).Nodup from by decide +kernel) (Nm.mk (i:=0) rfl (Or.inl rfl) (Or.inr rfl)) (Nm.mk (i:=1) rfl (Or.inl rfl) (Or.inr rfl))),D7,(w4 (b7 (i0 n5 (pv 0) (pv 2)) (b7 (i0 n5 (pv 1) (pv 2)) d6 r6) r6))⟩)) (b7 (pv 1) d6 b8) M0) (by lia)))
  (d5 (w5 PassesOwn.never rfl (mO false K rfl T.m_zip (b7 (pv 2) (b7 (pv 8) d6 b8) b8)) (om K rfl u5.nd (Nm.mk (i:=9) rfl (Or.inl rfl) (Or.inl rfl)) (Nm.mk (i:=10) rfl (Or.inl rfl) (Or.inl rfl)))
  (d5 (i6 (i:=11) u5.nd rfl (Or.inl rfl) (i8 N7 rfl T.m_divmod boot_divmod (b7 (g9 (d8 K) (pv 9) b9 (fun _ _=>rfl)) (b7 (pv 1) d6 b8) m5)))
  (d5 (i6 (i:=12) u5.nd rfl (Or.inl rfl) (i8 N7 rfl T.m_divmod boot_divmod (b7 (g9 (d8 K) (pv 9) b9 (fun _ _=>rfl)) (b7 (pv 1) d6 b8) m5)))
  (d5 (y6 (N3 K PySem.F.plainAttrs_list PySem.F.slot_list_append PySem.F.type_list_append x9 (g9 (p9 K) (pv 5) (g9 (d8 K) (pv 11) b9 (fun _ _=>rfl)) (fun _ _=>rfl)) (b7 (w4 (b7 (g9 (d8 K) (pv 11) b9 (fun _ _=>rfl)) (b7 (pv 10) d6 b8) m5)) d6 S5)))
  (d5 (y6 (N3 K PySem.F.plainAttrs_list PySem.F.slot_list_append PySem.F.type_list_append x9 (g9 (p9 K) (pv 6) (g9 (d8 K) (pv 12) b9 (fun _ _=>rfl)) (fun _ _=>rfl)) (b7 (w4 (b7 (pv 10) (b7 (g9 (d8 K) (pv 12) b9 (fun _ _=>rfl)) d6 m5) b8)) d6 S5)))
  (d9 (y6 (N3 K PySem.F.plainAttrs_list PySem.F.slot_list_append PySem.F.type_list_append x9 (g9 (p9 K) (pv 7) (pv 10) (fun _ _=>rfl)) (b7 (w4 (b7 (g9 (d8 K) (pv 11) b9 (fun _ _=>rfl)) (b7 (g9 (d8 K) (pv 12) b9 (fun _ _=>rfl)) d6 m5) m5)) d6 S5)))))))))
  (d5 (T5 (i:=13) (own:=["some"]) (fr:=[(4,"many"),(1,"small"),(3,"depth")]) rfl u5.nd rfl rfl (show CompScope ["lines","small","turns","depth","many","firsts","lasts","within","numbers","turn","k","start","goal","amids"] (d7 (top 29)) _ _ _ from ⟨rfl,by decide +kernel,by decide +kernel,by decide +kernel,by decide +kernel⟩) (o6 K (pv 7)) (fun cl C s H ex=>⟨(m6 (i:=0) (show (["some","many","small","depth"]:List Str).Nodup from by decide +kernel) rfl (Or.inl rfl) (Or.inr rfl)),D7,(m4 C_right_nest hr rfl (b7 (pv 1) (b7 (pv 2) (b7 (pv 0) (b7 (i0 S6 (pv 3) b9) d6 r6) b8) b8) b8) (by lia))⟩) rfl)
  (d9 (i9 (w4 (b7 M9 (b7 (pv 0) (b7 (pv 1) (b7 (J6 (own:=["bars"]) (fr:=[]) rfl (show CompScope ["lines","small","turns","depth","many","firsts","lasts","within","numbers","turn","k","start","goal","amids"] (d7 (top 29)) _ _ _ from ⟨rfl,by decide +kernel,by decide +kernel,by decide +kernel,by decide +kernel⟩) (o6 K (pv 5)) (fun cl C s H ex=>⟨(m6 (i:=0) (show (["bars"]:List Str).Nodup from by decide +kernel) rfl (Or.inl rfl) (Or.inr rfl)),D7,(i8 (O4 K) rfl T.m_sorted boot_sorted (b7 (pv 0) d6 b8))⟩)) (b7 (pv 13) (b7 (J6 (own:=["bars"]) (fr:=[]) rfl (show CompScope ["lines","small","turns","depth","many","firsts","lasts","within","numbers","turn","k","start","goal","amids"] (d7 (top 29)) _ _ _ from ⟨rfl,by decide +kernel,by decide +kernel,by decide +kernel,by decide +kernel⟩) (o6 K (pv 6)) (fun cl C s H ex=>⟨(m6 (i:=0) (show (["bars"]:List Str).Nodup from by decide +kernel) rfl (Or.inl rfl) (Or.inr rfl)),D7,(i8 (O4 K) rfl T.m_sorted boot_sorted (b7 (pv 0) d6 b8))⟩)) d6 M0) b8) M0) b8) b8) m7))))))))))),?_⟩
 obtain ⟨m0,m64⟩:=fm hS.1 hL.1 hL.2
 refine ⟨_,rfl,_,rfl,L,S,rfl,hS.1,hS.2,?_⟩
 obtain ⟨m,hm⟩:=Int.eq_ofNat_of_zero_le m0
 rw [hm]
 dsimp only [o8,q9]
 refine ⟨_,rfl,_,rfl,by lia,by lia,?_⟩
 rw [Int.toNat_natCast]
 refine aa (Nat.le_trans (show m ≤ 64 by lia) (by decide)) fun fs fl G1 lf ndf hf s1 hfl nfl efl=>?_
 dsimp only [o8,q9]
 refine ⟨_,rfl,_,rfl,by lia,by lia,?_⟩
 rw [Int.toNat_natCast]
 refine aa (Nat.le_trans (show m ≤ 64 by lia) (by decide)) fun ls ll G2 lls ndl hlf s2 hll nll ell=>?_
 dsimp only [o8,q9]
 obtain ⟨z,hz⟩:=Int.eq_ofNat_of_zero_le (show 0 ≤ S by lia)
 refine ⟨_,rfl,_,rfl,by lia,by lia,?_⟩
 refine aa (Nat.le_trans (show S.toNat ≤ 64 by lia) (by decide)) fun ws wl G3 lw ndw hwf s3 hwl nwl ewl=>?_
 dsimp only [o8,q9]
 obtain ⟨as,el,pr⟩:=hb
 have ln:as.length = ps.length:=Paired.length pr
 have s13:=s1.trans (s2.trans s3)
 refine ⟨_,rfl,l,rfl,⟨_,SqL.of (s13 _ _ el)⟩,?_⟩
 refine C8 (xs:=as.map V.ref) (fun i acc σ G=>j7 G3 G ∧ (∃ qs:List Addr,acc = qs.map V.ref ∧ F1 G qs ((ps.take i).map fun p=>(p.1 / S,p.2 / S))) ∧ ∃ v0 v1,σ = [v0,v1,some (.int S)]) ⟨j7.refl _,⟨[],rfl,.nil⟩,_,_,rfl⟩ ?_ ?_ ?_ ?_ ?_
 ·rw [List.length_map,ln]; exact Nat.le_trans few (by decide)
 ·rintro i acc σ G ⟨_,⟨qs,rfl,p⟩,_⟩
  have:=Paired.length p
  rw [List.length_map,List.length_take] at this
  rw [List.length_map]
  lia
 ·rintro i acc σ G _ ⟨s,_⟩
  exact SqL.of (s _ _ (s13 _ _ el))
 ·rintro i x acc σ G hx ⟨s,⟨qs,rfl,pq⟩,v0,v1,rfl⟩
  rw [List.getElem?_map] at hx
  obtain ⟨x,hx',rfl⟩:=Option.map_eq_some_iff.mp hx
  obtain ⟨p,hp,ex⟩:=m9 pr i x hx'
  have ex3:G x = some (.tup [.int p.1,.int p.2]):=s _ _ (s13 _ _ ex)
  refine ⟨x,_,rfl,SqT.of ex3,rfl,_,_,rfl,_,_,rfl,rfl,?_⟩
  refine ⟨_,rfl,_,rfl,_,_,rfl,rfl,⟨by lia,by lia⟩,_,rfl,_,rfl,_,_,rfl,rfl,⟨by lia,by lia⟩,(by show 2 ≤ sizeLine; decide),fun t ht=>?_⟩
  have s4:=g6 ht (.tup [.int (p.1 / S),.int (p.2 / S)])
  refine ⟨s.trans s4,⟨qs ++ [t],by rw [List.map_append]; rfl,?_⟩,_,_,rfl⟩
  rw [List.take_succ,hp,Option.toList_some,List.map_append]
  exact (pq.same s4).snoc d4
 rintro acc σ G4 ⟨s4,⟨qs,rfl,pq⟩,v0,v1,rfl⟩ ql hql
 rw [List.length_map,ln,List.take_length] at pq
 have s5:=g6 hql (.lst (qs.map V.ref))
 have eql:=d4 (H:=G4) (a:=ql) (o:=.lst (qs.map V.ref))
 have pq5:=pq.same s5
 have s45:=s4.trans s5
 generalize upd G4 ql _ = G5 at s5 eql pq5 s45 ⊢
 clear s4 s5 pq hql
 refine ⟨_,rfl,ql,qs,_,S,rfl,eql,pq5,by rw [List.length_map]; exact few,fun side r hs=>?_,fun nl ns G6 s6 hnl enl hlen hN hbn=>?_⟩
 ·rcases hs with rfl | rfl
  ·have:=cw hS.1 Prod.fst ps ok.n1 r
   show ((((ps.map fun p=>(p.1 / S,p.2 / S)).map (sdI 0)).count r:Nat):Int) ≤ S
   rw [List.map_map]
   exact this
  ·have:=cw hS.1 Prod.snd ps ok.n2 r
   show ((((ps.map fun p=>(p.1 / S,p.2 / S)).map (sdI 1)).count r:Nat):Int) ≤ S
   rw [List.map_map]
   exact this
 rw [List.length_map] at hlen
 have NT:=qT hlen hN hbn
 dsimp only [o8,q9]
 have s26:j7 G2 G6:=s3.trans (s45.trans s6)
 have s16:j7 G1 G6:=s2.trans s26
 have Ly:Lay H fl ll wl nl fs ls ws:=by
  have k1:∀ a,a ∈ fs → G1 a = some (.lst []):=fun a h=>(hf a h).2
  have k2:∀ a,a ∈ ls → G1 a = none ∧ G2 a = some (.lst []):=fun a h=>hlf a h
  have k3:∀ a,a ∈ ws → G2 a = none ∧ G3 a = some (.lst []):=fun a h=>hwf a h
  have no:∀ {G:Hp} {a b:Addr} {u:HO},G a = none → G b = some u → a ≠ b:=fun h1 h2 z=>by rw [z,h2] at h1; cases h1
  refine ⟨ndf,ndl,ndw,fun a h1 h2=>?_,fun a h1 h2=>?_,fun a h1 h2=>?_,fun a h=>?_⟩
  ·exact no (k2 a h2).1 (k1 a h1) rfl
  ·exact no (k3 a h2).1 (s2 _ _ (k1 a h1)) rfl
  ·exact no (k3 a h2).1 (k2 a h1).2 rfl
  ·rcases h with h | h | h
   ·exact ⟨(hf a h).1,fun z=>nfl (z ▸ h),(no hll (k1 a h)).symm,(no hwl (s2 _ _ (k1 a h))).symm,(no hnl ((s3.trans s45) _ _ (s2 _ _ (k1 a h)))).symm⟩
   ·exact ⟨B3 s1 (k2 a h).1,no (k2 a h).1 efl,fun z=>nll (z ▸ h),(no hwl (k2 a h).2).symm,(no hnl ((s3.trans s45) _ _ (k2 a h).2)).symm⟩
   ·exact ⟨B3 (s1.trans s2) (k3 a h).1,no (k3 a h).1 (s2 _ _ efl),no (k3 a h).1 ell,fun z=>nwl (z ▸ h),(no hnl (s45 _ _ (k3 a h).2)).symm⟩
 have P0:Pot H G6 fl ll wl nl fs ls ws ns (A7 S []) (C9 S []) (C6 S []):=by
  refine ⟨s13.trans (s45.trans s6),s16 _ _ efl,s26 _ _ ell,(s45.trans s6) _ _ ewl,enl,fun i a h=>⟨[],?_,.nil⟩,fun i a h=>⟨[],?_,.nil⟩,fun i a h=>⟨[],?_,.nil⟩⟩
  ·exact s16 _ _ (hf a (List.mem_of_getElem? h)).2
  ·exact s26 _ _ (hlf a (List.mem_of_getElem? h)).2
  ·exact (s45.trans s6) _ _ (hwf a (List.mem_of_getElem? h)).2
 have lz:(ps.zip ns).length = ps.length:=by rw [List.length_zip,hlen,Nat.min_self]
 have mz:(ps.zip ns).map Prod.fst = ps:=List.map_fst_zip (by lia)
 clear hf hlf hwf efl ell ewl enl s6 s45 s3 s2 s1 hN hbn nfl nll nwl hfl hll hwl hnl s26 s16 eql pq5
 refine A9 (fun σ G=>∃ v9 v10 v11 v12,Pot H G fl ll wl nl fs ls ws ns (A7 S (ps.zip ns)) (C9 S (ps.zip ns)) (C6 S (ps.zip ns)) ∧ σ = [some (.int L),some (.int S),some (.ref l),some (.int ((d + 1:Nat):Int)),some (.int ((m:Nat):Int)),some (.ref fl),some (.ref ll),some (.ref wl),some (.ref nl),v9,v10,v11,v12,none]) (fun R rest=>?_) ?_
 ·refine ⟨_,rfl,_,rfl,l,nl,_,_,rfl,SqL.of (P0.same _ _ el),SqL.of P0.enl,?_⟩
  refine nN (b:=false) (xs:=as.map V.ref) (ys:=ns.map V.int) (fun i σ G=>∃ v9 v10 v11 v12,Pot H G fl ll wl nl fs ls ws ns (A7 S ((ps.zip ns).take i)) (C9 S ((ps.zip ns).take i)) (C6 S ((ps.zip ns).take i)) ∧ σ = [some (.int L),some (.int S),some (.ref l),some (.int ((d + 1:Nat):Int)),some (.int ((m:Nat):Int)),some (.ref fl),some (.ref ll),some (.ref wl),some (.ref nl),v9,v10,v11,v12,none]) (by rw [List.length_map,List.length_map]; lia) ⟨_,_,_,_,P0,rfl⟩ ?_ ?_ ?_
  ·rintro i σ G _ ⟨_,_,_,_,P,_⟩
   exact ⟨SqL.of (P.same _ _ el),SqL.of P.enl⟩
  ·rintro i x y σ G p hx hy ⟨v9,v10,v11,v12,P,rfl⟩ hp
   rw [List.getElem?_map] at hx hy
   obtain ⟨a,ha,rfl⟩:=Option.map_eq_some_iff.mp hx
   obtain ⟨kk,hkk,rfl⟩:=Option.map_eq_some_iff.mp hy
   obtain ⟨q2,hq,ea⟩:=m9 pr i a ha
   have hti:(ps.zip ns)[i]? = some (q2,kk):=by rw [List.getElem?_zip_eq_some]; exact ⟨hq,hkk⟩
   have bq:=ok.bd q2 (List.mem_of_getElem? hq)
   have bk:=NT.bd _ (List.mem_of_getElem? hti)
   have bk:0 ≤ kk ∧ kk < S:=bk
   obtain ⟨x0,x1⟩:=K7 hS.1 bq.1.1 bq.1.2
   obtain ⟨y0,y1⟩:=K7 hS.1 bq.2.1 bq.2.2
   obtain ⟨i1,hi1⟩:=Int.eq_ofNat_of_zero_le x0
   obtain ⟨i2,hi2⟩:=Int.eq_ofNat_of_zero_le y0
   obtain ⟨i3,hi3⟩:=Int.eq_ofNat_of_zero_le bk.1
   have l1:i1 < fs.length:=by lia
   have l2:i2 < ls.length:=by lia
   have l3:i3 < ws.length:=by lia
   have at_:∀ (zs:List Addr) (i:Nat) (h:i < zs.length),atI (zs.map V.ref) (i:Int) = some (.ref zs[i]):=fun zs i h=>C0 (by rw [List.getElem?_map,List.getElem?_eq_getElem h]; rfl)
   have P1:=P.sm (g6 hp (.tup [.ref a,.int kk]))
   have ep:=d4 (H:=G) (a:=p) (o:=.tup [.ref a,.int kk])
   refine ⟨p,_,rfl,SqT.of ep,rfl,_,_,rfl,_,_,rfl,rfl,?_⟩
   generalize upd G p _ = G1 at P1 ep ⊢
   have ea1:G1 a = some (.tup [.int q2.1,.int q2.2]):=P1.same _ _ ea
   refine ⟨_,rfl,a,_,_,_,rfl,rfl,SqT.of ea1,rfl,_,rfl,_,_,rfl,⟨by lia,by lia⟩,fun t1 ht1=>?_⟩
   have P2:=P1.sm (g6 ht1 (.tup [.int (q2.1 / S),.int (q2.1 % S)]))
   have e1:=d4 (H:=G1) (a:=t1) (o:=.tup [.int (q2.1 / S),.int (q2.1 % S)])
   dsimp only [o8,q9]
   generalize upd G1 t1 _ = G2 at P2 e1 ⊢
   have ea2:G2 a = some (.tup [.int q2.1,.int q2.2]):=P2.same _ _ ea
   refine ⟨_,rfl,a,_,_,_,rfl,rfl,SqT.of ea2,rfl,_,rfl,_,_,rfl,⟨by lia,by lia⟩,fun t2 ht2=>?_⟩
   have sq:=g6 ht2 (.tup [.int (q2.2 / S),.int (q2.2 % S)])
   have P3:=P2.sm sq
   have e13:=sq _ _ e1
   have e2:=d4 (H:=G2) (a:=t2) (o:=.tup [.int (q2.2 / S),.int (q2.2 % S)])
   dsimp only [o8,q9]
   generalize upd G2 t2 _ = G3 at P3 e13 e2 ⊢
   rw [hi1] at e13
   rw [hi2] at e2
   clear P1 P2 e1 ea1 ea2 ep P sq ht1 ht2 hp
   obtain ⟨as1,g1,ln1,add1⟩:=P3.add1 Ly (List.getElem?_eq_getElem l1)
   refine ⟨_,rfl,_,rfl,t1,_,_,_,rfl,rfl,SqT.of e13,rfl,fl,_,_,_,rfl,rfl,SqL.of P3.efl,at_ fs i1 l1,.inl ⟨rfl,_,SqL.of g1⟩,_,rfl,t1,_,_,_,rfl,rfl,SqT.of e13,rfl,_,rfl,(by show 2 ≤ sizeLine; decide),fun b1 hb1=>?_⟩
   have sb:=g6 hb1 (.tup [.int (q2.1 % S),.int kk])
   have P4:=P3.sm sb
   have e14:=sb _ _ e13
   have e24:=sb _ _ e2
   have eb:=d4 (H:=G3) (a:=b1) (o:=.tup [.int (q2.1 % S),.int kk])
   generalize upd G3 b1 _ = G4 at P4 e14 e24 eb ⊢
   clear P3 add1 g1 e13 e2 sb hb1
   obtain ⟨as2,g2,ln2,add2⟩:=P4.add1 Ly (List.getElem?_eq_getElem l1)
   have small:∀ (as:List Addr) (v:(Int × Int) × Int → Int) (f:(Int × Int) × Int → Int × Int) (j:Nat),as.length = ((((ps.zip ns).take i).filter fun t=>decide (v t = (j:Int))).map f).length → (as.map V.ref).length < sizeLine:=fun as v f j h=>by
    rw [List.length_map,h]
    refine Nat.lt_of_le_of_lt (dE _ _ _) ?_
    rw [List.length_take,lz]
    exact Nat.lt_of_le_of_lt (Nat.le_trans (Nat.min_le_right _ _) few) (by decide)
   refine ⟨fs[i1],_,.ref b1,rfl,rfl,g2,small as2 _ _ i1 ln2,?_⟩
   have P5:=add2 b1 (q2.1 % S,kk) eb
   have e15:=z9 (o:=.lst (as2.map V.ref ++ [.ref b1])) g2 _ _ e14
   have e25:=z9 (o:=.lst (as2.map V.ref ++ [.ref b1])) g2 _ _ e24
   generalize upd G4 fs[i1] _ = G5 at P5 e15 e25 ⊢
   clear P4 add2 g2 e14 e24 eb
   obtain ⟨as3,g3,ln3,add3⟩:=P5.add2 Ly (List.getElem?_eq_getElem l2)
   refine ⟨_,rfl,_,rfl,t2,_,_,_,rfl,rfl,SqT.of e25,rfl,ll,_,_,_,rfl,rfl,SqL.of P5.ell,at_ ls i2 l2,.inl ⟨rfl,_,SqL.of g3⟩,_,rfl,_,rfl,t2,_,_,_,rfl,rfl,SqT.of e25,rfl,(by show 2 ≤ sizeLine; decide),fun b2 hb2=>?_⟩
   have sb:=g6 hb2 (.tup [.int kk,.int (q2.2 % S)])
   have P6:=P5.sm sb
   have e16:=sb _ _ e15
   have e26:=sb _ _ e25
   have eb:=d4 (H:=G5) (a:=b2) (o:=.tup [.int kk,.int (q2.2 % S)])
   generalize upd G5 b2 _ = G6' at P6 e16 e26 eb ⊢
   clear P5 add3 g3 ln3 e15 e25 sb hb2
   obtain ⟨as3,g3,ln3,add3⟩:=P6.add2 Ly (List.getElem?_eq_getElem l2)
   refine ⟨ls[i2],_,.ref b2,rfl,rfl,g3,small as3 _ _ i2 ln3,?_⟩
   have P7:=add3 b2 (kk,q2.2 % S) eb
   have e17:=z9 (o:=.lst (as3.map V.ref ++ [.ref b2])) g3 _ _ e16
   have e27:=z9 (o:=.lst (as3.map V.ref ++ [.ref b2])) g3 _ _ e26
   generalize upd G6' ls[i2] _ = G7 at P7 e17 e27 ⊢
   clear P6 add3 g3 e16 e26 eb
   obtain ⟨as4,g4,ln4,add4⟩:=P7.add3 Ly (List.getElem?_eq_getElem l3)
   refine ⟨_,rfl,_,rfl,wl,_,_,_,rfl,rfl,SqL.of P7.ewl,(show atI (ws.map V.ref) kk = some (.ref ws[i3]) from by rw [hi3]; exact at_ ws i3 l3),.inl ⟨rfl,_,SqL.of g4⟩,_,rfl,t1,_,_,_,rfl,rfl,SqT.of e17,rfl,_,rfl,t2,_,_,_,rfl,rfl,SqT.of e27,rfl,(by show 2 ≤ sizeLine; decide),fun b3 hb3=>?_⟩
   have sb:=g6 hb3 (.tup [.int (i1:Int),.int (i2:Int)])
   have P8:=P7.sm sb
   have eb:=d4 (H:=G7) (a:=b3) (o:=.tup [.int (i1:Int),.int (i2:Int)])
   generalize upd G7 b3 _ = G8 at P8 eb ⊢
   clear P7 add4 g4 ln4 sb hb3 e17 e27
   obtain ⟨as4,g4,ln4,add4⟩:=P8.add3 Ly (List.getElem?_eq_getElem l3)
   refine ⟨ws[i3],_,.ref b3,rfl,rfl,g4,small as4 _ _ i3 ln4,?_⟩
   have P9:=add4 b3 ((i1:Int),(i2:Int)) eb
   refine ⟨_,_,_,_,?_,rfl⟩
   rw [List.take_succ,hti,Option.toList_some]
   have f1:=lR (ts:=(ps.zip ns).take i) (t:=(q2,kk)) (v:=fun t=>t.1.1 / S) (f:=fun t=>(t.1.1 % S,t.2)) hi1
   have f2:=lR (ts:=(ps.zip ns).take i) (t:=(q2,kk)) (v:=fun t=>t.1.2 / S) (f:=fun t=>(t.2,t.1.2 % S)) hi2
   have f3:=lR (ts:=(ps.zip ns).take i) (t:=(q2,kk)) (v:=fun t=>t.2) (f:=fun t=>(t.1.1 / S,t.1.2 / S)) hi3
   show Pot H _ fl ll wl nl fs ls ws ns (fun j=>A7 S ((ps.zip ns).take i ++ [(q2,kk)]) j) (fun j=>C9 S ((ps.zip ns).take i ++ [(q2,kk)]) j) (fun j=>C6 S ((ps.zip ns).take i ++ [(q2,kk)]) j)
   unfold A7 C9 C6
   rw [← f1,← f2,← f3]
   dsimp only
   rw [hi1,hi2]
   exact P9
  ·rintro σ G ⟨v9,v10,v11,v12,P,rfl⟩
   rw [List.length_map,ln,← lz,List.take_length] at P
   exact rest _ _ ⟨_,_,_,_,P,rfl⟩
 rintro σ G ⟨v9,v10,v11,v12,P,rfl⟩
 refine ⟨_,rfl,wl,rfl,⟨_,SqL.of P.ewl⟩,?_⟩
 have okz:p5 L ((ps.zip ns).map Prod.fst):=by rw [mz]; exact ok
 have fewz:∀ (p:(Int × Int) × Int → Bool) (f:(Int × Int) × Int → Int × Int),(((ps.zip ns).filter p).map f).length ≤ 60:=fun p f=>Nat.le_trans (dE _ _ _) (by rw [lz]; exact few)
 refine V2 (fun G k x=>x5 G S d ((L + S - 1) / S) (C6 S (ps.zip ns) k) x) (fun G G' k x s h=>x5.same s h) P.ewl (Nat.le_trans (show ws.length ≤ 8 by lia) (by decide)) (fun i x G' hx s Q' k'=>?_) fun ms al G' lm hms s hal eal=>?_
 ·have hbx:=(P.b3 i x hx).same s
  refine ⟨_,rfl,_,rfl,_,rfl,_,rfl,_,_,rfl,rfl,(m:Int),S,d,x,C6 S (ps.zip ns) i,?_,hd,⟨by lia,by lia⟩,hS,hbx,fewz _ _,by rw [← hm]; exact Y2 hS.1 okz NT i,fun a G'' s' hN=>k' a G'' s' (by rw [hm]; exact hN)⟩
  show [V.int (m:Int),V.int S,V.ref x,V.int (((d + 1:Nat):Int) - 1)] = _
  rw [show ((d + 1:Nat):Int) - 1 = (d:Int) by lia]
 dsimp only [o8,q9]
 have P2:=P.sm s
 clear P
 refine ⟨_,rfl,_,rfl,?_⟩
 refine ⟨_,rfl,fl,rfl,⟨_,SqL.of P2.efl⟩,?_⟩
 refine V2 (fun G k x=>∃ bs,F4 G x bs ∧ Z3 bs (A7 S (ps.zip ns) k)) (fun G G' k x s ⟨bs,h1,h2⟩=>⟨bs,h1.same s,h2⟩) P2.efl (Nat.le_trans (show fs.length ≤ 64 by lia) (by decide)) (fun i x G2' hx s2 Q' k'=>?_) fun gs gl G2' lg hgs s2 hgl egl=>?_
 ·have hbx:=(P2.b1 i x hx).same s2
  refine ⟨_,rfl,?_⟩
  dsimp only [fc]
  exact be (K:=K) hbx (Nat.lt_of_le_of_lt (fewz _ _) (by decide)) (cf hS.1 okz NT i) (by lia) fun as' bs pr' so mm hmm=>k' mm _ (g6 hmm _) ⟨bs,⟨as',d4,pr'.same (g6 hmm _)⟩,so⟩
 have P3:=P2.sm s2
 refine ⟨_,rfl,?_⟩
 refine ⟨_,rfl,ll,rfl,⟨_,SqL.of P3.ell⟩,?_⟩
 refine V2 (fun G k x=>∃ bs,F4 G x bs ∧ Z3 bs (C9 S (ps.zip ns) k)) (fun G G' k x s ⟨bs,h1,h2⟩=>⟨bs,h1.same s,h2⟩) P3.ell (Nat.le_trans (show ls.length ≤ 64 by lia) (by decide)) (fun i x G3' hx s3 Q' k'=>?_) fun hs hl G3' lh hhs s3 hhl ehl=>?_
 ·have hbx:=(P3.b2 i x hx).same s3
  refine ⟨_,rfl,?_⟩
  dsimp only [fc]
  exact be (K:=K) hbx (Nat.lt_of_le_of_lt (fewz _ _) (by decide)) (aX hS.1 okz NT i) (by lia) fun as' bs pr' so mm hmm=>k' mm _ (g6 hmm _) ⟨bs,⟨as',d4,pr'.same (g6 hmm _)⟩,so⟩
 refine ⟨(by show 6 ≤ sizeLine; decide),fun t ht=>?_⟩
 have s4:=g6 ht (.tup [.str "hall",.int L,.int S,.ref gl,.ref al,.ref hl])
 refine q t _ ((P3.sm s3).sm s4).same (.inr ⟨hLS,ps.zip ns,gl,al,hl,gs,ms,hs,mz,NT,d4,(s3.trans s4) _ _ egl,(s2.trans (s3.trans s4)) _ _ eal,s4 _ _ ehl,by rw [lg,lf,hm],by rw [lh,lls,hm],by rw [lm]; lia,?_,?_,?_⟩)
 ·exact U4.same (H:=G2') (fun i fa e=>hgs i fa e) (s3.trans s4)
 ·exact U4.same (H:=G3') (fun i fa e=>hhs i fa e) s4
 ·exact fun k' ma e=>x5.same (s2.trans (s3.trans s4)) (hms k' ma e)
theorem oK (T:Txt K mg) (C_is_plain:h9 P w K mg base 1 "is_plain" ["lines","small","depth"] dA) (C_racks_for:h9 P w K mg base 1 "racks_for" ["lines","small"] W0) (C_parted:h9 P w K mg base 3 "parted" ["pairs","ways"] bn) (D1:Def K mg "right_nest" (top 30) ["lines","small","turns","depth"]) (D2:Def K mg "hall_nest" (top 29) ["lines","small","turns","depth"]):∀ n:Nat,h9 P w K mg base (2*n+4) "right_nest" ["lines","small","turns","depth"] (mW n)
 | 0=>ii T 0 3 (by decide) _ C_is_plain (M4 D2 3) D1 fun m h=>nomatch h
 | n + 1=>ii T (n + 1) (2 * n + 5) (by lia) _ C_is_plain (nh T n (2 * n + 4) (by lia) C_racks_for C_parted (oK T C_is_plain C_racks_for C_parted D1 D2 n) D2) D1 fun m h=>by cases h; rfl
end
theorem R4 {K:PySem.W.Frag}:PySem.W.kitOne K (.type "list") (.type "list") = some true:=dJ (by decide +kernel)
theorem p5.perm {n:Int} {ps qs:Prs} (h:p5 n ps) (p:qs.Perm ps):p5 n qs:=⟨fun q hq=>h.bd q (p.mem_iff.mp hq),(p.map Prod.fst).nodup_iff.mpr h.n1,(p.map Prod.snd).nodup_iff.mpr h.n2⟩
def bI:Sp:=fun vs H Q _=>∃ (l:Addr) (bs ps:Prs) (n:Int),vs = [.ref l,.int n,.int n] ∧ F4 H l bs ∧ Z3 bs ps ∧ p5 n ps ∧ ps.length ≤ 64 ∧ ∀ H',j7 H H' → Q (.bl true) H'
def bi:Sp:=fun vs H Q _=>∃ (fl:Addr) (fs:List Addr) (f:Nat → Prs) (S:Int),vs = [.ref fl,.int ((fs.length:Nat):Int),.int S] ∧ H fl = some (.lst (fs.map V.ref)) ∧ U4 H fs f ∧ (∀ i,p5 S (f i) ∧ (f i).length ≤ 64) ∧ ∀ H',j7 H H' → Q (.bl true) H'
def T3:Sp:=fun vs H Q _=>∃ i:Int,vs = [.int i] ∧ Q (.bl true) H
section
variable {P:Program} {w:World} {K:PySem.W.Frag} {mg:Str → Option Value} {base:Heap}
theorem bV:FnScope ["_law_found"] ["_law_found"] (d7 (top 37)):=⟨rfl,rfl,rfl,by decide +kernel,rfl,by decide +kernel,by decide +kernel⟩
theorem jf (T:Txt K mg) (D:Def K mg "_law_whole" (top 37) ["_law_found"]):h9 P w K mg base 1 "_law_whole" ["_law_found"] T3:=by
 refine D.ok bV (fun vs H Q E h=>?_) (fun f cdv A outer s H vs Q E hr h=>?_)
 ·obtain ⟨i,rfl,_⟩:=h
  rfl
 obtain ⟨i,rfl,q⟩:=h
 refine ⟨_,(d9 (i9 (Y8 (i8 (u4 K) rfl T.m_isinstance boot_isinstance (b7 (pv 0) (b7 (I9 (v:=.ty "int") rfl T.m_int boot_int rfl) d6 b8) b8)) (Z5 (kK (i8 (u4 K) rfl T.m_isinstance boot_isinstance (b7 (pv 0) (b7 (I9 (v:=.ty "bool") rfl T.m_bool boot_bool rfl) d6 b8) b8))))))),?_⟩
 refine ⟨_,rfl,_,_,_,true,rfl,.int i,ad,_,rfl,V8 ?_⟩
 exact ⟨_,rfl,_,_,_,false,rfl,.int i,W6,_,rfl,q⟩
theorem G9:FnScope ["_law_bars_here","_law_ones","_law_others","_law_last","_law_seen","_law_bar"] ["_law_bars_here","_law_ones","_law_others"] (d7 (top 46)):=⟨rfl,rfl,rfl,by decide +kernel,rfl,by decide +kernel,by decide +kernel⟩
theorem nK (T:Txt K mg) (C__law_whole:h9 P w K mg base 1 "_law_whole" ["_law_found"] T3) (D:Def K mg "_law_bars" (top 46) ["_law_bars_here","_law_ones","_law_others"]):h9 P w K mg base 2 "_law_bars" ["_law_bars_here","_law_ones","_law_others"] bI:=by
 refine D.ok G9 (fun vs H Q E h=>?_) (fun f cdv A outer s H vs Q E hr h=>?_)
 ·obtain ⟨l,bs,ps,n,rfl,_⟩:=h
  rfl
 obtain ⟨l,bs,ps,n,rfl,⟨as,el,pr⟩,⟨pm,so⟩,ok0,few,q⟩:=h
 have ok:=ok0.perm pm
 have ln:as.length = bs.length:=Paired.length pr
 have fb:bs.length ≤ 64:=by rw [pm.length_eq]; exact few
 refine ⟨_,(d5 (p4 (A8 (p7 K (i8 (u4 K) rfl T.m_isinstance boot_isinstance (b7 (pv 0) (b7 (I9 (v:=.ty "list") rfl T.m_list boot_list rfl) d6 b8) b8)) (fun _=>rfl))) (d9 (i9 A2)) j9)
  (d5 (i6 (i:=3) G9.nd rfl (Or.inl rfl) (ig de b9))
  (d5 (i6 (i:=4) G9.nd rfl (Or.inl rfl) X3)
  (d5 (w5 PassesOwn.never rfl (o6 K (pv 0)) (m6 (i:=5) G9.nd rfl (Or.inl rfl))
  (d5 (p4 (PW.pt (C5 (A8 (p7 K (i8 (u4 K) rfl T.m_isinstance boot_isinstance (b7 (pv 5) (b7 (I9 (v:=.ty "tuple") rfl T.m_tuple boot_tuple rfl) d6 b8) b8)) (fun _=>rfl))) (C5 (j0 S0 (i8 (u7 K) rfl T.m_len boot_len (b7 (pv 5) d6 b8)) b9 (j8 _)) (C5 (A8 (p7 K (m4 C__law_whole hr rfl (b7 (g9 (d8 K) (pv 5) b9 (fun _ _=>rfl)) d6 m5)) (fun _=>rfl))) (K2 (A8 (p7 K (m4 C__law_whole hr rfl (b7 (g9 (d8 K) (pv 5) b9 (fun _ _=>rfl)) d6 m5)) (fun _=>rfl)))))))) (d9 (i9 A2)) j9)
  (d5 (p4 (PW.pt (C5 (j0 dQ (g9 (d8 K) (pv 5) b9 (fun _ _=>rfl)) (pv 3) (j8 _)) (C5 (j0 oB (g9 (d8 K) (pv 5) b9 (fun _ _=>rfl)) (pv 1) (j8 _)) (C5 (j0 kH (g9 (d8 K) (pv 5) b9 (fun _ _=>rfl)) b9 (j8 _)) (C5 (j0 oB (g9 (d8 K) (pv 5) b9 (fun _ _=>rfl)) (pv 2) (j8 _)) (K2 (ba (aN (L9 hr) (g9 (d8 K) (pv 5) b9 (fun _ _=>rfl)) (pv 4))))))))) (d9 (i9 A2)) j9)
  (d5 (i6 (i:=3) G9.nd rfl (Or.inl rfl) (g9 (d8 K) (pv 5) b9 (fun _ _=>rfl)))
  (d9 (U1 (L9 hr) (pv 4) (g9 (d8 K) (pv 5) b9 (fun _ _=>rfl)) A2 rfl))))))
  (d9 (i9 A2)))))),?_⟩
 refine ⟨_,rfl,_,_,_,true,rfl,.lst el,R4,_,rfl,C2 ?_⟩
 refine ⟨_,rfl,?_⟩
 refine fun sd hsd=>?_
 dsimp only [o8,q9]
 have sm:∀ kvs,j7 H (upd H sd (.dK kvs)):=fun kvs=>g6 hsd _
 refine ⟨_,rfl,l,rfl,⟨_,SqL.of (sm _ _ _ el)⟩,?_⟩
 refine y9 (xs:=as.map V.ref) (fun i σ G=>∃ (la:Int) (kvs:List (Key × V)) (v5:Option V),G = upd H sd (.dK kvs) ∧ (∀ p ∈ bs.drop i,la < p.1) ∧ (∀ y:Int,(r9 kvs (.inl y)).isSome = true → ∃ p ∈ bs.take i,p.2 = y) ∧ kvs.length ≤ i ∧ σ = [some (.ref l),some (.int n),some (.int n),some (.int la),some (.ref sd),v5]) ⟨-1,[],_,rfl,fun p hp=>?_,(fun y hy=>nomatch hy),Nat.le_refl _,rfl⟩ ?_ ?_ ?_
 ·have:=(ok.bd p hp).1.1
  lia
 ·rintro i σ G _ ⟨la,kvs,v5,rfl,_⟩
  exact SqL.of (sm _ _ _ el)
 ·rintro i x σ G hx ⟨la,kvs,v5,rfl,hla,hkv,hlen,rfl⟩
  rw [List.getElem?_map] at hx
  obtain ⟨a,ha,rfl⟩:=Option.map_eq_some_iff.mp hx
  obtain ⟨p,hp,ea⟩:=m9 pr i a ha
  obtain ⟨hi,hpe⟩:=List.getElem?_eq_some_iff.mp hp
  have ea:upd H sd (.dK kvs) a = some (.tup [.int p.1,.int p.2]):=sm _ _ _ ea
  have bp:=ok.bd p (List.mem_of_getElem? hp)
  have dp:bs.drop i = p :: bs.drop (i + 1):=by rw [List.drop_eq_getElem_cons hi,hpe]
  have hlap:=hla p (by rw [dp]; exact List.mem_cons_self ..)
  have tk:bs.take (i + 1) = bs.take i ++ [p]:=by rw [List.take_succ,hp]; rfl
  refine ⟨_,rfl,_,_,_,true,rfl,.tup ea,N8,_,rfl,C2 ?_⟩
  refine ⟨_,rfl,a,_,rfl,.inr (SqT.of ea),rfl,_,rfl,L7 (by simp) ?_⟩
  refine ⟨_,rfl,a,_,_,_,rfl,rfl,SqT.of ea,rfl,p.1,rfl,_,rfl,C2 ?_⟩
  refine ⟨_,rfl,a,_,_,_,rfl,rfl,SqT.of ea,rfl,p.2,rfl,_,rfl,C2 ?_⟩
  refine ⟨_,rfl,a,_,_,_,rfl,rfl,SqT.of ea,rfl,_,rfl,_,_,rfl,rfl,_,rfl,L7 (fun z=>by have:=of_decide_eq_true z; lia) ?_⟩
  refine ⟨_,rfl,a,_,_,_,rfl,rfl,SqT.of ea,rfl,_,rfl,_,_,rfl,rfl,_,rfl,L7 (fun z=>by have:=of_decide_eq_true z; lia) ?_⟩
  refine ⟨_,rfl,a,_,_,_,rfl,rfl,SqT.of ea,rfl,_,_,rfl,rfl,_,rfl,L7 (fun z=>by have:=of_decide_eq_true z; lia) ?_⟩
  refine ⟨_,rfl,a,_,_,_,rfl,rfl,SqT.of ea,rfl,_,rfl,_,_,rfl,rfl,_,rfl,L7 (fun z=>by have:=of_decide_eq_true z; lia) ?_⟩
  have no:¬ (r9 kvs (.inl p.2)).isSome = true:=fun z=>by
   obtain ⟨p',hp',e⟩:=hkv _ z
   have n2:=ok.n2
   rw [← List.take_append_drop i bs,dp,List.map_append,List.nodup_append] at n2
   exact n2.2.2 p'.2 (List.mem_map.mpr ⟨p',hp',rfl⟩) p.2 (List.mem_map.mpr ⟨p,List.mem_cons_self ..,rfl⟩) e
  refine ⟨_,rfl,a,_,_,_,rfl,rfl,SqT.of ea,rfl,_,rfl,sd,_,rfl,N4.k (k:=.inl p.2) d4,_,rfl,L7 no ?_⟩
  refine ⟨_,rfl,a,_,_,_,rfl,rfl,SqT.of ea,rfl,?_⟩
  refine ⟨_,rfl,_,rfl,a,_,_,_,rfl,rfl,SqT.of ea,rfl,sd,_,rfl,.inl ⟨kvs,.inl p.2,d4,rfl,Nat.lt_of_le_of_lt (Nat.le_trans hlen (show i ≤ 64 by lia)) (by decide),rfl⟩,?_⟩
  refine ⟨p.1,B7 kvs (.inl p.2) (.bl true),_,?_,fun p' hp'=>?_,fun y hy=>?_,?_,rfl⟩
  ·funext b
   by_cases z:b = sd
   ·subst z; rw [d4,d4]
   ·rw [g7 z,g7 z,g7 z]
  ·have:=so
   rw [← List.take_append_drop i bs,dp,List.pairwise_append] at this
   exact (List.pairwise_cons.mp this.2.1).1 p' hp'
  ·rw [Q3] at hy
   rw [tk]
   by_cases z:(Sum.inl y:Key) = .inl p.2
   ·exact ⟨p,List.mem_append_right _ (List.mem_singleton.mpr rfl),(Sum.inl.inj z).symm⟩
   ·rw [if_neg z] at hy
    obtain ⟨p',h1,h2⟩:=hkv y hy
    exact ⟨p',List.mem_append_left _ h1,h2⟩
  ·unfold B7
   split
   ·rw [List.length_map]; lia
   ·rw [List.length_append]; show kvs.length + 1 ≤ i + 1; lia
 ·rintro σ G ⟨la,kvs,v5,rfl,_,_,_,rfl⟩
  exact q _ (sm _)
theorem U7:FnScope ["_law_some","_law_many","_law_small","_law_bars_here"] ["_law_some","_law_many","_law_small"] (d7 (top 47)):=⟨rfl,rfl,rfl,by decide +kernel,rfl,by decide +kernel,by decide +kernel⟩
theorem jA (T:Txt K mg) (C__law_bars:h9 P w K mg base 2 "_law_bars" ["_law_bars_here","_law_ones","_law_others"] bI) (D:Def K mg "_law_racks" (top 47) ["_law_some","_law_many","_law_small"]):h9 P w K mg base 3 "_law_racks" ["_law_some","_law_many","_law_small"] bi:=by
 refine D.ok U7 (fun vs H Q E h=>?_) (fun f cdv A outer s H vs Q E hr h=>?_)
 ·obtain ⟨fl,fs,f,S,rfl,_⟩:=h
  rfl
 obtain ⟨fl,fs,f,S,rfl,efl,hs,ok,q⟩:=h
 refine ⟨_,(d5 (p4 (PW.pt (C5 (A8 (p7 K (i8 (u4 K) rfl T.m_isinstance boot_isinstance (b7 (pv 0) (b7 (I9 (v:=.ty "list") rfl T.m_list boot_list rfl) d6 b8) b8)) (fun _=>rfl))) (K2 (j0 S0 (i8 (u7 K) rfl T.m_len boot_len (b7 (pv 0) d6 b8)) (pv 1) (j8 _))))) (d9 (i9 A2)) j9)
  (d5 (w5 PassesOwn.never rfl (o6 K (pv 0)) (m6 (i:=3) U7.nd rfl (Or.inl rfl))
  (d9 (p4 (A8 (p7 K (m4 C__law_bars hr rfl (b7 (pv 3) (b7 (pv 2) (b7 (pv 2) d6 b8) b8) b8)) (fun _=>rfl))) (d9 (i9 A2)) j9)))
  (d9 (i9 A2)))),?_⟩
 refine ⟨_,rfl,_,_,_,true,rfl,.lst efl,R4,_,rfl,C2 ?_⟩
 refine ⟨_,rfl,fl,_,rfl,.inl (SqL.of efl),_,rfl,rfl,_,rfl,L7 (by simp) ?_⟩
 refine ⟨_,rfl,fl,rfl,⟨_,SqL.of efl⟩,?_⟩
 refine y9 (xs:=fs.map V.ref) (fun i σ G=>j7 H G ∧ ∃ v3,σ = [some (.ref fl),some (.int ((fs.length:Nat):Int)),some (.int S),v3]) ⟨j7.refl _,_,rfl⟩ ?_ ?_ ?_
 ·rintro i σ G _ ⟨s,_⟩
  exact SqL.of (s _ _ efl)
 ·rintro i x σ G hx ⟨s,v3,rfl⟩
  rw [List.getElem?_map] at hx
  obtain ⟨fa,ha,rfl⟩:=Option.map_eq_some_iff.mp hx
  obtain ⟨bs,hb,so⟩:=hs i fa ha
  exact ⟨_,rfl,_,rfl,_,rfl,fa,bs,f i,S,rfl,hb.same s,so,(ok i).1,(ok i).2,fun G' s'=>⟨_,rfl,C2 ⟨s.trans s',_,rfl⟩⟩⟩
 ·rintro σ G ⟨s,v3,rfl⟩
  exact q G s
end
theorem x5.plain {H:Hp} {S L:Int} {d:Nat} {ps:Prs} {a:Addr} (h:x5 H S d L ps a) (c:d = 0 ∨ L ≤ S):S4 H L ps a:=by
 cases d with
 | zero=>exact h
 | succ d =>
  have c':=c.resolve_left (Nat.succ_ne_zero d)
  rcases h with ⟨_,h⟩ | ⟨z,_⟩
  ·exact h
  ·exact absurd c' z
def aH (n:Nat):Sp:=fun vs H Q _=>∃ (a:Addr) (L S:Int) (d:Nat) (ps:Prs),vs = [.ref a,.int L,.int S,.int (d:Nat)] ∧ d ≤ n ∧ (0 ≤ L ∧ L ≤ 64) ∧ (2 ≤ S ∧ S ≤ 8) ∧ x5 H S d L ps a ∧ p5 L ps ∧ ps.length ≤ 64 ∧ ∀ H',j7 H H' → Q (.bl true) H'
def lev (S:Int):Nat → Int → Nat
 | 0,_=>0
 | d + 1,L=>if L ≤ S then 0 else lev S d ((L + S - 1) / S) + 1
theorem Z1 {S L:Int} {d:Nat} (c:d = 0 ∨ L ≤ S):lev S d L = 0:=by
 cases d with
 | zero=>rfl
 | succ d=>exact if_pos (c.resolve_left (Nat.succ_ne_zero d))
def aJ (n:Nat):Sp:=fun vs H Q _=>∃ (a:Addr) (L S:Int) (d:Nat) (ps:Prs),vs = [.ref a] ∧ d ≤ n ∧ (0 ≤ L ∧ L ≤ 64) ∧ (2 ≤ S ∧ S ≤ 8) ∧ x5 H S d L ps a ∧ p5 L ps ∧ ps.length ≤ 64 ∧ ∀ H',j7 H H' → Q (.int ((ps.length * (2 * lev S d L + 1):Nat):Int)) H'
def ff:Sp:=fun vs H Q _=>∃ (L S:Int) (d:Nat),vs = [.int L,.int S,.int (d:Nat)] ∧ (0 ≤ L ∧ L ≤ 64) ∧ (2 ≤ S ∧ S ≤ 8) ∧ Q (.int ((lev S d L:Nat):Int)) H
def K9 (ps:Prs) (x:Int) (o:Option Int):Prop:=(∃ y,o = some y ∧ (x,y) ∈ ps) ∨ (o = none ∧ ∀ p ∈ ps,p.1 ≠ x)
def oV:Option Int → V
 | none=>.non
 | some y=>.int y
def dq:Sp:=fun vs H Q _=>∃ (l:Addr) (bs:Prs) (x:Int),vs = [.ref l,.int x] ∧ F4 H l bs ∧ ∀ o,K9 bs x o → Q (oV o) H
def X0 (n:Nat):Sp:=fun vs H Q _=>∃ (a:Addr) (L S:Int) (d:Nat) (ps:Prs) (x:Int),vs = [.ref a,.int x] ∧ d ≤ n ∧ (0 ≤ L ∧ L ≤ 64) ∧ (2 ≤ S ∧ S ≤ 8) ∧ x5 H S d L ps a ∧ p5 L ps ∧ 0 ≤ x ∧ x < L ∧ ∀ o,K9 ps x o → Q (oV o) H
theorem K9.perm {ps qs:Prs} {x:Int} {o:Option Int} (h:K9 qs x o) (p:qs.Perm ps):K9 ps x o:=by
 rcases h with ⟨y,e,m⟩ | ⟨e,m⟩
 ·exact .inl ⟨y,e,p.mem_iff.mp m⟩
 ·exact .inr ⟨e,fun q hq=>m q (p.mem_iff.mpr hq)⟩
theorem iC:∀ {ps:Prs} {x y y':Int},(ps.map Prod.fst).Nodup → (x,y) ∈ ps → (x,y') ∈ ps → y = y'
 | p :: ps,x,y,y',nd,h,h'=>by
  rw [List.map_cons,List.nodup_cons] at nd
  rcases List.mem_cons.mp h with z | z
  ·rcases List.mem_cons.mp h' with z' | z'
   ·have:=z.trans z'.symm
    exact congrArg Prod.snd this
   ·exact absurd (List.mem_map.mpr ⟨_,z',rfl⟩) (by rw [← z] at nd; exact nd.1)
  ·rcases List.mem_cons.mp h' with z' | z'
   ·exact absurd (List.mem_map.mpr ⟨_,z,rfl⟩) (by rw [← z'] at nd; exact nd.1)
   ·exact iC nd.2 z z'
theorem K9.is {ps:Prs} {x y:Int} {o:Option Int} (h:K9 ps x o) (nd:(ps.map Prod.fst).Nodup) (m:(x,y) ∈ ps):o = some y:=by
 rcases h with ⟨y',e,m'⟩ | ⟨e,no⟩
 ·rw [e,iC nd m' m]
 ·exact absurd rfl (no _ m)
theorem iO (v:Int):∀ m:Nat,0 ≤ v → v < (m:Int) → ((List.range m).map fun (i:Nat)=>if v = (i:Int) then 1 else 0).sum = 1
 | 0,h0,h=>by lia
 | m + 1,h0,h=>by
  rw [List.range_succ,List.map_append,List.sum_append]
  by_cases c:v = (m:Int)
  ·have z:∀ k:Nat,k ≤ m → ((List.range k).map fun (i:Nat)=>if v = (i:Int) then 1 else 0).sum = 0:=fun k=>by
    induction k with
    | zero=>intro _; rfl
    | succ k ih =>
     intro hk
     rw [List.range_succ,List.map_append,List.sum_append,ih (by lia)]
     simp
     lia
   rw [z m (Nat.le_refl _)]
   simp [c]
  ·rw [iO v m h0 (by lia)]
   simp [c]
theorem mS {α:Type} (l:List α) (f g:α → Nat):(l.map fun x=>f x + g x).sum = (l.map f).sum + (l.map g).sum:=by
 induction l with
 | nil=>rfl
 | cons a l ih =>
  simp only [List.map_cons,List.sum_cons,ih]
  lia
theorem W8 {α:Type} {v:α → Int} {f:α → Int × Int} {m:Nat}:∀ {ts:List α},(∀ t ∈ ts,0 ≤ v t ∧ v t < (m:Int)) → ((List.range m).map fun (i:Nat)=>((ts.filter fun t=>decide (v t = (i:Int))).map f).length).sum = ts.length
 | [],_=>by
  show ((List.range m).map fun _=>0).sum = 0
  generalize List.range m = l
  induction l with
  | nil=>rfl
  | cons a l ih=>simpa using ih
 | t :: ts,h=>by
  have ih:=W8 (f:=f) (ts:=ts) fun u hu=>h u (List.mem_cons_of_mem _ hu)
  have e:∀ i:Nat,(((t :: ts).filter fun t=>decide (v t = (i:Int))).map f).length = (if v t = (i:Int) then 1 else 0) + ((ts.filter fun t=>decide (v t = (i:Int))).map f).length:=fun i=>by
   rw [List.filter_cons]
   by_cases c:v t = (i:Int)
   ·rw [if_pos (decide_eq_true c),if_pos c,List.map_cons,List.length_cons]
    lia
   ·rw [if_neg (by simpa using c),if_neg c,Nat.zero_add]
  simp only [e]
  rw [mS,ih,iO (v t) m (h t (List.mem_cons_self ..)).1 (h t (List.mem_cons_self ..)).2,List.length_cons]
  lia
section
variable {P:Program} {w:World} {K:PySem.W.Frag} {mg:Str → Option Value} {base:Heap}
theorem O5:FnScope ["_law_nest","_law_lines","_law_small","_law_depth","_law_many","_law_inner"] ["_law_nest","_law_lines","_law_small","_law_depth"] (d7 (top 48)):=⟨rfl,rfl,rfl,by decide +kernel,rfl,by decide +kernel,by decide +kernel⟩
theorem aO (T:Txt K mg) (n k:Nat) (hk:3 ≤ k) (sp:Sp) (C__law_whole:h9 P w K mg base 1 "_law_whole" ["_law_found"] T3) (C__law_bars:h9 P w K mg base 2 "_law_bars" ["_law_bars_here","_law_ones","_law_others"] bI) (C__law_racks:h9 P w K mg base 3 "_law_racks" ["_law_some","_law_many","_law_small"] bi) (C__law_shape:h9 P w K mg base k "_law_shape" ["_law_nest","_law_lines","_law_small","_law_depth"] sp) (D:Def K mg "_law_shape" (top 48) ["_law_nest","_law_lines","_law_small","_law_depth"]) (hsp:∀ m,n = m + 1 → sp = aH m):h9 P w K mg base (k+1) "_law_shape" ["_law_nest","_law_lines","_law_small","_law_depth"] (aH n):=by
 refine D.ok O5 (fun vs H Q E h=>?_) (fun f cdv A outer s H vs Q E hr h=>?_)
 ·obtain ⟨a,L,S,d,ps,rfl,_⟩:=h
  rfl
 obtain ⟨a,L,S,d,ps,rfl,hd,hL,hS,hN,ok,few,q⟩:=h
 refine ⟨_,(d5 (p4 (PW.pt (C5 (A8 (p7 K (i8 (u4 K) rfl T.m_isinstance boot_isinstance (b7 (pv 0) (b7 (I9 (v:=.ty "tuple") rfl T.m_tuple boot_tuple rfl) d6 b8) b8)) (fun _=>rfl))) (C5 (j0 kH (i8 (u7 K) rfl T.m_len boot_len (b7 (pv 0) d6 b8)) b9 (j8 _)) (C5 (A8 (p7 K (m4 C__law_whole hr rfl (b7 (g9 (d8 K) (pv 0) b9 (fun _ _=>rfl)) d6 m5) (by lia)) (fun _=>rfl))) (K2 (j0 S0 (g9 (d8 K) (pv 0) b9 (fun _ _=>rfl)) (pv 1) (j8 _))))))) (d9 (i9 A2)) j9)
  (d5 (p4 (PW.pt (C5 (j0 E3 (pv 3) b9 (j8 _)) (K2 (j0 dQ (pv 1) (pv 2) (j8 _))))) (d9 (i9 (Y8 (Y4 E3 (i8 (u7 K) rfl T.m_len boot_len (b7 (pv 0) d6 b8)) b9 (j8 _)) (Y8 (Y4 E3 (g9 (d8 K) (pv 0) b9 (fun _ _=>rfl)) M9 (j8 _)) (Z5 (m4 C__law_bars hr rfl (b7 (g9 (d8 K) (pv 0) b9 (fun _ _=>rfl)) (b7 (pv 1) (b7 (pv 1) d6 b8) b8) m5) (by lia))))))) j9)
  (d5 (p4 (PW.pt (C5 (j0 S0 (i8 (u7 K) rfl T.m_len boot_len (b7 (pv 0) d6 b8)) b9 (j8 _)) (C5 (j0 S0 (g9 (d8 K) (pv 0) b9 (fun _ _=>rfl)) M9 (j8 _)) (C5 (A8 (p7 K (m4 C__law_whole hr rfl (b7 (g9 (d8 K) (pv 0) b9 (fun _ _=>rfl)) d6 m5) (by lia)) (fun _=>rfl))) (K2 (j0 S0 (g9 (d8 K) (pv 0) b9 (fun _ _=>rfl)) (pv 2) (j8 _))))))) (d9 (i9 A2)) j9)
  (d5 (i6 (i:=4) O5.nd rfl (Or.inl rfl) (i0 n5 (i0 S6 (i0 p8 (pv 1) (pv 2)) b9) (pv 2)))
  (d5 (p4 (PW.pt (C5 (A8 (p7 K (m4 C__law_racks hr rfl (b7 (g9 (d8 K) (pv 0) b9 (fun _ _=>rfl)) (b7 (pv 4) (b7 (pv 2) d6 b8) b8) m5) (by lia)) (fun _=>rfl))) (K2 (A8 (p7 K (m4 C__law_racks hr rfl (b7 (g9 (d8 K) (pv 0) b9 (fun _ _=>rfl)) (b7 (pv 4) (b7 (pv 2) d6 b8) b8) m5) (by lia)) (fun _=>rfl)))))) (d9 (i9 A2)) j9)
  (d5 (p4 (PW.pt (C5 (A8 (p7 K (i8 (u4 K) rfl T.m_isinstance boot_isinstance (b7 (g9 (d8 K) (pv 0) b9 (fun _ _=>rfl)) (b7 (I9 (v:=.ty "list") rfl T.m_list boot_list rfl) d6 b8) m5)) (fun _=>rfl))) (K2 (j0 S0 (i8 (u7 K) rfl T.m_len boot_len (b7 (g9 (d8 K) (pv 0) b9 (fun _ _=>rfl)) d6 m5)) (pv 2) (j8 _))))) (d9 (i9 A2)) j9)
  (d5 (w5 PassesOwn.never rfl (o6 K (g9 (d8 K) (pv 0) b9 (fun _ _=>rfl))) (m6 (i:=5) O5.nd rfl (Or.inl rfl))
  (d9 (p4 (A8 (p7 K (m4 C__law_shape hr rfl (b7 (pv 5) (b7 (pv 4) (b7 (pv 2) (b7 (i0 S6 (pv 3) b9) d6 r6) b8) b8) b8) (by lia)) (fun _=>rfl))) (d9 (i9 A2)) j9)))
  (d9 (i9 A2))))))))),?_⟩
 by_cases c:d = 0 ∨ L ≤ S
 ·obtain ⟨l,bs,e,hb,so⟩:=hN.plain c
  refine ⟨_,rfl,_,_,_,true,rfl,.tup e,N8,_,rfl,C2 ?_⟩
  refine ⟨_,rfl,a,_,rfl,.inr (SqT.of e),_,_,rfl,rfl,_,rfl,L7 (fun z=>by have:=of_decide_eq_true z; simp at this) ?_⟩
  refine ⟨_,rfl,a,_,_,_,rfl,rfl,SqT.of e,rfl,L,rfl,_,rfl,C2 ?_⟩
  refine ⟨_,rfl,a,_,_,_,rfl,rfl,SqT.of e,rfl,_,rfl,rfl,_,rfl,L7 (by simp) ?_⟩
  have fin:qC (mf (tOp rEq (tCB (ir K) (eV (gw 0) fc)) (tC (.int 3))) (mf (tOp rEq (tOp (mG K) (gw 0) (tC (.int 0))) (tC (.str "rack"))) (kB bI [] E0 (eV (tOp (mG K) (gw 0) (tC (.int 2))) (eV (gw 1) (eV (gw 1) fc)))))) { nx:=fun _ H'=>Q .non H',rt:=Q } [some (.ref a),some (.int L),some (.int S),some (.int (d:Nat)),none,none] H:=by
   refine ⟨_,rfl,a,_,rfl,.inr (SqT.of e),rfl,_,rfl,V8 ?_⟩
   refine ⟨_,rfl,a,_,_,_,rfl,rfl,SqT.of e,rfl,rfl,_,rfl,V8 ?_⟩
   exact ⟨_,rfl,a,_,_,_,rfl,rfl,SqT.of e,rfl,_,rfl,_,rfl,l,bs,ps,L,rfl,hb,so,ok,few,q⟩
  refine ⟨_,rfl,rfl,_,rfl,E9 (fun _=>fin) (fun z=>?_)⟩
  refine ⟨_,rfl,_,rfl,_,_,rfl,rfl,_,rfl,E9 (fun _=>fin) (fun z2=>?_)⟩
  exfalso
  rcases c with c | c
  ·exact z (decide_eq_true (by rw [c]; rfl))
  ·exact z2 (decide_eq_true c)
 ·match d,hd,c,hN,q with
  | 0,_,c,_,_=>exact absurd (.inl rfl) c
  | d + 1,hd,c,hN,q =>
   have c':¬ L ≤ S:=fun z=>c (.inr z)
   rcases hN with ⟨z,_⟩ | ⟨_,ts,fl,al,ll,fs,ms,ls,rfl,NT,e,efl,eal,ell,lf,lls,lm,f1,f2,f3⟩
   ·exact absurd z c'
   obtain ⟨m,rfl⟩:∃ m,n = m + 1:=⟨n - 1,by lia⟩
   obtain rfl:=hsp m rfl
   obtain ⟨r0,r1⟩:=fm hS.1 hL.1 hL.2
   have fewz:∀ (p:(Int × Int) × Int → Bool) (f:(Int × Int) × Int → Int × Int),((ts.filter p).map f).length ≤ 64:=fun p f=>Nat.le_trans (dE _ _ _) (by rw [List.length_map] at few; exact few)
   refine ⟨_,rfl,_,_,_,true,rfl,.tup e,N8,_,rfl,C2 ?_⟩
   refine ⟨_,rfl,a,_,rfl,.inr (SqT.of e),_,_,rfl,rfl,_,rfl,L7 (fun z=>by have:=of_decide_eq_true z; simp at this) ?_⟩
   refine ⟨_,rfl,a,_,_,_,rfl,rfl,SqT.of e,rfl,L,rfl,_,rfl,C2 ?_⟩
   refine ⟨_,rfl,a,_,_,_,rfl,rfl,SqT.of e,rfl,_,rfl,rfl,_,rfl,L7 (by simp) ?_⟩
   refine ⟨_,rfl,rfl,_,rfl,L7 (fun z=>by have:=V.int.inj (of_decide_eq_true z); lia) ?_⟩
   refine ⟨_,rfl,_,rfl,_,_,rfl,rfl,_,rfl,L7 (fun z=>c' (of_decide_eq_true z)) ?_⟩
   refine ⟨_,rfl,a,_,rfl,.inr (SqT.of e),rfl,_,rfl,L7 (by simp) ?_⟩
   refine ⟨_,rfl,a,_,_,_,rfl,rfl,SqT.of e,rfl,rfl,_,rfl,L7 (by simp) ?_⟩
   refine ⟨_,rfl,a,_,_,_,rfl,rfl,SqT.of e,rfl,S,rfl,_,rfl,C2 ?_⟩
   refine ⟨_,rfl,a,_,_,_,rfl,rfl,SqT.of e,rfl,_,rfl,rfl,_,rfl,L7 (by simp) ?_⟩
   refine ⟨_,rfl,_,rfl,_,_,rfl,rfl,_,_,rfl,rfl,_,rfl,_,_,rfl,rfl,⟨by lia,by lia⟩,?_⟩
   refine ⟨_,rfl,a,_,_,_,rfl,rfl,SqT.of e,rfl,_,rfl,_,rfl,fl,fs,A7 S ts,S,(show [V.ref fl,V.int ((L + S - 1) / S),V.int S] = _ by rw [lf]),efl,f1,fun i=>⟨cf hS.1 ok NT i,fewz _ _⟩,fun G1 s1=>⟨_,rfl,C2 ?_⟩⟩
   refine ⟨_,rfl,a,_,_,_,rfl,rfl,SqT.of (s1 _ _ e),rfl,_,rfl,_,rfl,ll,ls,C9 S ts,S,(show [V.ref ll,V.int ((L + S - 1) / S),V.int S] = _ by rw [lls]),s1 _ _ ell,f2.same s1,fun i=>⟨aX hS.1 ok NT i,fewz _ _⟩,fun G2 s2=>⟨_,rfl,C2 ?_⟩⟩
   have s12:=s1.trans s2
   have e2:=s12 _ _ e
   have eal2:=s12 _ _ eal
   refine ⟨_,rfl,a,_,_,_,rfl,rfl,SqT.of e2,rfl,_,_,_,true,rfl,.lst eal2,R4,_,rfl,C2 ?_⟩
   refine ⟨_,rfl,a,_,_,_,rfl,rfl,SqT.of e2,rfl,al,_,rfl,.inl (SqL.of eal2),_,rfl,rfl,_,rfl,L7 (by simp [lm]) ?_⟩
   refine ⟨_,rfl,a,_,_,_,rfl,rfl,SqT.of e2,rfl,al,rfl,⟨_,SqL.of eal2⟩,?_⟩
   refine y9 (xs:=ms.map V.ref) (fun i σ G=>j7 G2 G ∧ ∃ v5,σ = [some (.ref a),some (.int L),some (.int S),some (.int ((d + 1:Nat):Int)),some (.int ((L + S - 1) / S)),v5]) ⟨j7.refl _,_,rfl⟩ ?_ ?_ ?_
   ·rintro i σ G _ ⟨s,_⟩
    exact SqL.of (s _ _ eal2)
   ·rintro i x σ G hx ⟨s,v5,rfl⟩
    rw [List.getElem?_map] at hx
    obtain ⟨ma,ha,rfl⟩:=Option.map_eq_some_iff.mp hx
    refine ⟨_,rfl,_,rfl,_,rfl,_,rfl,_,_,rfl,rfl,ma,(L + S - 1) / S,S,d,C6 S ts i,(show [V.ref ma,V.int ((L + S - 1) / S),V.int S,V.int (((d + 1:Nat):Int) - 1)] = _ by rw [show ((d + 1:Nat):Int) - 1 = (d:Int) by lia]),by lia,⟨r0,r1⟩,hS,x5.same (s12.trans s) (f3 i ma ha),Y2 hS.1 ok NT i,fewz _ _,fun G' s'=>⟨_,rfl,C2 ⟨s.trans s',_,rfl⟩⟩⟩
   ·rintro σ G ⟨s,v5,rfl⟩
    exact q G (s12.trans s)
theorem eP (T:Txt K mg) (C__law_whole:h9 P w K mg base 1 "_law_whole" ["_law_found"] T3) (C__law_bars:h9 P w K mg base 2 "_law_bars" ["_law_bars_here","_law_ones","_law_others"] bI) (C__law_racks:h9 P w K mg base 3 "_law_racks" ["_law_some","_law_many","_law_small"] bi) (D:Def K mg "_law_shape" (top 48) ["_law_nest","_law_lines","_law_small","_law_depth"]):∀ n:Nat,h9 P w K mg base (n+4) "_law_shape" ["_law_nest","_law_lines","_law_small","_law_depth"] (aH n)
 | 0=>aO T 0 3 (by decide) _ C__law_whole C__law_bars C__law_racks (M4 D 3) D fun m h=>nomatch h
 | n + 1=>aO T (n + 1) (n + 4) (by lia) _ C__law_whole C__law_bars C__law_racks (eP T C__law_whole C__law_bars C__law_racks D n) D fun m h=>by cases h; rfl
theorem T4:FnScope ["_law_bars_here","_law_number","_law_bar"] ["_law_bars_here","_law_number"] (d7 (top 43)):=⟨rfl,rfl,rfl,by decide +kernel,rfl,by decide +kernel,by decide +kernel⟩
theorem kP (T:Txt K mg) (D:Def K mg "_law_by_bar" (top 43) ["_law_bars_here","_law_number"]):h9 P w K mg base 1 "_law_by_bar" ["_law_bars_here","_law_number"] dq:=by
 refine D.ok T4 (fun vs H Q E h=>?_) (fun f cdv A outer s H vs Q E hr h=>?_)
 ·obtain ⟨l,bs,x,rfl,_⟩:=h
  rfl
 obtain ⟨l,bs,x,rfl,⟨as,el,pr⟩,q⟩:=h
 have ln:as.length = bs.length:=Paired.length pr
 refine ⟨_,(d5 (w5 PassesOwn.never rfl (o6 K (pv 0)) (m6 (i:=2) T4.nd rfl (Or.inl rfl))
  (d9 (p4 (j0 E3 (g9 (d8 K) (pv 2) b9 (fun _ _=>rfl)) (pv 1) (j8 _)) (d9 (i9 (g9 (d8 K) (pv 2) b9 (fun _ _=>rfl)))) j9)))
  (d9 (i9 F9))),?_⟩
 refine ⟨_,rfl,l,rfl,⟨_,SqL.of el⟩,?_⟩
 refine y9 (xs:=as.map V.ref) (fun i σ G=>G = H ∧ (∀ p ∈ bs.take i,p.1 ≠ x) ∧ ∃ v2,σ = [some (.ref l),some (.int x),v2]) ⟨rfl,(fun p hp=>by simp at hp),_,rfl⟩ ?_ ?_ ?_
 ·rintro i σ G _ ⟨rfl,_⟩
  exact SqL.of el
 ·rintro i y σ G hy ⟨rfl,no,v2,rfl⟩
  rw [List.getElem?_map] at hy
  obtain ⟨a,ha,rfl⟩:=Option.map_eq_some_iff.mp hy
  obtain ⟨p,hp,ea⟩:=m9 pr i a ha
  have ea:G a = some (.tup [.int p.1,.int p.2]):=ea
  refine ⟨_,rfl,a,_,_,_,rfl,rfl,SqT.of ea,rfl,_,rfl,rfl,_,rfl,E9 (fun c=>?_) (fun c=>?_)⟩
  ·have c':p.1 = x:=V.int.inj (of_decide_eq_true c)
   refine ⟨_,rfl,a,_,_,_,rfl,rfl,SqT.of ea,rfl,q (some p.2) (.inl ⟨p.2,rfl,?_⟩)⟩
   rw [← c']
   exact List.mem_of_getElem? hp
  ·have c':p.1 ≠ x:=fun z=>c (decide_eq_true (by rw [z]))
   refine ⟨rfl,fun p' hp'=>?_,_,rfl⟩
   rw [List.take_succ,hp] at hp'
   rcases List.mem_append.mp hp' with z | z
   ·exact no p' z
   ·rw [show p' = p by simpa using z]
    exact c'
 ·rintro σ G ⟨rfl,no,v2,rfl⟩
  rw [List.length_map,ln,List.take_length] at no
  exact q none (.inr ⟨rfl,no⟩)
end
theorem eQ (l:List Nat) (f:Nat → Nat):(l.map fun i=>((f i:Nat):Int)).sum = ((l.map f).sum:Nat):=by
 induction l with
 | nil=>rfl
 | cons a l ih =>
  simp only [List.map_cons,List.sum_cons,ih]
  lia
theorem U4.len {H:Hp} {fs:List Addr} {f:Nat → Prs} (h:U4 H fs f) {i:Nat} {x:Addr} (hx:fs[i]? = some x):∃ as:List Addr,H x = some (.lst (as.map V.ref)) ∧ as.length = (f i).length:=by
 obtain ⟨bs,⟨as,e,p⟩,o⟩:=h i x hx
 exact ⟨as,e,(Paired.length p).trans o.1.length_eq⟩
section
variable {P:Program} {w:World} {K:PySem.W.Frag} {mg:Str → Option Value} {base:Heap}
theorem F6:FnScope ["_law_lines","_law_small","_law_depth","_law_many"] ["_law_lines","_law_small","_law_depth"] (d7 (top 50)):=⟨rfl,rfl,rfl,by decide +kernel,rfl,by decide +kernel,by decide +kernel⟩
theorem jI (T:Txt K mg) (D:Def K mg "_law_levels" (top 50) ["_law_lines","_law_small","_law_depth"]):h9 P w K mg base 1 "_law_levels" ["_law_lines","_law_small","_law_depth"] ff:=by
 refine D.ok F6 (fun vs H Q E h=>?_) (fun f cdv A outer s H vs Q E hr h=>?_)
 ·obtain ⟨L,S,d,rfl,_⟩:=h
  rfl
 obtain ⟨L,S,d,rfl,hL,hS,q⟩:=h
 refine ⟨_,(d5 (i6 (i:=3) F6.nd rfl (Or.inl rfl) b9)
  (d5 (bg PassesOwn.never (PW.pt (gT (j0 iP (pv 2) (pv 3) (j8 _)) (da (j0 iP (pv 0) (pv 1) (j8 _))))) (d5 (i6 (i:=0) F6.nd rfl (Or.inl rfl) (i0 n5 (i0 S6 (i0 p8 (pv 0) (pv 1)) b9) (pv 1)))
  (d9 (i6 (i:=3) F6.nd rfl (Or.inl rfl) (i0 p8 (pv 3) b9)))))
  (d9 (i9 (pv 3))))),?_⟩
 refine ⟨fun m σ H'=>H' = H ∧ ∃ (L':Int) (k:Nat),(0 ≤ L' ∧ L' ≤ 64) ∧ k + m = d ∧ k + lev S m L' = lev S d L ∧ σ = [some (.int L'),some (.int S),some (.int (d:Nat)),some (.int (k:Nat))],⟨d,rfl,L,0,hL,Nat.zero_add _,Nat.zero_add _,rfl⟩,?_⟩
 rintro m σ H' ⟨rfl,L',k,hL',hk,hl,rfl⟩
 refine ⟨_,rfl,_,rfl,_,_,rfl,rfl,_,rfl,E9 (fun c=>?_) (fun c=>?_)⟩
 ·have c':((d:Nat):Int) > ((k:Nat):Int):=of_decide_eq_true c
  obtain ⟨m,rfl⟩:∃ m',m = m' + 1:=⟨m - 1,by lia⟩
  refine ⟨_,rfl,_,rfl,_,_,rfl,rfl,_,rfl,E9 (fun c2=>?_) (fun c2=>?_)⟩
  ·have c2':L' > S:=of_decide_eq_true c2
   have e:lev S (m + 1) L' = lev S m ((L' + S - 1) / S) + 1:=if_neg (by lia)
   rw [e] at hl
   refine ⟨fun σ' G=>∃ m',m' < m + 1 ∧ (G = H' ∧ ∃ (L':Int) (k:Nat),(0 ≤ L' ∧ L' ≤ 64) ∧ k + m' = d ∧ k + lev S m' L' = lev S d L ∧ σ' = [some (.int L'),some (.int S),some (.int (d:Nat)),some (.int (k:Nat))]),(fun _ _ h=>h),?_⟩
   refine ⟨_,rfl,_,rfl,_,_,rfl,rfl,_,_,rfl,rfl,_,rfl,_,_,rfl,rfl,⟨by lia,by lia⟩,?_⟩
   refine ⟨_,rfl,_,_,rfl,rfl,m,Nat.lt_succ_self m,rfl,(L' + S - 1) / S,k + 1,fm hS.1 hL'.1 hL'.2,by lia,by lia,rfl⟩
  ·have c2':L' ≤ S:=by
    have:¬ L' > S:=fun z=>c2 (decide_eq_true z)
    lia
   rw [Z1 (.inr c2')] at hl
   rw [← hl] at q
   exact ⟨_,rfl,q⟩
 ·have c':¬ ((d:Nat):Int) > ((k:Nat):Int):=fun z=>c (decide_eq_true z)
  have m0:m = 0:=by lia
  rw [Z1 (.inl m0)] at hl
  rw [← hl] at q
  exact C2 ⟨_,rfl,q⟩
theorem K3:FnScope ["_law_nest","_law_total","_law_inner"] ["_law_nest"] (d7 (top 49)):=⟨rfl,rfl,rfl,by decide +kernel,rfl,by decide +kernel,by decide +kernel⟩
theorem aU (T:Txt K mg) (n k:Nat) (sp:Sp) (C__law_count:h9 P w K mg base k "_law_count" ["_law_nest"] sp) (D:Def K mg "_law_count" (top 49) ["_law_nest"]) (hsp:∀ m,n = m + 1 → sp = aJ m):h9 P w K mg base (k+1) "_law_count" ["_law_nest"] (aJ n):=by
 refine D.ok K3 (fun vs H Q E h=>?_) (fun f cdv A outer s H vs Q E hr h=>?_)
 ·obtain ⟨a,L,S,d,ps,rfl,_⟩:=h
  rfl
 obtain ⟨a,L,S,d,ps,rfl,hd,hL,hS,hN,ok,few,q⟩:=h
 refine ⟨_,(d5 (p4 (j0 E3 (g9 (d8 K) (pv 0) b9 (fun _ _=>rfl)) M9 (j8 _)) (d9 (i9 (i8 (u7 K) rfl T.m_len boot_len (b7 (g9 (d8 K) (pv 0) b9 (fun _ _=>rfl)) d6 m5)))) j9)
  (d5 (i6 (i:=1) K3.nd rfl (Or.inl rfl) (i8 (jS K rfl) rfl T.m_sum boot_sum (b7 (J6 (own:=["_law_bars_here"]) (fr:=[]) rfl (show CompScope ["_law_nest","_law_total","_law_inner"] (d7 (top 49)) _ _ _ from ⟨rfl,by decide +kernel,by decide +kernel,by decide +kernel,by decide +kernel⟩) (o6 K (i0 hG (g9 (d8 K) (pv 0) b9 (fun _ _=>rfl)) (g9 (d8 K) (pv 0) b9 (fun _ _=>rfl)))) (fun cl C s H ex=>⟨(m6 (i:=0) (show (["_law_bars_here"]:List Str).Nodup from by decide +kernel) rfl (Or.inl rfl) (Or.inr rfl)),D7,(i8 (u7 K) rfl T.m_len boot_len (b7 (pv 0) d6 b8))⟩)) d6 M0)))
  (d5 (w5 PassesOwn.never rfl (o6 K (g9 (d8 K) (pv 0) b9 (fun _ _=>rfl))) (m6 (i:=2) K3.nd rfl (Or.inl rfl))
  (d9 (i6 (i:=1) K3.nd rfl (Or.inl rfl) (i0 p8 (pv 1) (m4 C__law_count hr rfl (b7 (pv 2) d6 b8) (by lia))))))
  (d9 (i9 (pv 1)))))),?_⟩
 by_cases c:d = 0 ∨ L ≤ S
 ·obtain ⟨l,bs,e,⟨as,el,pr⟩,so⟩:=hN.plain c
  refine ⟨_,rfl,a,_,_,_,rfl,rfl,SqT.of e,rfl,rfl,_,rfl,V8 ?_⟩
  refine ⟨_,rfl,a,_,_,_,rfl,rfl,SqT.of e,rfl,l,_,rfl,.inl (SqL.of el),?_⟩
  have h1:(as.map V.ref).length = ps.length:=by rw [List.length_map,Paired.length pr,so.1.length_eq]
  rw [h1]
  have:=q H (j7.refl _)
  rw [Z1 c,Nat.mul_zero,Nat.zero_add,Nat.mul_one] at this
  exact this
 ·match d,hd,c,hN,q with
  | 0,_,c,_,_=>exact absurd (.inl rfl) c
  | d + 1,hd,c,hN,q =>
   have c':¬ L ≤ S:=fun z=>c (.inr z)
   rcases hN with ⟨z,_⟩ | ⟨_,ts,fl,al,ll,fs,ms,ls,rfl,NT,e,efl,eal,ell,lf,lls,lm,f1,f2,f3⟩
   ·exact absurd z c'
   obtain ⟨m,rfl⟩:∃ m,n = m + 1:=⟨n - 1,by lia⟩
   obtain rfl:=hsp m rfl
   obtain ⟨r0,r1⟩:=fm hS.1 hL.1 hL.2
   have fewt:ts.length ≤ 64:=by rw [List.length_map] at few; exact few
   refine ⟨_,rfl,a,_,_,_,rfl,rfl,SqT.of e,rfl,rfl,_,rfl,L7 (fun z=>absurd (V.str.inj (of_decide_eq_true z)) (by decide)) ?_⟩
   refine ⟨_,rfl,a,_,_,_,rfl,rfl,SqT.of e,rfl,_,rfl,a,_,_,_,rfl,rfl,SqT.of e,rfl,fl,ll,_,_,rfl,rfl,efl,ell,?_,fun cl hcl=>?_⟩
   ·rw [List.length_map,List.length_map]
    exact Nat.le_trans (show fs.length + ls.length ≤ 128 by lia) (by decide)
   have s1:=g6 hcl (.lst (fs.map V.ref ++ ls.map V.ref))
   have ecl:=d4 (H:=H) (a:=cl) (o:=.lst (fs.map V.ref ++ ls.map V.ref))
   generalize upd H cl _ = G1 at s1 ecl ⊢
   rw [← List.map_append] at ecl
   have lens:∀ i x,(fs ++ ls)[i]? = some x → ∃ as:List Addr,G1 x = some (.lst (as.map V.ref)) ∧ (((List.range fs.length).map fun i=>(((A7 S ts i).length:Nat):Int)) ++ (List.range ls.length).map fun i=>(((C9 S ts i).length:Nat):Int))[i]? = some ((as.length:Nat):Int):=fun i x hx=>by
    by_cases ci:i < fs.length
    ·rw [List.getElem?_append_left ci] at hx
     obtain ⟨as,ea,la⟩:=f1.len hx
     refine ⟨as,s1 _ _ ea,?_⟩
     rw [List.getElem?_append_left (by rw [List.length_map,List.length_range]; exact ci),List.getElem?_map,List.getElem?_range ci,la]
     rfl
    ·rw [List.getElem?_append_right (by lia)] at hx
     obtain ⟨as,ea,la⟩:=f2.len hx
     refine ⟨as,s1 _ _ ea,?_⟩
     have:=(List.getElem?_eq_some_iff.mp hx).1
     rw [List.getElem?_append_right (by rw [List.length_map,List.length_range]; lia),List.getElem?_map,List.length_map,List.length_range,List.getElem?_range this,la]
     rfl
   generalize hns:(((List.range fs.length).map fun i=>(((A7 S ts i).length:Nat):Int)) ++ (List.range ls.length).map fun i=>(((C9 S ts i).length:Nat):Int)) = lns at lens
   have hsum:lns.sum = ((2 * ts.length:Nat):Int):=by
    rw [← hns,List.sum_append,eQ (List.range fs.length) (fun i=>(A7 S ts i).length),eQ (List.range ls.length) (fun i=>(C9 S ts i).length)]
    have h1:=W8 (ts:=ts) (v:=fun t=>t.1.1 / S) (f:=fun t=>(t.1.1 % S,t.2)) (m:=fs.length) fun t ht=>by rw [lf]; exact K7 hS.1 (ok.t ht).1.1 (ok.t ht).1.2
    have h2:=W8 (ts:=ts) (v:=fun t=>t.1.2 / S) (f:=fun t=>(t.2,t.1.2 % S)) (m:=ls.length) fun t ht=>by rw [lls]; exact K7 hS.1 (ok.t ht).2.1 (ok.t ht).2.2
    unfold A7 C9
    rw [h1,h2]
    lia
   have hll:lns.length = (fs ++ ls).length:=by rw [← hns]; simp
   refine ⟨cl,rfl,⟨_,SqL.of ecl⟩,?_⟩
   refine C8 (xs:=(fs ++ ls).map V.ref) (fun i acc σ G=>G = G1 ∧ acc = (lns.take i).map V.int ∧ ∃ v,σ = [v]) ⟨rfl,rfl,_,rfl⟩ ?_ ?_ ?_ ?_ ?_
   ·rw [List.length_map,List.length_append]
    exact Nat.le_trans (show fs.length + ls.length ≤ 128 by lia) (by decide)
   ·rintro i acc σ G ⟨_,rfl,_⟩
    rw [List.length_map,List.length_take]
    lia
   ·rintro i acc σ G _ ⟨rfl,_⟩
    exact SqL.of ecl
   ·rintro i x acc σ G hx ⟨rfl,rfl,v,rfl⟩
    rw [List.getElem?_map] at hx
    obtain ⟨x,hx',rfl⟩:=Option.map_eq_some_iff.mp hx
    obtain ⟨as,ea,la⟩:=lens i x hx'
    refine ⟨_,rfl,x,_,rfl,.inl (SqL.of ea),rfl,?_,_,rfl⟩
    rw [List.take_succ,la,Option.toList_some,List.map_append,List.length_map]
    rfl
   rintro acc σ G ⟨rfl,rfl,v,rfl⟩ nl hnl
   rw [List.length_map,← hll,List.take_length]
   have s2:=g6 hnl (.lst (lns.map V.int))
   refine ⟨nl,lns,rfl,SqL.of d4,?_⟩
   rw [hsum]
   dsimp only [o8,q9]
   have s12:=s1.trans s2
   generalize upd G nl _ = G2 at s2 s12 ⊢
   have e2:=s12 _ _ e
   have eal2:=s12 _ _ eal
   refine ⟨_,rfl,a,_,_,_,rfl,rfl,SqT.of e2,rfl,al,rfl,⟨_,SqL.of eal2⟩,?_⟩
   refine y9 (xs:=ms.map V.ref) (fun i σ G=>j7 G2 G ∧ ∃ v2,σ = [some (.ref a),some (.int ((2 * ts.length + ((List.range i).map fun k=>(C6 S ts k).length).sum * (2 * lev S d ((L + S - 1) / S) + 1):Nat):Int)),v2]) ⟨j7.refl _,_,by simp; rfl⟩ ?_ ?_ ?_
   ·rintro i σ G _ ⟨s,_⟩
    exact SqL.of (s _ _ eal2)
   ·rintro i x σ G hx ⟨s,v2,rfl⟩
    rw [List.getElem?_map] at hx
    obtain ⟨ma,ha,rfl⟩:=Option.map_eq_some_iff.mp hx
    refine ⟨_,rfl,_,rfl,ma,(L + S - 1) / S,S,d,C6 S ts i,rfl,by lia,⟨r0,r1⟩,hS,x5.same (s12.trans s) (f3 i ma ha),Y2 hS.1 ok NT i,Nat.le_trans (dE _ _ _) fewt,fun G' s'=>?_⟩
    refine ⟨_,_,rfl,rfl,s.trans s',some (.ref ma),?_⟩
    have ee:(((2 * ts.length + ((List.range i).map fun k=>(C6 S ts k).length).sum * (2 * lev S d ((L + S - 1) / S) + 1):Nat):Int) + (((C6 S ts i).length * (2 * lev S d ((L + S - 1) / S) + 1):Nat):Int)) = ((2 * ts.length + ((List.range (i + 1)).map fun k=>(C6 S ts k).length).sum * (2 * lev S d ((L + S - 1) / S) + 1):Nat):Int):=by
     generalize 2 * lev S d ((L + S - 1) / S) + 1 = v
     rw [List.range_succ,List.map_append,List.sum_append,Nat.add_mul]
     simp
     lia
    rw [← ee]
    rfl
   ·rintro σ G ⟨s,v2,rfl⟩
    refine ⟨_,rfl,?_⟩
    have h3:=W8 (ts:=ts) (v:=fun t=>t.2) (f:=fun t=>(t.1.1 / S,t.1.2 / S)) (m:=ms.length) fun t ht=>by rw [lm]; exact NT.bd t ht
    have h4:((List.range ms.length).map fun k=>(C6 S ts k).length).sum = ts.length:=h3
    rw [List.length_map,h4]
    have:=q G (s12.trans s)
    rw [show lev S (d + 1) L = lev S d ((L + S - 1) / S) + 1 from if_neg c',List.length_map] at this
    rw [show 2 * ts.length + ts.length * (2 * lev S d ((L + S - 1) / S) + 1) = ts.length * (2 * (lev S d ((L + S - 1) / S) + 1) + 1) by
     generalize lev S d ((L + S - 1) / S) = v
     rw [show 2 * (v + 1) + 1 = (2 * v + 1) + 2 by lia]
     generalize 2 * v + 1 = u
     rw [Nat.mul_add]
     lia]
    exact this
theorem eW (T:Txt K mg) (D:Def K mg "_law_count" (top 49) ["_law_nest"]):∀ n:Nat,h9 P w K mg base (n+1) "_law_count" ["_law_nest"] (aJ n)
 | 0=>aU T 0 0 _ (M4 D 0) D fun m h=>nomatch h
 | n + 1=>aU T (n + 1) (n + 1) _ (eW T D n) D fun m h=>by cases h; rfl
end
section
variable {P:Program} {w:World} {K:PySem.W.Frag} {mg:Str → Option Value} {base:Heap}
theorem C4:FnScope ["_law_nest","_law_line","_law_place","_law_k","_law_rack"] ["_law_nest","_law_line"] (d7 (top 44)):=⟨rfl,rfl,rfl,by decide +kernel,rfl,by decide +kernel,by decide +kernel⟩
theorem af (T:Txt K mg) (n k:Nat) (hk:1 ≤ k) (sp:Sp) (C__law_by_bar:h9 P w K mg base 1 "_law_by_bar" ["_law_bars_here","_law_number"] dq) (C__law_walked:h9 P w K mg base k "_law_walked" ["_law_nest","_law_line"] sp) (D:Def K mg "_law_walked" (top 44) ["_law_nest","_law_line"]) (hsp:∀ m,n = m + 1 → sp = X0 m):h9 P w K mg base (k+1) "_law_walked" ["_law_nest","_law_line"] (X0 n):=by
 refine D.ok C4 (fun vs H Q E h=>?_) (fun f cdv A outer s H vs Q E hr h=>?_)
 ·obtain ⟨a,L,S,d,ps,x,rfl,_⟩:=h
  rfl
 obtain ⟨a,L,S,d,ps,x,rfl,hd,hL,hS,hN,ok,x0,xL,q⟩:=h
 refine ⟨_,(d5 (p4 (j0 E3 (g9 (d8 K) (pv 0) b9 (fun _ _=>rfl)) M9 (j8 _)) (d9 (i9 (m4 C__law_by_bar hr rfl (b7 (g9 (d8 K) (pv 0) b9 (fun _ _=>rfl)) (b7 (pv 1) d6 b8) m5) (by lia)))) j9)
  (d5 (i6 (i:=2) C4.nd rfl (Or.inl rfl) (i0 q5 (pv 1) (g9 (d8 K) (pv 0) b9 (fun _ _=>rfl))))
  (d5 (i6 (i:=3) C4.nd rfl (Or.inl rfl) (m4 C__law_by_bar hr rfl (b7 (g9 (p9 K) (g9 (d8 K) (pv 0) b9 (fun _ _=>rfl)) (i0 n5 (pv 1) (g9 (d8 K) (pv 0) b9 (fun _ _=>rfl))) (fun _ _=>rfl)) (b7 (pv 2) d6 b8) m5) (by lia)))
  (d5 (p4 (j0 cQ (pv 3) F9 (j8 _)) (d9 (i9 F9)) j9)
  (d5 (i6 (i:=4) C4.nd rfl (Or.inl rfl) (m4 C__law_walked hr rfl (b7 (g9 (p9 K) (g9 (d8 K) (pv 0) b9 (fun _ _=>rfl)) (pv 3) (fun _ _=>rfl)) (b7 (i0 n5 (pv 1) (g9 (d8 K) (pv 0) b9 (fun _ _=>rfl))) d6 r6) m5) (by lia)))
  (d5 (p4 (j0 cQ (pv 4) F9 (j8 _)) (d9 (i9 (ig de b9))) j9)
  (d5 (i6 (i:=2) C4.nd rfl (Or.inl rfl) (m4 C__law_by_bar hr rfl (b7 (g9 (p9 K) (g9 (d8 K) (pv 0) b9 (fun _ _=>rfl)) (pv 4) (fun _ _=>rfl)) (b7 (pv 3) d6 b8) m5) (by lia)))
  (d5 (p4 (j0 cQ (pv 2) F9 (j8 _)) (d9 (i9 (ig de b9))) j9)
  (d9 (i9 (i0 p8 (i0 F7 (pv 4) (g9 (d8 K) (pv 0) b9 (fun _ _=>rfl))) (pv 2)))))))))))),?_⟩
 by_cases c:d = 0 ∨ L ≤ S
 ·obtain ⟨l,bs,e,hb,so⟩:=hN.plain c
  refine ⟨_,rfl,a,_,_,_,rfl,rfl,SqT.of e,rfl,rfl,_,rfl,V8 ?_⟩
  exact ⟨_,rfl,a,_,_,_,rfl,rfl,SqT.of e,rfl,_,rfl,l,bs,x,rfl,hb,fun o ho=>q o (ho.perm so.1)⟩
 ·match d,hd,c,hN,q with
  | 0,_,c,_,_=>exact absurd (.inl rfl) c
  | d + 1,hd,c,hN,q =>
   have c':¬ L ≤ S:=fun z=>c (.inr z)
   rcases hN with ⟨z,_⟩ | ⟨_,ts,fl,al,ll,fs,ms,ls,rfl,NT,e,efl,eal,ell,lf,lls,lm,f1,f2,f3⟩
   ·exact absurd z c'
   obtain ⟨m,rfl⟩:∃ m,n = m + 1:=⟨n - 1,by lia⟩
   obtain rfl:=hsp m rfl
   obtain ⟨r0,r1⟩:=fm hS.1 hL.1 hL.2
   have at_:∀ (zs:List Addr) (i:Nat) (h:i < zs.length),atI (zs.map V.ref) (i:Int) = some (.ref zs[i]):=fun zs i h=>C0 (by rw [List.getElem?_map,List.getElem?_eq_getElem h]; rfl)
   obtain ⟨y0,y1⟩:=K7 hS.1 x0 xL
   obtain ⟨i1,hi1⟩:=Int.eq_ofNat_of_zero_le y0
   have l1:i1 < fs.length:=by lia
   obtain ⟨bs,hb,so⟩:=f1 i1 fs[i1] (List.getElem?_eq_getElem l1)
   refine ⟨_,rfl,a,_,_,_,rfl,rfl,SqT.of e,rfl,rfl,_,rfl,L7 (fun z=>absurd (V.str.inj (of_decide_eq_true z)) (by decide)) ?_⟩
   refine ⟨_,rfl,_,rfl,a,_,_,_,rfl,rfl,SqT.of e,rfl,_,_,rfl,rfl,(by show 0 < S; lia),?_⟩
   refine ⟨_,rfl,a,_,_,_,rfl,rfl,SqT.of e,rfl,_,rfl,_,rfl,a,_,_,_,rfl,rfl,SqT.of e,rfl,_,_,rfl,rfl,⟨by lia,by lia⟩,fl,_,_,_,rfl,rfl,SqL.of efl,(show atI (fs.map V.ref) (x / S) = some (.ref fs[i1]) by rw [hi1]; exact at_ fs i1 l1),_,rfl,fs[i1],bs,x % S,rfl,hb,fun o ho=>?_⟩
   replace ho:=ho.perm so.1
   rcases ho with ⟨kk,rfl,hm⟩ | ⟨rfl,no⟩
   ·obtain ⟨t,ht,et⟩:=List.mem_map.mp hm
    obtain ⟨ht1,ht2⟩:=List.mem_filter.mp ht
    have ht2:t.1.1 / S = (i1:Int):=of_decide_eq_true ht2
    have et1:t.1.1 % S = x % S:=congrArg Prod.fst et
    have et2:t.2 = kk:=congrArg Prod.snd et
    have ex:t.1.1 = x:=aF (ht2.trans hi1.symm) et1
    have bk:=NT.bd t ht1
    rw [et2] at bk
    obtain ⟨i3,hi3⟩:=Int.eq_ofNat_of_zero_le bk.1
    have l3:i3 < ms.length:=by lia
    obtain ⟨z0,z1⟩:=K7 hS.1 (ok.t ht1).2.1 (ok.t ht1).2.2
    obtain ⟨i2,hi2⟩:=Int.eq_ofNat_of_zero_le z0
    have l2:i2 < ls.length:=by lia
    obtain ⟨bs2,hb2,so2⟩:=f2 i2 ls[i2] (List.getElem?_eq_getElem l2)
    refine ⟨_,rfl,rfl,_,rfl,C2 ?_⟩
    refine ⟨_,rfl,a,_,_,_,rfl,rfl,SqT.of e,rfl,_,rfl,al,_,_,_,rfl,rfl,SqL.of eal,(show atI (ms.map V.ref) kk = some (.ref ms[i3]) by rw [hi3]; exact at_ ms i3 l3),_,rfl,_,rfl,a,_,_,_,rfl,rfl,SqT.of e,rfl,_,_,rfl,rfl,⟨by lia,by lia⟩,ms[i3],(L + S - 1) / S,S,d,C6 S ts i3,x / S,rfl,by lia,⟨r0,r1⟩,hS,f3 i3 ms[i3] (List.getElem?_eq_getElem l3),Y2 hS.1 ok NT i3,y0,y1,fun o2 ho2=>?_⟩
    have e2:=ho2.is (Y2 hS.1 ok NT i3).n1 (y:=t.1.2 / S) (List.mem_map.mpr ⟨t,List.mem_filter.mpr ⟨ht1,decide_eq_true (by rw [et2]; exact hi3)⟩,by rw [ex]⟩)
    subst e2
    refine ⟨_,rfl,rfl,_,rfl,C2 ?_⟩
    refine ⟨_,rfl,a,_,_,_,rfl,rfl,SqT.of e,rfl,_,rfl,ll,_,_,_,rfl,rfl,SqL.of ell,(show atI (ls.map V.ref) (t.1.2 / S) = some (.ref ls[i2]) by rw [hi2]; exact at_ ls i2 l2),_,rfl,ls[i2],bs2,kk,rfl,hb2,fun o3 ho3=>?_⟩
    have e3:=(ho3.perm so2.1).is (aX hS.1 ok NT i2).n1 (y:=t.1.2 % S) (List.mem_map.mpr ⟨t,List.mem_filter.mpr ⟨ht1,decide_eq_true hi2⟩,by rw [et2]⟩)
    subst e3
    refine ⟨_,rfl,rfl,_,rfl,C2 ?_⟩
    refine ⟨_,rfl,_,rfl,a,_,_,_,rfl,rfl,SqT.of e,rfl,_,_,rfl,rfl,.inr ⟨by lia,by lia⟩,_,rfl,_,_,rfl,rfl,?_⟩
    have ev:t.1.2 / S * S + t.1.2 % S = t.1.2:=Int.ediv_mul_add_emod _ _
    show Q (.int (t.1.2 / S * S + t.1.2 % S)) H
    rw [ev]
    refine q (some t.1.2) (.inl ⟨t.1.2,rfl,List.mem_map.mpr ⟨t,ht1,?_⟩⟩)
    rw [← ex]
   ·refine ⟨_,rfl,rfl,_,rfl,V8 ?_⟩
    refine q none (.inr ⟨rfl,fun p hp z=>?_⟩)
    obtain ⟨t,ht,rfl⟩:=List.mem_map.mp hp
    refine no _ (List.mem_map.mpr ⟨t,List.mem_filter.mpr ⟨ht,decide_eq_true (by rw [z]; exact hi1)⟩,rfl⟩) ?_
    show t.1.1 % S = x % S
    rw [z]
theorem cv (T:Txt K mg) (C__law_by_bar:h9 P w K mg base 1 "_law_by_bar" ["_law_bars_here","_law_number"] dq) (D:Def K mg "_law_walked" (top 44) ["_law_nest","_law_line"]):∀ n:Nat,h9 P w K mg base (n+2) "_law_walked" ["_law_nest","_law_line"] (X0 n)
 | 0=>af T 0 1 (by decide) _ C__law_by_bar (M4 D 1) D fun m h=>nomatch h
 | n + 1=>af T (n + 1) (n + 2) (by lia) _ C__law_by_bar (cv T C__law_by_bar D n) D fun m h=>by cases h; rfl
end
structure y8 where
 i:Int
 c:Int
 m:Int
 o:Int
 e:Int
def y8.row (h:y8):List Int:=[h.i,h.c,h.m,h.o,h.e]
structure y8.Ok (h:y8):Prop where
 i:1 ≤ h.i ∧ h.i ≤ 12
 c:1 ≤ h.c ∧ h.c ≤ 12
 m:1 ≤ h.m ∧ h.m ≤ 24
 o:1 ≤ h.o ∧ h.o ≤ 12
 e:1 ≤ h.e ∧ h.e ≤ 12
theorem kh {a b:Int} (ha:1 ≤ a ∧ a ≤ 12) (hb:1 ≤ b ∧ b ≤ 12):1 ≤ a * b ∧ a * b ≤ 144:=by
 have h1:1 * 1 ≤ a * b:=Int.mul_le_mul ha.1 hb.1 (by decide) (by lia)
 have h2:a * b ≤ 12 * 12:=Int.mul_le_mul ha.2 hb.2 (by lia) (by decide)
 lia
theorem y8.Ok.ic {h:y8} (k:h.Ok):1 ≤ h.i * h.c ∧ h.i * h.c ≤ 144:=kh k.i k.c
theorem y8.Ok.oe {h:y8} (k:h.Ok):1 ≤ h.o * h.e ∧ h.o * h.e ≤ 144:=kh k.o k.e
def iE:Sp:=fun vs H Q _=>∃ c:Int,vs = [.int c] ∧ ∀ (p:Addr) (h:y8) (H':Hp),h.Ok → j7 H H' → H' p = some (.tup (h.row.map V.int)) → Q (.ref p) H'
def Q9 (j:Nat):Int:=if j = 2 then 24 else 12
theorem rA {i:Nat} {x:V} (h:([12,12,24,12,12].map V.int)[i]? = some x):x = .int (Q9 i):=by
 match i,h with
 | 0,h=>exact (Option.some.inj h).symm
 | 1,h=>exact (Option.some.inj h).symm
 | 2,h=>exact (Option.some.inj h).symm
 | 3,h=>exact (Option.some.inj h).symm
 | 4,h=>exact (Option.some.inj h).symm
theorem jF (i:Nat):12 ≤ Q9 i ∧ Q9 i ≤ 24:=by
 unfold Q9
 split <;> lia
theorem nQ {xs:List Int} (l5:xs.length = 5) (hx:∀ j x,xs[j]? = some x → 1 ≤ x ∧ x ≤ Q9 j):∃ h:y8,h.Ok ∧ h.row = xs:=by
 match xs,l5 with
 | [a,b,c,d,e],_=>exact ⟨⟨a,b,c,d,e⟩,⟨hx 0 a rfl,hx 1 b rfl,hx 2 c rfl,hx 3 d rfl,hx 4 e rfl⟩,rfl⟩
section
variable {P:Program} {w:World} {K:PySem.W.Frag} {mg:Str → Option Value} {base:Heap}
theorem F5:FnScope ["_law_cell","_law_left","_law_number","_law_big","_law_small"] ["_law_cell"] (d7 (top 39)):=⟨rfl,rfl,rfl,by decide +kernel,rfl,by decide +kernel,by decide +kernel⟩
theorem kI (T:Txt K mg) (C__law_mixed:h9 P w K mg base 1 "_law_mixed" ["_law_cell","_law_k"] aG) (C__law_digit:h9 P w K mg base 1 "_law_digit" ["_law_left","_law_many"] X2) (D:Def K mg "_law_hall" (top 39) ["_law_cell"]):h9 P w K mg base 2 "_law_hall" ["_law_cell"] iE:=by
 refine D.ok F5 (fun vs H Q E h=>?_) (fun f cdv A outer s H vs Q E hr h=>?_)
 ·obtain ⟨c,rfl,_⟩:=h
  rfl
 obtain ⟨c,rfl,q⟩:=h
 refine ⟨_,(d5 (p4 (j0 E3 (i0 q5 (pv 0) b9) b9 (j8 _)) (d5 (i6 (i:=1) F5.nd rfl (Or.inr rfl) (F8 (b7 (i0 n5 (i8 bb rfl T.m_abs boot_abs (b7 (pv 0) d6 b8)) b9) d6 r6)))
  (d9 (i9 (J8 (S9 K) rfl T.m_tuple boot_tuple (b7 (J6 (own:=["_law_most"]) (fr:=[(1,"_law_left")]) rfl (show CompScope ["_law_cell","_law_left","_law_number","_law_big","_law_small"] (d7 (top 39)) _ _ _ from ⟨rfl,by decide +kernel,by decide +kernel,by decide +kernel,by decide +kernel⟩) (iH K (w4 (b7 b9 (b7 b9 (b7 b9 (b7 b9 (b7 b9 d6 m7) m7) m7) m7) m7))) (fun cl C s H ex=>⟨(m6 (i:=0) (show (["_law_most","_law_left"]:List Str).Nodup from by decide +kernel) rfl (Or.inl rfl) (Or.inr rfl)),D7,(i0 p8 b9 (m4 C__law_digit hr rfl (b7 (pv 1) (b7 (pv 0) d6 b8) b8)))⟩)) d6 M0))))) j9)
  (d5 (i6 (i:=2) F5.nd rfl (Or.inl rfl) (m4 C__law_mixed hr rfl (b7 (pv 0) (b7 b9 d6 m7) b8)))
  (d5 (p4 (j0 E3 (i0 q5 (pv 2) b9) b9 (j8 _)) (d5 (i6 (i:=3) F5.nd rfl (Or.inl rfl) (w4 (b7 (i0 p8 b9 (i0 q5 (i0 n5 (pv 2) b9) b9)) (b7 (i0 p8 b9 (i0 q5 (i0 n5 (pv 2) b9) b9)) (b7 (i0 p8 b9 (i0 q5 (i0 n5 (pv 2) b9) b9)) d6 r6) r6) r6)))
  (d9 (i9 (i0 ip (pv 3) (w4 (b7 (i0 p8 b9 (i0 q5 (i0 n5 (pv 2) b9) b9)) (b7 (i0 p8 b9 (i0 q5 (i0 n5 (pv 2) b9) b9)) d6 r6) r6)))))) j9)
  (d5 (i6 (i:=4) F5.nd rfl (Or.inl rfl) (w4 (b7 (i0 p8 b9 (i0 q5 (i0 n5 (pv 2) b9) b9)) (b7 (i0 p8 b9 (i0 q5 (i0 n5 (pv 2) b9) b9)) (b7 (i0 p8 b9 (i0 q5 (i0 n5 (pv 2) b9) b9)) d6 r6) r6) r6)))
  (d9 (i9 (i0 ip (pv 4) (w4 (b7 (i0 p8 b9 (i0 q5 (i0 n5 (pv 2) b9) b9)) (b7 (i0 p8 b9 (i0 q5 (i0 n5 (pv 2) b9) b9)) d6 r6) r6))))))))),?_⟩
 refine ⟨_,rfl,_,_,rfl,rfl,(by show (0:Int) < 2; decide),rfl,_,rfl,?_⟩
 refine E9 (fun _=>?_) (fun _=>?_)
 ·refine ⟨_,rfl,_,rfl,_,_,rfl,rfl,⟨by decide,by decide⟩,(by show 1 ≤ sizeLine; decide),fun l hl=>?_⟩
  dsimp only
  generalize (if c < 0 then -c else c) / 2 = n0
  have s1:=g6 hl (.lst [.int n0])
  have el:=d4 (H:=H) (a:=l) (o:=.lst [.int n0])
  generalize upd H l (.lst [.int n0]) = H1 at s1 el ⊢
  refine ⟨(by show 5 ≤ sizeLine; decide),fun tp htp=>?_⟩
  have s2:=g6 htp (.tup ([12,12,24,12,12].map V.int))
  have etp:=d4 (H:=H1) (a:=tp) (o:=.tup ([12,12,24,12,12].map V.int))
  change j7 H1 (upd H1 tp (.tup [.int 12,.int 12,.int 24,.int 12,.int 12])) at s2
  change upd H1 tp (.tup [.int 12,.int 12,.int 24,.int 12,.int 12]) tp = _ at etp
  generalize upd H1 tp (.tup [.int 12,.int 12,.int 24,.int 12,.int 12]) = H2 at s2 etp ⊢
  have el2:=s2 _ _ el
  have ntl:tp ≠ l:=fun z=>by rw [z,el2] at etp; cases etp
  refine ⟨tp,rfl,⟨_,SqT.of etp⟩,?_⟩
  refine fT (xs:=[12,12,24,12,12].map V.int) (fun i acc σ H'=>rg l H2 H' ∧ (∃ n,H' l = some (.lst [.int n])) ∧ (∃ xs:List Int,acc = xs.map V.int ∧ xs.length = i ∧ ∀ j x,xs[j]? = some x → 1 ≤ x ∧ x ≤ Q9 j) ∧ ∃ v,σ = [v,some (.ref l)])
   ⟨fun _ _ _ z=>z,⟨_,el2⟩,⟨[],rfl,rfl,fun j x hx=>by simp at hx⟩,none,rfl⟩ (by decide) (fun i acc σ H' g=>?_) (fun i acc σ H' _ g=>SqT.of (g.1 _ _ ntl etp)) ?_ ?_
  ·obtain ⟨_,_,⟨xs,rfl,hl,_⟩,_⟩:=g
   rw [List.length_map,hl]
   exact Nat.le_refl _
  ·rintro i x acc σ G hx ⟨sx,⟨n,en⟩,⟨xs,rfl,hxl,hxb⟩,v,rfl⟩
   obtain rfl:=rA hx
   have mb:=jF i
   refine ⟨_,rfl,_,rfl,l,n,_,rfl,en,by lia,by lia,_,_,rfl,rfl,?_⟩
   have b1:=Int.emod_nonneg n (show Q9 i ≠ 0 by lia)
   have b2:=Int.emod_lt_of_pos n (show 0 < Q9 i by lia)
   refine ⟨fun b u nb z=>by rw [g7 nb]; exact sx b u nb z,⟨_,d4⟩,⟨xs ++ [1 + n % Q9 i],by rw [List.map_append]; rfl,by rw [List.length_append,hxl]; rfl,fun j x hj=>?_⟩,_,rfl⟩
   rcases Nat.lt_or_ge j xs.length with z | z
   ·rw [List.getElem?_append_left z] at hj
    exact hxb j x hj
   ·rw [List.getElem?_append_right z] at hj
    have:j = i:=by
     have:=(List.getElem?_eq_some_iff.mp hj).1
     rw [List.length_singleton] at this
     lia
    subst this
    rw [hxl,Nat.sub_self] at hj
    cases Option.some.inj hj
    lia
  ·rintro acc σ G ⟨sx,⟨n,en⟩,⟨xs,rfl,hxl,hxb⟩,v,rfl⟩ r hr0
   obtain ⟨h,ok,hrow⟩:=nQ hxl hxb
   subst hrow
   have er:=d4 (H:=G) (a:=r) (o:=.lst (h.row.map V.int))
   have s3:=g6 hr0 (.lst (h.row.map V.int))
   generalize upd G r (.lst (h.row.map V.int)) = G1 at er s3 ⊢
   refine ⟨r,_,rfl,.inl ⟨SqL.of er,fun t ht=>q t h _ ok (fun b u z=>?_) d4⟩⟩
   exact g6 ht _ _ _ (s3 _ _ (sx b u (i4 z hl) (s2 _ _ (s1 _ _ z))))
 ·refine ⟨_,rfl,c,0,rfl,by decide,fun v v0 v1=>?_⟩
  refine ⟨_,rfl,_,_,rfl,rfl,(by show (0:Int) < 5; decide),rfl,_,rfl,?_⟩
  refine E9 (fun _=>?_) (fun _=>?_)
  ·refine ⟨_,rfl,_,_,rfl,rfl,⟨by decide,by decide⟩,_,_,rfl,rfl,(by show (0:Int) < 7; decide),_,_,rfl,rfl,_,rfl,_,_,rfl,rfl,⟨by decide,by decide⟩,_,_,rfl,rfl,(by show (0:Int) < 7; decide),_,_,rfl,rfl,_,rfl,_,_,rfl,rfl,⟨by decide,by decide⟩,_,_,rfl,rfl,(by show (0:Int) < 24; decide),_,_,rfl,rfl,(by show 3 ≤ sizeLine; decide),fun b hb=>?_⟩
   have s1:=g6 hb (.tup [.int (6 + v / 5 % 7),.int (6 + v / 35 % 7),.int (1 + v / 245 % 24)])
   have eb:=d4 (H:=H) (a:=b) (o:=.tup [.int (6 + v / 5 % 7),.int (6 + v / 35 % 7),.int (1 + v / 245 % 24)])
   generalize upd H b (.tup [.int (6 + v / 5 % 7),.int (6 + v / 35 % 7),.int (1 + v / 245 % 24)]) = H1 at s1 eb ⊢
   refine ⟨_,rfl,_,rfl,_,_,rfl,rfl,⟨by decide,by decide⟩,_,_,rfl,rfl,(by show (0:Int) < 7; decide),_,_,rfl,rfl,_,rfl,_,_,rfl,rfl,⟨by decide,by decide⟩,_,_,rfl,rfl,(by show (0:Int) < 7; decide),_,_,rfl,rfl,(by show 2 ≤ sizeLine; decide),fun b2 hb2=>?_⟩
   have s2:=g6 hb2 (.tup [.int (6 + v / 5880 % 7),.int (6 + v / 41160 % 7)])
   have eb2:=d4 (H:=H1) (a:=b2) (o:=.tup [.int (6 + v / 5880 % 7),.int (6 + v / 41160 % 7)])
   generalize upd H1 b2 (.tup [.int (6 + v / 5880 % 7),.int (6 + v / 41160 % 7)]) = H2 at s2 eb2 ⊢
   refine ⟨b,b2,_,_,rfl,rfl,s2 _ _ eb,eb2,(by show 5 ≤ sizeLine; decide),fun p H3 s3 ep=>?_⟩
   exact q p ⟨6 + v / 5 % 7,6 + v / 35 % 7,1 + v / 245 % 24,6 + v / 5880 % 7,6 + v / 41160 % 7⟩ H3 ⟨by show 1 ≤ 6 + v / 5 % 7 ∧ 6 + v / 5 % 7 ≤ 12; lia,by show 1 ≤ 6 + v / 35 % 7 ∧ 6 + v / 35 % 7 ≤ 12; lia,by show 1 ≤ 1 + v / 245 % 24 ∧ 1 + v / 245 % 24 ≤ 24; lia,by show 1 ≤ 6 + v / 5880 % 7 ∧ 6 + v / 5880 % 7 ≤ 12; lia,by show 1 ≤ 6 + v / 41160 % 7 ∧ 6 + v / 41160 % 7 ≤ 12; lia⟩ (s1.trans (s2.trans s3)) ep
  ·refine ⟨_,rfl,_,_,rfl,rfl,⟨by decide,by decide⟩,_,_,rfl,rfl,(by show (0:Int) < 5; decide),_,_,rfl,rfl,_,rfl,_,_,rfl,rfl,⟨by decide,by decide⟩,_,_,rfl,rfl,(by show (0:Int) < 4; decide),_,_,rfl,rfl,_,rfl,_,_,rfl,rfl,⟨by decide,by decide⟩,_,_,rfl,rfl,(by show (0:Int) < 6; decide),_,_,rfl,rfl,(by show 3 ≤ sizeLine; decide),fun b hb=>?_⟩
   have s1:=g6 hb (.tup [.int (1 + v / 5 % 5),.int (1 + v / 25 % 4),.int (1 + v / 100 % 6)])
   have eb:=d4 (H:=H) (a:=b) (o:=.tup [.int (1 + v / 5 % 5),.int (1 + v / 25 % 4),.int (1 + v / 100 % 6)])
   generalize upd H b (.tup [.int (1 + v / 5 % 5),.int (1 + v / 25 % 4),.int (1 + v / 100 % 6)]) = H1 at s1 eb ⊢
   refine ⟨_,rfl,_,rfl,_,_,rfl,rfl,⟨by decide,by decide⟩,_,_,rfl,rfl,(by show (0:Int) < 5; decide),_,_,rfl,rfl,_,rfl,_,_,rfl,rfl,⟨by decide,by decide⟩,_,_,rfl,rfl,(by show (0:Int) < 4; decide),_,_,rfl,rfl,(by show 2 ≤ sizeLine; decide),fun b2 hb2=>?_⟩
   have s2:=g6 hb2 (.tup [.int (1 + v / 600 % 5),.int (1 + v / 3000 % 4)])
   have eb2:=d4 (H:=H1) (a:=b2) (o:=.tup [.int (1 + v / 600 % 5),.int (1 + v / 3000 % 4)])
   generalize upd H1 b2 (.tup [.int (1 + v / 600 % 5),.int (1 + v / 3000 % 4)]) = H2 at s2 eb2 ⊢
   refine ⟨b,b2,_,_,rfl,rfl,s2 _ _ eb,eb2,(by show 5 ≤ sizeLine; decide),fun p H3 s3 ep=>?_⟩
   exact q p ⟨1 + v / 5 % 5,1 + v / 25 % 4,1 + v / 100 % 6,1 + v / 600 % 5,1 + v / 3000 % 4⟩ H3 ⟨by show 1 ≤ 1 + v / 5 % 5 ∧ 1 + v / 5 % 5 ≤ 12; lia,by show 1 ≤ 1 + v / 25 % 4 ∧ 1 + v / 25 % 4 ≤ 12; lia,by show 1 ≤ 1 + v / 100 % 6 ∧ 1 + v / 100 % 6 ≤ 24; lia,by show 1 ≤ 1 + v / 600 % 5 ∧ 1 + v / 600 % 5 ≤ 12; lia,by show 1 ≤ 1 + v / 3000 % 4 ∧ 1 + v / 3000 % 4 ≤ 12; lia⟩ (s1.trans (s2.trans s3)) ep
end
def aI (K:PySem.W.Frag) (d:y8 → Int):Sp:=fun vs H Q _=>∃ (a:Addr) (h:y8) (x:Int),vs = [.ref a,.int x] ∧ SqT K H a (h.row.map V.int) ∧ h.Ok ∧ ∀ p,H p = none → Q (.ref p) (upd H p (.tup [.int (x / d h),.int (x % d h)]))
section
variable {P:Program} {w:World} {K:PySem.W.Frag} {mg:Str → Option Value} {base:Heap}
theorem fA:FnScope ["hall","caller"] ["hall","caller"] (d7 (top 8)):=⟨rfl,rfl,rfl,by decide +kernel,rfl,by decide +kernel,by decide +kernel⟩
theorem fg (T:Txt K mg) (D:Def K mg "place_in" (top 8) ["hall","caller"]):h9 P w K mg base 1 "place_in" ["hall","caller"] (aI K y8.c):=by
 refine D.ok fA (fun vs H Q E h=>?_) (fun f cdv A outer s H vs Q E hr h=>?_)
 ·obtain ⟨a,h,x,rfl,_⟩:=h
  rfl
 obtain ⟨a,h,x,rfl,hS,ok,q⟩:=h
 have b:=ok.c
 refine ⟨_,(d9 (i9 (i8 N7 rfl T.m_divmod boot_divmod (b7 (pv 1) (b7 (g9 (d8 K) (pv 0) b9 (fun _ _=>rfl)) d6 m5) b8)))),?_⟩
 exact ⟨_,rfl,_,rfl,a,_,_,_,rfl,rfl,hS,rfl,_,_,rfl,⟨by lia,by lia⟩,q⟩
theorem dN:FnScope ["hall","end"] ["hall","end"] (d7 (top 9)):=⟨rfl,rfl,rfl,by decide +kernel,rfl,by decide +kernel,by decide +kernel⟩
theorem cT (T:Txt K mg) (D:Def K mg "place_out" (top 9) ["hall","end"]):h9 P w K mg base 1 "place_out" ["hall","end"] (aI K y8.e):=by
 refine D.ok dN (fun vs H Q E h=>?_) (fun f cdv A outer s H vs Q E hr h=>?_)
 ·obtain ⟨a,h,x,rfl,_⟩:=h
  rfl
 obtain ⟨a,h,x,rfl,hS,ok,q⟩:=h
 have b:=ok.e
 refine ⟨_,(d9 (i9 (i8 N7 rfl T.m_divmod boot_divmod (b7 (pv 1) (b7 (g9 (d8 K) (pv 0) b9 (fun _ _=>rfl)) d6 m5) b8)))),?_⟩
 exact ⟨_,rfl,_,rfl,a,_,_,_,rfl,rfl,hS,rfl,_,_,rfl,⟨by lia,by lia⟩,q⟩
end
inductive R3 (K:PySem.W.Frag) (H:Hp):V → Prop where
 | int (i:Int):R3 K H (.int i)
 | odd {x:V} {t:Value} {b1 b2:Bool} (ni:∀ i,x ≠ .int i) (ty:O6 K H x t) (h1:PySem.W.kitOne K t (.type "int") = some b1) (h2:PySem.W.kitOne K t (.type "bool") = some b2) (hb:b1 = false ∨ b2 = true):R3 K H x
inductive N6 (K:PySem.W.Frag) (H:Hp):V → Option (List V) → Prop where
 | tup {a:Addr} {xs:List V} (e:H a = some (.tup xs)) (h:∀ x ∈ xs,R3 K H x):N6 K H (.ref a) (some xs)
 | no {x:V} {t:Value} (ty:O6 K H x t) (h:PySem.W.kitOne K t (.type "tuple") = some false):N6 K H x none
theorem O6.same {K:PySem.W.Frag} {H H':Hp} {x:V} {t:Value} (s:j7 H H') (h:O6 K H x t):O6 K H' x t:=by
 cases h with
 | non=>exact .non
 | bl b=>exact .bl b
 | int i=>exact .int i
 | str y=>exact .str y
 | flt y=>exact .flt y
 | lst e=>exact .lst (s _ _ e)
 | frz e=>exact .frz (s _ _ e)
 | tup e=>exact .tup (s _ _ e)
 | dK e=>exact .dK (s _ _ e)
 | dT e=>exact .dT (s _ _ e)
 | ins e a b c d f=>exact .ins (s _ _ e) a b c d f
theorem R3.same {K:PySem.W.Frag} {H H':Hp} {x:V} (s:j7 H H') (h:R3 K H x):R3 K H' x:=by
 cases h with
 | int i=>exact .int i
 | odd ni ty h1 h2 hb=>exact .odd ni (O6.same s ty) h1 h2 hb
theorem N6.same {K:PySem.W.Frag} {H H':Hp} {x:V} {o:Option (List V)} (s:j7 H H') (h:N6 K H x o):N6 K H' x o:=by
 cases h with
 | tup e q=>exact .tup (s _ _ e) fun x hx=>R3.same s (q x hx)
 | no ty q=>exact .no (O6.same s ty) q
def D6 (x:V) (lo hi:Int):Bool:=match x with
 | .int i=>decide (lo ≤ i) && decide (i ≤ hi)
 | _=>false
def isInt:V → Bool
 | .int _=>true
 | _=>false
def cx (K:PySem.W.Frag):Sp:=fun vs H Q _=>∃ (x:V) (lo hi:Int),vs = [x,.int lo,.int hi] ∧ R3 K H x ∧ Q (.bl (D6 x lo hi)) H
def iS (K:PySem.W.Frag):Sp:=fun vs H Q _=>∃ x:V,vs = [x] ∧ R3 K H x ∧ Q (.bl (isInt x)) H
section
variable {P:Program} {w:World} {K:PySem.W.Frag} {mg:Str → Option Value} {base:Heap}
theorem dn:FnScope ["thing"] ["thing"] (d7 (top 6)):=⟨rfl,rfl,rfl,by decide +kernel,rfl,by decide +kernel,by decide +kernel⟩
theorem dM (T:Txt K mg) (D:Def K mg "is_number" (top 6) ["thing"]):h9 P w K mg base 1 "is_number" ["thing"] (iS K):=by
 refine D.ok dn (fun vs H Q E h=>?_) (fun f cdv A outer s H vs Q E hr h=>?_)
 ·obtain ⟨x,rfl,_⟩:=h
  rfl
 obtain ⟨x,rfl,hp,q⟩:=h
 refine ⟨_,(d9 (i9 (Y8 (i8 (u4 K) rfl T.m_isinstance boot_isinstance (b7 (pv 0) (b7 (I9 (v:=.ty "int") rfl T.m_int boot_int rfl) d6 b8) b8)) (Z5 (kK (i8 (u4 K) rfl T.m_isinstance boot_isinstance (b7 (pv 0) (b7 (I9 (v:=.ty "bool") rfl T.m_bool boot_bool rfl) d6 b8) b8))))))),?_⟩
 cases hp with
 | int i =>
  refine ⟨_,rfl,_,_,_,true,rfl,.int i,ad,_,rfl,V8 ?_⟩
  exact ⟨_,rfl,_,_,_,false,rfl,.int i,W6,_,rfl,q⟩
 | @odd _ t b1 b2 ni ty h1 h2 hb =>
  have e:isInt x = false:=by
   cases x with
   | int i=>exact absurd rfl (ni i)
   | _=>rfl
  rw [e] at q
  refine ⟨_,rfl,_,_,_,b1,rfl,ty,h1,_,rfl,?_⟩
  cases b1 with
  | false=>exact C2 q
  | true =>
   have hb2:b2 = true:=hb.elim (fun z=>nomatch z) id
   subst hb2
   exact V8 ⟨_,rfl,_,_,_,true,rfl,ty,h2,_,rfl,q⟩
theorem fz:FnScope ["thing","least","most"] ["thing","least","most"] (d7 (top 7)):=⟨rfl,rfl,rfl,by decide +kernel,rfl,by decide +kernel,by decide +kernel⟩
theorem fw (T:Txt K mg) (C_is_number:h9 P w K mg base 1 "is_number" ["thing"] (iS K)) (D:Def K mg "is_whole" (top 7) ["thing","least","most"]):h9 P w K mg base 2 "is_whole" ["thing","least","most"] (cx K):=by
 refine D.ok fz (fun vs H Q E h=>?_) (fun f cdv A outer s H vs Q E hr h=>?_)
 ·obtain ⟨x,lo,hi,rfl,_⟩:=h
  rfl
 obtain ⟨x,lo,hi,rfl,hp,q⟩:=h
 refine ⟨_,(d9 (i9 (Y8 (m4 C_is_number hr rfl (b7 (pv 0) d6 b8)) (Z5 (lu dQ dQ (pv 1) (pv 0) (pv 2)))))),?_⟩
 refine ⟨_,rfl,x,rfl,hp,_,rfl,?_⟩
 cases hp with
 | int i =>
  refine V8 ?_
  refine ⟨_,rfl,_,rfl,_,_,rfl,rfl,_,rfl,?_⟩
  refine E9 (fun c=>?_) (fun c=>?_)
  ·refine ⟨_,rfl,_,_,rfl,rfl,?_⟩
   have e:D6 (.int i) lo hi = decide (i ≤ hi):=by show (decide (lo ≤ i) && decide (i ≤ hi)) = _; rw [c,Bool.true_and]
   rw [e] at q
   exact q
  ·have e:D6 (.int i) lo hi = false:=by show (decide (lo ≤ i) && decide (i ≤ hi)) = _; rw [Bool.eq_false_iff.mpr c,Bool.false_and]
   rw [e] at q
   exact q
 | @odd _ t b1 b2 ni ty h1 h2 hb =>
  have e0:isInt x = false:=by
   cases x with
   | int i=>exact absurd rfl (ni i)
   | _=>rfl
  have e:D6 x lo hi = false:=by
   cases x with
   | int i=>exact absurd rfl (ni i)
   | _=>rfl
  rw [e] at q
  rw [e0]
  exact C2 q
end
def entryB (o:Option (List V)) (F S:Int):Bool:=match o with
 | some [a,b]=>D6 a 0 (F - 1) && D6 b 0 (S - 1)
 | _=>false
def Q0 (o:Option (List V)):Int × Int:=match o with
 | some [.int a,.int b]=>(a,b)
 | _=>(0,0)
theorem jK {o:Option (List V)} {F S:Int} (h:entryB o F S = true):o = some [.int (Q0 o).1,.int (Q0 o).2]:=by
 match o,h with
 | some [a,b],h =>
  have h':(D6 a 0 (F - 1) && D6 b 0 (S - 1)) = true:=h
  rw [Bool.and_eq_true] at h'
  cases a with
  | int i =>
   cases b with
   | int j=>rfl
   | _=>cases h'.2
  | _=>cases h'.1
def bu (ps:List (Int × Int)) (F S:Int) (o:Option (List V)):Bool:=!entryB o F S || (decide ((Q0 o).1 ∈ ps.map Prod.fst) || decide ((Q0 o).2 ∈ ps.map Prod.snd))
def B0 (F S:Int):List (Option (List V)) → List (Int × Int) → Nat → Option Nat
 | [],_,_=>none
 | o :: os,ps,i=>if bu ps F S o = true then some i else B0 F S os (ps ++ [Q0 o]) (i + 1)
theorem gM {F S:Int} {os:List (Option (List V))} {ps:List (Int × Int)} {i:Nat} {o:Option (List V)} (ho:os[i]? = some o) (b:bu ps F S o = true):B0 F S (os.drop i) ps i = some i:=by
 have h:=List.getElem?_eq_some_iff.mp ho
 rw [List.drop_eq_getElem_cons h.1,h.2]
 unfold B0
 rw [if_pos b]
theorem lC {F S:Int} {os:List (Option (List V))} {ps:List (Int × Int)} {i:Nat} {o:Option (List V)} (ho:os[i]? = some o) (b:bu ps F S o = false):B0 F S (os.drop i) ps i = B0 F S (os.drop (i + 1)) (ps ++ [Q0 o]) (i + 1):=by
 have h:=List.getElem?_eq_some_iff.mp ho
 rw [List.drop_eq_getElem_cons h.1,h.2]
 conv=>lhs; unfold B0
 rw [if_neg (by rw [b]; decide)]
theorem jR {F S:Int} {os:List (Option (List V))} {ps:List (Int × Int)} {i:Nat} (h:os.length ≤ i):B0 F S (os.drop i) ps i = none:=by
 rw [List.drop_eq_nil_of_le h]
 rfl
def rO:Option Nat → V
 | none=>.non
 | some i=>.int (i:Nat)
def lV (K:PySem.W.Frag) (H:Hp) (xs:List V) (os:List (Option (List V))):Prop:=Paired (N6 K H) xs os
def X6 (kvs:List (Key × V)) (ns:List Int):Prop:=∀ a:Int,(r9 kvs (.inl a)).isSome = decide (a ∈ ns)
theorem X6.put {kvs:List (Key × V)} {ns:List Int} {a:Int} {v:V} (h:X6 kvs ns):X6 (B7 kvs (.inl a) v) (ns ++ [a]):=fun b=>by
 rw [Q3]
 by_cases e:b = a
 ·subst e
  rw [if_pos rfl]
  simp
 ·rw [if_neg (fun z=>e (by injection z)),h b]
  simp [e]
theorem iq {kvs:List (Key × V)} {k:Key} {v:V}:(B7 kvs k v).length ≤ kvs.length + 1:=by
 unfold B7
 split <;> simp
def cJ (K:PySem.W.Frag):Sp:=fun vs H Q _=>∃ (x:V) (o:Option (List V)) (F S:Int),vs = [x,.int F,.int S] ∧ N6 K H x o ∧ Q (.bl (entryB o F S)) H
def iX (K:PySem.W.Frag):Sp:=fun vs H Q _=>∃ (l:Addr) (xs:List V) (os:List (Option (List V))) (F S:Int),vs = [.ref l,.int F,.int S] ∧ SqL K H l xs ∧ lV K H xs os ∧ xs.length ≤ 64 ∧ ∀ H',j7 H H' → Q (rO (B0 F S os [] 0)) H'
section
variable {P:Program} {w:World} {K:PySem.W.Frag} {mg:Str → Option Value} {base:Heap}
theorem fN:FnScope ["thing","firsts","seconds"] ["thing","firsts","seconds"] (d7 (top 14)):=⟨rfl,rfl,rfl,by decide +kernel,rfl,by decide +kernel,by decide +kernel⟩
theorem fO (T:Txt K mg) (C_is_whole:h9 P w K mg base 2 "is_whole" ["thing","least","most"] (cx K)) (D:Def K mg "is_entry" (top 14) ["thing","firsts","seconds"]):h9 P w K mg base 3 "is_entry" ["thing","firsts","seconds"] (cJ K):=by
 refine D.ok fN (fun vs H Q E h=>?_) (fun f cdv A outer s H vs Q E hr h=>?_)
 ·obtain ⟨x,o,F,S,rfl,_⟩:=h
  rfl
 obtain ⟨x,o,F,S,rfl,hx,q⟩:=h
 refine ⟨_,(d5 (p4 (PW.pt (C5 (A8 (p7 K (i8 (u4 K) rfl T.m_isinstance boot_isinstance (b7 (pv 0) (b7 (I9 (v:=.ty "tuple") rfl T.m_tuple boot_tuple rfl) d6 b8) b8)) (fun _=>rfl))) (K2 (j0 S0 (i8 (u7 K) rfl T.m_len boot_len (b7 (pv 0) d6 b8)) b9 (j8 _))))) (d9 (i9 A2)) j9)
  (d9 (i9 (Y8 (m4 C_is_whole hr rfl (b7 (g9 (d8 K) (pv 0) b9 (fun _ _=>rfl)) (b7 b9 (b7 (i0 S6 (pv 1) b9) d6 r6) m7) m5)) (Z5 (m4 C_is_whole hr rfl (b7 (g9 (d8 K) (pv 0) b9 (fun _ _=>rfl)) (b7 b9 (b7 (i0 S6 (pv 2) b9) d6 r6) m7) m5))))))),?_⟩
 cases hx with
 | no ty hk=>exact ⟨_,rfl,_,_,_,false,rfl,ty,hk,false,rfl,V8 q⟩
 | @tup a xs e hp =>
  refine ⟨_,rfl,_,_,_,true,rfl,.tup e,N8,true,rfl,C2 ?_⟩
  refine ⟨_,rfl,a,_,rfl,.inr (SqT.of e),rfl,_,rfl,?_⟩
  match xs,e,hp,q with
  | [u,v],e,hp,q =>
   refine L7 (by simp) ?_
   refine ⟨_,rfl,a,_,_,_,rfl,rfl,SqT.of e,rfl,_,rfl,_,_,rfl,rfl,u,0,F - 1,rfl,hp u (by simp),_,rfl,?_⟩
   refine E9 (fun c=>?_) (fun c=>?_)
   ·have e':entryB (some [u,v]) F S = D6 v 0 (S - 1):=by
     show (D6 u 0 (F - 1) && D6 v 0 (S - 1)) = _
     rw [c,Bool.true_and]
    rw [e'] at q
    exact ⟨_,rfl,a,_,_,_,rfl,rfl,SqT.of e,rfl,_,rfl,_,_,rfl,rfl,v,0,S - 1,rfl,hp v (by simp),q⟩
   ·have e':entryB (some [u,v]) F S = false:=by
     show (D6 u 0 (F - 1) && D6 v 0 (S - 1)) = _
     rw [Bool.eq_false_iff.mpr c]
     rfl
    rw [e'] at q
    exact q
  | [],e,hp,q=>exact pM (by simp) q
  | [u],e,hp,q=>exact pM (by simp) q
  | u :: v :: y :: t,e,hp,q=>exact pM (by simp; lia) q
theorem J5:FnScope ["things","firsts","seconds","ones","others","place","thing"] ["things","firsts","seconds"] (d7 (top 15)):=⟨rfl,rfl,rfl,by decide +kernel,rfl,by decide +kernel,by decide +kernel⟩
set_option maxHeartbeats 2000000 in
theorem lX (T:Txt K mg) (C_is_entry:h9 P w K mg base 3 "is_entry" ["thing","firsts","seconds"] (cJ K)) (D:Def K mg "first_wrong" (top 15) ["things","firsts","seconds"]):h9 P w K mg base 4 "first_wrong" ["things","firsts","seconds"] (iX K):=by
 refine D.ok J5 (fun vs H Q E h=>?_) (fun f cdv A outer s H vs Q E hr h=>?_)
 ·obtain ⟨l,xs,os,F,S,rfl,_⟩:=h
  rfl
 obtain ⟨l,xs,os,F,S,rfl,hl,hT,few,q⟩:=h
 have lx:xs.length = os.length:=Paired.length hT
 refine ⟨_,(d5 (i6 (i:=3) J5.nd rfl (Or.inl rfl) X3)
  (d5 (i6 (i:=4) J5.nd rfl (Or.inl rfl) X3)
  (d5 (w5 PassesOwn.never rfl (iN K rfl T.m_enumerate (b7 (pv 0) d6 b8)) (om K rfl J5.nd (Nm.mk (i:=5) rfl (Or.inl rfl) (Or.inl rfl)) (Nm.mk (i:=6) rfl (Or.inl rfl) (Or.inl rfl)))
  (d5 (p4 (PW.pt (C5 (A8 (p7 K (m4 C_is_entry hr rfl (b7 (pv 6) (b7 (pv 1) (b7 (pv 2) d6 b8) b8) b8)) (fun _=>rfl))) (C5 (ba (aN (L9 hr) (g9 (d8 K) (pv 6) b9 (fun _ _=>rfl)) (pv 3))) (K2 (ba (aN (L9 hr) (g9 (d8 K) (pv 6) b9 (fun _ _=>rfl)) (pv 4))))))) (d9 (i9 (pv 5))) j9)
  (d5 (U1 (L9 hr) (pv 3) (g9 (d8 K) (pv 6) b9 (fun _ _=>rfl)) A2 rfl)
  (d9 (U1 (L9 hr) (pv 4) (g9 (d8 K) (pv 6) b9 (fun _ _=>rfl)) A2 rfl)))))
  (d9 (i9 F9))))),?_⟩
 refine fun d1 hd1=>?_
 have s1:=g6 hd1 (.dK [])
 have e1:=d4 (H:=H) (a:=d1) (o:=.dK [])
 generalize upd H d1 (.dK []) = H1 at s1 e1 ⊢
 refine fun d2 hd2=>?_
 have s2':=g6 hd2 (.dK [])
 have e2:=d4 (H:=H1) (a:=d2) (o:=.dK [])
 generalize upd H1 d2 (.dK []) = H2 at s2' e2 ⊢
 have s2:=s1.trans s2'
 have hd2':H d2 = none:=s1.free hd2
 have n12:d1 ≠ d2:=i4 e1 hd2
 refine ⟨_,rfl,l,xs,rfl,s2.seq hl,?_⟩
 refine ez (xs:=xs) (fun i σ G=>j7 H G ∧ ∃ (ps:List (Int × Int)) (kv1 kv2:List (Key × V)) (v5 v6:Option V),B0 F S os [] 0 = B0 F S (os.drop i) ps i ∧ G d1 = some (.dK kv1) ∧ G d2 = some (.dK kv2) ∧ X6 kv1 (ps.map Prod.fst) ∧ X6 kv2 (ps.map Prod.snd) ∧ kv1.length ≤ i ∧ kv2.length ≤ i ∧ σ = [some (.ref l),some (.int F),some (.int S),some (.ref d1),some (.ref d2),v5,v6])
  ⟨s2,[],[],[],none,none,rfl,s2' _ _ e1,e2,(fun a=>rfl),(fun a=>rfl),Nat.le_refl _,Nat.le_refl _,rfl⟩ (fun i σ G _ g=>g.1.seq hl) ?_ ?_
 ·rintro i x σ G p hx ⟨sG,ps,kv1,kv2,v5,v6,fe,f1,f2,k1,k2,l1,l2,rfl⟩ hp
  obtain ⟨o,ho,hth⟩:=m9 hT i x hx
  have hi:=(List.getElem?_eq_some_iff.mp hx).1
  have sp:=g6 hp (.tup [.int (i:Nat),x])
  have ep:=d4 (H:=G) (a:=p) (o:=.tup [.int (i:Nat),x])
  have f1':=sp _ _ f1
  have f2':=sp _ _ f2
  have sG':=sG.trans sp
  generalize upd G p (.tup [.int (i:Nat),x]) = G1 at sp ep f1' f2' sG' ⊢
  refine ⟨p,[.int (i:Nat),x],rfl,SqT.of ep,rfl,.int (i:Nat),[x],rfl,x,[],rfl,rfl,?_⟩
  have bad:bu ps F S o = true → Q (.int (i:Nat)) G1:=fun b=>by
   have:=q G1 sG'
   rw [fe,gM ho b] at this
   exact this
  refine ⟨_,rfl,_,rfl,_,rfl,x,o,F,S,rfl,hth.same sG',?_⟩
  cases hb:entryB o F S with
  | false =>
   refine ⟨_,rfl,V8 ⟨_,rfl,bad ?_⟩⟩
   unfold bu
   rw [hb]
   rfl
  | true =>
   refine ⟨_,rfl,C2 ?_⟩
   have eo:=jK hb
   have hth1:=hth.same sG'
   rw [eo] at hth1
   cases hth1 with
   | @tup t _ et hpt =>
   refine ⟨_,rfl,t,_,_,_,rfl,rfl,SqT.of et,rfl,_,rfl,d1,_,rfl,N4.k (k:=.inl (Q0 o).1) f1',_,rfl,?_⟩
   rw [k1]
   refine E9 (fun c1=>⟨_,rfl,bad ?_⟩) (fun c1=>?_)
   ·unfold bu
    rw [hb,c1]
    rfl
   refine ⟨_,rfl,t,_,_,_,rfl,rfl,SqT.of et,rfl,_,rfl,d2,_,rfl,N4.k (k:=.inl (Q0 o).2) f2',_,rfl,?_⟩
   rw [k2]
   refine E9 (fun c2=>⟨_,rfl,bad ?_⟩) (fun c2=>?_)
   ·unfold bu
    rw [hb,c2,Bool.or_true]
    rfl
   have nb:bu ps F S o = false:=by
    unfold bu
    rw [hb,Bool.eq_false_iff.mpr c1,Bool.eq_false_iff.mpr c2]
    rfl
   refine ⟨_,rfl,_,rfl,t,_,_,_,rfl,rfl,SqT.of et,rfl,d1,_,rfl,aB.k (k:=.inl (Q0 o).1) f1' (Nat.lt_of_le_of_lt l1 (B5 (by lia))),?_⟩
   have nt1:t ≠ d1:=fun z=>by rw [z,f1'] at et; cases et
   have et2:upd G1 d1 (.dK (B7 kv1 (.inl (Q0 o).1) (.bl true))) t = some (.tup [.int (Q0 o).1,.int (Q0 o).2]):=by rw [g7 nt1]; exact et
   have f22:upd G1 d1 (.dK (B7 kv1 (.inl (Q0 o).1) (.bl true))) d2 = some (.dK kv2):=by rw [g7 (Ne.symm n12)]; exact f2'
   have f12:=d4 (H:=G1) (a:=d1) (o:=.dK (B7 kv1 (.inl (Q0 o).1) (.bl true)))
   have sG2:j7 H (upd G1 d1 (.dK (B7 kv1 (.inl (Q0 o).1) (.bl true)))):=j7.put sG' hd1
   generalize upd G1 d1 (.dK (B7 kv1 (.inl (Q0 o).1) (.bl true))) = G2 at et2 f22 f12 sG2 ⊢
   refine ⟨_,rfl,_,rfl,t,_,_,_,rfl,rfl,SqT.of et2,rfl,d2,_,rfl,aB.k (k:=.inl (Q0 o).2) f22 (Nat.lt_of_le_of_lt l2 (B5 (by lia))),?_⟩
   refine ⟨j7.put sG2 hd2',ps ++ [Q0 o],_,_,_,_,fe.trans (lC ho nb),by rw [g7 n12]; exact f12,d4,?_,?_,Nat.le_trans iq (by lia),Nat.le_trans iq (by lia),rfl⟩
   ·rw [List.map_append]
    exact k1.put
   ·rw [List.map_append]
    exact k2.put
 ·rintro σ G ⟨sG,ps,kv1,kv2,v5,v6,fe,f1,f2,k1,k2,l1,l2,rfl⟩
  have:=q G sG
  rw [fe,jR (by lia)] at this
  exact this
end
def x6 (h:y8) (es:List Int):List Int:=B1 (es.map fun e=>e / h.e)
def iM (K:PySem.W.Frag):Sp:=fun vs H Q _=>∃ (a p:Addr) (h:y8) (es:List Int),vs = [.ref a,.ref p] ∧ SqT K H a (h.row.map V.int) ∧ h.Ok ∧ (SqT K H p (es.map V.int) ∨ SqL K H p (es.map V.int)) ∧ es.length < 64 ∧ ∀ (l:Addr) (H':Hp),j7 H H' → H l = none → H' l = some (.lst ((x6 h es).map V.int)) → Q (.ref l) H'
section
variable {P:Program} {w:World} {K:PySem.W.Frag} {mg:Str → Option Value} {base:Heap}
theorem fE:FnScope ["hall","ends"] ["hall","ends"] (d7 (top 10)):=⟨rfl,rfl,rfl,by decide +kernel,rfl,by decide +kernel,by decide +kernel⟩
theorem lp (T:Txt K mg) (C_place_out:h9 P w K mg base 1 "place_out" ["hall","end"] (aI K y8.e)) (D:Def K mg "racks_of" (top 10) ["hall","ends"]):h9 P w K mg base 2 "racks_of" ["hall","ends"] (iM K):=by
 refine D.ok fE (fun vs H Q E h=>?_) (fun f cdv A outer s H vs Q E hr h=>?_)
 ·obtain ⟨a,p,h,es,rfl,_⟩:=h
  rfl
 obtain ⟨a,p,h,es,rfl,hH,ok,hS,h64,q⟩:=h
 have hl:(es.map V.int).length = es.length:=List.length_map _
 have sz:(es.map V.int).length ≤ sizeLine:=by rw [hl]; exact Nat.le_of_lt (B5 (by lia))
 have fin:∀ (H':Hp),j7 H H' → ∀ l,H' l = none → oF K P w [.ref l] (upd H' l (.lst ((es.take (es.map V.int).length).map fun e=>V.int (e / h.e)))) fun x H1=>dX P w [x] H1 Q:=fun H' s1 l hl'=>by
  rw [hl,List.take_length]
  have e1:upd H' l (.lst (es.map fun e=>V.int (e / h.e))) l = some (.lst ((es.map fun e=>e / h.e).map V.int)):=by rw [d4,List.map_map]; rfl
  have s2:=s1.trans (g6 hl' (.lst (es.map fun e=>V.int (e / h.e))))
  generalize upd H' l (.lst (es.map fun e=>V.int (e / h.e))) = H2 at e1 s2 ⊢
  refine ⟨l,_,rfl,SqL.of e1,by rw [List.length_map]; lia,fun l2 hl2=>?_⟩
  refine ⟨l2,_,rfl,d4,by rw [List.length_map]; lia,fun l3 hl3=>?_⟩
  exact q l3 _ ((s2.trans (g6 hl2 _)).trans (g6 hl3 _)) ((s2.trans (g6 hl2 _)).free hl3) d4
 rcases hS with hS | hS
 ·refine ⟨_,(d9 (i9 (i8 (O2 P w rfl) rfl T.m_sorted boot_sorted (b7 (J8 (Z7 K P w rfl) rfl T.m_set boot_set (b7 (J6 (own:=["end"]) (fr:=[(0,"hall")]) rfl (show CompScope ["hall","ends"] (d7 (top 10)) _ _ _ from ⟨rfl,by decide +kernel,by decide +kernel,by decide +kernel,by decide +kernel⟩) (iH K (pv 1)) (fun cl C s H ex=>⟨(m6 (i:=0) (show (["end","hall"]:List Str).Nodup from by decide +kernel) rfl (Or.inl rfl) (Or.inr rfl)),D7,(g9 (d8 K) (m4 C_place_out hr rfl (b7 (pv 1) (b7 (pv 0) d6 b8) b8)) b9 (fun _ _=>rfl))⟩)) d6 M0)) d6 w6)))),?_⟩
  refine ⟨_,rfl,p,rfl,⟨_,hS⟩,?_⟩
  refine fT (xs:=es.map V.int) (fun i acc σ H'=>j7 H H' ∧ acc = (es.take i).map (fun e=>V.int (e / h.e)) ∧ ∃ v,σ = [v,some (.ref a)])
   ⟨j7.refl H,rfl,none,rfl⟩ sz (fun i acc σ H' g=>?_) (fun i acc σ H' _ g=>j7.seqT g.1 hS) ?_ ?_
  ·obtain ⟨_,rfl,_⟩:=g
   rw [List.length_map,List.length_take]
   lia
  ·rintro i y acc σ H' hy ⟨s1,rfl,v,rfl⟩
   rw [List.getElem?_map] at hy
   obtain ⟨e,he,rfl⟩:=Option.map_eq_some_iff.mp hy
   refine ⟨_,rfl,_,rfl,a,h,e,rfl,j7.seqT s1 hH,ok,fun r hr2=>⟨r,_,_,_,rfl,rfl,SqT.of d4,rfl,s1.trans (g6 hr2 _),?_,_,rfl⟩⟩
   rw [List.take_succ,he,List.map_append]
   rfl
  ·rintro acc σ H' ⟨s1,rfl,v,rfl⟩ l hl'
   exact fin H' s1 l hl'
 ·refine ⟨_,(d9 (i9 (i8 (O2 P w rfl) rfl T.m_sorted boot_sorted (b7 (J8 (Z7 K P w rfl) rfl T.m_set boot_set (b7 (J6 (own:=["end"]) (fr:=[(0,"hall")]) rfl (show CompScope ["hall","ends"] (d7 (top 10)) _ _ _ from ⟨rfl,by decide +kernel,by decide +kernel,by decide +kernel,by decide +kernel⟩) (o6 K (pv 1)) (fun cl C s H ex=>⟨(m6 (i:=0) (show (["end","hall"]:List Str).Nodup from by decide +kernel) rfl (Or.inl rfl) (Or.inr rfl)),D7,(g9 (d8 K) (m4 C_place_out hr rfl (b7 (pv 1) (b7 (pv 0) d6 b8) b8)) b9 (fun _ _=>rfl))⟩)) d6 M0)) d6 w6)))),?_⟩
  refine ⟨_,rfl,p,rfl,⟨_,hS⟩,?_⟩
  refine C8 (xs:=es.map V.int) (fun i acc σ H'=>j7 H H' ∧ acc = (es.take i).map (fun e=>V.int (e / h.e)) ∧ ∃ v,σ = [v,some (.ref a)])
   ⟨j7.refl H,rfl,none,rfl⟩ sz (fun i acc σ H' g=>?_) (fun i acc σ H' _ g=>g.1.seq hS) ?_ ?_
  ·obtain ⟨_,rfl,_⟩:=g
   rw [List.length_map,List.length_take]
   lia
  ·rintro i y acc σ H' hy ⟨s1,rfl,v,rfl⟩
   rw [List.getElem?_map] at hy
   obtain ⟨e,he,rfl⟩:=Option.map_eq_some_iff.mp hy
   refine ⟨_,rfl,_,rfl,a,h,e,rfl,j7.seqT s1 hH,ok,fun r hr2=>⟨r,_,_,_,rfl,rfl,SqT.of d4,rfl,s1.trans (g6 hr2 _),?_,_,rfl⟩⟩
   rw [List.take_succ,he,List.map_append]
   rfl
  ·rintro acc σ H' ⟨s1,rfl,v,rfl⟩ l hl'
   exact fin H' s1 l hl'
end
structure Call where
 c:Int
 es:List Int
 k:Int
structure Call.In (k:Call) (h:y8):Prop where
 c:0 ≤ k.c ∧ k.c < h.i * h.c
 rise:k.es.Pairwise (· < ·)
 es:∀ e ∈ k.es,0 ≤ e ∧ e < h.o * h.e
 some:k.es ≠ []
 few:k.es.length ≤ 9
 k:0 ≤ k.k ∧ k.k < h.m
theorem dW {L:Int}:∀ (ps qs:Prs) (i:Nat),(∀ p ∈ ps,(0 ≤ p.1 ∧ p.1 < L) ∧ 0 ≤ p.2 ∧ p.2 < L) → ((qs ++ ps).map Prod.fst).Nodup → ((qs ++ ps).map Prod.snd).Nodup → B0 L L (ps.map fun p=>some [V.int p.1,V.int p.2]) qs i = none
 | [],_,_,_,_,_=>rfl
 | p :: ps,qs,i,hb,n1,n2=>by
  have bp:=hb p (List.mem_cons_self ..)
  have e1:entryB (some [V.int p.1,V.int p.2]) L L = true:=by
   show ((decide (0 ≤ p.1) && decide (p.1 ≤ L - 1)) && (decide (0 ≤ p.2) && decide (p.2 ≤ L - 1))) = true
   rw [decide_eq_true bp.1.1,decide_eq_true (show p.1 ≤ L - 1 by lia),decide_eq_true bp.2.1,decide_eq_true (show p.2 ≤ L - 1 by lia)]
   rfl
  have m1:¬ p.1 ∈ qs.map Prod.fst:=fun z=>by
   rw [List.map_append,List.nodup_append] at n1
   exact n1.2.2 _ z _ (List.mem_cons_self ..) rfl
  have m2:¬ p.2 ∈ qs.map Prod.snd:=fun z=>by
   rw [List.map_append,List.nodup_append] at n2
   exact n2.2.2 _ z _ (List.mem_cons_self ..) rfl
  have nb:bu qs L L (some [V.int p.1,V.int p.2]) = false:=by
   unfold bu
   rw [e1,decide_eq_false (show ¬ (Q0 (some [V.int p.1,V.int p.2])).1 ∈ qs.map Prod.fst from m1),decide_eq_false (show ¬ (Q0 (some [V.int p.1,V.int p.2])).2 ∈ qs.map Prod.snd from m2)]
   rfl
  rw [List.map_cons]
  unfold B0
  rw [if_neg (by rw [nb]; decide)]
  refine dW ps (qs ++ [p]) (i + 1) (fun q hq=>hb q (List.mem_cons_of_mem _ hq)) ?_ ?_
  ·rw [List.append_assoc]; exact n1
  ·rw [List.append_assoc]; exact n2
theorem am {β:Type} {R:V → β → Prop}:∀ {as:List Addr} {bs:List β},Paired (fun a b=>R (.ref a) b) as bs → Paired R (as.map V.ref) bs
 | _,_,.nil=>.nil
 | _,_,.cons h t=>.cons h (am t)
def fP:Sp:=fun vs H Q _=>∃ (L S:Int) (d:Nat) (l:Addr) (ps:Prs),vs = [.int L,.int S,.ref l,.int (d:Nat)] ∧ d ≤ 6 ∧ (0 ≤ L ∧ L ≤ 64) ∧ (2 ≤ S ∧ S ≤ 8) ∧ F4 H l ps ∧ ps.length ≤ 60 ∧ p5 L ps ∧ ∀ (a:Addr) (H':Hp),j7 H H' → x5 H' S d L ps a → Q (.ref a) H'
section
variable {P:Program} {w:World} {K:PySem.W.Frag} {mg:Str → Option Value} {base:Heap}
theorem bh:FnScope ["lines","small","turns","depth","place"] ["lines","small","turns","depth"] (d7 (top 31)):=⟨rfl,rfl,rfl,by decide +kernel,rfl,by decide +kernel,by decide +kernel⟩
theorem jk (T:Txt K mg) (C_first_wrong:h9 P w K mg base 4 "first_wrong" ["things","firsts","seconds"] (iX K)) (C_right_nest:h9 P w K mg base 16 "right_nest" ["lines","small","turns","depth"] (mW 6)) (D:eX K mg "nest_of" (top 31) ["lines","small","turns","depth"] [.int 6]):Y3 P w K mg base 17 "nest_of" ["lines","small","turns","depth"] [.int 6] fP:=by
 refine D.ok bh (fun vs H Q E h=>?_) (fun f cdv A outer s H vs Q E hr h=>?_)
 ·obtain ⟨L,S,d,l,ps,rfl,_⟩:=h
  rfl
 obtain ⟨L,S,d,l,ps,rfl,hd,hL,hS,hb,few,ok,q⟩:=h
 refine ⟨_,(d5 (i6 (i:=4) bh.nd rfl (Or.inl rfl) (m4 C_first_wrong hr rfl (b7 (pv 2) (b7 (pv 0) (b7 (pv 0) d6 b8) b8) b8)))
  (d5 (p4 (j0 dm (pv 4) F9 (j8 _)) (d9 eY) j9)
  (d9 (i9 (m4 C_right_nest hr rfl (b7 (pv 0) (b7 (pv 1) (b7 (pv 2) (b7 (pv 3) d6 b8) b8) b8) b8)))))),?_⟩
 obtain ⟨as,el,pr⟩:=id hb
 have ln:as.length = ps.length:=Paired.length pr
 refine ⟨_,rfl,_,rfl,_,rfl,l,as.map V.ref,ps.map fun p=>some [V.int p.1,V.int p.2],L,L,rfl,SqL.of el,?_,by rw [List.length_map]; lia,fun H1 s1=>?_⟩
 ·refine K0 (am (Paired.mapP pr fun a p z=>?_))
  exact N6.tup z fun x hx=>by
   rcases List.mem_cons.mp hx with y | y
   ·rw [y]; exact .int _
   ·rw [List.mem_singleton.mp y]; exact .int _
 rw [dW ps [] 0 ok.bd ok.n1 ok.n2]
 refine ⟨_,rfl,rfl,_,rfl,C2 ?_⟩
 exact ⟨_,rfl,_,rfl,_,rfl,_,rfl,L,S,d,l,ps,rfl,hd,hL,hS,hb.same s1,few,ok,fun a H' s' hN=>q a H' (s1.trans s') hN⟩
end
def Z4 (H:Hp) (p:Addr) (k:Call):Prop:=∃ e:Addr,H e = some (.tup (k.es.map V.int)) ∧ H p = some (.tup [.int k.c,.ref e,.int k.k])
theorem Z4.mono {H H':Hp} {p:Addr} {k:Call} (s:∀ b xs,H b = some (.tup xs) → H' b = some (.tup xs)) (h:Z4 H p k):Z4 H' p k:=by
 obtain ⟨e,h1,h2⟩:=h
 exact ⟨e,s _ _ h1,s _ _ h2⟩
def A3 (H:Hp) (as:List Addr) (ks:List Call):Prop:=Paired (Z4 H) as ks
theorem A3.mono {H H':Hp} {as:List Addr} {ks:List Call} (s:∀ b xs,H b = some (.tup xs) → H' b = some (.tup xs)) (h:A3 H as ks):A3 H' as ks:=Paired.mapP h fun a k z=>Z4.mono s z
theorem A3.same {H H':Hp} {as:List Addr} {ks:List Call} (s:j7 H H') (h:A3 H as ks):A3 H' as ks:=h.mono fun b xs z=>s _ _ z
theorem B2 {K:PySem.W.Frag} {H H':Hp} {a:Addr} {xs:List V} (e:j7 H H') (h:SqT K H a xs):SqT K H' a xs:=by
 rcases h with (h | ⟨o,h⟩) | h
 ·exact .inl (.inl (e _ _ h))
 ·exact .inl (.inr ⟨o,e _ _ h⟩)
 ·exact .inr h
def A1 (h:y8) (k:Call):Bool:=decide (1 < (x6 h k.es).length)
def iK (c:Int):List (Str × V):=[("caller",.int c)]
def iF (C:Addr):Sp:=fun vs H Q _=>∃ (e:Addr) (v:V),vs = [.ref e,v] ∧ H e = some (W2 e C none) ∧ ∀ (dx:Addr) (H':Hp),H dx = none → dx ≠ e → (∀ b,b ≠ e → b ≠ dx → H' b = H b) → H' e = some (W2 e C (some dx)) → H' dx = some (XdO dx [("caller",v)]) → Q .non H'
def S2 (K:PySem.W.Frag):Sp:=fun vs H Q _=>∃ (p a:Addr) (h:y8) (k:Call),vs = [.ref p,.ref a] ∧ SqT K H p (h.row.map V.int) ∧ h.Ok ∧ Z4 H a k ∧ k.In h ∧ ∀ (l:Addr) (H':Hp),j7 H H' → H' l = some (.lst (((k.c / h.c) :: x6 h k.es).map V.int)) → Q (.ref l) H'
def lF (K:PySem.W.Frag) (C:Addr):Sp:=fun vs H Q E=>∃ (p l:Addr) (h:y8) (as:List Addr) (ks:List Call),vs = [.ref p,.ref l] ∧ SqT K H p (h.row.map V.int) ∧ h.Ok ∧ H l = some (.lst (as.map V.ref)) ∧ A3 H as ks ∧ (∀ k ∈ ks,k.In h) ∧
 ((∀ k ∈ ks,A1 h k = false) → ∀ H',j7 H H' → Q .non H') ∧ ∀ (j:Nat) (k:Call) (dx:Addr) (H':Hp),ks[j]? = some k → A1 h k = true → (∀ k' ∈ ks.take j,A1 h k' = false) → j7 H H' → H' dx = some (XdO dx (iK k.c)) → E (.ref C) (some dx) H'
theorem jX (h:y8) (es:List Int):(x6 h es).length ≤ es.length:=by
 unfold x6
 have:=Z6 (es.map fun e=>e / h.e)
 rwa [List.length_map] at this
section
variable {P:Program} {w:World} {K:PySem.W.Frag} {mg:Str → Option Value} {base:Heap} {C_HallError C_TooFull C_NoTurns C_Wide:Addr}
theorem Z0:FnScope ["self","caller"] ["self","caller"] (d7 (U2 (top 4) 0)):=⟨rfl,rfl,rfl,by decide +kernel,rfl,by decide +kernel,by decide +kernel⟩
theorem kT (T:Txt K mg) (Z:kE K mg C_HallError C_TooFull C_NoTurns C_Wide) (D:oh K C_Wide "__init__" "Wide.__init__" (U2 (top 4) 0) ["self","caller"] [] noKw):aL P w K mg base 1 C_Wide "__init__" ["self","caller"] [] noKw (iF C_Wide):=by
 refine D.ok Z0 (fun vs H Q E h=>?_) (fun f cdv A outer s H vs Q E hr h=>?_)
 ·obtain ⟨e,v,rfl,_⟩:=h
  rfl
 obtain ⟨e,v,rfl,he,q⟩:=h
 refine ⟨_,(d9 (re K (pv 0) (pv 1) rfl)),?_⟩
 refine ⟨_,rfl,_,rfl,e,C_Wide,rfl,he,Z.n_Wide,Z.x_Wide.mo,Z.f_Wide_caller,fun dx hdx=>?_⟩
 have ne:dx ≠ e:=fun z=>by rw [z,he] at hdx; cases hdx
 exact q dx _ hdx ne (fun b n1 n2=>by rw [g7 n2,g7 n1]) (by rw [g7 (Ne.symm ne),d4]) d4
theorem bP:FnScope ["hall","call"] ["hall","call"] (d7 (top 12)):=⟨rfl,rfl,rfl,by decide +kernel,rfl,by decide +kernel,by decide +kernel⟩
theorem cV (T:Txt K mg) (C_place_in:h9 P w K mg base 1 "place_in" ["hall","caller"] (aI K y8.c)) (C_racks_of:h9 P w K mg base 2 "racks_of" ["hall","ends"] (iM K)) (D:Def K mg "call_racks" (top 12) ["hall","call"]):h9 P w K mg base 3 "call_racks" ["hall","call"] (S2 K):=by
 refine D.ok bP (fun vs H Q E h=>?_) (fun f cdv A outer s H vs Q E hr h=>?_)
 ·obtain ⟨p,a,h,k,rfl,_⟩:=h
  rfl
 obtain ⟨p,a,h,k,rfl,hp,ok,⟨e,ee,ea⟩,hin,q⟩:=h
 refine ⟨_,(d9 (i9 (i0 hG (F8 (b7 (g9 (d8 K) (m4 C_place_in hr rfl (b7 (pv 0) (b7 (g9 (d8 K) (pv 1) b9 (fun _ _=>rfl)) d6 m5) b8)) b9 (fun _ _=>rfl)) d6 m5)) (m4 C_racks_of hr rfl (b7 (pv 0) (b7 (g9 (d8 K) (pv 1) b9 (fun _ _=>rfl)) d6 m5) b8))))),?_⟩
 have f9:=hin.few
 have rf:=jX h k.es
 refine ⟨_,rfl,_,rfl,a,_,_,_,rfl,rfl,SqT.of ea,rfl,p,h,k.c,rfl,hp,ok,fun t ht=>?_⟩
 have s1:=g6 ht (.tup [.int (k.c / h.c),.int (k.c % h.c)])
 have et:=d4 (H:=H) (a:=t) (o:=.tup [.int (k.c / h.c),.int (k.c % h.c)])
 generalize upd H t _ = H1 at s1 et ⊢
 refine ⟨t,_,_,_,rfl,rfl,SqT.of et,rfl,(by show 1 ≤ sizeLine; decide),fun l1 hl1=>?_⟩
 have s2:=s1.trans (g6 hl1 (.lst [.int (k.c / h.c)]))
 have e1:=d4 (H:=H1) (a:=l1) (o:=.lst [.int (k.c / h.c)])
 generalize upd H1 l1 _ = H2 at s2 e1 ⊢
 refine ⟨_,rfl,_,rfl,a,_,_,_,rfl,rfl,SqT.of (s2 _ _ ea),rfl,p,e,h,k.es,rfl,B2 s2 hp,ok,.inl (SqT.of (s2 _ _ ee)),by lia,fun l2 H3 s3 hl2 e2=>?_⟩
 refine ⟨l1,l2,_,_,rfl,rfl,s3 _ _ e1,e2,?_,fun l3 hl3=>?_⟩
 ·rw [List.length_map]
  exact Nat.le_trans (show 1 + (x6 h k.es).length ≤ 10 by lia) (by decide)
 refine q l3 _ ((s2.trans s3).trans (g6 hl3 _)) ?_
 rw [d4]
 rfl
theorem T0:FnScope ["hall","calls","call"] ["hall","calls"] (d7 (top 32)):=⟨rfl,rfl,rfl,by decide +kernel,rfl,by decide +kernel,by decide +kernel⟩
theorem nk (T:Txt K mg) (Z:kE K mg C_HallError C_TooFull C_NoTurns C_Wide) (C_call_racks:h9 P w K mg base 3 "call_racks" ["hall","call"] (S2 K)) (C_Wide___init__:aL P w K mg base 1 C_Wide "__init__" ["self","caller"] [] noKw (iF C_Wide)) (D:Def K mg "refuse_wide" (top 32) ["hall","calls"]):R5 P w K mg base 4 "refuse_wide" ["hall","calls"] [] (lF K C_Wide):=by
 refine D.okF T0 (fun vs H Q E h=>?_) (fun f cdv A outer s H vs Q E hr h=>?_)
 ·obtain ⟨p,l,h,as,ks,rfl,_⟩:=h
  rfl
 obtain ⟨p,l,h,as,ks,rfl,hp,ok,el,cs,hin,q,qE⟩:=h
 have ln:as.length = ks.length:=Paired.length cs
 refine ⟨_,(d9 (w5 PassesOwn.leaving rfl (o6 K (pv 1)) (m6 (i:=2) T0.nd rfl (Or.inl rfl))
  (d9 (p4 (j0 iP (i8 (u7 K) rfl T.m_len boot_len (b7 (m4 C_call_racks hr rfl (b7 (pv 0) (b7 (pv 2) d6 b8) b8)) d6 w6)) b9 (j8 _)) (d9 (jn lc Z.i_Wide C_Wide___init__ hr hr.hd rfl (b7 (g9 (d8 K) (pv 2) b9 (fun _ _=>rfl)) d6 m5))) j9)))),?_⟩
 refine ⟨_,rfl,l,rfl,⟨_,SqL.of el⟩,?_⟩
 refine y9 (xs:=as.map V.ref) (fun i σ G=>j7 H G ∧ (∀ k ∈ ks.take i,A1 h k = false) ∧ ∃ v2,σ = [some (.ref p),some (.ref l),v2]) ⟨j7.refl _,(fun k hk=>by simp at hk),_,rfl⟩ ?_ ?_ ?_
 ·rintro i σ G _ ⟨s,_⟩
  exact SqL.of (s _ _ el)
 ·rintro i x σ G hx ⟨s,no,v2,rfl⟩
  rw [List.getElem?_map] at hx
  obtain ⟨a,ha,rfl⟩:=Option.map_eq_some_iff.mp hx
  obtain ⟨k,hk,ca⟩:=m9 cs i a ha
  refine ⟨_,rfl,_,rfl,p,a,h,k,rfl,B2 s hp,ok,ca.mono (fun b xs z=>s _ _ z),hin k (List.mem_of_getElem? hk),fun rl G1 s1 er=>?_⟩
  refine ⟨rl,_,rfl,.inl (SqL.of er),_,_,rfl,rfl,_,rfl,E9 (fun c=>?_) (fun c=>?_)⟩
  ·have c':A1 h k = true:=decide_eq_true (by
    have:(((((k.c / h.c) :: x6 h k.es).map V.int).length:Nat):Int) > 2:=of_decide_eq_true c
    rw [List.length_map,List.length_cons] at this
    lia)
   obtain ⟨e,_,ea⟩:=id ca
   have ea1:G1 a = some (.tup [.int k.c,.ref e,.int k.k]):=(s.trans s1) _ _ ea
   refine ⟨_,rfl,a,_,_,_,rfl,rfl,SqT.of ea1,rfl,(by show 1 ≤ 1000; decide),fun ex hex=>?_⟩
   refine ⟨ex,.int k.c,rfl,d4,fun dx H4 hdx ne oth e1 e2=>⟨rfl,some dx,e1,?_⟩⟩
   rw [g7 ne] at hdx
   refine qE i k dx _ hk c' no ((s.trans s1).trans fun b u z=>?_) (by rw [M5 ne]; exact e2)
   have nb:b ≠ ex:=fun y=>by rw [y,hex] at z; cases z
   have nd':b ≠ dx:=fun y=>by rw [y,hdx] at z; cases z
   rw [M5 nb,oth b nb nd',g7 nb]
   exact z
  ·have c':A1 h k = false:=decide_eq_false (fun z=>c (decide_eq_true (by
    show (((((k.c / h.c) :: x6 h k.es).map V.int).length:Nat):Int) > 2
    rw [List.length_map,List.length_cons]
    lia)))
   refine ⟨s.trans s1,fun k' hk'=>?_,_,rfl⟩
   rw [List.take_succ,hk] at hk'
   rcases List.mem_append.mp hk' with z | z
   ·exact no k' z
   ·rw [show k' = k by simpa using z]
    exact c'
 ·rintro σ G ⟨s,no,v2,rfl⟩
  rw [List.length_map,ln,List.take_length] at no
  exact q no G s
end
theorem K8 {α β:Type} {F:α → β → Prop} {a:α} {b:β}:∀ {as:List α} {bs:List β},Paired F as bs → F a b → Paired F (as ++ [a]) (bs ++ [b])
 | _,_,.nil,h=>.cons h .nil
 | _,_,.cons r t,h=>.cons r (K8 t h)
def B8 (h:y8):Int:=if h.o > h.i then h.o else h.i
def u6 (ks:List Call) (kk:Int):List Call:=ks.filter fun k=>decide (k.k = kk)
def N0 (h:y8) (k:Call):Int × Int:=(k.c / h.c,k.es.headD 0 / h.e)
theorem dF {h:y8} {k:Call} (hin:k.In h) (nw:A1 h k = false):x6 h k.es = [k.es.headD 0 / h.e]:=by
 have nw:¬ 1 < (x6 h k.es).length:=of_decide_eq_false nw
 obtain ⟨e,es,he⟩:∃ e es,k.es = e :: es:=by
  cases z:k.es with
  | nil=>exact absurd z hin.some
  | cons e es=>exact ⟨e,es,rfl⟩
 have hm:e / h.e ∈ x6 h k.es:=by
  unfold x6
  rw [A5]
  exact List.mem_map.mpr ⟨e,by rw [he]; exact List.mem_cons_self ..,rfl⟩
 rw [he]
 rw [he] at hm nw
 show _ = [e / h.e]
 generalize x6 h (e :: es) = l at hm nw
 match l,hm,nw with
 | [r],hm,_=>rw [List.mem_singleton.mp hm]
 | r :: r' :: l,_,nw=>exact absurd (by simp) nw
def kA (K:PySem.W.Frag) (C:Addr):Sp:=fun vs H Q E=>∃ (p l:Addr) (h:y8) (as:List Addr) (ks:List Call) (kk S:Int) (d:Nat),vs = [.ref p,.ref l,.int kk,.int S,.int (d:Nat)] ∧ SqT K H p (h.row.map V.int) ∧ h.Ok ∧ H l = some (.lst (as.map V.ref)) ∧ A3 H as ks ∧ (∀ k ∈ ks,k.In h) ∧ ks.length ≤ 60 ∧ (2 ≤ S ∧ S ≤ 8) ∧ d ≤ 6 ∧
 ((∀ k ∈ u6 ks kk,A1 h k = false) → p5 (B8 h) ((u6 ks kk).map (N0 h)) ∧ ∀ (a:Addr) (H':Hp),j7 H H' → x5 H' S d (B8 h) ((u6 ks kk).map (N0 h)) a → Q (.ref a) H') ∧
 ∀ (j:Nat) (k:Call) (dx:Addr) (H':Hp),(u6 ks kk)[j]? = some k → A1 h k = true → (∀ k' ∈ (u6 ks kk).take j,A1 h k' = false) → j7 H H' → H' dx = some (XdO dx (iK k.c)) → E (.ref C) (some dx) H'
section
variable {P:Program} {w:World} {K:PySem.W.Frag} {mg:Str → Option Value} {base:Heap} {C_HallError C_TooFull C_NoTurns C_Wide:Addr}
theorem Q4:FnScope ["hall","calls","k","small","depth","through","turns"] ["hall","calls","k","small","depth"] (d7 (top 33)):=⟨rfl,rfl,rfl,by decide +kernel,rfl,by decide +kernel,by decide +kernel⟩
set_option maxHeartbeats 2000000 in
theorem mK (T:Txt K mg) (Z:kE K mg C_HallError C_TooFull C_NoTurns C_Wide) (C_refuse_wide:R5 P w K mg base 4 "refuse_wide" ["hall","calls"] [] (lF K C_Wide)) (C_call_racks:h9 P w K mg base 3 "call_racks" ["hall","call"] (S2 K)) (C_nest_of:Y3 P w K mg base 17 "nest_of" ["lines","small","turns","depth"] [.int 6] fP) (D:eX K mg "amid_nest" (top 33) ["hall","calls","k","small","depth"] [.int 6]):R5 P w K mg base 18 "amid_nest" ["hall","calls","k","small","depth"] [.int 6] (kA K C_Wide):=by
 refine D.okF Q4 (fun vs H Q E h=>?_) (fun f cdv A outer s H vs Q E hr h=>?_)
 ·obtain ⟨p,l,h,as,ks,kk,S,d,rfl,_⟩:=h
  rfl
 obtain ⟨p,l,h,as,ks,kk,S,d,rfl,hp,ok,el,cs,hin,few,hS,hd,q,qE⟩:=h
 have ln:as.length = ks.length:=Paired.length cs
 have b1:=ok.i
 have b3:=ok.o
 refine ⟨_,(d5 (T5 (i:=5) (own:=["call"]) (fr:=[(2,"k")]) rfl Q4.nd rfl rfl (show CompScope ["hall","calls","k","small","depth","through","turns"] (d7 (top 33)) _ _ _ from ⟨rfl,by decide +kernel,by decide +kernel,by decide +kernel,by decide +kernel⟩) (o6 K (pv 1)) (fun cl C s H ex=>⟨(m6 (i:=0) (show (["call","k"]:List Str).Nodup from by decide +kernel) rfl (Or.inl rfl) (Or.inr rfl)),(aK (j0 E3 (g9 (d8 K) (pv 0) b9 (fun _ _=>rfl)) (pv 1) (j8 _))),(pv 0)⟩) rfl)
  (d5 (y6 (gH 0 C_refuse_wide (kX fun _ _ _ z=>z) hr rfl (b7 (pv 0) (b7 (pv 5) d6 b8) b8)))
  (d5 (T5 (i:=6) (own:=["call"]) (fr:=[(0,"hall")]) rfl Q4.nd rfl rfl (show CompScope ["hall","calls","k","small","depth","through","turns"] (d7 (top 33)) _ _ _ from ⟨rfl,by decide +kernel,by decide +kernel,by decide +kernel,by decide +kernel⟩) (o6 K (pv 5)) (fun cl C s H ex=>⟨(m6 (i:=0) (show (["call","hall"]:List Str).Nodup from by decide +kernel) rfl (Or.inl rfl) (Or.inr rfl)),D7,(J8 (S9 K) rfl T.m_tuple boot_tuple (b7 (m4 C_call_racks hr rfl (b7 (pv 1) (b7 (pv 0) d6 b8) b8)) d6 w6))⟩) rfl)
  (d9 (i9 (m4 C_nest_of.all hr rfl (b7 (i8 (ck rfl) rfl T.m_max boot_max (b7 (g9 (d8 K) (pv 0) b9 (fun _ _=>rfl)) (b7 (g9 (d8 K) (pv 0) b9 (fun _ _=>rfl)) d6 m5) m5)) (b7 (pv 3) (b7 (pv 6) (b7 (pv 4) d6 b8) b8) b8) w6))))))),?_⟩
 refine ⟨_,rfl,l,rfl,⟨_,SqL.of el⟩,?_⟩
 refine C8 (xs:=as.map V.ref) (fun i acc σ G=>G = H ∧ (∃ bs:List Addr,acc = bs.map V.ref ∧ A3 H bs (u6 (ks.take i) kk)) ∧ ∃ v,σ = [v,some (.int kk)]) ⟨rfl,⟨[],rfl,.nil⟩,_,rfl⟩ ?_ ?_ ?_ ?_ ?_
 ·rw [List.length_map,ln]; exact Nat.le_trans few (by decide)
 ·rintro i acc σ G ⟨_,⟨bs,rfl,cb⟩,_⟩
  rw [List.length_map,Paired.length cb]
  exact Nat.le_trans (List.length_filter_le _ _) (by rw [List.length_take]; lia)
 ·rintro i acc σ G _ ⟨rfl,_⟩
  exact SqL.of el
 ·rintro i x acc σ G hx ⟨rfl,⟨bs,rfl,cb⟩,v,rfl⟩
  rw [List.getElem?_map] at hx
  obtain ⟨a,ha,rfl⟩:=Option.map_eq_some_iff.mp hx
  obtain ⟨k,hk,ca⟩:=m9 cs i a ha
  obtain ⟨e,_,ea⟩:=id ca
  have tk:u6 (ks.take (i + 1)) kk = u6 (ks.take i) kk ++ if k.k = kk then [k] else []:=by
   unfold u6
   rw [List.take_succ,hk,Option.toList_some,List.filter_append,List.filter_cons,List.filter_nil]
   by_cases c:k.k = kk
   ·rw [if_pos c,if_pos (decide_eq_true c)]
   ·rw [if_neg c,if_neg (by simpa using c)]
  refine ⟨_,rfl,a,_,_,_,rfl,rfl,SqT.of ea,rfl,_,rfl,rfl,_,rfl,E9 (fun c=>?_) (fun c=>?_)⟩
  ·have c':k.k = kk:=V.int.inj (of_decide_eq_true c)
   refine ⟨_,rfl,rfl,⟨bs ++ [a],by rw [List.map_append]; rfl,?_⟩,_,rfl⟩
   rw [tk,if_pos c']
   exact K8 cb ca
  ·have c':¬ k.k = kk:=fun z=>c (decide_eq_true (by rw [z]))
   refine ⟨rfl,⟨bs,rfl,?_⟩,_,rfl⟩
   rw [tk,if_neg c',List.append_nil]
   exact cb
 rintro acc σ G ⟨rfl,⟨bs,rfl,cb⟩,v,rfl⟩ tl htl
 rw [List.length_map,ln,List.take_length] at cb
 have s1:=g6 htl (.lst (bs.map V.ref))
 have etl:=d4 (H:=G) (a:=tl) (o:=.lst (bs.map V.ref))
 dsimp only [o8,q9]
 generalize upd G tl _ = G1 at s1 etl ⊢
 have inT:∀ k ∈ u6 ks kk,k.In h:=fun k hk=>hin k (List.mem_filter.mp hk).1
 have fewT:(u6 ks kk).length ≤ 60:=Nat.le_trans (List.length_filter_le _ _) few
 refine ⟨_,rfl,_,rfl,p,tl,h,bs,u6 ks kk,rfl,B2 s1 hp,ok,etl,cb.same s1,inT,fun nw G2 s2=>?_,fun j k dx G2 hj wd no s2 ed=>qE j k dx G2 hj wd no (s1.trans s2) ed⟩
 obtain ⟨tok,q⟩:=q nw
 have s12:=s1.trans s2
 have lnb:bs.length = (u6 ks kk).length:=Paired.length cb
 refine ⟨_,rfl,tl,rfl,⟨_,SqL.of (s2 _ _ etl)⟩,?_⟩
 refine C8 (xs:=bs.map V.ref) (fun i acc σ G'=>j7 G2 G' ∧ (∃ ts:List Addr,acc = ts.map V.ref ∧ F1 G' ts (((u6 ks kk).take i).map (N0 h))) ∧ ∃ v,σ = [v,some (.ref p)]) ⟨j7.refl _,⟨[],rfl,.nil⟩,_,rfl⟩ ?_ ?_ ?_ ?_ ?_
 ·rw [List.length_map,lnb]; exact Nat.le_trans fewT (by decide)
 ·rintro i acc σ G' ⟨_,⟨ts,rfl,pr⟩,_⟩
  have:=Paired.length pr
  rw [List.length_map,List.length_take] at this
  rw [List.length_map]
  lia
 ·rintro i acc σ G' _ ⟨s,_⟩
  exact SqL.of (s _ _ (s2 _ _ etl))
 ·rintro i x acc σ G' hx ⟨s,⟨ts,rfl,pr⟩,v,rfl⟩
  rw [List.getElem?_map] at hx
  obtain ⟨a,ha,rfl⟩:=Option.map_eq_some_iff.mp hx
  obtain ⟨k,hk,ca⟩:=m9 cb i a ha
  have hkm:=List.mem_of_getElem? hk
  refine ⟨_,rfl,_,rfl,p,a,h,k,rfl,B2 (s12.trans s) hp,ok,ca.mono (fun b xs z=>(s12.trans s) _ _ z),inT k hkm,fun rl G3 s3 er=>?_⟩
  rw [dF (inT k hkm) (nw k hkm)] at er
  refine ⟨rl,_,rfl,.inl ⟨SqL.of er,fun t ht=>?_⟩⟩
  have s4:=g6 ht (.tup [.int (k.c / h.c),.int (k.es.headD 0 / h.e)])
  refine ⟨s.trans (s3.trans s4),⟨ts ++ [t],by rw [List.map_append]; rfl,?_⟩,_,rfl⟩
  rw [List.take_succ,hk,Option.toList_some,List.map_append]
  exact (pr.same (s3.trans s4)).snoc d4
 rintro acc σ G3 ⟨s3,⟨ts,rfl,pr⟩,v,rfl⟩ rl hrl
 rw [List.length_map,lnb,List.take_length] at pr
 have s4:=g6 hrl (.lst (ts.map V.ref))
 have erl:=d4 (H:=G3) (a:=rl) (o:=.lst (ts.map V.ref))
 dsimp only [o8,q9]
 generalize upd G3 rl _ = G4 at s4 erl ⊢
 have s14:=s12.trans (s3.trans s4)
 refine ⟨_,rfl,p,_,_,_,rfl,rfl,B2 s14 hp,rfl,_,rfl,p,_,_,_,rfl,rfl,B2 s14 hp,rfl,_,_,rfl,_,rfl,_,rfl,_,rfl,B8 h,S,d,rl,(u6 ks kk).map (N0 h),?_,hd,?_,hS,⟨ts,erl,pr.same s4⟩,by rw [List.length_map]; exact fewT,tok,fun a H' s' hN=>q a H' (s14.trans s') hN⟩
 ·rfl
 ·unfold B8
  split <;> lia
end
structure gX (h:y8) (es:List Int):Prop where
 rise:es.Pairwise (· < ·)
 some:es ≠ []
 few:es.length ≤ 4
 es:∀ e ∈ es,0 ≤ e ∧ e < h.o * h.e
def lH (K:PySem.W.Frag):Sp:=fun vs H Q _=>∃ (p:Addr) (h:y8) (n:Int) (b:Bool),vs = [.ref p,.int n,.bl b] ∧ SqT K H p (h.row.map V.int) ∧ h.Ok ∧ 0 ≤ n ∧ ∀ (l:Addr) (es:List Int) (H':Hp),j7 H H' → H l = none → H' l = some (.lst (es.map V.int)) → gX h es → Q (.ref l) H'
def iJ (K:PySem.W.Frag):Sp:=fun vs H Q _=>∃ (p lf:Addr) (h:y8) (n:Int) (b:Bool),vs = [.ref p,.ref lf,.bl b] ∧ SqT K H p (h.row.map V.int) ∧ (∀ G,(∀ b u,b ≠ lf → H b = some u → G b = some u) → SqT K G p (h.row.map V.int)) ∧ h.Ok ∧ H lf = some (.lst [.int n]) ∧ ∀ (l:Addr) (es:List Int) (H':Hp),(∀ b u,b ≠ lf → H b = some u → H' b = some u) → H l = none → H' l = some (.lst (es.map V.int)) → gX h es → Q (.ref l) H'
theorem pI (e:Int) (es:List Int):inV (.int e) (es.map V.int) = decide (e ∈ es):=by
 unfold inV
 rw [List.any_map]
 rw [Bool.eq_iff_iff,List.any_eq_true,decide_eq_true_iff]
 constructor
 ·rintro ⟨q,hq,e'⟩
  have e':(q == e) = true:=e'
  exact eq_of_beq e' ▸ hq
 ·intro h
  exact ⟨e,h,beq_self_eq_true e⟩
theorem kN (ns:List Int):(ns.map V.int).all Y0 = true:=by
 rw [List.all_eq_true]
 intro x hx
 obtain ⟨c,_,rfl⟩:=List.mem_map.mp hx
 rfl
section
variable {P:Program} {w:World} {K:PySem.W.Frag} {mg:Str → Option Value} {base:Heap}
theorem E6:FnScope ["_law_hall_here","_law_number","_law_wide_here","_law_end","_law_rack","_law_some"] ["_law_hall_here","_law_number","_law_wide_here"] (d7 (top 40)):=⟨rfl,rfl,rfl,by decide +kernel,rfl,by decide +kernel,by decide +kernel⟩
set_option maxHeartbeats 2000000 in
theorem nO (T:Txt K mg) (D:Def K mg "_law_ends_of" (top 40) ["_law_hall_here","_law_number","_law_wide_here"]):h9 P w K mg base 1 "_law_ends_of" ["_law_hall_here","_law_number","_law_wide_here"] (lH K):=by
 refine D.ok E6 (fun vs H Q E h=>?_) (fun f cdv A outer s H vs Q E hr h=>?_)
 ·obtain ⟨p,h,n,b,rfl,_⟩:=h
  rfl
 obtain ⟨p,h,n,b,rfl,hp,ok,n0,q⟩:=h
 have b4:=ok.e
 have b3:=ok.o
 have oe:=ok.oe
 refine ⟨_,(d5 (i6 (i:=3) E6.nd rfl (Or.inl rfl) (i0 q5 (i0 n5 (pv 1) b9) (i0 F7 (g9 (d8 K) (pv 0) b9 (fun _ _=>rfl)) (g9 (d8 K) (pv 0) b9 (fun _ _=>rfl)))))
  (d5 (i6 (i:=4) E6.nd rfl (Or.inl rfl) (i0 n5 (pv 3) (g9 (d8 K) (pv 0) b9 (fun _ _=>rfl))))
  (d5 (i6 (i:=5) E6.nd rfl (Or.inr rfl) (F8 (b7 (pv 3) d6 b8)))
  (d5 (p4 (j0 E3 (i0 q5 (pv 1) b9) b9 (j8 _)) (d9 (y6 (N3 K PySem.F.plainAttrs_list PySem.F.slot_list_append PySem.F.type_list_append x9 (pv 5) (b7 (i0 p8 (i0 F7 (pv 4) (g9 (d8 K) (pv 0) b9 (fun _ _=>rfl))) (i0 q5 (i0 p8 (pv 3) b9) (g9 (d8 K) (pv 0) b9 (fun _ _=>rfl)))) d6 r6)))) j9)
  (d5 (p4 (PW.pt (gT (p7 K (pv 2) (fun _=>rfl)) (da (j0 E3 (i0 q5 (pv 1) b9) b9 (j8 _))))) (d9 (y6 (N3 K PySem.F.plainAttrs_list PySem.F.slot_list_append PySem.F.type_list_append x9 (pv 5) (b7 (i0 p8 (i0 F7 (i0 q5 (i0 p8 (pv 4) b9) (g9 (d8 K) (pv 0) b9 (fun _ _=>rfl))) (g9 (d8 K) (pv 0) b9 (fun _ _=>rfl))) (i0 q5 (pv 3) (g9 (d8 K) (pv 0) b9 (fun _ _=>rfl)))) d6 r6)))) j9)
  (d9 (i9 (J6 (own:=["_law_one"]) (fr:=[(5,"_law_some")]) rfl (show CompScope ["_law_hall_here","_law_number","_law_wide_here","_law_end","_law_rack","_law_some"] (d7 (top 40)) _ _ _ from ⟨rfl,by decide +kernel,by decide +kernel,by decide +kernel,by decide +kernel⟩) (B4 rfl T.m_range (b7 (i0 F7 (g9 (d8 K) (pv 0) b9 (fun _ _=>rfl)) (g9 (d8 K) (pv 0) b9 (fun _ _=>rfl))) d6 r6)) (fun cl C s H ex=>⟨(m6 (i:=0) (show (["_law_one","_law_some"]:List Str).Nodup from by decide +kernel) rfl (Or.inl rfl) (Or.inr rfl)),(aK (j0 (pW K) (pv 0) (pv 1) (by with_unfolding_all rfl))),(pv 0)⟩))))))))),?_⟩
 refine ⟨_,rfl,_,_,rfl,rfl,⟨by decide,by decide⟩,_,rfl,p,_,_,_,rfl,rfl,hp,rfl,_,rfl,p,_,_,_,rfl,rfl,hp,rfl,_,_,rfl,rfl,.inl ⟨by omega,by omega⟩,_,_,rfl,rfl,(by show 0 < h.o * h.e; omega),?_⟩
 have z0:=Int.emod_nonneg (n / 144) (show h.o * h.e ≠ 0 by omega)
 have z1:=Int.emod_lt_of_pos (n / 144) (show 0 < h.o * h.e by omega)
 dsimp only [o8,q9]
 generalize n / 144 % (h.o * h.e) = z at z0 z1 ⊢
 refine ⟨_,rfl,_,rfl,p,_,_,_,rfl,rfl,hp,rfl,_,_,rfl,rfl,⟨by omega,by omega⟩,?_⟩
 dsimp only [o8,q9]
 generalize z / h.e = rk
 refine ⟨_,rfl,(by show 1 ≤ sizeLine; decide),fun sl hsl=>?_⟩
 dsimp only [o8,q9]
 have hpu:∀ o,SqT K (upd H sl o) p (h.row.map V.int):=fun o=>B2 (g6 hsl o) hp
 refine A9 (fun σ G=>∃ zs:List Int,G = upd H sl (.lst (zs.map V.int)) ∧ z ∈ zs ∧ zs.length ≤ 2 ∧ σ = [some (.ref p),some (.int n),some (.bl b),some (.int z),some (.int rk),some (.ref sl)]) (fun R rest=>?_) ?_
 ·refine ⟨_,rfl,_,_,rfl,rfl,(by show (0:Int) < 3; decide),rfl,_,rfl,E9 (fun c=>?_) (fun c=>?_)⟩
  ·refine ⟨_,rfl,.inl ⟨rfl,_,SqL.of d4⟩,_,rfl,_,rfl,p,_,_,_,rfl,rfl,hpu _,rfl,_,_,rfl,rfl,.inr ⟨by omega,by omega⟩,_,rfl,_,_,rfl,rfl,_,rfl,p,_,_,_,rfl,rfl,hpu _,rfl,_,_,rfl,rfl,(by show 0 < h.e; omega),_,_,rfl,rfl,sl,_,_,rfl,rfl,d4,(by show 1 < sizeLine; decide),rest _ _ ⟨[z,rk * h.e + (z + 1) % h.e],?_,List.mem_cons_self ..,Nat.le_refl _,rfl⟩⟩
   funext x
   by_cases y:x = sl
   ·subst y; rw [d4,d4]; rfl
   ·rw [g7 y,g7 y,g7 y]
  ·exact rest _ _ ⟨[z],rfl,List.mem_cons_self ..,Nat.le_succ 1,rfl⟩
 rintro σ _ ⟨zs,rfl,hz,lz,rfl⟩
 refine A9 (fun σ G=>∃ zs:List Int,G = upd H sl (.lst (zs.map V.int)) ∧ z ∈ zs ∧ zs.length ≤ 4 ∧ σ = [some (.ref p),some (.int n),some (.bl b),some (.int z),some (.int rk),some (.ref sl)]) (fun R rest=>?_) ?_
 ·have no:=rest _ _ ⟨zs,rfl,hz,by omega,rfl⟩
  refine ⟨_,rfl,_,rfl,E9 (fun c0=>?_) (fun c0=>?_)⟩
  ·refine ⟨_,rfl,_,_,rfl,rfl,(by show (0:Int) < 5; decide),rfl,_,rfl,E9 (fun c=>?_) (fun c=>no)⟩
   refine ⟨_,rfl,.inl ⟨rfl,_,SqL.of d4⟩,_,rfl,_,_,rfl,rfl,_,rfl,p,_,_,_,rfl,rfl,hpu _,rfl,_,_,rfl,rfl,(by show 0 < h.o; omega),_,rfl,p,_,_,_,rfl,rfl,hpu _,rfl,_,_,rfl,rfl,.inr ⟨by omega,by omega⟩,_,rfl,_,rfl,p,_,_,_,rfl,rfl,hpu _,rfl,_,_,rfl,rfl,(by show 0 < h.e; omega),_,_,rfl,rfl,sl,_,_,rfl,rfl,d4,(by rw [List.length_map]; exact Nat.lt_of_le_of_lt lz (by decide)),rest _ _ ⟨zs ++ [(rk + 1) % h.o * h.e + z % h.e],?_,List.mem_append_left _ hz,by rw [List.length_append]; show zs.length + 1 ≤ 4; omega,rfl⟩⟩
   funext x
   by_cases y:x = sl
   ·subst y; rw [d4,d4,List.map_append]; rfl
   ·rw [g7 y,g7 y,g7 y]
  ·exact no
 clear hz lz zs
 rintro σ _ ⟨zs,rfl,hz,lz,rfl⟩
 have s1:=g6 hsl (.lst (zs.map V.int))
 have esl:=d4 (H:=H) (a:=sl) (o:=.lst (zs.map V.int))
 have hp1:=hpu (.lst (zs.map V.int))
 generalize upd H sl _ = G at s1 esl hp1 ⊢
 obtain ⟨N,hN⟩:=Int.eq_ofNat_of_zero_le (show 0 ≤ h.o * h.e by omega)
 refine ⟨_,rfl,p,_,_,_,rfl,rfl,hp1,rfl,_,rfl,p,_,_,_,rfl,rfl,hp1,rfl,_,_,rfl,rfl,.inl ⟨by omega,by omega⟩,_,rfl,by omega,by omega,?_⟩
 refine bE (lo:=0) (n:=(h.o * h.e).toNat) (fun i acc σ G'=>G' = G ∧ acc = (((List.range i).filter fun (j:Nat)=>decide ((j:Int) ∈ zs)).map fun (j:Nat)=>(j:Int)).map V.int ∧ ∃ v,σ = [v,some (.ref sl)]) ⟨rfl,rfl,_,rfl⟩ (Nat.le_trans (show (h.o * h.e).toNat ≤ 144 by omega) (by decide)) ?_ ?_ ?_
 ·rintro i acc σ G' ⟨_,rfl,_⟩
  rw [List.length_map,List.length_map]
  exact Nat.le_trans (List.length_filter_le _ _) (by rw [List.length_range]; exact Nat.le_refl _)
 ·rintro i acc σ G' hi ⟨rfl,rfl,v,rfl⟩
  refine ⟨_,rfl,_,rfl,sl,_,rfl,.inl (SqL.of esl),rfl,kN zs,_,rfl,?_⟩
  rw [if_neg (by decide),pI,Int.zero_add,List.range_succ,List.filter_append,List.map_append,List.map_append]
  refine E9 (fun c=>?_) (fun c=>?_)
  ·refine ⟨_,rfl,rfl,?_,_,rfl⟩
   rw [List.filter_cons,if_pos c]
   rfl
  ·refine ⟨rfl,?_,_,rfl⟩
   rw [List.filter_cons,if_neg c]
   simp
 rintro acc σ G' ⟨rfl,rfl,v,rfl⟩ l hl
 refine q l _ _ (s1.trans (g6 hl _)) (B3 s1 hl) d4 ⟨?_,fun y=>?_,?_,fun e he=>?_⟩
 ·rw [List.pairwise_map]
  exact (List.pairwise_lt_range.filter _).imp fun {a b} z=>by omega
 ·have:z ∈ (((List.range (h.o * h.e).toNat).filter fun (j:Nat)=>decide ((j:Int) ∈ zs)).map fun (j:Nat)=>(j:Int)):=List.mem_map.mpr ⟨z.toNat,List.mem_filter.mpr ⟨List.mem_range.mpr (by omega),decide_eq_true (by rw [show ((z.toNat:Nat):Int) = z by omega]; exact hz)⟩,by omega⟩
  rw [y] at this
  cases this
 ·refine Nat.le_trans (kq (xs:=zs) ?_ fun c hc=>?_) lz
  ·unfold List.Nodup
   rw [List.pairwise_map]
   exact (List.pairwise_lt_range.filter _).imp fun {a b} z=>by omega
  ·obtain ⟨j,hj,rfl⟩:=List.mem_map.mp hc
   exact of_decide_eq_true (List.mem_filter.mp hj).2
 ·obtain ⟨j,hj,rfl⟩:=List.mem_map.mp he
  have:=List.mem_range.mp (List.mem_filter.mp hj).1
  omega
end
section
variable {P:Program} {w:World} {K:PySem.W.Frag} {mg:Str → Option Value} {base:Heap}
theorem oU {h:y8} (ok:h.Ok) {z n:Int} (z0:0 ≤ z) (z1:z < h.o * h.e):0 ≤ z / h.e * h.e + n % h.e ∧ z / h.e * h.e + n % h.e < h.o * h.e:=by
 have b4:=ok.e
 have r0:=Int.emod_nonneg n (show h.e ≠ 0 by lia)
 have r1:=Int.emod_lt_of_pos n (show 0 < h.e by lia)
 have d0:=Int.ediv_nonneg z0 (show 0 ≤ h.e by lia)
 have d1:z / h.e < h.o:=Int.ediv_lt_of_lt_mul (by lia) z1
 have m0:=Int.mul_nonneg d0 (show 0 ≤ h.e by lia)
 have m1:(z / h.e + 1) * h.e ≤ h.o * h.e:=Int.mul_le_mul_of_nonneg_right (by lia) (by lia)
 rw [Int.add_mul,Int.one_mul] at m1
 lia
theorem B9:FnScope ["_law_hall_here","_law_left","_law_wide_here","_law_some","_law_rack","_law_k"] ["_law_hall_here","_law_left","_law_wide_here"] (d7 (top 41)):=⟨rfl,rfl,rfl,by decide +kernel,rfl,by decide +kernel,by decide +kernel⟩
set_option maxHeartbeats 2000000 in
theorem kF (T:Txt K mg) (C__law_digit:h9 P w K mg base 1 "_law_digit" ["_law_left","_law_many"] X2) (D:Def K mg "_law_free_ends" (top 41) ["_law_hall_here","_law_left","_law_wide_here"]):h9 P w K mg base 2 "_law_free_ends" ["_law_hall_here","_law_left","_law_wide_here"] (iJ K):=by
 refine D.ok B9 (fun vs H Q E h=>?_) (fun f cdv A outer s H vs Q E hr h=>?_)
 ·obtain ⟨p,lf,h,n,b,rfl,_⟩:=h
  rfl
 obtain ⟨p,lf,h,n,b,rfl,hp,hpk,ok,elf,q⟩:=h
 have b4:=ok.e
 have b3:=ok.o
 have oe:=ok.oe
 refine ⟨_,(d5 (i6 (i:=3) B9.nd rfl (Or.inl rfl) (F8 (b7 (m4 C__law_digit hr rfl (b7 (pv 1) (b7 (i0 F7 (g9 (d8 K) (pv 0) b9 (fun _ _=>rfl)) (g9 (d8 K) (pv 0) b9 (fun _ _=>rfl))) d6 r6) b8)) d6 w6)))
  (d5 (i6 (i:=4) B9.nd rfl (Or.inl rfl) (i0 n5 (g9 (p9 K) (pv 3) b9 (fun _ _=>rfl)) (g9 (d8 K) (pv 0) b9 (fun _ _=>rfl))))
  (d5 (w5 PassesOwn.never rfl (B4 rfl T.m_range (b7 (m4 C__law_digit hr rfl (b7 (pv 1) (b7 b9 d6 m7) b8)) d6 w6)) (m6 (i:=5) B9.nd rfl (Or.inl rfl))
  (d9 (p4 (p7 K (pv 2) (fun _=>rfl)) (d9 (y6 (N3 K PySem.F.plainAttrs_list PySem.F.slot_list_append PySem.F.type_list_append x9 (pv 3) (b7 (m4 C__law_digit hr rfl (b7 (pv 1) (b7 (i0 F7 (g9 (d8 K) (pv 0) b9 (fun _ _=>rfl)) (g9 (d8 K) (pv 0) b9 (fun _ _=>rfl))) d6 r6) b8)) d6 w6)))) (d9 (y6 (N3 K PySem.F.plainAttrs_list PySem.F.slot_list_append PySem.F.type_list_append x9 (pv 3) (b7 (i0 p8 (i0 F7 (pv 4) (g9 (d8 K) (pv 0) b9 (fun _ _=>rfl))) (m4 C__law_digit hr rfl (b7 (pv 1) (b7 (g9 (d8 K) (pv 0) b9 (fun _ _=>rfl)) d6 m5) b8))) d6 r6)))))))
  (d9 (i9 (i8 (O2 P w rfl) rfl T.m_sorted boot_sorted (b7 (J8 (Z7 K P w rfl) rfl T.m_set boot_set (b7 (pv 3) d6 b8)) d6 w6))))))),?_⟩
 refine ⟨_,rfl,_,rfl,p,_,_,_,rfl,rfl,hp,rfl,_,rfl,p,_,_,_,rfl,rfl,hp,rfl,_,_,rfl,rfl,.inl ⟨by lia,by lia⟩,lf,n,_,rfl,elf,by lia,by lia,(by show 1 ≤ sizeLine; decide),fun sl hsl=>?_⟩
 have z0:=Int.emod_nonneg n (show h.o * h.e ≠ 0 by lia)
 have z1:=Int.emod_lt_of_pos n (show 0 < h.o * h.e by lia)
 dsimp only [o8,q9]
 change mh _ _ _ _ (upd (upd H lf (.lst [.int (n / (h.o * h.e))])) sl (.lst [.int (n % (h.o * h.e))]))
 generalize n % (h.o * h.e) = z at z0 z1 ⊢
 have nsl:sl ≠ lf:=fun y=>by rw [y,d4] at hsl; cases hsl
 have hslH:H sl = none:=by rw [g7 nsl] at hsl; exact hsl
 have fr:∀ b u,b ≠ lf → H b = some u → (upd (upd H lf (.lst [.int (n / (h.o * h.e))])) sl (.lst [.int z])) b = some u:=fun b u hb e=>by
  rw [g7 (i4 e hslH),g7 hb]
  exact e
 have e1:(upd (upd H lf (.lst [.int (n / (h.o * h.e))])) sl (.lst [.int z])) lf = some (.lst [.int (n / (h.o * h.e))]):=by rw [g7 nsl.symm,d4]
 have e2:=d4 (H:=upd H lf (.lst [.int (n / (h.o * h.e))])) (a:=sl) (o:=.lst [.int z])
 generalize upd (upd H lf _) sl _ = G0 at fr e1 e2 ⊢
 generalize n / (h.o * h.e) = n1 at e1
 refine ⟨_,rfl,sl,_,_,_,rfl,rfl,SqL.of e2,(show atI [V.int z] ((0:Nat):Int) = some (.int z) from C0 rfl),_,rfl,p,_,_,_,rfl,rfl,hpk _ fr,rfl,_,_,rfl,rfl,⟨by lia,by lia⟩,?_⟩
 dsimp only [o8,q9]
 refine A9 (fun σ G=>∃ (n':Int) (zs:List Int) (v5:Option V),(∀ b u,b ≠ lf → H b = some u → G b = some u) ∧ G lf = some (.lst [.int n']) ∧ G sl = some (.lst (zs.map V.int)) ∧ zs ≠ [] ∧ zs.length ≤ 4 ∧ (∀ e ∈ zs,0 ≤ e ∧ e < h.o * h.e) ∧ σ = [some (.ref p),some (.ref lf),some (.bl b),some (.ref sl),some (.int (z / h.e)),v5]) (fun R rest=>?_) ?_
 ·refine ⟨_,rfl,lf,n1,4,rfl,e1,by decide,by decide,_,rfl,by lia,by lia,?_⟩
  have k0:=Int.emod_nonneg n1 (show (4:Int) ≠ 0 by decide)
  have k1:=Int.emod_lt_of_pos n1 (show (0:Int) < 4 by decide)
  have fr1:∀ b u,b ≠ lf → H b = some u → (upd G0 lf (.lst [.int (n1 / 4)])) b = some u:=fun b u hb e=>by rw [g7 hb]; exact fr b u hb e
  refine K1 (lo:=0) (n:=(n1 % 4).toNat) (fun i σ G=>∃ (n':Int) (zs:List Int) (v5:Option V),(∀ b u,b ≠ lf → H b = some u → G b = some u) ∧ G lf = some (.lst [.int n']) ∧ G sl = some (.lst (zs.map V.int)) ∧ zs ≠ [] ∧ zs.length ≤ 1 + i ∧ (∀ e ∈ zs,0 ≤ e ∧ e < h.o * h.e) ∧ σ = [some (.ref p),some (.ref lf),some (.bl b),some (.ref sl),some (.int (z / h.e)),v5]) ⟨_,[z],_,fr1,d4,by rw [g7 nsl]; exact e2,by simp,Nat.le_refl _,fun e he=>by rw [List.mem_singleton.mp he]; exact ⟨z0,z1⟩,rfl⟩ ?_ ?_
  ·rintro i σ G hi ⟨n',zs,v5,fG,eG,eS,ne,lz,bz,rfl⟩
   have put:∀ (x:Int) (m:Int),0 ≤ x → x < h.o * h.e → ∃ (n':Int) (zs':List Int) (v5':Option V),(∀ b u,b ≠ lf → H b = some u → (upd (upd G lf (.lst [.int m])) sl (.lst (zs.map V.int ++ [.int x]))) b = some u) ∧ (upd (upd G lf (.lst [.int m])) sl (.lst (zs.map V.int ++ [.int x]))) lf = some (.lst [.int n']) ∧ (upd (upd G lf (.lst [.int m])) sl (.lst (zs.map V.int ++ [.int x]))) sl = some (.lst (zs'.map V.int)) ∧ zs' ≠ [] ∧ zs'.length ≤ 1 + (i + 1) ∧ (∀ e ∈ zs',0 ≤ e ∧ e < h.o * h.e) ∧ [some (V.ref p),some (V.ref lf),some (V.bl b),some (V.ref sl),some (V.int (z / h.e)),some (V.int (0 + (i:Int)))] = [some (.ref p),some (.ref lf),some (.bl b),some (.ref sl),some (.int (z / h.e)),v5']:=fun x m x0 x1=>by
    refine ⟨m,zs ++ [x],_,fun b u hb e=>?_,by rw [g7 nsl.symm,d4],by rw [d4,List.map_append]; rfl,by simp,by rw [List.length_append]; show zs.length + 1 ≤ 1 + (i + 1); lia,fun e he=>?_,rfl⟩
    ·rw [g7 (i4 e hslH),g7 hb]
     exact fG b u hb e
    ·rcases List.mem_append.mp he with y | y
     ·exact bz e y
     ·rw [List.mem_singleton.mp y]
      exact ⟨x0,x1⟩
   have small:(zs.map V.int).length < sizeLine:=by
    rw [List.length_map]
    exact Nat.lt_of_le_of_lt (show zs.length ≤ 4 by lia) (by decide)
   refine ⟨_,rfl,_,rfl,E9 (fun c=>?_) (fun c=>?_)⟩
   ·refine ⟨_,rfl,.inl ⟨rfl,_,SqL.of eS⟩,_,rfl,_,rfl,p,_,_,_,rfl,rfl,hpk _ fG,rfl,_,rfl,p,_,_,_,rfl,rfl,hpk _ fG,rfl,_,_,rfl,rfl,.inl ⟨by lia,by lia⟩,lf,n',_,rfl,eG,by lia,by lia,sl,_,_,rfl,rfl,(by rw [g7 nsl]; exact eS),small,?_⟩
    exact put _ _ (Int.emod_nonneg n' (by lia)) (Int.emod_lt_of_pos n' (by lia))
   ·refine ⟨_,rfl,.inl ⟨rfl,_,SqL.of eS⟩,_,rfl,_,rfl,p,_,_,_,rfl,rfl,hpk _ fG,rfl,_,_,rfl,rfl,.inr ⟨by lia,by lia⟩,_,rfl,_,rfl,p,_,_,_,rfl,rfl,hpk _ fG,rfl,lf,n',_,rfl,eG,by lia,by lia,_,_,rfl,rfl,sl,_,_,rfl,rfl,(by rw [g7 nsl]; exact eS),small,?_⟩
    have ei:=oU (n:=n') ok z0 z1
    exact put _ _ ei.1 ei.2
  ·rintro σ G ⟨n',zs,v5,fG,eG,eS,ne,lz,bz,rfl⟩
   exact rest _ _ ⟨n',zs,v5,fG,eG,eS,ne,by lia,bz,rfl⟩
 rintro σ G ⟨n',zs,v5,fG,eG,eS,ne,lz,bz,rfl⟩
 refine ⟨_,rfl,sl,zs,rfl,SqL.of eS,Nat.lt_of_le_of_lt lz (by decide),fun l2 hl2=>?_⟩
 refine ⟨l2,zs,rfl,d4,Nat.lt_of_le_of_lt lz (by decide),fun l3 hl3=>?_⟩
 have s2:=(g6 hl2 (pX P w l2 zs)).trans (g6 hl3 (.lst ((B1 zs).map V.int)))
 have hl3G:G l3 = none:=B3 (g6 hl2 _) hl3
 have nl3:l3 ≠ lf:=fun y=>by rw [y,eG] at hl3G; cases hl3G
 refine q l3 (B1 zs) _ (fun b u hb e=>s2 _ _ (fG b u hb e)) ?_ d4 ⟨E8 _,fun y=>?_,Nat.le_trans (Z6 _) lz,fun e he=>bz e ((A5 _ _).mp he)⟩
 ·cases y:H l3 with
  | none=>rfl
  | some u=>rw [fG l3 u nl3 y] at hl3G; cases hl3G
 ·obtain ⟨e,zs',rfl⟩:∃ e zs',zs = e :: zs':=by
   cases zs with
   | nil=>exact absurd rfl ne
   | cons a b=>exact ⟨a,b,rfl⟩
  have:=(A5 e (e :: zs')).mpr (List.mem_cons_self ..)
  rw [y] at this
  cases this
end
theorem ac {α β:Type} {R:α → β → Prop} {as:List α} {ds:List β} (a0:α) (d0:β) (h:Paired R as ds):∀ (is:List Nat),(∀ i ∈ is,i < ds.length) → Paired R (is.map fun i=>as.getD i a0) (is.map fun i=>ds.getD i d0)
 | [],_=>.nil
 | i :: t,hin=>by
  refine .cons ?_ (ac a0 d0 h t fun j hj=>hin j (List.mem_cons_of_mem _ hj))
  have hi:=hin i (List.mem_cons_self ..)
  have hl:as.length = ds.length:=Paired.length h
  have ea:as[i]? = some (as[i]'(by lia)):=List.getElem?_eq_getElem (by lia)
  obtain ⟨d,e2,hs⟩:=m9 h i _ ea
  show R (as.getD i a0) (ds.getD i d0)
  rw [show as.getD i a0 = as[i]'(by lia) by rw [List.getD,ea]; rfl,show ds.getD i d0 = d by rw [List.getD,e2]; rfl]
  exact hs
theorem eK {K:PySem.W.Frag} {H:Hp}:∀ {as:List Addr} {ks:List Call},A3 H as ks → ∃ its:List (List V),V7 K H as its ∧ Paired (fun k xs=>∃ e,xs = [V.int k.c,V.ref e,V.int k.k]) ks its
:=fun h=>by
  induction h with
  | nil=>exact ⟨[],.nil,.nil⟩
  | @cons _ k _ _ h t ih =>
    obtain ⟨e,h1,h2⟩:=h
    obtain ⟨its,q1,q2⟩:=ih
    exact ⟨[V.int k.c,V.ref e,V.int k.k] :: its,.cons ⟨SqT.of h2,_,_,rfl⟩ q1,.cons ⟨e,rfl⟩ q2⟩
theorem dw {K:PySem.W.Frag} {H:Hp} {l:Addr} {as:List Addr} {ks:List Call} {Q:VK} (el:H l = some (.lst (as.map V.ref))) (hC:A3 H as ks) (h64:ks.length < 64) (ne:ks.Pairwise fun k k'=>k.c ≠ k'.c)
  (q:∀ l2 as' ks',H l2 = none → A3 H as' ks' → ks'.Perm ks → ks'.Pairwise (fun k k'=>k.c < k'.c) → Q (.ref l2) (upd H l2 (.lst (as'.map V.ref)))):dP K [.ref l] H Q:=by
 obtain ⟨its,t1,t2⟩:=eK (K:=K) hC
 have la:=Paired.length hC
 have lk:=Paired.length t2
 have gd:∀ (i:Nat) k,ks[i]? = some k → ks.getD i ⟨0,[],0⟩ = k:=fun i k e=>by rw [List.getD,e]; rfl
 have uniq:∀ (i j:Nat) k k',ks[i]? = some k → ks[j]? = some k' → k.c = k'.c → i = j:=fun i j k k' e1 e2 hc=>by
  obtain ⟨q1,z1⟩:=List.getElem?_eq_some_iff.mp e1
  obtain ⟨q2,z2⟩:=List.getElem?_eq_some_iff.mp e2
  rcases Nat.lt_trichotomy i j with hij | hij | hij
  ·have:=(List.pairwise_iff_getElem.mp ne) i j q1 q2 hij
   rw [z1,z2] at this
   exact absurd hc this
  ·exact hij
  ·have:=(List.pairwise_iff_getElem.mp ne) j i q2 q1 hij
   rw [z1,z2] at this
   exact absurd hc.symm this
 have back:∀ (i:Nat) x,its[i]? = some x → ∃ k e,ks[i]? = some k ∧ x = [V.int k.c,V.ref e,V.int k.k]:=fun i x hx=>by
  have hi:=(List.getElem?_eq_some_iff.mp hx).1
  have ek:ks[i]? = some (ks[i]'(by lia)):=List.getElem?_eq_getElem (by lia)
  obtain ⟨x',e1,e,e2⟩:=m9 t2 i _ ek
  rw [hx] at e1
  cases e1
  exact ⟨_,e,ek,e2⟩
 refine ⟨l,as,its,fun i=>(ks.getD i ⟨0,[],0⟩).c,rfl,SqL.of el,t1,by lia,fun i j x y hx hy=>?_,fun pq pm up l2 hl2=>?_⟩
 ·obtain ⟨k,e,e1,rfl⟩:=back i x hx
  obtain ⟨k',e',e2,rfl⟩:=back j y hy
  show (if k.c = k'.c then O3 [V.ref e,V.int k.k] [V.ref e',V.int k'.k] else some (decide (k.c < k'.c))) = some (decide ((ks.getD i ⟨0,[],0⟩).c < (ks.getD j ⟨0,[],0⟩).c))
  rw [gd i k e1,gd j k' e2]
  by_cases c:k.c = k'.c
  ·obtain rfl:=uniq i j k k' e1 e2 c
   rw [hx] at hy
   rw [e1] at e2
   cases e2
   cases hy
   rw [if_pos rfl]
   show (if e = e then (if k.k = k.k then O3 [] [] else some (decide (k.k < k.k))) else none) = _
   rw [if_pos rfl,if_pos rfl,decide_eq_false (Int.lt_irrefl _)]
   rfl
  ·rw [if_neg c]
 ·rw [la] at pm up
  obtain ⟨g1,g2⟩:=fi (xs:=ks) pm up ⟨0,[],0⟩ Call.c fun i _=>rfl
  have hin:∀ i ∈ pq.toList,i < ks.length:=fun i hi=>by
   have:=(Array.Perm.mem_iff pm (a:=i)).mp (by simpa using hi)
   simpa using this
  have cs:=ac 0 ⟨0,[],0⟩ hC pq.toList hin
  generalize (pq.toList.map fun i=>ks.getD i ⟨0,[],0⟩) = ks' at g1 g2 cs
  have ne':ks'.Pairwise fun k k'=>k.c ≠ k'.c:=(List.Perm.pairwise_iff (fun q=>Ne.symm q) g1).mpr ne
  exact q l2 _ ks' hl2 cs g1 ((g2.and ne').imp fun {k k'} ⟨q1,q2⟩=>by lia)
def X1 (c:Int):List Key:=[.inr "caller",.inl c]
def ce (r k:Int):List Key:=[.inr "near",.inl r,.inl k]
def qP (e:Int):List Key:=[.inr "end",.inl e]
def db (r k:Int):List Key:=[.inr "far",.inl r,.inl k]
def gQ (h:y8) (k:Call) (d:List Key):Prop:=d = X1 k.c ∨ d = ce (k.c / h.c) k.k ∨ ∃ e ∈ k.es,d = db (e / h.e) k.k
def cg (h:y8) (k k':Call):Prop:=∀ d,gQ h k d → ¬ gQ h k' d
def Q5 (H:Hp) (as:List Addr) (ds:List (List Key)):Prop:=Paired (fun a d=>H a = some (.tup (d.map kV))) as ds
theorem Q5.mono {H H':Hp} {as:List Addr} {ds:List (List Key)} (h:Q5 H as ds) (s:∀ b xs,H b = some (.tup xs) → H' b = some (.tup xs)):Q5 H' as ds:=Paired.mapP h fun a d z=>s _ _ z
theorem Q5.sq {K:PySem.W.Frag} {H:Hp} {as:List Addr} {ds:List (List Key)} (h:Q5 H as ds):Paired (fun a d=>SqT K H a (d.map kV)) as ds:=Paired.mapP h fun a d z=>SqT.of z
def ej (K:PySem.W.Frag):Sp:=fun vs H Q _=>∃ (a p:Addr) (cs:List Int) (h:y8) (b:Bool),vs = [.ref a,.ref p,.int 3,.int 63,.bl b] ∧ SqL K H a (cs.map V.int) ∧ cs.length ≤ 63 ∧ SqT K H p (h.row.map V.int) ∧ h.Ok ∧ ∀ (l:Addr) (as:List Addr) (ks:List Call) (H':Hp),j7 H H' → H' l = some (.lst (as.map V.ref)) → A3 H' as ks → (∀ k ∈ ks,k.In h) → ks.Pairwise (cg h) → ks.length ≤ 60 → Q (.ref l) H'
theorem cg.caller {h:y8} {k k':Call} (f:cg h k k'):k.c ≠ k'.c:=fun z=>f _ (.inl rfl) (.inl (by rw [z]))
structure Dr (K:PySem.W.Frag) (H G:Hp) (h:y8) (fl hd:Addr) (as:List Addr) (ks:List Call) (kvs:List (List Key × V)) (i:Nat):Prop where
 same:j7 H G
 efl:G fl = some (.lst (as.map V.ref))
 ehd:G hd = some (.dT kvs)
 cs:A3 G as ks
 inh:∀ k ∈ ks,k.In h
 pw:ks.Pairwise (cg h)
 held:∀ k ∈ ks,∀ d,gQ h k d → (r9 kvs d).isSome = true
 lk:ks.length ≤ i
 lv:kvs.length ≤ 10 * i
theorem Dr.sm {K:PySem.W.Frag} {H G G':Hp} {h:y8} {fl hd:Addr} {as:List Addr} {ks:List Call} {kvs:List (List Key × V)} {i:Nat} (D:Dr K H G h fl hd as ks kvs i) (s:j7 G G'):Dr K H G' h fl hd as ks kvs i:=⟨D.same.trans s,s _ _ D.efl,s _ _ D.ehd,D.cs.same s,D.inh,D.pw,D.held,D.lk,D.lv⟩
theorem Dr.off {K:PySem.W.Frag} {H G:Hp} {h:y8} {fl hd nl:Addr} {as:List Addr} {ks:List Call} {kvs:List (List Key × V)} {i:Nat} {xs:List V} {o:HO} (D:Dr K H G h fl hd as ks kvs i) (e:G nl = some (.lst xs)) (n1:nl ≠ fl) (n2:H nl = none):Dr K H (upd G nl o) h fl hd as ks kvs i:=⟨fun b u z=>by rw [g7 (i4 z n2)]; exact D.same b u z,by rw [g7 n1.symm]; exact D.efl,by rw [g7 (fun y=>by rw [← y,D.ehd] at e; cases e)]; exact D.ehd,D.cs.mono (z9 e),D.inh,D.pw,D.held,D.lk,D.lv⟩
theorem Dr.up {K:PySem.W.Frag} {H G:Hp} {h:y8} {fl hd:Addr} {as:List Addr} {ks:List Call} {kvs:List (List Key × V)} {i j:Nat} (D:Dr K H G h fl hd as ks kvs i) (l:i ≤ j):Dr K H G h fl hd as ks kvs j:=⟨D.same,D.efl,D.ehd,D.cs,D.inh,D.pw,D.held,Nat.le_trans D.lk l,Nat.le_trans D.lv (Nat.mul_le_mul_left _ l)⟩
section
variable {P:Program} {w:World} {K:PySem.W.Frag} {mg:Str → Option Value} {base:Heap}
theorem m8:FnScope ["_law_script","_law_hall_here","_law_start","_law_last","_law_wide_here","_law_found","_law_held","_law_k","_law_number","_law_caller","_law_ends","_law_amid","_law_left","_law_needs","_law_end","_law_need"] ["_law_script","_law_hall_here","_law_start","_law_last","_law_wide_here"] (d7 (top 42)):=⟨rfl,rfl,rfl,by decide +kernel,rfl,by decide +kernel,by decide +kernel⟩
set_option maxHeartbeats 4000000 in
theorem ju (T:Txt K mg) (C__law_cell_at:h9 P w K mg base 1 "_law_cell_at" ["_law_script","_law_k"] (gZ K)) (C__law_mixed:h9 P w K mg base 1 "_law_mixed" ["_law_cell","_law_k"] aG) (C__law_digit:h9 P w K mg base 1 "_law_digit" ["_law_left","_law_many"] X2) (C__law_ends_of:h9 P w K mg base 1 "_law_ends_of" ["_law_hall_here","_law_number","_law_wide_here"] (lH K)) (C__law_free_ends:h9 P w K mg base 2 "_law_free_ends" ["_law_hall_here","_law_left","_law_wide_here"] (iJ K)) (D:Def K mg "_law_calls" (top 42) ["_law_script","_law_hall_here","_law_start","_law_last","_law_wide_here"]):h9 P w K mg base 4 "_law_calls" ["_law_script","_law_hall_here","_law_start","_law_last","_law_wide_here"] (ej K):=by
 refine D.ok m8 (fun vs H Q E h=>?_) (fun f cdv A outer s H vs Q E hr h=>?_)
 ·obtain ⟨a,p,cs,h,b,rfl,_⟩:=h
  rfl
 obtain ⟨a,p,cs,h,b,rfl,hS,h63,hp,ok,q⟩:=h
 have b1:=ok.i
 have b2:=ok.c
 have b3:=ok.o
 have b4:=ok.e
 have b5:=ok.m
 have ic:=ok.ic
 have oe:=ok.oe
 refine ⟨_,(d5 (i6 (i:=5) m8.nd rfl (Or.inl rfl) (F8 d6))
  (d5 (i6 (i:=6) m8.nd rfl (Or.inr rfl) bo)
  (d5 (w5 PassesOwn.never rfl (jJ rfl T.m_range (b7 (pv 2) (b7 (i8 (jG rfl) rfl T.m_min boot_min (b7 (i8 (u7 K) rfl T.m_len boot_len (b7 (pv 0) d6 b8)) (b7 (pv 3) d6 b8) w6)) d6 w6) b8)) (m6 (i:=7) m8.nd rfl (Or.inl rfl))
  (d5 (i6 (i:=8) m8.nd rfl (Or.inl rfl) (m4 C__law_mixed hr rfl (b7 (g9 (p9 K) (pv 0) (pv 7) (fun _ _=>rfl)) (b7 (pv 7) d6 b8) m5)))
  (d5 (i6 (i:=9) m8.nd rfl (Or.inl rfl) (i0 q5 (pv 8) (i0 F7 (g9 (d8 K) (pv 1) b9 (fun _ _=>rfl)) (g9 (d8 K) (pv 1) b9 (fun _ _=>rfl)))))
  (d5 (i6 (i:=10) m8.nd rfl (Or.inl rfl) (m4 C__law_ends_of hr rfl (b7 (pv 1) (b7 (pv 8) (b7 (pv 4) d6 b8) b8) b8)))
  (d5 (i6 (i:=11) m8.nd rfl (Or.inl rfl) (i0 q5 (i0 n5 (pv 8) b9) (g9 (d8 K) (pv 1) b9 (fun _ _=>rfl))))
  (d5 (p4 (j0 E3 (i0 q5 (m4 C__law_cell_at hr rfl (b7 (pv 0) (b7 b9 d6 m7) b8)) b9) b9 (j8 _)) (d5 (i6 (i:=12) m8.nd rfl (Or.inl rfl) (F8 (b7 (i8 bb rfl T.m_abs boot_abs (b7 (g9 (p9 K) (pv 0) (pv 7) (fun _ _=>rfl)) d6 m5)) d6 w6)))
  (d5 (i6 (i:=9) m8.nd rfl (Or.inl rfl) (m4 C__law_digit hr rfl (b7 (pv 12) (b7 (i0 F7 (g9 (d8 K) (pv 1) b9 (fun _ _=>rfl)) (g9 (d8 K) (pv 1) b9 (fun _ _=>rfl))) d6 r6) b8)))
  (d5 (i6 (i:=11) m8.nd rfl (Or.inl rfl) (m4 C__law_digit hr rfl (b7 (pv 12) (b7 (g9 (d8 K) (pv 1) b9 (fun _ _=>rfl)) d6 m5) b8)))
  (d9 (i6 (i:=10) m8.nd rfl (Or.inl rfl) (m4 C__law_free_ends hr rfl (b7 (pv 1) (b7 (pv 12) (b7 (pv 4) d6 b8) b8) b8))))))) j9)
  (d5 (i6 (i:=13) m8.nd rfl (Or.inl rfl) (i0 hG (F8 (b7 (w4 (b7 M9 (b7 (pv 9) d6 b8) m7)) (b7 (w4 (b7 M9 (b7 (i0 n5 (pv 9) (g9 (d8 K) (pv 1) b9 (fun _ _=>rfl))) (b7 (pv 11) d6 b8) r6) m7)) d6 S5) S5)) (J6 (own:=["_law_end"]) (fr:=[]) rfl (show CompScope ["_law_script","_law_hall_here","_law_start","_law_last","_law_wide_here","_law_found","_law_held","_law_k","_law_number","_law_caller","_law_ends","_law_amid","_law_left","_law_needs","_law_end","_law_need"] (d7 (top 42)) _ _ _ from ⟨rfl,by decide +kernel,by decide +kernel,by decide +kernel,by decide +kernel⟩) (o6 K (pv 10)) (fun cl C s H ex=>⟨(m6 (i:=0) (show (["_law_end"]:List Str).Nodup from by decide +kernel) rfl (Or.inl rfl) (Or.inr rfl)),D7,(w4 (b7 M9 (b7 (pv 0) d6 b8) m7))⟩))))
  (d5 (w5 PassesOwn.never rfl (o6 K (pv 10)) (m6 (i:=14) m8.nd rfl (Or.inl rfl))
  (d9 (p4 (j0 (gL K (C3.unitsT hr)) (w4 (b7 M9 (b7 (i0 n5 (pv 14) (g9 (d8 K) (pv 1) b9 (fun _ _=>rfl))) (b7 (pv 11) d6 b8) r6) m7)) (pv 13) (by with_unfolding_all rfl)) (d9 (y6 (N3 K PySem.F.plainAttrs_list PySem.F.slot_list_append PySem.F.type_list_append x9 (pv 13) (b7 (w4 (b7 M9 (b7 (i0 n5 (pv 14) (g9 (d8 K) (pv 1) b9 (fun _ _=>rfl))) (b7 (pv 11) d6 b8) r6) m7)) d6 S5)))) j9)))
  (d9 (p4 (j0 E3 (i8 (u7 K) rfl T.m_len boot_len (b7 (J6 (own:=["_law_need"]) (fr:=[(6,"_law_held")]) rfl (show CompScope ["_law_script","_law_hall_here","_law_start","_law_last","_law_wide_here","_law_found","_law_held","_law_k","_law_number","_law_caller","_law_ends","_law_amid","_law_left","_law_needs","_law_end","_law_need"] (d7 (top 42)) _ _ _ from ⟨rfl,by decide +kernel,by decide +kernel,by decide +kernel,by decide +kernel⟩) (o6 K (pv 13)) (fun cl C s H ex=>⟨(m6 (i:=0) (show (["_law_need","_law_held"]:List Str).Nodup from by decide +kernel) rfl (Or.inl rfl) (Or.inr rfl)),(aK (ba (aN (L9 hr) (pv 0) (pv 1)))),(pv 0)⟩)) d6 M0)) b9 (j8 _)) (d5 (w5 PassesOwn.never rfl (o6 K (pv 13)) (m6 (i:=15) m8.nd rfl (Or.inl rfl))
  (d9 (U1 (L9 hr) (pv 6) (pv 15) A2 rfl)))
  (d9 (y6 (N3 K PySem.F.plainAttrs_list PySem.F.slot_list_append PySem.F.type_list_append x9 (pv 5) (b7 (w4 (b7 (pv 9) (b7 (J8 (S9 K) rfl T.m_tuple boot_tuple (b7 (pv 10) d6 b8)) (b7 (pv 11) d6 b8) w6) b8)) d6 S5))))) j9))))))))))
  (d9 (i9 (i8 (bQ K) rfl T.m_sorted boot_sorted (b7 (pv 5) d6 b8))))))),?_⟩
 refine ⟨(by show 0 ≤ sizeLine; decide),fun fl hfl=>?_⟩
 have s0:=g6 hfl (.lst [])
 have e0:=d4 (H:=H) (a:=fl) (o:=.lst [])
 dsimp only [o8,q9]
 generalize upd H fl _ = G0 at s0 e0 ⊢
 refine fun hd hhd=>?_
 have s1:=g6 hhd (.dT [])
 have D0:Dr K H (upd G0 hd (.dT [])) h fl hd [] [] [] 0:=⟨s0.trans s1,s1 _ _ e0,d4,.nil,(fun k hk=>by cases hk),List.Pairwise.nil,(fun k hk=>by cases hk),Nat.le_refl _,Nat.le_refl _⟩
 have nfh:fl ≠ hd:=fun y=>by rw [y,hhd] at e0; cases e0
 have hhdH:=B3 s0 hhd
 dsimp only [o8,q9]
 change mh _ _ _ _ (upd G0 hd (.dT []))
 generalize upd G0 hd _ = G1 at D0 ⊢
 clear s0 e0 s1 hhd G0
 have hSG:∀ {G:Hp},j7 H G → SqL K G a (cs.map V.int):=fun s=>s.seq hS
 have hpG:∀ {G:Hp},j7 H G → SqT K G p (h.row.map V.int):=fun s=>B2 s hp
 refine A9 (fun σ G=>∃ (as:List Addr) (ks:List Call) (kvs:List (List Key × V)) (v7 v8 v9 v10 v11 v12 v13 v14 v15:Option V),Dr K H G h fl hd as ks kvs 60 ∧ σ = [some (.ref a),some (.ref p),some (.int 3),some (.int 63),some (.bl b),some (.ref fl),some (.ref hd),v7,v8,v9,v10,v11,v12,v13,v14,v15]) (fun R rest=>?_) ?_
 ·refine ⟨_,rfl,_,rfl,a,_,rfl,.inl (hSG D0.same),_,rfl,_,_,rfl,?_⟩
  have hlen:(if (63:Int) < (((cs.map V.int).length:Nat):Int) then (63:Int) else (((cs.map V.int).length:Nat):Int)) = ((cs.length:Nat):Int):=by rw [List.length_map,if_neg (by lia)]
  refine ⟨3,_,rfl,?_,?_⟩
  ·rw [hlen]; lia
  rw [hlen]
  refine K1 (lo:=3) (n:=(((cs.length:Nat):Int) - 3).toNat) (fun i σ G=>∃ (as:List Addr) (ks:List Call) (kvs:List (List Key × V)) (v7 v8 v9 v10 v11 v12 v13 v14 v15:Option V),Dr K H G h fl hd as ks kvs i ∧ σ = [some (.ref a),some (.ref p),some (.int 3),some (.int 63),some (.bl b),some (.ref fl),some (.ref hd),v7,v8,v9,v10,v11,v12,v13,v14,v15]) ⟨[],[],[],_,_,_,_,_,_,_,_,_,D0,rfl⟩ ?_ ?_
  rotate_left
  ·rintro σ G ⟨as,ks,kvs,v7,v8,v9,v10,v11,v12,v13,v14,v15,D,rfl⟩
   exact rest _ _ ⟨as,ks,kvs,v7,v8,v9,v10,v11,v12,v13,v14,v15,D.up (by lia),rfl⟩
  rintro i σ G hi ⟨as,ks,kvs,v7,v8,v9,v10,v11,v12,v13,v14,v15,D,rfl⟩
  have hi':i + 3 < cs.length:=by lia
  have atk:atI (cs.map V.int) (3 + (i:Int)) = some (.int (cell cs (i + 3))):=by
   rw [show 3 + (i:Int) = ((i + 3:Nat):Int) by lia]
   exact lJ hi'
  refine ⟨_,rfl,_,rfl,a,_,_,_,rfl,rfl,hSG D.same,atk,_,rfl,cell cs (i + 3),i + 3,(show [V.int (cell cs (i + 3)),V.int (3 + (i:Int))] = _ by rw [show 3 + (i:Int) = ((i + 3:Nat):Int) by lia]),by lia,fun nb nb0 nb1=>?_⟩
  dsimp only [o8,q9]
  refine ⟨_,rfl,_,rfl,p,_,_,_,rfl,rfl,hpG D.same,rfl,_,rfl,p,_,_,_,rfl,rfl,hpG D.same,rfl,_,_,rfl,rfl,.inl ⟨by lia,by lia⟩,_,_,rfl,rfl,(by show 0 < h.i * h.c; lia),?_⟩
  have c0:=Int.emod_nonneg nb (show h.i * h.c ≠ 0 by lia)
  have c1:=Int.emod_lt_of_pos nb (show 0 < h.i * h.c by lia)
  dsimp only [o8,q9]
  generalize nb % (h.i * h.c) = c at c0 c1 ⊢
  refine ⟨_,rfl,_,rfl,_,rfl,p,h,nb,b,rfl,hpG D.same,ok,nb0,fun el es G1 s1 hel eel eok=>?_⟩
  dsimp only [o8,q9]
  have D1:=D.sm s1
  clear D
  refine ⟨_,rfl,_,_,rfl,rfl,⟨by decide,by decide⟩,_,rfl,p,_,_,_,rfl,rfl,hpG D1.same,rfl,_,_,rfl,rfl,(by show 0 < h.m; lia),?_⟩
  have k0:=Int.emod_nonneg (nb / 20736) (show h.m ≠ 0 by lia)
  have k1:=Int.emod_lt_of_pos (nb / 20736) (show 0 < h.m by lia)
  dsimp only [o8,q9]
  generalize nb / 20736 % h.m = kk at k0 k1 ⊢
  refine A9 (fun σ G=>∃ (c kk:Int) (el:Addr) (es:List Int) (v12:Option V),Dr K H G h fl hd as ks kvs i ∧ (0 ≤ c ∧ c < h.i * h.c) ∧ (0 ≤ kk ∧ kk < h.m) ∧ G el = some (.lst (es.map V.int)) ∧ gX h es ∧
   σ = [some (.ref a),some (.ref p),some (.int 3),some (.int 63),some (.bl b),some (.ref fl),some (.ref hd),some (.int (3 + (i:Int))),some (.int nb),some (.int c),some (.ref el),some (.int kk),v12,v13,v14,v15]) (fun R rest=>?_) ?_
  ·refine ⟨_,rfl,a,cs,0,rfl,hSG D1.same,_,_,rfl,rfl,(by show (0:Int) < 2; decide),rfl,_,rfl,E9 (fun _=>?_) (fun _=>rest _ _ ⟨c,kk,el,es,_,D1,⟨c0,c1⟩,⟨k0,k1⟩,eel,eok,rfl⟩)⟩
   refine ⟨_,rfl,_,rfl,a,_,_,_,rfl,rfl,hSG D1.same,atk,_,rfl,(by show 1 ≤ sizeLine; decide),fun lf hlf=>?_⟩
   have uu:∀ o o',upd (upd G1 lf o) lf o' = upd G1 lf o':=fun o o'=>by
    funext x
    by_cases y:x = lf
    ·subst y; rw [d4,d4]
    ·rw [g7 y,g7 y,g7 y]
   have sl:∀ o,j7 G1 (upd G1 lf o):=fun o=>g6 hlf o
   dsimp only [o8,q9]
   generalize (if cell cs (i + 3) < 0 then -cell cs (i + 3) else cell cs (i + 3)) = n0
   have hpl:∀ o,SqT K (upd G1 lf o) p (h.row.map V.int):=fun o=>hpG (D1.same.trans (sl o))
   refine ⟨_,rfl,_,rfl,p,_,_,_,rfl,rfl,hpl _,rfl,_,rfl,p,_,_,_,rfl,rfl,hpl _,rfl,_,_,rfl,rfl,.inl ⟨by lia,by lia⟩,lf,n0,_,rfl,d4,by lia,by lia,?_⟩
   dsimp only [o8,q9]
   rw [uu]
   refine ⟨_,rfl,_,rfl,p,_,_,_,rfl,rfl,hpl _,rfl,lf,_,_,rfl,d4,by lia,by lia,?_⟩
   dsimp only [o8,q9]
   rw [uu]
   refine ⟨_,rfl,_,rfl,_,rfl,p,lf,h,_,b,rfl,hpl _,fun G' fr=>?_,ok,d4,fun el2 es2 G3 fr hel2 eel2 eok2=>?_⟩
   ·refine B2 (H:=G1) (fun x u z=>fr x u (i4 z hlf) ?_) (hpG D1.same)
    rw [g7 (i4 z hlf)]
    exact z
   ·have s3:j7 G1 G3:=fun x u z=>fr x u (i4 z hlf) (by rw [g7 (i4 z hlf)]; exact z)
    exact rest _ _ ⟨_,_,el2,es2,_,D1.sm s3,⟨Int.emod_nonneg _ (by lia),Int.emod_lt_of_pos _ (by lia)⟩,⟨Int.emod_nonneg _ (by lia),Int.emod_lt_of_pos _ (by lia)⟩,eel2,eok2,rfl⟩
  clear D1 eel eok c0 c1 k0 k1 c kk
  rintro σ G2 ⟨c,kk,el,es,v12,D2,hc,hkk,eel,eok,rfl⟩
  have e4:=eok.few
  refine A9 (fun σ G=>∃ (nl:Addr) (nas:List Addr) (nds:List (List Key)),j7 G2 G ∧ G2 nl = none ∧ G nl = some (.lst (nas.map V.ref)) ∧ Q5 G nas nds ∧ X1 c ∈ nds ∧ ce (c / h.c) kk ∈ nds ∧ nds.length ≤ 6 ∧
   σ = [some (.ref a),some (.ref p),some (.int 3),some (.int 63),some (.bl b),some (.ref fl),some (.ref hd),some (.int (3 + (i:Int))),some (.int nb),some (.int c),some (.ref el),some (.int kk),v12,some (.ref nl),v14,v15]) (fun R rest=>?_) ?_
  ·refine ⟨_,rfl,(by show 2 ≤ sizeLine; decide),fun t1 ht1=>?_⟩
   have s3:=g6 ht1 (.tup [.str "caller",.int c])
   have e1:=d4 (H:=G2) (a:=t1) (o:=.tup [.str "caller",.int c])
   generalize upd G2 t1 _ = G3 at s3 e1 ⊢
   refine ⟨_,rfl,_,rfl,p,_,_,_,rfl,rfl,hpG (D2.same.trans s3),rfl,_,_,rfl,rfl,⟨by lia,by lia⟩,_,rfl,(by show 3 ≤ sizeLine; decide),fun t2 ht2=>?_⟩
   have s4:=s3.trans (g6 ht2 (.tup [.str "near",.int (c / h.c),.int kk]))
   have e14:=g6 ht2 (.tup [.str "near",.int (c / h.c),.int kk]) _ _ e1
   have e2:=d4 (H:=G3) (a:=t2) (o:=.tup [.str "near",.int (c / h.c),.int kk])
   generalize upd G3 t2 _ = G4 at s4 e14 e2 ⊢
   refine ⟨(by show 2 ≤ sizeLine; decide),fun l1 hl1=>?_⟩
   have s5':=g6 hl1 (.lst [.ref t1,.ref t2])
   have s5:=s4.trans s5'
   have e15:=s5' _ _ e14
   have e25:=s5' _ _ e2
   have el1:=d4 (H:=G4) (a:=l1) (o:=.lst [.ref t1,.ref t2])
   generalize upd G4 l1 _ = G5 at s5 e15 e25 el1 ⊢
   have eel5:=s5 _ _ eel
   refine ⟨_,rfl,el,rfl,⟨_,SqL.of eel5⟩,?_⟩
   refine C8 (xs:=es.map V.int) (fun j acc σ G=>j7 G5 G ∧ (∃ ts:List Addr,acc = ts.map V.ref ∧ Q5 G ts ((es.take j).map qP)) ∧ ∃ v,σ = [v]) ⟨j7.refl _,⟨[],rfl,.nil⟩,_,rfl⟩ ?_ ?_ ?_ ?_ ?_
   ·rw [List.length_map]; exact Nat.le_trans e4 (by decide)
   ·rintro j acc σ G ⟨_,⟨ts,rfl,kt⟩,_⟩
    have:=Paired.length kt
    rw [List.length_map,List.length_take] at this
    rw [List.length_map]
    lia
   ·rintro j acc σ G _ ⟨s,_⟩
    exact SqL.of (s _ _ eel5)
   ·rintro j x acc σ G hx ⟨s,⟨ts,rfl,kt⟩,v,rfl⟩
    rw [List.getElem?_map] at hx
    obtain ⟨e,he,rfl⟩:=Option.map_eq_some_iff.mp hx
    refine ⟨_,rfl,(by show 2 ≤ sizeLine; decide),fun t ht=>?_⟩
    have s6:=g6 ht (.tup [.str "end",.int e])
    refine ⟨s.trans s6,⟨ts ++ [t],by rw [List.map_append]; rfl,?_⟩,_,rfl⟩
    rw [List.take_succ,he,Option.toList_some,List.map_append]
    exact K8 (kt.mono fun b xs z=>s6 _ _ z) d4
   ·rintro acc σ G ⟨s,⟨ts,rfl,kt⟩,v,rfl⟩ l2 hl2
    rw [List.length_map,List.take_length] at kt
    have lts:=Paired.length kt
    rw [List.length_map] at lts
    have s6:=g6 hl2 (.lst (ts.map V.ref))
    have e6:=d4 (H:=G) (a:=l2) (o:=.lst (ts.map V.ref))
    generalize upd G l2 _ = G6 at s6 e6 ⊢
    refine ⟨l1,l2,_,_,rfl,rfl,(s.trans s6) _ _ el1,e6,?_,fun l3 hl3=>?_⟩
    ·rw [List.length_map]
     exact Nat.le_trans (show 2 + ts.length ≤ 6 by lia) (by decide)
    have s7:=g6 hl3 (.lst ([.ref t1,.ref t2] ++ ts.map V.ref))
    have s57:=s.trans (s6.trans s7)
    refine rest _ _ ⟨l3,t1 :: t2 :: ts,X1 c :: ce (c / h.c) kk :: es.map qP,s5.trans s57,B3 (s5.trans (s.trans s6)) hl3,d4,?_,List.mem_cons_self ..,List.mem_cons_of_mem _ (List.mem_cons_self ..),?_,rfl⟩
    ·exact .cons (s57 _ _ e15) (.cons (s57 _ _ e25) (kt.mono fun b xs z=>(s6.trans s7) _ _ z))
    ·simp
     lia
  rintro σ G3 ⟨nl,nas,nds,s3,hnl,enl,kn,m1,m2,ln,rfl⟩
  have D3:=D2.sm s3
  have eel3:=s3 _ _ eel
  have nfl:nl ≠ fl:=fun y=>by rw [y,D2.efl] at hnl; cases hnl
  have hnlH:=B3 D2.same hnl
  have nel:nl ≠ el:=fun y=>by rw [y,eel] at hnl; cases hnl
  refine A9 (fun σ G=>∃ (nas:List Addr) (nds:List (List Key)) (v14:Option V),Dr K H G h fl hd as ks kvs i ∧ G el = some (.lst (es.map V.int)) ∧ G nl = some (.lst (nas.map V.ref)) ∧ Q5 G nas nds ∧ X1 c ∈ nds ∧ ce (c / h.c) kk ∈ nds ∧ (∀ e ∈ es,db (e / h.e) kk ∈ nds) ∧ nds.length ≤ 10 ∧
   σ = [some (.ref a),some (.ref p),some (.int 3),some (.int 63),some (.bl b),some (.ref fl),some (.ref hd),some (.int (3 + (i:Int))),some (.int nb),some (.int c),some (.ref el),some (.int kk),v12,some (.ref nl),v14,v15]) (fun R rest=>?_) ?_
  ·refine ⟨_,rfl,el,rfl,⟨_,SqL.of eel3⟩,?_⟩
   refine y9 (xs:=es.map V.int) (fun j σ G=>∃ (nas:List Addr) (nds:List (List Key)) (v14:Option V),Dr K H G h fl hd as ks kvs i ∧ G el = some (.lst (es.map V.int)) ∧ G nl = some (.lst (nas.map V.ref)) ∧ Q5 G nas nds ∧ X1 c ∈ nds ∧ ce (c / h.c) kk ∈ nds ∧ (∀ e ∈ es.take j,db (e / h.e) kk ∈ nds) ∧ nds.length ≤ 6 + j ∧
    σ = [some (.ref a),some (.ref p),some (.int 3),some (.int 63),some (.bl b),some (.ref fl),some (.ref hd),some (.int (3 + (i:Int))),some (.int nb),some (.int c),some (.ref el),some (.int kk),v12,some (.ref nl),v14,v15]) ⟨nas,nds,_,D3,eel3,enl,kn,m1,m2,(fun e he=>by simp at he),ln,rfl⟩ ?_ ?_ ?_
   ·rintro j σ G _ ⟨nas,nds,v14,_,e,_⟩
    exact SqL.of e
   ·rintro j x σ G hx ⟨nas,nds,v14,DG,eG,en,kn,m1,m2,hf,ln,rfl⟩
    rw [List.getElem?_map] at hx
    obtain ⟨e,he,rfl⟩:=Option.map_eq_some_iff.mp hx
    have hj:=(List.getElem?_eq_some_iff.mp he).1
    have tk:∀ (nds':List (List Key)),(∀ d ∈ nds,d ∈ nds') → db (e / h.e) kk ∈ nds' → ∀ x ∈ es.take (j + 1),db (x / h.e) kk ∈ nds':=fun nds' hs hm x hx=>by
     rw [List.take_succ,he] at hx
     rcases List.mem_append.mp hx with y | y
     ·exact hs _ (hf x y)
     ·rw [show x = e by simpa using y]
      exact hm
    refine ⟨_,rfl,_,rfl,p,_,_,_,rfl,rfl,hpG DG.same,rfl,_,_,rfl,rfl,⟨by lia,by lia⟩,_,rfl,(by show 3 ≤ sizeLine; decide),fun t ht=>?_⟩
    have s4:=g6 ht (.tup [.str "far",.int (e / h.e),.int kk])
    have et:=d4 (H:=G) (a:=t) (o:=.tup [.str "far",.int (e / h.e),.int kk])
    have D4:=DG.sm s4
    have kn4:=kn.mono fun b xs z=>s4 _ _ z
    have en4:=s4 _ _ en
    have eG4:=s4 _ _ eG
    generalize upd G t _ = G4 at s4 et D4 kn4 en4 eG4 ⊢
    refine ⟨_,rfl,nl,t,nas,db (e / h.e) kk,nds,rfl,rfl,SqL.of en4,SqT.of et,kn4.sq,_,rfl,?_⟩
    rw [if_pos rfl]
    refine E9 (fun cc=>?_) (fun cc=>?_)
    ·refine ⟨_,rfl,.inl ⟨rfl,_,SqL.of en4⟩,_,rfl,_,rfl,p,_,_,_,rfl,rfl,hpG D4.same,rfl,_,_,rfl,rfl,⟨by lia,by lia⟩,_,rfl,(by show 3 ≤ sizeLine; decide),fun t' ht'=>?_⟩
     have s5:=g6 ht' (.tup [.str "far",.int (e / h.e),.int kk])
     have et':=d4 (H:=G4) (a:=t') (o:=.tup [.str "far",.int (e / h.e),.int kk])
     have D5:=D4.sm s5
     have kn5:=kn4.mono fun b xs z=>s5 _ _ z
     have en5:=s5 _ _ en4
     have eG5:=s5 _ _ eG4
     generalize upd G4 t' _ = G5 at s5 et' D5 kn5 en5 eG5 ⊢
     refine ⟨nl,_,_,rfl,rfl,en5,?_,?_⟩
     ·rw [List.length_map,Paired.length kn5]
      exact Nat.lt_of_le_of_lt (show nds.length ≤ 10 by lia) (by decide)
     refine ⟨nas ++ [t'],nds ++ [db (e / h.e) kk],_,?_,by rw [g7 nel.symm]; exact eG5,by rw [d4,List.map_append]; rfl,?_,List.mem_append_left _ m1,List.mem_append_left _ m2,tk _ (fun d hd=>List.mem_append_left _ hd) (List.mem_append_right _ (List.mem_singleton.mpr rfl)),by rw [List.length_append]; show nds.length + 1 ≤ 6 + (j + 1); lia,rfl⟩
     ·exact D5.off en5 nfl hnlH
     ·exact K8 (kn5.mono fun b xs z=>z9 en5 _ _ z) (z9 en5 _ _ et')
    ·have mm:db (e / h.e) kk ∈ nds:=jd.mp (by simpa using cc)
     exact ⟨nas,nds,_,D4,eG4,en4,kn4,m1,m2,tk nds (fun d hd=>hd) mm,by lia,rfl⟩
   ·rintro σ G ⟨nas,nds,v14,DG,eG,en,kn,m1,m2,hf,ln,rfl⟩
    rw [List.length_map] at hf ln
    rw [List.take_length] at hf
    exact rest _ _ ⟨nas,nds,v14,DG,eG,en,kn,m1,m2,hf,by lia,rfl⟩
  clear D3 eel3 kn m1 m2 ln enl
  rintro σ G4 ⟨nas,nds,v14,D4,eel4,enl,kn,m1,m2,m3,ln,rfl⟩
  have lnn:nas.length = nds.length:=Paired.length kn
  have nhd:nl ≠ hd:=fun y=>by rw [y,D4.ehd] at enl; cases enl
  have fel:fl ≠ el → True:=fun _=>trivial
  refine ⟨_,rfl,nl,rfl,⟨_,SqL.of enl⟩,?_⟩
  refine C8 (xs:=nas.map V.ref) (fun j acc σ G=>G = G4 ∧ (acc = [] → ∀ d ∈ nds.take j,¬ (r9 kvs d).isSome = true) ∧ acc.length ≤ j ∧ ∃ v,σ = [v,some (.ref hd)]) ⟨rfl,(fun _ d hd'=>by simp at hd'),Nat.le_refl _,_,rfl⟩ ?_ ?_ ?_ ?_ ?_
  ·rw [List.length_map,lnn]; exact Nat.le_trans ln (by decide)
  ·rintro j acc σ G ⟨_,_,l,_⟩
   exact l
  ·rintro j acc σ G _ ⟨rfl,_⟩
   exact SqL.of enl
  ·rintro j x acc σ G hx ⟨rfl,no,la,v,rfl⟩
   rw [List.getElem?_map] at hx
   obtain ⟨t,ht,rfl⟩:=Option.map_eq_some_iff.mp hx
   obtain ⟨d,hd',et⟩:=m9 kn j t ht
   refine ⟨_,rfl,_,rfl,hd,_,rfl,N4.t D4.ehd et,_,rfl,E9 (fun cc=>?_) (fun cc=>?_)⟩
   ·exact ⟨_,rfl,rfl,fun y=>absurd y (by simp),by rw [List.length_append]; show acc.length + 1 ≤ j + 1; lia,_,rfl⟩
   ·refine ⟨rfl,fun y d' hd2=>?_,by lia,_,rfl⟩
    rw [List.take_succ,hd'] at hd2
    rcases List.mem_append.mp hd2 with z | z
    ·exact no y d' z
    ·rw [show d' = d by simpa using z]
     exact cc
  rintro acc σ G ⟨rfl,no,la,v,rfl⟩ cl hcl
  rw [List.length_map,lnn,List.take_length] at no
  have s5:=g6 hcl (.lst acc)
  refine ⟨cl,_,rfl,.inl (SqL.of d4),rfl,_,rfl,?_⟩
  have D5:=D4.sm s5
  have enl5:=s5 _ _ enl
  have eel5:=s5 _ _ eel4
  have kn5:=kn.mono fun b xs z=>s5 _ _ z
  generalize upd G cl _ = G5 at s5 D5 enl5 eel5 kn5 ⊢
  refine E9 (fun cc=>?_) (fun cc=>⟨as,ks,kvs,_,_,_,_,_,_,_,_,_,D5.up (Nat.le_succ i),rfl⟩)
  have free:=no (by
   have:((acc.length:Nat):Int) = 0:=V.int.inj (of_decide_eq_true cc)
   exact List.eq_nil_of_length_eq_zero (by lia))
  refine A9 (fun σ G=>∃ (kvs':List (List Key × V)) (v15:Option V),G = upd G5 hd (.dT kvs') ∧ (∀ d ∈ nds,(r9 kvs' d).isSome = true) ∧ (∀ d,(r9 kvs d).isSome = true → (r9 kvs' d).isSome = true) ∧ kvs'.length ≤ kvs.length + 10 ∧
   σ = [some (.ref a),some (.ref p),some (.int 3),some (.int 63),some (.bl b),some (.ref fl),some (.ref hd),some (.int (3 + (i:Int))),some (.int nb),some (.int c),some (.ref el),some (.int kk),v12,some (.ref nl),v14,v15]) (fun R rest=>?_) ?_
  ·refine ⟨_,rfl,nl,rfl,⟨_,SqL.of enl5⟩,?_⟩
   have keep:∀ (o:HO) (b:Addr) (xs:List V),G5 b = some (.tup xs) → upd G5 hd o b = some (.tup xs):=fun o b xs z=>by rw [g7 (fun y=>by rw [y,D5.ehd] at z; cases z)]; exact z
   refine y9 (xs:=nas.map V.ref) (fun j σ G=>∃ (kvs':List (List Key × V)) (v15:Option V),(G = upd G5 hd (.dT kvs')) ∧ (∀ d ∈ nds.take j,(r9 kvs' d).isSome = true) ∧ (∀ d,(r9 kvs d).isSome = true → (r9 kvs' d).isSome = true) ∧ kvs'.length ≤ kvs.length + j ∧
    σ = [some (.ref a),some (.ref p),some (.int 3),some (.int 63),some (.bl b),some (.ref fl),some (.ref hd),some (.int (3 + (i:Int))),some (.int nb),some (.int c),some (.ref el),some (.int kk),v12,some (.ref nl),v14,v15]) ⟨kvs,_,?_,(fun d hd'=>by simp at hd'),(fun d hd'=>hd'),Nat.le_refl _,rfl⟩ ?_ ?_ ?_
   ·funext x
    by_cases y:x = hd
    ·subst y; rw [d4]; exact D5.ehd
    ·rw [g7 y]
   ·rintro j σ G _ ⟨kvs',v15,rfl,_⟩
    exact SqL.of (by rw [g7 nhd]; exact enl5)
   ·rintro j x σ G hx ⟨kvs',v15,rfl,h1,h2,h3,rfl⟩
    rw [List.getElem?_map] at hx
    obtain ⟨t,ht,rfl⟩:=Option.map_eq_some_iff.mp hx
    obtain ⟨d,hd',et⟩:=m9 kn5 j t ht
    have hj:=(List.getElem?_eq_some_iff.mp hd').1
    have l1:=D5.lv
    refine ⟨_,rfl,_,rfl,hd,_,rfl,aB.t d4 (keep _ _ _ et) (Nat.lt_of_le_of_lt (show kvs'.length ≤ 1000 by lia) (by decide)),B7 kvs' d (.bl true),_,?_,fun d' hd2=>?_,fun d' hd2=>?_,?_,rfl⟩
    ·funext x
     by_cases y:x = hd
     ·subst y; rw [d4,d4]
     ·rw [g7 y,g7 y,g7 y]
    ·rw [Q3]
     split
     ·rfl
     ·rename_i nz
      rw [List.take_succ,hd'] at hd2
      rcases List.mem_append.mp hd2 with z | z
      ·exact h1 d' z
      ·exact absurd (show d' = d by simpa using z) nz
    ·rw [Q3]
     split
     ·rfl
     ·exact h2 d' hd2
    ·unfold B7
     split
     ·rw [List.length_map]; lia
     ·rw [List.length_append]; show kvs'.length + 1 ≤ kvs.length + (j + 1); lia
   ·rintro σ G ⟨kvs',v15,rfl,h1,h2,h3,rfl⟩
    rw [List.length_map,lnn] at h1 h3
    rw [List.take_length] at h1
    exact rest _ _ ⟨kvs',v15,rfl,h1,h2,by lia,rfl⟩
  rintro σ _ ⟨kvs',v15',rfl,h1,h2,h3,rfl⟩
  have s6:∀ b u,b ≠ hd → G5 b = some u → upd G5 hd (.dT kvs') b = some u:=fun b u hb z=>by rw [g7 hb]; exact z
  have eh6:=d4 (H:=G5) (a:=hd) (o:=.dT kvs')
  generalize upd G5 hd _ = G6 at s6 eh6 ⊢
  have efl6:=s6 _ _ nfh D5.efl
  have eel6:=s6 _ _ (fun y=>by rw [y,D5.ehd] at eel5; cases eel5) eel5
  have tup6:∀ b xs,G5 b = some (.tup xs) → G6 b = some (.tup xs):=fun b xs z=>s6 _ _ (fun y=>by rw [y,D5.ehd] at z; cases z) z
  refine ⟨_,rfl,.inl ⟨rfl,_,SqL.of efl6⟩,_,rfl,_,rfl,el,_,rfl,.inl ⟨SqL.of eel6,fun et het=>?_⟩⟩
  have s7:=g6 het (.tup (es.map V.int))
  have e7:=d4 (H:=G6) (a:=et) (o:=.tup (es.map V.int))
  generalize upd G6 et _ = G7 at s7 e7 ⊢
  refine ⟨_,rfl,(by show 3 ≤ sizeLine; decide),fun t ht=>?_⟩
  have s8:=g6 ht (.tup [.int c,.ref et,.int kk])
  have e8:=d4 (H:=G7) (a:=t) (o:=.tup [.int c,.ref et,.int kk])
  have e78:=s8 _ _ e7
  generalize upd G7 t _ = G8 at s8 e8 e78 ⊢
  have s68:=s7.trans s8
  have efl8:=s68 _ _ efl6
  have la5:as.length = ks.length:=Paired.length D5.cs
  have lk5:=D5.lk
  refine ⟨fl,_,_,rfl,rfl,efl8,?_,?_⟩
  ·rw [List.length_map,la5]
   exact Nat.lt_of_le_of_lt (show ks.length ≤ 60 by lia) (by decide)
  refine ⟨as ++ [t],ks ++ [⟨c,es,kk⟩],kvs',_,_,_,_,_,_,_,_,_,⟨?_,by rw [d4,List.map_append]; rfl,by rw [g7 nfh.symm]; exact s68 _ _ eh6,?_,?_,?_,?_,by rw [List.length_append]; show ks.length + 1 ≤ i + 1; lia,by have:=D5.lv; lia⟩,rfl⟩
  ·exact fun x u z=>by
    rw [g7 (i4 z hfl)]
    exact s68 _ _ (s6 _ _ (i4 z hhdH) (D5.same _ _ z))
  ·refine K8 ((D5.cs.mono tup6).mono fun b xs z=>z9 efl8 _ _ (s68 _ _ z)) ⟨et,z9 efl8 _ _ e78,z9 efl8 _ _ e8⟩
  ·intro k hk
   rcases List.mem_append.mp hk with z | z
   ·exact D5.inh k z
   ·rw [List.mem_singleton.mp z]
    exact ⟨hc,eok.rise,eok.es,eok.some,Nat.le_trans eok.few (by decide),hkk⟩
  ·rw [List.pairwise_append]
   refine ⟨D5.pw,List.pairwise_singleton _ _,fun k hk k' hk' d h1' h2'=>?_⟩
   rw [List.mem_singleton.mp hk'] at h2'
   refine free d ?_ (D5.held k hk d h1')
   rcases h2' with rfl | rfl | ⟨e,he,rfl⟩
   ·exact m1
   ·exact m2
   ·exact m3 e he
  ·intro k hk d hn
   rcases List.mem_append.mp hk with z | z
   ·exact h2 d (D5.held k z d hn)
   ·rw [List.mem_singleton.mp z] at hn
    rcases hn with rfl | rfl | ⟨e,he,rfl⟩
    ·exact h1 _ m1
    ·exact h1 _ m2
    ·exact h1 _ (m3 e he)
 rintro σ G ⟨as,ks,kvs,v7,v8,v9,v10,v11,v12,v13,v14,v15,D,rfl⟩
 refine ⟨_,rfl,?_⟩
 dsimp only [fc]
 refine dw (K:=K) D.efl D.cs (Nat.lt_of_le_of_lt D.lk (by decide)) (D.pw.imp fun {k k'} z=>z.caller) fun l2 as' ks' hl2 cs' pm _=>?_
 have s2:=g6 hl2 (.lst (as'.map V.ref))
 exact q l2 as' ks' _ (D.same.trans s2) d4 (cs'.same s2) (fun k hk=>D.inh k (pm.mem_iff.mp hk)) ((List.Perm.pairwise_iff (fun {x y} z d h1 h2=>z d h2 h1) pm).mpr D.pw) (by rw [pm.length_eq]; exact D.lk)
end
theorem gC {h:y8} {k:Call} (ok:h.Ok) (hin:k.In h) (pos:0 < k.es.length):A1 h k = true ↔ k.es[0] / h.e ≠ (k.es[k.es.length - 1]'(by lia)) / h.e:=by
 have b4:=ok.e
 have m0:k.es[0] / h.e ∈ x6 h k.es:=by
  unfold x6
  rw [A5]
  exact List.mem_map.mpr ⟨_,List.getElem_mem _,rfl⟩
 have m1:(k.es[k.es.length - 1]'(by lia)) / h.e ∈ x6 h k.es:=by
  unfold x6
  rw [A5]
  exact List.mem_map.mpr ⟨_,List.getElem_mem _,rfl⟩
 have up:(x6 h k.es).Pairwise (· < ·):=E8 _
 constructor
 ·intro w e
  have w:1 < (x6 h k.es).length:=of_decide_eq_true w
  have all:∀ r ∈ x6 h k.es,r = k.es[0] / h.e:=fun r hr=>by
   unfold x6 at hr
   rw [A5] at hr
   obtain ⟨x,hx,rfl⟩:=List.mem_map.mp hr
   obtain ⟨i,hi,rfl⟩:=List.mem_iff_getElem.mp hx
   have lo:k.es[0] ≤ k.es[i]:=by
    rcases Nat.eq_zero_or_pos i with z | z
    ·subst z; exact Int.le_refl _
    ·exact Int.le_of_lt (List.pairwise_iff_getElem.mp hin.rise 0 i pos hi z)
   have hi':k.es[i] ≤ (k.es[k.es.length - 1]'(by lia)):=by
    by_cases z:i = k.es.length - 1
    ·subst z; exact Int.le_refl _
    ·exact Int.le_of_lt (List.pairwise_iff_getElem.mp hin.rise i (k.es.length - 1) hi (by lia) (by lia))
   have d0:=Int.ediv_le_ediv (show 0 < h.e by lia) lo
   have d1:=Int.ediv_le_ediv (show 0 < h.e by lia) hi'
   lia
  have h01:=List.pairwise_iff_getElem.mp up 0 1 (by lia) w (by decide)
  have a0:=all _ (List.getElem_mem (show 0 < (x6 h k.es).length by lia))
  have a1:=all _ (List.getElem_mem w)
  lia
 ·intro ne
  refine decide_eq_true ?_
  generalize x6 h k.es = l at m0 m1 ⊢
  match l,m0,m1 with
  | [r],m0,m1=>exact absurd ((List.mem_singleton.mp m0).trans (List.mem_singleton.mp m1).symm) ne
  | r :: r' :: l,_,_=>simp
def pG (h:y8) (ts:List Call) (o:Option Int):Prop:=(o = none ∧ ∀ k ∈ ts,A1 h k = false) ∨ ∃ (j:Nat) (k:Call),ts[j]? = some k ∧ A1 h k = true ∧ (∀ k' ∈ ts.take j,A1 h k' = false) ∧ o = some k.c
theorem mn {h:y8} {ts:List Call} {j j':Nat} {k k':Call} (h1:ts[j]? = some k) (w1:A1 h k = true) (n1:∀ x ∈ ts.take j,A1 h x = false) (h2:ts[j']? = some k') (w2:A1 h k' = true) (n2:∀ x ∈ ts.take j',A1 h x = false):k = k':=by
 have go:∀ {j j':Nat} {k k':Call},ts[j]? = some k → A1 h k = true → ts[j']? = some k' → (∀ x ∈ ts.take j',A1 h x = false) → ¬ j < j':=fun {j j' k k'} a1 a2 a3 a4 lt=>by
  have:k ∈ ts.take j':=List.mem_of_getElem? (by rw [List.getElem?_take_of_lt lt]; exact a1)
  rw [a4 k this] at a2
  cases a2
 have e:j = j':=by
  have:=go h1 w1 h2 n2
  have:=go h2 w2 h1 n1
  lia
 subst e
 exact Option.some.inj (h1.symm.trans h2)
def hU (K:PySem.W.Frag):Sp:=fun vs H Q _=>∃ (p l:Addr) (h:y8) (as:List Addr) (ks:List Call) (kk:Int),vs = [.ref p,.ref l,.int kk] ∧ SqT K H p (h.row.map V.int) ∧ h.Ok ∧ H l = some (.lst (as.map V.ref)) ∧ A3 H as ks ∧ (∀ k ∈ ks,k.In h) ∧ ∀ o,pG h (u6 ks kk) o → Q (oV o) H
theorem M7 {ks:List Call} {i:Nat} {k:Call} {kk:Int} (hk:ks[i]? = some k):u6 (ks.take (i + 1)) kk = u6 (ks.take i) kk ++ if k.k = kk then [k] else []:=by
 unfold u6
 rw [List.take_succ,hk,Option.toList_some,List.filter_append,List.filter_cons,List.filter_nil]
 by_cases c:k.k = kk
 ·rw [if_pos c,if_pos (decide_eq_true c)]
 ·rw [if_neg c,if_neg (by simpa using c)]
theorem nR {ks:List Call} {i:Nat} {k:Call} {kk:Int} (hk:ks[i]? = some k) (c:k.k = kk):(u6 ks kk)[(u6 (ks.take i) kk).length]? = some k ∧ (u6 ks kk).take (u6 (ks.take i) kk).length = u6 (ks.take i) kk:=by
 have h:=(List.getElem?_eq_some_iff.mp hk)
 have e:u6 ks kk = u6 (ks.take i) kk ++ (k :: u6 (ks.drop (i + 1)) kk):=by
  have:ks = ks.take i ++ k :: ks.drop (i + 1):=by
   rw [← h.2]
   exact (List.take_append_drop i ks).symm.trans (by rw [List.drop_eq_getElem_cons h.1])
  conv=>lhs; rw [this]
  unfold u6
  rw [List.filter_append,List.filter_cons,if_pos (decide_eq_true c)]
 rw [e]
 refine ⟨by simp,by simp⟩
def fV (K:PySem.W.Frag):Sp:=fun vs H Q _=>∃ (p l a:Addr) (h:y8) (as:List Addr) (ks:List Call) (kk S:Int) (d:Nat),vs = [.ref p,.ref l,.int kk,.ref a,.int S,.int (d:Nat)] ∧ SqT K H p (h.row.map V.int) ∧ h.Ok ∧ H l = some (.lst (as.map V.ref)) ∧ A3 H as ks ∧ (∀ k ∈ ks,k.In h) ∧ ks.length ≤ 60 ∧ (2 ≤ S ∧ S ≤ 8) ∧ d ≤ 6 ∧ p5 (B8 h) ((u6 ks kk).map (N0 h)) ∧ x5 H S d (B8 h) ((u6 ks kk).map (N0 h)) a ∧ ∀ H',j7 H H' → Q (.bl true) H'
theorem K9.one {ps:Prs} {x:Int} {o o':Option Int} (h:K9 ps x o) (h':K9 ps x o') (nd:(ps.map Prod.fst).Nodup):o = o':=by
 rcases h with ⟨y,rfl,m⟩ | ⟨rfl,no⟩
 ·exact (h'.is nd m).symm
 ·rcases h' with ⟨y,rfl,m⟩ | ⟨rfl,_⟩
  ·exact absurd rfl (no _ m)
  ·rfl
section
variable {P:Program} {w:World} {K:PySem.W.Frag} {mg:Str → Option Value} {base:Heap}
theorem W7:FnScope ["_law_hall_here","_law_calls_here","_law_k","_law_call"] ["_law_hall_here","_law_calls_here","_law_k"] (d7 (top 45)):=⟨rfl,rfl,rfl,by decide +kernel,rfl,by decide +kernel,by decide +kernel⟩
theorem lB (T:Txt K mg) (D:Def K mg "_law_wide" (top 45) ["_law_hall_here","_law_calls_here","_law_k"]):h9 P w K mg base 1 "_law_wide" ["_law_hall_here","_law_calls_here","_law_k"] (hU K):=by
 refine D.ok W7 (fun vs H Q E h=>?_) (fun f cdv A outer s H vs Q E hr h=>?_)
 ·obtain ⟨p,l,h,as,ks,kk,rfl,_⟩:=h
  rfl
 obtain ⟨p,l,h,as,ks,kk,rfl,hp,ok,el,cs,hin,q⟩:=h
 have ln:as.length = ks.length:=Paired.length cs
 have b4:=ok.e
 refine ⟨_,(d5 (w5 PassesOwn.never rfl (o6 K (pv 1)) (m6 (i:=3) W7.nd rfl (Or.inl rfl))
  (d9 (p4 (PW.pt (gT (j0 E3 (g9 (d8 K) (pv 3) b9 (fun _ _=>rfl)) (pv 2) (j8 _)) (da (j0 S0 (i0 n5 (g9 (d8 K) (g9 (d8 K) (pv 3) b9 (fun _ _=>rfl)) b9 (fun _ _=>rfl)) (g9 (d8 K) (pv 0) b9 (fun _ _=>rfl))) (i0 n5 (g9 (d8 K) (g9 (d8 K) (pv 3) b9 (fun _ _=>rfl)) (ig de b9) (fun _ _=>rfl)) (g9 (d8 K) (pv 0) b9 (fun _ _=>rfl))) (j8 _))))) (d9 (i9 (g9 (d8 K) (pv 3) b9 (fun _ _=>rfl)))) j9)))
  (d9 (i9 F9))),?_⟩
 refine ⟨_,rfl,l,rfl,⟨_,SqL.of el⟩,?_⟩
 refine y9 (xs:=as.map V.ref) (fun i σ G=>G = H ∧ (∀ k ∈ u6 (ks.take i) kk,A1 h k = false) ∧ ∃ v3,σ = [some (.ref p),some (.ref l),some (.int kk),v3]) ⟨rfl,(fun k hk=>by simp [u6] at hk),_,rfl⟩ ?_ ?_ ?_
 ·rintro i σ G _ ⟨rfl,_⟩
  exact SqL.of el
 ·rintro i x σ G hx ⟨rfl,no,v3,rfl⟩
  rw [List.getElem?_map] at hx
  obtain ⟨a,ha,rfl⟩:=Option.map_eq_some_iff.mp hx
  obtain ⟨k,hk,e,ee,ea⟩:=m9 cs i a ha
  have hkm:=List.mem_of_getElem? hk
  have pos:0 < k.es.length:=List.length_pos_iff.mpr (hin k hkm).some
  have nar:=gC ok (hin k hkm) pos
  refine ⟨_,rfl,a,_,_,_,rfl,rfl,SqT.of ea,rfl,_,rfl,rfl,_,rfl,E9 (fun c=>?_) (fun c=>?_)⟩
  ·have c':k.k = kk:=V.int.inj (of_decide_eq_true c)
   have at0:atI (k.es.map V.int) ((0:Nat):Int) = some (.int k.es[0]):=C0 (by rw [List.getElem?_map,List.getElem?_eq_getElem pos]; rfl)
   have atl:atI (k.es.map V.int) (-1) = some (.int (k.es[k.es.length - 1]'(by lia))):=by
    unfold atI ixN
    rw [List.length_map,if_neg (by decide),if_pos (by lia)]
    show (k.es.map V.int)[(-1 + (k.es.length:Int)).toNat]? = _
    rw [show (-1 + (k.es.length:Int)).toNat = k.es.length - 1 by lia,List.getElem?_map,List.getElem?_eq_getElem (by lia)]
    rfl
   refine ⟨_,rfl,a,_,_,_,rfl,rfl,SqT.of ea,rfl,e,_,_,_,rfl,rfl,SqT.of ee,at0,_,rfl,p,_,_,_,rfl,rfl,hp,rfl,_,_,rfl,rfl,⟨by lia,by lia⟩,_,rfl,a,_,_,_,rfl,rfl,SqT.of ea,rfl,_,rfl,e,_,_,_,rfl,rfl,SqT.of ee,atl,_,rfl,p,_,_,_,rfl,rfl,hp,rfl,_,_,rfl,rfl,⟨by lia,by lia⟩,rfl,_,rfl,E9 (fun c2=>?_) (fun c2=>?_)⟩
   ·have wd:A1 h k = true:=nar.mpr (by simpa using c2)
    obtain ⟨t1,t2⟩:=nR hk c'
    exact ⟨_,rfl,a,_,_,_,rfl,rfl,SqT.of ea,rfl,q (some k.c) (.inr ⟨_,k,t1,wd,by rw [t2]; exact no,rfl⟩)⟩
   ·have wd:A1 h k = false:=Bool.eq_false_iff.mpr fun z=>nar.mp z (by simpa using c2)
    refine ⟨rfl,fun k' hk'=>?_,_,rfl⟩
    rw [M7 hk,if_pos c'] at hk'
    rcases List.mem_append.mp hk' with z | z
    ·exact no k' z
    ·rw [List.mem_singleton.mp z]
     exact wd
  ·have c':¬ k.k = kk:=fun z=>c (decide_eq_true (by rw [z]))
   refine ⟨rfl,fun k' hk'=>?_,_,rfl⟩
   rw [M7 hk,if_neg c',List.append_nil] at hk'
   exact no k' hk'
 ·rintro σ G ⟨rfl,no,v3,rfl⟩
  rw [List.length_map,ln,List.take_length] at no
  exact q none (.inl ⟨rfl,no⟩)
theorem u0:FnScope ["_law_hall_here","_law_calls_here","_law_k","_law_nest","_law_small","_law_depth","_law_lines","_law_many","_law_due","_law_call","_law_line"] ["_law_hall_here","_law_calls_here","_law_k","_law_nest","_law_small","_law_depth"] (d7 (top 51)):=⟨rfl,rfl,rfl,by decide +kernel,rfl,by decide +kernel,by decide +kernel⟩
set_option maxHeartbeats 2000000 in
theorem jP (T:Txt K mg) (C__law_shape:h9 P w K mg base 10 "_law_shape" ["_law_nest","_law_lines","_law_small","_law_depth"] (aH 6)) (C__law_count:h9 P w K mg base 7 "_law_count" ["_law_nest"] (aJ 6)) (C__law_levels:h9 P w K mg base 1 "_law_levels" ["_law_lines","_law_small","_law_depth"] ff) (C__law_walked:h9 P w K mg base 8 "_law_walked" ["_law_nest","_law_line"] (X0 6)) (D:Def K mg "_law_nest_right" (top 51) ["_law_hall_here","_law_calls_here","_law_k","_law_nest","_law_small","_law_depth"]):h9 P w K mg base 11 "_law_nest_right" ["_law_hall_here","_law_calls_here","_law_k","_law_nest","_law_small","_law_depth"] (fV K):=by
 refine D.ok u0 (fun vs H Q E h=>?_) (fun f cdv A outer s H vs Q E hr h=>?_)
 ·obtain ⟨p,l,a,h,as,ks,kk,S,d,rfl,_⟩:=h
  rfl
 obtain ⟨p,l,a,h,as,ks,kk,S,d,rfl,hp,ok,el,cs,hin,few,hS,hd,tok,hN,q⟩:=h
 have ln:as.length = ks.length:=Paired.length cs
 have b1:=ok.i
 have b2:=ok.c
 have b3:=ok.o
 have b4:=ok.e
 have hL:0 ≤ B8 h ∧ B8 h ≤ 64:=by
  unfold B8
  split <;> lia
 have fewT:(u6 ks kk).length ≤ 60:=Nat.le_trans (List.length_filter_le _ _) few
 have fewM:((u6 ks kk).map (N0 h)).length ≤ 64:=by rw [List.length_map]; lia
 refine ⟨_,(d5 (i6 (i:=6) u0.nd rfl (Or.inl rfl) (i8 (ck rfl) rfl T.m_max boot_max (b7 (g9 (d8 K) (pv 0) b9 (fun _ _=>rfl)) (b7 (g9 (d8 K) (pv 0) b9 (fun _ _=>rfl)) d6 m5) m5)))
  (d5 (p4 (A8 (p7 K (m4 C__law_shape hr rfl (b7 (pv 3) (b7 (pv 6) (b7 (pv 4) (b7 (pv 5) d6 b8) b8) b8) b8)) (fun _=>rfl))) (d9 (i9 A2)) j9)
  (d5 (i6 (i:=7) u0.nd rfl (Or.inl rfl) (i8 (u7 K) rfl T.m_len boot_len (b7 (J6 (own:=["_law_call"]) (fr:=[(2,"_law_k")]) rfl (show CompScope ["_law_hall_here","_law_calls_here","_law_k","_law_nest","_law_small","_law_depth","_law_lines","_law_many","_law_due","_law_call","_law_line"] (d7 (top 51)) _ _ _ from ⟨rfl,by decide +kernel,by decide +kernel,by decide +kernel,by decide +kernel⟩) (o6 K (pv 1)) (fun cl C s H ex=>⟨(m6 (i:=0) (show (["_law_call","_law_k"]:List Str).Nodup from by decide +kernel) rfl (Or.inl rfl) (Or.inr rfl)),(aK (j0 E3 (g9 (d8 K) (pv 0) b9 (fun _ _=>rfl)) (pv 1) (j8 _))),(pv 0)⟩)) d6 M0)))
  (d5 (p4 (j0 S0 (m4 C__law_count hr rfl (b7 (pv 3) d6 b8)) (i0 F7 (pv 7) (i0 p8 (i0 F7 b9 (m4 C__law_levels hr rfl (b7 (pv 6) (b7 (pv 4) (b7 (pv 5) d6 b8) b8) b8))) b9)) (j8 _)) (d9 (i9 A2)) j9)
  (d5 (i6 (i:=8) u0.nd rfl (Or.inl rfl) (i0 oX (F8 (b7 F9 d6 m7)) (pv 6)))
  (d5 (w5 PassesOwn.never rfl (o6 K (pv 1)) (m6 (i:=9) u0.nd rfl (Or.inl rfl))
  (d9 (p4 (j0 E3 (g9 (d8 K) (pv 9) b9 (fun _ _=>rfl)) (pv 2) (j8 _)) (d9 (gU (i0 n5 (g9 (d8 K) (g9 (d8 K) (pv 9) b9 (fun _ _=>rfl)) b9 (fun _ _=>rfl)) (g9 (d8 K) (pv 0) b9 (fun _ _=>rfl))) (fZ (pv 8) (i0 n5 (g9 (d8 K) (pv 9) b9 (fun _ _=>rfl)) (g9 (d8 K) (pv 0) b9 (fun _ _=>rfl))) bv))) j9)))
  (d5 (w5 PassesOwn.never rfl (B4 rfl T.m_range (b7 (pv 6) d6 b8)) (m6 (i:=10) u0.nd rfl (Or.inl rfl))
  (d9 (p4 (j0 S0 (m4 C__law_walked hr rfl (b7 (pv 3) (b7 (pv 10) d6 b8) b8)) (g9 (p9 K) (pv 8) (pv 10) (fun _ _=>rfl)) (j8 _)) (d9 (i9 A2)) j9)))
  (d9 (i9 A2))))))))),?_⟩
 refine ⟨_,rfl,p,_,_,_,rfl,rfl,hp,rfl,_,rfl,p,_,_,_,rfl,rfl,hp,rfl,_,_,rfl,?_⟩
 dsimp only [o8,q9]
 change mh _ _ _ ([some (.ref p),some (.ref l),some (.int kk),some (.ref a),some (.int S),some (.int (d:Nat)),some (.int (B8 h)),none,none,none,none]:L2.St) H
 refine ⟨_,rfl,_,rfl,_,rfl,_,rfl,a,B8 h,S,d,_,rfl,hd,hL,hS,hN,tok,fewM,fun H1 s1=>⟨_,rfl,C2 ?_⟩⟩
 refine ⟨_,rfl,l,rfl,⟨_,SqL.of (s1 _ _ el)⟩,?_⟩
 refine C8 (xs:=as.map V.ref) (fun i acc σ G=>G = H1 ∧ acc.length = (u6 (ks.take i) kk).length ∧ ∃ v,σ = [v,some (.int kk)]) ⟨rfl,rfl,_,rfl⟩ ?_ ?_ ?_ ?_ ?_
 ·rw [List.length_map,ln]; exact Nat.le_trans few (by decide)
 ·rintro i acc σ G ⟨_,e,_⟩
  rw [e]
  exact Nat.le_trans (List.length_filter_le _ _) (by rw [List.length_take]; lia)
 ·rintro i acc σ G _ ⟨rfl,_⟩
  exact SqL.of (s1 _ _ el)
 ·rintro i x acc σ G hx ⟨rfl,la,v,rfl⟩
  rw [List.getElem?_map] at hx
  obtain ⟨a',ha,rfl⟩:=Option.map_eq_some_iff.mp hx
  obtain ⟨k,hk,e,ee,ea⟩:=m9 cs i a' ha
  refine ⟨_,rfl,a',_,_,_,rfl,rfl,SqT.of (s1 _ _ ea),rfl,_,rfl,rfl,_,rfl,E9 (fun c=>?_) (fun c=>?_)⟩
  ·have c':k.k = kk:=V.int.inj (of_decide_eq_true c)
   refine ⟨_,rfl,rfl,?_,_,rfl⟩
   rw [M7 hk,if_pos c',List.length_append,List.length_append,la]
   rfl
  ·have c':¬ k.k = kk:=fun z=>c (decide_eq_true (by rw [z]))
   refine ⟨rfl,?_,_,rfl⟩
   rw [M7 hk,if_neg c',List.append_nil,la]
 rintro acc σ G ⟨rfl,la,v,rfl⟩ ml hml
 rw [List.length_map,ln,List.take_length] at la
 have s2:=s1.trans (g6 hml (.lst acc))
 refine ⟨ml,_,rfl,.inl (SqL.of d4),?_⟩
 rw [la]
 dsimp only [o8,q9]
 generalize upd G ml _ = H2 at s2 ⊢
 refine ⟨_,rfl,a,B8 h,S,d,_,rfl,hd,hL,hS,x5.same s2 hN,tok,fewM,fun H3 s3=>?_⟩
 refine ⟨_,rfl,_,rfl,_,rfl,_,rfl,B8 h,S,d,rfl,hL,hS,_,_,rfl,rfl,.inl ⟨by decide,by decide⟩,_,_,rfl,rfl,_,_,rfl,rfl,.inl ⟨by lia,by lia⟩,rfl,_,rfl,L7 (fun z=>?_) ?_⟩
 ·rw [List.length_map] at z
  have:(((u6 ks kk).length * (2 * lev S d (B8 h) + 1):Nat):Int) = (((u6 ks kk).length:Nat):Int) * (2 * ((lev S d (B8 h):Nat):Int) + 1):=by
   rw [Int.natCast_mul,Int.natCast_add,Int.natCast_mul]
   rfl
  simp [this] at z
 have s23:=s2.trans s3
 refine ⟨(by show 1 ≤ sizeLine; decide),fun l1 hl1=>⟨_,rfl,l1,B8 h,_,rfl,rfl,d4,by lia,by lia,(by show 1 * (B8 h).toNat ≤ sizeLine; exact Nat.le_trans (show 1 * (B8 h).toNat ≤ 64 by lia) (by decide)),fun dl hdl=>?_⟩⟩
 have s4:=s23.trans (g6 hl1 (.lst [.non]))
 dsimp only [o8,q9]
 rw [show (List.replicate (B8 h).toNat [V.non]).flatten = List.replicate (B8 h).toNat V.non from List.flatten_replicate_singleton]
 generalize upd H3 l1 _ = H4 at s4 hdl ⊢
 have eh:∀ o,j7 H (upd H4 dl o):=fun o=>s4.trans (g6 hdl o)
 refine A9 (fun σ G=>∃ (D:List V) (v9 v10:Option V),G = upd H4 dl (.lst D) ∧ D.length = (B8 h).toNat ∧ (∀ x:Nat,x < (B8 h).toNat → ∃ o,D[x]? = some (oV o) ∧ K9 ((u6 ks kk).map (N0 h)) (x:Int) o) ∧ σ = [some (.ref p),some (.ref l),some (.int kk),some (.ref a),some (.int S),some (.int (d:Nat)),some (.int (B8 h)),some (.int (((u6 ks kk).length:Nat):Int)),some (.ref dl),v9,v10]) (fun R rest=>?_) ?_
 ·refine ⟨_,rfl,l,rfl,⟨_,SqL.of (eh _ _ _ el)⟩,?_⟩
  refine y9 (xs:=as.map V.ref) (fun i σ G=>∃ (D:List V) (v9 v10:Option V),G = upd H4 dl (.lst D) ∧ D.length = (B8 h).toNat ∧ (∀ x:Nat,x < (B8 h).toNat → ∃ o,D[x]? = some (oV o) ∧ K9 ((u6 (ks.take i) kk).map (N0 h)) (x:Int) o) ∧ σ = [some (.ref p),some (.ref l),some (.int kk),some (.ref a),some (.int S),some (.int (d:Nat)),some (.int (B8 h)),some (.int (((u6 ks kk).length:Nat):Int)),some (.ref dl),v9,v10]) ⟨_,_,_,rfl,List.length_replicate,fun x hx=>⟨none,by rw [List.getElem?_replicate,if_pos hx]; rfl,.inr ⟨rfl,fun p' hp'=>by simp [u6] at hp'⟩⟩,rfl⟩ ?_ ?_ ?_
  ·rintro i σ G _ ⟨D,v9,v10,rfl,_⟩
   exact SqL.of (eh _ _ _ el)
  ·rintro i x σ G hx ⟨D,v9,v10,rfl,lD,hD,rfl⟩
   rw [List.getElem?_map] at hx
   obtain ⟨a',ha,rfl⟩:=Option.map_eq_some_iff.mp hx
   obtain ⟨k,hk,e,ee,ea⟩:=m9 cs i a' ha
   have hkm:=List.mem_of_getElem? hk
   have ink:=hin k hkm
   have ea':upd H4 dl (.lst D) a' = some (.tup [.int k.c,.ref e,.int k.k]):=eh _ _ _ ea
   have ee':upd H4 dl (.lst D) e = some (.tup (k.es.map V.int)):=eh _ _ _ ee
   have hp':SqT K (upd H4 dl (.lst D)) p (h.row.map V.int):=B2 (eh _) hp
   refine ⟨_,rfl,a',_,_,_,rfl,rfl,SqT.of ea',rfl,_,rfl,rfl,_,rfl,E9 (fun c=>?_) (fun c=>?_)⟩
   ·have c':k.k = kk:=V.int.inj (of_decide_eq_true c)
    have pos:0 < k.es.length:=List.length_pos_iff.mpr ink.some
    have at0:atI (k.es.map V.int) ((0:Nat):Int) = some (.int (k.es.headD 0)):=C0 (by
     obtain ⟨e0,es0,he⟩:∃ e0 es0,k.es = e0 :: es0:=by
      cases z:k.es with
      | nil=>exact absurd z ink.some
      | cons a b=>exact ⟨a,b,rfl⟩
     rw [he]
     rfl)
    have r0:=Int.ediv_nonneg ink.c.1 (show 0 ≤ h.c by lia)
    have r1:k.c / h.c < h.i:=Int.ediv_lt_of_lt_mul (by lia) ink.c.2
    have rL:k.c / h.c < B8 h:=by
     unfold B8
     split <;> lia
    obtain ⟨r,hr'⟩:=Int.eq_ofNat_of_zero_le r0
    have rn:r < (B8 h).toNat:=by lia
    refine ⟨_,rfl,a',_,_,_,rfl,rfl,SqT.of ea',rfl,e,_,_,_,rfl,rfl,SqT.of ee',at0,_,rfl,p,_,_,_,rfl,rfl,hp',rfl,_,_,rfl,rfl,⟨by lia,by lia⟩,_,rfl,_,rfl,a',_,_,_,rfl,rfl,SqT.of ea',rfl,_,rfl,p,_,_,_,rfl,rfl,hp',rfl,_,_,rfl,rfl,⟨by lia,by lia⟩,dl,D,k.c / h.c,r,rfl,rfl,d4,(by rw [hr',lD]; exact aC rn),?_⟩
    refine ⟨D.set r (.int (k.es.headD 0 / h.e)),_,_,?_,by rw [List.length_set]; exact lD,fun x hx=>?_,rfl⟩
    ·funext x
     by_cases y:x = dl
     ·subst y; rw [d4,d4]
     ·rw [g7 y,g7 y,g7 y]
    ·rw [M7 hk,if_pos c',List.map_append]
     by_cases y:x = r
     ·subst y
      refine ⟨some (k.es.headD 0 / h.e),by rw [List.getElem?_set_self (by lia)]; rfl,.inl ⟨_,rfl,List.mem_append_right _ ?_⟩⟩
      rw [← hr']
      exact List.mem_singleton.mpr rfl
     ·obtain ⟨o,h1,h2⟩:=hD x hx
      refine ⟨o,by rw [List.getElem?_set_ne (Ne.symm y)]; exact h1,?_⟩
      rcases h2 with ⟨v,h3,h4⟩ | ⟨h3,h4⟩
      ·exact .inl ⟨v,h3,List.mem_append_left _ h4⟩
      ·refine .inr ⟨h3,fun p'' hp''=>?_⟩
       rcases List.mem_append.mp hp'' with z | z
       ·exact h4 p'' z
       ·rw [List.mem_singleton.mp z]
        show k.c / h.c ≠ (x:Int)
        lia
   ·have c':¬ k.k = kk:=fun z=>c (decide_eq_true (by rw [z]))
    refine ⟨D,_,_,rfl,lD,fun x hx=>?_,rfl⟩
    rw [M7 hk,if_neg c',List.append_nil]
    exact hD x hx
  ·rintro σ G ⟨D,v9,v10,rfl,lD,hD,rfl⟩
   rw [List.length_map,ln,List.take_length] at hD
   exact rest _ _ ⟨D,v9,v10,rfl,lD,hD,rfl⟩
 rintro σ _ ⟨D,v9,v10,rfl,lD,hD,rfl⟩
 have eD:=d4 (H:=H4) (a:=dl) (o:=.lst D)
 have sD:=eh (.lst D)
 generalize upd H4 dl _ = H5 at eD sD ⊢
 refine ⟨_,rfl,_,rfl,by lia,by lia,?_⟩
 refine K1 (lo:=0) (n:=(B8 h).toNat) (fun i σ G=>G = H5 ∧ ∃ v10,σ = [some (.ref p),some (.ref l),some (.int kk),some (.ref a),some (.int S),some (.int (d:Nat)),some (.int (B8 h)),some (.int (((u6 ks kk).length:Nat):Int)),some (.ref dl),v9,v10]) ⟨rfl,_,rfl⟩ ?_ ?_
 ·rintro i σ G hi ⟨rfl,v10,rfl⟩
  obtain ⟨o,ho,hlk⟩:=hD i hi
  refine ⟨_,rfl,_,rfl,a,B8 h,S,d,_,0 + (i:Int),rfl,hd,hL,hS,x5.same sD hN,tok,by lia,by lia,fun o' ho'=>?_⟩
  rw [Int.zero_add] at ho'
  obtain rfl:o' = o:=ho'.one hlk tok.n1
  have at_:atI D (0 + (i:Int)) = some (oV o'):=by rw [Int.zero_add]; exact C0 ho
  cases o' with
  | none=>exact ⟨_,rfl,_,rfl,dl,_,_,_,rfl,rfl,SqL.of eD,at_,rfl,_,rfl,L7 (by simp) ⟨rfl,_,rfl⟩⟩
  | some y=>exact ⟨_,rfl,_,rfl,dl,_,_,_,rfl,rfl,SqL.of eD,at_,rfl,_,rfl,L7 (by simp) ⟨rfl,_,rfl⟩⟩
 ·rintro σ G ⟨rfl,v10,rfl⟩
  exact q _ sD
end
theorem gO {h:y8} (ok:h.Ok) {ks:List Call} (hin:∀ k ∈ ks,k.In h) (pw:ks.Pairwise (cg h)) (kk:Int):p5 (B8 h) ((u6 ks kk).map (N0 h)):=by
 have b1:=ok.i
 have b2:=ok.c
 have b3:=ok.o
 have b4:=ok.e
 have inT:∀ k ∈ u6 ks kk,k.In h ∧ k.k = kk:=fun k hk=>⟨hin k (List.mem_filter.mp hk).1,of_decide_eq_true (List.mem_filter.mp hk).2⟩
 have hd:∀ k ∈ u6 ks kk,k.es.headD 0 ∈ k.es:=fun k hk=>by
  cases z:k.es with
  | nil=>exact absurd z (inT k hk).1.some
  | cons a b=>exact List.mem_cons_self ..
 have pwT:(u6 ks kk).Pairwise (cg h):=pw.filter _
 refine ⟨fun p hp=>?_,?_,?_⟩
 ·obtain ⟨k,hk,rfl⟩:=List.mem_map.mp hp
  have ink:=(inT k hk).1
  have he:=ink.es _ (hd k hk)
  have r0:=Int.ediv_nonneg ink.c.1 (show 0 ≤ h.c by lia)
  have r1:k.c / h.c < h.i:=Int.ediv_lt_of_lt_mul (by lia) ink.c.2
  have q0:=Int.ediv_nonneg he.1 (show 0 ≤ h.e by lia)
  have q1:k.es.headD 0 / h.e < h.o:=Int.ediv_lt_of_lt_mul (by lia) he.2
  show (0 ≤ k.c / h.c ∧ k.c / h.c < B8 h) ∧ 0 ≤ k.es.headD 0 / h.e ∧ k.es.headD 0 / h.e < B8 h
  unfold B8
  split <;> lia
 ·unfold List.Nodup
  rw [List.pairwise_map,List.pairwise_map]
  refine pwT.imp_of_mem fun {k k'} hk hk' f e=>f (ce (k.c / h.c) k.k) (.inr (.inl rfl)) (.inr (.inl ?_))
  have e:k.c / h.c = k'.c / h.c:=e
  rw [e,(inT k hk).2,(inT k' hk').2]
 ·unfold List.Nodup
  rw [List.pairwise_map,List.pairwise_map]
  refine pwT.imp_of_mem fun {k k'} hk hk' f e=>f (db (k.es.headD 0 / h.e) k.k) (.inr (.inr ⟨_,hd k hk,rfl⟩)) (.inr (.inr ⟨_,hd k' hk',?_⟩))
  have e:k.es.headD 0 / h.e = k'.es.headD 0 / h.e:=e
  rw [e,(inT k hk).2,(inT k' hk').2]
section
variable {P:Program} {w:World} {K:PySem.W.Frag} {mg:Str → Option Value} {base:Heap} {C_HallError C_TooFull C_NoTurns C_Wide:Addr}
theorem B6:FnScope ["_law_script","_law_hall_here","_law_calls_here","_law_drawn","_law_left","_law_k","_law_handed","_law_small","_law_depth","_law_error","_law_nest","e","_law_due"] ["_law_script"] (d7 (top 52)):=⟨rfl,rfl,rfl,by decide +kernel,rfl,by decide +kernel,by decide +kernel⟩
set_option maxHeartbeats 8000000 in
theorem ph (T:Txt K mg) (Z:kE K mg C_HallError C_TooFull C_NoTurns C_Wide) (C__law_cell_at:h9 P w K mg base 1 "_law_cell_at" ["_law_script","_law_k"] (gZ K)) (C__law_mixed:h9 P w K mg base 1 "_law_mixed" ["_law_cell","_law_k"] aG) (C__law_digit:h9 P w K mg base 1 "_law_digit" ["_law_left","_law_many"] X2) (C__law_hall:h9 P w K mg base 2 "_law_hall" ["_law_cell"] iE) (C__law_calls:h9 P w K mg base 4 "_law_calls" ["_law_script","_law_hall_here","_law_start","_law_last","_law_wide_here"] (ej K)) (C_amid_nest:R5 P w K mg base 18 "amid_nest" ["hall","calls","k","small","depth"] [.int 6] (kA K C_Wide)) (C__law_wide:h9 P w K mg base 1 "_law_wide" ["_law_hall_here","_law_calls_here","_law_k"] (hU K)) (C__law_nest_right:h9 P w K mg base 11 "_law_nest_right" ["_law_hall_here","_law_calls_here","_law_k","_law_nest","_law_small","_law_depth"] (fV K)) (C__law_whole:h9 P w K mg base 1 "_law_whole" ["_law_found"] T3) {f:Addr} {fd:FuncData} (F:Fun K "law" "law" (top 52) f fd):X5 P w K mg base CX0 19 f fd ["_law_script"] (iB K):=by
 refine F.ok B6 (fun vs H Q E h=>?_) (fun cdv A outer s H vs Q E hr h=>?_)
 ·obtain ⟨a,ns,rfl,_⟩:=h
  rfl
 obtain ⟨a,cs,rfl,hS,h63,q⟩:=h
 refine ⟨_,(d5 (i6 (i:=1) B6.nd rfl (Or.inl rfl) (m4 C__law_hall hr rfl (b7 (m4 C__law_cell_at hr rfl (b7 (pv 0) (b7 b9 d6 m7) b8)) d6 w6)))
  (d5 (i6 (i:=2) B6.nd rfl (Or.inl rfl) (m4 C__law_calls hr rfl (b7 (pv 0) (b7 (pv 1) (b7 b9 (b7 b9 (b7 (Y4 E3 (i0 q5 (m4 C__law_cell_at hr rfl (b7 (pv 0) (b7 b9 d6 m7) b8)) b9) b9 (j8 _)) d6 oW) m7) m7) b8) b8)))
  (d5 (i6 (i:=3) B6.nd rfl (Or.inl rfl) (m4 C__law_mixed hr rfl (b7 (m4 C__law_cell_at hr rfl (b7 (pv 0) (b7 b9 d6 m7) b8)) (b7 b9 d6 m7) w6)))
  (d5 (i6 (i:=4) B6.nd rfl (Or.inl rfl) (F8 (b7 (i8 bb rfl T.m_abs boot_abs (b7 (m4 C__law_cell_at hr rfl (b7 (pv 0) (b7 b9 d6 m7) b8)) d6 w6)) d6 w6)))
  (d5 (w5 PassesOwn.never rfl (B4 rfl T.m_range (b7 (g9 (d8 K) (pv 1) b9 (fun _ _=>rfl)) d6 m5)) (m6 (i:=5) B6.nd rfl (Or.inl rfl))
  (d5 (i6 (i:=6) B6.nd rfl (Or.inl rfl) (J8 (gR K) rfl T.m_list boot_list (b7 (pv 2) d6 b8)))
  (d5 (i6 (i:=7) B6.nd rfl (Or.inl rfl) (i0 p8 b9 (i0 q5 (i0 p8 (pv 3) (pv 5)) b9)))
  (d5 (i6 (i:=8) B6.nd rfl (Or.inl rfl) (i0 q5 (i0 p8 (i0 n5 (pv 3) b9) (i0 n5 (pv 5) b9)) b9))
  (d5 (p4 (j0 E3 (i0 q5 (m4 C__law_cell_at hr rfl (b7 (pv 0) (b7 b9 d6 m7) b8)) b9) b9 (j8 _)) (d5 (i6 (i:=7) B6.nd rfl (Or.inl rfl) (i0 p8 b9 (m4 C__law_digit hr rfl (b7 (pv 4) (b7 b9 d6 m7) b8))))
  (d9 (i6 (i:=8) B6.nd rfl (Or.inl rfl) (m4 C__law_digit hr rfl (b7 (pv 4) (b7 b9 d6 m7) b8))))) j9)
  (d5 (i6 (i:=9) B6.nd rfl (Or.inl rfl) F9)
  (d5 (i6 (i:=10) B6.nd rfl (Or.inl rfl) F9)
  (d5 (mL (c:=.ref C_HallError) (i:=11) rfl Z.mg_HallError B6.nd rfl rfl rfl rfl rfl (fun pn E =>
  (d9 (p4 (j0 E3 (pv 8) b9 (j8 _)) (d9 (i6 (i:=10) B6.nd rfl (Or.inl rfl) (gH 0 C_amid_nest cr hr rfl (b7 (pv 1) (b7 (pv 6) (b7 (pv 5) (b7 (pv 7) d6 b8) b8) b8) b8)))) (d9 (i6 (i:=10) B6.nd rfl (Or.inl rfl) (gH 1 C_amid_nest cr hr rfl (b7 (pv 1) (b7 (pv 6) (b7 (pv 5) (b7 (pv 7) (b7 (pv 8) d6 b8) b8) b8) b8) b8))))))) (fun ea =>
  (d9 (i6 (i:=9) B6.nd rfl (Or.inl rfl) (pv 11)))))
  (d5 (i6 (i:=12) B6.nd rfl (Or.inl rfl) (m4 C__law_wide hr rfl (b7 (pv 1) (b7 (pv 2) (b7 (pv 5) d6 b8) b8) b8)))
  (d5 (p4 (j0 (gm K (C3.units0 hr)) (pv 6) (pv 2) (j8 _)) (d9 (i9 A2)) j9)
  (d9 (p4 (j0 cQ (pv 12) F9 (j8 _)) (d9 (p4 (PW.pt (C5 (j0 dm (pv 9) F9 (j8 _)) (K2 (A8 (p7 K (m4 C__law_nest_right hr rfl (b7 (pv 1) (b7 (pv 2) (b7 (pv 5) (b7 (pv 10) (b7 (pv 7) (b7 (pv 8) d6 b8) b8) b8) b8) b8) b8)) (fun _=>rfl)))))) (d9 (i9 A2)) j9)) (d5 (p4 (PW.pt (C5 (A8 (p7 K (i8 (X8 K) rfl T.m_isinstance boot_isinstance (b7 (pv 9) (b7 (dk (v:=.ref C_Wide) rfl Z.mg_Wide rfl) d6 b8) b8)) (fun _=>rfl))) (K2 (A8 (p7 K (i8 (X8 K) rfl T.m_isinstance boot_isinstance (b7 (pv 9) (b7 (I9 (v:=.ty "ValueError") rfl T.m_ValueError ay rfl) d6 b8) b8)) (fun _=>rfl)))))) (d9 (i9 A2)) j9)
  (d5 (p4 (p7 K (i8 (bM K) rfl T.m_isinstance boot_isinstance (b7 (pv 9) (b7 (w4 (b7 (dk (v:=.ref C_TooFull) rfl Z.mg_TooFull rfl) (b7 (dk (v:=.ref C_NoTurns) rfl Z.mg_NoTurns rfl) d6 b8) b8)) d6 S5) b8)) (fun _=>rfl)) (d9 (i9 A2)) j9)
  (d9 (p4 (PW.pt (C5 (A8 (p7 K (m4 C__law_whole hr rfl (b7 (oC K (pv 9)) d6 nU)) (fun _=>rfl))) (K2 (j0 S0 (oC K (pv 9)) (pv 12) (j8 _))))) (d9 (i9 A2)) j9))))))))))))))))
  (d9 (i9 A2))))))),?_⟩
 refine ⟨_,rfl,a,cs,0,rfl,hS,_,rfl,fun p h H1 ok s1 ep=>?_⟩
 have b5:=ok.m
 dsimp only [o8,q9]
 refine ⟨_,rfl,_,rfl,_,rfl,a,cs,1,rfl,s1.seq hS,_,_,rfl,rfl,(by show (0:Int) < 3; decide),rfl,a,p,cs,h,_,rfl,s1.seq hS,h63,SqT.of ep,ok,fun l as ks H2 s2 el cks inh pw few=>?_⟩
 have s12:=s1.trans s2
 have ep2:=s2 _ _ ep
 dsimp only [o8,q9]
 refine ⟨_,rfl,a,cs,2,rfl,s12.seq hS,_,2,rfl,by decide,fun dr d0 d1=>?_⟩
 dsimp only [o8,q9]
 refine ⟨_,rfl,a,cs,2,rfl,s12.seq hS,_,rfl,(by show 1 ≤ sizeLine; decide),fun lf hlf=>?_⟩
 have s3:=g6 hlf (.lst [.int (if cell cs 2 < 0 then -cell cs 2 else cell cs 2)])
 have elf:=d4 (H:=H2) (a:=lf) (o:=.lst [.int (if cell cs 2 < 0 then -cell cs 2 else cell cs 2)])
 dsimp only [o8,q9]
 generalize upd H2 lf _ = H3 at s3 elf ⊢
 refine A9 (fun σ G=>True) (fun R rest=>?_) (fun σ G _=>q G)
 refine ⟨_,rfl,p,_,_,_,rfl,rfl,SqT.of (s3 _ _ ep2),rfl,_,rfl,by show -(2 ^ 62) ≤ h.m; lia,by show h.m < 2 ^ 62; lia,?_⟩
 refine K1 (lo:=0) (n:=h.m.toNat) (fun i σ G=>∃ (n':Int) (v5 v6 v7 v8 v9 v10 v11 v12:Option V),j7 H2 G ∧ G lf = some (.lst [.int n']) ∧ σ = [some (.ref a),some (.ref p),some (.ref l),some (.int dr),some (.ref lf),v5,v6,v7,v8,v9,v10,v11,v12]) ⟨_,_,_,_,_,_,_,_,_,s3,elf,rfl⟩ ?_ fun σ G h=>rest _ _ trivial
 clear s3 elf H3
 rintro i σ G hi ⟨n',v5,v6,v7,v8,v9,v10,v11,v12,sG,elf,rfl⟩
 refine ⟨_,rfl,l,_,rfl,.inl (SqL.of (sG _ _ el)),fun hl hhl=>?_⟩
 have s4:=g6 hhl (.lst (as.map V.ref))
 have ehl:=d4 (H:=G) (a:=hl) (o:=.lst (as.map V.ref))
 have elf4:=s4 _ _ elf
 have nhl:hl ≠ lf:=fun y=>by rw [y,elf] at hhl; cases hhl
 dsimp only [o8,q9]
 have sG4:=sG.trans s4
 generalize upd G hl _ = G4 at s4 ehl elf4 sG4 ⊢
 clear sG elf s4
 refine ⟨_,rfl,_,rfl,_,_,rfl,rfl,_,_,rfl,rfl,(by show (0:Int) < 3; decide),_,_,rfl,rfl,?_⟩
 have a0:=Int.emod_nonneg (dr + (0 + (i:Int))) (show (3:Int) ≠ 0 by decide)
 have a1:=Int.emod_lt_of_pos (dr + (0 + (i:Int))) (show (0:Int) < 3 by decide)
 dsimp only [o8,q9]
 generalize (dr + (0 + (i:Int))) % 3 = sm at a0 a1 ⊢
 refine ⟨_,rfl,_,_,rfl,rfl,⟨by decide,by decide⟩,_,rfl,_,_,rfl,rfl,⟨by decide,by decide⟩,_,_,rfl,rfl,_,_,rfl,rfl,(by show (0:Int) < 7; decide),?_⟩
 have g0:=Int.emod_nonneg (dr / 3 + (0 + (i:Int)) / 2) (show (7:Int) ≠ 0 by decide)
 have g1:=Int.emod_lt_of_pos (dr / 3 + (0 + (i:Int)) / 2) (show (0:Int) < 7 by decide)
 dsimp only [o8,q9]
 generalize (dr / 3 + (0 + (i:Int)) / 2) % 7 = dp at g0 g1 ⊢
 refine A9 (fun σ G=>∃ (S:Int) (d:Nat) (n':Int),j7 H2 G ∧ G lf = some (.lst [.int n']) ∧ G hl = some (.lst (as.map V.ref)) ∧ (2 ≤ S ∧ S ≤ 8) ∧ d ≤ 6 ∧ σ = [some (.ref a),some (.ref p),some (.ref l),some (.int dr),some (.ref lf),some (.int (0 + (i:Int))),some (.ref hl),some (.int S),some (.int (d:Nat)),v9,v10,v11,v12]) (fun R rest=>?_) ?_
 ·refine ⟨_,rfl,a,cs,0,rfl,(s12.trans sG4).seq hS,_,_,rfl,rfl,(by show (0:Int) < 2; decide),rfl,_,rfl,E9 (fun _=>?_) (fun _=>?_)⟩
  ·refine ⟨_,rfl,lf,n',7,rfl,elf4,by decide,by decide,_,_,rfl,rfl,?_⟩
   refine ⟨_,rfl,lf,n' / 7,7,rfl,d4,by decide,by decide,?_⟩
   have x0:=Int.emod_nonneg n' (show (7:Int) ≠ 0 by decide)
   have x1:=Int.emod_lt_of_pos n' (show (0:Int) < 7 by decide)
   have y0:=Int.emod_nonneg (n' / 7) (show (7:Int) ≠ 0 by decide)
   have y1:=Int.emod_lt_of_pos (n' / 7) (show (0:Int) < 7 by decide)
   refine rest _ _ ⟨2 + n' % 7,(n' / 7 % 7).toNat,n' / 7 / 7,fun b u z=>?_,d4,by rw [g7 nhl,g7 nhl]; exact ehl,by lia,by lia,?_⟩
   ·rw [g7 (i4 z hlf),g7 (i4 z hlf)]
    exact sG4 _ _ z
   ·rw [show (((n' / 7 % 7).toNat:Nat):Int) = n' / 7 % 7 by lia]
    rfl
  ·refine rest _ _ ⟨2 + sm,dp.toNat,n',sG4,elf4,ehl,by lia,by lia,?_⟩
   rw [show ((dp.toNat:Nat):Int) = dp by lia]
   rfl
 clear sG4 elf4 ehl a0 a1 g0 g1 n' sm dp
 rintro σ G5 ⟨S,d,n',s5,elf,ehl,hSS,hd,rfl⟩
 have tok:=gO ok inh pw (0 + (i:Int))
 have cks5:=cks.same s5
 have ep5:=s5 _ _ ep2
 refine A9 (fun σ G'=>G5 = G' ∧ σ = [some (.ref a),some (.ref p),some (.ref l),some (.int dr),some (.ref lf),some (.int (0 + (i:Int))),some (.ref hl),some (.int S),some (.int (d:Nat)),some .non,v10,v11,v12]) (fun R rest=>rest _ _ ⟨rfl,rfl⟩) ?_
 rintro σ _ ⟨rfl,rfl⟩
 refine A9 (fun σ G'=>G5 = G' ∧ σ = [some (.ref a),some (.ref p),some (.ref l),some (.int dr),some (.ref lf),some (.int (0 + (i:Int))),some (.ref hl),some (.int S),some (.int (d:Nat)),some .non,some .non,v11,v12]) (fun R rest=>rest _ _ ⟨rfl,rfl⟩) ?_
 rintro σ _ ⟨rfl,rfl⟩
 refine A9 (fun σ G=>∃ (ve vn:V) (v11:Option V),j7 G5 G ∧ (((∀ k ∈ u6 ks (0 + (i:Int)),A1 h k = false) ∧ ve = .non ∧ ∃ na,vn = .ref na ∧ x5 G S d (B8 h) ((u6 ks (0 + (i:Int))).map (N0 h)) na) ∨ ∃ (j:Nat) (k:Call) (ea dx:Addr),(u6 ks (0 + (i:Int)))[j]? = some k ∧ A1 h k = true ∧ (∀ k' ∈ (u6 ks (0 + (i:Int))).take j,A1 h k' = false) ∧ ve = .ref ea ∧ G ea = some (aw ea C_Wide (some dx)) ∧ G dx = some (XdO dx (iK k.c))) ∧
  σ = [some (.ref a),some (.ref p),some (.ref l),some (.int dr),some (.ref lf),some (.int (0 + (i:Int))),some (.ref hl),some (.int S),some (.int (d:Nat)),some ve,some vn,v11,v12]) (fun R rest=>?_) ?_
 ·refine ⟨fun σ' c0 dd H'=>σ' = [some (.ref a),some (.ref p),some (.ref l),some (.int dr),some (.ref lf),some (.int (0 + (i:Int))),some (.ref hl),some (.int S),some (.int (d:Nat)),some .non,some .non,v11,v12] ∧ c0 = .ref C_Wide ∧ ∃ dx j k,dd = some dx ∧ j7 G5 H' ∧ (u6 ks (0 + (i:Int)))[j]? = some k ∧ A1 h k = true ∧ (∀ k' ∈ (u6 ks (0 + (i:Int))).take j,A1 h k' = false) ∧ H' dx = some (XdO dx (iK k.c)),?_,?_⟩
  ·refine ⟨_,rfl,rfl,_,rfl,E9 (fun c=>?_) (fun c=>?_)⟩
   ·obtain rfl:d = 6:=by
     have:((d:Nat):Int) = 6:=V.int.inj (of_decide_eq_true c)
     lia
    exact ⟨_,rfl,_,rfl,_,rfl,_,rfl,p,hl,h,as,ks,(0 + (i:Int)),S,6,rfl,SqT.of ep5,ok,ehl,cks5,inh,few,hSS,by decide,(fun nw=>⟨tok,fun na G' s' hN=>rest _ _ ⟨.non,.ref na,_,s',.inl ⟨nw,rfl,na,rfl,hN⟩,rfl⟩⟩),fun j k dx G' hj wd no s' ed=>⟨rfl,rfl,dx,j,k,rfl,s',hj,wd,no,ed⟩⟩
   ·exact ⟨_,rfl,_,rfl,_,rfl,_,rfl,_,rfl,p,hl,h,as,ks,(0 + (i:Int)),S,d,rfl,SqT.of ep5,ok,ehl,cks5,inh,few,hSS,hd,(fun nw=>⟨tok,fun na G' s' hN=>rest _ _ ⟨.non,.ref na,_,s',.inl ⟨nw,rfl,na,rfl,hN⟩,rfl⟩⟩),fun j k dx G' hj wd no s' ed=>⟨rfl,rfl,dx,j,k,rfl,s',hj,wd,no,ed⟩⟩
  ·rintro σ' c0 dd G6 ⟨rfl,rfl,dx,j,k,rfl,s6,hj,wd,no,ed⟩
   refine ⟨rfl,Z.kh_Wide,fun ea C hc hea=>?_⟩
   cases hc
   have s7:=g6 hea (aw ea C_Wide (some dx))
   exact ⟨_,rfl,rest _ _ ⟨.ref ea,.non,_,s6.trans s7,.inr ⟨j,k,ea,dx,hj,wd,no,rfl,d4,s7 _ _ ed⟩,rfl⟩⟩
 rintro σ G6 ⟨ve,vn,v11',s6,hcase,rfl⟩
 have s56:=s5.trans s6
 have ehl6:=s6 _ _ ehl
 have elf6:=s6 _ _ elf
 have el6:=s56 _ _ el
 refine ⟨_,rfl,_,rfl,_,rfl,p,l,h,as,ks,(0 + (i:Int)),rfl,SqT.of (s6 _ _ ep5),ok,el6,cks.same s56,inh,fun o ho=>?_⟩
 dsimp only [o8,q9]
 refine ⟨_,rfl,_,rfl,hl,l,_,rfl,rfl,SqL.of ehl6,SqL.of el6,(fun x hx=>by
  obtain ⟨c,_,e⟩:=List.mem_map.mp hx
  exact ⟨c,e.symm⟩),_,rfl,C2 ?_⟩
 rcases ho with ⟨rfl,nw⟩ | ⟨j',k',hj',wd',no',rfl⟩
 ·rcases hcase with ⟨_,rfl,na,rfl,hN⟩ | ⟨j,k,ea,dx,hj,wd,_⟩
  ·refine ⟨_,rfl,rfl,_,rfl,V8 ?_⟩
   refine ⟨_,rfl,rfl,_,rfl,C2 ?_⟩
   refine ⟨_,rfl,_,rfl,_,rfl,_,rfl,_,rfl,_,rfl,p,l,na,h,as,ks,(0 + (i:Int)),S,d,rfl,SqT.of (s6 _ _ ep5),ok,el6,cks.same s56,inh,few,hSS,hd,tok,hN,fun G7 s7=>⟨_,rfl,C2 ⟨_,_,_,_,_,_,_,_,_,s56.trans s7,s7 _ _ elf6,rfl⟩⟩⟩
  ·have:=nw k (List.mem_of_getElem? hj)
   rw [wd] at this
   cases this
 ·rcases hcase with ⟨nw,_⟩ | ⟨j,k,ea,dx,hj,wd,no,rfl,hea,hdx⟩
  ·have:=nw k' (List.mem_of_getElem? hj')
   rw [wd'] at this
   cases this
  ·obtain rfl:=mn hj wd no hj' wd' no'
   refine ⟨_,rfl,rfl,_,rfl,C2 ?_⟩
   refine ⟨_,rfl,ea,C_Wide,some dx,_,_,true,rfl,(fun u z=>z),hea,Z.x_Wide,Z.kx_Wide_Wide,true,rfl,C2 ?_⟩
   refine ⟨_,rfl,ea,C_Wide,some dx,_,_,true,rfl,(fun u z=>z),hea,Z.x_Wide,Z.kv_Wide,true,rfl,C2 ?_⟩
   refine ⟨_,rfl,(by show 2 ≤ sizeLine; decide),fun p1 hp1=>?_⟩
   have s7:=g6 hp1 (.tup [.ref C_TooFull,.ref C_NoTurns])
   have e1:=d4 (H:=G6) (a:=p1) (o:=.tup [.ref C_TooFull,.ref C_NoTurns])
   generalize upd G6 p1 _ = G7 at s7 e1 ⊢
   refine ⟨ea,C_Wide,some dx,p1,C_TooFull,C_NoTurns,false,false,rfl,e1,s7 _ _ hea,Z.x_Wide,Z.kx_Wide_TooFull,Z.kx_Wide_NoTurns,false,rfl,C2 ?_⟩
   refine ⟨_,rfl,ea,C_Wide,dx,_,.int k.c,rfl,s7 _ _ hea,s7 _ _ hdx,Z.x_Wide,Z.n_Wide,Z.f_Wide_caller,rfl,k.c,rfl,_,rfl,C2 ?_⟩
   refine ⟨_,rfl,ea,C_Wide,dx,_,.int k.c,rfl,s7 _ _ hea,s7 _ _ hdx,Z.x_Wide,Z.n_Wide,Z.f_Wide_caller,rfl,_,rfl,rfl,_,rfl,L7 (by simp [oV]) ?_⟩
   exact ⟨_,_,_,_,_,_,_,_,_,s56.trans s7,s7 _ _ elf6,rfl⟩
end
section
variable {l:PySem.W.OpenLaw} {w:World} {K:PySem.W.Frag} {h:Heap} {mg:Str → Option Value}
theorem n9 {x:Str} {st:Stmt} {ps:List Str} {f:Addr} {oc:Value} {od an:Option Addr} {sl:Array (Option Value)} {kV dc pm cd ct:Value} (X:K.In h) (G:h.Ns mainGlobals mg) (a:PySem.W.nsIn K mainGlobals x = some (some (.ref f)))
  (l:K.lookup f = some ⟨oc,od,.func (PySem.W.fnOf x x (j6 st) (i7 st) (d7 st) .none kV dc pm an cd ct),sl⟩) (c:PySem.W.codeIn K cd x = true) (k:PySem.W.keepIn K (.ref f) = true)
  (b:∀ us:List Value,us.length = ps.length → bindArgs (PySem.W.fnOf x x (j6 st) (i7 st) (d7 st) .none kV dc pm an cd ct) ⟨us,[]⟩ = pure (ps.zip us)):Def K mg x st ps :=
 ⟨f,_,ki l c k,.all b,PySem.W.mg_of X G a⟩
theorem qf {fa f1 f2 f3 f4 f5 f6 f7 f8 f9 f10 f11 f12 f13 f14 f15 f16 f17 f18 f19 f20 f21 f22 f23 f24 f25 f26 f27 f28 f29 f30 f31 f32 f33 f34 f35 f36 f37 f38 f39 f40 f41  C_HallError C_TooFull C_NoTurns C_Wide fm_Wide___init__:Addr} (X:K.In h) (G:h.Ns mainGlobals mg) (hfa:mg "law" = some (.ref fa))
  {od1 an1 od2 an2 od3 an3 od4 an4 od5 an5 od6 an6 od7 an7 od8 an8 od9 an9 od10 an10 od11 an11 od12 an12 od13 an13 od14 an14 od15 an15 od16 an16 od17 an17 od18 an18 od19 an19 od20 an20 od21 an21 od22 an22 od23 an23 od24 an24 od25 an25 od26 an26 od27 an27 od28 an28 od29 an29 od30 an30 od31 an31 od32 an32 od33 an33 od34 an34 od35 an35 od36 an36 od37 an37 od38 an38 od39 an39 od40 an40 od41 an41:Option Addr} {sl1 sl2 sl3 sl4 sl5 sl6 sl7 sl8 sl9 sl10 sl11 sl12 sl13 sl14 sl15 sl16 sl17 sl18 sl19 sl20 sl21 sl22 sl23 sl24 sl25 sl26 sl27 sl28 sl29 sl30 sl31 sl32 sl33 sl34 sl35 sl36 sl37 sl38 sl39 sl40 sl41:Array (Option Value)} {oc1 kV1 dc1 pm1 cd1 ct1 oc2 kV2 dc2 pm2 cd2 ct2 oc3 kV3 dc3 pm3 cd3 ct3 oc4 kV4 dc4 pm4 cd4 ct4 oc5 kV5 dc5 pm5 cd5 ct5 oc6 kV6 dc6 pm6 cd6 ct6 oc7 kV7 dc7 pm7 cd7 ct7 oc8 kV8 dc8 pm8 cd8 ct8 oc9 kV9 dc9 pm9 cd9 ct9 oc10 kV10 dc10 pm10 cd10 ct10 oc11 kV11 dc11 pm11 cd11 ct11 oc12 kV12 dc12 pm12 cd12 ct12 oc13 kV13 dc13 pm13 cd13 ct13 oc14 kV14 dc14 pm14 cd14 ct14 oc15 kV15 dc15 pm15 cd15 ct15 oc16 kV16 dc16 pm16 cd16 ct16 oc17 kV17 dc17 pm17 cd17 ct17 oc18 kV18 dc18 pm18 cd18 ct18 oc19 kV19 dc19 pm19 cd19 ct19 oc20 kV20 dc20 pm20 cd20 ct20 oc21 kV21 dc21 pm21 cd21 ct21 oc22 kV22 dc22 pm22 cd22 ct22 oc23 kV23 dc23 pm23 cd23 ct23 oc24 kV24 dc24 pm24 cd24 ct24 oc25 kV25 dc25 pm25 cd25 ct25 oc26 kV26 dc26 pm26 cd26 ct26 oc27 kV27 dc27 pm27 cd27 ct27 oc28 kV28 dc28 pm28 cd28 ct28 oc29 kV29 dc29 pm29 cd29 ct29 oc30 kV30 dc30 pm30 cd30 ct30 oc31 kV31 dc31 pm31 cd31 ct31 oc32 kV32 dc32 pm32 cd32 ct32 oc33 kV33 dc33 pm33 cd33 ct33 oc34 kV34 dc34 pm34 cd34 ct34 oc35 kV35 dc35 pm35 cd35 ct35 oc36 kV36 dc36 pm36 cd36 ct36 oc37 kV37 dc37 pm37 cd37 ct37 oc38 kV38 dc38 pm38 cd38 ct38 oc39 kV39 dc39 pm39 cd39 ct39 oc40 kV40 dc40 pm40 cd40 ct40 oc41 kV41 dc41 pm41 cd41 ct41:Value}
  {dv21:Addr} {odv21:Option Addr} {slv21:Array (Option Value)} {nv21:Nat} {td21_0:Tok}
  {dv23:Addr} {odv23:Option Addr} {slv23:Array (Option Value)} {nv23:Nat} {td23_0:Tok}
  (a1:PySem.W.nsIn K mainGlobals "is_number" = some (some (.ref f1))) (l1:K.lookup f1 = some ⟨oc1,od1,.func (PySem.W.fnOf "is_number" "is_number" (j6 (top 6)) (i7 (top 6)) (d7 (top 6)) .none kV1 dc1 pm1 an1 cd1 ct1),sl1⟩) (c1:PySem.W.codeIn K cd1 "is_number" = true) (k1:PySem.W.keepIn K (.ref f1) = true)
  (a2:PySem.W.nsIn K mainGlobals "is_whole" = some (some (.ref f2))) (l2:K.lookup f2 = some ⟨oc2,od2,.func (PySem.W.fnOf "is_whole" "is_whole" (j6 (top 7)) (i7 (top 7)) (d7 (top 7)) .none kV2 dc2 pm2 an2 cd2 ct2),sl2⟩) (c2:PySem.W.codeIn K cd2 "is_whole" = true) (k2:PySem.W.keepIn K (.ref f2) = true)
  (a3:PySem.W.nsIn K mainGlobals "place_in" = some (some (.ref f3))) (l3:K.lookup f3 = some ⟨oc3,od3,.func (PySem.W.fnOf "place_in" "place_in" (j6 (top 8)) (i7 (top 8)) (d7 (top 8)) .none kV3 dc3 pm3 an3 cd3 ct3),sl3⟩) (c3:PySem.W.codeIn K cd3 "place_in" = true) (k3:PySem.W.keepIn K (.ref f3) = true)
  (a4:PySem.W.nsIn K mainGlobals "place_out" = some (some (.ref f4))) (l4:K.lookup f4 = some ⟨oc4,od4,.func (PySem.W.fnOf "place_out" "place_out" (j6 (top 9)) (i7 (top 9)) (d7 (top 9)) .none kV4 dc4 pm4 an4 cd4 ct4),sl4⟩) (c4:PySem.W.codeIn K cd4 "place_out" = true) (k4:PySem.W.keepIn K (.ref f4) = true)
  (a5:PySem.W.nsIn K mainGlobals "racks_of" = some (some (.ref f5))) (l5:K.lookup f5 = some ⟨oc5,od5,.func (PySem.W.fnOf "racks_of" "racks_of" (j6 (top 10)) (i7 (top 10)) (d7 (top 10)) .none kV5 dc5 pm5 an5 cd5 ct5),sl5⟩) (c5:PySem.W.codeIn K cd5 "racks_of" = true) (k5:PySem.W.keepIn K (.ref f5) = true)
  (a6:PySem.W.nsIn K mainGlobals "call_racks" = some (some (.ref f6))) (l6:K.lookup f6 = some ⟨oc6,od6,.func (PySem.W.fnOf "call_racks" "call_racks" (j6 (top 12)) (i7 (top 12)) (d7 (top 12)) .none kV6 dc6 pm6 an6 cd6 ct6),sl6⟩) (c6:PySem.W.codeIn K cd6 "call_racks" = true) (k6:PySem.W.keepIn K (.ref f6) = true)
  (a7:PySem.W.nsIn K mainGlobals "is_entry" = some (some (.ref f7))) (l7:K.lookup f7 = some ⟨oc7,od7,.func (PySem.W.fnOf "is_entry" "is_entry" (j6 (top 14)) (i7 (top 14)) (d7 (top 14)) .none kV7 dc7 pm7 an7 cd7 ct7),sl7⟩) (c7:PySem.W.codeIn K cd7 "is_entry" = true) (k7:PySem.W.keepIn K (.ref f7) = true)
  (a8:PySem.W.nsIn K mainGlobals "first_wrong" = some (some (.ref f8))) (l8:K.lookup f8 = some ⟨oc8,od8,.func (PySem.W.fnOf "first_wrong" "first_wrong" (j6 (top 15)) (i7 (top 15)) (d7 (top 15)) .none kV8 dc8 pm8 an8 cd8 ct8),sl8⟩) (c8:PySem.W.codeIn K cd8 "first_wrong" = true) (k8:PySem.W.keepIn K (.ref f8) = true)
  (a9:PySem.W.nsIn K mainGlobals "side_weights" = some (some (.ref f9))) (l9:K.lookup f9 = some ⟨oc9,od9,.func (PySem.W.fnOf "side_weights" "side_weights" (j6 (top 17)) (i7 (top 17)) (d7 (top 17)) .none kV9 dc9 pm9 an9 cd9 ct9),sl9⟩) (c9:PySem.W.codeIn K cd9 "side_weights" = true) (k9:PySem.W.keepIn K (.ref f9) = true)
  (a10:PySem.W.nsIn K mainGlobals "refuse_full" = some (some (.ref f10))) (l10:K.lookup f10 = some ⟨oc10,od10,.func (PySem.W.fnOf "refuse_full" "refuse_full" (j6 (top 19)) (i7 (top 19)) (d7 (top 19)) .none kV10 dc10 pm10 an10 cd10 ct10),sl10⟩) (c10:PySem.W.codeIn K cd10 "refuse_full" = true) (k10:PySem.W.keepIn K (.ref f10) = true)
  (a11:PySem.W.nsIn K mainGlobals "take" = some (some (.ref f11))) (l11:K.lookup f11 = some ⟨oc11,od11,.func (PySem.W.fnOf "take" "take" (j6 (top 20)) (i7 (top 20)) (d7 (top 20)) .none kV11 dc11 pm11 an11 cd11 ct11),sl11⟩) (c11:PySem.W.codeIn K cd11 "take" = true) (k11:PySem.W.keepIn K (.ref f11) = true)
  (a12:PySem.W.nsIn K mainGlobals "leave" = some (some (.ref f12))) (l12:K.lookup f12 = some ⟨oc12,od12,.func (PySem.W.fnOf "leave" "leave" (j6 (top 21)) (i7 (top 21)) (d7 (top 21)) .none kV12 dc12 pm12 an12 cd12 ct12),sl12⟩) (c12:PySem.W.codeIn K cd12 "leave" = true) (k12:PySem.W.keepIn K (.ref f12) = true)
  (a13:PySem.W.nsIn K mainGlobals "first_left" = some (some (.ref f13))) (l13:K.lookup f13 = some ⟨oc13,od13,.func (PySem.W.fnOf "first_left" "first_left" (j6 (top 22)) (i7 (top 22)) (d7 (top 22)) .none kV13 dc13 pm13 an13 cd13 ct13),sl13⟩) (c13:PySem.W.codeIn K cd13 "first_left" = true) (k13:PySem.W.keepIn K (.ref f13) = true)
  (a14:PySem.W.nsIn K mainGlobals "chain_along" = some (some (.ref f14))) (l14:K.lookup f14 = some ⟨oc14,od14,.func (PySem.W.fnOf "chain_along" "chain_along" (j6 (top 23)) (i7 (top 23)) (d7 (top 23)) .none kV14 dc14 pm14 an14 cd14 ct14),sl14⟩) (c14:PySem.W.codeIn K cd14 "chain_along" = true) (k14:PySem.W.keepIn K (.ref f14) = true)
  (a15:PySem.W.nsIn K mainGlobals "exchange" = some (some (.ref f15))) (l15:K.lookup f15 = some ⟨oc15,od15,.func (PySem.W.fnOf "exchange" "exchange" (j6 (top 24)) (i7 (top 24)) (d7 (top 24)) .none kV15 dc15 pm15 an15 cd15 ct15),sl15⟩) (c15:PySem.W.codeIn K cd15 "exchange" = true) (k15:PySem.W.keepIn K (.ref f15) = true)
  (a16:PySem.W.nsIn K mainGlobals "parted" = some (some (.ref f16))) (l16:K.lookup f16 = some ⟨oc16,od16,.func (PySem.W.fnOf "parted" "parted" (j6 (top 25)) (i7 (top 25)) (d7 (top 25)) .none kV16 dc16 pm16 an16 cd16 ct16),sl16⟩) (c16:PySem.W.codeIn K cd16 "parted" = true) (k16:PySem.W.keepIn K (.ref f16) = true)
  (a17:PySem.W.nsIn K mainGlobals "is_plain" = some (some (.ref f17))) (l17:K.lookup f17 = some ⟨oc17,od17,.func (PySem.W.fnOf "is_plain" "is_plain" (j6 (top 27)) (i7 (top 27)) (d7 (top 27)) .none kV17 dc17 pm17 an17 cd17 ct17),sl17⟩) (c17:PySem.W.codeIn K cd17 "is_plain" = true) (k17:PySem.W.keepIn K (.ref f17) = true)
  (a18:PySem.W.nsIn K mainGlobals "racks_for" = some (some (.ref f18))) (l18:K.lookup f18 = some ⟨oc18,od18,.func (PySem.W.fnOf "racks_for" "racks_for" (j6 (top 28)) (i7 (top 28)) (d7 (top 28)) .none kV18 dc18 pm18 an18 cd18 ct18),sl18⟩) (c18:PySem.W.codeIn K cd18 "racks_for" = true) (k18:PySem.W.keepIn K (.ref f18) = true)
  (a19:PySem.W.nsIn K mainGlobals "hall_nest" = some (some (.ref f19))) (l19:K.lookup f19 = some ⟨oc19,od19,.func (PySem.W.fnOf "hall_nest" "hall_nest" (j6 (top 29)) (i7 (top 29)) (d7 (top 29)) .none kV19 dc19 pm19 an19 cd19 ct19),sl19⟩) (c19:PySem.W.codeIn K cd19 "hall_nest" = true) (k19:PySem.W.keepIn K (.ref f19) = true)
  (a20:PySem.W.nsIn K mainGlobals "right_nest" = some (some (.ref f20))) (l20:K.lookup f20 = some ⟨oc20,od20,.func (PySem.W.fnOf "right_nest" "right_nest" (j6 (top 30)) (i7 (top 30)) (d7 (top 30)) .none kV20 dc20 pm20 an20 cd20 ct20),sl20⟩) (c20:PySem.W.codeIn K cd20 "right_nest" = true) (k20:PySem.W.keepIn K (.ref f20) = true)
  (dl21:K.lookup dv21 = some ⟨.type "tuple",odv21,.seq #[.int 6 td21_0] nv21,slv21⟩)
  (a21:PySem.W.nsIn K mainGlobals "nest_of" = some (some (.ref f21))) (l21:K.lookup f21 = some ⟨oc21,od21,.func (PySem.W.fnOf "nest_of" "nest_of" (j6 (top 31)) (i7 (top 31)) (d7 (top 31)) (.ref dv21) kV21 dc21 pm21 an21 cd21 ct21),sl21⟩) (c21:PySem.W.codeIn K cd21 "nest_of" = true) (k21:PySem.W.keepIn K (.ref f21) = true)
  (a22:PySem.W.nsIn K mainGlobals "refuse_wide" = some (some (.ref f22))) (l22:K.lookup f22 = some ⟨oc22,od22,.func (PySem.W.fnOf "refuse_wide" "refuse_wide" (j6 (top 32)) (i7 (top 32)) (d7 (top 32)) .none kV22 dc22 pm22 an22 cd22 ct22),sl22⟩) (c22:PySem.W.codeIn K cd22 "refuse_wide" = true) (k22:PySem.W.keepIn K (.ref f22) = true)
  (dl23:K.lookup dv23 = some ⟨.type "tuple",odv23,.seq #[.int 6 td23_0] nv23,slv23⟩)
  (a23:PySem.W.nsIn K mainGlobals "amid_nest" = some (some (.ref f23))) (l23:K.lookup f23 = some ⟨oc23,od23,.func (PySem.W.fnOf "amid_nest" "amid_nest" (j6 (top 33)) (i7 (top 33)) (d7 (top 33)) (.ref dv23) kV23 dc23 pm23 an23 cd23 ct23),sl23⟩) (c23:PySem.W.codeIn K cd23 "amid_nest" = true) (k23:PySem.W.keepIn K (.ref f23) = true)
  (a24:PySem.W.nsIn K mainGlobals "_law_cell_at" = some (some (.ref f24))) (l24:K.lookup f24 = some ⟨oc24,od24,.func (PySem.W.fnOf "_law_cell_at" "_law_cell_at" (j6 (top 35)) (i7 (top 35)) (d7 (top 35)) .none kV24 dc24 pm24 an24 cd24 ct24),sl24⟩) (c24:PySem.W.codeIn K cd24 "_law_cell_at" = true) (k24:PySem.W.keepIn K (.ref f24) = true)
  (a25:PySem.W.nsIn K mainGlobals "_law_mixed" = some (some (.ref f25))) (l25:K.lookup f25 = some ⟨oc25,od25,.func (PySem.W.fnOf "_law_mixed" "_law_mixed" (j6 (top 36)) (i7 (top 36)) (d7 (top 36)) .none kV25 dc25 pm25 an25 cd25 ct25),sl25⟩) (c25:PySem.W.codeIn K cd25 "_law_mixed" = true) (k25:PySem.W.keepIn K (.ref f25) = true)
  (a26:PySem.W.nsIn K mainGlobals "_law_whole" = some (some (.ref f26))) (l26:K.lookup f26 = some ⟨oc26,od26,.func (PySem.W.fnOf "_law_whole" "_law_whole" (j6 (top 37)) (i7 (top 37)) (d7 (top 37)) .none kV26 dc26 pm26 an26 cd26 ct26),sl26⟩) (c26:PySem.W.codeIn K cd26 "_law_whole" = true) (k26:PySem.W.keepIn K (.ref f26) = true)
  (a27:PySem.W.nsIn K mainGlobals "_law_digit" = some (some (.ref f27))) (l27:K.lookup f27 = some ⟨oc27,od27,.func (PySem.W.fnOf "_law_digit" "_law_digit" (j6 (top 38)) (i7 (top 38)) (d7 (top 38)) .none kV27 dc27 pm27 an27 cd27 ct27),sl27⟩) (c27:PySem.W.codeIn K cd27 "_law_digit" = true) (k27:PySem.W.keepIn K (.ref f27) = true)
  (a28:PySem.W.nsIn K mainGlobals "_law_hall" = some (some (.ref f28))) (l28:K.lookup f28 = some ⟨oc28,od28,.func (PySem.W.fnOf "_law_hall" "_law_hall" (j6 (top 39)) (i7 (top 39)) (d7 (top 39)) .none kV28 dc28 pm28 an28 cd28 ct28),sl28⟩) (c28:PySem.W.codeIn K cd28 "_law_hall" = true) (k28:PySem.W.keepIn K (.ref f28) = true)
  (a29:PySem.W.nsIn K mainGlobals "_law_ends_of" = some (some (.ref f29))) (l29:K.lookup f29 = some ⟨oc29,od29,.func (PySem.W.fnOf "_law_ends_of" "_law_ends_of" (j6 (top 40)) (i7 (top 40)) (d7 (top 40)) .none kV29 dc29 pm29 an29 cd29 ct29),sl29⟩) (c29:PySem.W.codeIn K cd29 "_law_ends_of" = true) (k29:PySem.W.keepIn K (.ref f29) = true)
  (a30:PySem.W.nsIn K mainGlobals "_law_free_ends" = some (some (.ref f30))) (l30:K.lookup f30 = some ⟨oc30,od30,.func (PySem.W.fnOf "_law_free_ends" "_law_free_ends" (j6 (top 41)) (i7 (top 41)) (d7 (top 41)) .none kV30 dc30 pm30 an30 cd30 ct30),sl30⟩) (c30:PySem.W.codeIn K cd30 "_law_free_ends" = true) (k30:PySem.W.keepIn K (.ref f30) = true)
  (a31:PySem.W.nsIn K mainGlobals "_law_calls" = some (some (.ref f31))) (l31:K.lookup f31 = some ⟨oc31,od31,.func (PySem.W.fnOf "_law_calls" "_law_calls" (j6 (top 42)) (i7 (top 42)) (d7 (top 42)) .none kV31 dc31 pm31 an31 cd31 ct31),sl31⟩) (c31:PySem.W.codeIn K cd31 "_law_calls" = true) (k31:PySem.W.keepIn K (.ref f31) = true)
  (a32:PySem.W.nsIn K mainGlobals "_law_by_bar" = some (some (.ref f32))) (l32:K.lookup f32 = some ⟨oc32,od32,.func (PySem.W.fnOf "_law_by_bar" "_law_by_bar" (j6 (top 43)) (i7 (top 43)) (d7 (top 43)) .none kV32 dc32 pm32 an32 cd32 ct32),sl32⟩) (c32:PySem.W.codeIn K cd32 "_law_by_bar" = true) (k32:PySem.W.keepIn K (.ref f32) = true)
  (a33:PySem.W.nsIn K mainGlobals "_law_walked" = some (some (.ref f33))) (l33:K.lookup f33 = some ⟨oc33,od33,.func (PySem.W.fnOf "_law_walked" "_law_walked" (j6 (top 44)) (i7 (top 44)) (d7 (top 44)) .none kV33 dc33 pm33 an33 cd33 ct33),sl33⟩) (c33:PySem.W.codeIn K cd33 "_law_walked" = true) (k33:PySem.W.keepIn K (.ref f33) = true)
  (a34:PySem.W.nsIn K mainGlobals "_law_wide" = some (some (.ref f34))) (l34:K.lookup f34 = some ⟨oc34,od34,.func (PySem.W.fnOf "_law_wide" "_law_wide" (j6 (top 45)) (i7 (top 45)) (d7 (top 45)) .none kV34 dc34 pm34 an34 cd34 ct34),sl34⟩) (c34:PySem.W.codeIn K cd34 "_law_wide" = true) (k34:PySem.W.keepIn K (.ref f34) = true)
  (a35:PySem.W.nsIn K mainGlobals "_law_bars" = some (some (.ref f35))) (l35:K.lookup f35 = some ⟨oc35,od35,.func (PySem.W.fnOf "_law_bars" "_law_bars" (j6 (top 46)) (i7 (top 46)) (d7 (top 46)) .none kV35 dc35 pm35 an35 cd35 ct35),sl35⟩) (c35:PySem.W.codeIn K cd35 "_law_bars" = true) (k35:PySem.W.keepIn K (.ref f35) = true)
  (a36:PySem.W.nsIn K mainGlobals "_law_racks" = some (some (.ref f36))) (l36:K.lookup f36 = some ⟨oc36,od36,.func (PySem.W.fnOf "_law_racks" "_law_racks" (j6 (top 47)) (i7 (top 47)) (d7 (top 47)) .none kV36 dc36 pm36 an36 cd36 ct36),sl36⟩) (c36:PySem.W.codeIn K cd36 "_law_racks" = true) (k36:PySem.W.keepIn K (.ref f36) = true)
  (a37:PySem.W.nsIn K mainGlobals "_law_shape" = some (some (.ref f37))) (l37:K.lookup f37 = some ⟨oc37,od37,.func (PySem.W.fnOf "_law_shape" "_law_shape" (j6 (top 48)) (i7 (top 48)) (d7 (top 48)) .none kV37 dc37 pm37 an37 cd37 ct37),sl37⟩) (c37:PySem.W.codeIn K cd37 "_law_shape" = true) (k37:PySem.W.keepIn K (.ref f37) = true)
  (a38:PySem.W.nsIn K mainGlobals "_law_count" = some (some (.ref f38))) (l38:K.lookup f38 = some ⟨oc38,od38,.func (PySem.W.fnOf "_law_count" "_law_count" (j6 (top 49)) (i7 (top 49)) (d7 (top 49)) .none kV38 dc38 pm38 an38 cd38 ct38),sl38⟩) (c38:PySem.W.codeIn K cd38 "_law_count" = true) (k38:PySem.W.keepIn K (.ref f38) = true)
  (a39:PySem.W.nsIn K mainGlobals "_law_levels" = some (some (.ref f39))) (l39:K.lookup f39 = some ⟨oc39,od39,.func (PySem.W.fnOf "_law_levels" "_law_levels" (j6 (top 50)) (i7 (top 50)) (d7 (top 50)) .none kV39 dc39 pm39 an39 cd39 ct39),sl39⟩) (c39:PySem.W.codeIn K cd39 "_law_levels" = true) (k39:PySem.W.keepIn K (.ref f39) = true)
  (a40:PySem.W.nsIn K mainGlobals "_law_nest_right" = some (some (.ref f40))) (l40:K.lookup f40 = some ⟨oc40,od40,.func (PySem.W.fnOf "_law_nest_right" "_law_nest_right" (j6 (top 51)) (i7 (top 51)) (d7 (top 51)) .none kV40 dc40 pm40 an40 cd40 ct40),sl40⟩) (c40:PySem.W.codeIn K cd40 "_law_nest_right" = true) (k40:PySem.W.keepIn K (.ref f40) = true)
  (a41:PySem.W.nsIn K mainGlobals "law" = some (some (.ref f41))) (l41:K.lookup f41 = some ⟨oc41,od41,.func (PySem.W.fnOf "law" "law" (j6 (top 52)) (i7 (top 52)) (d7 (top 52)) .none kV41 dc41 pm41 an41 cd41 ct41),sl41⟩) (c41:PySem.W.codeIn K cd41 "law" = true) (k41:PySem.W.keepIn K (.ref f41) = true)
  (q_HallError_at:PySem.W.nsIn K mainGlobals "HallError" = some (some (.ref C_HallError)))
  (q_TooFull_at:PySem.W.nsIn K mainGlobals "TooFull" = some (some (.ref C_TooFull)))
  (q_NoTurns_at:PySem.W.nsIn K mainGlobals "NoTurns" = some (some (.ref C_NoTurns)))
  (q_Wide_at:PySem.W.nsIn K mainGlobals "Wide" = some (some (.ref C_Wide)))
  (q_HallError_ic:PySem.W.isClsIn K C_HallError = true) (q_HallError_ty:PySem.W.typeIn K (.ref C_HallError) = some (.type "type"))
  (q_TooFull_ic:PySem.W.isClsIn K C_TooFull = true) (q_TooFull_ty:PySem.W.typeIn K (.ref C_TooFull) = some (.type "type"))
  (q_NoTurns_ic:PySem.W.isClsIn K C_NoTurns = true) (q_NoTurns_ty:PySem.W.typeIn K (.ref C_NoTurns) = some (.type "type"))
  (q_Wide_ic:PySem.W.isClsIn K C_Wide = true) (q_Wide_ty:PySem.W.typeIn K (.ref C_Wide) = some (.type "type"))
  (q_hb:PySem.W.subIn K (.ref C_HallError) (.type "BaseException") = some true) (q_gt:PySem.W.specialIn K (.builtin "object.__class__") "__get__" = some (some (.builtin "getset_descriptor.__get__"))) (q_tk:PySem.W.takesIn K (.builtin "object.__class__") = some true)
  (q_Wide_sa:PySem.W.findIn K (.ref C_Wide) "__setattr__" = some (some (.builtin "object.__setattr__")))
  (q_Wide_f_caller:PySem.W.findIn K (.ref C_Wide) "caller" = some none)
  (q_Wide_ga:PySem.W.findIn K (.ref C_Wide) "__getattribute__" = some (some (.builtin "BaseException.__getattribute__"))) (q_Wide_gn:PySem.W.findIn K (.ref C_Wide) "__getattr__" = some none) (q_Wide_cl:PySem.W.findIn K (.ref C_Wide) "__class__" = some (some (.builtin "object.__class__"))) (q_Wide_mo:PySem.W.mroIn K C_Wide (.type "object") = some true) (q_Wide_mb:PySem.W.mroIn K C_Wide (.type "BaseException") = some true) (q_Wide_sv:PySem.W.subIn K (.ref C_Wide) (.type "ValueError") = some true)
  (q_Wide_s_HallError:PySem.W.subIn K (.ref C_Wide) (.ref C_HallError) = some true)
  (q_Wide_s_TooFull:PySem.W.subIn K (.ref C_Wide) (.ref C_TooFull) = some false)
  (q_Wide_s_NoTurns:PySem.W.subIn K (.ref C_Wide) (.ref C_NoTurns) = some false)
  (q_Wide_s_Wide:PySem.W.subIn K (.ref C_Wide) (.ref C_Wide) = some true)
  {odm_Wide___init__ anm_Wide___init__:Option Addr} {slm_Wide___init__:Array (Option Value)} {ocm_Wide___init__ kvm_Wide___init__ dcm_Wide___init__ pmm_Wide___init__ ctm_Wide___init__ cdm_Wide___init__:Value}
  (q_Wide___init___a:PySem.W.findIn K (.ref C_Wide) "__init__" = some (some (.ref fm_Wide___init__))) (q_Wide___init___i:PySem.W.isFn K (.ref fm_Wide___init__) = true) (q_Wide___init___l:K.lookup fm_Wide___init__ = some ⟨ocm_Wide___init__,odm_Wide___init__,.func (PySem.W.fnOf "__init__" "Wide.__init__" (j6 (U2 (top 4) 0)) (i7 (U2 (top 4) 0)) (d7 (U2 (top 4) 0)) .none kvm_Wide___init__ dcm_Wide___init__ pmm_Wide___init__ anm_Wide___init__ cdm_Wide___init__ ctm_Wide___init__),slm_Wide___init__⟩) (q_Wide___init___c:PySem.W.codeIn K cdm_Wide___init__ "Wide.__init__" = true) (q_Wide___init___k:PySem.W.keepIn K (.ref fm_Wide___init__) = true)
  (q_Wide_xi:Z2 K C_Wide fm_Wide___init__ = true)
  (z_len:PySem.W.nsIn K mainGlobals "len" = some none) (z_isinstance:PySem.W.nsIn K mainGlobals "isinstance" = some none) (z_int:PySem.W.nsIn K mainGlobals "int" = some none) (z_bool:PySem.W.nsIn K mainGlobals "bool" = some none) (z_tuple:PySem.W.nsIn K mainGlobals "tuple" = some none) (z_list:PySem.W.nsIn K mainGlobals "list" = some none) (z_range:PySem.W.nsIn K mainGlobals "range" = some none) (z_abs:PySem.W.nsIn K mainGlobals "abs" = some none) (z_min:PySem.W.nsIn K mainGlobals "min" = some none) (z_max:PySem.W.nsIn K mainGlobals "max" = some none) (z_sorted:PySem.W.nsIn K mainGlobals "sorted" = some none) (z_zip:PySem.W.nsIn K mainGlobals "zip" = some none) (z_enumerate:PySem.W.nsIn K mainGlobals "enumerate" = some none) (z_divmod:PySem.W.nsIn K mainGlobals "divmod" = some none) (z_set:PySem.W.nsIn K mainGlobals "set" = some none) (z_sum:PySem.W.nsIn K mainGlobals "sum" = some none) (z_ValueError:PySem.W.nsIn K mainGlobals "ValueError" = some none) :
  ∃ fd:FuncData,(∀ (s:Shared) (v:Value),BindsTo s fd ⟨[v],[]⟩ [("_law_script",v)]) ∧ ∀ base:Heap,K.In base → base.Ns mainGlobals mg → X5 l.prog w K mg base CX0 19 fa fd ["_law_script"] (iB K):=by
 have e:=hfa.symm.trans (PySem.W.mg_of X G a41)
 cases e
 have T:Txt K mg:=⟨PySem.W.mg_none_of X G z_len,PySem.W.mg_none_of X G z_isinstance,PySem.W.mg_none_of X G z_int,PySem.W.mg_none_of X G z_bool,PySem.W.mg_none_of X G z_tuple,PySem.W.mg_none_of X G z_list,PySem.W.mg_none_of X G z_range,PySem.W.mg_none_of X G z_abs,PySem.W.mg_none_of X G z_min,PySem.W.mg_none_of X G z_max,PySem.W.mg_none_of X G z_sorted,PySem.W.mg_none_of X G z_zip,PySem.W.mg_none_of X G z_enumerate,PySem.W.mg_none_of X G z_divmod,PySem.W.mg_none_of X G z_set,PySem.W.mg_none_of X G z_sum,PySem.W.mg_none_of X G z_ValueError⟩
 have Z:kE K mg C_HallError C_TooFull C_NoTurns C_Wide:=⟨PySem.W.mg_of X G q_HallError_at,PySem.W.mg_of X G q_TooFull_at,PySem.W.mg_of X G q_NoTurns_at,PySem.W.mg_of X G q_Wide_at,⟨_,PySem.W.mg_of X G q_Wide_at,q_Wide_xi,q_Wide___init___a⟩,nX q_Wide_xi q_Wide_sa,⟨q_Wide_ga,q_Wide_gn,q_Wide_cl,q_gt,q_tk,q_Wide_mo,q_Wide_mb,q_Wide_ic⟩,oj q_Wide_sv,mY q_HallError_ic q_HallError_ty q_Wide_s_HallError q_hb,iV q_HallError_ic q_HallError_ty q_Wide_s_HallError,iT q_TooFull_ic q_TooFull_ty q_Wide_s_TooFull q_Wide_s_Wide,iT q_NoTurns_ic q_NoTurns_ty q_Wide_s_NoTurns q_Wide_s_Wide,iV q_Wide_ic q_Wide_ty q_Wide_s_Wide,q_Wide_f_caller⟩
 have D_Wide___init__:oh K C_Wide "__init__" "Wide.__init__" (U2 (top 4) 0) ["self","caller"] [] noKw:=⟨fm_Wide___init__,_,⟨⟨_,_,_,_,_,_,_,_,_,_,rfl,q_Wide___init___l,q_Wide___init___c⟩⟩,⟨q_Wide___init___a,q_Wide___init___i,q_Wide___init___k⟩,trivial,fun m hm=>match m,hm with | 0,_=>⟨[],.nil,.all fun us hl=>match us,hl with | [_,_],_=>rfl⟩ | _ + 1,h=>absurd h (by simp)⟩
 have D_is_number:Def K mg "is_number" (top 6) ["thing"]:=n9 X G a1 l1 c1 k1 fun us hl=>match us,hl with | [_],_=>rfl
 have D_is_whole:Def K mg "is_whole" (top 7) ["thing","least","most"]:=n9 X G a2 l2 c2 k2 fun us hl=>match us,hl with | [_,_,_],_=>rfl
 have D_place_in:Def K mg "place_in" (top 8) ["hall","caller"]:=n9 X G a3 l3 c3 k3 fun us hl=>match us,hl with | [_,_],_=>rfl
 have D_place_out:Def K mg "place_out" (top 9) ["hall","end"]:=n9 X G a4 l4 c4 k4 fun us hl=>match us,hl with | [_,_],_=>rfl
 have D_racks_of:Def K mg "racks_of" (top 10) ["hall","ends"]:=n9 X G a5 l5 c5 k5 fun us hl=>match us,hl with | [_,_],_=>rfl
 have D_call_racks:Def K mg "call_racks" (top 12) ["hall","call"]:=n9 X G a6 l6 c6 k6 fun us hl=>match us,hl with | [_,_],_=>rfl
 have D_is_entry:Def K mg "is_entry" (top 14) ["thing","firsts","seconds"]:=n9 X G a7 l7 c7 k7 fun us hl=>match us,hl with | [_,_,_],_=>rfl
 have D_first_wrong:Def K mg "first_wrong" (top 15) ["things","firsts","seconds"]:=n9 X G a8 l8 c8 k8 fun us hl=>match us,hl with | [_,_,_],_=>rfl
 have D_side_weights:Def K mg "side_weights" (top 17) ["pairs","side"]:=n9 X G a9 l9 c9 k9 fun us hl=>match us,hl with | [_,_],_=>rfl
 have D_refuse_full:Def K mg "refuse_full" (top 19) ["pairs","ways"]:=n9 X G a10 l10 c10 k10 fun us hl=>match us,hl with | [_,_],_=>rfl
 have D_take:Def K mg "take" (top 20) ["taken","place","pair","number"]:=n9 X G a11 l11 c11 k11 fun us hl=>match us,hl with | [_,_,_,_],_=>rfl
 have D_leave:Def K mg "leave" (top 21) ["taken","pair","number"]:=n9 X G a12 l12 c12 k12 fun us hl=>match us,hl with | [_,_,_],_=>rfl
 have D_first_left:Def K mg "first_left" (top 22) ["places","rack"]:=n9 X G a13 l13 c13 k13 fun us hl=>match us,hl with | [_,_],_=>rfl
 have D_chain_along:Def K mg "chain_along" (top 23) ["pairs","taken","rack","a","b"]:=n9 X G a14 l14 c14 k14 fun us hl=>match us,hl with | [_,_,_,_,_],_=>rfl
 have D_exchange:Def K mg "exchange" (top 24) ["pairs","taken","numbers","chain","a","b"]:=n9 X G a15 l15 c15 k15 fun us hl=>match us,hl with | [_,_,_,_,_,_],_=>rfl
 have D_parted:Def K mg "parted" (top 25) ["pairs","ways"]:=n9 X G a16 l16 c16 k16 fun us hl=>match us,hl with | [_,_],_=>rfl
 have D_is_plain:Def K mg "is_plain" (top 27) ["lines","small","depth"]:=n9 X G a17 l17 c17 k17 fun us hl=>match us,hl with | [_,_,_],_=>rfl
 have D_racks_for:Def K mg "racks_for" (top 28) ["lines","small"]:=n9 X G a18 l18 c18 k18 fun us hl=>match us,hl with | [_,_],_=>rfl
 have D_hall_nest:Def K mg "hall_nest" (top 29) ["lines","small","turns","depth"]:=n9 X G a19 l19 c19 k19 fun us hl=>match us,hl with | [_,_,_,_],_=>rfl
 have D_right_nest:Def K mg "right_nest" (top 30) ["lines","small","turns","depth"]:=n9 X G a20 l20 c20 k20 fun us hl=>match us,hl with | [_,_,_,_],_=>rfl
 have D_nest_of:eX K mg "nest_of" (top 31) ["lines","small","turns","depth"] [.int 6]:=⟨f21,_,⟨_,_,_,_,_,_,_,_,_,_,rfl,l21,c21⟩,k21,fun m hm=>match m,hm with | 0,_=>⟨[.int 6 td21_0],(.cons ⟨_,rfl⟩ .nil),fun s us X hl=>match us,(show us.length = 3 from by simpa using hl) with | [_,_,_],_=>BindsTo.of_defaults rfl (X _ _ dl21) rfl rfl rfl⟩ | 1,_=>⟨[],.nil,fun s us X hl=>match us,(show us.length = 4 from by simpa using hl) with | [_,_,_,_],_=>BindsTo.of_defaults rfl (X _ _ dl21) rfl rfl rfl⟩ | _ + 2,h=>absurd h (by simp),PySem.W.mg_of X G a21⟩
 have D_refuse_wide:Def K mg "refuse_wide" (top 32) ["hall","calls"]:=n9 X G a22 l22 c22 k22 fun us hl=>match us,hl with | [_,_],_=>rfl
 have D_amid_nest:eX K mg "amid_nest" (top 33) ["hall","calls","k","small","depth"] [.int 6]:=⟨f23,_,⟨_,_,_,_,_,_,_,_,_,_,rfl,l23,c23⟩,k23,fun m hm=>match m,hm with | 0,_=>⟨[.int 6 td23_0],(.cons ⟨_,rfl⟩ .nil),fun s us X hl=>match us,(show us.length = 4 from by simpa using hl) with | [_,_,_,_],_=>BindsTo.of_defaults rfl (X _ _ dl23) rfl rfl rfl⟩ | 1,_=>⟨[],.nil,fun s us X hl=>match us,(show us.length = 5 from by simpa using hl) with | [_,_,_,_,_],_=>BindsTo.of_defaults rfl (X _ _ dl23) rfl rfl rfl⟩ | _ + 2,h=>absurd h (by simp),PySem.W.mg_of X G a23⟩
 have D__law_cell_at:Def K mg "_law_cell_at" (top 35) ["_law_script","_law_k"]:=n9 X G a24 l24 c24 k24 fun us hl=>match us,hl with | [_,_],_=>rfl
 have D__law_mixed:Def K mg "_law_mixed" (top 36) ["_law_cell","_law_k"]:=n9 X G a25 l25 c25 k25 fun us hl=>match us,hl with | [_,_],_=>rfl
 have D__law_whole:Def K mg "_law_whole" (top 37) ["_law_found"]:=n9 X G a26 l26 c26 k26 fun us hl=>match us,hl with | [_],_=>rfl
 have D__law_digit:Def K mg "_law_digit" (top 38) ["_law_left","_law_many"]:=n9 X G a27 l27 c27 k27 fun us hl=>match us,hl with | [_,_],_=>rfl
 have D__law_hall:Def K mg "_law_hall" (top 39) ["_law_cell"]:=n9 X G a28 l28 c28 k28 fun us hl=>match us,hl with | [_],_=>rfl
 have D__law_ends_of:Def K mg "_law_ends_of" (top 40) ["_law_hall_here","_law_number","_law_wide_here"]:=n9 X G a29 l29 c29 k29 fun us hl=>match us,hl with | [_,_,_],_=>rfl
 have D__law_free_ends:Def K mg "_law_free_ends" (top 41) ["_law_hall_here","_law_left","_law_wide_here"]:=n9 X G a30 l30 c30 k30 fun us hl=>match us,hl with | [_,_,_],_=>rfl
 have D__law_calls:Def K mg "_law_calls" (top 42) ["_law_script","_law_hall_here","_law_start","_law_last","_law_wide_here"]:=n9 X G a31 l31 c31 k31 fun us hl=>match us,hl with | [_,_,_,_,_],_=>rfl
 have D__law_by_bar:Def K mg "_law_by_bar" (top 43) ["_law_bars_here","_law_number"]:=n9 X G a32 l32 c32 k32 fun us hl=>match us,hl with | [_,_],_=>rfl
 have D__law_walked:Def K mg "_law_walked" (top 44) ["_law_nest","_law_line"]:=n9 X G a33 l33 c33 k33 fun us hl=>match us,hl with | [_,_],_=>rfl
 have D__law_wide:Def K mg "_law_wide" (top 45) ["_law_hall_here","_law_calls_here","_law_k"]:=n9 X G a34 l34 c34 k34 fun us hl=>match us,hl with | [_,_,_],_=>rfl
 have D__law_bars:Def K mg "_law_bars" (top 46) ["_law_bars_here","_law_ones","_law_others"]:=n9 X G a35 l35 c35 k35 fun us hl=>match us,hl with | [_,_,_],_=>rfl
 have D__law_racks:Def K mg "_law_racks" (top 47) ["_law_some","_law_many","_law_small"]:=n9 X G a36 l36 c36 k36 fun us hl=>match us,hl with | [_,_,_],_=>rfl
 have D__law_shape:Def K mg "_law_shape" (top 48) ["_law_nest","_law_lines","_law_small","_law_depth"]:=n9 X G a37 l37 c37 k37 fun us hl=>match us,hl with | [_,_,_,_],_=>rfl
 have D__law_count:Def K mg "_law_count" (top 49) ["_law_nest"]:=n9 X G a38 l38 c38 k38 fun us hl=>match us,hl with | [_],_=>rfl
 have D__law_levels:Def K mg "_law_levels" (top 50) ["_law_lines","_law_small","_law_depth"]:=n9 X G a39 l39 c39 k39 fun us hl=>match us,hl with | [_,_,_],_=>rfl
 have D__law_nest_right:Def K mg "_law_nest_right" (top 51) ["_law_hall_here","_law_calls_here","_law_k","_law_nest","_law_small","_law_depth"]:=n9 X G a40 l40 c40 k40 fun us hl=>match us,hl with | [_,_,_,_,_,_],_=>rfl
 have F:=ki (st:=top 52) l41 c41 k41
 refine ⟨PySem.W.fnOf "law" "law" (j6 (top 52)) (i7 (top 52)) (d7 (top 52)) .none kV41 dc41 pm41 an41 cd41 ct41,fun s v=>.of_eq rfl,fun base _ _=>?_⟩
 have C_cell:=nP (P:=l.prog) (w:=w) (base:=base) T D__law_cell_at
 have C_mix:=lZ (P:=l.prog) (w:=w) (base:=base) T D__law_mixed
 have C_dig:=lT (P:=l.prog) (w:=w) (base:=base) T D__law_digit
 have C_take:=mZ (P:=l.prog) (w:=w) (base:=base) T D_take
 have C_side:=mT (P:=l.prog) (w:=w) (base:=base) T D_side_weights
 have C_part:=jW T (js T C_side D_refuse_full) (nr T D_first_left) (kM T D_chain_along) (mB T C_take (kD T D_leave) D_exchange) C_take D_parted
 have C_rn:=oK T (lM T D_is_plain) (mE T D_racks_for) C_part D_right_nest D_hall_nest 6
 have C_isn:=dM (P:=l.prog) (w:=w) (base:=base) T D_is_number
 have C_fw:=lX T (fO T (fw T C_isn D_is_whole) D_is_entry) D_first_wrong
 have C_no:=jk T C_fw C_rn D_nest_of
 have C_cr:=cV (P:=l.prog) (w:=w) (base:=base) T (fg T D_place_in) (lp T (cT T D_place_out) D_racks_of) D_call_racks
 have C_am:=mK T Z (nk T Z C_cr (kT T Z D_Wide___init__) D_refuse_wide) C_cr C_no D_amid_nest
 have C_wh:=jf (P:=l.prog) (w:=w) (base:=base) T D__law_whole
 have C_ba:=nK T C_wh D__law_bars
 have C_sh:=eP T C_wh C_ba (jA T C_ba D__law_racks) D__law_shape 6
 have C_ri:=jP T C_sh (eW T D__law_count 6) (jI T D__law_levels) (cv T (kP T D__law_by_bar) D__law_walked 6) D__law_nest_right
 exact ph T Z C_cell C_mix C_dig (kI T C_mix C_dig D__law_hall) (ju T C_cell C_mix C_dig (nO T D__law_ends_of) (kF T C_dig D__law_free_ends) D__law_calls) C_am (lB T D__law_wide) C_ri C_wh F
end
theorem walk {l:PySem.W.OpenLaw} {q:Program} {loose:List Str} {XP:(Str → Option Value) → Heap → Prop} {YP:World → Heap → Prop} {d:DefRec} {K:Params → PySem.W.Frag} (hn:l.most = some 63) (hdf:d.params.defaults = [])
  (hY:∀ (w:World) (h:Heap),YP w h → (K w.params).In h)
  (F:∀ (w:World) (mg:Str → Option Value) (fa:Addr) (h:Heap),(K w.params).In h → h.Ns mainGlobals mg → mg d.name = some (.ref fa) →
   ∃ fd:FuncData,(∀ (s:Shared) (u:Value),BindsTo s fd ⟨[u],[]⟩ [("_law_script",u)]) ∧ ∀ base:Heap,(K w.params).In base → base.Ns mainGlobals mg → X5 l.prog w (K w.params) mg base CX0 19 fa fd ["_law_script"] (iB (K w.params))) :
  PySem.W.WalkO q loose XP YP l.row.toRowW d [] (fun f vs=>PySem.call f vs) :=
 L2.nJ (n:=63) (k:=19) (x:="_law_script") (CX:=fun _=>CX0) (sp:=fun w=>iB (K w.params)) hn (by decide) hdf ⟨rfl,by decide,by decide⟩ hY F (fun _ _ a ns hl _ hS=>⟨a,ns,rfl,hS,hl,fun _=>rfl⟩) fun _ _ _ _ _ z=>z
end My
open PySem PySem.W PyProof.Rows
set_option maxRecDepth 100000 in
set_option maxHeartbeats 0 in
theorem PySem.Challenge.cw_crossracks_k56_whole_hall_of_nests_holds : PySem.Challenge.rw_crossracks_k56_whole_hall_of_nests.Holds := by
 w_on; o_law; k_head; (case hw=>w_witness2)
 k_fill
 refine My.walk (l:=PySem.Challenge.rw_crossracks_k56_whole_hall_of_nests) rfl rfl (fun w h Y=>PySem.W.kIn_of Y) ?F
 case F =>
  intro w mg fa h KX G hmg
  refine' My.qf KX G hmg ?a1 ?l1 ?c1 ?k1 ?a2 ?l2 ?c2 ?k2 ?a3 ?l3 ?c3 ?k3 ?a4 ?l4 ?c4 ?k4 ?a5 ?l5 ?c5 ?k5 ?a6 ?l6 ?c6 ?k6 ?a7 ?l7 ?c7 ?k7 ?a8 ?l8 ?c8 ?k8 ?a9 ?l9 ?c9 ?k9 ?a10 ?l10 ?c10 ?k10 ?a11 ?l11 ?c11 ?k11 ?a12 ?l12 ?c12 ?k12 ?a13 ?l13 ?c13 ?k13 ?a14 ?l14 ?c14 ?k14 ?a15 ?l15 ?c15 ?k15 ?a16 ?l16 ?c16 ?k16 ?a17 ?l17 ?c17 ?k17 ?a18 ?l18 ?c18 ?k18 ?a19 ?l19 ?c19 ?k19 ?a20 ?l20 ?c20 ?k20 ?dl21 ?a21 ?l21 ?c21 ?k21 ?a22 ?l22 ?c22 ?k22 ?dl23 ?a23 ?l23 ?c23 ?k23 ?a24 ?l24 ?c24 ?k24 ?a25 ?l25 ?c25 ?k25 ?a26 ?l26 ?c26 ?k26 ?a27 ?l27 ?c27 ?k27 ?a28 ?l28 ?c28 ?k28 ?a29 ?l29 ?c29 ?k29 ?a30 ?l30 ?c30 ?k30 ?a31 ?l31 ?c31 ?k31 ?a32 ?l32 ?c32 ?k32 ?a33 ?l33 ?c33 ?k33 ?a34 ?l34 ?c34 ?k34 ?a35 ?l35 ?c35 ?k35 ?a36 ?l36 ?c36 ?k36 ?a37 ?l37 ?c37 ?k37 ?a38 ?l38 ?c38 ?k38 ?a39 ?l39 ?c39 ?k39 ?a40 ?l40 ?c40 ?k40 ?a41 ?l41 ?c41 ?k41   ?q_HallError_at ?q_TooFull_at ?q_NoTurns_at ?q_Wide_at ?q_HallError_ic ?q_HallError_ty ?q_TooFull_ic ?q_TooFull_ty ?q_NoTurns_ic ?q_NoTurns_ty ?q_Wide_ic ?q_Wide_ty ?q_hb ?q_gt ?q_tk ?q_Wide_sa ?q_Wide_f_caller ?q_Wide_ga ?q_Wide_gn ?q_Wide_cl ?q_Wide_mo ?q_Wide_mb ?q_Wide_sv ?q_Wide_s_HallError ?q_Wide_s_TooFull ?q_Wide_s_NoTurns ?q_Wide_s_Wide ?q_Wide___init___a ?q_Wide___init___i ?q_Wide___init___l ?q_Wide___init___c ?q_Wide___init___k ?q_Wide_xi ?z_len ?z_isinstance ?z_int ?z_bool ?z_tuple ?z_list ?z_range ?z_abs ?z_min ?z_max ?z_sorted ?z_zip ?z_enumerate ?z_divmod ?z_set ?z_sum ?z_ValueError
  (case a1=>k_is); (case l1=>k_is); (case c1=>k_is); (case k1=>k_is)
  (case a2=>k_is); (case l2=>k_is); (case c2=>k_is); (case k2=>k_is)
  (case a3=>k_is); (case l3=>k_is); (case c3=>k_is); (case k3=>k_is)
  (case a4=>k_is); (case l4=>k_is); (case c4=>k_is); (case k4=>k_is)
  (case a5=>k_is); (case l5=>k_is); (case c5=>k_is); (case k5=>k_is)
  (case a6=>k_is); (case l6=>k_is); (case c6=>k_is); (case k6=>k_is)
  (case a7=>k_is); (case l7=>k_is); (case c7=>k_is); (case k7=>k_is)
  (case a8=>k_is); (case l8=>k_is); (case c8=>k_is); (case k8=>k_is)
  (case a9=>k_is); (case l9=>k_is); (case c9=>k_is); (case k9=>k_is)
  (case a10=>k_is); (case l10=>k_is); (case c10=>k_is); (case k10=>k_is)
  (case a11=>k_is); (case l11=>k_is); (case c11=>k_is); (case k11=>k_is)
  (case a12=>k_is); (case l12=>k_is); (case c12=>k_is); (case k12=>k_is)
  (case a13=>k_is); (case l13=>k_is); (case c13=>k_is); (case k13=>k_is)
  (case a14=>k_is); (case l14=>k_is); (case c14=>k_is); (case k14=>k_is)
  (case a15=>k_is); (case l15=>k_is); (case c15=>k_is); (case k15=>k_is)
  (case a16=>k_is); (case l16=>k_is); (case c16=>k_is); (case k16=>k_is)
  (case a17=>k_is); (case l17=>k_is); (case c17=>k_is); (case k17=>k_is)
  (case a18=>k_is); (case l18=>k_is); (case c18=>k_is); (case k18=>k_is)
  (case a19=>k_is); (case l19=>k_is); (case c19=>k_is); (case k19=>k_is)
  (case a20=>k_is); (case l20=>k_is); (case c20=>k_is); (case k20=>k_is)
  (case a21=>k_is); (case l21=>k_is); (case dl21=>k_is); (case c21=>k_is); (case k21=>k_is)
  (case a22=>k_is); (case l22=>k_is); (case c22=>k_is); (case k22=>k_is)
  (case a23=>k_is); (case l23=>k_is); (case dl23=>k_is); (case c23=>k_is); (case k23=>k_is)
  (case a24=>k_is); (case l24=>k_is); (case c24=>k_is); (case k24=>k_is)
  (case a25=>k_is); (case l25=>k_is); (case c25=>k_is); (case k25=>k_is)
  (case a26=>k_is); (case l26=>k_is); (case c26=>k_is); (case k26=>k_is)
  (case a27=>k_is); (case l27=>k_is); (case c27=>k_is); (case k27=>k_is)
  (case a28=>k_is); (case l28=>k_is); (case c28=>k_is); (case k28=>k_is)
  (case a29=>k_is); (case l29=>k_is); (case c29=>k_is); (case k29=>k_is)
  (case a30=>k_is); (case l30=>k_is); (case c30=>k_is); (case k30=>k_is)
  (case a31=>k_is); (case l31=>k_is); (case c31=>k_is); (case k31=>k_is)
  (case a32=>k_is); (case l32=>k_is); (case c32=>k_is); (case k32=>k_is)
  (case a33=>k_is); (case l33=>k_is); (case c33=>k_is); (case k33=>k_is)
  (case a34=>k_is); (case l34=>k_is); (case c34=>k_is); (case k34=>k_is)
  (case a35=>k_is); (case l35=>k_is); (case c35=>k_is); (case k35=>k_is)
  (case a36=>k_is); (case l36=>k_is); (case c36=>k_is); (case k36=>k_is)
  (case a37=>k_is); (case l37=>k_is); (case c37=>k_is); (case k37=>k_is)
  (case a38=>k_is); (case l38=>k_is); (case c38=>k_is); (case k38=>k_is)
  (case a39=>k_is); (case l39=>k_is); (case c39=>k_is); (case k39=>k_is)
  (case a40=>k_is); (case l40=>k_is); (case c40=>k_is); (case k40=>k_is)
  (case a41=>k_is); (case l41=>k_is); (case c41=>k_is); (case k41=>k_is)
  (case q_HallError_at=>k_is)
  (case q_TooFull_at=>k_is)
  (case q_NoTurns_at=>k_is)
  (case q_Wide_at=>k_is)
  (case q_HallError_ic=>k_is)
  (case q_HallError_ty=>k_is)
  (case q_TooFull_ic=>k_is)
  (case q_TooFull_ty=>k_is)
  (case q_NoTurns_ic=>k_is)
  (case q_NoTurns_ty=>k_is)
  (case q_Wide_ic=>k_is)
  (case q_Wide_ty=>k_is)
  (case q_hb=>k_is)
  (case q_gt=>k_is)
  (case q_tk=>k_is)
  (case q_Wide_sa=>k_is)
  (case q_Wide_f_caller=>k_is)
  (case q_Wide_ga=>k_is)
  (case q_Wide_gn=>k_is)
  (case q_Wide_cl=>k_is)
  (case q_Wide_mo=>k_is)
  (case q_Wide_mb=>k_is)
  (case q_Wide_sv=>k_is)
  (case q_Wide_s_HallError=>k_is)
  (case q_Wide_s_TooFull=>k_is)
  (case q_Wide_s_NoTurns=>k_is)
  (case q_Wide_s_Wide=>k_is)
  (case q_Wide___init___a=>k_is)
  (case q_Wide___init___i=>k_is)
  (case q_Wide___init___l=>k_is)
  (case q_Wide___init___c=>k_is)
  (case q_Wide___init___k=>k_is)
  (case q_Wide_xi=>kernel_rfl)
  (case z_len=>k_is)
  (case z_isinstance=>k_is)
  (case z_int=>k_is)
  (case z_bool=>k_is)
  (case z_tuple=>k_is)
  (case z_list=>k_is)
  (case z_range=>k_is)
  (case z_abs=>k_is)
  (case z_min=>k_is)
  (case z_max=>k_is)
  (case z_sorted=>k_is)
  (case z_zip=>k_is)
  (case z_enumerate=>k_is)
  (case z_divmod=>k_is)
  (case z_set=>k_is)
  (case z_sum=>k_is)
  (case z_ValueError=>k_is)
