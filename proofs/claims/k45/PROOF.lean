import PyProof.Rows.All
import Wide.All
import OpenK.AllK
import Wide.FinOn
import Lean
import PyProof.EqAt
import PyProof.EqKinds
import PyProof.TupleCall
import PySem.SetOps
import PyProof.SetKind
import PyProof.CollectWalk
import PyProof.FactsAll.set
import PyProof.ForAny
import PyProof.Rows.SortWalk
import PyProof.Rows.SetFrom
import KE.KSortAsk
import KE.KSortTup
import KE.KDictList
import KE.KMinBuiltin
import PyProof.EnumMake
import PyProof.NsDelKeeps
import PyProof.ExcInit
import PyProof.ExcClass2
import PyProof.MeetsStr
import PyProof.MeetsStr2
import PyProof.StrLawsIn
import PyProof.StrLawsOcc
import PyProof.StrLawsOccR
import PyProof.CallStr
import PyProof.SliceStr2
import KE.KIntText
import KE.IntTextLaws
import PyProof.FString4
import PyProof.StrLawsRepr
import PyProof.StrWalks
import PyProof.FString
import PyProof.TupleKey
import PyProof.IsRules
import KE.KRevIter
import PyProof.WalksMore
import PyProof.FitsReplace
import PyProof.Rows.StrLawsPart
import PySem.Challenge.RW_crossracks_k45_whole_at_once
set_option Elab.async false
set_option linter.all false
set_option maxRecDepth 100000
namespace L2
open PySem PySem.Spec PyProof.Rows
abbrev Key:=Sum Int Str
def aa2:Key → Value → Bool
 | .inl k,v=>Value.isInt k v
 | .inr x,v=>Value.isStrOf x v
def a_7 (w:World):Key → Int
 | .inl k=>hashInt k
 | .inr x=>hashStr w x
theorem w5:∀ {k:Key} {v:Value},aa2 k v = true → (∃ i t,k = Sum.inl i ∧ v = Value.int i t) ∨ (∃ x t,k = Sum.inr x ∧ v = Value.str x t)
 | .inl i,v,h=>by
  obtain ⟨t,e⟩:=Value.isInt_shape (k:=i) (v:=v) h
  exact .inl ⟨i,t,rfl,e⟩
 | .inr x,v,h=>by
  obtain ⟨t,e⟩:=Value.isStrOf_shape (x:=x) (v:=v) h
  exact .inr ⟨x,t,rfl,e⟩
theorem aF9 (i:Int) (t:Tok):aa2 (.inl i) (.int i t) = true:=by simp [aa2,Value.isInt]
theorem aF4 (x:Str) (t:Tok):aa2 (.inr x) (.str x t) = true:=by simp [aa2,Value.isStrOf]
theorem a47 (a b:Int):decide ((Sum.inl a:Key) = Sum.inl b) = (a == b):=by
 by_cases e:a = b
 ·subst e; simp
 ·have h:¬ (Sum.inl a:Key) = Sum.inl b:=fun q=>e (Sum.inl.inj q)
  rw [decide_eq_false h]
  exact (beq_eq_false_iff_ne.mpr e).symm
theorem a34 (a b:Str):decide ((Sum.inr a:Key) = Sum.inr b) = decide (a = b):=by
 by_cases e:a = b
 ·subst e; simp
 ·have h:¬ (Sum.inr a:Key) = Sum.inr b:=fun q=>e (Sum.inr.inj q)
  rw [decide_eq_false h,decide_eq_false e]
theorem a57 (a:Int) (b:Str):decide ((Sum.inl a:Key) = Sum.inr b) = false:=decide_eq_false (fun q=>nomatch q)
theorem a44 (a:Str) (b:Int):decide ((Sum.inr a:Key) = Sum.inl b) = false:=decide_eq_false (fun q=>nomatch q)
def u7 (prog:Program) (w:World):PySem.KeyKind prog w Key where
 is:=aa2
 hash:=a_7 w
 inj:=fun v a b ha hb=>by
  rcases w5 ha with ⟨i,t,rfl,rfl⟩ | ⟨x,t,rfl,rfl⟩
  ·rcases w5 hb with ⟨j,u,rfl,e⟩ | ⟨y,u,rfl,e⟩
   ·injection e with e1 _; rw [e1]
   ·exact nomatch e
  ·rcases w5 hb with ⟨j,u,rfl,e⟩ | ⟨y,u,rfl,e⟩
   ·exact nomatch e
   ·injection e with e1 _; rw [e1]
 byValue:=fun k v h=>by
  rcases w5 h with ⟨i,t,rfl,rfl⟩ | ⟨x,t,rfl,rfl⟩ <;> rfl
 pyHash:=fun hv h=>by
  rcases w5 hv with ⟨i,t,rfl,rfl⟩ | ⟨x,t,rfl,rfl⟩
  ·exact wpAny_pyHash_int h
  ·exact wpAny_pyHash_str h
 eqBool:=fun hu hv h=>by
  rcases w5 hu with ⟨i,t,rfl,rfl⟩ | ⟨x,t,rfl,rfl⟩
  ·rcases w5 hv with ⟨j,u,rfl,rfl⟩ | ⟨y,u,rfl,rfl⟩
   ·rw [a47] at h; exact wpAny_eqBool_int h
   ·rw [a57] at h; exact SeqAt.EqAt.int_str i t y u _ _ _ _ h
  ·rcases w5 hv with ⟨j,u,rfl,rfl⟩ | ⟨y,u,rfl,rfl⟩
   ·rw [a44] at h; exact SeqAt.EqAt.str_int x t j u _ _ _ _ h
   ·rw [a34] at h; exact wpAny_eqBool_str h
 «strs»:=fun k x t v h=>by
  rcases w5 h with ⟨i,u,rfl,e⟩ | ⟨y,u,rfl,e⟩
  ·exact nomatch e
  ·injection e with e1 _
   subst e1
   cases v <;> rfl
theorem as9 (prog:Program) (w:World) (i:Int) (t:Tok):(u7 prog w).is (.inl i) (.int i t) = true:=aF9 i t
theorem aq9 (prog:Program) (w:World) (x:Str) (t:Tok):(u7 prog w).is (.inr x) (.str x t) = true:=aF4 x t
end L2
namespace L2
open PySem PySem.Spec PyProof.Rows
inductive V where
 | non | bl (b:Bool) | int (i:Int) | str (x:Str) | byt (b:Array UInt8) | flt (b:UInt64) | ref (a:Addr) | ty (n:String)
 deriving DecidableEq
def n5:V → Value → Prop
 | .non,u=>u = Value.none
 | .bl b,u=>u = Value.bool b
 | .int i,u=>∃ t,u = Value.int i t
 | .str x,u=>∃ t,u = Value.str x t
 | .byt b,u=>∃ t,u = Value.bytes b t
 | .flt b,u=>∃ t,u = Value.float b t
 | .ref a,u=>u = Value.ref a
 | .ty n,u=>u = Value.type n
abbrev j9:List V → List Value → Prop:=Paired n5
theorem j9.length {xs:List V} {us:List Value} (r:j9 xs us):xs.length = us.length:=Paired.length r
theorem j9.get:∀ {xs:List V} {us:List Value} {i:Nat} {x:V},j9 xs us → xs[i]? = some x → ∃ u,us[i]? = some u ∧ n5 x u
 | _,_,_,_,.nil,e=>by simp at e
 | _,_,0,_,.cons r _,e=>by simp at e; subst e; exact ⟨_,rfl,r⟩
 | _,_,i + 1,x,.cons _ t,e=>by
  obtain ⟨u,h1,h2⟩:=j9.get (i:=i) (x:=x) t (by simpa using e)
  exact ⟨u,by simpa using h1,h2⟩
theorem j9.set {x:V} {u:Value} (r:n5 x u):∀ {xs:List V} {us:List Value} (i:Nat),j9 xs us → j9 (xs.set i x) (us.set i u)
 | _,_,_,.nil=>.nil
 | _,_,0,.cons _ t=>.cons r t
 | _,_,i + 1,.cons q t=>.cons q (j9.set r i t)
theorem j9.append:∀ {xs ys:List V} {us ws:List Value},j9 xs us → j9 ys ws → j9 (xs ++ ys) (us ++ ws)
 | _,_,_,_,.nil,s=>s
 | _,_,_,_,.cons r t,s=>.cons r (j9.append t s)
theorem j9.take:∀ {xs:List V} {us:List Value} (n:Nat),j9 xs us → j9 (xs.take n) (us.take n)
 | _,_,0,_=>.nil
 | _,_,_ + 1,.nil=>.nil
 | _,_,n + 1,.cons r t=>.cons r (j9.take n t)
theorem j9.drop:∀ {xs:List V} {us:List Value} (n:Nat),j9 xs us → j9 (xs.drop n) (us.drop n)
 | _,_,0,r=>r
 | _,_,_ + 1,.nil=>.nil
 | _,_,n + 1,.cons _ t=>j9.drop n t
def P1:Option V → Option Value → Prop
 | some v,some u=>n5 v u
 | none,none=>True
 | _,_=>False
def KV {κ:Type}:List (κ × V) → List (κ × Value) → Prop:=Paired fun (p:κ × V) (q:κ × Value)=>p.1 = q.1 ∧ n5 p.2 q.2
def kV:Key → V
 | .inl i=>.int i
 | .inr x=>.str x
inductive HO where
 /-- a list -/
 | lst (xs:List V)
 /-- a tuple (never changes) -/
 | tup (xs:List V)
 /-- a dict whose keys are ints and texts; one whose keys are tuples of ints and texts (the empty one is both) -/
 | dK (kvs:List (Key × V)) | dT (kvs:List (List Key × V))
 /-- a set of ints: its members,its size -/
 | set (S:Int → Bool) (n:Nat)
 /-- an instance of the class at C,its dict at dx,its attributes -/
 | ins (C dx:Addr) (fs:List (Str × V))
 /-- the dict of the instance at x -/
 | own (x:Addr)
 /-- the dict of an exception -/
 | xd (fs:List (Str × V))
 /-- a bound method,f of x -/
 | met (f x:Addr)
 /-- a range object lo,lo + 1,.. below hi -/
 | rng (lo hi:Int)
 /-- a thing that is known to the object (the script; a dict while a loop walks it): read,never written while it is so -/
 | frz (o:Obj) (u:HO)
 /-- a code object's table -/
 | tbl (ps:Array Value)
 /-- any other thing,by what is true of its one object (a def of one's own: aH2 a S n:=HO.ext fun h=>..) -/
 | ext (φ:Heap → Prop)
abbrev Hp:=Addr → Option HO
def upd (H:Hp) (a:Addr) (o:HO):Hp:=fun b=>if b = a then some o else H b
theorem b9 {H:Hp} {a:Addr} {o:HO}:upd H a o a = some o:=by unfold upd; rw [if_pos rfl]
theorem d9 {H:Hp} {a b:Addr} {o:HO} (h:b ≠ a):upd H a o b = H b:=by unfold upd; rw [if_neg h]
theorem aX3 {H:Hp} {a b:Addr} {o u:HO} (h:H a = some o) (h':H b = some u) (d:o ≠ u):a ≠ b:=by
 intro e; subst e; rw [h] at h'; exact d (Option.some.inj h')
theorem g9 {H:Hp} {a b:Addr} {o:HO} (h:H a = some o) (h':H b = none):a ≠ b:=by
 intro e; subst e; rw [h] at h'; cases h'
section
variable (P:Program) (w:World)
def m5 (H:Hp) (h:Heap) (a:Addr):HO → Prop
 | .lst xs=>xs.length ≤ sizeLine ∧ ∃ (its:List Value) (n:Nat),j9 xs its ∧ h.get? a = some { cls:=.type "list",data:=.seq its.toArray n }
 | .tup xs=>xs.length ≤ sizeLine ∧ ∃ its:List Value,j9 xs its ∧ IsTup h a its.toArray
 | .dK kvs=>kvs.length ≤ sizeLine ∧ (a == sysModules) = false ∧ ∃ vs,KV kvs vs ∧ h.DictOf (u7 P w) a vs
 | .dT kvs=>kvs.length ≤ sizeLine ∧ (a == sysModules) = false ∧ ∃ xs:List (List Key × Addr × Value),
   Paired (fun (p:List Key × V) (q:List Key × Addr × Value)=>p.1 = q.1 ∧ H q.2.1 = some (.tup (p.1.map kV)) ∧ n5 p.2 q.2.2) kvs xs ∧
   ∃ o es ep,h.get? a = some o ∧ o.ExactDict ∧ o.data = .dict es ep ∧ es.toList = xs.map (entryOfKey (tupleKind (u7 P w))) ∧ (xs.map (·.1)).Nodup
 | .set S n=>h.SetOf (intKind P w) a S n
 | .ins C dx fs=>H dx = some (.own a) ∧ fs.length ≤ 1000 ∧ dx ≠ a ∧ h.get? a = some (PySem.W.instObj C dx) ∧
   ∃ mA,h.Ns1 dx mA ∧ (∀ f,P1 (fs.lookup f) (mA f)) ∧ PySem.Within mA (fs.map (·.1))
 | .own _=>∃ o,h.get? a = some o
 | .xd fs=>∃ mA,h.Ns1 a mA ∧ ∀ f,P1 (fs.lookup f) (mA f)
 | .rng lo hi=>∃ t u v,h.get? a = some { cls:=.type "range",data:=.fields #[.int lo t,.int hi u,.int 1 v] }
 | .frz o u=>h.get? a = some o ∧ m5 H h a u
 | .tbl ps=>h.get? a = some { cls:=.none,data:=.fields ps }
 | .met f x=>h.get? a = some (PySem.W.methodObj (.ref f) (.ref x))
 | .ext φ=>φ h ∧ (∃ o,h.get? a = some o) ∧ ∀ h1 h2:Heap,φ h1 → (∀ o,h1.get? a = some o → h2.get? a = some o) → φ h2
def HOk (H:Hp) (h:Heap):Prop:=∀ a o,H a = some o → m5 P w H h a o
end
section
variable {P:Program} {w:World} {H H':Hp} {h h':Heap} {a:Addr} {o:HO}
theorem m5.lt (x:m5 P w H h a o):a < h.objs.size:=by
 cases o with
 | lst xs=>obtain ⟨_,_,_,_,e⟩:=x; exact Heap.lt_size e
 | tup xs=>obtain ⟨_,_,_,p⟩:=x; exact p.lt
 | dK kvs=>obtain ⟨_,_,_,_,o,_,_,e,_⟩:=x; exact Heap.lt_size e
 | dT kvs=>obtain ⟨_,_,_,_,o,_,_,e,_⟩:=x; exact Heap.lt_size e
 | set S n=>obtain ⟨o,_,_,_,e,_⟩:=x; exact Heap.lt_size e
 | ins C dx fs=>obtain ⟨_,_,_,e,_⟩:=x; exact Heap.lt_size e
 | own y=>obtain ⟨_,e⟩:=x; exact Heap.lt_size e
 | xd fs=>obtain ⟨_,⟨_,_,_,e,_⟩,_⟩:=x; exact Heap.lt_size e
 | rng lo hi=>obtain ⟨_,_,_,e⟩:=x; exact Heap.lt_size e
 | frz ob u=>obtain ⟨e,_⟩:=x; exact Heap.lt_size e
 | tbl ps=>exact Heap.lt_size (show h.get? a = some _ from x)
 | met f y=>exact Heap.lt_size (show h.get? a = some _ from x)
 | ext φ=>obtain ⟨_,⟨_,e⟩,_⟩:=x; exact Heap.lt_size e
theorem Paired.mapP {α β:Type} {F G:α → β → Prop}:∀ {l₁:List α} {l₂:List β},Paired F l₁ l₂ → (∀ a b,F a b → G a b) → Paired G l₁ l₂
 | _,_,.nil,_=>.nil
 | _,_,.cons r t,f=>.cons (f _ _ r) (Paired.mapP t f)
theorem m5.stay (x:m5 P w H h a o) (k:∀ b u,(b = a ∨ H b = some (.own a)) → h.get? b = some u → h'.get? b = some u)
  (ho:∀ b,H b = some (.own a) → H' b = some (.own a)) (ht:∀ b xs,H b = some (.tup xs) → H' b = some (.tup xs)):m5 P w H' h' a o:=by
 induction o with
 | lst xs=>obtain ⟨z,its,n,r,e⟩:=x; exact ⟨z,its,n,r,k _ _ (.inl rfl) e⟩
 | tup xs=>obtain ⟨z,its,r,ob,e,c⟩:=x; exact ⟨z,its,r,ob,k _ _ (.inl rfl) e,c⟩
 | dK kvs=>obtain ⟨z,y,vs,r,ob,es,ep,e,c⟩:=x; exact ⟨z,y,vs,r,ob,es,ep,k _ _ (.inl rfl) e,c⟩
 | dT kvs =>
  obtain ⟨z,y,xs,r,ob,es,ep,e,c⟩:=x
  exact ⟨z,y,xs,Paired.mapP r fun p q z=>⟨z.1,ht _ _ z.2.1,z.2.2⟩,ob,es,ep,k _ _ (.inl rfl) e,c⟩
 | set S n=>obtain ⟨ob,es,ep,t,e,c⟩:=x; exact ⟨ob,es,ep,t,k _ _ (.inl rfl) e,c⟩
 | ins C dx fs =>
  obtain ⟨d,z,ne,e,mA,⟨od,es,ep,e2,c⟩,r⟩:=x
  exact ⟨ho _ d,z,ne,k _ _ (.inl rfl) e,mA,⟨od,es,ep,k _ _ (.inr d) e2,c⟩,r⟩
 | own y=>obtain ⟨ob,e⟩:=x; exact ⟨ob,k _ _ (.inl rfl) e⟩
 | xd fs=>obtain ⟨mA,⟨od,es,ep,e,c⟩,r⟩:=x; exact ⟨mA,⟨od,es,ep,k _ _ (.inl rfl) e,c⟩,r⟩
 | rng lo hi=>obtain ⟨t,u,v,e⟩:=x; exact ⟨t,u,v,k _ _ (.inl rfl) e⟩
 | frz ob u ih=>obtain ⟨e,q⟩:=x; exact ⟨k _ _ (.inl rfl) e,ih q⟩
 | tbl ps =>
  have e:h.get? a = some { cls:=.none,data:=.fields ps }:=x
  show h'.get? a = some { cls:=.none,data:=.fields ps }
  exact k a _ (.inl rfl) e
 | met f y =>
  have e:h.get? a = some (PySem.W.methodObj (.ref f) (.ref y)):=x
  show h'.get? a = some (PySem.W.methodObj (.ref f) (.ref y))
  exact k a _ (.inl rfl) e
 | ext φ=>obtain ⟨p,⟨o,e⟩,st⟩:=x; exact ⟨st _ _ p fun o q=>k _ _ (.inl rfl) q,⟨o,k _ _ (.inl rfl) e⟩,st⟩
theorem HOk.lt (x:HOk P w H h) (e:H a = some o):a < h.objs.size:=(x a o e).lt
theorem HOk.fresh (x:HOk P w H h) (e:h.objs.size ≤ a):H a = none:=by
 cases q:H a with
 | none=>rfl
 | some u=>exact absurd (Nat.lt_of_lt_of_le (x.lt q) e) (Nat.lt_irrefl _)
theorem HOk.kept (x:HOk P w H h) (k:∀ b u,h.get? b = some u → h'.get? b = some u):HOk P w H h':=fun a o e =>
 (x a o e).stay (fun b u _ q=>k b u q) (fun _ q=>q) fun _ _ q=>q
theorem HOk.laid (x:HOk P w H h) (k:∀ b u,h.get? b = some u → h'.get? b = some u) (hp:h.objs.size ≤ a) (new:m5 P w (upd H a o) h' a o):HOk P w (upd H a o) h':=fun b u e=>by
 have hn:=x.fresh hp
 by_cases hb:b = a
 ·subst hb; rw [b9] at e; cases e; exact new
 ·rw [d9 hb] at e
  exact (x b u e).stay (fun c v _ q=>k c v q) (fun c q=>by rw [d9 (g9 q hn)]; exact q) fun c xs q=>by rw [d9 (g9 q hn)]; exact q
end
def Rd (H:Hp) (a:Addr) (u:HO):Prop:=H a = some u ∨ ∃ o,H a = some (.frz o u)
theorem Rd.ok {P:Program} {w:World} {H:Hp} {h:Heap} {a:Addr} {u:HO} (r:Rd H a u) (x:HOk P w H h):m5 P w H h a u:=by
 rcases r with r | ⟨o,r⟩
 ·exact x a u r
 ·obtain ⟨_,q⟩:=x a _ r
  exact q
def Mut:Option HO → Prop
 | some (.lst _)=>True
 | some (.dK _)=>True
 | some (.dT _)=>True
 | some (.set _ _)=>True
 | some (.ins _ _ _)=>True
 | some (.ext _)=>True
 | _=>False
section
variable {P:Program} {w:World} {H:Hp} {h h':Heap} {x e:Addr} {o':HO}
theorem HOk.write (ok:HOk P w H h) (mu:Mut (H x)) (he:e = x ∨ H e = some (.own x)) (k:∀ b u,b ≠ e → h.get? b = some u → h'.get? b = some u) (heo:∃ u,h'.get? e = some u)
  (new:m5 P w (upd H x o') h' x o'):HOk P w (upd H x o') h':=fun b u q=>by
 have nown:∀ c y,H c = some (.own y) → c ≠ x:=fun c y r z=>by subst z; rw [r] at mu; exact mu
 have ntup:∀ c xs,H c = some (.tup xs) → c ≠ x:=fun c xs r z=>by subst z; rw [r] at mu; exact mu
 by_cases hb:b = x
 ·subst hb; rw [b9] at q; cases q; exact new
 ·rw [d9 hb] at q
  by_cases hbe:b = e
  ·have q':H b = some (.own x):=by
    rcases he with z | z
    ·exact absurd (hbe.trans z) hb
    ·rw [hbe]; exact z
   rw [q] at q'; cases q'
   obtain ⟨v,hv⟩:=heo
   exact ⟨v,by rw [hbe]; exact hv⟩
  ·refine (ok b u q).stay (fun c v hc r=>k c v ?_ r) (fun c r=>by rw [d9 (nown c b r)]; exact r) fun c xs r=>by rw [d9 (ntup c xs r)]; exact r
   rcases hc with rfl | hc
   ·exact hbe
   ·rintro rfl
    rcases he with z | z
    ·exact nown c b hc z
    ·rw [hc] at z; cases z; exact hb rfl
end
structure Un (fs ex:List Addr) (H H':Hp) (h h':Heap):Prop where
 keep:∀ b o,h.get? b = some o → H b = none → b ∉ fs → b ∉ ex → h'.get? b = some o
 slot:∀ b o,h.get? b = some o → H b = none → b ∈ fs → b ∉ ex → ∃ sl,h'.get? b = some { o with slots:=sl }
 free:∀ b o,h.get? b = some o → H b = none → b ∉ ex → H' b = none
 there:∀ b o,h.get? b = some o → b ∉ ex → ∃ o',h'.get? b = some o'
 tups:∀ b xs,H b = some (.tup xs) → H' b = some (.tup xs)
 frzs:∀ b o u,H b = some (.frz o u) → H' b = some (.frz o u)
 tbls:∀ b ps,H b = some (.tbl ps) → ∃ more,H' b = some (.tbl (ps ++ more))
section
variable {fs fs' ex ex':List Addr} {H H1 H2:Hp} {h h1 h2 h':Heap} {a x e:Addr} {o:HO}
theorem Un.any (u:Un fs ex H H1 h h1) {b:Addr} {ob:Obj} (q:h.get? b = some ob) (n:H b = none) (hx:b ∉ ex):∃ sl,h1.get? b = some { ob with slots:=sl }:=by
 by_cases hb:b ∈ fs
 ·exact u.slot b ob q n hb hx
 ·exact ⟨ob.slots,u.keep b ob q n hb hx⟩
theorem Un.kept (k:∀ b u,h.get? b = some u → h'.get? b = some u):Un fs ex H H h h' :=
 ⟨fun b ob q _ _ _=>k b ob q,fun b ob q _ _ _=>⟨ob.slots,k b ob q⟩,fun _ _ _ n _=>n,fun b ob q _=>⟨ob,k b ob q⟩,fun _ _ q=>q,fun _ _ _ q=>q,fun _ ps q=>⟨#[],by rw [q]; simp⟩⟩
theorem Un.refl:Un fs ex H H h h:=Un.kept fun _ _ q=>q
theorem Un.laid (k:∀ b u,h.get? b = some u → h'.get? b = some u) (hp:h.objs.size ≤ a) (hn:H a = none):Un fs ex H (upd H a o) h h' where
 keep:=fun b u q _ _ _=>k b u q
 slot:=fun b u q _ _ _=>⟨u.slots,k b u q⟩
 free:=fun b u q n _=>by rw [d9 (Nat.ne_of_lt (Nat.lt_of_lt_of_le (Heap.lt_size q) hp))]; exact n
 there:=fun b u q _=>⟨u,k b u q⟩
 tups:=fun b xs q=>by rw [d9 (g9 q hn)]; exact q
 frzs:=fun b u xs q=>by rw [d9 (g9 q hn)]; exact q
 tbls:=fun b ps q=>⟨#[],by rw [d9 (g9 q hn),q]; simp⟩
theorem Un.write (mu:Mut (H x)) (he:e = x ∨ H e = some (.own x)) (k:∀ b u,b ≠ e → h.get? b = some u → h'.get? b = some u) (heo:∃ u,h'.get? e = some u):Un fs ex H (upd H x o) h h':=by
 have hx:∀ b,H b = none → b ≠ x:=fun b n z=>by subst z; rw [n] at mu; exact mu
 have hb:∀ b,H b = none → b ≠ e:=fun b n z=>by
  subst z
  rcases he with r | r
  ·exact hx b n r
  ·rw [n] at r; cases r
 have hm:∀ b u,H b = some u → ¬ Mut (some u) → b ≠ x:=fun b u q nm z=>by subst z; rw [q] at mu; exact nm mu
 refine ⟨fun b u q n _ _=>k b u (hb b n) q,fun b u q n _ _=>⟨u.slots,k b u (hb b n) q⟩,fun b u q n _=>by rw [d9 (hx b n)]; exact n,fun b u q _=>?_,
  fun b xs q=>by rw [d9 (hm b _ q fun z=>z)]; exact q,fun b u xs q=>by rw [d9 (hm b _ q fun z=>z)]; exact q,fun b ps q=>⟨#[],by rw [d9 (hm b _ q fun z=>z),q]; simp⟩⟩
 by_cases hbe:b = e
 ·subst hbe; exact heo
 ·exact ⟨u,k b u hbe q⟩
end
def trk (h:Heap) (H:Hp):List Addr:=(List.range h.objs.size).filter fun a=>(H a).isSome
def am2 (h:Heap) (H:Hp):Heap:=PySem.W.hideAll h (trk h H)
theorem aJ0 (h:Heap) (H:Hp):(am2 h H).objs.size = h.objs.size:=PySem.W.hideAll_size _ _
theorem aL6 {h:Heap} {H:Hp} {b:Addr} {o:Obj} (e:h.get? b = some o) (n:H b = none):(am2 h H).get? b = some o :=
 PySem.W.hideAll_get _ e fun hm=>by
  have q:(H b).isSome = true:=(List.mem_filter.mp hm).2
  rw [n] at q; simp at q
theorem aT4 {h:Heap} {H:Hp} {b:Addr} {o:Obj} (e:(am2 h H).get? b = some o):h.get? b = some o ∧ H b = none:=by
 have e':h.get? b = some o:=PySem.W.of_hideAll (trk h H) e
 refine ⟨e',?_⟩
 cases q:H b with
 | none=>rfl
 | some x =>
  have hm:b ∈ trk h H:=List.mem_filter.mpr ⟨List.mem_range.mpr (Heap.lt_size e'),by simp [q]⟩
  have z:(am2 h H).get? b = none:=PySem.W.hideAll_none (trk h H) hm
  rw [z] at e; cases e
end L2
namespace L2
open PySem PySem.Spec PyProof.Rows
structure Mod (K:PySem.W.Frag) (mg:Str → Option Value) (base:Heap):Prop where
 kin:K.In base
 glob:base.Ns mainGlobals mg
 blt:∃ mb,base.Ns builtinsNs mb ∧ ∀ x:Str,x ≠ "__name__" → mb x = bootBuiltins x
 nolimit:base.NoLimit
structure Cx where
 prog:Program
 w:World
 K:PySem.W.Frag
 mg:Str → Option Value
 base:Heap
 A:Around
 N:List Str
 s₀:Shared
 H₀:Hp
 env:Env
 outer:List Env
 stack:List Env
 ex:List Addr
 fn:Str → Bool
 calm:Bool
 pn:List (Addr × Obj)
 xe:Value → Shared → Prop
def frs (l:List Env):List Addr:=l.filterMap (·.frame)
abbrev Cx.fs (X:Cx):List Addr:=frs X.outer
def Vis (sc:Scope) (x:Str):Prop:=sc.names.lookup x = some .local ∨ sc.names.lookup x = some .cell ∨ sc.names.lookup x = some .free
def Loc (sc:Scope) (x:Str):Prop:=sc.names.lookup x = some .local ∨ sc.names.lookup x = some .cell
def at7 (env:Env) (h:Heap) (m:Str → Option Value) (x:Str) (u:Value):Prop :=
 (env.kindOf x = some .local ∧ m x = some u) ∨ ((env.kindOf x = some .cell ∨ env.kindOf x = some .free) ∧ ∃ c,env.cells.lookup x = some c ∧ h.IsCell c (some u))
structure Cx.Ok (X:Cx):Prop where
 mod:Mod X.K X.mg X.base
 kind:X.env.scope.kind = .function
 glob:X.env.globals = mainGlobals
 blt:X.env.builtins = builtinsNs
 above:X.s₀.heap.objs.size ≤ X.env.locals
 inj:∀ x y c,X.env.cells.lookup x = some c → X.env.cells.lookup y = some c → x = y
 has:∀ x,(X.env.kindOf x = some .cell ∨ X.env.kindOf x = some .free) → ∃ c,X.env.cells.lookup x = some c
 cab:∀ x c,X.fn x = true → X.env.cells.lookup x = some c → X.s₀.heap.objs.size ≤ c
 hd:X.calm = true → X.A.handled = none
 frames:X.A.frames = some X.stack
 stk:X.stack = X.outer ∨ (X.stack = X.env :: X.outer ∧ X.env.frame = some X.env.locals)
 exf:∀ b ∈ X.ex,b ≠ X.env.locals ∧ ∀ x c,X.env.cells.lookup x = some c → c ≠ b
 bs:∀ b o,X.base.get? b = some o → X.s₀.heap.get? b = some o ∧ X.H₀ b = none
 bsz:X.base.objs.size ≤ X.s₀.heap.objs.size
 noex:∀ b o,X.base.get? b = some o → b ∉ X.ex
 exfs:∀ b ∈ X.ex,b ∉ X.fs
 funs:X.s₀.heap.FunFrames X.base X.outer
 frf:∀ b ∈ X.fs,X.H₀ b = none
structure Inv (X:Cx) (pins:List (Addr × Obj)) (σ:List (Option V)) (H:Hp) (s:Shared):Prop where
 ok:X.Ok
 os:s.os = X.s₀.os
 bare:AllBare s.gens
 base:Un X.fs X.ex X.H₀ H X.s₀.heap s.heap
 loc:∃ m,s.heap.Ns X.env.locals m ∧ ∀ (i:Nat) (x:Str) (v:V),X.N[i]? = some x → σ[i]? = some (some v) → Vis X.env.scope x → ∃ u,n5 v u ∧ at7 X.env s.heap m x u
 cell:∀ x c,X.env.cells.lookup x = some c → ∃ v,s.heap.IsCell c v
 free:H X.env.locals = none
 freeC:∀ x c,X.env.cells.lookup x = some c → H c = none
 pin:∀ p ∈ X.pn ++ pins,s.heap.get? p.1 = some p.2 ∧ H p.1 = none ∧ p.1 ≠ X.env.locals ∧ p.1 ∉ X.fs ∧ ∀ v,p.2.data ≠ .cell v
 hok:HOk X.prog X.w H s.heap
 len:σ.length = X.N.length
section
variable {X:Cx} {pins:List (Addr × Obj)} {σ:List (Option V)} {H H':Hp} {s:Shared} {h':Heap}
theorem Cx.Ok.nofr (ok:X.Ok) {b:Addr} {o:Obj} (e:X.base.get? b = some o):b ∉ X.fs:=fun hb=>by
 have:=(ok.funs.mem hb).1
 rw [e] at this; cases this
theorem Inv.bs (I:Inv X pins σ H s):∀ b o,X.base.get? b = some o → s.heap.get? b = some o ∧ H b = none:=fun b o e =>
 ⟨I.base.keep b o (I.ok.bs b o e).1 (I.ok.bs b o e).2 (I.ok.nofr e) (I.ok.noex b o e),I.base.free b o (I.ok.bs b o e).1 (I.ok.bs b o e).2 (I.ok.noex b o e)⟩
theorem Inv.bk (I:Inv X pins σ H s):∀ b o,X.base.get? b = some o → s.heap.get? b = some o:=fun b o e=>(I.bs b o e).1
theorem Inv.mod (I:Inv X pins σ H s):Mod X.K X.mg X.base:=I.ok.mod
theorem Inv.kIn (I:Inv X pins σ H s):X.K.In s.heap:=I.ok.mod.kin.keeps I.bk
theorem Inv.lt (I:Inv X pins σ H s):X.env.locals < s.heap.objs.size:=let ⟨_,hn,_⟩:=I.loc; hn.lt
theorem Inv.sz (I:Inv X pins σ H s):X.s₀.heap.objs.size ≤ s.heap.objs.size:=Nat.le_trans I.ok.above (Nat.le_of_lt I.lt)
theorem Inv.nofs (I:Inv X pins σ H s) {a:Addr} (h:s.heap.objs.size ≤ a):a ∉ X.fs:=fun hb=>by
 obtain ⟨_,o,ho,_⟩:=I.ok.funs.mem hb
 exact absurd (Nat.lt_of_lt_of_le (Heap.lt_size ho) (Nat.le_trans I.sz h)) (Nat.lt_irrefl _)
theorem Inv.cne (I:Inv X pins σ H s):∀ x c,X.env.cells.lookup x = some c → c ≠ X.env.locals:=fun x c e z=>by
 obtain ⟨v,o,ho,hd⟩:=I.cell x c e
 obtain ⟨m,⟨o',es,ep,ho',hd',_⟩,_⟩:=I.loc
 rw [z,ho'] at ho; cases ho; rw [hd'] at hd; cases hd
theorem Inv.funs (I:Inv X pins σ H s):s.heap.FunFrames X.base X.outer:=by
 have all:∀ (l:List Env),(∀ b ∈ frs l,b ∈ X.fs) → X.s₀.heap.FunFrames X.base l → s.heap.FunFrames X.base l:=by
  intro l
  induction l with
  | nil=>intro _ _; trivial
  | cons env r ih =>
   intro hs hl
   obtain ⟨hk,⟨L,o,hf,hn,ho,hd⟩,hr⟩:=hl
   have hL:L ∈ X.fs:=hs L (by unfold frs; rw [List.filterMap_cons,hf]; exact List.mem_cons_self)
   obtain ⟨sl,e⟩:=I.base.slot L o ho (I.ok.frf L hL) hL fun z=>I.ok.exfs L z hL
   exact ⟨hk,⟨L,_,hf,hn,e,hd⟩,ih (fun b hb=>hs b (by unfold frs; rw [List.filterMap_cons,hf]; exact List.mem_cons_of_mem _ hb)) hr⟩
 exact all X.outer (fun _ hb=>hb) I.ok.funs
theorem Inv.stack (I:Inv X pins σ H s):s.heap.FunFrames X.base X.stack:=by
 rcases I.ok.stk with e | ⟨e,hf⟩
 ·rw [e]; exact I.funs
 ·rw [e]
  obtain ⟨m,hn,_⟩:=I.loc
  refine .cons (by rw [I.ok.kind]; decide) hf hn ?_ I.funs
  exact Heap.get?_none_of_le (Nat.le_trans I.ok.bsz I.ok.above)
theorem Inv.stkSub (I:Inv X pins σ H s):∀ b ∈ frs X.stack,b ∈ X.env.locals :: X.fs:=fun b hb=>by
 rcases I.ok.stk with e | ⟨e,hf⟩
 ·rw [e] at hb; exact List.mem_cons_of_mem _ hb
 ·rw [e] at hb
  unfold frs at hb
  rw [List.filterMap_cons,hf] at hb
  exact hb
theorem Inv.stkFree (I:Inv X pins σ H s):∀ b ∈ frs X.stack,H b = none:=fun b hb=>by
 rcases List.mem_cons.mp (I.stkSub b hb) with e | hb
 ·rw [e]; exact I.free
 ·obtain ⟨_,o,ho,_⟩:=I.ok.funs.mem hb
  exact I.base.free b o ho (I.ok.frf b hb) fun z=>I.ok.exfs b z hb
theorem Inv.step {g':Array GenState} {t':Nat} {d':Drawn} {ch:List Addr} (I:Inv X pins σ H s)
  (hch:∀ b ∈ ch,(b ∈ X.ex ∨ X.s₀.heap.objs.size ≤ b) ∧ b ≠ X.env.locals ∧ (∀ x c,X.env.cells.lookup x = some c → c ≠ b) ∧ ∀ p ∈ X.pn ++ pins,p.1 ≠ b)
  (keep:∀ b o,b ≠ X.env.locals → b ∉ X.fs → b ∉ ch → s.heap.get? b = some o → H b = none → h'.get? b = some o)
  (slot:∀ b o,b ≠ X.env.locals → b ∈ X.fs → b ∉ ch → s.heap.get? b = some o → H b = none → ∃ sl,h'.get? b = some { o with slots:=sl }) (free:∀ b o,b ∉ ch → s.heap.get? b = some o → H b = none → H' b = none)
  (there:∀ b o,b ∉ ch → s.heap.get? b = some o → ∃ o',h'.get? b = some o')
  (tups:∀ b xs,H b = some (.tup xs) → H' b = some (.tup xs)) (frzs:∀ b o u,H b = some (.frz o u) → H' b = some (.frz o u)) (tbls:∀ b ps,H b = some (.tbl ps) → ∃ more,H' b = some (.tbl (ps ++ more)))
  (ns:∀ m,s.heap.Ns X.env.locals m → h'.Ns X.env.locals m) (hok:HOk X.prog X.w H' h') (hg:AllBare g') :
  Inv X pins σ H' { s with heap:=h',gens:=g',drawn:=d',toks:=t' }:=by
 have neL:∀ b o,X.s₀.heap.get? b = some o → b ≠ X.env.locals:=fun b o e=>Nat.ne_of_lt (Nat.lt_of_lt_of_le (Heap.lt_size e) I.ok.above)
 have neC:∀ b o,X.s₀.heap.get? b = some o → b ∉ X.ex → b ∉ ch:=fun b o e hx hb=>by
  rcases (hch b hb).1 with z | z
  ·exact hx z
  ·exact absurd (Nat.lt_of_lt_of_le (Heap.lt_size e) z) (Nat.lt_irrefl _)
 have cellK:∀ x c,X.env.cells.lookup x = some c → ∀ v,s.heap.IsCell c v → h'.IsCell c v:=fun x c e v ⟨o,ho,hd⟩=>by
  have nch:c ∉ ch:=fun z=>(hch c z).2.2.1 x c e rfl
  by_cases hc:c ∈ X.fs
  ·obtain ⟨sl,q⟩:=slot c o (I.cne x c e) hc nch ho (I.freeC x c e)
   exact ⟨_,q,hd⟩
  ·exact ⟨o,keep c o (I.cne x c e) hc nch ho (I.freeC x c e),hd⟩
 refine ⟨I.ok,I.os,hg,⟨fun b o e n hb hx=>?_,fun b o e n hb hx=>?_,fun b o e n hx=>?_,fun b o e hx=>?_,fun b xs e=>tups b xs (I.base.tups b xs e),fun b o xs e=>frzs b o xs (I.base.frzs b o xs e),fun b ps e=>?_⟩,?_,fun x c e=>?_,?_,fun x c e=>?_,fun p hp=>?_,hok,I.len⟩
 ·exact keep b o (neL b o e) hb (neC b o e hx) (I.base.keep b o e n hb hx) (I.base.free b o e n hx)
 ·obtain ⟨sl,e1⟩:=I.base.slot b o e n hb hx
  obtain ⟨sl',e2⟩:=slot b _ (neL b o e) hb (neC b o e hx) e1 (I.base.free b o e n hx)
  exact ⟨sl',e2⟩
 ·obtain ⟨o',e1⟩:=I.base.there b o e hx
  exact free b o' (neC b o e hx) e1 (I.base.free b o e n hx)
 ·obtain ⟨o',e1⟩:=I.base.there b o e hx
  exact there b o' (neC b o e hx) e1
 ·obtain ⟨m1,e1⟩:=I.base.tbls b ps e
  obtain ⟨m2,e2⟩:=tbls b _ e1
  exact ⟨m1 ++ m2,by rw [e2,Array.append_assoc]⟩
 ·obtain ⟨m,hn,hl⟩:=I.loc
  refine ⟨m,ns m hn,fun i x v e1 e2 e3=>?_⟩
  obtain ⟨u,r,l⟩:=hl i x v e1 e2 e3
  refine ⟨u,r,?_⟩
  rcases l with l | ⟨k,c,e,z⟩
  ·exact .inl l
  ·exact .inr ⟨k,c,e,cellK x c e _ z⟩
 ·obtain ⟨v,z⟩:=I.cell x c e
  exact ⟨v,cellK x c e v z⟩
 ·obtain ⟨m,⟨o,_,_,ho,_⟩,_⟩:=I.loc
  exact free _ o (fun z=>(hch _ z).2.1 rfl) ho I.free
 ·obtain ⟨v,o,ho,hd⟩:=I.cell x c e
  exact free c o (fun z=>(hch c z).2.2.1 x c e rfl) ho (I.freeC x c e)
 ·obtain ⟨e,n,ne,nf,d⟩:=I.pin p hp
  have nch:p.1 ∉ ch:=fun z=>(hch p.1 z).2.2.2 p hp rfl
  exact ⟨keep p.1 p.2 ne nf nch e n,free p.1 p.2 nch e n,ne,nf,d⟩
theorem Inv.un {t':Nat} (I:Inv X pins σ H s) (u:Un X.fs [] H H' s.heap h') (hok:HOk X.prog X.w H' h'):Inv X pins σ H' { s with heap:=h',toks:=t' }:=by
 obtain ⟨m,⟨o,es,ep,ho,r⟩,_⟩:=id I.loc
 obtain ⟨sl,hL⟩:=u.any ho I.free (by simp)
 exact I.step (g':=s.gens) (d':=s.drawn) (ch:=[]) (fun _ z=>nomatch z) (fun b o _ hb _ e n=>u.keep b o e n hb (by simp)) (fun b o _ hb _ e n=>u.slot b o e n hb (by simp)) (fun b o _ e n=>u.free b o e n (by simp)) (fun b o _ e=>u.there b o e (by simp)) u.tups u.frzs u.tbls (fun m' hm=>by
  obtain ⟨o',es',ep',ho',r'⟩:=hm
  rw [ho] at ho'; cases ho'
  exact ⟨_,es',ep',hL,r'⟩) hok I.bare
theorem Inv.call {g':Array GenState} {t':Nat} {d':Drawn} {ch:List Addr} (I:Inv X pins σ H s) (u:Un (frs X.stack) ch H H' s.heap h') (hok:HOk X.prog X.w H' h') (hg:AllBare g')
  (hch:∀ b ∈ ch,(b ∈ X.ex ∨ X.s₀.heap.objs.size ≤ b) ∧ b ≠ X.env.locals ∧ (∀ x c,X.env.cells.lookup x = some c → c ≠ b) ∧ ∀ p ∈ X.pn ++ pins,p.1 ≠ b) :
  Inv X pins σ H' { s with heap:=h',gens:=g',drawn:=d',toks:=t' }:=by
 obtain ⟨m,⟨o,es,ep,ho,r⟩,_⟩:=id I.loc
 obtain ⟨sl,hL⟩:=u.any ho I.free fun z=>(hch _ z).2.1 rfl
 exact I.step (ch:=ch) hch (fun b o hL hb hc e n=>u.keep b o e n (fun z=>(List.mem_cons.mp (I.stkSub b z)).elim hL hb) hc) (fun b o _ _ hc e n=>u.any e n hc) (fun b o hc e n=>u.free b o e n hc) (fun b o hc e=>u.there b o e hc) u.tups u.frzs u.tbls (fun m' hm=>by
  obtain ⟨o',es',ep',ho',r'⟩:=hm
  rw [ho] at ho'; cases ho'
  exact ⟨_,es',ep',hL,r'⟩) hok hg
theorem Inv.turned {t':Nat} {it:Addr} (I:Inv X pins σ H s) (k:∀ b o,b ≠ it → s.heap.get? b = some o → h'.get? b = some o) (hn:H it = none) (hL:it ≠ X.env.locals)
  (h1:it ∈ X.ex ∨ X.s₀.heap.objs.size ≤ it) (h2:∀ x c,X.env.cells.lookup x = some c → c ≠ it) (h3:∀ p ∈ X.pn ++ pins,p.1 ≠ it):Inv X pins σ H { s with heap:=h',toks:=t' }:=by
 have nit:∀ b u,H b = some u → b ≠ it:=fun b u e z=>by rw [z,hn] at e; cases e
 refine I.step (g':=s.gens) (d':=s.drawn) (ch:=[it]) (fun b hb=>?_) (fun b o _ _ hc e _=>k b o (fun z=>hc (by simp [z])) e) (fun b o _ _ hc e _=>⟨o.slots,k b o (fun z=>hc (by simp [z])) e⟩) (fun _ _ _ _ n=>n)
  (fun b o hc e=>⟨o,k b o (fun z=>hc (by simp [z])) e⟩) (fun _ _ e=>e) (fun _ _ _ e=>e) (fun b ps e=>⟨#[],by rw [e]; simp⟩) (fun m hm=>?_) (fun b u e=>?_) I.bare
 ·have e:b = it:=by simpa using hb
  subst e
  exact ⟨h1,hL,h2,h3⟩
 ·obtain ⟨o,es,ep,ho,r⟩:=hm
  exact ⟨o,es,ep,k _ o (Ne.symm hL) ho,r⟩
 ·refine (I.hok b u e).stay (fun c v hc q=>k c v ?_ q) (fun _ q=>q) fun _ _ q=>q
  rcases hc with z | z
  ·rw [z]; exact nit b u e
  ·exact nit c _ z
theorem Inv.tok (I:Inv X pins σ H s) (t:Nat):Inv X pins σ H { s with toks:=t }:=I.un (h':=s.heap) (t':=t) Un.refl I.hok
theorem Inv.kept {t':Nat} (I:Inv X pins σ H s) (k:∀ b u,s.heap.get? b = some u → h'.get? b = some u):Inv X pins σ H { s with heap:=h',toks:=t' }:=I.un (Un.kept k) (I.hok.kept k)
theorem Inv.laid {a:Addr} {o:HO} {t':Nat} (I:Inv X pins σ H s) (k:∀ b u,s.heap.get? b = some u → h'.get? b = some u) (hp:s.heap.objs.size ≤ a) (new:m5 X.prog X.w (upd H a o) h' a o) :
  Inv X pins σ (upd H a o) { s with heap:=h',toks:=t' }:=I.un (Un.laid k hp (I.hok.fresh hp)) (I.hok.laid k hp new)
theorem Inv.write {x e:Addr} {o:HO} {t':Nat} (I:Inv X pins σ H s) (mu:Mut (H x)) (he:e = x ∨ H e = some (.own x)) (k:∀ b u,b ≠ e → s.heap.get? b = some u → h'.get? b = some u) (heo:∃ u,h'.get? e = some u)
  (new:m5 X.prog X.w (upd H x o) h' x o):Inv X pins σ (upd H x o) { s with heap:=h',toks:=t' }:=I.un (Un.write mu he k heo) (I.hok.write mu he k heo new)
theorem Inv.pins_of {pins':List (Addr × Obj)} (I:Inv X pins σ H s) (h:∀ p ∈ pins',s.heap.get? p.1 = some p.2 ∧ H p.1 = none ∧ p.1 ≠ X.env.locals ∧ p.1 ∉ X.fs ∧ ∀ v,p.2.data ≠ .cell v):Inv X pins' σ H s :=
 ⟨I.ok,I.os,I.bare,I.base,I.loc,I.cell,I.free,I.freeC,fun p hp=>(List.mem_append.mp hp).elim (fun z=>I.pin p (List.mem_append_left _ z)) (h p),I.hok,I.len⟩
theorem ab4 {N:List Str} (hN:N.Nodup) {i j:Nat} {x:Str} (a:N[i]? = some x) (b:N[j]? = some x):i = j:=by
 obtain ⟨h1,e1⟩:=List.getElem?_eq_some_iff.mp a
 obtain ⟨h2,e2⟩:=List.getElem?_eq_some_iff.mp b
 exact (List.getElem_inj hN).mp (e1.trans e2.symm)
theorem aI9 {M:Model} {A:Around} {E:Value → Shared → Prop} {i:Nat} {x:Str} {v:V} {u:Value} {Q:Unit → Shared → Prop} (I:Inv X pins σ H s) (hN:X.N.Nodup) (hi:X.N[i]? = some x) (hx:Loc X.env.scope x) (r:n5 v u)
  (h:∀ s',Inv X pins (σ.set i (some v)) H s' → (∃ a,Heap.SameBut a s.heap s'.heap ∧ (a = X.env.locals ∨ X.env.cells.lookup x = some a)) → Q () s') (hf:X.fn x = true ∨ X.env.scope.names.lookup x = some .local:=by first | exact .inl rfl | exact .inr rfl | assumption):wpAny M A (storeName X.env x u) Q E s:=by
 obtain ⟨m,hn,hl⟩:=id I.loc
 have hcls:(X.env.scope.kind == .class || (X.env.scope.kind == .module && X.env.locals != X.env.globals)) = false:=by rw [I.ok.kind]; rfl
 have hiσ:i < σ.length:=by rw [I.len]; exact (List.getElem?_eq_some_iff.mp hi).1
 have cne:=I.cne
 have tracked:∀ {a:Addr} {h':Heap},(∃ o,s.heap.get? a = some o ∧ H a = none) → Heap.SameBut a s.heap h' → HOk X.prog X.w H h':=fun {a h'} ha hs b ob e=>by
  obtain ⟨_,_,hfree⟩:=ha
  refine (I.hok b ob e).stay (fun c w' hc q=>(hs.2 c ?_).trans q) (fun _ q=>q) fun _ _ q=>q
  rintro rfl
  rcases hc with rfl | hc
  ·rw [hfree] at e; cases e
  ·rw [hfree] at hc; cases hc
 rcases hx with hk | hk
 ·refine wpAny_storeName_local hk hn (fun h' hn' hs=>?_) hcls
  obtain ⟨oL,_,_,hoL,_⟩:=id hn
  refine h _ ⟨I.ok,I.os,I.bare,⟨fun b o e n hb hx=>?_,fun b o e n hb hx=>?_,I.base.free,fun b o e hx=>?_,I.base.tups,I.base.frzs,I.base.tbls⟩,⟨_,hn',fun j y v' e1 e2 e3=>?_⟩,fun y c e=>?_,I.free,I.freeC,fun p hp=>?_,tracked ⟨oL,hoL,I.free⟩ hs,by simpa using I.len⟩ ⟨_,hs,.inl rfl⟩
  ·exact (hs.2 b (Nat.ne_of_lt (Nat.lt_of_lt_of_le (Heap.lt_size e) I.ok.above))).trans (I.base.keep b o e n hb hx)
  ·obtain ⟨sl,e1⟩:=I.base.slot b o e n hb hx
   exact ⟨sl,(hs.2 b (Nat.ne_of_lt (Nat.lt_of_lt_of_le (Heap.lt_size e) I.ok.above))).trans e1⟩
  ·obtain ⟨o',e1⟩:=I.base.there b o e hx
   exact ⟨o',(hs.2 b (Nat.ne_of_lt (Nat.lt_of_lt_of_le (Heap.lt_size e) I.ok.above))).trans e1⟩
  ·by_cases hj:j = i
   ·subst hj
    rw [hi] at e1; cases e1
    rw [List.getElem?_set_self hiσ] at e2
    cases e2
    exact ⟨u,r,.inl ⟨hk,by simp⟩⟩
   ·rw [List.getElem?_set_ne (Ne.symm hj)] at e2
    obtain ⟨u',r',q⟩:=hl j y v' e1 e2 e3
    refine ⟨u',r',?_⟩
    rcases q with ⟨k,e⟩ | ⟨k,c,e,z⟩
    ·refine .inl ⟨k,?_⟩
     have:y ≠ x:=fun e=>hj (ab4 hN e1 (e ▸ hi))
     simp [this,e]
    ·exact .inr ⟨k,c,e,z.sameBut hs (cne y c e)⟩
  ·obtain ⟨w',z⟩:=I.cell y c e
   exact ⟨w',z.sameBut hs (cne y c e)⟩
  ·obtain ⟨e,n,ne,nf,d⟩:=I.pin p hp
   exact ⟨(hs.2 p.1 ne).trans e,n,ne,nf,d⟩
 ·have hfn:X.fn x = true:=by
   rcases hf with z | z
   ·exact z
   ·rw [z] at hk; cases hk
  obtain ⟨c,hc⟩:=I.ok.has x (.inl hk)
  obtain ⟨w',z⟩:=I.cell x c hc
  refine wpAny_storeName_cell I.ok.kind hk hc z (fun h' hc' hs=>?_)
  obtain ⟨oc,hoc,hocd⟩:=id z
  refine h { s with heap:=h' } ⟨I.ok,I.os,I.bare,⟨fun b o e n hb hx=>?_,fun b o e n hb hx=>?_,I.base.free,fun b o e hx=>?_,I.base.tups,I.base.frzs,I.base.tbls⟩,⟨m,hn.sameBut hs (Ne.symm (cne x c hc)),fun j y v' e1 e2 e3=>?_⟩,fun y c' e=>?_,I.free,I.freeC,fun p hp=>?_,tracked ⟨oc,hoc,I.freeC x c hc⟩ hs,by simpa using I.len⟩ ⟨c,hs,.inr hc⟩
  ·exact (hs.2 b (Nat.ne_of_lt (Nat.lt_of_lt_of_le (Heap.lt_size e) (I.ok.cab x c hfn hc)))).trans (I.base.keep b o e n hb hx)
  ·obtain ⟨sl,e1⟩:=I.base.slot b o e n hb hx
   exact ⟨sl,(hs.2 b (Nat.ne_of_lt (Nat.lt_of_lt_of_le (Heap.lt_size e) (I.ok.cab x c hfn hc)))).trans e1⟩
  ·obtain ⟨o',e1⟩:=I.base.there b o e hx
   exact ⟨o',(hs.2 b (Nat.ne_of_lt (Nat.lt_of_lt_of_le (Heap.lt_size e) (I.ok.cab x c hfn hc)))).trans e1⟩
  ·by_cases hj:j = i
   ·subst hj
    rw [hi] at e1; cases e1
    rw [List.getElem?_set_self hiσ] at e2
    cases e2
    exact ⟨u,r,.inr ⟨.inl hk,c,hc,hc'⟩⟩
   ·rw [List.getElem?_set_ne (Ne.symm hj)] at e2
    obtain ⟨u',r',q⟩:=hl j y v' e1 e2 e3
    refine ⟨u',r',?_⟩
    rcases q with q | ⟨k,c',e,z'⟩
    ·exact .inl q
    ·refine .inr ⟨k,c',e,z'.sameBut hs ?_⟩
     rintro rfl
     exact hj (ab4 hN e1 (I.ok.inj _ _ _ e hc ▸ hi))
  ·by_cases hcc:c' = c
   ·subst hcc; exact ⟨_,hc'⟩
   ·obtain ⟨w2,z2⟩:=I.cell y c' e
    exact ⟨w2,z2.sameBut hs hcc⟩
  ·obtain ⟨e,n,ne,nf,d⟩:=I.pin p hp
   refine ⟨(hs.2 p.1 ?_).trans e,n,ne,nf,d⟩
   intro q
   rw [q,hoc] at e
   have q':oc = p.2:=Option.some.inj e
   exact d w' (by rw [← q']; exact hocd)
theorem U7 {M:Model} {A:Around} {E:Value → Shared → Prop} {i:Nat} {x:Str} {v:V} {u:Value} {Q:Unit → Shared → Prop} (I:Inv X pins σ H s) (hN:X.N.Nodup) (hi:X.N[i]? = some x) (hx:Loc X.env.scope x) (r:n5 v u)
  (h:∀ s',Inv X pins (σ.set i (some v)) H s' → Q () s') (hf:X.fn x = true ∨ X.env.scope.names.lookup x = some .local:=by first | exact .inl rfl | exact .inr rfl | assumption):wpAny M A (storeName X.env x u) Q E s :=
 aI9 I hN hi hx r (fun s' I' _=>h s' I') hf
theorem Inv.call' {s':Shared} {ch:List Addr} (I:Inv X pins σ H s) (ho:s'.os = s.os) (u:Un (frs X.stack) ch H H' s.heap s'.heap) (hok:HOk X.prog X.w H' s'.heap) (hg:AllBare s'.gens)
  (hch:∀ b ∈ ch,(b ∈ X.ex ∨ X.s₀.heap.objs.size ≤ b) ∧ b ≠ X.env.locals ∧ (∀ x c,X.env.cells.lookup x = some c → c ≠ b) ∧ ∀ p ∈ X.pn ++ pins,p.1 ≠ b):Inv X pins σ H' s':=by
 obtain ⟨h',g',d',t',o'⟩:=s'
 have e:o' = s.os:=ho
 subst e
 exact I.call (g':=g') (t':=t') (d':=d') u hok hg hch
end
abbrev XK:=Value → Option Addr → Hp → Prop
abbrev St:=List (Option V)
abbrev VK:=V → Hp → Prop
abbrev TE:=St → Hp → VK → Prop
abbrev TT:=St → Hp → (Bool → Hp → Prop) → Prop
abbrev TA:=St → Hp → (List V → Hp → Prop) → Prop
structure Ends where
 nx:St → Hp → Prop
 rt:VK
 bk:St → Hp → Prop:=fun _ _=>False
 ct:St → Hp → Prop:=fun _ _=>False
abbrev TS:=Ends → St → Hp → Prop
def EP (X:Cx) (pins:List (Addr × Obj)) (σ:St) (Q:VK) (u:Value) (s':Shared):Prop:=∃ v H',Inv X pins σ H' s' ∧ n5 v u ∧ Q v H'
def TP (X:Cx) (pins:List (Addr × Obj)) (σ:St) (Q:Bool → Hp → Prop) (b:Bool) (s':Shared):Prop:=∃ H',Inv X pins σ H' s' ∧ Q b H'
def AP (X:Cx) (pins:List (Addr × Obj)) (σ:St) (Q:List V → Hp → Prop) (us:List Value) (s':Shared):Prop:=∃ vs H',Inv X pins σ H' s' ∧ j9 vs us ∧ Q vs H'
def SP (X:Cx) (pins:List (Addr × Obj)) (D:Ends) (f:Flow) (s':Shared):Prop :=
 match f with
 | .next=>∃ σ' H',Inv X pins σ' H' s' ∧ D.nx σ' H'
 | .brk=>∃ σ' H',Inv X pins σ' H' s' ∧ D.bk σ' H'
 | .cont=>∃ σ' H',Inv X pins σ' H' s' ∧ D.ct σ' H'
 | .ret u=>∃ v σ' H',Inv X pins σ' H' s' ∧ n5 v u ∧ D.rt v H'
def PE (X:Cx) (e:Expr) (t:TE):Prop :=
 ∀ (pins:List (Addr × Obj)) (s:Shared) (σ:St) (H:Hp) (Q:VK),Inv X pins σ H s → t σ H Q → wpAny (model X.prog X.w) X.A (eval e X.env) (EP X pins σ Q) X.xe s
def PT (X:Cx) (e:Expr) (t:TT):Prop :=
 ∀ (pins:List (Addr × Obj)) (s:Shared) (σ:St) (H:Hp) (Q:Bool → Hp → Prop),Inv X pins σ H s → t σ H Q → wpAny (model X.prog X.w) X.A (isTrue e X.env (eval e X.env)) (TP X pins σ Q) X.xe s
def PW (X:Cx) (e:Expr) (t:TT):Prop :=
 ∀ (whole:Sem Value) (pins:List (Addr × Obj)) (s:Shared) (σ:St) (H:Hp) (Q:Bool → Hp → Prop),Inv X pins σ H s → t σ H Q → wpAny (model X.prog X.w) X.A (isTrue e X.env whole) (TP X pins σ Q) X.xe s
theorem PW.pt {X:Cx} {e:Expr} {t:TT} (h:PW X e t):PT X e t:=h _
def PA (X:Cx) (es:List Expr) (t:TA):Prop :=
 ∀ (pos:Pos) (pins:List (Addr × Obj)) (s:Shared) (σ:St) (H:Hp) (Q:List V → Hp → Prop),Inv X pins σ H s → t σ H Q → wpAny (model X.prog X.w) X.A (spliced (backTo pos (starEach es X.env))) (AP X pins σ Q) X.xe s
def PS (X:Cx) (st:Stmt) (t:TS):Prop :=
 ∀ (pins:List (Addr × Obj)) (s:Shared) (σ:St) (H:Hp) (D:Ends),Inv X pins σ H s → t D σ H → wpAny (model X.prog X.w) X.A (exec st X.env) (SP X pins D) X.xe s
def PSs (X:Cx) (st:List Stmt) (t:TS):Prop :=
 ∀ (pins:List (Addr × Obj)) (s:Shared) (σ:St) (H:Hp) (D:Ends),Inv X pins σ H s → t D σ H → wpAny (model X.prog X.w) X.A (execs st X.env) (SP X pins D) X.xe s
theorem thn {α:Type} {t:Sem α} {Q Q':α → Shared → Prop} {M:Model} {A:Around} {E:Value → Shared → Prop} {s:Shared} (h:wpAny M A t Q E s) (hQ:∀ a s,Q a s → Q' a s):wpAny M A t Q' E s:=wpAny_mono h hQ fun _ _ x=>x
end L2
namespace L2
open PySem PySem.Spec PyProof.Rows
section
variable {X:Cx}
theorem bin {a b:Expr} {ta tb:TE} (ha:PE X a ta) (hb:PE X b tb) {pins:List (Addr × Obj)} {s:Shared} {σ:St} {H:Hp} {R:V → V → Hp → Prop} (I:Inv X pins σ H s) (h:ta σ H fun x H1=>tb σ H1 fun y H2=>R x y H2)
  {α:Type} {Q:α → Shared → Prop} {f:Value → Value → Sem α}
  (hf:∀ v u s2 x y H2,Inv X pins σ H2 s2 → n5 x v → n5 y u → R x y H2 → wpAny (model X.prog X.w) X.A (f v u) Q X.xe s2) :
  wpAny (model X.prog X.w) X.A (eval a X.env) (fun v s₁=>wpAny (model X.prog X.w) X.A (eval b X.env) (fun u s₂=>wpAny (model X.prog X.w) X.A (f v u) Q X.xe s₂) X.xe s₁) X.xe s:=by
 refine thn (ha pins s σ H _ I h) fun v s1 ⟨x,H1,I1,r1,q1⟩=>?_
 refine thn (hb pins s1 σ H1 _ I1 q1) fun u s2 ⟨y,H2,I2,r2,q2⟩=>?_
 exact hf v u s2 x y H2 I2 r1 r2 q2
def a84 (i:Nat):TE:=fun σ H Q=>∃ v,σ[i]? = some (some v) ∧ Q v H
def tC (v:V):TE:=fun _ H Q=>Q v H
theorem a38 {i:Nat} {x:Str} {pos:Pos} (hN:X.N[i]? = some x) (hv:Vis X.env.scope x) (hd:(x == ("__debug__":Str)) = false:=by decide) (hcd:(x == ("__classdict__":Str)) = false:=by decide):PE X (.Name x pos) (a84 i):=by
 intro pins s σ H Q I h
 obtain ⟨v,e,h⟩:=h
 obtain ⟨m,hn,hl⟩:=I.loc
 obtain ⟨u,r,l⟩:=hl i x v hN e hv
 have fin:EP X pins σ Q u s:=⟨v,H,I,r,h⟩
 rcases l with ⟨hk,hm⟩ | ⟨hk,c,hc,hcell⟩
 ·exact wpAny_Name (wpAny_loadName_local I.ok.kind hk hn hm fin) hd
 ·rcases hk with hk | hk
  ·exact wpAny_Name (wpAny_loadName_cell I.ok.kind hk hc hcell fin) hd
  ·exact wpAny_Name (wpAny_loadName_free I.ok.kind hk hc hcell fin hcd) hd
theorem d4 {i j pos}:PE X (.Constant (.int i) j pos) (tC (.int i)):=fun _ _ _ H _ I h=>wpAny_Constant_int ⟨.int i,H,I.tok _,⟨_,rfl⟩,h⟩
theorem J6 {b j pos}:PE X (.Constant (.bool b) j pos) (tC (.bl b)):=fun _ _ _ H _ I h=>Constant_bool ⟨.bl b,H,I,rfl,h⟩
theorem L5 {j pos}:PE X (.Constant .none j pos) (tC .non):=fun _ _ _ H _ I h=>Constant_none ⟨.non,H,I,rfl,h⟩
theorem W2 {x j pos}:PE X (.Constant (.str x) j pos) (tC (.str x)):=fun _ _ _ H _ I h=>Calls.Constant_str ⟨.str x,H,I.tok _,⟨_,rfl⟩,h⟩
def Gl (X:Cx) (x:Str):Prop:=X.env.kindOf x = some .globalImplicit
theorem U0 {E:Value → Shared → Prop} {pins:List (Addr × Obj)} {s:Shared} {σ:St} {H:Hp} {x:Str} {u:Value} {pos:Pos} {Q:Value → Shared → Prop} (I:Inv X pins σ H s) (hg:Gl X x) (hm:X.mg x = some u) (h:Q u s)
  (hd:(x == ("__debug__":Str)) = false:=by decide):wpAny (model X.prog X.w) X.A (eval (.Name x pos) X.env) Q E s :=
 Calls.Name_function_global I.ok.kind hg (Calls.loadGlobal_global (by rw [I.ok.glob]; exact I.mod.glob.keeps I.bk) hm h) hd
theorem T7 {E:Value → Shared → Prop} {pins:List (Addr × Obj)} {s:Shared} {σ:St} {H:Hp} {x:Str} {u:Value} {pos:Pos} {Q:Value → Shared → Prop} (I:Inv X pins σ H s) (hg:Gl X x) (hm:X.mg x = none) (hv:bootBuiltins x = some u) (h:Q u s)
  (hn:x ≠ "__name__":=by decide) (hd:(x == ("__debug__":Str)) = false:=by decide):wpAny (model X.prog X.w) X.A (eval (.Name x pos) X.env) Q E s:=by
 obtain ⟨mb,h1,h2⟩:=I.mod.blt
 exact Calls.Name_function_global I.ok.kind hg (Calls.loadGlobal_builtin (by rw [I.ok.glob]; exact I.mod.glob.keeps I.bk) hm (by rw [I.ok.blt]; exact h1.keeps I.bk) ((h2 x hn).trans hv) h) hd
theorem aV1 {x:Str} {v:V} {u:Value} {pos:Pos} (hg:Gl X x) (hm:X.mg x = some u) (r:n5 v u) (hd:(x == ("__debug__":Str)) = false:=by decide):PE X (.Name x pos) (tC v) :=
 fun _ _ _ H _ I h=>U0 I hg hm ⟨v,H,I,r,h⟩ hd
theorem K5 {x:Str} {v:V} {u:Value} {pos:Pos} (hg:Gl X x) (hm:X.mg x = none) (hv:bootBuiltins x = some u) (r:n5 v u) (hn:x ≠ "__name__":=by decide) (hd:(x == ("__debug__":Str)) = false:=by decide):PE X (.Name x pos) (tC v) :=
 fun _ _ _ H _ I h=>T7 I hg hm hv ⟨v,H,I,r,h⟩ hn hd
variable {a b:Expr} {ta tb:TE} {pos:Pos}
def PC (X:Cx) (op:CmpOp) (a b:Expr) (t:TE):Prop :=
 ∀ (pins:List (Addr × Obj)) (s:Shared) (σ:St) (H:Hp) (Q:VK),Inv X pins σ H s → t σ H Q →
  wpAny (model X.prog X.w) X.A (eval a X.env) (fun v s₁=>wpAny (model X.prog X.w) X.A (eval b X.env) (fun u s₂=>wpAny (model X.prog X.w) X.A (compareOp op v u) (EP X pins σ Q) X.xe s₂) X.xe s₁) X.xe s
def tB (t:TE):TT:=fun σ H Q=>t σ H fun x H1=>∃ c,x = .bl c ∧ Q c H1
theorem V9 {op:CmpOp} {t:TE} (h:PC X op a b t) (h1:behindInMarks op b = false:=by first | exact nobehind _ (by decide) (by decide) | rfl):PT X (.Compare a [op] [b] pos) (tB t):=by
 intro pins s σ H Q I hw
 refine wpAny_isTrue_Compare1 (thn (h pins s σ H _ I hw) fun v s1 h1=>thn h1 fun u s2 h2=>thn h2 fun c s3 ⟨x,H1,I1,r1,q1⟩=>?_) h1
 obtain ⟨d,rfl,q⟩:=q1
 cases r1
 exact wpAny_truthy_bool ⟨H1,I1,q⟩
variable {tA tB':TT} {rest:List Expr}
def bb8 (t u:TT):TT:=fun σ H Q=>t σ H fun c H1=>if c = true then u σ H1 Q else Q false H1
def tOr (t u:TT):TT:=fun σ H Q=>t σ H fun c H1=>if c = true then Q true H1 else u σ H1 Q
def bb0 (t:TT):TT:=fun σ H Q=>t σ H fun c H1=>Q (!c) H1
theorem aE3 (ha:PT X a tA):PW X (.BoolOp .And [a] pos) tA:=by
 intro wh pins s σ H Q I h
 refine isTrue_and (thn (ha pins s σ H Q I h) fun c s1 e=>?_)
 cases c with
 | true=>exact isTrue_and_nil e
 | false=>exact e
theorem O9 (ha:PT X a tA):PW X (.BoolOp .Or [a] pos) tA:=by
 intro wh pins s σ H Q I h
 refine isTrue_or (thn (ha pins s σ H Q I h) fun c s1 e=>?_)
 cases c with
 | false=>exact isTrue_or_nil e
 | true=>exact e
theorem aL9 (ha:PT X a tA) (hb:PW X (.BoolOp .And (b :: rest) pos) tB'):PW X (.BoolOp .And (a :: b :: rest) pos) (bb8 tA tB'):=by
 intro wh pins s σ H Q I h
 refine isTrue_and (thn (ha pins s σ H _ I h) fun c s1 ⟨H1,I1,q1⟩=>?_)
 cases c with
 | true=>exact hb wh pins s1 σ H1 Q I1 q1
 | false=>exact ⟨H1,I1,q1⟩
theorem M4 (ha:PT X a tA) (hb:PW X (.BoolOp .Or (b :: rest) pos) tB'):PW X (.BoolOp .Or (a :: b :: rest) pos) (tOr tA tB'):=by
 intro wh pins s σ H Q I h
 refine isTrue_or (thn (ha pins s σ H _ I h) fun c s1 ⟨H1,I1,q1⟩=>?_)
 cases c with
 | true=>exact ⟨H1,I1,q1⟩
 | false=>exact hb wh pins s1 σ H1 Q I1 q1
theorem L7 (ha:PT X a tA):PT X (.UnaryOp .Not a pos) (bb0 tA):=by
 intro pins s σ H Q I h
 exact isTrue_not (ha pins s σ H (fun c H1=>Q (!c) H1) I h)
def a75 (ta tb:TE):TE:=fun σ H Q=>ta σ H fun x H1=>∃ c,x = .bl c ∧ if c = true then tb σ H1 Q else Q (.bl false) H1
def a64 (ta:TE):TE:=fun σ H Q=>ta σ H fun x H1=>∃ c,x = .bl c ∧ Q (.bl (!c)) H1
theorem aj7 {op} {t:TE} (h:PE X a t):PE X (.BoolOp op [a] pos) t:=fun pins s σ H Q I hw=>BoolOp_one (h pins s σ H Q I hw)
theorem am3 (ha:PE X a ta) (hb:PE X (.BoolOp .And (b :: rest) pos) tb):PE X (.BoolOp .And (a :: b :: rest) pos) (a75 ta tb):=by
 intro pins s σ H Q I h
 refine BoolOp_and (thn (ha pins s σ H _ I h) fun v s1 ⟨x,H1,I1,r1,q1⟩=>?_)
 obtain ⟨c,rfl,q1⟩:=q1
 cases r1
 refine wpAny_truthy_bool ?_
 cases c with
 | true=>exact hb pins s1 σ H1 Q I1 q1
 | false=>exact ⟨.bl false,H1,I1,rfl,q1⟩
theorem aQ9 (ha:PE X a ta):PE X (.UnaryOp .Not a pos) (a64 ta):=by
 intro pins s σ H Q I h
 refine UnaryOp_ (thn (ha pins s σ H _ I h) fun v s1 ⟨x,H1,I1,r1,q1⟩=>?_)
 obtain ⟨c,rfl,q1⟩:=q1
 cases r1
 exact not_of (wpAny_truthy_bool ⟨.bl (!c),H1,I1,rfl,q1⟩)
def tIf (t:TT) (ta tb:TE):TE:=fun σ H Q=>t σ H fun c H1=>if c = true then ta σ H1 Q else tb σ H1 Q
theorem aJ8 {c:Expr} (hc:PT X c tA) (ha:PE X a ta) (hb:PE X b tb):PE X (.IfExp c a b pos) (tIf tA ta tb):=by
 intro pins s σ H Q I h
 refine wpAny_IfExp (thn (hc pins s σ H _ I h) fun d s1 ⟨H1,I1,q1⟩=>?_)
 cases d with
 | true=>exact ha pins s1 σ H1 Q I1 q1
 | false=>exact hb pins s1 σ H1 Q I1 q1
end
end L2
namespace L2
open PySem PySem.Spec PyProof.Rows
def SqL (K:PySem.W.Frag) (H:Hp) (a:Addr) (xs:List V):Prop :=
 Rd H a (.lst xs) ∨
  ∃ (o:Obj) (its:Array Value) (n:Nat),K.lookup a = some o ∧ o.cls = .type "list" ∧ o.dict = none ∧ o.data = .seq its n ∧ its.size ≤ sizeLine ∧ j9 xs its.toList
def SqT (K:PySem.W.Frag) (H:Hp) (a:Addr) (xs:List V):Prop :=
 Rd H a (.tup xs) ∨
  ∃ (o:Obj) (its:Array Value) (n:Nat),K.lookup a = some o ∧ o.cls = .type "tuple" ∧ o.data = .seq its n ∧ its.size ≤ sizeLine ∧ j9 xs its.toList
def a_6:Value → Option V
 | .none=>some .non
 | .bool b=>some (.bl b)
 | .int i _=>some (.int i)
 | .str x _=>some (.str x)
 | .bytes b _=>some (.byt b)
 | .float b _=>some (.flt b)
 | .ref a=>some (.ref a)
 | .type n=>some (.ty n)
 | _=>none
theorem n5.abs {x:V} {u:Value} (r:n5 x u):a_6 u = some x:=by
 cases x with
 | non=>cases r; rfl
 | bl _=>cases r; rfl
 | int _=>obtain ⟨t,rfl⟩:=r; rfl
 | str _=>obtain ⟨t,rfl⟩:=r; rfl
 | byt _=>obtain ⟨t,rfl⟩:=r; rfl
 | flt _=>obtain ⟨t,rfl⟩:=r; rfl
 | ref _=>cases r; rfl
 | ty _=>cases r; rfl
theorem n5.inj {x y:V} {u:Value} (r:n5 x u) (q:n5 y u):x = y:=Option.some.inj (r.abs.symm.trans q.abs)
theorem j9.inj:∀ {xs ys:List V} {us:List Value},j9 xs us → j9 ys us → xs = ys
 | _,_,_,.nil,.nil=>rfl
 | _,_,_,.cons r t,.cons r' t'=>by rw [r.inj r',j9.inj t t']
section
variable {X:Cx} {pins:List (Addr × Obj)} {σ:St} {H:Hp} {s:Shared} {a:Addr} {xs ys:List V}
theorem SqL.of {K:PySem.W.Frag} (h:H a = some (.lst xs)):SqL K H a xs:=.inl (.inl h)
theorem SqT.of {K:PySem.W.Frag} (h:H a = some (.tup xs)):SqT K H a xs:=.inl (.inl h)
theorem Inv.list (I:Inv X pins σ H s) (h:SqL X.K H a xs):∃ its:List Value,j9 xs its ∧ PlainL s.heap a its.toArray ∧ xs.length ≤ sizeLine:=by
 rcases h with h | ⟨o,its,n,hk,hc,hd,hs,hz,r⟩
 ·obtain ⟨z,its,n,r,e⟩:=h.ok I.hok
  exact ⟨its,r,⟨_,n,e,rfl,rfl,rfl⟩,z⟩
 ·refine ⟨its.toList,r,⟨o,n,I.kIn a o hk,hc,hd,by simpa using hs⟩,?_⟩
  have e:=r.length
  simp only [Array.length_toList] at e
  lia
theorem Inv.tuple (I:Inv X pins σ H s) (h:SqT X.K H a xs):∃ its:List Value,j9 xs its ∧ IsTup s.heap a its.toArray ∧ xs.length ≤ sizeLine:=by
 rcases h with h | ⟨o,its,n,hk,hc,hs,hz,r⟩
 ·obtain ⟨z,its,r,p⟩:=h.ok I.hok
  exact ⟨its,r,p,z⟩
 ·refine ⟨its.toList,r,⟨o,I.kIn a o hk,hc,n,by simpa using hs⟩,?_⟩
  have e:=r.length
  simp only [Array.length_toList] at e
  lia
theorem Inv.list_inj (I:Inv X pins σ H s) (h:SqL X.K H a xs) (h':SqL X.K H a ys):xs = ys:=by
 obtain ⟨its,r,⟨o,n,e,_,_,d⟩,_⟩:=I.list h
 obtain ⟨its',r',⟨o',n',e',_,_,d'⟩,_⟩:=I.list h'
 rw [e] at e'; cases e'
 rw [d] at d'
 injection d' with d1 _
 have:its = its':=by simpa using congrArg Array.toList d1
 subst this
 exact r.inj r'
theorem Inv.tuple_inj (I:Inv X pins σ H s) (h:SqT X.K H a xs) (h':SqT X.K H a ys):xs = ys:=by
 obtain ⟨its,r,⟨o,e,_,n,d⟩,_⟩:=I.tuple h
 obtain ⟨its',r',⟨o',e',_,n',d'⟩,_⟩:=I.tuple h'
 rw [e] at e'; cases e'
 rw [d] at d'
 injection d' with d1 _
 have:its = its':=by simpa using congrArg Array.toList d1
 subst this
 exact r.inj r'
end
abbrev Cx.wish (X:Cx) (E:Value → Shared → Prop):Cx:={ X with xe:=E }
abbrev Cx.nox (X:Cx):Cx:=X.wish fun _ _=>False
theorem Cx.Ok.wish {X:Cx} (ok:X.Ok) (E:Value → Shared → Prop):(X.wish E).Ok :=
 ⟨ok.mod,ok.kind,ok.glob,ok.blt,ok.above,ok.inj,ok.has,ok.cab,ok.hd,ok.frames,ok.stk,ok.exf,ok.bs,ok.bsz,ok.noex,ok.exfs,ok.funs,ok.frf⟩
theorem Cx.Ok.unwish {X:Cx} {E:Value → Shared → Prop} (ok:(X.wish E).Ok):X.Ok :=
 ⟨ok.mod,ok.kind,ok.glob,ok.blt,ok.above,ok.inj,ok.has,ok.cab,ok.hd,ok.frames,ok.stk,ok.exf,ok.bs,ok.bsz,ok.noex,ok.exfs,ok.funs,ok.frf⟩
section
variable {X:Cx} {pins:List (Addr × Obj)} {σ:St} {H:Hp} {s:Shared} {E:Value → Shared → Prop}
theorem Inv.wish (I:Inv X pins σ H s) (E:Value → Shared → Prop):Inv (X.wish E) pins σ H s:=⟨I.ok.wish E,I.os,I.bare,I.base,I.loc,I.cell,I.free,I.freeC,I.pin,I.hok,I.len⟩
theorem Inv.unwish (I:Inv (X.wish E) pins σ H s):Inv X pins σ H s:=⟨I.ok.unwish,I.os,I.bare,I.base,I.loc,I.cell,I.free,I.freeC,I.pin,I.hok,I.len⟩
theorem SP.unwish {D:Ends} {f:Flow} {s':Shared} (h:SP (X.wish E) pins D f s'):SP X pins D f s':=by
 cases f with
 | next=>obtain ⟨σ',H',I,q⟩:=h; exact ⟨σ',H',I.unwish,q⟩
 | brk=>obtain ⟨σ',H',I,q⟩:=h; exact ⟨σ',H',I.unwish,q⟩
 | cont=>obtain ⟨σ',H',I,q⟩:=h; exact ⟨σ',H',I.unwish,q⟩
 | ret u=>obtain ⟨v,σ',H',I,r,q⟩:=h; exact ⟨v,σ',H',I.unwish,r,q⟩
theorem PSs.nox {st:List Stmt} {t:TS} (h:PSs X.nox st t):PSs X st t:=fun pins s σ H D I hw =>
 wpAny_mono (h pins s σ H D (I.wish _) hw) (fun _ _ q=>q.unwish) fun _ _ z=>False.elim z
end
section
variable {X:Cx} {st:Stmt} {rest:List Stmt} {t u:TS} {e:Expr} {te:TE} {pos:Pos}
def aJ6:TS:=fun D σ H=>D.nx σ H
def a94 (t u:TS):TS:=fun D σ H=>t { D with nx:=u D } σ H
theorem n6:PSs X [] aJ6:=fun _ _ σ H _ I h=>wpAny_execs_nil ⟨σ,H,I,h⟩
theorem d6 (h1:PS X st t) (h2:PSs X rest u):PSs X (st :: rest) (a94 t u):=by
 intro pins s σ H D I h
 refine wpAny_execs_cons (thn (h1 pins s σ H { D with nx:=u D } I h) fun f s1 q=>?_)
 cases f with
 | next =>
  obtain ⟨σ',H',I',q⟩:=q
  exact h2 pins s1 σ' H' D I' q
 | ret v=>exact q
 | brk=>exact q
 | cont=>exact q
theorem g6 (h1:PS X st t):PSs X [st] t:=by
 intro pins s σ H D I h
 refine wpAny_execs_cons (thn (h1 pins s σ H D I h) fun f s1 q=>?_)
 cases f with
 | next=>exact wpAny_execs_nil q
 | ret v=>exact q
 | brk=>exact q
 | cont=>exact q
theorem Inv.quiet {pins:List (Addr × Obj)} {σ:St} {H:Hp} {s:Shared} (I:Inv X pins σ H s):interactive X.env = false:=by simp [interactive,I.ok.kind]
def a95 (te:TE):TS:=fun D σ H=>te σ H fun _ H1=>D.nx σ H1
theorem A6 (he:PE X e te) (hs:swapsWith e none pos.line X.env = pure false:=by rfl):PS X (.Expr e pos) (a95 te):=by
 intro pins s σ H D I h
 exact wpAny_Expr_any (thn (he pins s σ H _ I h) fun v s1 ⟨x,H1,I1,r1,q1⟩=>⟨σ,H1,I1,q1⟩) I.quiet hs
def bb4 (te:TE):TS:=fun D σ H=>te σ H D.rt
theorem j8 (he:PE X e te):PS X (.Return (some e) pos) (bb4 te):=by
 intro pins s σ H D I h
 exact wpAny_Return_some (thn (he pins s σ H _ I h) fun v s1 ⟨x,H1,I1,r1,q1⟩=>⟨x,σ,H1,I1,r1,q1⟩)
def a_9 (c:TT) (t u:TS):TS:=fun D σ H=>c σ H fun b H1=>if b = true then t D σ H1 else u D σ H1
theorem y8 {c:Expr} {a b:List Stmt} {tc:TT} (hc:PT X c tc) (ha:PSs X a t) (hb:PSs X b u):PS X (.If c a b pos) (a_9 tc t u):=by
 intro pins s σ H D I h
 refine wpAny_If (thn (hc pins s σ H _ I h) fun d s1 ⟨H1,I1,q1⟩=>?_)
 cases d with
 | true=>exact ha pins s1 σ H1 D I1 q1
 | false=>exact hb pins s1 σ H1 D I1 q1
end
abbrev TG:=V → St → Hp → (St → Hp → Prop) → Prop
abbrev TGs:=List V → St → Hp → (St → Hp → Prop) → Prop
def PG (X:Cx) (target:Expr) (t:TG):Prop :=
 ∀ (pins:List (Addr × Obj)) (s:Shared) (σ:St) (H:Hp) (v:V) (u:Value) (Q:St → Hp → Prop),Inv X pins σ H s → n5 v u → t v σ H Q →
  wpAny (model X.prog X.w) X.A (assign target X.env u) (fun _ s'=>∃ σ' H',Inv X pins σ' H' s' ∧ Q σ' H') X.xe s
def PGs (X:Cx) (ts:List Expr) (t:TGs):Prop :=
 ∀ (pins:List (Addr × Obj)) (s:Shared) (σ:St) (H:Hp) (vs:List V) (us:List Value) (Q:St → Hp → Prop),Inv X pins σ H s → j9 vs us → t vs σ H Q →
  wpAny (model X.prog X.w) X.A (assignInOrder ((assignEach ts X.env).map (·.2)) us) (fun _ s'=>∃ σ' H',Inv X pins σ' H' s' ∧ Q σ' H') X.xe s
abbrev a09:=V → V → V → Hp → (Hp → Prop) → Prop
def a51 (X:Cx) (t:a09):Prop :=
 ∀ (pins:List (Addr × Obj)) (s:Shared) (σ:St) (H:Hp) (o i v:V) (ov iv u:Value) (Q:Hp → Prop),Inv X pins σ H s → n5 o ov → n5 i iv → n5 v u → t o i v H Q →
  wpAny (model X.prog X.w) X.A (setItem ov iv u) (fun _ s'=>∃ H',Inv X pins σ H' s' ∧ Q H') X.xe s
abbrev TIp:=V → V → Hp → VK → Prop
def PIp (X:Cx) (op:Operator) (t:TIp):Prop :=
 ∀ (pins:List (Addr × Obj)) (s:Shared) (σ:St) (H:Hp) (x y:V) (v u:Value) (Q:VK),Inv X pins σ H s → n5 x v → n5 y u → t x y H Q →
  wpAny (model X.prog X.w) X.A (inplaceOp op v u) (EP X pins σ Q) X.xe s
section
variable {X:Cx} {pos:Pos}
def U6 (i:Nat):TG:=fun v σ H Q=>Q (σ.set i (some v)) H
theorem o9 {i:Nat} {x:Str} (hN:X.N.Nodup) (hi:X.N[i]? = some x) (hx:Loc X.env.scope x) (hf:X.fn x = true ∨ X.env.scope.names.lookup x = some .local:=by first | exact .inl rfl | exact .inr rfl | assumption):PG X (.Name x pos) (U6 i):=by
 intro pins s σ H v u Q I r h
 exact wpAny_assign_Name (U7 I hN hi hx r (fun s' I'=>⟨_,H,I',h⟩) hf)
def a01:TGs:=fun vs σ H Q=>vs = [] ∧ Q σ H
def ar5 (t:TG) (u:TGs):TGs:=fun vs σ H Q=>∃ v r,vs = v :: r ∧ t v σ H fun σ' H'=>u r σ' H' Q
theorem aT6:PGs X [] a01:=by
 intro pins s σ H vs us Q I r h
 obtain ⟨e,h⟩:=h
 subst e
 cases r
 exact assignInOrder_nil ⟨σ,H,I,h⟩
theorem as8 {e:Expr} {es:List Expr} {t:TG} {u:TGs} (h1:PG X e t) (h2:PGs X es u)
  (hs:(assignEach (e :: es) X.env).map (·.2) = assign e X.env :: (assignEach es X.env).map (·.2):=by rfl):PGs X (e :: es) (ar5 t u):=by
 intro pins s σ H vs us Q I r h
 obtain ⟨v,vr,e1,h⟩:=h
 subst e1
 cases r with
 | cons r rr =>
  rw [hs]
  refine assignInOrder_cons (thn (h1 pins s σ H _ _ _ I r h) fun _ s1 ⟨σ1,H1,I1,q1⟩=>?_)
  exact h2 pins s1 σ1 H1 _ _ Q I1 rr q1
def aY6 (K:PySem.W.Frag) (n:Nat) (t:TGs):TG:=fun v σ H Q=>∃ a xs,v = .ref a ∧ SqT K H a xs ∧ xs.length = n ∧ t xs σ H Q
theorem a50 {es:List Expr} {k:Nat} {t:TGs} {n:Nat} (hc:X.calm = true) (h:PGs X es t)
  (hn:(assignEach es X.env).length = n:=by rfl) (hst:(assignEach es X.env).findIdx? (·.1) = none:=by rfl):PG X (.Tuple es k pos) (aY6 X.K n t):=by
 intro pins s σ H v u Q I r hw
 obtain ⟨a,xs,e1,hq,hl,hw⟩:=hw
 subst e1
 cases r
 obtain ⟨its,rv,ht,hz⟩:=I.tuple hq
 refine assign_Tuple_tuple (I.ok.hd hc) ht (by simp [hn,← hl,rv.length]) hst fun h' hx=>?_
 have I1:Inv X pins σ H { s with heap:=h' }:=I.kept (t':=s.toks) fun b o e=>hx b o (Nat.ne_of_lt (Heap.lt_size e)) e
 exact h pins _ σ H xs _ Q I1 (by simpa using rv) hw
def bb9 (to ti:TE) (t:a09):TG:=fun v σ H Q=>to σ H fun o H1=>ti σ H1 fun i H2=>t o i v H2 fun H3=>Q σ H3
theorem aK8 {o i:Expr} {to ti:TE} {t:a09} (ho:PE X o to) (hi:PE X i ti) (hs:a51 X t)
  (ha:∀ v,assign (.Subscript o i pos) X.env v = (do
   let ov ← holding [v] (eval o X.env)
   let iv ← holding [v,ov] (eval i X.env)
   standAt pos
   holding [v,ov,iv] (setItem ov iv v)
   release [v,ov,iv] []):=by intro _; rfl):PG X (.Subscript o i pos) (bb9 to ti t):=by
 intro pins s σ H v u Q I r h
 rw [ha]
 refine wpAny_bind (wpAny_holding (thn (ho pins s σ H _ I h) fun ov s1 ⟨x,H1,I1,r1,q1⟩=>?_))
 refine wpAny_bind (wpAny_holding (thn (hi pins s1 σ H1 _ I1 q1) fun iv s2 ⟨y,H2,I2,r2,q2⟩=>?_))
 refine wpAny_bind (wpAny_standAt (wpAny_bind (wpAny_holding (thn (hs pins s2 σ H2 x y v ov iv u _ I2 r1 r2 r q2) fun _ s3 ⟨H3,I3,q3⟩=>?_))))
 exact wpAny_release ⟨σ,H3,I3,q3⟩
def a92 (te:TE) (g:TG):TS:=fun D σ H=>te σ H fun x H1=>g x σ H1 D.nx
theorem az5 {tg e:Expr} {te:TE} {g:TG} (he:PE X e te) (hg:PG X tg g) (hs:swapsWithSole [tg] e pos.line X.env = pure false:=by rfl) (hw:swappedStores [tg] e X.env = pure none:=by rfl)
  (h1:(assignEach [tg] X.env).map (·.2) = [assign tg X.env]:=by rfl):PS X (.Assign [tg] e pos) (a92 te g):=by
 intro pins s σ H D I h
 refine wpAny_Assign_stores (thn (he pins s σ H _ I h) fun v s1 ⟨x,H1,I1,r1,q1⟩=>?_) hs hw
 rw [h1]
 exact thn (hg pins s1 σ H1 x v _ I1 r1 q1) fun _ s2 q=>q
theorem i7 {i:Nat} {x:Str} {e:Expr} {te:TE} {pos':Pos} (hN:X.N.Nodup) (hi:X.N[i]? = some x) (hx:Loc X.env.scope x) (he:PE X e te) (hs:swapsWith e (some (.Name x pos')) pos.line X.env = pure false:=by rfl) (hf:X.fn x = true ∨ X.env.scope.names.lookup x = some .local:=by first | exact .inl rfl | exact .inr rfl | assumption) :
  PS X (.Assign [.Name x pos'] e pos) (a92 te (U6 i)):=by
 intro pins s σ H D I h
 refine wpAny_Assign_Name (thn (he pins s σ H _ I h) fun v s1 ⟨y,H1,I1,r1,q1⟩=>?_) hs
 exact U7 I1 hN hi hx r1 (fun s2 I2=>⟨_,H1,I2,q1⟩) hf
def ba0 (i:Nat) (te:TE) (ti:TIp):TS:=fun D σ H=>∃ x,σ[i]? = some (some x) ∧ te σ H fun y H1=>ti x y H1 fun z H2=>D.nx (σ.set i (some z)) H2
theorem aY8 {i:Nat} {x:Str} {e:Expr} {te:TE} {op:Operator} {ti:TIp} {pos':Pos} (hN:X.N.Nodup) (hi:X.N[i]? = some x) (hx:Loc X.env.scope x) (he:PE X e te) (ho:PIp X op ti) (hf:X.fn x = true ∨ X.env.scope.names.lookup x = some .local:=by first | exact .inl rfl | exact .inr rfl | assumption) :
  PS X (.AugAssign (.Name x pos') op e pos) (ba0 i te ti):=by
 intro pins s σ H D I h
 obtain ⟨v,e1,h⟩:=h
 obtain ⟨m,hn,hl⟩:=I.loc
 have vis:Vis X.env.scope x:=by rcases hx with k | k; exact .inl k; exact .inr (.inl k)
 obtain ⟨u,r,l⟩:=hl i x v hi e1 vis
 refine wpAny_AugAssign_Name ?_
 have go:wpAny (model X.prog X.w) X.A (eval e X.env) (fun w s₂=>wpAny (model X.prog X.w) X.A (inplaceOp op u w) (fun r s₃=>wpAny (model X.prog X.w) X.A (storeName X.env x r) (fun _=>SP X pins D .next) X.xe s₃) X.xe s₂) X.xe s:=by
  refine thn (he pins s σ H _ I h) fun w s1 ⟨y,H1,I1,r1,q1⟩=>?_
  refine thn (ho pins s1 σ H1 v y u w _ I1 r r1 q1) fun z s2 ⟨zv,H2,I2,r2,q2⟩=>?_
  exact U7 I2 hN hi hx r2 (fun s3 I3=>⟨_,H2,I3,q2⟩) hf
 rcases l with ⟨hk,hm⟩ | ⟨hk,c,hc,hcell⟩
 ·exact wpAny_loadName_local I.ok.kind hk hn hm go
 ·rcases hk with hk | hk
  ·exact wpAny_loadName_cell I.ok.kind hk hc hcell go
  ·rcases hx with k | k
   ·have:X.env.scope.names.lookup x = some .free:=hk
    rw [k] at this; cases this
   ·have:X.env.scope.names.lookup x = some .free:=hk
    rw [k] at this; cases this
end
section
variable {X:Cx} {pos:Pos}
def aZ7 (c:TT) (tb:TS):TS:=fun D σ H=>∃ W:Nat → St → Hp → Prop,(∃ m,W m σ H) ∧ ∀ m σ H,W m σ H →
 c σ H fun b H1=>if b = true then ∃ N:St → Hp → Prop,(∀ σ' H',N σ' H' → ∃ m',m' < m ∧ W m' σ' H') ∧ tb { D with nx:=N,ct:=N,bk:=D.nx } σ H1 else D.nx σ H1
theorem au0 {c:Expr} {body:List Stmt} {tc:TT} {tb:TS} (hp:PassesOwn (model X.prog X.w) X.A X.env X.xe) (hc:PT X c tc) (hb:PSs X body tb):PS X (.While c body [] pos) (aZ7 tc tb):=by
 intro pins s σ H D I h
 obtain ⟨W,⟨m0,w0⟩,turn⟩:=h
 refine wpAny_While (codeAny_whileLoop (fun n s'=>∃ σ' H',Inv X pins σ' H' s' ∧ W n σ' H') ?_ m0 ⟨σ,H,I,w0⟩)
 rintro n s1 ⟨σ1,H1,I1,w1⟩
 refine wpAny_passesOwn hp (thn (hc pins s1 σ1 H1 _ I1 (turn n σ1 H1 w1)) fun b s2 ⟨H2,I2,q2⟩=>?_)
 cases b with
 | true =>
  obtain ⟨N,hN,q2⟩:=q2
  rw [if_pos rfl]
  refine wpAny_passesOwn hp (thn (hb pins s2 σ1 H2 _ I2 q2) fun f s3 q3=>?_)
  cases f with
  | next =>
   obtain ⟨σ3,H3,I3,n3⟩:=q3
   obtain ⟨m',hm,w3⟩:=hN σ3 H3 n3
   exact ⟨m',hm,σ3,H3,I3,w3⟩
  | cont =>
   obtain ⟨σ3,H3,I3,n3⟩:=q3
   obtain ⟨m',hm,w3⟩:=hN σ3 H3 n3
   exact ⟨m',hm,σ3,H3,I3,w3⟩
  | brk=>exact q3
  | ret v=>exact q3
 | false =>
  rw [if_neg Bool.false_ne_true]
  exact wpAny_execs_nil ⟨σ1,H2,I2,q2⟩
end
structure It where
 go:Nat → Hp → Prop
 yld:Nat → Hp → V → Hp → Prop
 stop:Nat → Hp → Prop
def Z0 (X:Cx) (pins:List (Addr × Obj)) (H:Hp) (b:Addr):Prop :=
 H b = none ∧ b ≠ X.env.locals ∧ b ∉ X.fs ∧ (b ∈ X.ex ∨ X.s₀.heap.objs.size ≤ b) ∧ (∀ x c,X.env.cells.lookup x = some c → c ≠ b) ∧ ∀ p ∈ X.pn ++ pins,p.1 ≠ b
theorem Inv.fpOk {X:Cx} {pins:List (Addr × Obj)} {σ:St} {H H':Hp} {s:Shared} {b:Addr} (I:Inv X pins σ H s) (hb:s.heap.objs.size ≤ b) (hn:H' b = none):Z0 X pins H' b:=by
 refine ⟨hn,Nat.ne_of_gt (Nat.lt_of_lt_of_le I.lt hb),I.nofs hb,.inr (Nat.le_trans I.sz hb),fun x c e z=>?_,fun p hp z=>?_⟩
 ·obtain ⟨v,q⟩:=I.cell x c e
  exact absurd (Nat.lt_of_lt_of_le q.lt (by rw [z]; exact hb)) (Nat.lt_irrefl _)
 ·exact absurd (Nat.lt_of_lt_of_le (Heap.lt_size (I.pin p hp).1) (by rw [z]; exact hb)) (Nat.lt_irrefl _)
structure Turn (P:Program) (w:World) (K:PySem.W.Frag) (tg:Expr) (J:It) (fp:List Addr) (it:Addr) (tn:Nat → Heap → Prop):Prop where
 mem:it ∈ fp
 obj:∀ i h,tn i h → ∀ b ∈ fp,∃ o,h.get? b = some o ∧ ∀ v,o.data ≠ .cell v
 keep:∀ i h h',tn i h → (∀ b ∈ fp,∀ o,h.get? b = some o → h'.get? b = some o) → tn i h'
 item:∀ (X:Cx),X.prog = P → X.w = w → X.K = K → X.calm = true → ∀ (i:Nat) (pins:List (Addr × Obj)) (s:Shared) (σ:St) (H:Hp) (E:Value → Shared → Prop),Inv X pins σ H s → (∀ b ∈ fp,Z0 X pins H b) → tn i s.heap → J.go i H →
  wpAny (model P w) X.A (pyNext (.ref it)) (fun r s1=>∃ u,r = some u ∧
   wpAny (model P w) X.A (letOwnedTupleGo tg (.ref it) u) (fun _ s2=>∃ x H',Inv X pins σ H' s2 ∧ n5 x u ∧ J.yld i H x H' ∧ tn (i + 1) s2.heap ∧ ∀ b ∈ fp,H' b = none) E s1) E s
 done:∀ (X:Cx),X.prog = P → X.w = w → X.K = K → X.calm = true → ∀ (i:Nat) (pins:List (Addr × Obj)) (s:Shared) (σ:St) (H:Hp) (E:Value → Shared → Prop),Inv X pins σ H s → (∀ b ∈ fp,Z0 X pins H b) → tn i s.heap → J.stop i H →
  wpAny (model P w) X.A (pyNext (.ref it)) (fun r s1=>r = none ∧ Inv X pins σ H s1) E s
 self:∀ (A:Around) (i:Nat) (s:Shared) (Q:Value → Shared → Prop) (E:Value → Shared → Prop),tn i s.heap → Q (.ref it) s → wpAny (model P w) A (pyIter (.ref it)) Q E s
abbrev TI:=St → Hp → (It → Hp → Prop) → Prop
def PIE (X:Cx) (pins:List (Addr × Obj)) (σ:St) (tg:Expr) (R:It → Hp → Prop) (itv:Value) (s2:Shared):Prop :=
 ∃ (it:Addr) (fp:List Addr) (tn:Nat → Heap → Prop) (J:It) (H':Hp),itv = .ref it ∧ Inv X pins σ H' s2 ∧ Turn X.prog X.w X.K tg J fp it tn ∧ tn 0 s2.heap ∧ (∀ b ∈ fp,Z0 X pins H' b) ∧ R J H'
def PI (X:Cx) (tg iter:Expr) (wi:TI):Prop :=
 ∀ (pins:List (Addr × Obj)) (s:Shared) (σ:St) (H:Hp) (R:It → Hp → Prop),Inv X pins σ H s → wi σ H R →
  wpAny (model X.prog X.w) X.A (eval iter X.env) (fun v s1=>wpAny (model X.prog X.w) X.A (pyIter v) (PIE X pins σ tg R) X.xe s1) X.xe s
theorem aJ9 {M:Model} {A:Around} {E:Value → Shared → Prop} {s:Shared} {tg:Expr} {it:Addr} {u:Value} {o:Obj} {n:String} {vs:Array Value} {Q:Unit → Shared → Prop} (ho:s.heap.get? it = some o) (hc:o.cls = .type n) (hd:o.data = .fields vs)
    (hn:["enumerate","zip","dict_itemiterator","dict_reverseitemiterator","odict_iterator","itertools.zip_longest","itertools.pairwise"].contains n = false) (hQ:Q () s):wpAny M A (letOwnedTupleGo tg (.ref it) u) Q E s:=by
  unfold letOwnedTupleGo
  cases tg <;> first
    | exact wpAny_pure hQ
    | (cases u <;> first
        | exact wpAny_pure hQ
        | (refine wpAny_bind (wpAny_load ho ?_)
           rw [hc,hd]
           show wpAny M A (if (["enumerate","zip","dict_itemiterator","dict_reverseitemiterator","odict_iterator","itertools.zip_longest","itertools.pairwise"].contains n && vs[0]? == some (rawInt _)) = true then _ else _) Q E s
           rw [if_neg (by intro h; rw [hn,Bool.false_and] at h; cases h)]
           exact wpAny_pure hQ))
def Itl (K:PySem.W.Frag) (a:Addr):It :=
 ⟨fun i H=>∃ xs x,SqL K H a xs ∧ xs[i]? = some x,fun i H x H'=>H' = H ∧ ∀ xs,SqL K H a xs → xs[i]? = some x,fun i H=>∃ xs,SqL K H a xs ∧ xs.length ≤ i⟩
def Itt (K:PySem.W.Frag) (a:Addr):It :=
 ⟨fun i H=>∃ xs x,SqT K H a xs ∧ xs[i]? = some x,fun i H x H'=>H' = H ∧ ∀ xs,SqT K H a xs → xs[i]? = some x,fun i H=>∃ xs,SqT K H a xs ∧ xs.length ≤ i⟩
def Itr (lo:Int) (n:Nat):It:=⟨fun i _=>i < n,fun i H x H'=>H' = H ∧ x = .int (lo + i),fun i _=>n ≤ i⟩
theorem aG7 {P:Program} {w:World} {K:PySem.W.Frag} {tg:Expr} (a it:Addr):Turn P w K tg (Itl K a) [it] it (fun i h=>h.IsListIter it a i) where
 mem:=by simp
 obj:=fun i h st b hb=>by
  have e:b = it:=by simpa using hb
  subst e
  obtain ⟨o,e,c,d⟩:=st
  exact ⟨o,e,fun v z=>by rw [d] at z; cases z⟩
 keep:=fun i h h' st k=>st.at fun o e=>k it (by simp) o e
 item:=by
  intro X hP hw hK hc i pins s σ H E I hf st hg
  subst hP hw hK
  obtain ⟨xs,x,hq,hx⟩:=hg
  obtain ⟨its,rv,p,hz⟩:=I.list hq
  obtain ⟨u,hu,ru⟩:=rv.get hx
  obtain ⟨f0,f1,f2,f3,f4,f5⟩:=hf it (by simp)
  refine wpAny_pyNext_list_item st p.isList (x:=u) (by simpa using hu) fun h' st' sb=>?_
  have I1:Inv X pins σ H { s with heap:=h' }:=I.turned (t':=s.toks) (fun b o hb e=>(sb.2 b hb).trans e) f0 f1 f3 f4 f5
  obtain ⟨o,e,c,d⟩:=id st'
  exact ⟨u,rfl,aJ9 (s:={ s with heap:=h' }) e c d (by decide) ⟨x,H,I1,ru,⟨rfl,fun ys hy=>by rw [I.list_inj hy hq]; exact hx⟩,st',fun b hb=>(hf b hb).1⟩⟩
 done:=by
  intro X hP hw hK hc i pins s σ H E I hf st hg
  subst hP hw hK
  obtain ⟨xs,hq,hx⟩:=hg
  obtain ⟨its,rv,p,hz⟩:=I.list hq
  obtain ⟨f0,f1,f2,f3,f4,f5⟩:=hf it (by simp)
  have hl:=rv.length
  exact wpAny_pyNext_list_end (I.ok.hd hc) st p.isList (by simp; lia) fun h' eb=>⟨rfl,I.turned (t':=s.toks) (fun b o hb e=>eb b o hb e) f0 f1 f3 f4 f5⟩
 self:=fun _ _ _ _ _ st h=>wpAny_pyIter_listiter st h
theorem ay3 {P:Program} {w:World} {K:PySem.W.Frag} {tg:Expr} (a it:Addr):Turn P w K tg (Itt K a) [it] it (fun i h=>h.IsTupleIter it a i) where
 mem:=by simp
 obj:=fun i h st b hb=>by
  have e:b = it:=by simpa using hb
  subst e
  obtain ⟨o,e,c,d⟩:=st
  exact ⟨o,e,fun v z=>by rw [d] at z; cases z⟩
 keep:=fun i h h' st k=>st.at fun o e=>k it (by simp) o e
 item:=by
  intro X hP hw hK hc i pins s σ H E I hf st hg
  subst hP hw hK
  obtain ⟨xs,x,hq,hx⟩:=hg
  obtain ⟨its,rv,p,hz⟩:=I.tuple hq
  obtain ⟨u,hu,ru⟩:=rv.get hx
  obtain ⟨f0,f1,f2,f3,f4,f5⟩:=hf it (by simp)
  refine wpAny_pyNext_tuple_item st (show s.heap.IsTuple a its.toArray from p) (x:=u) (by simpa using hu) fun h' st' sb=>?_
  have I1:Inv X pins σ H { s with heap:=h' }:=I.turned (t':=s.toks) (fun b o hb e=>(sb.2 b hb).trans e) f0 f1 f3 f4 f5
  obtain ⟨o,e,c,d⟩:=id st'
  exact ⟨u,rfl,aJ9 (s:={ s with heap:=h' }) e c d (by decide) ⟨x,H,I1,ru,⟨rfl,fun ys hy=>by rw [I.tuple_inj hy hq]; exact hx⟩,st',fun b hb=>(hf b hb).1⟩⟩
 done:=by
  intro X hP hw hK hc i pins s σ H E I hf st hg
  subst hP hw hK
  obtain ⟨xs,hq,hx⟩:=hg
  obtain ⟨its,rv,p,hz⟩:=I.tuple hq
  obtain ⟨f0,f1,f2,f3,f4,f5⟩:=hf it (by simp)
  have hl:=rv.length
  exact wpAny_pyNext_tuple_end (I.ok.hd hc) st (show s.heap.IsTuple a its.toArray from p) (by simp; lia) fun h' eb=>⟨rfl,I.turned (t':=s.toks) (fun b o hb e=>eb b o hb e) f0 f1 f3 f4 f5⟩
 self:=fun _ _ _ _ _ st h=>wpAny_pyIter_tupleiter st h
theorem aw1 {P:Program} {w:World} {K:PySem.W.Frag} {tg:Expr} (it:Addr) (lo:Int) (n:Nat):Turn P w K tg (Itr lo n) [it] it (fun i h=>IsRangeIter h it (lo + (i:Nat) * 1) ((n:Int) - (i:Nat)) 1) where
 mem:=by simp
 obj:=fun i h st b hb=>by
  have e:b = it:=by simpa using hb
  subst e
  exact ⟨_,st,fun v z=>by
   have z':Data.fields _ = Data.cell v:=z
   cases z'⟩
 keep:=fun i h h' st k=>k it (by simp) _ st
 item:=by
  intro X hP hw hK hc i pins s σ H E I hf st hg
  subst hP hw hK
  obtain ⟨f0,f1,f2,f3,f4,f5⟩:=hf it (by simp)
  have W:=Walks.range (prog:=X.prog) (w:=X.w) (I.ok.hd hc) it lo 1 n
  refine W.item i s _ _ hg st fun v h' tk hv st' kk=>?_
  obtain ⟨t,rfl⟩:=hv
  have I1:Inv X pins σ H { s with heap:=h',toks:=tk }:=I.turned (fun b o hb e=>kk b o (by simpa using hb) e) f0 f1 f3 f4 f5
  refine ⟨_,rfl,aJ9 (s:={ s with heap:=h',toks:=tk }) (n:="range_iterator") st' rfl rfl (by decide) ⟨.int (lo + i),H,I1,⟨t,?_⟩,⟨rfl,rfl⟩,st',fun b hb=>(hf b hb).1⟩⟩
  rw [Int.mul_one]
 done:=by
  intro X hP hw hK hc i pins s σ H E I hf st hg
  subst hP hw hK
  obtain ⟨f0,f1,f2,f3,f4,f5⟩:=hf it (by simp)
  exact wpAny_pyNext_range_end (I.ok.hd hc) st (by have:n ≤ i:=hg; lia) fun h' eb=>⟨rfl,I.turned (t':=s.toks) (fun b o hb e=>eb b o hb e) f0 f1 f3 f4 f5⟩
 self:=fun _ _ _ _ _ st h=>wpAny_pyIter_rangeiter st h
end L2
namespace L2
open PySem PySem.Spec PyProof.Rows
section
variable {X:Cx} {tg:Expr}
def aY0 (K:PySem.W.Frag) (tl:TE):TI:=fun σ H R=>tl σ H fun x H1=>∃ a,x = .ref a ∧ (∃ xs,SqL K H1 a xs) ∧ R (Itl K a) H1
def a_3 (K:PySem.W.Frag) (tl:TE):TI:=fun σ H R=>tl σ H fun x H1=>∃ a,x = .ref a ∧ (∃ xs,SqT K H1 a xs) ∧ R (Itt K a) H1
theorem aT3 {l:Expr} {tl:TE} (hl:PE X l tl):PI X tg l (aY0 X.K tl):=by
 intro pins s σ H R I h
 refine thn (hl pins s σ H _ I h) fun v s1 ⟨x,H1,I1,r1,q1⟩=>?_
 obtain ⟨a,e,⟨xs,hq⟩,q⟩:=q1
 subst e
 cases r1
 obtain ⟨its,rv,p,hz⟩:=I1.list hq
 refine wpAny_pyIter_list p.isList ?_
 refine ⟨s1.heap.objs.size,[s1.heap.objs.size],_,_,H1,rfl,I1.kept (t':=s1.toks) fun b o e=>Heap.get?_push_of_some _ e,aG7 a _,⟨_,Heap.get?_push_size _ rfl,rfl,rfl⟩,fun b hb=>?_,q⟩
 have e:b = s1.heap.objs.size:=by simpa using hb
 subst e
 exact I1.fpOk (Nat.le_refl _) (I1.hok.fresh (Nat.le_refl _))
theorem a36 {l:Expr} {tl:TE} (hl:PE X l tl):PI X tg l (a_3 X.K tl):=by
 intro pins s σ H R I h
 refine thn (hl pins s σ H _ I h) fun v s1 ⟨x,H1,I1,r1,q1⟩=>?_
 obtain ⟨a,e,⟨xs,hq⟩,q⟩:=q1
 subst e
 cases r1
 obtain ⟨its,rv,p,hz⟩:=I1.tuple hq
 refine wpAny_pyIter_tuple (show s1.heap.IsTuple a its.toArray from p) ?_
 refine ⟨s1.heap.objs.size,[s1.heap.objs.size],_,_,H1,rfl,I1.kept (t':=s1.toks) fun b o e=>Heap.get?_push_of_some _ e,ay3 a _,⟨_,Heap.get?_push_size _ rfl,rfl,rfl⟩,fun b hb=>?_,q⟩
 have e:b = s1.heap.objs.size:=by simpa using hb
 subst e
 exact I1.fpOk (Nat.le_refl _) (I1.hok.fresh (Nat.le_refl _))
theorem aq6 {pins:List (Addr × Obj)} {σ:St} {H:Hp} {s:Shared} {R:It → Hp → Prop} {E:Value → Shared → Prop} {lo hi:Int} {t u v:Tok} {tk:Nat} (I:Inv X pins σ H s) (h1:-(2 ^ 62) ≤ lo) (h2:lo < 2 ^ 62) (h3:-(2 ^ 62) ≤ hi) (h4:hi < 2 ^ 62)
  (q:R (Itr lo (hi - lo).toNat) H):wpAny (model X.prog X.w) X.A (pyIter (.ref s.heap.objs.size)) (PIE X pins σ tg R) E { s with heap:=s.heap.push { cls:=.type "range",data:=.fields #[.int lo t,.int hi u,.int 1 v] },toks:=tk }:=by
 refine wpAny_pyIter_range (IsRange.new ..) (small_one h1 h2 h3 h4) ?_
 have I1:Inv X pins σ H { s with heap:=s.heap.push { cls:=.type "range",data:=.fields #[.int lo t,.int hi u,.int 1 v] },toks:=tk }:=I.kept fun b o e=>Heap.get?_push_of_some _ e
 refine ⟨(s.heap.push { cls:=.type "range",data:=.fields #[.int lo t,.int hi u,.int 1 v] }).objs.size,[(s.heap.push { cls:=.type "range",data:=.fields #[.int lo t,.int hi u,.int 1 v] }).objs.size],_,_,H,rfl,
  I1.kept (t':=tk) fun b o e=>Heap.get?_push_of_some _ e,aw1 _ lo (hi - lo).toNat,?_,fun b hb=>?_,q⟩
 ·have e1:lo + ((0:Nat):Int) * 1 = lo:=by simp
  have e2:(((hi - lo).toNat:Nat):Int) - ((0:Nat):Int) = Builtin.Range.rangeSize lo hi 1:=by rw [rangeSize_one]; split <;> lia
  show IsRangeIter _ _ (lo + ((0:Nat):Int) * 1) ((((hi - lo).toNat:Nat):Int) - ((0:Nat):Int)) 1
  rw [e1,e2]
  exact Heap.get?_push_size _ rfl
 ·have e:b = (s.heap.push { cls:=.type "range",data:=.fields #[.int lo t,.int hi u,.int 1 v] }).objs.size:=by simpa using hb
  subst e
  exact I1.fpOk (Nat.le_refl _) (I1.hok.fresh (Nat.le_refl _))
def a87 (ta:TA):TI:=fun σ H R=>ta σ H fun vs H1=>∃ j:Int,vs = [.int j] ∧ -(2 ^ 62) ≤ j ∧ j < 2 ^ 62 ∧ R (Itr 0 j.toNat) H1
def a82 (ta:TA):TI:=fun σ H R=>ta σ H fun vs H1=>∃ i j:Int,vs = [.int i,.int j] ∧ (-(2 ^ 62) ≤ i ∧ i < 2 ^ 62 ∧ -(2 ^ 62) ≤ j ∧ j < 2 ^ 62) ∧ R (Itr i (j - i).toNat) H1
theorem J4 {a:Expr} {ta:TA} {p pos:Pos} (hg:Gl X "range") (hm:X.mg "range" = none) (ha:PA X [a] ta) (hs:starEach [a] X.env = [(false,eval a X.env)]:=by rfl):PI X tg (.Call (.Name "range" p) [a] [] pos) (a87 ta):=by
 intro pins s σ H R I h
 refine Call_ (T7 I hg hm boot_range (PyProof.Rows.callWith_type1 (thn (ha pos pins s σ H _ I h) fun us s1 ⟨vs,H1,I1,r1,q1⟩=>?_) hs rfl))
 obtain ⟨j,e,q1,q2,q⟩:=q1
 subst e
 cases r1 with
 | cons r rr =>
  cases rr
  obtain ⟨t,rfl⟩:=r
  exact call_range_1 (aq6 I1 (by lia) (by lia) q1 q2 (by simpa using q))
theorem aF2 {a b:Expr} {ta:TA} {p pos:Pos} (hg:Gl X "range") (hm:X.mg "range" = none) (ha:PA X [a,b] ta) (hs:starEach [a,b] X.env = [(false,eval a X.env),(false,eval b X.env)]:=by rfl) (hs2:starEach [b] X.env = [(false,eval b X.env)]:=by rfl) :
  PI X tg (.Call (.Name "range" p) [a,b] [] pos) (a82 ta):=by
 intro pins s σ H R I h
 refine Call_ (T7 I hg hm boot_range (PyProof.Rows.callWith_type1 (thn (ha pos pins s σ H _ I h) fun us s1 ⟨vs,H1,I1,r1,q1⟩=>?_) (by rw [hs,hs2]) (by rw [hs2]; rfl)))
 obtain ⟨i,j,e,⟨q1,q2,q3,q4⟩,q⟩:=q1
 subst e
 cases r1 with
 | cons r rr =>
  cases rr with
  | cons r' rr =>
   cases rr
   obtain ⟨t,rfl⟩:=r
   obtain ⟨t',rfl⟩:=r'
   exact call_range_2 (aq6 I1 q1 q2 q3 q4 q)
def ba7 (wi:TI) (g:TG) (tb:TS):TS:=fun D σ H=>wi σ H fun J H1=>∃ W:Nat → Nat → St → Hp → Prop,(∃ m,W 0 m σ H1) ∧ ∀ i m σ H,W i m σ H →
 (J.stop i H ∧ D.nx σ H) ∨ (J.go i H ∧ ∃ N:St → Hp → Prop,(∀ σ' H',N σ' H' → ∃ m',m' < m ∧ W (i + 1) m' σ' H') ∧ ∀ x H',J.yld i H x H' → g x σ H' fun σ2 H2=>tb { D with nx:=N,ct:=N,bk:=D.nx } σ2 H2)
def Q0 (fp:List Addr) (h:Heap):List (Addr × Obj):=fp.filterMap fun b=>(h.get? b).map fun o=>(b,o)
theorem N2 {fp:List Addr} {h:Heap} {b:Addr} {o:Obj} (hb:b ∈ fp) (e:h.get? b = some o):(b,o) ∈ Q0 fp h:=List.mem_filterMap.mpr ⟨b,hb,by rw [e]; rfl⟩
theorem ag2 {fp:List Addr} {h:Heap} {p:Addr × Obj} (hp:p ∈ Q0 fp h):p.1 ∈ fp ∧ h.get? p.1 = some p.2:=by
 obtain ⟨b,hb,e⟩:=List.mem_filterMap.mp hp
 cases q:h.get? b with
 | none=>rw [q] at e; cases e
 | some o =>
  rw [q] at e
  have e':(b,o) = p:=Option.some.inj e
  subst e'
  exact ⟨hb,q⟩
theorem Inv.pinned {pins:List (Addr × Obj)} {σ:St} {H:Hp} {s:Shared} {fp:List Addr} (I:Inv X pins σ H s) (hf:∀ b ∈ fp,Z0 X pins H b) (ho:∀ b ∈ fp,∃ o,s.heap.get? b = some o ∧ ∀ v,o.data ≠ .cell v):Inv X (pins ++ Q0 fp s.heap) σ H s :=
 I.pins_of fun p hp=>(List.mem_append.mp hp).elim (fun z=>I.pin p (List.mem_append_right _ z)) fun z=>by
  obtain ⟨hb,e⟩:=ag2 z
  obtain ⟨f0,f1,f2,_⟩:=hf p.1 hb
  obtain ⟨o,e',d⟩:=ho p.1 hb
  rw [e] at e'; cases e'
  exact ⟨e,f0,f1,f2,d⟩
theorem Inv.unpinned {pins pl:List (Addr × Obj)} {σ:St} {H:Hp} {s:Shared} (I:Inv X (pins ++ pl) σ H s):Inv X pins σ H s:=I.pins_of fun p hp=>I.pin p (List.mem_append_right _ (List.mem_append_left _ hp))
theorem y6 {iter:Expr} {body:List Stmt} {wi:TI} {g:TG} {tb:TS} {pos:Pos} (hp:PassesOwn (model X.prog X.w) X.A X.env X.xe) (hc:X.calm = true) (hi:PI X tg iter wi) (hg:PG X tg g) (hb:PSs X body tb)
  (hs:∀ x,foldedSetIterable iter X.env x = pure x:=by intro _; rfl):PS X (.For tg iter body [] pos) (ba7 wi g tb):=by
 intro pins s σ H D I h
 refine wpAny_For (thn (hi pins s σ H _ I h) fun v s1 h1=>thn h1 fun itv s2 h2=>?_) hs
 obtain ⟨it,fp,tn,J,H2,e,I2,T,st2,f2,W,⟨m0,w0⟩,turn⟩:=h2
 subst e
 have stat:∀ {H':Hp},(∀ b ∈ fp,H' b = none) → ∀ b ∈ fp,Z0 X pins H' b:=fun hn b hb=>⟨hn b hb,(f2 b hb).2⟩
 refine codeAny_forLoop_any (fun n s'=>∃ i σ' H',Inv X pins σ' H' s' ∧ tn i s'.heap ∧ (∀ b ∈ fp,H' b = none) ∧ W i n σ' H') ?_ m0 ⟨0,σ,H2,I2,st2,fun b hb=>(f2 b hb).1,w0⟩
 rintro n s3 ⟨i,σ3,H3,I3,st3,fr3,w3⟩
 rcases turn i n σ3 H3 w3 with ⟨stop,qn⟩ | ⟨go,N,hN,step⟩
 ·refine wpAny_passesOwn hp (thn (T.done X rfl rfl rfl hc i pins s3 σ3 H3 X.xe I3 (stat fr3) st3 stop) fun r s4 ⟨hr,I4⟩=>?_)
  subst hr
  exact wpAny_execs_nil ⟨σ3,H3,I4,qn⟩
 ·refine wpAny_passesOwn hp (thn (T.item X rfl rfl rfl hc i pins s3 σ3 H3 X.xe I3 (stat fr3) st3 go) fun r s4 ⟨u,hr,h4⟩=>?_)
  subst hr
  refine wpAny_passesOwn hp (thn h4 fun _ s5 ⟨x,H5,I5,r5,y5,st5,fr5⟩=>?_)
  have I5':=I5.pinned (stat fr5) (T.obj _ _ st5)
  refine wpAny_passesOwn hp (thn (hg _ s5 σ3 H5 x u _ I5' r5 (step x H5 y5)) fun _ s6 ⟨σ6,H6,I6,q6⟩=>?_)
  refine wpAny_passesOwn hp (thn (hb _ s6 σ6 H6 _ I6 q6) fun f s7 q7=>?_)
  have again:∀ {σ7:St} {H7:Hp},Inv X (pins ++ Q0 fp s5.heap) σ7 H7 s7 → N σ7 H7 → ∃ m,m < n ∧ ∃ i σ' H',Inv X pins σ' H' s7 ∧ tn i s7.heap ∧ (∀ b ∈ fp,H' b = none) ∧ W i m σ' H':=fun {σ7 H7} I7 n7=>by
   obtain ⟨m',hm,w7⟩:=hN σ7 H7 n7
   refine ⟨m',hm,i + 1,σ7,H7,I7.unpinned,T.keep _ _ _ st5 fun b hb o e=>(I7.pin (b,o) (List.mem_append_right _ (List.mem_append_right _ (N2 hb e)))).1,fun b hb=>?_,w7⟩
   obtain ⟨o,e,d⟩:=T.obj _ _ st5 b hb
   exact (I7.pin (b,o) (List.mem_append_right _ (List.mem_append_right _ (N2 hb e)))).2.1
  cases f with
  | next=>obtain ⟨σ7,H7,I7,n7⟩:=q7; exact again I7 n7
  | cont=>obtain ⟨σ7,H7,I7,n7⟩:=q7; exact again I7 n7
  | brk=>obtain ⟨σ7,H7,I7,q7⟩:=q7; exact ⟨σ7,H7,I7.unpinned,q7⟩
  | ret v=>obtain ⟨x7,σ7,H7,I7,r7,q7⟩:=q7; exact ⟨x7,σ7,H7,I7.unpinned,r7,q7⟩
end
theorem B0 {K:PySem.W.Frag} {a:Addr} {xs:List V} {g:TG} {tb:TS} {D:Ends} {σ:St} {H:Hp} (Pv:Nat → St → Hp → Prop) (h0:Pv 0 σ H) (hl:∀ i σ H,i ≤ xs.length → Pv i σ H → SqL K H a xs)
  (hs:∀ i x σ H,xs[i]? = some x → Pv i σ H → g x σ H fun σ2 H2=>tb { D with nx:=Pv (i + 1),ct:=Pv (i + 1),bk:=D.nx } σ2 H2) (hd:∀ σ H,Pv xs.length σ H → D.nx σ H) :
  ∃ W:Nat → Nat → St → Hp → Prop,(∃ m,W 0 m σ H) ∧ ∀ i m σ H,W i m σ H →
   ((Itl K a).stop i H ∧ D.nx σ H) ∨ ((Itl K a).go i H ∧ ∃ N:St → Hp → Prop,(∀ σ' H',N σ' H' → ∃ m',m' < m ∧ W (i + 1) m' σ' H') ∧ ∀ x H',(Itl K a).yld i H x H' → g x σ H' fun σ2 H2=>tb { D with nx:=N,ct:=N,bk:=D.nx } σ2 H2):=by
 refine ⟨fun i m σ H=>m = xs.length - i ∧ i ≤ xs.length ∧ Pv i σ H,⟨xs.length,by simp,Nat.zero_le _,h0⟩,?_⟩
 rintro i m σ H ⟨rfl,hi,p⟩
 have q:=hl i σ H hi p
 by_cases hlt:i < xs.length
 ·refine .inr ⟨⟨xs,xs[i],q,by simp [hlt]⟩,Pv (i + 1),fun σ' H' p'=>⟨xs.length - (i + 1),by lia,rfl,hlt,p'⟩,fun x H' y=>?_⟩
  obtain ⟨e,y⟩:=y
  subst e
  exact hs i x σ _ (y xs q) p
 ·have e:i = xs.length:=by lia
  subst e
  exact .inl ⟨⟨xs,q,Nat.le_refl _⟩,hd σ H p⟩
theorem aE2 {K:PySem.W.Frag} {a:Addr} {xs:List V} {g:TG} {tb:TS} {D:Ends} {σ:St} {H:Hp} (Pv:Nat → St → Hp → Prop) (h0:Pv 0 σ H) (hl:∀ i σ H,i ≤ xs.length → Pv i σ H → SqT K H a xs)
  (hs:∀ i x σ H,xs[i]? = some x → Pv i σ H → g x σ H fun σ2 H2=>tb { D with nx:=Pv (i + 1),ct:=Pv (i + 1),bk:=D.nx } σ2 H2) (hd:∀ σ H,Pv xs.length σ H → D.nx σ H) :
  ∃ W:Nat → Nat → St → Hp → Prop,(∃ m,W 0 m σ H) ∧ ∀ i m σ H,W i m σ H →
   ((Itt K a).stop i H ∧ D.nx σ H) ∨ ((Itt K a).go i H ∧ ∃ N:St → Hp → Prop,(∀ σ' H',N σ' H' → ∃ m',m' < m ∧ W (i + 1) m' σ' H') ∧ ∀ x H',(Itt K a).yld i H x H' → g x σ H' fun σ2 H2=>tb { D with nx:=N,ct:=N,bk:=D.nx } σ2 H2):=by
 refine ⟨fun i m σ H=>m = xs.length - i ∧ i ≤ xs.length ∧ Pv i σ H,⟨xs.length,by simp,Nat.zero_le _,h0⟩,?_⟩
 rintro i m σ H ⟨rfl,hi,p⟩
 have q:=hl i σ H hi p
 by_cases hlt:i < xs.length
 ·refine .inr ⟨⟨xs,xs[i],q,by simp [hlt]⟩,Pv (i + 1),fun σ' H' p'=>⟨xs.length - (i + 1),by lia,rfl,hlt,p'⟩,fun x H' y=>?_⟩
  obtain ⟨e,y⟩:=y
  subst e
  exact hs i x σ _ (y xs q) p
 ·have e:i = xs.length:=by lia
  subst e
  exact .inl ⟨⟨xs,q,Nat.le_refl _⟩,hd σ H p⟩
theorem M8 {lo:Int} {n:Nat} {g:TG} {tb:TS} {D:Ends} {σ:St} {H:Hp} (Pv:Nat → St → Hp → Prop) (h0:Pv 0 σ H)
  (hs:∀ i σ H,i < n → Pv i σ H → g (.int (lo + i)) σ H fun σ2 H2=>tb { D with nx:=Pv (i + 1),ct:=Pv (i + 1),bk:=D.nx } σ2 H2) (hd:∀ σ H,Pv n σ H → D.nx σ H) :
  ∃ W:Nat → Nat → St → Hp → Prop,(∃ m,W 0 m σ H) ∧ ∀ i m σ H,W i m σ H →
   ((Itr lo n).stop i H ∧ D.nx σ H) ∨ ((Itr lo n).go i H ∧ ∃ N:St → Hp → Prop,(∀ σ' H',N σ' H' → ∃ m',m' < m ∧ W (i + 1) m' σ' H') ∧ ∀ x H',(Itr lo n).yld i H x H' → g x σ H' fun σ2 H2=>tb { D with nx:=N,ct:=N,bk:=D.nx } σ2 H2):=by
 refine ⟨fun i m σ H=>m = n - i ∧ i ≤ n ∧ Pv i σ H,⟨n,by simp,Nat.zero_le _,h0⟩,?_⟩
 rintro i m σ H ⟨rfl,hi,p⟩
 by_cases hlt:i < n
 ·refine .inr ⟨hlt,Pv (i + 1),fun σ' H' p'=>⟨n - (i + 1),by lia,rfl,hlt,p'⟩,fun x H' y=>?_⟩
  obtain ⟨e,y⟩:=y
  subst e y
  exact hs i σ _ hlt p
 ·have e:i = n:=by lia
  subst e
  exact .inl ⟨Nat.le_refl _,hd σ H p⟩
end L2
namespace L2
open PySem PySem.Spec PyProof.Rows
abbrev R2:=V → V → Hp → VK → Prop
def OpR (X:Cx) (f:Value → Value → Sem Value) (r:R2):Prop :=
 ∀ (pins:List (Addr × Obj)) (s:Shared) (σ:St) (H:Hp) (x y:V) (v u:Value) (Q:VK),Inv X pins σ H s → n5 x v → n5 y u → r x y H Q →
  wpAny (model X.prog X.w) X.A (f v u) (EP X pins σ Q) X.xe s
def y7 (X:Cx) (f:Value) (r:List V → Hp → VK → Prop):Prop :=
 ∀ (pins:List (Addr × Obj)) (s:Shared) (σ:St) (H:Hp) (xs:List V) (us:List Value) (Q:VK),Inv X pins σ H s → j9 xs us → r xs H Q →
  wpAny (model X.prog X.w) X.A (call f us) (EP X pins σ Q) X.xe s
def a_0 (X:Cx) (r:V → Hp → (Bool → Hp → Prop) → Prop):Prop :=
 ∀ (pins:List (Addr × Obj)) (s:Shared) (σ:St) (H:Hp) (x:V) (v:Value) (Q:Bool → Hp → Prop),Inv X pins σ H s → n5 x v → r x H Q →
  wpAny (model X.prog X.w) X.A (truthy v) (TP X pins σ Q) X.xe s
def tOp (r:R2) (ta tb:TE):TE:=fun σ H Q=>ta σ H fun x H1=>tb σ H1 fun y H2=>r x y H2 Q
def rI (C:Int → Int → Prop) (g:Int → Int → V):R2:=fun x y H Q=>∃ i j,x = .int i ∧ y = .int j ∧ C i j ∧ Q (g i j) H
def rI0 (g:Int → Int → V):R2:=fun x y H Q=>∃ i j,x = .int i ∧ y = .int j ∧ Q (g i j) H
section
variable {X:Cx} {a b c:Expr} {ta tb tc:TE} {pos:Pos}
theorem a06 (ha:PE X a ta) (hb:PE X b tb) {pins:List (Addr × Obj)} {s:Shared} {σ:St} {H:Hp} {R:V → V → Hp → Prop} (I:Inv X pins σ H s)
  (h:ta σ H fun x H1=>tb σ H1 fun y H2=>R x y H2) {Q:Value → Shared → Prop} {f:Value → Value → Sem Value}
  (hf:∀ v u s2 x y H2,Inv X pins σ H2 s2 → n5 x v → n5 y u → R x y H2 → wpAny (model X.prog X.w) X.A (f v u) Q X.xe s2) :
  wpAny (model X.prog X.w) X.A (eval a X.env) (fun v s₁=>wpAny (model X.prog X.w) X.A (eval b X.env) (fun u s₂=>wpAny (model X.prog X.w) X.A (f v u) Q X.xe s₂) X.xe s₁) X.xe s:=by
 refine thn (ha pins s σ H _ I h) fun v s1 ⟨x,H1,I1,r1,q1⟩=>?_
 refine thn (hb pins s1 σ H1 _ I1 q1) fun u s2 ⟨y,H2,I2,r2,q2⟩=>?_
 exact hf v u s2 x y H2 I2 r1 r2 q2
theorem i6 {op:Operator} {r:R2} (ho:OpR X (binaryOp op) r) (ha:PE X a ta) (hb:PE X b tb):PE X (.BinOp a op b pos) (tOp r ta tb):=by
 intro pins s σ H Q I h
 exact wpAny_BinOp (a06 ha hb I h fun v u s2 x y H2 I2 rx ry q=>ho pins s2 σ H2 x y v u Q I2 rx ry q)
theorem opI {f:Value → Value → Sem Value} {C:Int → Int → Prop} {g:Int → Int → Int}
  (rule:∀ (i j:Int) (t u:Tok) (s:Shared) (Q:Value → Shared → Prop) (E:Value → Shared → Prop),C i j → Q (.int (g i j) s.toks) { s with toks:=s.toks + 1 } → wpAny (model X.prog X.w) X.A (f (.int i t) (.int j u)) Q E s) :
  OpR X f (rI C fun i j=>.int (g i j)):=by
 intro pins s σ H x y v u Q I rx ry h
 obtain ⟨i,j,rfl,rfl,hc,q⟩:=h
 obtain ⟨t,rfl⟩:=rx
 obtain ⟨t',rfl⟩:=ry
 exact rule i j t t' s _ _ hc ⟨.int (g i j),H,I.tok _,⟨_,rfl⟩,q⟩
theorem aS6 {f:Value → Value → Sem Value} {g:Int → Int → Int}
  (rule:∀ (i j:Int) (t u:Tok) (s:Shared) (Q:Value → Shared → Prop) (E:Value → Shared → Prop),Q (.int (g i j) s.toks) { s with toks:=s.toks + 1 } → wpAny (model X.prog X.w) X.A (f (.int i t) (.int j u)) Q E s) :
  OpR X f (rI0 fun i j=>.int (g i j)):=by
 intro pins s σ H x y v u Q I rx ry h
 obtain ⟨i,j,rfl,rfl,q⟩:=h
 obtain ⟨t,rfl⟩:=rx
 obtain ⟨t',rfl⟩:=ry
 exact rule i j t t' s _ _ ⟨.int (g i j),H,I.tok _,⟨_,rfl⟩,q⟩
theorem aW2 {f:Value → Value → Sem Value} {g:Int → Int → Bool}
  (rule:∀ (i j:Int) (t u:Tok) (s:Shared) (Q:Value → Shared → Prop) (E:Value → Shared → Prop),Q (.bool (g i j)) s → wpAny (model X.prog X.w) X.A (f (.int i t) (.int j u)) Q E s) :
  OpR X f (rI0 fun i j=>.bl (g i j)):=by
 intro pins s σ H x y v u Q I rx ry h
 obtain ⟨i,j,rfl,rfl,q⟩:=h
 obtain ⟨t,rfl⟩:=rx
 obtain ⟨t',rfl⟩:=ry
 exact rule i j t t' s _ _ ⟨.bl (g i j),H,I,rfl,q⟩
def a74 (i j:Int):Prop:=0 < j ∧ j < 1073741824
def a79 (i j:Int):Prop:=0 ≤ j ∧ j ≤ 1000000 ∧ i.natAbs < 2 ^ 64
def a08 (i j:Int):Prop:=(-(2 ^ 64) < i ∧ i < 2 ^ 64) ∨ (-(2 ^ 64) < j ∧ j < 2 ^ 64)
theorem a08.ok {i j:Int} (h:a08 i j):IntMulOk i j:=by
 rcases h with ⟨h1,h2⟩ | ⟨h1,h2⟩
 ·exact .of_left (intBits_le_64 h1 h2)
 ·exact .of_right (intBits_le_64 h1 h2)
theorem aw8 (k:Nat):(0:Int) ≤ 2 ^ k:=by
 rw [two_pow_cast]
 exact Int.natCast_nonneg _
theorem A4:OpR X (binaryOp .Add) (rI0 fun i j=>.int (i + j)):=aS6 fun _ _ _ _ _ _ _ q=>add_int q
theorem al8:OpR X (binaryOp .Sub) (rI0 fun i j=>.int (i - j)):=aS6 fun _ _ _ _ _ _ _ q=>sub_int q
theorem K7:OpR X (binaryOp .Mult) (rI a08 fun i j=>.int (i * j)):=opI fun _ _ _ _ _ _ _ hc q=>mul_int q hc.ok
theorem x6:OpR X (binaryOp .FloorDiv) (rI a74 fun i j=>.int (i / j)):=opI fun i j _ _ _ _ _ hc q=>by
 have h1:(0:Int) < j:=hc.1
 have h2:j < 1073741824:=hc.2
 exact floordiv_int (by lia) (by rw [Int.fdiv_eq_ediv_of_nonneg i (by lia)]; exact q) (.inl (PyProof.noPylong_small (by lia)))
theorem p8:OpR X (binaryOp .Mod) (rI (fun _ j=>0 < j) fun i j=>.int (i % j)):=opI fun i j _ _ _ _ _ hc q=>by
 have h1:(0:Int) < j:=hc
 exact mod_int' (by lia) (by rw [Int.fmod_eq_emod_of_nonneg i (by lia)]; exact q)
theorem aP4:OpR X (binaryOp .LShift) (rI a79 fun i j=>.int (i * 2 ^ j.toNat)):=opI fun _ _ _ _ _ _ _ hc q=>lshift_int_small hc.1 hc.2.1 hc.2.2 q
theorem aw7:OpR X (binaryOp .RShift) (rI (fun _ j=>0 ≤ j) fun i j=>.int (i / 2 ^ j.toNat)):=opI fun i j _ _ _ _ _ hc q =>
 rshift_int hc (by rw [Int.fdiv_eq_ediv_of_nonneg i (aw8 _)]; exact q)
theorem aY3:OpR X (binaryOp .BitAnd) (rI0 fun i j=>.int (Builtin.bitAnd i j)):=aS6 fun _ _ _ _ _ _ _ q=>and_int q
theorem aV7:OpR X (inplaceOp .Add) (rI0 fun i j=>.int (i + j)):=aS6 fun _ _ _ _ _ _ _ q=>iadd_int q
end
def a96:V → V → Bool
 | .non,.non=>true | .non,.int _=>true | .int _,.non=>true | .non,.bl _=>true | .bl _,.non=>true | .non,.str _=>true | .str _,.non=>true
 | .int _,.int _=>true | .bl _,.bl _=>true | .str _,.str _=>true | .byt _,.byt _=>true
 | .int _,.str _=>true | .str _,.int _=>true | .bl _,.str _=>true | .str _,.bl _=>true
 | _,_=>false
def rEq:R2:=fun x y H Q=>a96 x y = true ∧ Q (.bl (decide (x = y))) H
def rNe:R2:=fun x y H Q=>a96 x y = true ∧ Q (.bl (!decide (x = y))) H
theorem aA6 {i j:Int}:decide (V.int i = V.int j) = (i == j):=by
 rw [Bool.eq_iff_iff]
 simp
theorem aM0 {i j:Bool}:decide (V.bl i = V.bl j) = (i == j):=by
 rw [Bool.eq_iff_iff]
 simp
theorem aC6 {i j:Str}:decide (V.str i = V.str j) = (i == j):=by
 rw [Bool.eq_iff_iff]
 simp
theorem aA7 {i j:Array UInt8}:decide (V.byt i = V.byt j) = (i.toList == j.toList):=by
 rw [Bool.eq_iff_iff]
 cases i
 cases j
 simp
section
variable {X:Cx} {a b c:Expr} {ta tb tc:TE} {pos:Pos}
theorem o7 {pins:List (Addr × Obj)} {σ:St} {H:Hp} {s:Shared} {Q:VK} {k k':Bool} (I:Inv X pins σ H s) (q:Q (.bl k) H) (e:k = k'):EP X pins σ Q (.bool k') s:=by
 subst e
 exact ⟨.bl k,H,I,rfl,q⟩
theorem S1:OpR X (compareOp .Eq) rEq:=by
 intro pins s σ H x y v u Q I rx ry h
 obtain ⟨hs,q⟩:=h
 cases x with
 | non =>
  cases rx
  cases y with
  | non=>cases ry; exact PySem.EqNone.eq_none_none (o7 I q (by simp))
  | bl j=>cases ry; exact PySem.EqNone.eq_none_bool (o7 I q (by simp))
  | int j=>obtain ⟨t',rfl⟩:=ry; exact PySem.EqNone.eq_none_int (o7 I q (by simp))
  | str j=>obtain ⟨t',rfl⟩:=ry; exact PySem.EqNone.eq_none_str (o7 I q (by simp))
  | _=>exact absurd (show false = true from hs) Bool.false_ne_true
 | bl i =>
  cases rx
  cases y with
  | non=>cases ry; exact PySem.EqNone.eq_bool_none (o7 I q (by simp))
  | bl j=>cases ry; exact eq_bool (o7 I q aM0)
  | str j=>obtain ⟨t',rfl⟩:=ry; exact PySem.EqMixed.eq_bool_str (o7 I q (by simp))
  | _=>exact absurd (show false = true from hs) Bool.false_ne_true
 | int i =>
  obtain ⟨t,rfl⟩:=rx
  cases y with
  | non=>cases ry; exact PySem.EqNone.eq_int_none (o7 I q (by simp))
  | int j=>obtain ⟨t',rfl⟩:=ry; exact eq_int (o7 I q aA6)
  | str j=>obtain ⟨t',rfl⟩:=ry; exact PySem.EqMixed.eq_int_str (o7 I q (by simp))
  | _=>exact absurd (show false = true from hs) Bool.false_ne_true
 | str i =>
  obtain ⟨t,rfl⟩:=rx
  cases y with
  | non=>cases ry; exact PySem.EqNone.eq_str_none (o7 I q (by simp))
  | bl j=>cases ry; exact PySem.EqMixed.eq_str_bool (o7 I q (by simp))
  | int j=>obtain ⟨t',rfl⟩:=ry; exact PySem.EqMixed.eq_str_int (o7 I q (by simp))
  | str j=>obtain ⟨t',rfl⟩:=ry; exact eq_str (o7 I q aC6)
  | _=>exact absurd (show false = true from hs) Bool.false_ne_true
 | byt i =>
  obtain ⟨t,rfl⟩:=rx
  cases y with
  | byt j=>obtain ⟨t',rfl⟩:=ry; exact PySem.W.eq_bytes (o7 I q aA7)
  | _=>exact absurd (show false = true from hs) Bool.false_ne_true
 | _=>cases y <;> exact absurd (show false = true from hs) Bool.false_ne_true
theorem am6:OpR X (compareOp .NotEq) rNe:=by
 intro pins s σ H x y v u Q I rx ry h
 obtain ⟨hs,q⟩:=h
 cases x with
 | non =>
  cases rx
  cases y with
  | non=>cases ry; exact PySem.EqNone.ne_none_none (o7 I q (by simp))
  | bl j=>cases ry; exact PySem.EqNone.ne_none_bool (o7 I q (by simp))
  | int j=>obtain ⟨t',rfl⟩:=ry; exact PySem.EqNone.ne_none_int (o7 I q (by simp))
  | str j=>obtain ⟨t',rfl⟩:=ry; exact PySem.EqNone.ne_none_str (o7 I q (by simp))
  | _=>exact absurd (show false = true from hs) Bool.false_ne_true
 | bl i =>
  cases rx
  cases y with
  | non=>cases ry; exact PySem.EqNone.ne_bool_none (o7 I q (by simp))
  | bl j=>cases ry; exact ne_bool (o7 I q (congrArg not aM0))
  | str j=>obtain ⟨t',rfl⟩:=ry; exact PySem.EqMixed.ne_bool_str (o7 I q (by simp))
  | _=>exact absurd (show false = true from hs) Bool.false_ne_true
 | int i =>
  obtain ⟨t,rfl⟩:=rx
  cases y with
  | non=>cases ry; exact PySem.EqNone.ne_int_none (o7 I q (by simp))
  | int j=>obtain ⟨t',rfl⟩:=ry; exact ne_int (o7 I q (congrArg not aA6))
  | str j=>obtain ⟨t',rfl⟩:=ry; exact PySem.EqMixed.ne_int_str (o7 I q (by simp))
  | _=>exact absurd (show false = true from hs) Bool.false_ne_true
 | str i =>
  obtain ⟨t,rfl⟩:=rx
  cases y with
  | non=>cases ry; exact PySem.EqNone.ne_str_none (o7 I q (by simp))
  | bl j=>cases ry; exact PySem.EqMixed.ne_str_bool (o7 I q (by simp))
  | int j=>obtain ⟨t',rfl⟩:=ry; exact PySem.EqMixed.ne_str_int (o7 I q (by simp))
  | str j=>obtain ⟨t',rfl⟩:=ry; exact ne_str (o7 I q (congrArg not aC6))
  | _=>exact absurd (show false = true from hs) Bool.false_ne_true
 | byt i =>
  obtain ⟨t,rfl⟩:=rx
  cases y with
  | byt j=>obtain ⟨t',rfl⟩:=ry; exact PySem.W.ne_bytes (o7 I q (congrArg not aA7))
  | _=>exact absurd (show false = true from hs) Bool.false_ne_true
 | _=>cases y <;> exact absurd (show false = true from hs) Bool.false_ne_true
theorem aX1:OpR X (compareOp .Lt) (rI0 fun i j=>.bl (decide (i < j))):=aW2 fun _ _ _ _ _ _ _ q=>lt_int q
theorem aX8:OpR X (compareOp .LtE) (rI0 fun i j=>.bl (decide (i ≤ j))):=aW2 fun _ _ _ _ _ _ _ q=>le_int q
theorem aX5:OpR X (compareOp .Gt) (rI0 fun i j=>.bl (decide (j < i))):=aW2 fun _ _ _ _ _ _ _ q=>gt_int q
theorem a72:OpR X (compareOp .GtE) (rI0 fun i j=>.bl (decide (j ≤ i))):=aW2 fun _ _ _ _ _ _ _ q=>ge_int q
theorem aY5:OpR X (compareOp .Is) (fun x y H Q=>y = .non ∧ Q (.bl (decide (x = .non))) H):=by
 intro pins s σ H x y v u Q I rx ry h
 obtain ⟨rfl,q⟩:=h
 cases ry
 refine is_none_gen (o7 I q ?_)
 cases x <;> first
  | (cases rx; rfl)
  | (obtain ⟨t,rfl⟩:=rx; rfl)
theorem am5:OpR X (compareOp .IsNot) (fun x y H Q=>y = .non ∧ Q (.bl (!decide (x = .non))) H):=by
 intro pins s σ H x y v u Q I rx ry h
 obtain ⟨rfl,q⟩:=h
 cases ry
 refine isnot_none_gen (o7 I q ?_)
 cases x <;> first
  | (cases rx; rfl)
  | (obtain ⟨t,rfl⟩:=rx; rfl)
theorem n9 (b:Expr) {op:CmpOp} (h:op ≠ .In:=by decide) (h2:op ≠ .NotIn:=by decide):behindInMarks op b = false:=by
 have e1:(op == CmpOp.In) = false:=by cases op <;> first | rfl | exact absurd rfl h
 have e2:(op == CmpOp.NotIn) = false:=by cases op <;> first | rfl | exact absurd rfl h2
 cases b <;> simp [behindInMarks,e1,e2]
theorem ai3 {op:CmpOp} {r:R2} (ho:OpR X (compareOp op) r) (ha:PE X a ta) (hb:PE X b tb) (hm:behindInMarks op b = false):PE X (.Compare a [op] [b] pos) (tOp r ta tb):=by
 intro pins s σ H Q I h
 exact wpAny_Compare1 (a06 ha hb I h fun v u s2 x y H2 I2 rx ry q=>ho pins s2 σ H2 x y v u Q I2 rx ry q) hm
def a73 (t:TE):TT:=fun σ H Q=>t σ H fun x H'=>∃ k,x = .bl k ∧ Q k H'
theorem m7 {op:CmpOp} {r:R2} (ho:OpR X (compareOp op) r) (ha:PE X a ta) (hb:PE X b tb) (hm:behindInMarks op b = false):PT X (.Compare a [op] [b] pos) (a73 (tOp r ta tb)):=by
 intro pins s σ H Q I h
 refine wpAny_isTrue_Compare1 (thn (ha pins s σ H _ I h) fun v s1 ⟨x,H1,I1,r1,q1⟩=>thn (hb pins s1 σ H1 _ I1 q1) fun u s2 ⟨y,H2,I2,r2,q2⟩ =>
  thn (ho pins s2 σ H2 x y v u _ I2 r1 r2 q2) fun c s3 ⟨z,H3,I3,r3,k,e,q3⟩=>?_) hm
 subst e
 cases r3
 exact wpAny_truthy_bool ⟨H3,I3,q3⟩
def aZ0 (r r':R2) (ta tb tc:TE):TE:=fun σ H Q=>ta σ H fun x H1=>tb σ H1 fun y H2=>r x y H2 fun z H3=>∃ k,z = .bl k ∧
 (if k = true then tc σ H3 fun w' H4=>r' y w' H4 Q else Q (.bl false) H3)
theorem aK9 {op op':CmpOp} {r r':R2} (ho:OpR X (compareOp op) r) (ho':OpR X (compareOp op') r') (ha:PE X a ta) (hb:PE X b tb) (hc:PE X c tc)
  (hm:lastMarks [op,op'] [b,c] = false:=by with_unfolding_all rfl):PE X (.Compare a [op,op'] [b,c] pos) (aZ0 r r' ta tb tc):=by
 intro pins s σ H Q I h
 refine Compare_chain (thn (ha pins s σ H _ I h) fun v s1 ⟨x,H1,I1,r1,q1⟩=>chain_link (thn (hb pins s1 σ H1 _ I1 q1) fun u s2 ⟨y,H2,I2,r2,q2⟩ =>
  thn (ho pins s2 σ H2 x y v u _ I2 r1 r2 q2) fun d s3 ⟨z,H3,I3,r3,k,e,q3⟩=>?_)) hm
 subst e
 cases r3
 refine wpAny_truthy_bool ?_
 cases k with
 | false=>exact ite_ff ⟨.bl false,H3,I3,rfl,q3⟩
 | true=>exact ite_tt (chain_last (thn (hc pins s3 σ H3 _ I3 q3) fun w' s4 ⟨z',H4,I4,r4,q4⟩=>ho' pins s4 σ H4 y z' u w' Q I4 r2 r4 q4))
def a59 (K:PySem.W.Frag) (x:V) (H:Hp) (k:Bool):Prop :=
 match x with
 | .non=>k = false
 | .bl b=>k = b
 | .int i=>k = (i != 0)
 | .str y=>y.length ≤ sizeLine ∧ k = ((y.length:Int) != 0)
 | .byt y=>y.size ≤ sizeLine ∧ k = ((y.size:Int) != 0)
 | .ref p=>(∃ xs,SqL K H p xs ∧ k = !xs.isEmpty) ∨ (∃ xs,SqT K H p xs ∧ k = !xs.isEmpty) ∨ ∃ kvs,H p = some (.dK kvs) ∧ k = !kvs.isEmpty
 | _=>False
theorem az9 {κ:Type} {kvs:List (κ × V)} {vs:List (κ × Value)} (r:KV kvs vs):(!vs.isEmpty) = !kvs.isEmpty:=by
 cases r <;> rfl
theorem aa7 {xs:List V} {its:List Value} (r:j9 xs its):(!its.toArray.isEmpty) = !xs.isEmpty:=by
 cases r <;> simp
theorem ab1:(sizeLine:Nat) < 2 ^ 63:=by rw [sizeLine_eq]; decide
theorem aZ2:a_0 X (fun x H Q=>∃ k,a59 X.K x H k ∧ Q k H):=by
 intro pins s σ H x v Q I rx h
 obtain ⟨k,e,q⟩:=h
 have hl:=ab1
 have hs:sizeLine = 16777216:=sizeLine_eq
 cases x with
 | non =>
  cases rx
  have e':k = false:=e
  subst e'
  exact truthy_none ⟨H,I,q⟩
 | bl b =>
  cases rx
  have e':k = b:=e
  subst e'
  exact wpAny_truthy_bool ⟨H,I,q⟩
 | int i =>
  obtain ⟨t,rfl⟩:=rx
  have e':k = (i != 0):=e
  subst e'
  exact PySem.P.truthy_int ⟨H,I,q⟩
 | str y =>
  obtain ⟨t,rfl⟩:=rx
  obtain ⟨hy,e'⟩:y.length ≤ sizeLine ∧ k = ((y.length:Int) != 0):=e
  subst e'
  exact PySem.P.truthy_str (by lia) ⟨H,I.tok _,q⟩
 | byt y =>
  obtain ⟨t,rfl⟩:=rx
  obtain ⟨hy,e'⟩:y.size ≤ sizeLine ∧ k = ((y.size:Int) != 0):=e
  subst e'
  exact PySem.W.truthy_bytes (by lia) ⟨H,I.tok _,q⟩
 | ref p =>
  cases rx
  have e':(∃ xs,SqL X.K H p xs ∧ k = !xs.isEmpty) ∨ (∃ xs,SqT X.K H p xs ∧ k = !xs.isEmpty) ∨ ∃ kvs,H p = some (.dK kvs) ∧ k = !kvs.isEmpty:=e
  rcases e' with ⟨xs,hx,e'⟩ | ⟨xs,hx,e'⟩ | ⟨kvs,hx,e'⟩
  ·subst e'
   obtain ⟨its,r,pl,hz⟩:=I.list hx
   have hlen:=r.length
   exact wpAny_truthy_list pl.isList (by simp only [List.size_toArray]; lia) ⟨H,I.tok _,by rw [aa7 r]; exact q⟩
  ·subst e'
   obtain ⟨its,r,pl,hz⟩:=I.tuple hx
   have hlen:=r.length
   exact truthy_tuple pl (by simp only [List.size_toArray]; lia) ⟨H,I.tok _,by rw [aa7 r]; exact q⟩
  ·subst e'
   obtain ⟨hz,hS,vs,r,m⟩:kvs.length ≤ sizeLine ∧ (p == sysModules) = false ∧ ∃ vs,KV kvs vs ∧ s.heap.DictOf (u7 X.prog X.w) p vs:=I.hok p _ hx
   have hlen:kvs.length = vs.length:=Paired.length r
   exact wpAny_truthy_dict hS m (by lia) ⟨H,I.tok _,by rw [az9 r]; exact q⟩
 | _=>exact (show False from e).elim
theorem aM4 (ha:PE X a ta) (he:∀ whole,isTrue a X.env whole = (do let v ← whole; standAt a.pos; holding [v] (truthy v))) :
  PT X a (fun σ H Q=>ta σ H fun x H'=>∃ k,a59 X.K x H' k ∧ Q k H'):=by
 intro pins s σ H Q I h
 exact isTrue_plain (thn (ha pins s σ H _ I h) fun v s1 ⟨x,H1,I1,r1,q1⟩=>aZ2 pins s1 σ H1 x v Q I1 r1 q1) (he _)
theorem K4 {x:V} {us:List Value} (r:j9 [x] us):∃ u,us = [u] ∧ n5 x u:=by
 cases r with
 | cons r1 r2=>cases r2; exact ⟨_,rfl,r1⟩
theorem as5 {x y:V} {us:List Value} (r:j9 [x,y] us):∃ u w',us = [u,w'] ∧ n5 x u ∧ n5 y w':=by
 cases r with
 | cons r1 r2 =>
  cases r2 with
  | cons r3 r4=>cases r4; exact ⟨_,_,rfl,r1,r3⟩
theorem aa4:y7 X (.builtin "abs") (fun xs H Q=>∃ i,xs = [.int i] ∧ Q (.int (if i < 0 then -i else i)) H):=by
 intro pins s σ H xs us Q I r h
 obtain ⟨i,rfl,q⟩:=h
 obtain ⟨u,rfl,t,rfl⟩:=K4 r
 exact call_abs_int fun u tk=>⟨.int (if i < 0 then -i else i),H,I.tok _,⟨_,rfl⟩,q⟩
theorem V6 (hc:X.calm = true):y7 X (.builtin "min") (fun xs H Q=>∃ i j,xs = [.int i,.int j] ∧ Q (.int (if j < i then j else i)) H):=by
 intro pins s σ H xs us Q I r h
 obtain ⟨i,j,rfl,q⟩:=h
 obtain ⟨u,w',rfl,⟨t,rfl⟩,⟨t',rfl⟩⟩:=as5 r
 refine min_two_ints (I.ok.hd hc) fun h' tk k=>⟨_,H,I.kept k,?_,q⟩
 by_cases hj:j < i
 ·rw [if_pos hj,if_pos hj]; exact ⟨_,rfl⟩
 ·rw [if_neg hj,if_neg hj]; exact ⟨_,rfl⟩
theorem P3:y7 X (.builtin "divmod") (fun xs H Q=>∃ i j,xs = [.int i,.int j] ∧ a74 i j ∧ ∀ p,H p = none → Q (.ref p) (upd H p (.tup [.int (i / j),.int (i % j)]))):=by
 intro pins s σ H xs us Q I r h
 obtain ⟨i,j,rfl,⟨h1,h2⟩,q⟩:=h
 obtain ⟨u,w',rfl,⟨t,rfl⟩,⟨t',rfl⟩⟩:=as5 r
 refine divmod_int (by lia) ?_ (.inl (PyProof.noPylong_small (by lia)))
 rw [Int.fdiv_eq_ediv_of_nonneg i (by lia),Int.fmod_eq_emod_of_nonneg i (by lia)]
 have hn:H s.heap.objs.size = none:=I.hok.fresh (Nat.le_refl _)
 refine ⟨.ref s.heap.objs.size,_,?_,rfl,q _ hn⟩
 refine I.laid (fun b o e=>Heap.get?_push_of_some _ e) (Nat.le_refl _) ⟨by simp only [List.length_cons,List.length_nil]; rw [sizeLine_eq]; decide,[.int (i / j) s.toks,.int (i % j) (s.toks + 1)],.cons ⟨_,rfl⟩ (.cons ⟨_,rfl⟩ .nil),?_⟩
 exact ⟨_,Heap.get?_push_size s.heap rfl,rfl,0,rfl⟩
end
end L2
namespace L2
open PySem PySem.Spec PyProof.Rows
structure ObjM (h:Heap) (x dx C:Addr) (mA:Str → Option Value):Prop where
 obj:h.get? x = some (PySem.W.instObj C dx)
 ns:h.Ns1 dx mA
 ne:dx ≠ x
theorem W8 {h:Heap} {dx:Addr} {mA:Str → Option Value} (n:h.Ns1 dx mA):∃ od,h.get? dx = some od ∧ ∀ name,PySem.W.lookIn name od = some (mA name):=by
 obtain ⟨o,es,ep,ho,hd,hk,_,hm⟩:=n
 refine ⟨o,ho,fun name=>?_⟩
 have e:=hm name
 unfold nsFind findBy at e
 rw [← Array.find?_toList] at e
 unfold PySem.W.lookIn
 rw [hd]
 dsimp only
 split
 ·rename_i y q
  rw [q] at e
  exact congrArg some e
 ·rename_i q
  rw [q] at e
  have a:es.toList.any (·.refKey) = false:=by
   rw [List.any_eq_false]
   intro y hy
   obtain ⟨z,t,hkey⟩:=hk y (Array.mem_toList_iff.mp hy)
   simp [DictEntry.refKey,hkey]
  have a':¬ es.toList.any (·.refKey) = true:=by rw [a]; exact Bool.false_ne_true
  rw [if_neg a']
  exact congrArg some e
theorem ObjM.look {h:Heap} {x dx C:Addr} {mA:Str → Option Value} (I:ObjM h x dx C mA):∃ od,PySem.W.InstAt h x (PySem.W.instObj C dx) C (some od) ∧ ∀ name,PySem.W.lookIn name od = some (mA name) :=
 let ⟨od,ho,hl⟩:=W8 I.ns
 ⟨od,⟨I.obj,rfl,rfl,ho⟩,hl⟩
theorem P1.some_of {v:V} {o:Option Value} (r:P1 (some v) o):∃ u,o = some u ∧ n5 v u:=by
 cases o with
 | none=>exact (show False from r).elim
 | some u=>exact ⟨u,rfl,r⟩
theorem aI2 {v:V} {u:Value} (r:n5 v u):PySem.W.handedIn u = true:=by
 cases v with
 | non=>cases (show u = Value.none from r); rfl
 | bl b=>cases (show u = Value.bool b from r); rfl
 | int i=>obtain ⟨t,e⟩:=(show ∃ t,u = Value.int i t from r); cases e; rfl
 | str x=>obtain ⟨t,e⟩:=(show ∃ t,u = Value.str x t from r); cases e; rfl
 | byt b=>obtain ⟨t,e⟩:=(show ∃ t,u = Value.bytes b t from r); cases e; rfl
 | flt b=>obtain ⟨t,e⟩:=(show ∃ t,u = Value.float b t from r); cases e; rfl
 | ref a=>cases (show u = Value.ref a from r); rfl
 | ty n=>cases (show u = Value.type n from r); rfl
section
variable {P:Program} {w:World} {H H':Hp} {h h':Heap} {a C dx:Addr} {fs fs':List (Str × V)}
theorem aW0 (hok:HOk P w H h) (e:H a = some (.ins C dx fs)):∃ mA,ObjM h a dx C mA ∧ (∀ f,P1 (fs.lookup f) (mA f)) ∧ PySem.Within mA (fs.map (·.1)) ∧ fs.length ≤ 1000 ∧ H dx = some (.own a):=by
 obtain ⟨d,z,ne,ob,mA,n,r,q⟩:=(show m5 P w H h a (.ins C dx fs) from hok a _ e)
 exact ⟨mA,⟨ob,n,ne⟩,r,q,z,d⟩
end
structure Cls (K:PySem.W.Frag) (C:Addr):Prop where
 pg:PySem.W.plainGet K C Str.empty = true
 hd:PySem.W.hasDictIn K C = true
 po:PySem.W.plainOver K C = true
 sa:PySem.W.findIn K (.ref C) "__setattr__" = some (some (.builtin "object.__setattr__"))
theorem Cls.get {K:PySem.W.Frag} {C:Addr} (c:Cls K C) (f:Str):PySem.W.plainGet K C f = true:=c.pg
structure Meth (K:PySem.W.Frag) (C:Addr) (m:Str) (f:Addr):Prop where
 at_:PySem.W.findIn K (.ref C) m = some (some (.ref f))
 fn:PySem.W.isFn K (.ref f) = true
 kp:PySem.W.keepIn K (.ref f) = true
section
variable {X:Cx} {pins:List (Addr × Obj)} {σ:St} {H:Hp} {s:Shared} {a C dx:Addr} {fs:List (Str × V)} {f:Str} {v:V} {A:Around} {E:Value → Shared → Prop}
theorem aV4 {prog:Program} {w:World} {env:Env} {e:Expr} {f:Str} {pos:Pos} {s:Shared} {Q:Value → Shared → Prop} (hb:attributeBase e f env (eval e env) = eval e env)
  (h:wpAny (model prog w) A (eval e env) (fun o s₁=>wpAny (model prog w) A (getAttr o f true) Q E s₁) E s):wpAny (model prog w) A (eval (.Attribute e f pos) env) Q E s :=
 Attribute_any_ h (by rw [arm_eval_Attribute,hb])
end
section
variable {X:Cx} {pins:List (Addr × Obj)} {σ:St} {H:Hp} {s:Shared} {A:Around} {E:Value → Shared → Prop} {Q:Value → Shared → Prop} {c:Value} {b:Bool}
inductive TyOf (K:PySem.W.Frag) (H:Hp):V → Value → Prop where
 | non:TyOf K H .non (.type "NoneType")
 | bl (x:Bool):TyOf K H (.bl x) (.type "bool")
 | int (i:Int):TyOf K H (.int i) (.type "int")
 | str (x:Str):TyOf K H (.str x) (.type "str")
 | flt (x:UInt64):TyOf K H (.flt x) (.type "float")
 | lst {a:Addr} {xs:List V} (e:H a = some (.lst xs)):TyOf K H (.ref a) (.type "list")
 | frz {a:Addr} {o:Obj} {xs:List V} (e:H a = some (.frz o (.lst xs))):TyOf K H (.ref a) (.type "list")
 | tup {a:Addr} {xs:List V} (e:H a = some (.tup xs)):TyOf K H (.ref a) (.type "tuple")
 | dK {a:Addr} {kvs:List (Key × V)} (e:H a = some (.dK kvs)):TyOf K H (.ref a) (.type "dict")
 | dT {a:Addr} {kvs:List (List Key × V)} (e:H a = some (.dT kvs)):TyOf K H (.ref a) (.type "dict")
 | ins {a C dx:Addr} {fs:List (Str × V)} (e:H a = some (.ins C dx fs)) (cl:Cls K C) (ha:PySem.W.findIn K (.ref C) "__class__" = some (some (.builtin "object.__class__")))
   (hn:PySem.W.specialIn K (.builtin "object.__class__") "__get__" = some (some (.builtin "getset_descriptor.__get__"))) (htk:PySem.W.takesIn K (.builtin "object.__class__") = some true)
   (hm:PySem.W.mroIn K C (.type "object") = some true):TyOf K H (.ref a) (.ref C)
theorem aI3 {x:V} {u t:Value} (I:Inv X pins σ H s) (rx:n5 x u) (ty:TyOf X.K H x t) (e:PySem.W.kitOne X.K t c = some b) (h:∀ tk,Q (.bool b) { s with toks:=tk }) :
  wpAny (model X.prog X.w) A (call (.builtin "isinstance") [u,c]) Q E s:=by
 cases ty with
 | non=>cases (show u = Value.none from rx); exact PySem.W.kia_one PySem.W.kitx_none I.kIn True.intro e (fun z=>nomatch z) h
 | bl y=>cases (show u = Value.bool y from rx); exact PySem.W.kia_one PySem.W.kitx_bool I.kIn True.intro e (fun z=>nomatch z) h
 | int i=>obtain ⟨t,q⟩:=(show ∃ t,u = Value.int i t from rx); cases q; exact PySem.W.kia_one PySem.W.kitx_int I.kIn True.intro e (fun z=>nomatch z) h
 | str y=>obtain ⟨t,q⟩:=(show ∃ t,u = Value.str y t from rx); cases q; exact PySem.W.kia_one PySem.W.kitx_str I.kIn True.intro e (fun z=>nomatch z) h
 | flt y=>obtain ⟨t,q⟩:=(show ∃ t,u = Value.float y t from rx); cases q; exact PySem.W.kia_one PySem.W.kitx_float I.kIn True.intro e (fun z=>nomatch z) h
 | @lst a xs ea =>
  cases (show u = Value.ref a from rx)
  obtain ⟨_,_,n,_,h1⟩:=(show m5 X.prog X.w H s.heap a (.lst xs) from I.hok a _ ea)
  exact PySem.W.kia_one PySem.W.kitx_list I.kIn ⟨_,h1,rfl⟩ e (fun z=>nomatch z) h
 | @frz a ob xs ea =>
  cases (show u = Value.ref a from rx)
  obtain ⟨_,_,_,n,_,h1⟩:=(show m5 X.prog X.w H s.heap a (.frz ob (.lst xs)) from I.hok a _ ea)
  exact PySem.W.kia_one PySem.W.kitx_list I.kIn ⟨_,h1,rfl⟩ e (fun z=>nomatch z) h
 | @tup a xs ea =>
  cases (show u = Value.ref a from rx)
  obtain ⟨_,_,_,p⟩:=(show m5 X.prog X.w H s.heap a (.tup xs) from I.hok a _ ea)
  obtain ⟨o,h1,h2,_⟩:=p
  exact PySem.W.kia_one PySem.W.kitx_tuple I.kIn ⟨o,h1,h2⟩ e (fun z=>nomatch z) h
 | @dK a kvs ea =>
  cases (show u = Value.ref a from rx)
  obtain ⟨_,_,vs,_,p⟩:=(show m5 X.prog X.w H s.heap a (.dK kvs) from I.hok a _ ea)
  obtain ⟨o,es,ep,h1,h2,_⟩:=p
  exact PySem.W.kia_one PySem.W.kitx_dict I.kIn ⟨o,h1,h2.1⟩ e (fun z=>nomatch z) h
 | @dT a kvs ea =>
  cases (show u = Value.ref a from rx)
  obtain ⟨_,_,xs,_,o,es,ep,h1,h2,_⟩:=(show m5 X.prog X.w H s.heap a (.dT kvs) from I.hok a _ ea)
  exact PySem.W.kia_one PySem.W.kitx_dict I.kIn ⟨o,h1,h2.1⟩ e (fun z=>nomatch z) h
 | @ins a C dx fs ea cl ha hn htk hm =>
  cases (show u = Value.ref a from rx)
  obtain ⟨mA,O,_⟩:=aW0 I.hok ea
  obtain ⟨od,J,_⟩:=O.look
  exact PySem.W.kia_one (PySem.W.kitx_own (cl.get _) cl.hd ha hn htk hm) I.kIn J e (fun z=>nomatch z) h
end
end L2
namespace L2
open PySem PySem.Spec PyProof.Rows
structure Room (k:Nat) (A:Around):Prop where
 hd:A.handled = none
 dp:A.depth + 3 * k + 5 < recursionLimit
 un:A.units + 16 * k + 200 < cLine
theorem Room.mono {j k:Nat} {A:Around} (r:Room k A) (h:j ≤ k):Room j A:=⟨r.hd,by have:=r.dp; lia,by have:=r.un; lia⟩
theorem Room.deeper {k:Nat} {A:Around} (r:Room (k + 1) A) (env:Env):Room k (A.deeper env) :=
 ⟨r.hd,by have:=r.dp; show A.depth + 1 + 3 * k + 5 < _; lia,by have:=r.un; show A.units + 3 + 16 * k + 200 < _; lia⟩
theorem ay5 {A:Around} {C:Addr} {us:List Value} {kw:List (Str × Value)}:(A.under (.builtin "type.__call__" ⟨.ref C :: us,kw⟩)).depth = A.depth + 1:=by
 first | rfl | simp [Around.under,Code.weight,Code.isCreation,Code.isGuard,Code.isCaller,Code.frames,Code.isFrame,guardIds]
theorem ax0 {A:Around} {C:Addr} {us:List Value} {kw:List (Str × Value)}:(A.under (.builtin "type.__call__" ⟨.ref C :: us,kw⟩)).units = A.units + 1:=by
 first | rfl | simp [Around.under,Code.cUnits,Code.frames,Code.isFrame]
theorem Room.make {k:Nat} {A:Around} (r:Room (k + 1) A) (C:Addr) (us:List Value) (kw:List (Str × Value)):Room k (A.under (.builtin "type.__call__" ⟨.ref C :: us,kw⟩)) :=
 ⟨r.hd,by have:=r.dp; rw [ay5]; lia,by have:=r.un; rw [ax0]; lia⟩
theorem Room.depth {k:Nat} {A:Around} (r:Room k A):A.depth < recursionLimit:=by have:=r.dp; lia
theorem Room.units {k:Nat} {A:Around} (r:Room k A):A.units + 64 < cLine:=by have:=r.un; lia
theorem Room.units0 {k:Nat} {A:Around} (r:Room k A):A.units < cLine:=by have:=r.un; lia
def V4:TA:=fun _ H Q=>Q [] H
def a91 (ta:TE) (tr:TA):TA:=fun σ H Q=>ta σ H fun x H1=>tr σ H1 fun xs H2=>Q (x :: xs) H2
section
variable {X:Cx} {e:Expr} {es:List Expr} {te:TE} {t:TA} {pos:Pos}
theorem d5:PA X [] V4:=fun _ _ _ _ H Q I h=>Calls.spliced_nil ⟨[],H,I,.nil,h⟩
theorem b7 (ha:PE X e te) (hr:PA X es t) (hs:starEach (e :: es) X.env = (false,eval e X.env) :: starEach es X.env:=by rfl):PA X (e :: es) (a91 te t):=by
 intro pos pins s σ H Q I h
 rw [hs]
 show wpAny _ _ (spliced ((false,eval e X.env) :: backTo pos (starEach es X.env))) _ _ s
 refine Calls.spliced_cons (thn (ha pins s σ H _ I h) fun u s1 ⟨x,H1,I1,r1,q1⟩=>?_)
 exact thn (hr pos pins s1 σ H1 _ I1 q1) fun us s2 ⟨xs,H2,I2,r2,q2⟩=>⟨x :: xs,H2,I2,.cons r1 r2,q2⟩
def bb3 (t:TA):TE:=fun σ H Q=>t σ H fun xs H1=>xs.length ≤ sizeLine ∧ ∀ p,H1 p = none → Q (.ref p) (upd H1 p (.tup xs))
def bb7 (t:TA):TE:=fun σ H Q=>t σ H fun xs H1=>xs.length ≤ sizeLine ∧ ∀ p,H1 p = none → Q (.ref p) (upd H1 p (.lst xs))
theorem m9 {x1} (h:PA X es t):PE X (.Tuple es x1 pos) (bb3 t):=by
 intro pins s σ H Q I hq
 refine wpAny_Tuple_spliced (thn (h pos pins s σ H _ I hq) fun us s1 ⟨xs,H1,I1,r,z,q⟩=>⟨by rw [← r.length]; exact z,?_⟩)
 have hf:H1 s1.heap.objs.size = none:=I1.hok.fresh (Nat.le_refl _)
 refine ⟨.ref s1.heap.objs.size,upd H1 s1.heap.objs.size (.tup xs),I1.laid (t':=s1.toks) (fun b u e=>Heap.get?_push_of_some _ e) (Nat.le_refl _) ?_,rfl,q _ hf⟩
 exact ⟨z,us,r,⟨_,Heap.get?_push_size _ rfl,rfl,_,rfl⟩⟩
theorem C4 (h:PA X es t):PE X (.List es pos) (bb7 t):=by
 intro pins s σ H Q I hq
 refine wpAny_List_spliced (thn (h pos pins s σ H _ I hq) fun us s1 ⟨xs,H1,I1,r,z,q⟩=>⟨by rw [← r.length]; exact z,?_⟩)
 have hf:H1 s1.heap.objs.size = none:=I1.hok.fresh (Nat.le_refl _)
 refine ⟨.ref s1.heap.objs.size,upd H1 s1.heap.objs.size (.lst xs),I1.laid (t':=s1.toks) (fun b u e=>Heap.get?_push_of_some _ e) (Nat.le_refl _) ?_,rfl,q _ hf⟩
 exact ⟨z,us,0,r,Heap.get?_push_size _ rfl⟩
end
abbrev Sp:=List V → Hp → VK → XK → Prop
abbrev CXT:=List Env → Hp → Shared → XK → Value → Shared → Prop
structure Env0 (P:Program) (w:World) (K:PySem.W.Frag) (mg:Str → Option Value) (base:Heap) (A:Around) (outer:List Env) (s:Shared) (H:Hp):Prop where
 frames:A.frames = some outer
 mod:Mod K mg base
 bs:∀ b o,base.get? b = some o → s.heap.get? b = some o ∧ H b = none
 bsz:base.objs.size ≤ s.heap.objs.size
 funs:s.heap.FunFrames base outer
 frf:∀ b ∈ frs outer,H b = none
 hok:HOk P w H s.heap
 bare:AllBare s.gens
def CE (outer:List Env) (P:Program) (w:World) (H:Hp) (s:Shared) (Q:VK) (u:Value) (s':Shared):Prop :=
 ∃ v H',s'.os = s.os ∧ AllBare s'.gens ∧ Un (frs outer) [] H H' s.heap s'.heap ∧ HOk P w H' s'.heap ∧ n5 v u ∧ Q v H'
def CR (CX:CXT) (outer:List Env) (P:Program) (w:World) (H:Hp) (s:Shared) (Q:VK) (E:XK) (r:Result) (s':Shared):Prop :=
 match r with
 | .ok (.ret u)=>CE outer P w H s Q u s'
 | .ok _=>False
 | .error e=>CX outer H s E e s'
structure FnOk (P:Program) (w:World) (K:PySem.W.Frag) (mg:Str → Option Value) (base:Heap) (CX:CXT) (k:Nat) (f:Addr) (fd:FuncData) (ps:List Str) (sp:Sp):Prop where
 len:∀ vs H Q E,sp vs H Q E → vs.length = ps.length
 run:∀ (A:Around) (outer:List Env) (s:Shared) (H:Hp) (args:Args) (us:List Value) (vs:List V) (Q:VK) (E:XK),Room k A → Env0 P w K mg base A outer s H → BindsTo s fd args (ps.zip us) → j9 vs us → sp vs H Q E →
  codeAny (model P w) A (.call (.ref f) args) (CR CX outer P w H s Q E) s
theorem Env0.make {P:Program} {w:World} {K:PySem.W.Frag} {mg:Str → Option Value} {base:Heap} {A:Around} {outer:List Env} {s:Shared} {H:Hp} (e:Env0 P w K mg base A outer s H) (C:Addr) (us:List Value) (kw:List (Str × Value)) :
  Env0 P w K mg base (A.under (.builtin "type.__call__" ⟨.ref C :: us,kw⟩)) outer s H:=⟨by first | exact e.frames | (simpa [Around.under,Code.envs,Code.isFrame,pushEnvs] using e.frames),e.mod,e.bs,e.bsz,e.funs,e.frf,e.hok,e.bare⟩
section
variable {X:Cx} {pins:List (Addr × Obj)} {σ:St} {H:Hp} {s s':Shared}
theorem Inv.env0 (I:Inv X pins σ H s):Env0 X.prog X.w X.K X.mg X.base X.A X.stack s H :=
 ⟨I.ok.frames,I.ok.mod,I.bs,Nat.le_trans I.ok.bsz I.sz,I.stack,I.stkFree,I.hok,I.bare⟩
theorem Inv.after {Q:VK} {u:Value} (I:Inv X pins σ H s) (h:CE X.stack X.prog X.w H s Q u s'):EP X pins σ Q u s':=by
 obtain ⟨v,H',os,bare,un,hok,r,q⟩:=h
 obtain ⟨hh,g,d,t,os'⟩:=s'
 obtain rfl:os' = s.os:=os
 exact ⟨v,H',I.call (h':=hh) (g':=g) (d':=d) (t':=t) (ch:=[]) un hok bare (fun b z=>absurd z (by simp)),r,q⟩
end
def aW9 (sp:Sp) (dvs:List V) (E:XK) (t:TA):TE:=fun σ H Q=>t σ H fun vs H1=>sp (vs ++ dvs) H1 Q E
def O5 (K:PySem.W.Frag) (fd:FuncData) (ps:List Str) (ds:List Value):Prop :=
 ∀ (s:Shared) (us:List Value),K.In s.heap → (us ++ ds).length = ps.length → BindsTo s fd ⟨us,[]⟩ (ps.zip (us ++ ds))
theorem O5.all {K:PySem.W.Frag} {fd:FuncData} {ps:List Str} (h:∀ us:List Value,us.length = ps.length → bindArgs fd ⟨us,[]⟩ = pure (ps.zip us)):O5 K fd ps []:=fun s us _ hl=>by
 rw [List.append_nil] at hl ⊢
 exact .of_eq (h us hl)
def ay0 (CX:CXT) (X:Cx) (E:XK):Prop:=∀ (pins:List (Addr × Obj)) (σ:St) (H:Hp) (s:Shared) (e:Value) (s':Shared),Inv X pins σ H s → CX X.stack H s E e s' → X.xe e s'
section
variable {X:Cx} {CX:CXT} {k:Nat} {f C:Addr} {fd:FuncData} {ps:List Str} {sp:Sp} {dvs:List V} {ds:List Value} {E:XK} {x m:Str} {p pos apos:Pos} {e o:Expr} {es:List Expr} {ta:TE} {t:TA}
theorem aZ5 {pins:List (Addr × Obj)} {σ:St} {H:Hp} {s:Shared} {Q:VK} {us:List Value} {vs:List V} (F:FnOk X.prog X.w X.K X.mg X.base CX k f fd ps sp) (hr:Room k X.A) (hb:O5 X.K fd ps ds) (hd:j9 dvs ds) (hx:ay0 CX X E)
  (I:Inv X pins σ H s) (r:j9 vs us) (h:sp (vs ++ dvs) H Q E):wpAny (model X.prog X.w) X.A (call (.ref f) us) (EP X pins σ Q) X.xe s:=by
 have r2:j9 (vs ++ dvs) (us ++ ds):=r.append hd
 have hl:(us ++ ds).length = ps.length:=by rw [← r2.length]; exact F.len _ _ _ _ h
 refine wpAny_call (codeAny_mono (F.run X.A X.stack s H ⟨us,[]⟩ (us ++ ds) (vs ++ dvs) Q E hr I.env0 (hb s us I.kIn hl) r2 h) fun r s' hq=>?_)
 cases r with
 | error e=>exact hx pins σ H s e s' I hq
 | ok fl =>
  cases fl with
  | ret u=>exact I.after hq
  | next=>exact False.elim hq
  | brk=>exact False.elim hq
  | cont=>exact False.elim hq
theorem aS8 (F:FnOk X.prog X.w X.K X.mg X.base CX k f fd ps sp) (hr:Room k X.A) (hg:Gl X x) (hm:X.mg x = some (.ref f)) (hk:PySem.W.keepIn X.K (.ref f) = true) (hb:O5 X.K fd ps ds) (hd:j9 dvs ds) (hx:ay0 CX X E)
  (ha:PA X (e :: es) t) (hdb:(x == ("__debug__":Str)) = false:=by decide) (he:starEach (e :: es) X.env = (false,eval e X.env) :: starEach es X.env:=by rfl) (hpl:(backTo pos (starEach es X.env)).any (·.1) = false:=by rfl) :
  PE X (.Call (.Name x p) (e :: es) [] pos) (aW9 sp dvs E t):=by
 intro pins s σ H Q I h
 refine wpAny_Call_Name_kw (U0 I hg hm ?_ hdb)
 refine PySem.W.callWith_K (h₀:=X.base) I.ok.mod.kin hk (thn (ha pos pins s σ H _ I h) fun us s1 ⟨vs,H1,I1,r,q⟩=>⟨I1.kIn,?_⟩) he hpl
 exact aZ5 F hr hb hd hx I1 r q
end
structure FnScope (N P:List Str) (sc:Scope):Prop where
 kind:sc.kind = .function
 co:sc.isCoroutine = false
 gen:sc.isGenerator = false
 nd:N.Nodup
 pre:N.take P.length = P
 par:∀ x ∈ P,sc.names.lookup x = some .local ∨ sc.names.lookup x = some .cell
 nofree:∀ y ∈ sc.names,y.2 ≠ .free
theorem ag8 {kindOf:Str → Option NameKind} {x:Str}:∀ {binds:List (Str × Value)} {m:Str → Option Value},(∀ v,(x,v) ∉ binds) → bindL kindOf binds m x = m x
 | [],_,_=>rfl
 | (n,v) :: r,m,h=>by
  unfold bindL
  rw [ag8 fun w hw=>h w (List.mem_cons_of_mem _ hw)]
  split
  ·have:x ≠ n:=by rintro rfl; exact h v List.mem_cons_self
   simp [this]
  ·rfl
theorem af5 {kindOf:Str → Option NameKind} {x:Str}:∀ {binds:List (Str × Value)} {m:Str → Option Value},(∀ v,(x,v) ∉ binds) → bindC kindOf binds m x = m x
 | [],_,_=>rfl
 | (n,v) :: r,m,h=>by
  unfold bindC
  rw [af5 fun w hw=>h w (List.mem_cons_of_mem _ hw)]
  split
  ·rfl
  ·have:x ≠ n:=by rintro rfl; exact h v List.mem_cons_self
   simp [this]
theorem af6 {kindOf:Str → Option NameKind} {x:Str} {v:Value}:∀ {P:List Str} {vs:List Value} {i:Nat} {m:Str → Option Value},P.Nodup → P[i]? = some x → vs[i]? = some v → kindOf x = some .local →
  bindL kindOf (P.zip vs) m x = some v
 | [],_,_,_,_,h,_,_=>by simp at h
 | _ :: _,[],_,_,_,_,h,_=>by simp at h
 | p :: P,w :: vs,0,m,nd,h1,h2,hk=>by
  simp at h1 h2; subst h1; subst h2
  show bindL kindOf ((p,w) :: P.zip vs) m p = _
  unfold bindL
  rw [ag8 fun v hv=>(List.nodup_cons.mp nd).1 (List.of_mem_zip hv).1,if_pos hk]
  simp
 | p :: P,w :: vs,i + 1,m,nd,h1,h2,hk=>by
  show bindL kindOf ((p,w) :: P.zip vs) m x = _
  unfold bindL
  exact af6 (i:=i) (List.nodup_cons.mp nd).2 (by simpa using h1) (by simpa using h2) hk
theorem af1 {kindOf:Str → Option NameKind} {x:Str} {v:Value}:∀ {P:List Str} {vs:List Value} {i:Nat} {m:Str → Option Value},P.Nodup → P[i]? = some x → vs[i]? = some v → kindOf x ≠ some .local →
  bindC kindOf (P.zip vs) m x = some v
 | [],_,_,_,_,h,_,_=>by simp at h
 | _ :: _,[],_,_,_,_,h,_=>by simp at h
 | p :: P,w :: vs,0,m,nd,h1,h2,hk=>by
  simp at h1 h2; subst h1; subst h2
  show bindC kindOf ((p,w) :: P.zip vs) m p = _
  unfold bindC
  rw [af5 fun v hv=>(List.nodup_cons.mp nd).1 (List.of_mem_zip hv).1,if_neg hk]
  simp
 | p :: P,w :: vs,i + 1,m,nd,h1,h2,hk=>by
  show bindC kindOf ((p,w) :: P.zip vs) m x = _
  unfold bindC
  exact af1 (i:=i) (List.nodup_cons.mp nd).2 (by simpa using h1) (by simpa using h2) hk
def start (N:List Str) (vs:List V):St:=vs.map some ++ List.replicate (N.length - vs.length) none
def F8 (CX:CXT) (P:Program) (w:World) (K:PySem.W.Frag) (mg:Str → Option Value) (base:Heap) (N:List Str) (qual:Str) (scope:Scope) (f:Addr) (cd:Value) (A:Around) (outer:List Env) (s:Shared) (H:Hp) (E:XK):Cx where
 prog:=P
 w:=w
 K:=K
 mg:=mg
 base:=base
 A:=A.deeper (envOfC qual scope s.heap.objs.size f cd)
 N:=N
 s₀:=s
 H₀:=H
 env:=envOfC qual scope s.heap.objs.size f cd
 outer:=outer
 stack:=envOfC qual scope s.heap.objs.size f cd :: outer
 ex:=[]
 calm:=true
 fn:=fun _=>true
 pn:=[]
 xe:=fun e s'=>wpAny (model P w) (A.deeper (envOfC qual scope s.heap.objs.size f cd)) (leaving (envOfC qual scope s.heap.objs.size f cd) e) (fun _ s''=>CX outer H s E e s'') (fun e' s''=>CX outer H s E e' s'') s'
theorem aa9 {sc:Scope} {n:Nat} {x:Str} (h:sc.names.lookup x = some .cell):∃ c,(cellsFrom n sc.names []).lookup x = some c:=by
 have q:=PySem.W.cellsFrom_some sc.names n [] (.inl h)
 exact Option.isSome_iff_exists.mp q
theorem aG6 {CX:CXT} {P:Program} {w:World} {K:PySem.W.Frag} {mg:Str → Option Value} {base:Heap} {N ps:List Str} {qual:Str} {scope:Scope} {f:Addr} {cd:Value} {A:Around} {outer:List Env} {s s1:Shared} {H:Hp} {E:XK} {us:List Value} {vs:List V}
  (S:FnScope N ps scope) (hd:A.handled = none) (e0:Env0 P w K mg base A outer s H) (hl:vs.length = ps.length) (r:j9 vs us)
  (x:InCallC s s.heap.objs.size (bindL (envOfC qual scope s.heap.objs.size f cd).kindOf (ps.zip us) fun _=>none) (cellsFrom (s.heap.objs.size + 1) scope.names []) (bindC (envOfC qual scope s.heap.objs.size f cd).kindOf (ps.zip us) fun _=>none) s1) :
  Inv (F8 CX P w K mg base N qual scope f cd A outer s H E) [] (start N vs) H s1:=by
 have hpl:ps.length ≤ N.length:=by have:=congrArg List.length S.pre; rw [List.length_take] at this; lia
 obtain ⟨h1,tk,rfl,hk⟩:=x.done
 have noA:∀ b:Addr,b ∉ (F8 CX P w K mg base N qual scope f cd A outer s H E).ex:=fun b z=>absurd (show b ∈ ([]:List Addr) from z) (by simp)
 refine ⟨⟨e0.mod,S.kind,rfl,rfl,Nat.le_refl _,fun y z c h1 h2=>?_,fun y hy=>?_,fun y c _ h=>?_,fun _=>hd,Around.frames_deeper e0.frames,.inr ⟨rfl,rfl⟩,fun b z=>absurd z (noA b),e0.bs,e0.bsz,fun b _ _=>noA b,fun b z=>absurd z (noA b),e0.funs,e0.frf⟩,
  rfl,e0.bare,Un.kept hk,⟨_,x.toInCall.ns,fun i y v h1 h2 h3=>?_⟩,fun y c h=>⟨_,x.cell y c h⟩,e0.hok.fresh (Nat.le_refl _),fun y c h=>?_,fun p hp=>absurd (show p ∈ ([]:List (Addr × Obj)) from hp) (by simp),e0.hok.kept hk,?_⟩
 ·exact name_of_addr x.apart (PySem.mem_of_lookup h1) (PySem.mem_of_lookup h2)
 ·have hy:scope.names.lookup y = some .cell ∨ scope.names.lookup y = some .free:=hy
  rcases hy with hy | hy
  ·exact aa9 hy
  ·exact absurd rfl (S.nofree _ (PySem.mem_of_lookup hy))
 ·exact Nat.le_of_lt (x.above y c (PySem.mem_of_lookup h))
 ·have hi:i < vs.length:=by
   unfold start at h2
   by_cases hi:i < vs.length
   ·exact hi
   ·rw [List.getElem?_append_right (by simpa using hi)] at h2
    rw [List.getElem?_replicate] at h2
    split at h2 <;> cases h2
  have ha:vs[i]? = some v:=by
   unfold start at h2
   rw [List.getElem?_append_left (by simpa using hi),List.getElem?_map] at h2
   cases e:vs[i]? with
   | none=>rw [e] at h2; cases h2
   | some a=>rw [e] at h2; cases h2; rfl
  obtain ⟨u,hu,rv⟩:=r.get ha
  have hp:ps[i]? = some y:=by
   rw [← S.pre,List.getElem?_take_of_lt (by lia)]; exact h1
  have ndP:ps.Nodup:=by rw [← S.pre]; exact S.nd.sublist (List.take_sublist _ _)
  refine ⟨u,rv,?_⟩
  rcases S.par y (List.mem_of_getElem? hp) with k | k
  ·exact .inl ⟨k,af6 ndP hp hu k⟩
  ·obtain ⟨c,e⟩:=aa9 (n:=s.heap.objs.size + 1) k
   refine .inr ⟨.inl k,c,e,?_⟩
   have q:=x.cell y c e
   rw [af1 ndP hp hu (by show scope.names.lookup y ≠ _; rw [k]; decide)] at q
   exact q
 ·exact e0.hok.fresh (Nat.le_of_lt (x.above y c (PySem.mem_of_lookup h)))
 ·unfold start
  show _ = N.length
  rw [List.length_append,List.length_map,List.length_replicate]
  lia
theorem ar0 {CX:CXT} {P:Program} {w:World} {K:PySem.W.Frag} {mg:Str → Option Value} {base:Heap} {k:Nat} {f:Addr} {name qual:Str} {params:Arguments} {body:List Stmt} {scope:Scope} {dV kV doc pm cdv ct oc:Value} {an od:Option Addr}
  {osl:Array (Option Value)} {N ps:List Str} {sp:Sp} (lk:K.lookup f = some ⟨oc,od,.func (PySem.W.fnOf name qual params body scope dV kV doc pm an cdv ct),osl⟩) (hcd:PySem.W.codeIn K cdv qual = true) (S:FnScope N ps scope)
  (len:∀ vs H Q E,sp vs H Q E → vs.length = ps.length)
  (hbody:∀ (A:Around) (outer:List Env) (s:Shared) (H:Hp) (vs:List V) (Q:VK) (E:XK),Room k (A.deeper (envOfC qual scope s.heap.objs.size f cdv)) → sp vs H Q E →
   ∃ t,PSs (F8 CX P w K mg base N qual scope f cdv A outer s H E) body t ∧ t { nx:=fun _ H'=>Q .non H',rt:=Q } (start N vs) H) :
  FnOk P w K mg base CX (k + 1) f (PySem.W.fnOf name qual params body scope dV kV doc pm an cdv ct) ps sp:=by
 refine ⟨len,fun A outer s H args us vs Q E hr e0 hb r hsp=>?_⟩
 have hl:=len _ _ _ _ hsp
 have KX:K.In s.heap:=e0.mod.kin.keeps fun b o e=>(e0.bs b o e).1
 have lim:s.heap.NoLimit:=e0.mod.nolimit.keeps fun b o e=>(e0.bs b o e).1
 have hkind:∀ y ∈ ps.zip us,scope.names.lookup y.1 = some .local ∨ (scope.names.lookup y.1 = some .cell ∧ ((cellsFrom (s.heap.objs.size + 1) scope.names []).lookup y.1).isSome = true):=fun ⟨n,v⟩ hy=>by
  rcases S.par n (List.of_mem_zip hy).1 with q | q
  ·exact .inl q
  ·exact .inr ⟨q,PySem.W.cellsFrom_some _ _ _ (.inl q)⟩
 refine codeAny_call_function hr.depth (KX _ _ lk) rfl S.co S.gen rfl (PySem.W.codeRec_of KX hcd) (hb _ _ _ _ ?_)
 refine wpAny_newFunctionEnv_cells S.kind hkind fun env he s1 x=>?_
 subst he
 refine ⟨lim.keeps x.toInCall.keep,codeAny_func ?_⟩
 obtain ⟨t,ht,hq⟩:=hbody A outer s H vs Q E (hr.deeper _) hsp
 have I:Inv (F8 CX P w K mg base N qual scope f cdv A outer s H E) [] (start N vs) H s1:=aG6 S hr.hd e0 hl r x
 refine wpAny_mono (ht [] s1 (start N vs) H _ I hq) (fun fl s' hs=>?_) fun e s' hs=>hs
 have fin:∀ {σ':St} {H':Hp} {v:V} {u:Value},Inv (F8 CX P w K mg base N qual scope f cdv A outer s H E) [] σ' H' s' → n5 v u → Q v H' → CE outer P w H s Q u s' :=
  fun {σ' H' v u} J rv q=>⟨v,H',J.os,J.bare,J.base,J.hok,rv,q⟩
 cases fl with
 | ret u =>
  obtain ⟨v,σ',H',J,rv,q⟩:=hs
  exact fin J rv q
 | next =>
  obtain ⟨σ',H',J,q⟩:=hs
  exact fin (v:=V.non) (u:=Value.none) J rfl q
 | brk =>
  obtain ⟨_,_,_,q⟩:=hs
  exact False.elim q
 | cont =>
  obtain ⟨_,_,_,q⟩:=hs
  exact False.elim q
end L2
namespace L2
open PySem PySem.Spec PyProof.Rows
section
variable {X:Cx} {x:Str} {p pos:Pos} {e:Expr} {es:List Expr} {t:TA} {id T:String} {r:List V → Hp → VK → Prop}
def tCB (r:List V → Hp → VK → Prop) (t:TA):TE:=fun σ H Q=>t σ H fun vs H1=>r vs H1 Q
theorem i9 (hc:y7 X (.builtin id) r) (hg:Gl X x) (hm:X.mg x = none) (hv:bootBuiltins x = some (.builtin id)) (ha:PA X (e :: es) t) (hn:x ≠ "__name__":=by decide) (hdb:(x == ("__debug__":Str)) = false:=by decide)
  (he:starEach (e :: es) X.env = (false,eval e X.env) :: starEach es X.env:=by rfl) (hpl:(backTo pos (starEach es X.env)).any (·.1) = false:=by rfl):PE X (.Call (.Name x p) (e :: es) [] pos) (tCB r t):=by
 intro pins s σ H Q I h
 refine wpAny_Call_Name_kw (T7 I hg hm hv ?_ hn hdb)
 exact PyProof.Rows.callWith_builtin1 (thn (ha pos pins s σ H _ I h) fun us s1 ⟨vs,H1,I1,r1,q1⟩=>hc pins s1 σ H1 vs us Q I1 r1 q1) he hpl
theorem w4 (hc:y7 X (.type T) r) (hg:Gl X x) (hm:X.mg x = none) (hv:bootBuiltins x = some (.type T)) (ha:PA X (e :: es) t) (hn:x ≠ "__name__":=by decide) (hdb:(x == ("__debug__":Str)) = false:=by decide)
  (he:starEach (e :: es) X.env = (false,eval e X.env) :: starEach es X.env:=by rfl) (hpl:(backTo pos (starEach es X.env)).any (·.1) = false:=by rfl):PE X (.Call (.Name x p) (e :: es) [] pos) (tCB r t):=by
 intro pins s σ H Q I h
 refine wpAny_Call_Name_kw (T7 I hg hm hv ?_ hn hdb)
 exact PyProof.Rows.callWith_type1 (thn (ha pos pins s σ H _ I h) fun us s1 ⟨vs,H1,I1,r1,q1⟩=>hc pins s1 σ H1 vs us Q I1 r1 q1) he hpl
end
end L2
namespace HT
open PySem PyProof.Rows
section
variable {prog:Program} {w:World} {A:Around} {E:Value → Shared → Prop} {s:Shared}
theorem cat_tup {t b:Addr} {vs ws:List Value} {Q:Value → Shared → Prop} (ht:IsTup s.heap t vs.toArray) (hb:IsTup s.heap b ws.toArray) (hv:vs ≠ [])
  (h1:ws = [] → Q (.ref t) s) (h2:ws ≠ [] → Q (.ref s.heap.objs.size) { s with heap:=s.heap.push { cls:=.type "tuple",data:=.seq (vs ++ ws).toArray } })
  (hsz:vs.length + ws.length ≤ sizeLine):wpAny (model prog w) A (binaryOp .Add (.ref t) (.ref b)) Q E s:=by
 obtain ⟨⟨cls,dd,data,sl⟩,ho,hc,n,hd⟩:=id ht
 obtain ⟨⟨cls2,dd2,data2,sl2⟩,ho2,hc2,n2,hd2⟩:=id hb
 simp only at hc hd hc2 hd2
 subst hc hd hc2 hd2
 have e:vs.toArray ++ ws.toArray = (vs ++ ws).toArray:=by simp
 by_cases hw:ws = []
 ·exact concat_meets ⟨_,ho,rfl⟩ ⟨_,ho2,rfl⟩ noFill_tuple_add seq_tuple_add PySem.F.slot_tuple_add PySem.F.entry_tuple_add (PySem.F.args_tuple_add_2 _ _)
   (tuple_addW1 t b vs.toArray ws.toArray n n2 dd dd2 sl sl2 (by simpa using hv) (by simp [hw])) ⟨ho,ho2,h1 hw⟩
 ·refine concat_meets ⟨_,ho,rfl⟩ ⟨_,ho2,rfl⟩ noFill_tuple_add seq_tuple_add PySem.F.slot_tuple_add PySem.F.entry_tuple_add (PySem.F.args_tuple_add_2 _ _)
   (tuple_addW2 t b vs.toArray ws.toArray n n2 dd dd2 sl sl2 (by simpa using hv) (by simpa using hw) (by rw [List.size_toArray,List.size_toArray]; exact hsz)) ⟨ho,ho2,?_⟩
  rw [e]
  exact h2 hw
def sIx (n d:Nat):Option Int → Nat
 | none=>d
 | some v=>if v < 0 then (v + (n:Int)).toNat else min v.toNat n
theorem sIx_none (n d:Nat):sIx n d none = d:=rfl
theorem sIx_nat (n d k:Nat):sIx n d (some (k:Int)) = min k n:=by
 show (if (k:Int) < 0 then ((k:Int) + (n:Int)).toNat else min (k:Int).toNat n) = min k n
 rw [if_neg (by lia),Int.toNat_natCast]
theorem a35 (n d:Nat) (hd:d ≤ n) (o:Option Int):sIx n d o ≤ n:=by
 cases o with
 | none=>exact hd
 | some v =>
  show (if v < 0 then (v + (n:Int)).toNat else min v.toNat n) ≤ n
  by_cases hv:v < 0
  ·rw [if_pos hv]; lia
  ·rw [if_neg hv]; exact Nat.min_le_right _ _
theorem aA8 (v:Int) (n d:Nat):(if v < 0 then max (v + (n:Int)) 0 else min v (n:Int)) = ((sIx n d (some v):Nat):Int):=by
 show (if v < 0 then max (v + (n:Int)) 0 else min v (n:Int)) = (((if v < 0 then (v + (n:Int)).toNat else min v.toNat n):Nat):Int)
 by_cases hv:v < 0
 ·simp only [if_pos hv]; lia
 ·simp only [if_neg hv]; lia
theorem aw6 (lo hi:Option Int) (n:Nat):Builtin.Slice.sliceAdjust lo hi 1 (n:Int) = (((sIx n 0 lo:Nat):Int),((sIx n n hi:Nat):Int)):=by
 have h1:¬ ((1:Int) < 0):=by lia
 unfold Builtin.Slice.sliceAdjust
 simp only [h1,if_false]
 refine Prod.ext ?_ ?_
 ·cases lo with
  | none=>rfl
  | some v=>exact aA8 v n 0
 ·cases hi with
  | none=>rfl
  | some v=>exact aA8 v n n
theorem av2 (i j:Nat):Builtin.Slice.slicePlaces (i:Int) (j:Int) 1 = j - i:=by
 unfold Builtin.Slice.slicePlaces
 have h1:(1:Int) > 0:=by lia
 simp only [h1,if_true,Int.ediv_one]
 split <;> lia
theorem ac2 {v:Value} {o:Option Int} {Q:Option Int → Shared → Prop} (p:IsPart v o) (h:Q o s):wpAny (model prog w) A (Builtin.Slice.slicePartIndex v) Q E s:=by
 cases p with
 | none=>exact slicePart_none h
 | int i t=>exact slicePart_int h
theorem M6 {sl:Addr} {vl vu:Value} {lo hi:Option Int} {n:Nat} {Q:Int × Int × Nat → Shared → Prop} (hs:s.heap.IsSliceOf sl vl vu .none) (pl:IsPart vl lo) (pu:IsPart vu hi)
  (h:Q (((sIx n 0 lo:Nat):Int),1,sIx n n hi - sIx n 0 lo) s):wpAny (model prog w) A (Builtin.Slice.sliceApplied (.ref sl) (pure (n:Int))) Q E s:=by
 obtain ⟨os,hos,hcs,hds⟩:=id hs
 unfold Builtin.Slice.sliceApplied Builtin.Slice.sliceFields
 refine wpAny_bind (wpAny_bind (wpAny_field hos hds (x:=vl) rfl (wpAny_bind (wpAny_field hos hds (x:=vu) rfl (wpAny_bind (wpAny_field hos hds (x:=.none) rfl (wpAny_pure ?_)))))))
 refine wpAny_bind (slicePart_none ?_)
 show wpAny _ _ (if ((1:Int) == 0) = true then _ else _) _ _ s
 rw [if_neg (by decide)]
 refine wpAny_bind (ac2 pl (wpAny_bind (ac2 pu (wpAny_bind (wpAny_pure ?_)))))
 show wpAny _ _ (match Builtin.Slice.sliceAdjust lo hi 1 (n:Int) with | (lo,hi)=>pure (lo,(1:Int),Builtin.Slice.slicePlaces lo hi 1)) _ _ s
 rw [aw6 lo hi n]
 show wpAny _ _ (pure (((sIx n 0 lo:Nat):Int),(1:Int),Builtin.Slice.slicePlaces ((sIx n 0 lo:Nat):Int) ((sIx n n hi:Nat):Int) 1)) _ _ s
 rw [av2]
 exact wpAny_pure h
theorem aQ5 (xs:Array Value) (i k:Nat):((List.range k).filterMap fun (m:Nat)=>xs[((i:Int) + (m:Int) * 1).toNat]?).toArray = ((xs.toList.drop i).take k).toArray:=by
 have e:(fun (m:Nat)=>xs[((i:Int) + (m:Int) * 1).toNat]?) = fun m=>xs[i + m]?:=by
  funext m
  have:((i:Int) + (m:Int) * 1).toNat = i + m:=by lia
  rw [this]
 rw [e]
 have:=pick_run xs i k
 rw [List.filterMap_map] at this
 have e2:((fun x=>xs[x]?) ∘ fun x=>i + x) = fun m=>xs[i + m]?:=rfl
 rw [e2] at this
 rw [this]
theorem getItem_tuple_cut {t sl:Addr} {items:Array Value} {vl vu:Value} {lo hi:Option Int} {Q:Value → Shared → Prop} (ht:IsTup s.heap t items) (hs:s.heap.IsSliceOf sl vl vu .none) (pl:IsPart vl lo) (pu:IsPart vu hi)
  (hw:¬ (sIx items.size 0 lo = 0 ∧ sIx items.size items.size hi = items.size))
  (h:Q (.ref s.heap.objs.size) { s with heap:=s.heap.push { cls:=.type "tuple",data:=.seq ((items.toList.drop (sIx items.size 0 lo)).take (sIx items.size items.size hi - sIx items.size 0 lo)).toArray } })
  (hsz:items.size ≤ sizeLine):wpAny (model prog w) A (getItem (.ref t) (.ref sl)) Q E s:=by
 have htake:sizeOk (.seq ((items.toList.drop (sIx items.size 0 lo)).take (sIx items.size items.size hi - sIx items.size 0 lo)).toArray):=by
  show ((items.toList.drop (sIx items.size 0 lo)).take (sIx items.size items.size hi - sIx items.size 0 lo)).toArray.size ≤ sizeLine
  rw [List.size_toArray,List.length_take,List.length_drop,Array.length_toList]
  lia
 have hj:sIx items.size items.size hi ≤ items.size:=a35 _ _ (Nat.le_refl _) hi
 obtain ⟨os,hos,hcs,hds⟩:=id hs
 have hTs:s.TypeIs (.ref sl) "slice":=⟨os,hos,hcs⟩
 unfold getItem
 try with_reducible refine wpAny_holding ?_
 first | refine wpAny_bind (wpAny_pure ?_) | skip
 refine wpAny_bind (wpAny_sequenceKey ht.typeIs (by decide) ?_)
 refine wpAny_bind (wpAny_callSpecial?_slot (name:=Str.ofString "__getitem__") ht.typeIs PyProof.Rows.slot_tuple_getitem
  (wpAny_call_entry PyProof.Rows.slot_tuple_getitem ht.typeIs entry_tuple_getitem ?_ (args_tuple_getitem _ _)))
 show wpAny _ _ (Builtin.Tuple.tupleItemsOf (.ref t) >>= _) _ _ s
 refine wpAny_bind (tupleItemsOf_ ht ?_)
 refine wpAny_bind (wpAny_typeOf hTs ?_)
 rw [if_pos (by decide)]
 refine wpAny_bind (M6 hs pl pu ?_)
 have hno:¬ ((((sIx items.size 0 lo:Nat):Int) == 0 && (1:Int) == 1 && (sIx items.size items.size hi - sIx items.size 0 lo) == items.size) = true):=by
  intro q
  rw [Bool.and_eq_true,Bool.and_eq_true] at q
  have q1:((sIx items.size 0 lo:Nat):Int) = 0:=eq_of_beq q.1.1
  have q2:sIx items.size items.size hi - sIx items.size 0 lo = items.size:=eq_of_beq q.2
  exact hw ⟨by lia,by lia⟩
 show wpAny _ _ (if (((sIx items.size 0 lo:Nat):Int) == 0 && (1:Int) == 1 && (sIx items.size items.size hi - sIx items.size 0 lo) == items.size) = true then _ else _) _ _ s
 rw [if_neg hno,aQ5]
 first
  | exact wpAny_bind (m:=Builtin.Tuple.tupleExact _) (wpAny_newObj_type (wpAny_pure ⟨_,rfl,wpAny_pure h⟩) htake)
  | exact wpAny_bind (m:=Builtin.Tuple.tupleExact _) (wpAny_newObj_type (wpAny_bind (wpAny_pure (wpAny_pure ⟨_,rfl,wpAny_pure h⟩))) htake)
  | exact wpAny_bind (wpAny_bind (m:=Builtin.Tuple.tupleExact _) (wpAny_newObj_type (wpAny_pure (wpAny_pure ⟨_,rfl,wpAny_pure h⟩)) htake))
  | exact wpAny_bind (wpAny_bind (m:=Builtin.Tuple.tupleExact _) (wpAny_newObj_type (wpAny_pure ⟨_,rfl,wpAny_pure h⟩) htake))
end
end HT
namespace L2
open PySem PySem.Spec PyProof.Rows
abbrev TO:=St → Hp → (Option Int → Hp → Prop) → Prop
def PO (X:Cx) (e:Option Expr) (t:TO):Prop :=
 ∀ (pins:List (Addr × Obj)) (s:Shared) (σ:St) (H:Hp) (Q:Option Int → Hp → Prop),Inv X pins σ H s → t σ H Q →
  wpAny (model X.prog X.w) X.A (evalPart e X.env) (fun u s'=>∃ o H',Inv X pins σ H' s' ∧ IsPart u o ∧ Q o H') X.xe s
def aU7:TO:=fun _ H Q=>Q none H
def a90 (t:TE):TO:=fun σ H Q=>t σ H fun x H1=>∃ i,x = .int i ∧ Q (some i) H1
theorem aA3 {ns:List Int}:∀ {us:List Value},j9 (ns.map V.int) us → IntsAre us ns:=by
 induction ns with
 | nil=>intro us r; rw [List.map_nil] at r; cases r; exact .nil
 | cons n ns ih =>
  intro us r
  rw [List.map_cons] at r
  cases r with
  | cons r1 r2 =>
   obtain ⟨t,e⟩:=r1
   subst e
   exact .cons n t (ih r2)
section
variable {X:Cx} {e:Expr} {te:TE} {lo hi:Option Expr} {tl th:TO} {pos p2:Pos}
theorem Z9:PO X none aU7:=by
 intro pins s σ H Q I h
 rw [evalPart_none]
 exact wpAny_pure ⟨none,H,I,.none,h⟩
theorem Z7 (h:PE X e te):PO X (some e) (a90 te):=by
 intro pins s σ H Q I hw
 rw [evalPart_some]
 refine thn (h pins s σ H _ I hw) fun u s1 ⟨x,H1,I1,r1,q1⟩=>?_
 obtain ⟨i,rfl,q⟩:=q1
 obtain ⟨t,rfl⟩:=r1
 exact ⟨some i,H1,I1,.int i t,q⟩
def SlR (X:Cx) (r:V → Option Int → Option Int → Hp → VK → Prop):Prop :=
 ∀ (pins:List (Addr × Obj)) (s:Shared) (σ:St) (H:Hp) (x:V) (v vl vu:Value) (lo hi:Option Int) (sl:Addr) (Q:VK),Inv X pins σ H s → n5 x v → s.heap.IsSliceOf sl vl vu .none → IsPart vl lo → IsPart vu hi → r x lo hi H Q →
  ∃ T id,typeLookup (.type T) "__getitem__" = pure (some (.builtin id)) ∧ s.TypeIs v T ∧ wpAny (model X.prog X.w) X.A (getItem v (.ref sl)) (EP X pins σ Q) X.xe s
def tSl (r:V → Option Int → Option Int → Hp → VK → Prop) (te:TE) (tl th:TO):TE:=fun σ H Q=>te σ H fun x H1=>tl σ H1 fun l H2=>th σ H2 fun u H3=>r x l u H3 Q
theorem V3 {r:V → Option Int → Option Int → Hp → VK → Prop} (hr:SlR X r) (he:PE X e te) (hl:PO X lo tl) (hu:PO X hi th):PE X (.Subscript e (.Slice lo hi none p2) pos) (tSl r te tl th):=by
 intro pins s σ H Q I h
 refine Subscript_ (thn (he pins s σ H _ I h) fun v s1 ⟨x,H1,I1,r1,q1⟩=>?_)
 refine wpAny_Slice (thn (hl pins s1 σ H1 _ I1 q1) fun vl s2 ⟨l,H2,I2,pl,q2⟩=>thn (hu pins s2 σ H2 _ I2 q2) fun vu s3 ⟨u,H3,I3,pu,q3⟩=>?_)
 rw [evalPart_none]
 refine wpAny_pure ?_
 have I4:Inv X pins σ H3 { s3 with heap:=s3.heap.push { cls:=.type "slice",data:=.fields #[vl,vu,.none] } }:=I3.kept (t':=s3.toks) fun b ob q=>Heap.get?_push_of_some _ q
 obtain ⟨T,id,hT,ht,hg⟩:=hr pins { s3 with heap:=s3.heap.push { cls:=.type "slice",data:=.fields #[vl,vu,.none] } } σ H3 x v vl vu l u s3.heap.objs.size Q I4 r1 (Heap.IsSliceOf.new ..) pl pu q3
 show wpAny (model X.prog X.w) X.A (subscriptTail e (.Slice lo hi none p2) v (.ref s3.heap.objs.size)) (EP X pins σ Q) X.xe { s3 with heap:=s3.heap.push { cls:=.type "slice",data:=.fields #[vl,vu,.none] } }
 exact tail_any (ops:=[.ref s3.heap.objs.size,v]) ht hT hg (by with_unfolding_all rfl)
def X2 (xs:List V) (lo hi:Option Int):List V:=(xs.drop (HT.sIx xs.length 0 lo)).take (HT.sIx xs.length xs.length hi - HT.sIx xs.length 0 lo)
theorem Y1 (xs:List V) (lo hi:Option Int):(X2 xs lo hi).length ≤ xs.length:=by
 unfold X2
 rw [List.length_take,List.length_drop]
 lia
def ba8 (K:PySem.W.Frag):V → Option Int → Option Int → Hp → VK → Prop:=fun x lo hi H Q=>∃ a xs,x = .ref a ∧ SqT K H a xs ∧
 ¬ (HT.sIx xs.length 0 lo = 0 ∧ HT.sIx xs.length xs.length hi = xs.length) ∧ ∀ p,H p = none → Q (.ref p) (upd H p (.tup (X2 xs lo hi)))
theorem a53:SlR X (ba8 X.K):=by
 intro pins s σ H x v vl vu lo hi sl Q I rx hs pl pu h
 obtain ⟨a,xs,rfl,hx,hw,q⟩:=h
 cases rx
 obtain ⟨its,r,ht,hz⟩:=I.tuple hx
 have hlen:its.toArray.size = xs.length:=by rw [List.size_toArray]; exact r.length.symm
 refine ⟨"tuple",_,PyProof.Rows.slot_tuple_getitem.lookup,ht.typeIs,?_⟩
 refine HT.getItem_tuple_cut ht hs pl pu (by rw [hlen]; exact hw) ?_ (by rw [hlen]; exact hz)
 rw [hlen]
 refine ⟨.ref s.heap.objs.size,_,I.laid (t':=s.toks) (o:=.tup (X2 xs lo hi)) (fun b ob q=>Heap.get?_push_of_some _ q) (Nat.le_refl _) ?_,rfl,q _ (I.hok.fresh (Nat.le_refl _))⟩
 exact ⟨Nat.le_trans (Y1 xs lo hi) hz,_,(r.drop (HT.sIx xs.length 0 lo)).take (HT.sIx xs.length xs.length hi - HT.sIx xs.length 0 lo),IsTup.new _ _⟩
def a71 (K:PySem.W.Frag):R2:=fun x y H Q=>∃ a b xs ys,x = .ref a ∧ y = .ref b ∧ SqT K H a xs ∧ SqT K H b ys ∧ xs ≠ [] ∧ xs.length + ys.length ≤ sizeLine ∧
 (ys = [] → Q (.ref a) H) ∧ (ys ≠ [] → ∀ p,H p = none → Q (.ref p) (upd H p (.tup (xs ++ ys))))
theorem j9.nil_iff {xs:List V} {us:List Value} (r:j9 xs us):us = [] ↔ xs = []:=by
 cases r with
 | nil=>simp
 | cons _ _=>simp
theorem aS2:OpR X (binaryOp .Add) (a71 X.K):=by
 intro pins s σ H x y v u Q I rx ry h
 obtain ⟨a,b,xs,ys,rfl,rfl,ha,hb,hx,hz,q1,q2⟩:=h
 cases rx
 cases ry
 obtain ⟨its,r1,p1,_⟩:=I.tuple ha
 obtain ⟨its2,r2,p2,_⟩:=I.tuple hb
 refine HT.cat_tup p1 p2 (fun z=>hx (r1.nil_iff.mp z)) (fun z=>⟨.ref a,H,I,rfl,q1 (r2.nil_iff.mp z)⟩) (fun z=>?_) (by rw [← r1.length,← r2.length]; exact hz)
 refine ⟨.ref s.heap.objs.size,_,I.laid (t':=s.toks) (o:=.tup (xs ++ ys)) (fun b ob q=>Heap.get?_push_of_some _ q) (Nat.le_refl _) ?_,rfl,q2 (fun w=>z (r2.nil_iff.mpr w)) _ (I.hok.fresh (Nat.le_refl _))⟩
 exact ⟨by rw [List.length_append]; exact hz,_,r1.append r2,IsTup.new _ _⟩
end
end L2
namespace L2
open PySem PySem.Spec PyProof.Rows
def ixN (n:Nat) (i:Int):Option Nat:=if 0 ≤ i then (if i < n then some i.toNat else none) else if -(n:Int) ≤ i then some (i + n).toNat else none
def atI {α:Type} (xs:List α) (i:Int):Option α:=(ixN xs.length i).bind fun j=>xs[j]?
theorem aE0 {n:Nat} {i:Int} {j:Nat} (h:ixN n i = some j):seqIndex? i n = some j ∧ j < n ∧ -(n:Int) ≤ i ∧ i < n:=by
 unfold ixN at h
 by_cases h0:0 ≤ i
 ·rw [if_pos h0] at h
  by_cases h1:i < n
  ·rw [if_pos h1] at h
   have e:i.toNat = j:=Option.some.inj h
   exact ⟨by rw [seqIndex_of h0 h1,e],by lia,by lia,h1⟩
  ·rw [if_neg h1] at h; cases h
 ·rw [if_neg h0] at h
  by_cases h1:-(n:Int) ≤ i
  ·rw [if_pos h1] at h
   have e:(i + n).toNat = j:=Option.some.inj h
   exact ⟨by rw [seqIndex_neg (by lia) h1,e],by lia,h1,by lia⟩
  ·rw [if_neg h1] at h; cases h
theorem aD4 {α:Type} {xs:List α} {i:Int} {v:α} (h:atI xs i = some v):∃ j,seqIndex? i xs.length = some j ∧ xs[j]? = some v ∧ j < xs.length ∧ -(xs.length:Int) ≤ i ∧ i < xs.length:=by
 unfold atI at h
 cases e:ixN xs.length i with
 | none=>rw [e] at h; cases h
 | some j =>
  rw [e] at h
  obtain ⟨h1,h2,h3,h4⟩:=aE0 e
  exact ⟨j,h1,h,h2,h3,h4⟩
theorem G9 {α:Type} {xs:List α} {j:Nat} {v:α} (h:xs[j]? = some v):atI xs (j:Int) = some v:=by
 have hj:j < xs.length:=(List.getElem?_eq_some_iff.mp h).1
 have e:ixN xs.length (j:Int) = some j:=by
  unfold ixN
  rw [if_pos (by lia),if_pos (by lia)]; simp
 unfold atI; rw [e]; exact h
def aU1 (b:Expr):Prop:=∀ o i,subscripted b false o i = operate [o,i] (getItem o i)
def IxR (X:Cx) (r:R2):Prop :=
 ∀ (value slice:Expr) (pins:List (Addr × Obj)) (s:Shared) (σ:St) (H:Hp) (x y:V) (v u:Value) (Q:VK),Inv X pins σ H s → n5 x v → n5 y u → r x y H Q →
  subscripted slice false v u = operate [v,u] (getItem v u) → wpAny (model X.prog X.w) X.A (subscriptTail value slice v u) (EP X pins σ Q) X.xe s
def MtR (X:Cx) (id:String) (r:V → List V → Hp → VK → Prop):Prop :=
 ∀ (pins:List (Addr × Obj)) (s:Shared) (σ:St) (H:Hp) (x:V) (xs:List V) (v:Value) (us:List Value) (Q:VK),Inv X pins σ H s → n5 x v → j9 xs us → r x xs H Q →
  wpAny (model X.prog X.w) X.A (call (.builtin id) (v :: us)) (EP X pins σ Q) X.xe s
section
variable {X:Cx} {a b:Expr} {ta tb:TE} {pos:Pos}
theorem h9 {r:R2} (hr:IxR X r) (ha:PE X a ta) (hb:PE X b tb) (hs:aU1 b):PE X (.Subscript a b pos) (tOp r ta tb):=by
 intro pins s σ H Q I h
 exact Subscript_ (a06 ha hb I h fun v u s2 x y H2 I2 rx ry q=>hr a b pins s2 σ H2 x y v u Q I2 rx ry q (hs _ _))
def a62 (K:PySem.W.Frag):R2:=fun x y H Q=>∃ p xs i v,x = .ref p ∧ y = .int i ∧ SqL K H p xs ∧ atI xs i = some v ∧ Q v H
def a60 (K:PySem.W.Frag):R2:=fun x y H Q=>∃ p xs i v,x = .ref p ∧ y = .int i ∧ SqT K H p xs ∧ atI xs i = some v ∧ Q v H
theorem aU2:IxR X (a62 X.K):=by
 intro value slice pins s σ H x y v u Q I rx ry h hs
 obtain ⟨p,xs,i,z,rfl,rfl,hq,he,q⟩:=h
 cases rx
 obtain ⟨t,rfl⟩:=ry
 obtain ⟨its,r,pl,hz⟩:=I.list hq
 obtain ⟨j,h1,h2,h3,h4,h5⟩:=aD4 he
 obtain ⟨w,ew,rw'⟩:=r.get h2
 have hl:=r.length
 have hn:=ab1
 have fin:EP X pins σ Q w s:=⟨z,H,I,rw',q⟩
 by_cases h0:0 ≤ i
 ·have hj:i.toNat = j:=by
   rw [seqIndex_of h0 h5] at h1
   exact Option.some.inj h1
  exact item_listR pl.isList h0 (by lia) (by rw [hj]; simpa using ew) fin hs
 ·have hj:(i + (its.toArray.size:Int)).toNat = j:=by
   rw [seqIndex_neg (by lia) h4] at h1
   rw [List.size_toArray,← hl]
   exact Option.some.inj h1
  exact subscriptTail_builtinR (x:=w) pl.isList.typeIs slot_list_getitem.lookup
   (wpAny_getItem_list_neg (Q:=fun r s'=>r = w ∧ EP X pins σ Q r s') pl.isList (by lia) (by rw [List.size_toArray] <;> lia) (by lia) (by rw [hj]; simpa using ew) ⟨rfl,fin⟩) hs
theorem aZ9:IxR X (a60 X.K):=by
 intro value slice pins s σ H x y v u Q I rx ry h hs
 obtain ⟨p,xs,i,z,rfl,rfl,hq,he,q⟩:=h
 cases rx
 obtain ⟨t,rfl⟩:=ry
 obtain ⟨its,r,pl,hz⟩:=I.tuple hq
 obtain ⟨j,h1,h2,h3,h4,h5⟩:=aD4 he
 obtain ⟨w,ew,rw'⟩:=r.get h2
 have hl:=r.length
 have hn:=ab1
 have fin:EP X pins σ Q w s:=⟨z,H,I,rw',q⟩
 exact subscriptTail_builtinR (x:=w) pl.typeIs slot_tuple_getitem.lookup
  (getItem_tuple (j:=j) (Q:=fun r s'=>r = w ∧ EP X pins σ Q r s') pl (by lia) (by lia) (by rw [List.size_toArray,← hl]; exact h1) (by simpa using ew) ⟨rfl,fin⟩) hs
theorem ax6 (its:List Value) (n j:Nat) (u:Value):Obj.mapSeq (·.setIfInBounds j u) { cls:=.type "list",data:=.seq its.toArray n } = { cls:=.type "list",data:=.seq (its.set j u).toArray n }:=by
 simp [Obj.mapSeq]
theorem Inv.lst {pins:List (Addr × Obj)} {σ:St} {H:Hp} {s:Shared} {p:Addr} {xs:List V} (I:Inv X pins σ H s) (h:H p = some (.lst xs)) :
  ∃ (its:List Value) (n:Nat),j9 xs its ∧ s.heap.get? p = some { cls:=.type "list",data:=.seq its.toArray n } ∧ xs.length ≤ sizeLine:=by
 obtain ⟨z,its,n,r,e⟩:=I.hok p _ h
 exact ⟨its,n,r,e,z⟩
theorem Inv.lstUpd {pins:List (Addr × Obj)} {σ:St} {H:Hp} {s:Shared} {p:Addr} {xs ys:List V} {its its':List Value} {n n':Nat} {f:Obj → Obj} (I:Inv X pins σ H s) (h:H p = some (.lst xs))
  (ho:s.heap.get? p = some { cls:=.type "list",data:=.seq its.toArray n }) (hf:f { cls:=.type "list",data:=.seq its.toArray n } = { cls:=.type "list",data:=.seq its'.toArray n' }) (r:j9 ys its') (hz:ys.length ≤ sizeLine) (t:Nat) :
  Inv X pins σ (upd H p (.lst ys)) { s with heap:=s.heap.update p f,toks:=t }:=by
 have e:(s.heap.update p f).get? p = some { cls:=.type "list",data:=.seq its'.toArray n' }:=by
  rw [Heap.get?_update_self f ho (by rw [hf] <;> rfl),hf]
 refine I.write (x:=p) (e:=p) (by rw [h]; trivial) (.inl rfl) (fun b u hb q=>(Heap.get?_update_other _ _ (Ne.symm hb)).trans q) ⟨_,e⟩ ?_
 exact ⟨hz,its',n',r,e⟩
def a61:V → V → V → Hp → (Hp → Prop) → Prop:=fun o i v H Q=>∃ p xs k j,o = .ref p ∧ i = .int k ∧ H p = some (.lst xs) ∧ ixN xs.length k = some j ∧ Q (upd H p (.lst (xs.set j v)))
theorem ap9:a51 X a61:=by
 intro pins s σ H o i v ov iv u Q I ro ri rv h
 obtain ⟨p,xs,k,j,rfl,rfl,hp,hj,q⟩:=h
 cases ro
 obtain ⟨t,rfl⟩:=ri
 obtain ⟨its,n,r,ho,hz⟩:=I.lst hp
 obtain ⟨h1,h2,h3,h4⟩:=aE0 hj
 have hl:=r.length
 have hn:=ab1
 have I':Inv X pins σ (upd H p (.lst (xs.set j v))) { s with heap:=s.heap.update p (Obj.mapSeq (·.setIfInBounds j u)) } :=
  I.lstUpd hp ho (ax6 its n j u) (r.set rv j) (by rw [List.length_set]; exact hz) s.toks
 by_cases h0:0 ≤ k
 ·have hk:k.toNat = j:=by
   rw [seqIndex_of h0 h4] at h1
   exact Option.some.inj h1
  exact PySem.W.ki_setAt ho h0 (by lia) (by rw [List.size_toArray,← hl]; exact h4) (by rw [hk]; exact ⟨_,I',q⟩)
 ·have hk:(k + (its.toArray.size:Int)).toNat = j:=by
   rw [seqIndex_neg (by lia) h3] at h1
   rw [List.size_toArray,← hl]
   exact Option.some.inj h1
  exact PySem.W.ki_setBack ho (by lia) (by rw [List.size_toArray,← hl]; exact h3) (by lia) (by rw [hk]; exact ⟨_,I',q⟩)
theorem ak7 (lo hi:Option Int) (n:Nat):(sliceBounds lo hi none n).1 = ((HT.sIx n 0 lo:Nat):Int) ∧ (sliceBounds lo hi none n).2.1 = ((HT.sIx n n hi:Nat):Int) ∧ (sliceBounds lo hi none n).2.2 = 1:=by
 refine ⟨?_,?_,rfl⟩
 ·cases lo with
  | none=>simp [sliceBounds,HT.sIx]
  | some i =>
   simp only [sliceBounds,HT.sIx,Option.getD_none,show (1:Int) > 0 by decide,if_true]
   by_cases h:i < 0
   ·simp only [h,if_true] <;> lia
   ·simp only [h,if_false] <;> lia
 ·cases hi with
  | none=>simp [sliceBounds,HT.sIx]
  | some i =>
   simp only [sliceBounds,HT.sIx,Option.getD_none,show (1:Int) > 0 by decide,if_true]
   by_cases h:i < 0
   ·simp only [h,if_true] <;> lia
   ·simp only [h,if_false] <;> lia
theorem ae2 (its:List Value) (lo hi:Option Int):slicePick its.toArray lo hi none = ((its.drop (HT.sIx its.length 0 lo)).take (HT.sIx its.length its.length hi - HT.sIx its.length 0 lo)).toArray:=by
 obtain ⟨h1,h2,h3⟩:=ak7 lo hi its.toArray.size
 unfold slicePick
 rw [h1,h2,h3]
 simp only [sliceRange_one,pick_run,List.size_toArray] <;> rfl
def a_2 (K:PySem.W.Frag):V → Option Int → Option Int → Hp → VK → Prop:=fun x lo hi H Q=>∃ a xs,x = .ref a ∧ SqL K H a xs ∧ ∀ p,H p = none → Q (.ref p) (upd H p (.lst (X2 xs lo hi)))
theorem aW6:SlR X (a_2 X.K):=by
 intro pins s σ H x v vl vu lo hi sl Q I rx hs pl pu h
 obtain ⟨a,xs,rfl,hx,q⟩:=h
 cases rx
 obtain ⟨its,r,ht,hz⟩:=I.list hx
 have hlen:=r.length
 refine ⟨"list",_,slot_list_getitem.lookup,ht.isList.typeIs,?_⟩
 refine wpAny_getItem_list_slice ht.isList hs pl pu .none (by simp) ?_ (by rw [List.size_toArray] <;> lia)
 rw [ae2,← hlen]
 refine ⟨.ref s.heap.objs.size,_,I.laid (t':=s.toks) (o:=.lst (X2 xs lo hi)) (fun b ob q=>Heap.get?_push_of_some _ q) (Nat.le_refl _) ?_,rfl,q _ (I.hok.fresh (Nat.le_refl _))⟩
 exact ⟨Nat.le_trans (Y1 xs lo hi) hz,_,0,(r.drop (HT.sIx xs.length 0 lo)).take (HT.sIx xs.length xs.length hi - HT.sIx xs.length 0 lo),Heap.get?_push_size _ rfl⟩
theorem al7:y7 X (.builtin "len") (fun xs H Q=>∃ p ys,xs = [.ref p] ∧ (SqL X.K H p ys ∨ SqT X.K H p ys) ∧ Q (.int ys.length) H):=by
 intro pins s σ H xs us Q I r h
 obtain ⟨p,ys,rfl,hq,q⟩:=h
 obtain ⟨u,rfl,rx⟩:=K4 r
 cases rx
 have hn:=ab1
 rcases hq with hq | hq
 ·obtain ⟨its,r',pl,hz⟩:=I.list hq
  have hlen:=r'.length
  exact Calls.call_len_list pl.isList (by simp only [List.size_toArray] <;> lia) ⟨.int ys.length,H,I.tok _,⟨s.toks + 1,by rw [List.size_toArray,hlen]⟩,q⟩
 ·obtain ⟨its,r',pl,hz⟩:=I.tuple hq
  have hlen:=r'.length
  exact len_tuple pl (by simp only [List.size_toArray] <;> lia) ⟨.int ys.length,H,I.tok _,⟨s.toks + 1,by rw [List.size_toArray,hlen]⟩,q⟩
theorem ak4:y7 X (.type "list") (fun xs H Q=>∃ p ys,xs = [.ref p] ∧ (SqL X.K H p ys ∨ SqT X.K H p ys) ∧ ∀ l,H l = none → Q (.ref l) (upd H l (.lst ys))):=by
 intro pins s σ H xs us Q I r h
 obtain ⟨p,ys,rfl,hq,q⟩:=h
 obtain ⟨u,rfl,rx⟩:=K4 r
 cases rx
 have fin:∀ (its:List Value),j9 ys its → ys.length ≤ sizeLine → ∀ (h':Heap) (c':Nat),(∀ b o',s.heap.get? b = some o' → h'.get? b = some o') →
   h'.get? s.heap.objs.size = some { cls:=.type "list",dict:=none,data:=.seq its.toArray c',slots:=#[] } → EP X pins σ Q (.ref s.heap.objs.size) { s with heap:=h' }:=fun its r' hz h' c' kp e =>
  ⟨.ref s.heap.objs.size,_,I.laid (t':=s.toks) kp (Nat.le_refl _) (show m5 X.prog X.w _ h' _ (.lst ys) from ⟨hz,its,c',r',e⟩),rfl,q _ (I.hok.fresh (Nat.le_refl _))⟩
 rcases hq with hq | hq
 ·obtain ⟨its,r',pl,hz⟩:=I.list hq
  have hlen:=r'.length
  obtain ⟨o,ho,hc,n,hd⟩:=pl.isList
  exact call_list_seq p (.inl rfl) ho hc hd (fun h' c' kp e=>fin its r' hz h' c' kp e) (by simp only [List.size_toArray] <;> lia)
 ·obtain ⟨its,r',pl,hz⟩:=I.tuple hq
  have hlen:=r'.length
  obtain ⟨o,ho,hc,n,hd⟩:=pl
  exact call_list_seq p (.inr rfl) ho hc hd (fun h' c' kp e=>fin its r' hz h' c' kp e) (by simp only [List.size_toArray] <;> lia)
theorem ae4:y7 X (.type "tuple") (fun xs H Q=>∃ p ys,xs = [.ref p] ∧ ((SqL X.K H p ys ∧ ∀ l,H l = none → Q (.ref l) (upd H l (.tup ys))) ∨ (SqT X.K H p ys ∧ Q (.ref p) H))):=by
 intro pins s σ H xs us Q I r h
 obtain ⟨p,ys,rfl,h⟩:=h
 obtain ⟨u,rfl,rx⟩:=K4 r
 cases rx
 rcases h with ⟨hq,q⟩ | ⟨hq,q⟩
 ·obtain ⟨its,r',pl,hz⟩:=I.list hq
  have hlen:=r'.length
  refine call_tuple_list pl.isList (fun h' kp=>?_) (by simp only [List.size_toArray] <;> lia)
  have I1:Inv X pins σ H { s with heap:=h' }:=I.kept (t':=s.toks) kp
  have I2:Inv X pins σ (upd H h'.objs.size (.tup ys)) { s with heap:=h'.push { cls:=.type "tuple",data:=.seq its.toArray } } :=
   I1.laid (t':=s.toks) (fun b o e=>Heap.get?_push_of_some _ e) (Nat.le_refl _) (show m5 X.prog X.w _ _ _ (.tup ys) from ⟨hz,its,r',IsTup.new _ _⟩)
  exact ⟨.ref h'.objs.size,_,I2,rfl,q _ (I1.hok.fresh (Nat.le_refl _))⟩
 ·obtain ⟨its,r',pl,hz⟩:=I.tuple hq
  exact call_tuple_same pl ⟨.ref p,H,I,rfl,q⟩
def tyV (K:PySem.W.Frag) (T:String) (x:V) (H:Hp):Prop:=match x with
 | .str _=>T = "str"
 | .int _=>T = "int"
 | .ref p=>(T = "list" ∧ ∃ xs,SqL K H p xs) ∨ (T = "tuple" ∧ ∃ o,K.lookup p = some o ∧ o.cls = .type "tuple" ∧ o.dict = none) ∨
   (T = "dict" ∧ ((∃ kvs,H p = some (.dK kvs)) ∨ ∃ kvs,H p = some (.dT kvs))) ∨ (T = "set" ∧ ∃ S n,H p = some (.set S n))
 | _=>False
theorem a55 {pins:List (Addr × Obj)} {σ:St} {H:Hp} {s:Shared} {T:String} {x:V} {v:Value} (I:Inv X pins σ H s) (r:n5 x v) (ty:tyV X.K T x H) :
  s.TypeIs v T ∧ ∀ a,v = .ref a → ∃ ob,s.heap.get? a = some ob ∧ ob.dict = none:=by
 cases x with
 | str z =>
  obtain ⟨t,rfl⟩:=r
  cases (show T = "str" from ty)
  exact ⟨typeIs_str s z t,fun _ e=>nomatch e⟩
 | int i =>
  obtain ⟨t,rfl⟩:=r
  cases (show T = "int" from ty)
  exact ⟨typeIs_int s i t,fun _ e=>nomatch e⟩
 | ref p =>
  cases r
  rcases ty with ⟨rfl,xs,hq⟩ | ⟨rfl,o,hk,hc,hd⟩ | ⟨rfl,hk⟩ | ⟨rfl,S,n,hk⟩
  ·obtain ⟨its,_,pl,_⟩:=I.list hq
   refine ⟨pl.isList.typeIs,fun a e=>?_⟩
   cases e
   obtain ⟨o,n,e,c,hd,_⟩:=pl
   exact ⟨o,e,hd⟩
  ·refine ⟨⟨o,I.kIn p o hk,hc⟩,fun a e=>?_⟩
   cases e
   exact ⟨o,I.kIn _ o hk,hd⟩
  ·have z:∃ o,s.heap.get? p = some o ∧ o.ExactDict:=by
    rcases hk with ⟨kvs,hk⟩ | ⟨kvs,hk⟩
    ·obtain ⟨_,_,_,_,o,_,_,e,ex,_⟩:=I.hok p _ hk
     exact ⟨o,e,ex⟩
    ·obtain ⟨_,_,_,_,o,_,_,e,ex,_⟩:=I.hok p _ hk
     exact ⟨o,e,ex⟩
   obtain ⟨o,e,ex⟩:=z
   refine ⟨⟨o,e,ex.1⟩,fun a e2=>?_⟩
   cases e2
   exact ⟨o,e,ex.2.1⟩
  ·obtain ⟨o,_,_,_,e,ex,_⟩:=I.hok p _ hk
   refine ⟨⟨o,e,ex.1⟩,fun a e2=>?_⟩
   cases e2
   exact ⟨o,e,ex.2.1⟩
 | _=>exact False.elim ty
def tBM (K:PySem.W.Frag) (T:String) (r:V → List V → Hp → VK → Prop) (to:TE) (t:TA):TE:=fun σ H Q=>to σ H fun x H1=>tyV K T x H1 ∧ t σ H1 fun xs H2=>r x xs H2 Q
variable {o e:Expr} {es:List Expr} {to:TE} {t:TA} {name:Str} {apos cpos:Pos} {T id:String} {r:V → List V → Hp → VK → Prop}
theorem a86 (pa:PlainAttrs T) (slot:Slot T name id) (hty:typeOf (.builtin id) = pure (.type "method_descriptor")) (hm:MtR X id r) (ho:PE X o to) (ha:PA X (e :: es) t)
  (hbase:attributeBase o name X.env (eval o X.env) = eval o X.env:=by rfl)
  (hfew:((backTo cpos (starEach (e :: es) X.env)).all (fun x=>!x.1) && (backToKw cpos (keywordEach [] X.env)).all (fun x=>x.1.isSome)
   && decide ((e :: es).length + ([]:List Keyword).length + (if ([]:List Keyword).isEmpty then 0 else 1) < 30)) = true:=by rfl)
  (hline:(apos.endLine == cpos.line) = true:=by rfl) (hs:starEach (e :: es) X.env = (false,eval e X.env) :: starEach es X.env:=by rfl) (hplain:(backTo cpos (starEach es X.env)).any (·.1) = false:=by rfl) :
  PE X (.Call (.Attribute o name apos) (e :: es) [] cpos) (tBM X.K T r to t):=by
 intro pins s σ H Q I h
 refine wpAny_Call_method_late hbase hfew hline rfl (thn (ho pins s σ H _ I h) fun v s1 ⟨x,H1,I1,r1,ty,q1⟩=>?_)
 obtain ⟨h1,h2⟩:=a55 I1 r1 ty
 refine ⟨T,id,pa,slot,hty,h1,h2,?_⟩
 have hA:=ha cpos pins s1 σ H1 _ I1 q1
 rw [hs] at hA ⊢
 refine Calls.callWith_builtin (by show (false || (backTo cpos (starEach es X.env)).any (·.1)) = false; rw [hplain] <;> rfl) (Calls.evalArgs_plain ?_)
 exact thn hA fun us s2 ⟨vs,H2,I2,r2,q2⟩=>hm pins s2 σ H2 x vs v us Q I2 r1 r2 q2
end
end L2
namespace L2
open PySem PySem.Spec PyProof.Rows
def MtM (X:Cx) (id:String) (r:V → List V → Hp → VK → Prop):Prop :=
 ∀ (pins:List (Addr × Obj)) (s:Shared) (σ:St) (H:Hp) (x:V) (xs:List V) (v:Value) (us:List Value) (Q:VK),Inv X pins σ H s → n5 x v → j9 xs us → r x xs H Q →
  wpAny (model X.prog X.w) X.A (call (.builtin id) (v :: us)) (EP X pins σ Q) X.xe s
theorem j9.one:∀ {x:V} {us:List Value},j9 [x] us → ∃ u,us = [u] ∧ n5 x u
 | _,_,.cons r .nil=>⟨_,rfl,r⟩
theorem j9.eraseIdx:∀ {xs:List V} {us:List Value} (i:Nat),j9 xs us → j9 (xs.eraseIdx i) (us.eraseIdx i)
 | _,_,_,.nil=>.nil
 | _,_,0,.cons _ t=>t
 | _,_,i + 1,.cons r t=>.cons r (j9.eraseIdx i t)
theorem ah4 {α:Type}:∀ (l:List α) (i:Nat),(l.eraseIdx i).length ≤ l.length
 | [],_=>Nat.le_refl _
 | _ :: _,0=>Nat.le_succ _
 | _ :: r,i + 1=>Nat.succ_le_succ (ah4 r i)
section
variable {X:Cx} {pins:List (Addr × Obj)} {σ:St} {H:Hp} {s:Shared} {l b:Addr} {xs ys zs:List V}
theorem Inv.lset {its its':List Value} {n:Nat} {f:Array Value → Array Value} {t':Nat} (I:Inv X pins σ H s) (hH:H l = some (.lst xs))
  (e:s.heap.get? l = some { cls:=.type "list",data:=.seq its.toArray n }) (hf:f its.toArray = its'.toArray) (hv:j9 ys its') (hz:ys.length ≤ sizeLine) :
  Inv X pins σ (upd H l (.lst ys)) { s with heap:=s.heap.update l (Obj.mapSeq f),toks:=t' }:=by
 have q:=PySem.IsL.update e f
 rw [hf] at q
 refine I.write (x:=l) (e:=l) (by rw [hH]; exact trivial) (.inl rfl) (fun b' u hb hu=>(Heap.get?_update_other s.heap (Obj.mapSeq f) (Ne.symm hb)).trans hu) ⟨_,q⟩ ?_
 exact ⟨hz,its',_,hv,q⟩
theorem Inv.lnew {its:List Value} {t':Nat} (I:Inv X pins σ H s) (hv:j9 ys its) (hz:ys.length ≤ sizeLine) :
  Inv X pins σ (upd H s.heap.objs.size (.lst ys)) { s with heap:=s.heap.push { cls:=.type "list",data:=.seq its.toArray },toks:=t' } :=
 I.laid (fun _ _ q=>Heap.get?_push_of_some _ q) (Nat.le_refl _) ⟨hz,its,0,hv,Heap.get?_push_size _ rfl⟩
theorem Inv.fresh (I:Inv X pins σ H s):H s.heap.objs.size = none:=I.hok.fresh (Nat.le_refl _)
theorem Inv.lstM (I:Inv X pins σ H s) (hH:H l = some (.lst xs)):xs.length ≤ sizeLine ∧ ∃ (its:List Value) (n:Nat),j9 xs its ∧ xs.length = its.length ∧ s.heap.get? l = some { cls:=.type "list",data:=.seq its.toArray n }:=by
 obtain ⟨z,its,n,r,e⟩:=I.hok l _ hH
 exact ⟨z,its,n,r,r.length,e⟩
end
section
variable {X:Cx}
def aD7:V → List V → Hp → VK → Prop:=fun x vs H Q=>∃ l xs y,x = .ref l ∧ vs = [y] ∧ H l = some (.lst xs) ∧ xs.length < sizeLine ∧ Q .non (upd H l (.lst (xs ++ [y])))
theorem aG4:MtM X "list.append" aD7:=by
 intro pins s σ H x vs v us Q I rx rv h
 obtain ⟨l,xs,y,rfl,rfl,hH,hz,q⟩:=h
 cases rx
 obtain ⟨u,rfl,ru⟩:=rv.one
 obtain ⟨z,its,n,r,hl,e⟩:=I.lstM hH
 refine call_meets F.slot_list_append ⟨_,e,rfl⟩ F.entry_list_append (F.args_list_append_2 _ _) (PySem.list_append l its.toArray n u (by rw [List.size_toArray]; lia)) ⟨e,?_⟩
 refine ⟨.non,_,I.lset (its':=its ++ [u]) hH e (by simp) (r.append (.cons ru .nil)) ?_,rfl,q⟩
 rw [List.length_append,List.length_singleton]
 lia
def ax9:V → List V → Hp → VK → Prop:=fun x vs H Q=>∃ l xs i k y,x = .ref l ∧ vs = [.int i] ∧ H l = some (.lst xs) ∧ -(2 ^ 63) ≤ i ∧ i < 2 ^ 63 ∧ seqIndex? i xs.length = some k ∧ xs[k]? = some y ∧ Q y (upd H l (.lst (xs.eraseIdx k)))
theorem aN0:MtM X "list.pop" ax9:=by
 intro pins s σ H x vs v us Q I rx rv h
 obtain ⟨l,xs,i,k,y,rfl,rfl,hH,h1,h2,hk,hy,q⟩:=h
 cases rx
 obtain ⟨u,rfl,ru⟩:=rv.one
 obtain ⟨t,rfl⟩:=ru
 obtain ⟨z,its,n,r,hl,e⟩:=I.lstM hH
 obtain ⟨w,hw,rw'⟩:=r.get hy
 refine call_meets F.slot_list_pop ⟨_,e,rfl⟩ F.entry_list_pop (F.args_list_pop_2 _ _)
  (MeetsSeq.list_pop_at l its.toArray n i t k w (fitsIndex_both h1 h2) (by rw [List.size_toArray,← hl]; exact hk) (by rw [← Array.getElem?_toList]; exact hw) (by rw [List.size_toArray]; lia)) ⟨e,?_⟩
 refine ⟨y,_,I.lset (its':=its.eraseIdx k) hH e ?_ (r.eraseIdx k) ?_,rw',q⟩
 ·show its.toArray.eraseIdxIfInBounds k = (its.eraseIdx k).toArray
  rw [List.eraseIdxIfInBounds_toArray]
 ·have:=ah4 xs k
  lia
def a_5:R2:=fun x y H Q=>∃ l b xs zs,x = .ref l ∧ y = .ref b ∧ H l = some (.lst xs) ∧ H b = some (.lst zs) ∧ xs.length + zs.length ≤ sizeLine ∧ ∀ p,H p = none → Q (.ref p) (upd H p (.lst (xs ++ zs)))
theorem a49:OpR X (binaryOp .Add) a_5:=by
 intro pins s σ H x y v u Q I rx ry h
 obtain ⟨l,b,xs,zs,rfl,rfl,hH,hB,hz,q⟩:=h
 cases rx
 cases ry
 obtain ⟨z,its,n,r,hl,e⟩:=I.lstM hH
 obtain ⟨z2,its2,n2,r2,hl2,e2⟩:=I.lstM hB
 refine PySem.P.add_list e e2 ?_ (by rw [List.size_toArray,List.size_toArray]; lia)
 have ea:its.toArray ++ its2.toArray = (its ++ its2).toArray:=by simp
 rw [ea]
 exact ⟨.ref _,_,I.lnew (t':=s.toks) (r.append r2) (by rw [List.length_append]; lia),rfl,q _ I.fresh⟩
end
end L2
namespace Att
open PySem PySem.W PySem.Calls PyProof.Rows
theorem Y6 {P:Params} {h:Heap}:∀ (ns:List Int) (vs:List Value),WellAll P h vs (ns.map WData.int) → IntsAre vs ns:=by
 intro ns
 induction ns with
 | nil =>
  intro vs w
  rw [List.map_nil] at w
  cases w
  exact .nil
 | cons n ns ih =>
  intro vs w
  rw [List.map_cons] at w
  cases w with
  | cons a b =>
   cases a
   exact .cons _ _ (ih _ b)
theorem aI6 {l:OpenLaw} {n:Nat} (hn:l.most = some n) {P:Params} {h:Heap} {args:List WData} {vals:List Value}
  (hpre:l.row.toRowW.claim.pre args = true) (hwl:WellAll P h vals args) :
  ∃ a vs ns,vals = [Value.ref a] ∧ args = [WData.list (ns.map WData.int)] ∧ h.get? a = some { cls:=.type "list",data:=.seq vs.toArray } ∧ IntsAre vs ns ∧ ns.length ≤ n:=by
 have hsh:WShape.hasAll [] args [.list .int] = true:=(pre_splitW hpre).1
 have hc:l.pre.holds [] { args:=args } = true:=(pre_splitW hpre).2
 obtain ⟨d,r,rfl,h1,h2⟩:=hasAllW_cons hsh
 obtain rfl:=hasAllW_nil h2
 obtain ⟨xs,rfl,h3⟩:=hasW_list h1
 obtain ⟨ns,rfl⟩:=items_int h3
 have hlen:ns.length ≤ n:=by
  unfold OpenLaw.pre at hc
  have h4:(WTm.not (.lt (.lit (.int (n:Int))) (.len (.arg 0)))).holds [] { args:=[.list (ns.map .int)] } = true:=by
   have h4:=(holds_andW hc).1
   rw [hn] at h4
   exact h4
  have h5:=condW_of h4 (w_not (w_lt w_lit (w_len_list (w_arg rfl))))
  rw [List.length_map] at h5
  refine Nat.le_of_not_lt fun q=>?_
  have q':(n:Int) < ((ns.length:Nat):Int):=by lia
  first
   | (rw [decide_eq_true q'] at h5; exact absurd h5 (by decide))
   | (simp at h5; lia)
 cases hwl with
 | cons w1 w2 =>
  cases w2
  cases w1 with
  | list ho hall=>exact ⟨_,_,ns,rfl,rfl,ho,Y6 ns _ hall,hlen⟩
theorem aG5 (l:OpenLaw) (args:List WData):l.row.toRowW.claim.post args (.bool true) args = true :=
 postW_of (r:=l.row.toRowW) (X:=(true == true))
  (show WShape.has [] (.bool true) .bool = true by first | rfl | decide | simp [WShape.has,WShape.arms,WShape.armsAll])
  (show (WTm.eq .res (.lit (.bool true))).value [] { args:=args,res:=some (.bool true),after:=args } = some (.bool (true == true)) from w_eq_bool (w_res rfl) w_lit) rfl
theorem attach_call {l:OpenLaw} {n:Nat} {q:Program} {loose:List Str} {XP:(Str → Option Value) → Heap → Prop} {YP:World → Heap → Prop} {d:DefRec}
  (hn:l.most = some n) (hdf:d.params.defaults = [])
  (call:∀ (w:World) (s₀ s₁:Shared) (mg mb:Str → Option Value) (fa:Addr) (o:Obj) (pm cd doc:Value) (a:Addr) (vs:List Value) (ns:List Int),
   Ground q loose [] XP w s₀ mg mb s₁.heap → YP w s₁.heap →
   s₁.heap.get? fa = some o → o.data = .func (docDef d.name d.params d.body d.scope pm cd doc) → s₁.heap.CodeRec cd d.name → mg d.name = some (.ref fa) →
   s₁.heap.get? a = some { cls:=.type "list",data:=.seq vs.toArray } → IntsAre vs ns → ns.length ≤ n → s₁.gens = #[] →
   codeAny (model l.prog w) callerA (.call (.ref fa) ⟨[.ref a],[]⟩) (fun r s'=>r = .ok (.ret (.bool true)) ∧ OldK s₁.heap s'.heap ∧ s'.os = s₁.os ∧ AllBare s'.gens) s₁) :
  WalkO q loose XP YP l.row.toRowW d [] (fun f vs=>PySem.call f vs):=by
 intro w s₀ s₁ mg mb G Y fa o pm cd doc dV kV ho hd hcd hD hmg hg args vals as hpre hlay hrd hwl hlo
 obtain rfl:dV = .none:=Dflts.none hD hdf
 obtain rfl:kV = .none:=Dflts.noKw hD
 obtain ⟨a,vs,ns,rfl,rfl,hobj,hints,hlen⟩:=aI6 hn hpre hwl
 refine enter_call (codeAny_mono (call w s₀ s₁ mg mb fa o pm cd doc a vs ns G Y ho (fd_plain hd) hcd hmg hobj hints hlen hg) fun r s' hq=>?_)
 obtain ⟨rfl,h2,h3,h4⟩:=hq
 exact ⟨.inl ⟨.bool true,.bool true,[],rfl,fun _=>rfl,.bool true,aG5 l _,fun _=>⟨List.Pairwise.nil,fun _ hm=>(nomatch hm)⟩⟩,h2,h3,h4⟩
end Att
namespace L2
open PySem PySem.Spec PyProof.Rows
theorem Q7:∀ {vs:List Value} {ns:List Int},IntsAre vs ns → j9 (ns.map V.int) vs
 | _,_,.nil=>.nil
 | _,_,.cons n t h=>.cons ⟨t,rfl⟩ (Q7 h)
def aZ3 (H:Hp):Prop:=∀ b,H b = none ∨ ∃ o xs,H b = some (.frz o (.lst xs))
theorem aM3 {P:Program} {w:World} {K:PySem.W.Frag} {mg mb:Str → Option Value} {CX:CXT} {k:Nat} {fa a:Addr} {fd:FuncData} {x:Str} {sp:Sp} {s₁:Shared} {vs:List Value} {ns:List Int}
  (KX:K.In s₁.heap) (hns:s₁.heap.Ns mainGlobals mg) (hb:s₁.heap.Ns builtinsNs mb) (hbb:∀ x:Str,x ≠ "__name__" → mb x = bootBuiltins x) (hlim:s₁.heap.NoLimit) (hg:s₁.gens = #[])
  (ha:s₁.heap.get? a = some { cls:=.type "list",data:=.seq vs.toArray }) (hi:IntsAre vs ns) (hl:ns.length ≤ sizeLine) (hr:Room k callerA)
  (F:∀ base:Heap,K.In base → base.Ns mainGlobals mg → FnOk P w K mg base CX k fa fd [x] sp) (hbind:∀ (s:Shared) (u:Value),BindsTo s fd ⟨[u],[]⟩ [(x,u)])
  (hsp:∀ H:Hp,aZ3 H → SqL K H a (ns.map V.int) → sp [.ref a] H (fun v _=>v = .bl true) fun _ _ _=>False)
  (hCX:∀ H e s',CX [] H s₁ (fun _ _ _=>False) e s' → False) :
  codeAny (model P w) callerA (.call (.ref fa) ⟨[.ref a],[]⟩) (fun r s'=>r = .ok (.ret (.bool true)) ∧ OldK s₁.heap s'.heap ∧ s'.os = s₁.os ∧ AllBare s'.gens) s₁:=by
 have rv:=Q7 hi
 have lenV:=hi.length
 have core:∀ H:Hp,aZ3 H → SqL K H a (ns.map V.int) → HOk P w H s₁.heap → (∀ b,H b ≠ none → b = a) → (H a ≠ none → K.lookup a = none) →
   codeAny (model P w) callerA (.call (.ref fa) ⟨[.ref a],[]⟩) (fun r s'=>r = .ok (.ret (.bool true)) ∧ OldK s₁.heap s'.heap ∧ s'.os = s₁.os ∧ AllBare s'.gens) s₁:=by
  intro H hO hS hok hA hK
  have base_of:∀ {b:Addr} {o:Obj},s₁.heap.get? b = some o → H b = none → (am2 s₁.heap H).get? b = some o:=fun e n=>aL6 e n
  have noA:∀ {b:Addr} {o:Obj} {es:Array DictEntry} {ep:Nat},s₁.heap.get? b = some o → o.data = .dict es ep → H b = none:=fun {b o es ep} e d=>by
   cases q:H b with
   | none=>rfl
   | some u =>
    have e':b = a:=hA b (by rw [q]; simp)
    subst e'
    rw [ha] at e; cases e
    have d':Data.seq vs.toArray _ = Data.dict es ep:=d
    cases d'
  have nsK:∀ {b:Addr} {m:Str → Option Value},s₁.heap.Ns b m → (am2 s₁.heap H).Ns b m:=fun {b m} ⟨o,es,ep,e,d,r⟩=>⟨o,es,ep,base_of e (noA e d),d,r⟩
  have hKb:K.In (am2 s₁.heap H):=fun b o e=>base_of (KX b o e) (by
   cases q:H b with
   | none=>rfl
   | some u =>
    have e':b = a:=hA b (by rw [q]; simp)
    subst e'
    rw [hK (by rw [q]; simp)] at e; cases e)
  have hM:Mod K mg (am2 s₁.heap H):=⟨hKb,nsK hns,⟨mb,nsK hb,hbb⟩,let ⟨mc,h1,h2⟩:=hlim; ⟨mc,nsK h1,h2⟩⟩
  have e0:Env0 P w K mg (am2 s₁.heap H) callerA [] s₁ H:=⟨rfl,hM,fun b o e=>aT4 e,Nat.le_of_eq (aJ0 _ _),trivial,fun b hb=>absurd (show b ∈ ([]:List Addr) from hb) (by simp),hok,.of_eq hg⟩
  refine codeAny_mono ((F _ hKb (nsK hns)).run callerA [] s₁ H ⟨[.ref a],[]⟩ [.ref a] [.ref a] _ _ hr e0 (hbind s₁ (.ref a)) (.cons rfl .nil) (hsp H hO hS)) fun r s' h=>?_
  cases r with
  | error e=>exact (hCX H e s' h).elim
  | ok fl =>
   cases fl with
   | next=>exact False.elim h
   | brk=>exact False.elim h
   | cont=>exact False.elim h
   | ret u =>
    obtain ⟨v,H',os,bare,un,hok',r',q⟩:=h
    have q':v = .bl true:=q
    subst q'
    obtain rfl:u = Value.bool true:=r'
    refine ⟨rfl,OldK.of_keep fun b o e=>?_,os,bare⟩
    cases q:H b with
    | none=>exact un.keep b o e q (by intro z; exact absurd (show b ∈ ([]:List Addr) from z) (by simp)) (by simp)
    | some u =>
     rcases hO b with z | ⟨ob,xs,z⟩
     ·rw [q] at z; cases z
     ·have z2:=un.frzs b ob _ z
      obtain ⟨e1,_⟩:=hok b _ z
      obtain ⟨e2,_⟩:=hok' b _ z2
      rw [e] at e1; cases e1
      exact e2
 cases hk:K.lookup a with
 | some o =>
  have e:=KX a o hk
  rw [ha] at e
  cases e
  refine core (fun _=>none) (fun _=>.inl rfl) (.inr ⟨_,vs.toArray,_,hk,rfl,rfl,rfl,by rw [List.size_toArray,lenV]; exact hl,by simpa using rv⟩) (fun b u z=>by have z':(none:Option HO) = some u:=z; cases z') (fun b z=>absurd rfl z) fun z=>absurd rfl z
 | none =>
  refine core (fun b=>if b = a then some (.frz { cls:=.type "list",data:=.seq vs.toArray } (.lst (ns.map V.int))) else none) (fun b=>?_) (.inl (.inr ⟨{ cls:=.type "list",data:=.seq vs.toArray },if_pos rfl⟩)) (fun b u z=>?_) (fun b z=>?_) fun _=>hk
  ·by_cases hb:b = a
   ·exact .inr ⟨_,_,if_pos hb⟩
   ·exact .inl (if_neg hb)
  ·by_cases hb:b = a
   ·have z':=(if_pos hb).symm.trans z
    cases z'
    subst hb
    exact ⟨ha,by rw [List.length_map]; exact hl,vs,_,rv,ha⟩
   ·have z':=(if_neg hb).symm.trans z
    cases z'
  ·by_cases hb:b = a
   ·exact hb
   ·exact absurd (if_neg hb) z
end L2
namespace L2
open PySem PySem.Spec PyProof.Rows
theorem aR6 {l:PySem.W.OpenLaw} {n k:Nat} {q:Program} {loose:List Str} {XP:(Str → Option Value) → Heap → Prop} {YP:World → Heap → Prop} {d:DefRec} {K:Params → PySem.W.Frag} {CX:World → CXT} {sp:World → Sp} {x:Str}
  (hn:l.most = some n) (hn2:n ≤ sizeLine) (hdf:d.params.defaults = []) (hr:Room k callerA)
  (hY:∀ (w:World) (h:Heap),YP w h → (K w.params).In h)
  (F:∀ (w:World) (mg:Str → Option Value) (fa:Addr) (h:Heap),(K w.params).In h → h.Ns mainGlobals mg → mg d.name = some (.ref fa) →
   ∃ fd:FuncData,(∀ (s:Shared) (u:Value),BindsTo s fd ⟨[u],[]⟩ [(x,u)]) ∧
    ∀ base:Heap,(K w.params).In base → base.Ns mainGlobals mg → FnOk l.prog w (K w.params) mg base (CX w) k fa fd [x] (sp w))
  (hsp:∀ (w:World) (H:Hp) (a:Addr) (ns:List Int),ns.length ≤ n → aZ3 H → SqL (K w.params) H a (ns.map V.int) → sp w [.ref a] H (fun v _=>v = .bl true) fun _ _ _=>False)
  (hCX:∀ (w:World) (H:Hp) (s:Shared) (e:Value) (s':Shared),CX w [] H s (fun _ _ _=>False) e s' → False) :
  PySem.W.WalkO q loose XP YP l.row.toRowW d [] (fun f vs=>PySem.call f vs):=by
 refine Att.attach_call hn hdf fun w s₀ s₁ mg mb fa o pm cd doc a vs ns G Y ho hd hcd hmg hobj hints hlen hg=>?_
 have KX:=hY w _ Y
 obtain ⟨fd,hb,hF⟩:=F w mg fa _ KX G.T.g hmg
 exact aM3 KX G.T.g G.T.b G.T.builtins G.T.nolimit hg hobj hints (Nat.le_trans hlen hn2) hr hF hb (fun H hO hS=>hsp w H a ns hlen hO hS) fun H e s'=>hCX w H s₁ e s'
end L2
namespace L2
open PySem PySem.Spec PyProof.Rows
def B9 (s:Stmt) (j:Nat):Stmt:=match s with
 | .ClassDef _ _ _ body _ _ _ _ _ _ _=>body.getD j (.Pass ⟨0,0,0,0⟩)
 | _=>.Pass ⟨0,0,0,0⟩
def j0 (s:Stmt):Arguments:=match s with
 | .FunctionDef _ a _ _ _ _ _ _ _ _=>a
 | _=>{ posonlyargs:=[],args:=[],vararg:=none,kwonlyargs:=[],kw_defaults:=[],kwarg:=none,defaults:=[] }
def i8 (s:Stmt):List Stmt:=match s with
 | .FunctionDef _ _ b _ _ _ _ _ _ _=>b
 | _=>[]
def d7 (s:Stmt):Scope:=match s with
 | .FunctionDef _ _ _ _ _ _ sc _ _ _=>sc
 | _=>{ kind:=.function,names:=[],isGenerator:=false,isCoroutine:=false }
abbrev CX0:CXT:=fun _ _ _ _ _ _=>False
abbrev E0:XK:=fun _ _ _=>False
theorem aX0 {X:Cx}:ay0 CX0 X E0:=fun _ _ _ _ _ _ _ h=>h.elim
structure Fun (K:PySem.W.Frag) (x qual:Str) (st:Stmt) (f:Addr) (fd:FuncData):Prop where
 ex:∃ (oc:Value) (od:Option Addr) (kV doc pm:Value) (an:Option Addr) (cdv ct:Value) (osl:Array (Option Value)),
  fd = PySem.W.fnOf x qual (j0 st) (i8 st) (d7 st) .none kV doc pm an cdv ct ∧ K.lookup f = some ⟨oc,od,.func fd,osl⟩ ∧ PySem.W.codeIn K cdv qual = true
 kp:PySem.W.keepIn K (.ref f) = true
section
variable {P:Program} {w:World} {K:PySem.W.Frag} {mg:Str → Option Value} {base:Heap}
theorem Fun.ok {x qual:Str} {st:Stmt} {f:Addr} {fd:FuncData} {N ps:List Str} {k:Nat} {sp:Sp} (F:Fun K x qual st f fd) (S:FnScope N ps (d7 st)) (len:∀ vs H Q E,sp vs H Q E → vs.length = ps.length)
  (hbody:∀ (cdv:Value) (A:Around) (outer:List Env) (s:Shared) (H:Hp) (vs:List V) (Q:VK) (E:XK),Room k (A.deeper (envOfC qual (d7 st) s.heap.objs.size f cdv)) → sp vs H Q E →
   ∃ t,PSs (F8 CX0 P w K mg base N qual (d7 st) f cdv A outer s H E).nox (i8 st) t ∧ t { nx:=fun _ H'=>Q .non H',rt:=Q } (start N vs) H):FnOk P w K mg base CX0 (k + 1) f fd ps sp:=by
 obtain ⟨oc,od,kV,doc,pm,an,cdv,ct,osl,rfl,lk,hcd⟩:=F.ex
 refine ar0 lk hcd S len fun A outer s H vs Q E hr hsp=>?_
 obtain ⟨t,h,q⟩:=hbody cdv A outer s H vs Q E hr hsp
 exact ⟨t,h.nox,q⟩
theorem aN1 {x qual:Str} {st:Stmt} {f:Addr} {oc:Value} {od an:Option Addr} {osl:Array (Option Value)} {kV doc pm cdv ct:Value} (l:K.lookup f = some ⟨oc,od,.func (PySem.W.fnOf x qual (j0 st) (i8 st) (d7 st) .none kV doc pm an cdv ct),osl⟩)
  (c:PySem.W.codeIn K cdv qual = true) (k:PySem.W.keepIn K (.ref f) = true):Fun K x qual st f (PySem.W.fnOf x qual (j0 st) (i8 st) (d7 st) .none kV doc pm an cdv ct):=⟨⟨oc,od,kV,doc,pm,an,cdv,ct,osl,rfl,l,c⟩,k⟩
end
theorem A1 {A:Around} {k:Nat} (hr:Room k A):A.units + 1 < cLine:=Nat.lt_of_le_of_lt (Nat.add_le_add_left (by decide:1 ≤ 64) _) hr.units
theorem m3 {n:Nat} (h:n ≤ 1000):n < sizeLine:=Nat.lt_of_le_of_lt h (by decide)
section
variable {X:Cx}
theorem pv (i:Nat) {x:Str} {pos:Pos} (hN:X.N[i]? = some x:=by rfl) (hv:Vis X.env.scope x:=by first | exact Or.inl rfl | exact Or.inr (Or.inl rfl) | exact Or.inr (Or.inr rfl)) (hd:(x == ("__debug__":Str)) = false:=by decide)
  (hcd:(x == ("__classdict__":Str)) = false:=by decide):PE X (.Name x pos) (a84 i):=a38 hN hv hd hcd
end
theorem D9 {A B:Prop} (h:B):if false = true then A else B:=by
 rw [if_neg Bool.false_ne_true]
 exact h
theorem T5 {A B:Prop} (h:A):if true = true then A else B:=by
 rw [if_pos rfl]
 exact h
theorem O7 {c A B:Prop} [Decidable c] (h1:c → A) (h2:¬ c → B):if c then A else B:=by
 by_cases h:c
 ·rw [if_pos h]
  exact h1 h
 ·rw [if_neg h]
  exact h2 h
theorem aQ2 {c A B:Prop} [Decidable c] (hc:c) (h:B):if (!decide c) = true then A else B:=by
 rw [decide_eq_true hc]
 exact D9 h
def i4 (H H':Hp):Prop:=∀ b o,H b = some o → H' b = some o
theorem i4.refl (H:Hp):i4 H H:=fun _ _ h=>h
theorem i4.trans {H H1 H2:Hp} (a:i4 H H1) (b:i4 H1 H2):i4 H H2:=fun c o h=>b c o (a c o h)
theorem i4.free {H H':Hp} (e:i4 H H') {l:Addr} (h:H' l = Option.none):H l = Option.none:=by
 cases q:H l with
 | none=>rfl
 | some o =>
  rw [e l o q] at h
  cases h
theorem i4.seq {K:PySem.W.Frag} {H H':Hp} {a:Addr} {xs:List V} (e:i4 H H') (h:SqL K H a xs):SqL K H' a xs:=by
 rcases h with (h | ⟨o,h⟩) | h
 ·exact .inl (.inl (e _ _ h))
 ·exact .inl (.inr ⟨o,e _ _ h⟩)
 ·exact .inr h
end L2
namespace L2
open PySem PySem.Spec PyProof.Rows
section
variable {κ:Type} [DecidableEq κ]
def p7 (kvs:List (κ × V)) (k:κ):Option V:=(kvs.find? fun kv=>decide (kv.1 = k)).map (·.2)
def A0 (kvs:List (κ × V)) (k:κ) (v:V):List (κ × V) :=
 if (kvs.any fun kv=>decide (kv.1 = k)) = true then kvs.map (fun kv=>if kv.1 = k then (kv.1,v) else kv) else kvs ++ [(k,v)]
def E8 (kvs:List (κ × V)) (k:κ):List (κ × V):=kvs.filter fun kv=>decide (kv.1 ≠ k)
theorem x9 {p:κ × V} {r:List (κ × V)} {k:κ} (e:p.1 = k):p7 (p :: r) k = some p.2:=by simp [p7,List.find?_cons,e]
theorem w9 {p:κ × V} {r:List (κ × V)} {k:κ} (e:¬ p.1 = k):p7 (p :: r) k = p7 r k:=by simp [p7,List.find?_cons,e]
theorem K0 (k:κ):∀ kvs:List (κ × V),(kvs.any fun kv=>decide (kv.1 = k)) = (p7 kvs k).isSome
 | []=>rfl
 | p :: r=>by
  rw [List.any_cons]
  by_cases e:p.1 = k
  ·simp only [x9 e,decide_eq_true e,Bool.true_or,Option.isSome_some]
  ·rw [w9 e,decide_eq_false e,Bool.false_or]; exact K0 k r
theorem ap6 (k j:κ) (y:V):∀ kvs:List (κ × V),p7 (kvs.map fun kv=>if kv.1 = k then (kv.1,y) else kv) j = (p7 kvs j).map fun x=>if j = k then y else x
 | []=>rfl
 | p :: r=>by
  have ih:=ap6 k j y r
  rw [List.map_cons]
  by_cases h:p.1 = k
  ·rw [if_pos h]
   by_cases e:p.1 = j
   ·rw [x9 (p:=(p.1,y)) e,x9 e,Option.map_some,if_pos (e.symm.trans h)]
   ·rw [w9 (p:=(p.1,y)) e,w9 e,ih]
  ·rw [if_neg h]
   by_cases e:p.1 = j
   ·rw [x9 (p:=p) e,x9 e,Option.map_some,if_neg (fun z=>h (e.trans z))]
   ·rw [w9 (p:=p) e,w9 e,ih]
theorem V8 (k j:κ) (y:V):∀ kvs:List (κ × V),p7 kvs k = none → p7 (kvs ++ [(k,y)]) j = if j = k then some y else p7 kvs j
 | [],_=>by
  by_cases e:k = j
  ·rw [if_pos e.symm]; exact x9 (p:=(k,y)) e
  ·rw [if_neg (fun z=>e z.symm)]; exact w9 (p:=(k,y)) e
 | p :: r,hn=>by
  rw [List.cons_append]
  have hk:¬ p.1 = k:=fun z=>by rw [x9 z] at hn; cases hn
  rw [w9 hk] at hn
  have ih:=V8 k j y r hn
  by_cases e:p.1 = j
  ·rw [x9 e,x9 e,if_neg (fun z=>hk (e.trans z))]
  ·rw [w9 e,w9 e,ih]
theorem P8 (kvs:List (κ × V)) (k j:κ) (y:V):p7 (A0 kvs k y) j = if j = k then some y else p7 kvs j:=by
 unfold A0
 by_cases a:(kvs.any fun kv=>decide (kv.1 = k)) = true
 ·rw [if_pos a,ap6]
  rw [K0] at a
  by_cases e:j = k
  ·obtain ⟨x,hx⟩:=Option.isSome_iff_exists.mp a
   rw [if_pos e,e,hx,Option.map_some,if_pos rfl]
  ·rw [if_neg e]
   cases p7 kvs j with
   | none=>rfl
   | some x=>rw [Option.map_some,if_neg e]
 ·rw [if_neg a]
  refine V8 k j y kvs ?_
  rw [K0] at a
  cases q:p7 kvs k with
  | none=>rfl
  | some x=>rw [q] at a; exact (a rfl).elim
theorem A2 (kvs:List (κ × V)) (k:κ) (v:V):(A0 kvs k v).length ≤ kvs.length + 1:=by
 unfold A0
 split
 ·rw [List.length_map]; lia
 ·rw [List.length_append,List.length_cons,List.length_nil]; lia
theorem aQ4 {kvs:List (κ × V)} {k:κ} (v:V) (h:p7 kvs k = none):A0 kvs k v = kvs ++ [(k,v)]:=by
 unfold A0
 rw [K0,h]
 exact if_neg (by decide)
theorem P1.isSome_eq {o:Option V} {u:Option Value} (r:P1 o u):o.isSome = u.isSome:=by
 cases o with
 | none=>cases u with
  | none=>rfl
  | some _=>exact (show False from r).elim
 | some _=>cases u with
  | none=>exact (show False from r).elim
  | some _=>rfl
theorem P1.getD {o:Option V} {u:Option Value} {d:V} {d':Value} (r:P1 o u) (rd:n5 d d'):n5 (o.getD d) (u.getD d'):=by
 cases o with
 | none=>cases u with
  | none=>exact rd
  | some _=>exact (show False from r).elim
 | some _=>cases u with
  | none=>exact (show False from r).elim
  | some _=>exact r
theorem KV.val {kvs:List (κ × V)} {vs:List (κ × Value)} (r:KV kvs vs) (k:κ):P1 (p7 kvs k) (valueAt vs k):=by
 unfold KV at r
 induction r with
 | nil=>exact True.intro
 | @cons p q ps qs h t ih =>
  obtain ⟨h1,h2⟩:=h
  by_cases e:p.1 = k
  ·have e':q.1 = k:=h1.symm.trans e
   have b:valueAt (q :: qs) k = some q.2:=by simp [valueAt,List.find?_cons,e']
   rw [x9 e,b]; exact h2
  ·have e':¬ q.1 = k:=fun z=>e (h1.trans z)
   have b:valueAt (q :: qs) k = valueAt qs k:=by simp [valueAt,List.find?_cons,e']
   rw [w9 e,b]; exact ih
theorem KV.any {kvs:List (κ × V)} {vs:List (κ × Value)} (r:KV kvs vs) (k:κ):(kvs.any fun kv=>decide (kv.1 = k)) = vs.any fun kv=>decide (kv.1 = k):=by
 unfold KV at r
 induction r with
 | nil=>rfl
 | cons h t ih=>rw [List.any_cons,List.any_cons,ih,h.1]
theorem KV.repl {kvs:List (κ × V)} {vs:List (κ × Value)} (r:KV kvs vs) (k:κ) {y:V} {u:Value} (ry:n5 y u) :
  KV (kvs.map fun kv=>if kv.1 = k then (kv.1,y) else kv) (vs.map fun kv=>if kv.1 = k then (kv.1,u) else kv):=by
 unfold KV at r ⊢
 induction r with
 | nil=>exact .nil
 | @cons p q ps qs h t ih =>
  rw [List.map_cons,List.map_cons]
  refine .cons ?_ ih
  obtain ⟨h1,h2⟩:=h
  by_cases e:p.1 = k
  ·rw [if_pos e,if_pos (h1.symm.trans e)]; exact ⟨h1,ry⟩
  ·rw [if_neg e,if_neg (fun z=>e (h1.trans z))]; exact ⟨h1,h2⟩
theorem KV.put {kvs:List (κ × V)} {vs:List (κ × Value)} (r:KV kvs vs) (k:κ) {y:V} {u:Value} (ry:n5 y u):KV (A0 kvs k y) (stored vs k u):=by
 unfold A0 stored
 rw [r.any k]
 by_cases e:(vs.any fun kv=>decide (kv.1 = k)) = true
 ·rw [if_pos e,if_pos e]; exact r.repl k ry
 ·rw [if_neg e,if_neg e]; exact Paired.snoc r ⟨rfl,ry⟩
theorem KV.keys {kvs:List (κ × V)} {vs:List (κ × Value)} (r:KV kvs vs):kvs.map (·.1) = vs.map (·.1):=by
 unfold KV at r
 induction r with
 | nil=>rfl
 | cons h t ih=>rw [List.map_cons,List.map_cons,ih,h.1]
theorem KV.length {kvs:List (κ × V)} {vs:List (κ × Value)} (r:KV kvs vs):kvs.length = vs.length:=Paired.length r
theorem ac4 (kvs:List (κ × V)) (k:κ):(E8 kvs k).length ≤ kvs.length:=List.length_filter_le _ _
end
theorem ah6 {P:Program} {w:World} {k:Key} {u:Value} (r:n5 (kV k) u):(u7 P w).is k u = true:=by
 cases k with
 | inl i=>obtain ⟨t,e⟩:=(show ∃ t,u = Value.int i t from r); subst e; exact as9 P w i t
 | inr x=>obtain ⟨t,e⟩:=(show ∃ t,u = Value.str x t from r); subst e; exact aq9 P w x t
theorem ah5 {P:Program} {w:World}:∀ {ks:List Key} {us:List Value},j9 (ks.map kV) us → ItemsAre (u7 P w) ks us
 | [],_,r=>by rw [List.map_nil] at r; cases r; exact .nil
 | k :: ks,_,r=>by
  rw [List.map_cons] at r
  cases r with
  | cons h t=>exact .cons (ah6 h) (ah5 t)
abbrev KT (H:Hp):List (List Key × V) → List (List Key × Addr × Value) → Prop:=Paired fun p q=>p.1 = q.1 ∧ H q.2.1 = some (.tup (p.1.map kV)) ∧ n5 p.2 q.2.2
theorem KT.val {H:Hp} {kvs:List (List Key × V)} {xs:List (List Key × Addr × Value)} (r:KT H kvs xs) (k:List Key):P1 (p7 kvs k) ((atKey xs k).map (·.2)):=by
 induction r with
 | nil=>exact True.intro
 | @cons p q ps qs h t ih =>
  obtain ⟨h1,_,h2⟩:=h
  by_cases e:p.1 = k
  ·have e':q.1 = k:=h1.symm.trans e
   have b:atKey (q :: qs) k = some q.2:=by simp [atKey,List.find?_cons,e']
   rw [x9 e,b]; exact h2
  ·have e':¬ q.1 = k:=fun z=>e (h1.trans z)
   have b:atKey (q :: qs) k = atKey qs k:=by simp [atKey,List.find?_cons,e']
   rw [w9 e,b]; exact ih
theorem KT.repl {H:Hp} {kvs:List (List Key × V)} {xs:List (List Key × Addr × Value)} (r:KT H kvs xs) (k:List Key) {y:V} {u:Value} (ry:n5 y u) :
  KT H (kvs.map fun kv=>if kv.1 = k then (kv.1,y) else kv) (xs.map (putAt k u)):=by
 induction r with
 | nil=>exact .nil
 | @cons p q ps qs h t ih =>
  rw [List.map_cons,List.map_cons]
  refine .cons ?_ ih
  obtain ⟨h1,h2,h3⟩:=h
  unfold putAt
  by_cases e:p.1 = k
  ·rw [if_pos e,if_pos (h1.symm.trans e)]; exact ⟨h1,h2,ry⟩
  ·rw [if_neg e,if_neg (fun z=>e (h1.trans z))]; exact ⟨h1,h2,h3⟩
theorem KT.put {H:Hp} {kvs:List (List Key × V)} {xs:List (List Key × Addr × Value)} (r:KT H kvs xs) (k:List Key) {b:Addr} {y:V} {u:Value} (hb:H b = some (.tup (k.map kV))) (ry:n5 y u) :
  KT H (A0 kvs k y) (storedH xs k b u):=by
 have e:(kvs.any fun kv=>decide (kv.1 = k)) = (atKey xs k).isSome:=by
  rw [K0,(r.val k).isSome_eq,Option.isSome_map]
 unfold A0 storedH
 rw [e]
 by_cases q:(atKey xs k).isSome = true
 ·rw [if_pos q,if_pos q]; exact r.repl k ry
 ·rw [if_neg q,if_neg q]; exact Paired.snoc r ⟨rfl,hb,ry⟩
theorem KT.keeps {H H':Hp} {kvs:List (List Key × V)} {xs:List (List Key × Addr × Value)} (r:KT H kvs xs) (ht:∀ b ys,H b = some (.tup ys) → H' b = some (.tup ys)):KT H' kvs xs :=
 Paired.mapP r fun _ _ z=>⟨z.1,ht _ _ z.2.1,z.2.2⟩
section
variable {P:Program} {w:World} {H:Hp} {h:Heap} {a:Addr}
theorem aX9 {u:HO} (ok:HOk P w H h) (e:Rd H a u):m5 P w H h a u:=e.ok ok
theorem X6 {kvs:List (Key × V)} (ok:HOk P w H h) (e:Rd H a (.dK kvs)):kvs.length ≤ sizeLine ∧ (a == sysModules) = false ∧ ∃ vs,KV kvs vs ∧ h.DictOf (u7 P w) a vs :=
 show m5 P w H h a (.dK kvs) from aX9 ok e
theorem a99 {kvs:List (Key × V)} (ok:HOk P w H h) (e:H a = some (.dK kvs)):kvs.length ≤ sizeLine ∧ (a == sysModules) = false ∧ ∃ vs,KV kvs vs ∧ h.DictOf (u7 P w) a vs:=X6 ok (.inl e)
theorem S5 {ks:List Key} (ok:HOk P w H h) (e:H a = some (.tup (ks.map kV))):(tupleKind (u7 P w)).is h ks a:=by
 obtain ⟨_,its,r,o,h1,h2,n,h3⟩:=(show m5 P w H h a (.tup (ks.map kV)) from ok a _ e)
 exact ⟨o,its.toArray,n,h1,h2,h3,by simpa using ah5 r⟩
theorem ad3 {kvs:List (List Key × V)} (ok:HOk P w H h) (e:Rd H a (.dT kvs)):kvs.length ≤ sizeLine ∧ (a == sysModules) = false ∧
  ∃ xs,KT H kvs xs ∧ h.DictOfH (tupleKind (u7 P w)) a xs:=by
 obtain ⟨z,y,xs,r,o,es,ep,h1,h2,h3,h4,h5⟩:=(show m5 P w H h a (.dT kvs) from aX9 ok e)
 refine ⟨z,y,xs,r,o,es,ep,h1,h2,h3,h4,fun x hx=>?_,h5⟩
 have all:∀ {l:List (List Key × V)} {m:List (List Key × Addr × Value)},KT H l m → ∀ x ∈ m,(tupleKind (u7 P w)).is h x.1 x.2.1:=by
  intro l m q
  induction q with
  | nil=>intro x hx; exact nomatch hx
  | @cons p q ps qs hq t ih =>
   intro x hx
   rcases List.mem_cons.mp hx with e | hx
   ·subst e
    exact S5 ok (by rw [← hq.1]; exact hq.2.1)
   ·exact ih x hx
 exact all r x hx
theorem aM2 {kvs:List (List Key × V)} (ok:HOk P w H h) (e:H a = some (.dT kvs)):kvs.length ≤ sizeLine ∧ (a == sysModules) = false ∧
  ∃ xs,KT H kvs xs ∧ h.DictOfH (tupleKind (u7 P w)) a xs:=ad3 ok (.inl e)
end
def E3 (H:Hp) (a:Addr) (y:V) (r:Option V):Prop :=
 (∃ kvs k,Rd H a (.dK kvs) ∧ y = kV k ∧ r = p7 kvs k) ∨ ∃ kvs k b,Rd H a (.dT kvs) ∧ y = .ref b ∧ H b = some (.tup (k.map kV)) ∧ r = p7 kvs k
def S2 (H:Hp) (a:Addr) (y v:V) (H':Hp):Prop :=
 (∃ kvs k,H a = some (.dK kvs) ∧ y = kV k ∧ kvs.length < sizeLine ∧ H' = upd H a (.dK (A0 kvs k v))) ∨
 ∃ kvs k b,H a = some (.dT kvs) ∧ y = .ref b ∧ H b = some (.tup (k.map kV)) ∧ kvs.length < sizeLine ∧ H' = upd H a (.dT (A0 kvs k v))
theorem E3.k {H:Hp} {a:Addr} {kvs:List (Key × V)} {k:Key} (e:H a = some (.dK kvs)):E3 H a (kV k) (p7 kvs k):=.inl ⟨kvs,k,.inl e,rfl,rfl⟩
theorem E3.t {H:Hp} {a b:Addr} {kvs:List (List Key × V)} {k:List Key} (e:H a = some (.dT kvs)) (eb:H b = some (.tup (k.map kV))):E3 H a (.ref b) (p7 kvs k):=.inr ⟨kvs,k,b,.inl e,rfl,eb,rfl⟩
theorem S2.k {H:Hp} {a:Addr} {kvs:List (Key × V)} {k:Key} {v:V} (e:H a = some (.dK kvs)) (hl:kvs.length < sizeLine):S2 H a (kV k) v (upd H a (.dK (A0 kvs k v))):=.inl ⟨kvs,k,e,rfl,hl,rfl⟩
theorem S2.t {H:Hp} {a b:Addr} {kvs:List (List Key × V)} {k:List Key} {v:V} (e:H a = some (.dT kvs)) (eb:H b = some (.tup (k.map kV))) (hl:kvs.length < sizeLine) :
  S2 H a (.ref b) v (upd H a (.dT (A0 kvs k v))):=.inr ⟨kvs,k,b,e,rfl,eb,hl,rfl⟩
section
variable {X:Cx} {pins:List (Addr × Obj)} {σ:St} {H:Hp} {s:Shared} {a:Addr} {y v:V} {u r:Value} {o:Option V} {A:Around} {E:Value → Shared → Prop}
theorem Inv.big (I:Inv X pins σ H s):sysModules < s.heap.objs.size:=by
 have h:mainGlobals < s.heap.objs.size:=(I.mod.glob.keeps I.bk).lt
 exact Nat.lt_trans (by decide) h
theorem aF0 {Q:Value → Shared → Prop} (hu:A.units + 1 < cLine) (I:Inv X pins σ H s) (g:E3 H a y (some v)) (ry:n5 y u) (h:∀ w' s',Inv X pins σ H s' → n5 v w' → Q w' s') :
  wpAny (model X.prog X.w) A (getItem (.ref a) u) Q E s:=by
 rcases g with ⟨kvs,k,e,ey,l⟩ | ⟨kvs,k,b,e,ey,eb,l⟩
 ·subst ey
  obtain ⟨z,hd,vs,rel,dd⟩:=X6 I.hok e
  obtain ⟨w',hw,rw'⟩:=P1.some_of (v:=v) (o:=valueAt vs k) (by rw [l]; exact rel.val k)
  exact wpAny_getItem_of (ah6 ry) dd.mapOf hw (h w' _ (I.tok _) rw')
 ·subst ey
  cases (show u = Value.ref b from ry)
  obtain ⟨z,hd,xs,rel,dd⟩:=ad3 I.hok e
  obtain ⟨w',hw,rw'⟩:=P1.some_of (v:=v) (o:=(atKey xs k).map (·.2)) (by rw [l]; exact rel.val k)
  obtain ⟨p,hp,hp2⟩:=Option.map_eq_some_iff.mp hw
  refine wpAny_getItem_heap (tupleKind_room_in1 hu) (S5 I.hok eb) dd hp ?_
  rw [hp2]
  exact h w' _ (I.tok _) rw'
theorem ba1 {Q:Value → Shared → Prop} (hu:A.units + 1 < cLine) (I:Inv X pins σ H s) (g:E3 H a y o) (ry:n5 y u) (h:∀ s',Inv X pins σ H s' → Q (.bool o.isSome) s') :
  wpAny (model X.prog X.w) A (compareOp .In u (.ref a)) Q E s:=by
 rcases g with ⟨kvs,k,e,ey,l⟩ | ⟨kvs,k,b,e,ey,eb,l⟩
 ·subst ey
  obtain ⟨z,hd,vs,rel,dd⟩:=X6 I.hok e
  refine wpAny_in_of (ah6 ry) hd dd.mapOf ?_
  rw [← (rel.val k).isSome_eq,← l]
  exact h _ (I.tok _)
 ·subst ey
  cases (show u = Value.ref b from ry)
  obtain ⟨z,hd,xs,rel,dd⟩:=ad3 I.hok e
  refine wpAny_in_heap (tupleKind_room_in1 hu) (S5 I.hok eb) hd dd ?_
  have q:=(rel.val k).isSome_eq
  rw [Option.isSome_map] at q
  rw [← q,← l]
  exact h _ (I.tok _)
theorem am0 {h':Heap} {t':Nat} {ob:HO} (I:Inv X pins σ H s) (mu:Mut (H a)) (hs:Heap.SameBut a s.heap h') (he:∃ q,h'.get? a = some q) (new:m5 X.prog X.w (upd H a ob) h' a ob) :
  Inv X pins σ (upd H a ob) { s with heap:=h',toks:=t' } :=
 I.write (x:=a) (e:=a) mu (.inl rfl) (fun b q hb z=>(hs.2 b hb).trans z) he new
theorem aZ6 {P:Program} {w:World} {H':Hp} {h':Heap} {kvs:List (Key × V)} {vs:List (Key × Value)} (z:kvs.length ≤ sizeLine) (hd:(a == sysModules) = false) (rel:KV kvs vs) (dd:h'.DictOf (u7 P w) a vs) :
  m5 P w H' h' a (.dK kvs):=⟨z,hd,vs,rel,dd⟩
theorem aG3 {H':Hp} {Q:Unit → Shared → Prop} (hu:A.units + 1 < cLine) (I:Inv X pins σ H s) (g:S2 H a y v H') (ry:n5 y u) (rv:n5 v r) (h:∀ s',Inv X pins σ H' s' → Q () s') :
  wpAny (model X.prog X.w) A (setItem (.ref a) u r) Q E s:=by
 rcases g with ⟨kvs,k,e,ey,l,eH⟩ | ⟨kvs,k,b,e,ey,eb,l,eH⟩
 ·subst ey eH
  obtain ⟨z,hd,vs,rel,dd⟩:=a99 I.hok e
  have hz:vs.length ≤ sizeLine:=by rw [← rel.length]; exact z
  have hl:(A0 kvs k v).length ≤ sizeLine:=by have:=A2 kvs k v; lia
  refine wpAny_setItem_pairs (hsz:=hz) (ah6 ry) dd fun h' dd' hs=>h _ ?_
  have he:∃ q,h'.get? a = some q:=let ⟨q,_,_,hq,_⟩:=dd'; ⟨q,hq⟩
  exact am0 I (by rw [e]; exact True.intro) hs he (aZ6 hl hd (rel.put k rv) dd')
 ·subst ey eH
  cases (show u = Value.ref b from ry)
  obtain ⟨z,hd,xs,rel,dd⟩:=aM2 I.hok e
  have hz:xs.length ≤ sizeLine:=by rw [← Paired.length rel]; exact z
  have hl:(A0 kvs k v).length ≤ sizeLine:=by have:=A2 kvs k v; lia
  refine wpAny_setItem_heap (hsz:=hz) (tupleKind_room_in1 hu) (S5 I.hok eb) dd fun h' dd' hs=>h _ ?_
  obtain ⟨q,es,ep,hq,h2,h3,h4,_,h5⟩:=dd'
  refine am0 I (by rw [e]; exact True.intro) hs ⟨q,hq⟩ ⟨hl,hd,_,(rel.put k eb rv).keeps fun c ys ec=>?_,q,es,ep,hq,h2,h3,h4,h5⟩
  rw [d9 (aX3 ec e (fun z=>nomatch z))]
  exact ec
end
def a70 (i:Expr):Prop:=∀ ov iv,subscripted i false ov iv = operate [ov,iv] (getItem ov iv)
theorem aW4 {prog:Program} {w:World} {A:Around} {E:Value → Shared → Prop} {s:Shared} {env:Env} {value slice:Expr} {pos:Pos} {T id:String} {Q:Value → Shared → Prop}
  (hl:typeLookup (.type T) "__getitem__" = pure (some (.builtin id))) (hs:a70 slice)
  (h:wpAny (model prog w) A (eval value env) (fun o s₁=>wpAny (model prog w) A (eval slice env) (fun i s₂=>s₂.TypeIs o T ∧ wpAny (model prog w) A (getItem o i) Q E s₂) E s₁) E s) :
  wpAny (model prog w) A (eval (.Subscript value slice pos) env) Q E s:=by
 refine Subscript_ (wpAny_mono h (fun o s₁ h₁=>wpAny_mono h₁ (fun i s₂ h₂=>?_) fun _ _ x=>x) fun _ _ x=>x)
 obtain ⟨hT,h₂⟩:=h₂
 unfold subscriptTail
 refine wpAny_bind ?_
 rw [getitemInPython_of_ne hT.not_modules]
 refine wpAny_bind (wpAny_specialOf hT hl ?_)
 have fin:wpAny (model prog w) A (subscripted slice false o i) (fun r s₃=>wpAny (model prog w) A (letTemporaryGo value o r >>= fun _=>pure r) Q E s₃) E s₂:=by
  rw [hs o i]
  exact wpAny_operating (wpAny_mono h₂ (fun r s₃ h₃=>wpAny_bind (wpAny_letTemporaryGo (wpAny_pure h₃))) fun _ _ x=>x)
 first
  | exact wpAny_pure (wpAny_bind fin)
  | exact wpAny_bind (wpAny_pure (wpAny_bind fin))
  | exact wpAny_bind fin
theorem au8 {X:Cx} {pins:List (Addr × Obj)} {σ:St} {H:Hp} {s:Shared} {a:Addr} {y:V} {o:Option V} (I:Inv X pins σ H s) (g:E3 H a y o):s.TypeIs (.ref a) "dict":=by
 rcases g with ⟨kvs,k,e,_,_⟩ | ⟨kvs,k,b,e,_,_,_⟩
 ·obtain ⟨_,_,vs,_,dd⟩:=X6 I.hok e
  exact dd.typeIs
 ·obtain ⟨_,_,xs,_,dd⟩:=ad3 I.hok e
  exact dd.typeIs
def a65 (td ty:TE):TE:=fun σ H Q=>td σ H fun x H1=>ty σ H1 fun y H2=>∃ a v,x = .ref a ∧ E3 H2 a y (some v) ∧ Q v H2
def ba3 (ty td:TE):TE:=fun σ H Q=>ty σ H fun y H1=>td σ H1 fun x H2=>∃ a o,x = .ref a ∧ E3 H2 a y o ∧ Q (.bl o.isSome) H2
def a80 (td ty tv:TE):TS:=fun D σ H=>tv σ H fun v H1=>td σ H1 fun x H2=>ty σ H2 fun y H3=>∃ a H4,x = .ref a ∧ S2 H3 a y v H4 ∧ D.nx σ H4
section
variable {X:Cx} {o i e value:Expr} {pos pos' tpos:Pos} {td ty tv:TE}
theorem aa0 (hu:X.A.units + 1 < cLine) (ho:PE X o td) (hi:PE X i ty) (hs:a70 i):PE X (.Subscript o i pos) (a65 td ty):=by
 intro pins s σ H Q I h
 refine aW4 PySem.F.slot_dict_getitem.lookup hs (thn (ho pins s σ H _ I h) fun u s1 ⟨x,H1,I1,rx,q1⟩=>thn (hi pins s1 σ H1 _ I1 q1) fun iv s2 ⟨y,H2,I2,ry,a,v,ex,g,q2⟩=>?_)
 subst ex
 obtain rfl:u = Value.ref a:=rx
 exact ⟨au8 I2 g,aF0 hu I2 g ry fun w' s3 I3 rw'=>⟨v,H2,I3,rw',q2⟩⟩
theorem V5 (hu:X.A.units + 1 < cLine) (hi:PE X i ty) (ho:PE X o td):PC X .In i o (ba3 ty td):=by
 intro pins s σ H Q I h
 refine thn (hi pins s σ H _ I h) fun iv s1 ⟨y,H1,I1,ry,q1⟩=>thn (ho pins s1 σ H1 _ I1 q1) fun u s2 ⟨x,H2,I2,rx,a,ov,ex,g,q2⟩=>?_
 subst ex
 obtain rfl:u = Value.ref a:=rx
 exact ba1 hu I2 g ry fun s3 I3=>⟨.bl ov.isSome,H2,I3,rfl,q2⟩
theorem K2 (hu:X.A.units + 1 < cLine) (ho:PE X o td) (hi:PE X i ty) (hv:PE X value tv) (hs:swapsWith value (some (.Subscript o i pos')) pos.line X.env = pure false) :
  PS X (.Assign [.Subscript o i pos'] value pos) (a80 td ty tv):=by
 intro pins s σ H D I h
 refine wpAny_Assign_Subscript (thn (hv pins s σ H _ I h) fun r s1 ⟨v,H1,I1,rv,q1⟩=>thn (ho pins s1 σ H1 _ I1 q1) fun u s2 ⟨x,H2,I2,rx,q2⟩=>thn (hi pins s2 σ H2 _ I2 q2) fun iv s3 ⟨y,H3,I3,ry,a,H4,ex,g,q3⟩=>?_) hs
 subst ex
 obtain rfl:u = Value.ref a:=rx
 exact aG3 hu I3 g ry rv fun s4 I4=>⟨σ,H4,I4,q3⟩
end
theorem aQ7 {P:Program} {w:World} {H:Hp} (h:Heap) (hb:sysModules < h.objs.size):m5 P w H (h.push { cls:=.type "dict",data:=.dict #[] }) h.objs.size (.dK []) :=
 ⟨Nat.zero_le _,beq_eq_false_iff_ne.mpr (Ne.symm (Nat.ne_of_lt hb)),[],.nil,Heap.DictOf.new h⟩
theorem aO2 {P:Program} {w:World} {H:Hp} (h:Heap) (hb:sysModules < h.objs.size):m5 P w H (h.push { cls:=.type "dict",data:=.dict #[] }) h.objs.size (.dT []) :=
 ⟨Nat.zero_le _,beq_eq_false_iff_ne.mpr (Ne.symm (Nat.ne_of_lt hb)),[],.nil,_,#[],0,Heap.get?_push_size _ rfl,⟨rfl,rfl,rfl⟩,rfl,rfl,List.nodup_nil⟩
def a54:TE:=fun _ H Q=>∀ p,H p = none → Q (.ref p) (upd H p (.dK []))
def a43:TE:=fun _ H Q=>∀ p,H p = none → Q (.ref p) (upd H p (.dT []))
section
variable {X:Cx} {pos:Pos}
theorem V0:PE X (.Dict [] [] pos) a54:=fun pins s σ H Q I h =>
 wpAny_Dict_empty ⟨.ref s.heap.objs.size,_,I.laid (a:=s.heap.objs.size) (o:=.dK []) (t':=s.toks) (fun _ _ q=>Heap.get?_push_of_some _ q) (Nat.le_refl _) (aQ7 s.heap I.big),rfl,h _ (I.hok.fresh (Nat.le_refl _))⟩
theorem U8:PE X (.Dict [] [] pos) a43:=fun pins s σ H Q I h =>
 wpAny_Dict_empty ⟨.ref s.heap.objs.size,_,I.laid (a:=s.heap.objs.size) (o:=.dT []) (t':=s.toks) (fun _ _ q=>Heap.get?_push_of_some _ q) (Nat.le_refl _) (aO2 s.heap I.big),rfl,h _ (I.hok.fresh (Nat.le_refl _))⟩
end
structure M1 (X:Cx) (o:Expr) (m:Str) (apos:Pos) (e:Expr) (cpos:Pos):Prop where
 base:attributeBase o m X.env (eval o X.env) = eval o X.env
 few:((backTo cpos (starEach [e] X.env)).all (fun x=>!x.1) && (backToKw cpos (keywordEach [] X.env)).all (fun x=>x.1.isSome)
  && decide (([e]:List Expr).length + ([]:List Keyword).length + (if ([]:List Keyword).isEmpty then 0 else 1) < 30)) = true
 line:(apos.endLine == cpos.line) = true
 trees:backTo cpos (starEach [e] X.env) = [(false,eval e X.env)]
structure M2 (X:Cx) (o:Expr) (m:Str) (apos:Pos) (e f:Expr) (cpos:Pos):Prop where
 base:attributeBase o m X.env (eval o X.env) = eval o X.env
 few:((backTo cpos (starEach [e,f] X.env)).all (fun x=>!x.1) && (backToKw cpos (keywordEach [] X.env)).all (fun x=>x.1.isSome)
  && decide (([e,f]:List Expr).length + ([]:List Keyword).length + (if ([]:List Keyword).isEmpty then 0 else 1) < 30)) = true
 line:(apos.endLine == cpos.line) = true
 trees:backTo cpos (starEach [e,f] X.env) = [(false,eval e X.env),(false,eval f X.env)]
def IsD (H:Hp) (a:Addr):Prop:=(∃ kvs,Rd H a (.dK kvs)) ∨ ∃ kvs,Rd H a (.dT kvs)
theorem az1 {X:Cx} {pins:List (Addr × Obj)} {σ:St} {H:Hp} {s:Shared} {a:Addr} (I:Inv X pins σ H s) (d:IsD H a) :
  s.TypeIs (.ref a) "dict" ∧ (∀ b,Value.ref a = .ref b → ∃ ob,s.heap.get? b = some ob ∧ ob.dict = none) ∧ (a == sysModules) = false:=by
 rcases d with ⟨kvs,e⟩ | ⟨kvs,e⟩
 ·obtain ⟨_,hd,vs,_,dd⟩:=X6 I.hok e
  refine ⟨dd.typeIs,fun b q=>?_,hd⟩
  cases q
  obtain ⟨ob,_,_,h1,h2,_⟩:=dd
  exact ⟨ob,h1,h2.2.1⟩
 ·obtain ⟨_,hd,xs,_,dd⟩:=ad3 I.hok e
  refine ⟨dd.typeIs,fun b q=>?_,hd⟩
  cases q
  obtain ⟨ob,_,_,h1,h2,_⟩:=dd
  exact ⟨ob,h1,h2.2.1⟩
section
variable {X:Cx} {pins:List (Addr × Obj)} {σ:St} {H:Hp} {s:Shared} {a:Addr} {y d:V} {u r:Value} {o:Option V} {A:Around} {E:Value → Shared → Prop}
theorem a02 {Q:Value → Shared → Prop} (hu:A.units + 1 < cLine) (I:Inv X pins σ H s) (g:E3 H a y o) (ry:n5 y u) (h:∀ w' s',Inv X pins σ H s' → n5 (o.getD .non) w' → Q w' s') :
  wpAny (model X.prog X.w) A (call (.builtin "dict.get") [.ref a,u]) Q E s:=by
 rcases g with ⟨kvs,k,e,ey,l⟩ | ⟨kvs,k,b,e,ey,eb,l⟩
 ·subst ey
  obtain ⟨z,hd,vs,rel,dd⟩:=X6 I.hok e
  refine call_meetsIn PySem.F.slot_dict_get dd.typeIs PySem.F.entry_dict_get (PySem.F.args_dict_get_2 _ _) (meets_dict_get (u7 X.prog X.w) a (ah6 ry) hd) ⟨_,dd.mapOf,h _ _ (I.tok _) ?_⟩
  rw [l]
  exact (rel.val k).getD rfl
 ·subst ey
  cases (show u = Value.ref b from ry)
  obtain ⟨z,hd,xs,rel,dd⟩:=ad3 I.hok e
  refine call_meetsIn PySem.F.slot_dict_get dd.typeIs PySem.F.entry_dict_get (PySem.F.args_dict_get_2 _ _) (meetsH_dict_get (tupleKind (u7 X.prog X.w)) a b hd) ⟨tupleKind_room_in1 hu,k,xs,S5 I.hok eb,dd,h _ _ (I.tok _) ?_⟩
  rw [l]
  exact (rel.val k).getD rfl
theorem a58 {Q:Value → Shared → Prop} (hu:A.units + 1 < cLine) (I:Inv X pins σ H s) (g:E3 H a y o) (ry:n5 y u) (rd:n5 d r) (h:∀ w' s',Inv X pins σ H s' → n5 (o.getD d) w' → Q w' s') :
  wpAny (model X.prog X.w) A (call (.builtin "dict.get") [.ref a,u,r]) Q E s:=by
 rcases g with ⟨kvs,k,e,ey,l⟩ | ⟨kvs,k,b,e,ey,eb,l⟩
 ·subst ey
  obtain ⟨z,hd,vs,rel,dd⟩:=X6 I.hok e
  refine call_meetsIn PySem.F.slot_dict_get dd.typeIs PySem.F.entry_dict_get (PySem.F.args_dict_get_3 _ _ _) (meets_dict_get_default (u7 X.prog X.w) a (ah6 ry) hd r) ⟨_,dd.mapOf,h _ _ (I.tok _) ?_⟩
  rw [l]
  exact (rel.val k).getD rd
 ·subst ey
  cases (show u = Value.ref b from ry)
  obtain ⟨z,hd,xs,rel,dd⟩:=ad3 I.hok e
  refine call_meetsIn PySem.F.slot_dict_get dd.typeIs PySem.F.entry_dict_get (PySem.F.args_dict_get_3 _ _ _) (meetsH_dict_get_default (tupleKind (u7 X.prog X.w)) a b hd r) ⟨tupleKind_room_in1 hu,k,xs,S5 I.hok eb,dd,h _ _ (I.tok _) ?_⟩
  rw [l]
  exact (rel.val k).getD rd
end
def a00 (td ty:TE):TE:=fun σ H Q=>td σ H fun x H1=>∃ a,x = .ref a ∧ IsD H1 a ∧ ty σ H1 fun y H2=>∃ o,E3 H2 a y o ∧ Q (o.getD .non) H2
def a37 (td ty tx:TE):TE:=fun σ H Q=>td σ H fun x H1=>∃ a,x = .ref a ∧ IsD H1 a ∧ ty σ H1 fun y H2=>tx σ H2 fun z H3=>∃ o,E3 H3 a y o ∧ Q (o.getD z) H3
section
variable {X:Cx} {o e f:Expr} {apos cpos:Pos} {td ty tx:TE}
theorem aq7 (hu:X.A.units + 1 < cLine) (ho:PE X o td) (he:PE X e ty) (m:M1 X o "get" apos e cpos):PE X (.Call (.Attribute o "get" apos) [e] [] cpos) (a00 td ty):=by
 intro pins s σ H Q I h
 refine wpAny_Call_method m.base m.few m.line PySem.F.plainAttrs_dict PySem.F.slot_dict_get PySem.F.type_dict_get (thn (ho pins s σ H _ I h) fun u s1 ⟨x,H1,I1,rx,a,ex,d,q1⟩=>?_)
 subst ex
 obtain rfl:u = Value.ref a:=rx
 obtain ⟨t1,t2,_⟩:=az1 I1 d
 refine ⟨t1,t2,?_⟩
 rw [m.trees]
 refine Calls.callWith_builtin rfl (Calls.evalArgs_plain (Calls.spliced_cons (thn (he pins s1 σ H1 _ I1 q1) fun iv s2 ⟨y,H2,I2,ry,ov,g,q2⟩=>Calls.spliced_nil ?_)))
 exact a02 hu I2 g ry fun w' s3 I3 rw'=>⟨_,H2,I3,rw',q2⟩
theorem P7 (hu:X.A.units + 1 < cLine) (ho:PE X o td) (he:PE X e ty) (hf:PE X f tx) (m:M2 X o "get" apos e f cpos):PE X (.Call (.Attribute o "get" apos) [e,f] [] cpos) (a37 td ty tx):=by
 intro pins s σ H Q I h
 refine wpAny_Call_method m.base m.few m.line PySem.F.plainAttrs_dict PySem.F.slot_dict_get PySem.F.type_dict_get (thn (ho pins s σ H _ I h) fun u s1 ⟨x,H1,I1,rx,a,ex,d,q1⟩=>?_)
 subst ex
 obtain rfl:u = Value.ref a:=rx
 obtain ⟨t1,t2,_⟩:=az1 I1 d
 refine ⟨t1,t2,?_⟩
 rw [m.trees]
 refine Calls.callWith_builtin rfl (Calls.evalArgs_plain (Calls.spliced_cons (thn (he pins s1 σ H1 _ I1 q1) fun iv s2 ⟨y,H2,I2,ry,q2⟩ =>
  Calls.spliced_cons (thn (hf pins s2 σ H2 _ I2 q2) fun fv s3 ⟨z,H3,I3,rz,ov,g,q3⟩=>Calls.spliced_nil ?_))))
 exact a58 hu I3 g ry rz fun w' s4 I4 rw'=>⟨_,H3,I4,rw',q3⟩
end
end L2
namespace L2
open PySem PySem.Spec PyProof.Rows
section
variable {κ:Type} [DecidableEq κ]
theorem aD5:∀ {l:List κ} {k:κ},l.Nodup → ¬ k ∈ l → (l ++ [k]).Nodup
 | [],k,_,_=>by simp
 | a :: r,k,h,hk=>by
  obtain ⟨h1,h2⟩:=List.nodup_cons.mp h
  show (a :: (r ++ [k])).Nodup
  refine List.nodup_cons.mpr ⟨fun m=>?_,aD5 h2 fun m=>hk (List.mem_cons.mpr (Or.inr m))⟩
  rcases List.mem_append.mp m with q | q
  ·exact h1 q
  ·exact hk (List.mem_cons.mpr (Or.inl (List.mem_singleton.mp q).symm))
theorem ah2 {p:κ × V} {r:List (κ × V)} {k:κ} (e:p.1 = k):E8 (p :: r) k = E8 r k:=by
 unfold E8
 rw [List.filter_cons,if_neg (by simp [e])]
theorem ag3 {p:κ × V} {r:List (κ × V)} {k:κ} (e:¬ p.1 = k):E8 (p :: r) k = p :: E8 r k:=by
 unfold E8
 rw [List.filter_cons,if_pos (by simp [e])]
end
end L2
set_option maxHeartbeats 1000000
namespace L2
open PySem PySem.Spec PyProof.Rows
theorem ay9 {scope:Scope} {env:Env} (h:∀ x,(x,NameKind.free) ∈ scope.names → ∃ c,env.cells.lookup x = some c) :
  ∃ cl,closureFor scope env = pure cl ∧ (∀ x c,cl.lookup x = some c → env.cells.lookup x = some c) ∧ ∀ x,(x,NameKind.free) ∈ scope.names → ∃ c,cl.lookup x = some c:=by
 have go:∀ (names:List (Str × NameKind)) (acc:List (Str × Addr)),(∀ x,(x,NameKind.free) ∈ names → ∃ c,env.cells.lookup x = some c) → (∀ x c,acc.lookup x = some c → env.cells.lookup x = some c) →
   ∃ cl,(forIn names acc fun (p:Str × NameKind) (r:List (Str × Addr))=>if p.2 == .free then (do let a ← cellOf env p.1; pure (ForInStep.yield ((p.1,a) :: r))) else pure (ForInStep.yield r):Sem (List (Str × Addr))) = pure cl ∧
    (∀ x c,cl.lookup x = some c → env.cells.lookup x = some c) ∧ (∀ x c,acc.lookup x = some c → ∃ c',cl.lookup x = some c') ∧ ∀ x,(x,NameKind.free) ∈ names → ∃ c,cl.lookup x = some c:=by
  intro names
  induction names with
  | nil=>intro acc _ ha; exact ⟨acc,rfl,ha,fun x c e=>⟨c,e⟩,fun x z=>nomatch z⟩
  | cons p r ih =>
   intro acc hn ha
   obtain ⟨n,k⟩:=p
   rw [List.forIn_cons]
   cases hk:(k == NameKind.free) with
   | false =>
    obtain ⟨cl,h1,h2,h3,h4⟩:=ih acc (fun x z=>hn x (List.mem_cons_of_mem _ z)) ha
    refine ⟨cl,?_,h2,h3,fun x z=>?_⟩
    ·simp only [hk,Bool.false_eq_true,if_false,pure_bind]
     exact h1
    ·rcases List.mem_cons.mp z with e | z
     ·injection e with e1 e2
      rw [← e2] at hk
      exact absurd hk (by decide)
     ·exact h4 x z
   | true =>
    have ek:k = .free:=by simpa using hk
    subst ek
    obtain ⟨c,hc⟩:=hn n List.mem_cons_self
    have hcell:cellOf env n = pure c:=by unfold cellOf; rw [hc]
    obtain ⟨cl,h1,h2,h3,h4⟩:=ih ((n,c) :: acc) (fun x z=>hn x (List.mem_cons_of_mem _ z)) (fun x c' e=>by
     rw [List.lookup_cons] at e
     cases hx:x == n with
     | true =>
      rw [hx] at e
      have e':c = c':=Option.some.inj e
      have ex:x = n:=by simpa using hx
      rw [ex,← e']; exact hc
     | false=>rw [hx] at e; exact ha x c' e)
    refine ⟨cl,?_,h2,fun x c' e=>?_,fun x z=>?_⟩
    ·simp only [beq_self_eq_true,if_true,hcell,pure_bind]
     exact h1
    ·cases hx:x == n with
     | true=>exact h3 x c (by rw [List.lookup_cons,hx])
     | false=>exact h3 x c' (by rw [List.lookup_cons,hx]; exact e)
    ·rcases List.mem_cons.mp z with e | z
     ·injection e with e1 e2
      exact h3 x c (by rw [e1,List.lookup_cons]; simp)
     ·exact h4 x z
 obtain ⟨cl,h1,h2,_,h4⟩:=go scope.names [] h (fun x c e=>nomatch e)
 refine ⟨cl,?_,h2,h4⟩
 rw [← h1]
 unfold closureFor
 simp only [bind_pure]
def A3 (X:Cx) (scope:Scope) (cl:List (Str × Addr)) (C:Addr) (N:List Str) (s:Shared) (H:Hp) (ex:List Addr):Cx where
 prog:=X.prog
 w:=X.w
 K:=X.K
 mg:=X.mg
 base:=X.base
 A:=X.A
 N:=N
 s₀:=s
 H₀:=H
 env:=compEnvC scope cl C X.env
 outer:=X.stack
 stack:=X.stack
 ex:=ex
 calm:=X.calm
 fn:=fun x=>match scope.names.lookup x with | some .cell=>true | _=>false
 pn:=[]
 xe:=fun _ _=>False
theorem D5 {env:Env}:∀ {names:List (Str × NameKind)} {x:Str} {k:NameKind},
  (names.map fun (n,k)=>if (k == NameKind.free && env.scope.kind == .function && env.kindOf n == some .cell) then (n,NameKind.cell) else (n,k)).lookup x = some k →
  ∃ k',names.lookup x = some k' ∧ (k' = k ∨ (k' = .free ∧ k = .cell))
 | [],_,_,h=>by simp at h
 | (n,kk) :: r,x,k,h=>by
  have ih:=@D5 env r x k
  have h':List.lookup x ((if (kk == NameKind.free && env.scope.kind == .function && env.kindOf n == some .cell) = true then (n,NameKind.cell) else (n,kk)) :: r.map fun (n,k)=>if (k == NameKind.free && env.scope.kind == .function && env.kindOf n == some .cell) then (n,NameKind.cell) else (n,k)) = some k:=h
  cases hx:x == n with
  | true =>
   by_cases hc:(kk == NameKind.free && env.scope.kind == .function && env.kindOf n == some .cell) = true
   ·rw [if_pos hc,List.lookup_cons,hx] at h'
    have e:NameKind.cell = k:=Option.some.inj h'
    have hf:kk = .free:=by
     rw [Bool.and_eq_true,Bool.and_eq_true] at hc
     simpa using hc.1.1
    exact ⟨kk,by rw [List.lookup_cons,hx],.inr ⟨hf,e.symm⟩⟩
   ·rw [if_neg hc,List.lookup_cons,hx] at h'
    exact ⟨kk,by rw [List.lookup_cons,hx],.inl (Option.some.inj h')⟩
  | false =>
   have h2:List.lookup x (r.map fun (n,k)=>if (k == NameKind.free && env.scope.kind == .function && env.kindOf n == some .cell) then (n,NameKind.cell) else (n,k)) = some k:=by
    by_cases hc:(kk == NameKind.free && env.scope.kind == .function && env.kindOf n == some .cell) = true
    ·rw [if_pos hc,List.lookup_cons,hx] at h'; exact h'
    ·rw [if_neg hc,List.lookup_cons,hx] at h'; exact h'
   obtain ⟨k',e1,e2⟩:=ih h2
   exact ⟨k',by rw [List.lookup_cons,hx]; exact e1,e2⟩
structure CompScope (N:List Str) (osc scope:Scope) (own:List Str) (fr:List (Nat × Str)):Prop where
 kind:scope.kind = .function
 cells:∀ y ∈ scope.names,y.2 = .cell → scope.names.lookup y.1 = some .cell
 locs:∀ y ∈ scope.names,y.2 = .local → scope.names.lookup y.1 = some .local
 free:∀ y ∈ scope.names,y.2 = .free → osc.names.lookup y.1 = some .cell ∨ osc.names.lookup y.1 = some .free
 slot:∀ p ∈ fr,N[p.1]? = some p.2 ∧ scope.names.lookup p.2 = some .free
theorem HOk.track {P:Program} {w:World} {H:Hp} {h:Heap} {a:Addr} {o:HO} (x:HOk P w H h) (hn:H a = none) (new:m5 P w (upd H a o) h a o):HOk P w (upd H a o) h:=fun b u e=>by
 by_cases hb:b = a
 ·subst hb; rw [b9] at e; cases e; exact new
 ·rw [d9 hb] at e
  exact (x b u e).stay (fun c v _ q=>q) (fun c q=>by rw [d9 (g9 q hn)]; exact q) fun c xs q=>by rw [d9 (g9 q hn)]; exact q
theorem HOk.but {P:Program} {w:World} {H:Hp} {h h':Heap} {a:Addr} (x:HOk P w H h) (hn:H a = none) (k:∀ b o,b ≠ a → h.get? b = some o → h'.get? b = some o):HOk P w H h':=fun b u e =>
 (x b u e).stay (fun c v hc q=>k c v (by
  rintro rfl
  rcases hc with rfl | hc
  ·rw [hn] at e; cases e
  ·rw [hn] at hc; cases hc) q) (fun _ q=>q) fun _ _ q=>q
theorem Un.track {fs ex:List Addr} {H H':Hp} {h h':Heap} {a:Addr} {o:HO} (u:Un fs ex H H' h h') (ha:h.objs.size ≤ a) (hn:H a = none):Un fs ex H (upd H' a o) h h' where
 keep:=u.keep
 slot:=u.slot
 free:=fun b ob q n hx=>by rw [d9 (Nat.ne_of_lt (Nat.lt_of_lt_of_le (Heap.lt_size q) ha))]; exact u.free b ob q n hx
 there:=u.there
 tups:=fun b xs q=>by rw [d9 (g9 q hn)]; exact u.tups b xs q
 frzs:=fun b ob v q=>by rw [d9 (g9 q hn)]; exact u.frzs b ob v q
 tbls:=fun b ps q=>by rw [d9 (g9 q hn)]; exact u.tbls b ps q
theorem Un.but {fs ex:List Addr} {H H':Hp} {h h' h'':Heap} {a:Addr} (u:Un fs ex H H' h h') (ha:h.objs.size ≤ a) (k:∀ b o,b ≠ a → h'.get? b = some o → h''.get? b = some o):Un fs ex H H' h h'' where
 keep:=fun b ob q n hb hx=>k b ob (Nat.ne_of_lt (Nat.lt_of_lt_of_le (Heap.lt_size q) ha)) (u.keep b ob q n hb hx)
 slot:=fun b ob q n hb hx=>let ⟨sl,e⟩:=u.slot b ob q n hb hx; ⟨sl,k b _ (Nat.ne_of_lt (Nat.lt_of_lt_of_le (Heap.lt_size q) ha)) e⟩
 free:=u.free
 there:=fun b ob q hx=>let ⟨o',e⟩:=u.there b ob q hx; ⟨o',k b _ (Nat.ne_of_lt (Nat.lt_of_lt_of_le (Heap.lt_size q) ha)) e⟩
 tups:=u.tups
 frzs:=u.frzs
 tbls:=u.tbls
structure NewCells (scope:Scope) (nw:List (Str × Addr)) (h1:Heap) (C:Addr):Prop where
 ok:∀ n c,(n,c) ∈ nw → h1.IsCell c none ∧ C < c
 apart:nw.Pairwise fun x y=>x.2 ≠ y.2
 has:∀ x,scope.names.lookup x = some .cell → ∃ c,nw.lookup x = some c
 of:∀ x c,nw.lookup x = some c → (x,NameKind.cell) ∈ scope.names
theorem B6:∀ (names:List (Str × NameKind)) (n:Nat) (acc:List (Str × Addr)),cellsFrom n names acc = cellsFrom n names [] ++ acc
 | [],_,_=>rfl
 | (x,k) :: r,n,acc=>by
  unfold cellsFrom
  split
  ·rw [B6 r (n + 1) ((x,n) :: acc),B6 r (n + 1) [(x,n)],List.append_assoc]
   rfl
  ·exact B6 r n acc
theorem N5:∀ (names:List (Str × NameKind)) (n:Nat) (x:Str) (c:Addr),(x,c) ∈ cellsFrom n names [] → (x,NameKind.cell) ∈ names
 | [],_,_,_,h=>nomatch h
 | (y,k) :: r,n,x,c,h=>by
  unfold cellsFrom at h
  split at h
  ·rename_i hk
   rw [B6] at h
   rcases List.mem_append.mp h with h | h
   ·exact List.mem_cons_of_mem _ (N5 r _ x c h)
   ·rw [List.mem_singleton] at h
    cases h
    have:k = .cell:=by simpa using hk
    rw [this]
    exact List.mem_cons_self ..
  ·exact List.mem_cons_of_mem _ (N5 r _ x c h)
theorem C3 {α:Type} {x:Str} {a b:List (Str × α)} {c:α} (h:(a ++ b).lookup x = some c):a.lookup x = some c ∨ (a.lookup x = none ∧ b.lookup x = some c):=by
 induction a with
 | nil=>exact .inr ⟨rfl,h⟩
 | cons p r ih =>
  rw [List.cons_append,List.lookup_cons] at h
  rw [List.lookup_cons]
  cases hx:x == p.1 with
  | true=>rw [hx] at h; exact .inl h
  | false=>rw [hx] at h; exact ih h
theorem N9 {α:Type} {x:Str} {a b:List (Str × α)} {c:α} (h:a.lookup x = some c):(a ++ b).lookup x = some c:=by
 induction a with
 | nil=>cases h
 | cons p r ih =>
  rw [List.lookup_cons] at h
  rw [List.cons_append,List.lookup_cons]
  cases hx:x == p.1 with
  | true=>rw [hx] at h; exact h
  | false=>rw [hx] at h; exact ih h
theorem U5 {α:Type} {x:Str} {a b:List (Str × α)} {c:α} (h:a.lookup x = none) (h2:b.lookup x = some c):(a ++ b).lookup x = some c:=by
 induction a with
 | nil=>exact h2
 | cons p r ih =>
  rw [List.lookup_cons] at h
  rw [List.cons_append,List.lookup_cons]
  cases hx:x == p.1 with
  | true=>rw [hx] at h; cases h
  | false=>rw [hx] at h; exact ih h
theorem ad7 {M:Model} {A:Around} {E:Value → Shared → Prop} {s:Shared} {scope:Scope} {globals:Addr} {closure:List (Str × Addr)} {qual:Str} {outer:Env} {Q:Env → Shared → Prop}
  (hQ:∀ nw h1,NewCells scope nw h1 s.heap.objs.size → h1.Ns s.heap.objs.size (fun _=>none) → (∀ b o,s.heap.get? b = some o → h1.get? b = some o) →
   Q { scope,locals:=s.heap.objs.size,globals,cells:=nw ++ closure,qual,func:=none,code:=outer.code,frame:=outer.frame,builtins:=outer.builtins } { s with heap:=h1 }) :
  wpAny M A (newFunctionEnv scope globals closure [] qual none .none (some outer)) Q E s:=by
 simp only [newFunctionEnv,Option.isSome_some,if_true]
 refine wpAny_bind (wpAny_alloc ?_)
 refine wpAny_bind (wpAny_layCells _ (fun name kind cells=>by cases hkc:kind == NameKind.cell <;> simp [hkc]) _ _ _ _ ?_)
 have ok:=cellsFrom_ok scope.names (s.heap.push { cls:=.type "dict",data:=.dict #[] }) (s.heap.objs.size + 1) [] ⟨fun _ _ hm=>(nomatch hm),List.Pairwise.nil⟩ (by rw [Heap.size_push]; exact Nat.le_refl _)
 rw [Heap.size_push] at ok
 rw [show ({ s with heap:=s.heap.push { cls:=.type "dict",data:=.dict #[] } }:Shared).heap.objs.size = s.heap.objs.size + 1 from Heap.size_push ..]
 rw [List.forIn_nil]
 refine wpAny_bind (wpAny_pure (wpAny_pure ?_))
 rw [B6]
 exact hQ _ _ ⟨fun n c h=>⟨(ok.empty n c h).1,(ok.empty n c h).2⟩,ok.apart,fun x h=>aa9 h,fun x c h=>N5 _ _ x c (PySem.mem_of_lookup h)⟩
  ((Heap.Ns.new s.heap (.type "dict")).keeps (pushCells_keeps _ _)) fun b o e=>pushCells_keeps _ _ b o (Heap.get?_push_of_some _ e)
def aQ8 (X:Cx) (ifs:List Expr) (t:TT):Prop :=
 ∀ (pins:List (Addr × Obj)) (s:Shared) (σ:St) (H:Hp) (Q:Bool → Hp → Prop),Inv X pins σ H s → t σ H Q →
  wpAny (model X.prog X.w) X.A (forIn ifs true fun c r=>if r = true then do let ok ← isTrue c X.env (eval c X.env); pure (ForInStep.yield ok) else pure (ForInStep.yield r)) (TP X pins σ Q) X.xe s
def ba4:TT:=fun _ H Q=>Q true H
theorem U2 {X:Cx}:aQ8 X [] ba4:=fun _ _ _ H Q I h=>wpAny_tests_nil ⟨H,I,h⟩
theorem aB0 {X:Cx} {c:Expr} {t:TT} (h:PT X c t):aQ8 X [c] t:=fun pins s σ H Q I q=>wpAny_tests_one (h pins s σ H Q I q)
def B1 (own:List Str) (fr:List (Nat × Str)) (σ:St):St:=own.map (fun _=>none) ++ fr.map fun p=>(σ[p.1]?).join
def W7 (J:It) (g:TG) (tt:TT) (te:TE) (Q:VK) (σ₀:St) (H1:Hp):Prop :=
 ∃ W:Nat → Nat → List V → St → Hp → Prop,(∃ m,W 0 m [] σ₀ H1) ∧ ∀ i m acc σ' H',W i m acc σ' H' →
  (J.stop i H' ∧ acc.length ≤ sizeLine ∧ ∀ p,H' p = none → Q (.ref p) (upd H' p (.lst acc))) ∨
  (J.go i H' ∧ acc.length < sizeLine ∧ ∃ N:List V → St → Hp → Prop,(∀ acc σ' H',N acc σ' H' → ∃ m',m' < m ∧ W (i + 1) m' acc σ' H') ∧ ∀ x H'',J.yld i H' x H'' → g x σ' H'' fun σ2 H2=>tt σ2 H2 fun ok H3=>if ok = true then te σ2 H3 fun y H4=>N (acc ++ [y]) σ2 H4 else N acc σ2 H3)
def a98 (own:List Str) (fr:List (Nat × Str)) (wi:TI) (g:TG) (tt:TT) (te:TE):TE:=fun σ H Q=>wi σ H fun J H1=>W7 J g tt te Q (B1 own fr σ) H1
section
variable {X:Cx} {tg iter elt:Expr} {ifs:List Expr} {scope:Scope} {own:List Str} {fr:List (Nat × Str)} {pos:Pos}
theorem aK1 {pins:List (Addr × Obj)} {σ:St} {H:Hp} {s:Shared} {cl:List (Str × Addr)} {ex:List Addr} {h1:Heap} {m:Str → Option Value} {C:Addr} {t':Nat} (S:CompScope X.N X.env.scope scope own fr) (I:Inv X pins σ H s)
  (hcl:∀ x c,cl.lookup x = some c → X.env.cells.lookup x = some c) (hcl2:∀ x,(x,NameKind.free) ∈ scope.names → ∃ c,cl.lookup x = some c) (hex:∀ b ∈ ex,Z0 X pins H b ∧ b < s.heap.objs.size)
  (hC:s.heap.objs.size ≤ C) (k:∀ b o,s.heap.get? b = some o → h1.get? b = some o) (hn:h1.Ns C m) {nw:List (Str × Addr)} (nc:NewCells scope nw h1 C) :
  Inv (A3 X scope (nw ++ cl) C (own ++ fr.map (·.2)) s H ex) [] (B1 own fr σ) H { s with heap:=h1,toks:=t' }:=by
 have okX:=I.ok
 have isNew:∀ x c,nw.lookup x = some c → C < c:=fun x c e=>(nc.ok x c (PySem.mem_of_lookup e)).2
 have isOld:∀ x c,cl.lookup x = some c → c < C:=fun x c e=>by
  obtain ⟨v,o,ho,_⟩:=I.cell x c (hcl x c e)
  exact Nat.lt_of_lt_of_le (Heap.lt_size ho) hC
 have hinj:∀ x y c,(nw ++ cl).lookup x = some c → (nw ++ cl).lookup y = some c → x = y:=fun x y c e1 e2=>by
  rcases C3 e1 with a | ⟨_,a⟩ <;> rcases C3 e2 with b | ⟨_,b⟩
  ·exact name_of_addr nc.apart (PySem.mem_of_lookup a) (PySem.mem_of_lookup b)
  ·exact absurd (Nat.lt_trans (isNew x c a) (isOld y c b)) (Nat.lt_irrefl _)
  ·exact absurd (Nat.lt_trans (isNew y c b) (isOld x c a)) (Nat.lt_irrefl _)
  ·exact okX.inj x y c (hcl x c a) (hcl y c b)
 have hasF:∀ x,(x,NameKind.free) ∈ scope.names → ∃ c,(nw ++ cl).lookup x = some c:=fun x hx=>by
  obtain ⟨c,e⟩:=hcl2 x hx
  cases z:nw.lookup x with
  | none=>exact ⟨c,U5 z e⟩
  | some c'=>exact ⟨c',N9 z⟩
 refine ⟨⟨okX.mod,?_,okX.glob,okX.blt,hC,hinj,fun x hx=>?_,fun x c e1 e2=>?_,okX.hd,okX.frames,.inl rfl,fun b hb=>?_,I.bs,Nat.le_trans okX.bsz I.sz,fun b o e hb=>?_,fun b hb hf=>?_,I.stack,I.stkFree⟩,
  rfl,I.bare,Un.kept k,⟨m,hn,fun i x v e1 e2 e3=>?_⟩,fun x c e=>?_,I.hok.fresh hC,fun x c e=>?_,fun p hp=>absurd (show p ∈ ([]:List (Addr × Obj)) from hp) (by simp),I.hok.kept k,?_⟩
 ·exact S.kind
 ·-- a cell's or a free name
  have hx':(relabel scope X.env).names.lookup x = some .cell ∨ (relabel scope X.env).names.lookup x = some .free:=hx
  have hfree:scope.names.lookup x = some .cell ∨ scope.names.lookup x = some .free:=by
   rcases hx' with q | q
   ·obtain ⟨k',e1,e2⟩:=D5 q
    rcases e2 with e2 | ⟨e2,_⟩
    ·exact .inl (by rw [e1,e2])
    ·exact .inr (by rw [e1,e2])
   ·obtain ⟨k',e1,e2⟩:=D5 q
    rcases e2 with e2 | ⟨e2,e3⟩
    ·exact .inr (by rw [e1,e2])
    ·cases e3
  rcases hfree with hfree | hfree
  ·obtain ⟨c,e⟩:=nc.has x hfree
   exact ⟨c,N9 e⟩
  ·exact hasF x (PySem.mem_of_lookup hfree)
 ·-- an own cell is new
  have e1':(match scope.names.lookup x with | some .cell=>true | _=>false) = true:=e1
  have hce:scope.names.lookup x = some .cell:=by
   split at e1'
   ·assumption
   ·cases e1'
  obtain ⟨c',e⟩:=nc.has x hce
  have e2':(nw ++ cl).lookup x = some c:=e2
  rw [N9 e] at e2'
  cases e2'
  exact Nat.le_trans hC (Nat.le_of_lt (isNew x c e))
 ·obtain ⟨⟨f0,f1,f2,f3,f4,f5⟩,f6⟩:=hex b hb
  refine ⟨Nat.ne_of_lt (Nat.lt_of_lt_of_le f6 hC),fun x c e=>?_⟩
  rcases C3 (show (nw ++ cl).lookup x = some c from e) with a | ⟨_,a⟩
  ·exact Nat.ne_of_gt (Nat.lt_trans (Nat.lt_of_lt_of_le f6 hC) (isNew x c a))
  ·exact f4 x c (hcl x c a)
 ·obtain ⟨⟨f0,f1,f2,f3,f4,f5⟩,f6⟩:=hex b hb
  rcases f3 with f3 | f3
  ·exact okX.noex b o e f3
  ·exact absurd (Nat.lt_of_lt_of_le (Heap.lt_size e) (Nat.le_trans okX.bsz f3)) (Nat.lt_irrefl _)
 ·obtain ⟨⟨f0,f1,f2,f3,f4,f5⟩,f6⟩:=hex b hb
  rcases List.mem_cons.mp (I.stkSub b hf) with z | z
  ·exact f1 z
  ·exact f2 z
 ·-- the values of the free names
  have e1':(own ++ fr.map (·.2))[i]? = some x:=e1
  have hi:own.length ≤ i:=by
   by_cases h:i < own.length
   ·unfold B1 at e2
    rw [List.getElem?_append_left (by simpa using h),List.getElem?_map] at e2
    cases q:own[i]? with
    | none=>rw [q] at e2; cases e2
    | some z=>rw [q] at e2; cases e2
   ·lia
  unfold B1 at e2
  rw [List.getElem?_append_right (by simpa using hi),List.getElem?_map,List.length_map] at e2
  rw [List.getElem?_append_right hi,List.getElem?_map] at e1'
  cases q:fr[i - own.length]? with
  | none=>rw [q] at e2; cases e2
  | some p =>
   rw [q] at e2 e1'
   have e1':p.2 = x:=Option.some.inj e1'
   have e2':(σ[p.1]?).join = some v:=Option.some.inj e2
   obtain ⟨hs1,hs2⟩:=S.slot p (List.mem_of_getElem? q)
   rw [e1'] at hs1 hs2
   have e2'':σ[p.1]? = some (some v):=by
    cases z:σ[p.1]? with
    | none=>rw [z] at e2'; cases e2'
    | some y=>rw [z] at e2'; exact congrArg some e2'
   obtain ⟨mX,hnX,hlX⟩:=I.loc
   have hfr:=S.free (x,.free) (PySem.mem_of_lookup hs2) rfl
   have hvis:Vis X.env.scope x:=by
    rcases hfr with z | z
    ·exact .inr (.inl z)
    ·exact .inr (.inr z)
   obtain ⟨u,r,l⟩:=hlX p.1 x v hs1 e2'' hvis
   refine ⟨u,r,?_⟩
   have hkc:X.env.kindOf x = some .cell ∨ X.env.kindOf x = some .free:=hfr
   rcases l with ⟨kx,_⟩ | ⟨kx,c,hc,z⟩
   ·rcases hkc with w | w
    ·rw [w] at kx; cases kx
    ·rw [w] at kx; cases kx
   ·obtain ⟨c',hc'⟩:=hcl2 x (PySem.mem_of_lookup hs2)
    have hcc:=hcl x c' hc'
    rw [hc] at hcc
    cases hcc
    have e3':(relabel scope X.env).names.lookup x = some .local ∨ (relabel scope X.env).names.lookup x = some .cell ∨ (relabel scope X.env).names.lookup x = some .free:=e3
    have hnew:nw.lookup x = none:=by
     cases z:nw.lookup x with
     | none=>rfl
     | some c'' =>
      have:=S.cells _ (nc.of x c'' z) rfl
      rw [hs2] at this
      cases this
    refine .inr ⟨?_,c,U5 hnew hc',?_⟩
    ·rcases e3' with w | w | w
     ·obtain ⟨k',q1,q2⟩:=D5 w
      rw [hs2] at q1
      cases q1
      rcases q2 with q2 | ⟨_,q2⟩ <;> cases q2
     ·exact .inl w
     ·exact .inr w
    ·obtain ⟨o,ho,hd⟩:=z
     exact ⟨o,k _ _ ho,hd⟩
 ·rcases C3 (show (nw ++ cl).lookup x = some c from e) with a | ⟨_,a⟩
  ·exact ⟨none,(nc.ok x c (PySem.mem_of_lookup a)).1⟩
  ·obtain ⟨v,o,ho,hd⟩:=I.cell x c (hcl x c a)
   exact ⟨v,o,k _ _ ho,hd⟩
 ·rcases C3 (show (nw ++ cl).lookup x = some c from e) with a | ⟨_,a⟩
  ·exact I.hok.fresh (Nat.le_trans hC (Nat.le_of_lt (isNew x c a)))
  ·exact I.freeC x c (hcl x c a)
 ·show (B1 own fr σ).length = (own ++ fr.map (·.2)).length
  unfold B1
  rw [List.length_append,List.length_append,List.length_map,List.length_map,List.length_map]
theorem av0 {pins:List (Addr × Obj)} {σ:St} {H2:Hp} {s2:Shared} {cl:List (Str × Addr)} {it:Addr} {fp:List Addr} {tn:Nat → Heap → Prop} {J:It} {g:TG} {tt:TT} {te:TE} {Q:VK} {E:Value → Shared → Prop}
  {RR:Value → Addr → Result → Shared → Prop} (hc:X.calm = true) (S:CompScope X.N X.env.scope scope own fr) (I:Inv X pins σ H2 s2) (hcl:∀ x c,cl.lookup x = some c → X.env.cells.lookup x = some c)
  (hcl2:∀ x,(x,NameKind.free) ∈ scope.names → ∃ c,cl.lookup x = some c) (T:Turn X.prog X.w X.K tg J fp it tn) (st:tn 0 s2.heap) (hfp:∀ b ∈ fp,Z0 X pins H2 b)
  (hb:∀ (cl:List (Str × Addr)) (C:Addr) (s:Shared) (H:Hp) (ex:List Addr),PG (A3 X scope cl C (own ++ fr.map (·.2)) s H ex) tg g ∧ aQ8 (A3 X scope cl C (own ++ fr.map (·.2)) s H ex) ifs tt ∧ PE (A3 X scope cl C (own ++ fr.map (·.2)) s H ex) elt te)
  (hq:W7 J g tt te Q (B1 own fr σ) H2)
  (fin:∀ (D C:Addr) (s':Shared) (H':Hp),(∃ m,s'.heap.Ns C m) → s2.heap.objs.size ≤ C → C ≠ D → H' C = none → Q (.ref D) H' → (∀ h'',(∀ b o,b ≠ C → s'.heap.get? b = some o → h''.get? b = some o) → Inv X pins σ H' { s' with heap:=h'' }) → RR (.ref D) C (.ok .next) s') :
  wpAny (model X.prog X.w) X.A (newList []) (fun acc s₃=>wpAny (model X.prog X.w) X.A (newFunctionEnv scope X.env.globals cl [] X.env.qual none .none (some X.env)) (fun cenv s₄ =>
   codeAny (model X.prog X.w) X.A (.compStart (.ListComp elt [⟨tg,iter,ifs,0⟩] scope pos) 0 (.ref it) acc { cenv with scope:=relabel scope X.env }) (RR acc cenv.locals) s₄) E s₃) E s2:=by
 obtain ⟨W,⟨m0,w0⟩,turn⟩:=hq
 refine wpAny_newObj_type (ad7 (fun nw h₁ nc hns₁ hsb₁=>?_))
 dsimp only at nc hns₁ hsb₁ ⊢
 generalize hH2:s2.heap.push { cls:=.type "list",dict:=none,data:=.seq ([]:List Value).toArray } = HH at nc hns₁ hsb₁ ⊢
 have hC:HH.objs.size = s2.heap.objs.size + 1:=by rw [← hH2,Heap.size_push]
 have hDC:s2.heap.objs.size ≠ HH.objs.size:=by rw [hC]; exact Nat.ne_of_lt (Nat.lt_succ_self _)
 have hCle:s2.heap.objs.size ≤ HH.objs.size:=by rw [hC]; exact Nat.le_succ _
 have old:∀ b o,s2.heap.get? b = some o → h₁.get? b = some o:=fun b o e =>
  hsb₁ b o (hH2 ▸ Heap.get?_push_of_some _ e)
 have hacc:h₁.get? s2.heap.objs.size = some { cls:=.type "list",data:=.seq ([]:List Value).toArray }:=hsb₁ _ _ (hH2 ▸ Heap.get?_push_size _ rfl)
 have flt:∀ b ∈ fp,b < s2.heap.objs.size:=fun b hb=>by
  obtain ⟨o,e,_⟩:=T.obj _ _ st b hb
  exact Heap.lt_size e
 have hlt:s2.heap.objs.size < HH.objs.size:=by rw [hC]; exact Nat.lt_succ_self _
 obtain ⟨D,hD⟩:∃ D:Nat,D = s2.heap.objs.size:=⟨_,rfl⟩
 obtain ⟨C,hCC⟩:∃ C:Nat,C = HH.objs.size:=⟨_,rfl⟩
 rw [← hD] at hacc ⊢
 rw [← hCC] at nc hns₁ ⊢
 have hDlt:D < C:=by rw [hD,hCC]; exact hlt
 have hDs:s2.heap.objs.size ≤ D:=Nat.le_of_eq hD.symm
 have hCs:s2.heap.objs.size ≤ C:=Nat.le_trans hDs (Nat.le_of_lt hDlt)
 have nDC:D ≠ C:=Nat.ne_of_lt hDlt
 have nfD:∀ b ∈ fp,b ≠ D:=fun b hb=>Nat.ne_of_lt (Nat.lt_of_lt_of_le (flt b hb) hDs)
 have nfC:∀ b ∈ fp,b ≠ C:=fun b hb=>Nat.ne_of_lt (Nat.lt_of_lt_of_le (flt b hb) hCs)
 have I0:Inv (A3 X scope (nw ++ cl) C (own ++ fr.map (·.2)) s2 H2 fp) [] (B1 own fr σ) H2 { s2 with heap:=h₁,toks:=s2.toks } :=
  aK1 S I hcl hcl2 (fun b hb=>⟨hfp b hb,flt b hb⟩) hCs old hns₁ nc
 obtain ⟨pg,pt,pe⟩:=hb (nw ++ cl) C s2 H2 fp
 have Dcell:∀ x c,(nw ++ cl).lookup x = some c → c ≠ D:=fun x c e=>by
  rcases C3 e with a | ⟨_,a⟩
  ·exact Nat.ne_of_gt (Nat.lt_trans hDlt (nc.ok x c (PySem.mem_of_lookup a)).2)
  ·obtain ⟨v,q⟩:=I.cell x c (hcl x c a)
   exact Nat.ne_of_lt (Nat.lt_of_lt_of_le q.lt hDs)
 have Dstk:D ∉ frs X.stack:=fun hf=>by
  rcases List.mem_cons.mp (I.stkSub D hf) with z | z
  ·have h1:=I.lt
   rw [← z] at h1
   exact Nat.lt_irrefl _ (Nat.lt_of_lt_of_le h1 hDs)
  ·exact I.nofs hDs z
 have stat:∀ {H':Hp} {pl:List (Addr × Obj)},(∀ b ∈ fp,H' b = none) → (∀ p ∈ pl,p.1 = D) → ∀ b ∈ fp,Z0 (A3 X scope (nw ++ cl) C (own ++ fr.map (·.2)) s2 H2 fp) pl H' b:=fun {H' pl} hn hpl b hb=>by
  obtain ⟨f0,f1,f2,f3,f4,f5⟩:=hfp b hb
  refine ⟨hn b hb,nfC b hb,fun hf=>?_,.inl hb,fun x c e=>(by
   rcases C3 (show (nw ++ cl).lookup x = some c from e) with a | ⟨_,a⟩
   ·exact Nat.ne_of_gt (Nat.lt_trans (Nat.lt_of_lt_of_le (flt b hb) hCs) (nc.ok x c (PySem.mem_of_lookup a)).2)
   ·exact f4 x c (hcl x c a)),fun p hp z=>?_⟩
  ·rcases List.mem_cons.mp (I.stkSub b hf) with z | z
   ·exact f1 z
   ·exact f2 z
  ·have h1:p.1 = D:=hpl p (by simpa [A3] using hp)
   exact nfD b hb (z.symm.trans h1)
 have loop:∀ s₃:Shared,s₃ = { s2 with heap:=h₁,toks:=s2.toks } →
   codeAny (model X.prog X.w) X.A (.compLoop (.ListComp elt [⟨tg,iter,ifs,0⟩] scope pos) 0 (.ref it) (.ref D) (compEnvC scope (nw ++ cl) C X.env)) (RR (.ref D) C) s₃:=by
  rintro s₃ rfl
  refine codeAny_loop rfl (fun n s'=>∃ i σ' H' acc its k,Inv (A3 X scope (nw ++ cl) C (own ++ fr.map (·.2)) s2 H2 fp) [] σ' H' s' ∧ tn i s'.heap ∧ (∀ b ∈ fp,H' b = none) ∧ H' D = none ∧
   s'.heap.get? D = some { cls:=.type "list",data:=.seq its.toArray k } ∧ j9 acc its ∧ W i n acc σ' H') ?_ m0
   ⟨0,_,H2,[],[],0,I0,T.keep _ _ _ st fun b hb o e=>old b o e,fun b hb=>(hfp b hb).1,I.hok.fresh hDs,hacc,.nil,w0⟩
  rintro n s' ⟨i,σ',H',acc,its,k,I1,st1,fr1,nD,gD,rv,w1⟩
  show wpAny _ X.A ((compTurn (.ListComp elt [⟨tg,iter,ifs,0⟩] scope pos) 0 (.ref it) (.ref D) (compEnvC scope (nw ++ cl) C X.env)).onRaise (fun x=>do noteFrame x (compEnvC scope (nw ++ cl) C X.env); theTreesLotGoes x)) _ _ s'
  refine wpAny_noted ?_
  rw [compTurn_list]
  have I1':Inv (A3 X scope (nw ++ cl) C (own ++ fr.map (·.2)) s2 H2 fp) [(D,{ cls:=.type "list",data:=.seq its.toArray k })] σ' H' s':=I1.pins_of fun p hp=>by
   have e:p = (D,{ cls:=.type "list",data:=.seq its.toArray k }):=by simpa using hp
   subst e
   exact ⟨gD,nD,nDC,Dstk,fun v z=>nomatch z⟩
  rcases turn i n acc σ' H' w1 with ⟨stop,hz,qq⟩ | ⟨go,hz,NN,hNN,step⟩
  ·refine wpAny_bind (wpAny_standAt (wpAny_bind (wpAny_mono (T.done (A3 X scope (nw ++ cl) C (own ++ fr.map (·.2)) s2 H2 fp) rfl rfl rfl hc i _ s' σ' H' (fun _ _=>False) I1' (stat fr1 (by simp)) st1 stop) (fun r s4 ⟨hr,I4⟩=>?_) fun _ _ z=>z.elim)))
   subst hr
   refine wpAny_pure ?_
   have gD4:=(I4.pin (D,_) (List.mem_append_right _ (List.mem_singleton.mpr rfl))).1
   have hC4:H' C = none:=I4.free
   have hC5:(upd H' D (.lst acc)) C = none:=by rw [d9 (Ne.symm nDC)]; exact hC4
   refine fin D C s4 (upd H' D (.lst acc)) ?_ hCs (Ne.symm nDC) hC5 (qq D nD) fun h'' kk=>?_
   ·obtain ⟨m,hn,_⟩:=I4.loc
    exact ⟨m,hn⟩
   ·have un:Un (frs X.stack) fp H2 (upd H' D (.lst acc)) s2.heap h'':=Un.but (a:=C) (Un.track (o:=.lst acc) I4.base hDs (I.hok.fresh hDs)) hCs kk
    have hok:HOk X.prog X.w (upd H' D (.lst acc)) s4.heap:=HOk.track I4.hok nD ⟨hz,its,k,rv,gD4⟩
    exact I.call' (s':={ s4 with heap:=h'' }) (ch:=fp) I4.os un (HOk.but hok hC5 kk) I4.bare fun b hb=>by
     obtain ⟨f0,f1,f2,f3,f4,f5⟩:=hfp b hb
     exact ⟨f3,f1,f4,f5⟩
  ·refine wpAny_bind (wpAny_standAt (wpAny_bind (wpAny_mono (T.item (A3 X scope (nw ++ cl) C (own ++ fr.map (·.2)) s2 H2 fp) rfl rfl rfl hc i _ s' σ' H' (fun _ _=>False) I1' (stat fr1 (by simp)) st1 go) (fun r s4 ⟨u,hr,h4⟩=>?_) fun _ _ z=>z.elim)))
   subst hr
   refine wpAny_bind (wpAny_mono h4 (fun _ s5 ⟨x,H5,I5,r5,y5,st5,fr5⟩=>?_) fun _ _ z=>z.elim)
   have I5':=I5.pinned (stat fr5 (by simp)) (T.obj _ _ st5)
   refine wpAny_bind (wpAny_mono (pg _ s5 σ' H5 x u _ I5' r5 (step x H5 y5)) (fun _ s6 ⟨σ6,H6,I6,q6⟩=>?_) fun _ _ z=>z.elim)
   refine wpAny_bind (wpAny_mono (pt _ s6 σ6 H6 _ I6 q6) (fun ok s7 ⟨H7,I7,q7⟩=>?_) fun _ _ z=>z.elim)
   have again:∀ {s8:Shared} {H8:Hp} {acc':List V} {its':List Value} {k' m':Nat},Inv (A3 X scope (nw ++ cl) C (own ++ fr.map (·.2)) s2 H2 fp) (Q0 fp s5.heap) σ6 H8 s8 → H8 D = none →
     s8.heap.get? D = some { cls:=.type "list",data:=.seq its'.toArray k' } → j9 acc' its' → m' < n → W (i + 1) m' acc' σ6 H8 →
     ∃ m,m < n ∧ ∃ i σ' H' acc its k,Inv (A3 X scope (nw ++ cl) C (own ++ fr.map (·.2)) s2 H2 fp) [] σ' H' s8 ∧ tn i s8.heap ∧ (∀ b ∈ fp,H' b = none) ∧ H' D = none ∧
      s8.heap.get? D = some { cls:=.type "list",data:=.seq its.toArray k } ∧ j9 acc its ∧ W i m acc σ' H':=fun {s8 H8 acc' its' k' m'} I8 n8 g8 rv8 hm w8=>by
    refine ⟨m',hm,i + 1,σ6,H8,acc',its',k',I8.pins_of (fun p hp=>nomatch hp),T.keep _ _ _ st5 fun b hb o e=>(I8.pin (b,o) (List.mem_append_right _ (N2 hb e))).1,fun b hb=>?_,n8,g8,rv8,w8⟩
    obtain ⟨o,e,d⟩:=T.obj _ _ st5 b hb
    exact (I8.pin (b,o) (List.mem_append_right _ (N2 hb e))).2.1
   have dropD:∀ {s8:Shared} {H8:Hp},Inv (A3 X scope (nw ++ cl) C (own ++ fr.map (·.2)) s2 H2 fp) ([(D,{ cls:=.type "list",data:=.seq its.toArray k })] ++ Q0 fp s5.heap) σ6 H8 s8 →
     Inv (A3 X scope (nw ++ cl) C (own ++ fr.map (·.2)) s2 H2 fp) (Q0 fp s5.heap) σ6 H8 s8:=fun I8=>I8.pins_of fun p hp=>I8.pin p (List.mem_append_right _ (List.mem_append_right _ hp))
   cases ok with
   | false =>
    rw [if_neg Bool.false_ne_true] at q7
    obtain ⟨m',hm,w7⟩:=hNN _ _ _ q7
    have pD:=I7.pin (D,_) (List.mem_append_right _ (List.mem_append_left _ (List.mem_singleton.mpr rfl)))
    simp only [Bool.false_eq_true,if_false]
    exact wpAny_pure ⟨rfl,again (dropD I7) pD.2.1 pD.1 rv hm w7⟩
   | true =>
    rw [if_pos rfl] at q7
    simp only [if_true]
    refine wpAny_bind (wpAny_bind (wpAny_mono (pe _ s7 σ6 H7 _ I7 q7) (fun u8 s8 ⟨y,H8,I8,r8,q8⟩=>?_) fun _ _ z=>z.elim))
    obtain ⟨m',hm,w8⟩:=hNN _ _ _ q8
    have pD:=I8.pin (D,_) (List.mem_append_right _ (List.mem_append_left _ (List.mem_singleton.mpr rfl)))
    obtain ⟨gD8,nD8,_⟩:=pD
    have hlen:=rv.length
    refine wpAny_bind (call_meets F.slot_list_append ⟨_,gD8,rfl⟩ F.entry_list_append (F.args_list_append_2 _ _) (PySem.list_append D its.toArray k u8 (by rw [List.size_toArray]; lia)) ⟨gD8,?_⟩)
    refine wpAny_pure (wpAny_pure ⟨rfl,?_⟩)
    have q:=PySem.IsL.update gD8 (·.push u8)
    have e9:its.toArray.push u8 = (its ++ [u8]).toArray:=by simp
    rw [e9] at q
    refine again (its':=its ++ [u8]) ((dropD I8).turned (it:=D) (t':=_) (fun b o hb e=>(Heap.get?_update_other s8.heap _ (Ne.symm hb)).trans e) nD8 nDC (.inr hDs) (fun x c e=>Dcell x c e) fun p hp z=>?_) nD8 q (rv.append (.cons r8 .nil)) hm w8
    have hp':p ∈ Q0 fp s5.heap:=by simpa [A3] using hp
    exact nfD p.1 (ag2 hp').1 z
 exact codeAny_compStart_list (loop _ rfl) (T.self _ 0 _ _ _ (T.keep _ _ _ st fun b hb o e=>old b o e) (loop _ rfl))
theorem N8 {wi:TI} {g:TG} {tt:TT} {te:TE} (hc:X.calm = true) (S:CompScope X.N X.env.scope scope own fr) (hi:PI X tg iter wi)
  (hb:∀ (cl:List (Str × Addr)) (C:Addr) (s:Shared) (H:Hp) (ex:List Addr),PG (A3 X scope cl C (own ++ fr.map (·.2)) s H ex) tg g ∧ aQ8 (A3 X scope cl C (own ++ fr.map (·.2)) s H ex) ifs tt ∧ PE (A3 X scope cl C (own ++ fr.map (·.2)) s H ex) elt te)
  (hs:∀ x,foldedSetIterable iter X.env x = pure x:=by intro _; rfl):PE X (.ListComp elt [⟨tg,iter,ifs,0⟩] scope pos) (a98 own fr wi g tt te):=by
 intro pins s σ H Q I h
 obtain ⟨cl,hclos,hcl,hcl2⟩:=ay9 (scope:=scope) (env:=X.env) fun x hx=>I.ok.has x (S.free (x,.free) hx rfl)
 rw [eval_ListComp]
 refine wpAny_comprehension_free (use:=none) rfl hs hclos S.kind S.locs (thn (hi pins s σ H _ I h) fun xv s₁ h₁=>thn h₁ fun itv s₂ h₂=>?_)
 obtain ⟨it,fp,tn,J,H2,e,I2,T,st2,f2,hq⟩:=h₂
 subst e
 refine av0 hc S I2 hcl hcl2 T st2 f2 hb hq (RR:=fun acc C=>compPost (model X.prog X.w) X.A X.xe none (EP X pins σ Q) acc C) fun D C s' H' hn hC1 hCD hC2 q inv=>?_
 obtain ⟨m,hn⟩:=hn
 exact ⟨m,hn,fun h'' sb=>⟨.ref D,H',inv h'' fun b o hb e=>sb.extBut b o hb e,rfl,q⟩⟩
end
theorem af8 {K:PySem.W.Frag} {a:Addr} {xs:List V} {g:TG} {tt:TT} {te:TE} {σ₀:St} {H:Hp} {Q:VK} (Pv:Nat → List V → St → Hp → Prop) (h0:Pv 0 [] σ₀ H) (hz:xs.length ≤ sizeLine) (hn:∀ i acc σ H,Pv i acc σ H → acc.length ≤ i)
  (hl:∀ i acc σ H,i ≤ xs.length → Pv i acc σ H → SqL K H a xs)
  (hs:∀ i x acc σ H,xs[i]? = some x → Pv i acc σ H → g x σ H fun σ2 H2=>tt σ2 H2 fun ok H3=>if ok = true then te σ2 H3 fun y H4=>Pv (i + 1) (acc ++ [y]) σ2 H4 else Pv (i + 1) acc σ2 H3)
  (hd:∀ acc σ H,Pv xs.length acc σ H → ∀ p,H p = none → Q (.ref p) (upd H p (.lst acc))) :
  W7 (Itl K a) g tt te Q σ₀ H:=by
 refine ⟨fun i m acc σ H=>m = xs.length - i ∧ i ≤ xs.length ∧ Pv i acc σ H,⟨xs.length,by simp,Nat.zero_le _,h0⟩,?_⟩
 rintro i m acc σ H ⟨rfl,hi,p⟩
 have q:=hl i acc σ H hi p
 have hlen:=hn i acc σ H p
 by_cases hlt:i < xs.length
 ·refine .inr ⟨⟨xs,xs[i],q,by simp [hlt]⟩,by lia,Pv (i + 1),fun acc' σ' H' p'=>⟨xs.length - (i + 1),by lia,rfl,hlt,p'⟩,fun x H' y=>?_⟩
  obtain ⟨e,y⟩:=y
  subst e
  exact hs i x acc σ _ (y xs q) p
 ·have e:i = xs.length:=by lia
  subst e
  exact .inl ⟨⟨xs,q,Nat.le_refl _⟩,by lia,hd acc σ H p⟩
theorem au4 {K:PySem.W.Frag} {a:Addr} {xs:List V} {g:TG} {tt:TT} {te:TE} {σ₀:St} {H:Hp} {Q:VK} (Pv:Nat → List V → St → Hp → Prop) (h0:Pv 0 [] σ₀ H) (hz:xs.length ≤ sizeLine) (hn:∀ i acc σ H,Pv i acc σ H → acc.length ≤ i)
  (hl:∀ i acc σ H,i ≤ xs.length → Pv i acc σ H → SqT K H a xs)
  (hs:∀ i x acc σ H,xs[i]? = some x → Pv i acc σ H → g x σ H fun σ2 H2=>tt σ2 H2 fun ok H3=>if ok = true then te σ2 H3 fun y H4=>Pv (i + 1) (acc ++ [y]) σ2 H4 else Pv (i + 1) acc σ2 H3)
  (hd:∀ acc σ H,Pv xs.length acc σ H → ∀ p,H p = none → Q (.ref p) (upd H p (.lst acc))) :
  W7 (Itt K a) g tt te Q σ₀ H:=by
 refine ⟨fun i m acc σ H=>m = xs.length - i ∧ i ≤ xs.length ∧ Pv i acc σ H,⟨xs.length,by simp,Nat.zero_le _,h0⟩,?_⟩
 rintro i m acc σ H ⟨rfl,hi,p⟩
 have q:=hl i acc σ H hi p
 have hlen:=hn i acc σ H p
 by_cases hlt:i < xs.length
 ·refine .inr ⟨⟨xs,xs[i],q,by simp [hlt]⟩,by lia,Pv (i + 1),fun acc' σ' H' p'=>⟨xs.length - (i + 1),by lia,rfl,hlt,p'⟩,fun x H' y=>?_⟩
  obtain ⟨e,y⟩:=y
  subst e
  exact hs i x acc σ _ (y xs q) p
 ·have e:i = xs.length:=by lia
  subst e
  exact .inl ⟨⟨xs,q,Nat.le_refl _⟩,by lia,hd acc σ H p⟩
theorem ac3 {lo:Int} {n:Nat} {g:TG} {tt:TT} {te:TE} {σ₀:St} {H:Hp} {Q:VK} (Pv:Nat → List V → St → Hp → Prop) (h0:Pv 0 [] σ₀ H) (hz:n ≤ sizeLine) (hn:∀ i acc σ H,Pv i acc σ H → acc.length ≤ i)
  (hs:∀ i acc σ H,i < n → Pv i acc σ H → g (.int (lo + i)) σ H fun σ2 H2=>tt σ2 H2 fun ok H3=>if ok = true then te σ2 H3 fun y H4=>Pv (i + 1) (acc ++ [y]) σ2 H4 else Pv (i + 1) acc σ2 H3)
  (hd:∀ acc σ H,Pv n acc σ H → ∀ p,H p = none → Q (.ref p) (upd H p (.lst acc))) :
  W7 (Itr lo n) g tt te Q σ₀ H:=by
 refine ⟨fun i m acc σ H=>m = n - i ∧ i ≤ n ∧ Pv i acc σ H,⟨n,by simp,Nat.zero_le _,h0⟩,?_⟩
 rintro i m acc σ H ⟨rfl,hi,p⟩
 have hlen:=hn i acc σ H p
 by_cases hlt:i < n
 ·refine .inr ⟨hlt,by lia,Pv (i + 1),fun acc' σ' H' p'=>⟨n - (i + 1),by lia,rfl,hlt,p'⟩,fun x H' y=>?_⟩
  obtain ⟨e,y⟩:=y
  subst e y
  exact hs i acc σ _ hlt p
 ·have e:i = n:=by lia
  subst e
  exact .inl ⟨Nat.le_refl _,by lia,hd acc σ H p⟩
end L2
namespace L2
open PySem PySem.Spec PyProof.Rows
theorem aZ4 {c A B:Prop} [Decidable c] (h:c) (a:A):if c then A else B:=by rw [if_pos h]; exact a
theorem az6 {c A B:Prop} [Decidable c] (h:¬ c) (b:B):if c then A else B:=by rw [if_neg h]; exact b
structure Callee (P:Program) (w:World) (K:PySem.W.Frag) (mg:Str → Option Value) (base:Heap) (k:Nat) (x:Str) (ps:List Str) (sp:Sp):Prop where
 ex:∃ (f:Addr) (fd:FuncData),FnOk P w K mg base CX0 k f fd ps sp ∧ O5 K fd ps [] ∧ PySem.W.keepIn K (.ref f) = true ∧ mg x = some (.ref f)
structure Def (K:PySem.W.Frag) (mg:Str → Option Value) (x:Str) (st:Stmt) (ps:List Str):Prop where
 ex:∃ (f:Addr) (fd:FuncData),Fun K x x st f fd ∧ O5 K fd ps [] ∧ mg x = some (.ref f)
section
variable {P:Program} {w:World} {K:PySem.W.Frag} {mg:Str → Option Value} {base:Heap}
theorem Def.ok {x:Str} {st:Stmt} {N ps:List Str} {k:Nat} {sp:Sp} (D:Def K mg x st ps) (S:FnScope N ps (d7 st)) (len:∀ vs H Q E,sp vs H Q E → vs.length = ps.length)
  (hbody:∀ (f:Addr) (cdv:Value) (A:Around) (outer:List Env) (s:Shared) (H:Hp) (vs:List V) (Q:VK) (E:XK),Room k (A.deeper (envOfC x (d7 st) s.heap.objs.size f cdv)) → sp vs H Q E →
   ∃ t,PSs (F8 CX0 P w K mg base N x (d7 st) f cdv A outer s H E).nox (i8 st) t ∧ t { nx:=fun _ H'=>Q .non H',rt:=Q } (start N vs) H):Callee P w K mg base (k + 1) x ps sp:=by
 obtain ⟨f,fd,F,b,m⟩:=D.ex
 exact ⟨f,fd,F.ok S len fun cdv A outer s H vs Q E hr h=>hbody f cdv A outer s H vs Q E hr h,b,F.kp,m⟩
end
section
variable {X:Cx} {k n:Nat} {ps:List Str} {sp:Sp} {x:Str} {p pos:Pos} {e:Expr} {es:List Expr} {t:TA}
theorem m6 (C:Callee X.prog X.w X.K X.mg X.base k x ps sp) (hr:Room n X.A) (hg:Gl X x) (ha:PA X (e :: es) t) (hk:k ≤ n:=by decide) (hdb:(x == ("__debug__":Str)) = false:=by decide)
  (he:starEach (e :: es) X.env = (false,eval e X.env) :: starEach es X.env:=by rfl) (hpl:(backTo pos (starEach es X.env)).any (·.1) = false:=by rfl) :
  PE X (.Call (.Name x p) (e :: es) [] pos) (aW9 sp [] E0 t):=by
 obtain ⟨f,fd,F,b,kp,m⟩:=C.ex
 exact aS8 F (hr.mono hk) hg m kp b .nil aX0 ha hdb he hpl
theorem ap3:y7 X (.builtin "isinstance") (fun xs H Q=>∃ v T t b,xs = [v,.ty T] ∧ TyOf X.K H v t ∧ PySem.W.kitOne X.K t (.type T) = some b ∧ Q (.bl b) H):=by
 intro pins s σ H xs us Q I r h
 obtain ⟨v,T,t,b,rfl,ty,e,q⟩:=h
 obtain ⟨u,u',rfl,r1,r2⟩:=as5 r
 cases r2
 exact aI3 I r1 ty e fun tk=>⟨.bl b,H,I.tok _,rfl,q⟩
def bb6 (S T:String):Option Bool:=if (Value.type S == Value.type T) = true then some true else if PySem.W.kitMeta T = true then (fastBuiltinMro S).map (·.contains (.type T)) else none
theorem ak0 {K:PySem.W.Frag} {S T:String} {b:Bool} (h:bb6 S T = some b):PySem.W.kitOne K (.type S) (.type T) = some b:=h
section
variable {K:PySem.W.Frag}
theorem X7:PySem.W.kitOne K (.type "int") (.type "int") = some true:=ak0 (by decide +kernel)
theorem U3:PySem.W.kitOne K (.type "int") (.type "bool") = some false:=ak0 (by decide +kernel)
theorem P5:PySem.W.kitOne K (.type "tuple") (.type "tuple") = some true:=ak0 (by decide +kernel)
theorem ap5:PySem.W.kitOne K (.type "list") (.type "list") = some true:=ak0 (by decide +kernel)
end
end
end L2
namespace L2
open PySem PySem.Spec PyProof.Rows
def D7 (b:Bool) (h:Heap) (l:Addr) (xs:Array Value):Prop:=match b with
 | true=>h.IsTuple l xs
 | false=>h.IsList l xs
def B4 (b:Bool) (h:Heap) (i l:Addr) (k:Nat):Prop:=match b with
 | true=>h.IsTupleIter i l k
 | false=>h.IsListIter i l k
theorem D7.kept {b:Bool} {h h':Heap} {l:Addr} {xs:Array Value} (x:D7 b h l xs) (k:∀ o,h.get? l = some o → h'.get? l = some o):D7 b h' l xs:=by
 cases b with
 | true=>obtain ⟨o,e,r⟩:=(show h.IsTuple l xs from x); exact ⟨o,k o e,r⟩
 | false=>obtain ⟨o,e,r⟩:=(show h.IsList l xs from x); exact ⟨o,k o e,r⟩
theorem B4.kept {b:Bool} {h h':Heap} {i l:Addr} {n:Nat} (x:B4 b h i l n) (k:∀ o,h.get? i = some o → h'.get? i = some o):B4 b h' i l n:=by
 cases b with
 | true=>obtain ⟨o,e,r⟩:=(show h.IsTupleIter i l n from x); exact ⟨o,k o e,r⟩
 | false=>obtain ⟨o,e,r⟩:=(show h.IsListIter i l n from x); exact ⟨o,k o e,r⟩
theorem B4.there {b:Bool} {h:Heap} {i l:Addr} {n:Nat} (x:B4 b h i l n):∃ o,h.get? i = some o ∧ ∀ v,o.data ≠ .cell v:=by
 cases b with
 | true=>obtain ⟨o,e,c,d⟩:=(show h.IsTupleIter i l n from x); exact ⟨o,e,fun v z=>by rw [d] at z; cases z⟩
 | false=>obtain ⟨o,e,c,d⟩:=(show h.IsListIter i l n from x); exact ⟨o,e,fun v z=>by rw [d] at z; cases z⟩
section
variable {prog:Program} {w:World} {A:Around} {E:Value → Shared → Prop} {s:Shared}
theorem aU6 {it t:Addr} {i:Nat} {items:Array Value} {x:Value} {Q:Value → Shared → Prop} (hit:s.heap.IsTupleIter it t i) (ht:s.heap.IsTuple t items) (hx:items[i]? = some x)
  (hQ:∀ h',h'.IsTupleIter it t (i + 1) → Heap.SameBut it s.heap h' → Q x { s with heap:=h' }):wpAny (model prog w) A (Builtin.SmallTypes.nextOf (.ref it)) Q E s:=by
 obtain ⟨oi,gi,ci,di⟩:=id hit
 obtain ⟨ot,gt,_,nt,dt⟩:=ht
 unfold Builtin.SmallTypes.nextOf
 refine wpAny_bind (wpAny_callSpecial?_slot (name:=Str.ofString "__next__") hit.typeIs F.slot_tuple_iterator_next (wpAny_call_entry F.slot_tuple_iterator_next hit.typeIs F.entry_tuple_iterator_next ?_ (F.args_tuple_iterator_next_1 _)))
 show wpAny _ _ (field (.ref it) 0 >>= _) _ _ s
 refine wpAny_bind (wpAny_field gi di (x:=.ref t) rfl ?_)
 show wpAny _ _ (if (Value.ref t == Value.none) = true then _ else _) _ _ s
 rw [if_neg (show ¬ ((Value.ref t == Value.none) = true) from Bool.false_ne_true)]
 show wpAny _ _ (field (.ref it) 1 >>= _) _ _ s
 refine wpAny_bind (wpAny_field gi di (x:=.int i 0) rfl ?_)
 show wpAny _ _ (seqItems? (.ref t) >>= _) _ _ s
 refine wpAny_bind (wpAny_seqItems gt dt ?_)
 simp only [Int.toNat_natCast,hx]
 refine wpAny_bind (wpAny_setField gi di (by simp) (wpAny_pure ⟨x,rfl,wpAny_pure (hQ _ ?_ (Heap.SameBut.update ..))⟩))
 exact ⟨_,Heap.get?_update_self _ gi (Obj.isFreed_of_fields (Obj.data_mapFields di _)),(Obj.cls_mapFields ..).trans ci,by rw [Obj.data_mapFields di]; simp [rawInt]⟩
theorem aU4 {it t:Addr} {i:Nat} {items:Array Value} {Q:Value → Shared → Prop} (hh:A.handled = none) (hit:s.heap.IsTupleIter it t i) (ht:s.heap.IsTuple t items) (hx:items[i]? = none)
  (hE:∀ h' e,Heap.ExtBut it s.heap h' → (∃ o,h'.get? e = some o ∧ o.cls = .type "StopIteration") → E (.ref e) { s with heap:=h' }):wpAny (model prog w) A (Builtin.SmallTypes.nextOf (.ref it)) Q E s:=by
 obtain ⟨oi,gi,ci,di⟩:=id hit
 obtain ⟨ot,gt,_,nt,dt⟩:=ht
 unfold Builtin.SmallTypes.nextOf
 refine wpAny_bind (wpAny_callSpecial?_slot (name:=Str.ofString "__next__") hit.typeIs F.slot_tuple_iterator_next (wpAny_call_entry F.slot_tuple_iterator_next hit.typeIs F.entry_tuple_iterator_next ?_ (F.args_tuple_iterator_next_1 _)))
 show wpAny _ _ (field (.ref it) 0 >>= _) _ _ s
 refine wpAny_bind (wpAny_field gi di (x:=.ref t) rfl ?_)
 show wpAny _ _ (if (Value.ref t == Value.none) = true then _ else _) _ _ s
 rw [if_neg (show ¬ ((Value.ref t == Value.none) = true) from Bool.false_ne_true)]
 show wpAny _ _ (field (.ref it) 1 >>= _) _ _ s
 refine wpAny_bind (wpAny_field gi di (x:=.int i 0) rfl ?_)
 show wpAny _ _ (seqItems? (.ref t) >>= _) _ _ s
 refine wpAny_bind (wpAny_seqItems gt dt ?_)
 simp only [Int.toNat_natCast,hx]
 refine wpAny_bind (wpAny_rule (wpAny_bind (wpAny_setField gi di (by simp) ?_)))
 show wpAny _ _ (newExc (.type "StopIteration") [] >>= _) _ _ _
 refine wpAny_bind ?_
 simp only [newExc,newTuple]
 refine wpAny_bind (wpAny_newObj_type ?_ (by size_fits))
 refine wpAny_bind (m:=firstArgMember _ _) (wpAny_of_eq (a:=Value.none) (by first | rfl | (simp only [firstArgMember]; rfl)) ?_)
 refine wpAny_newObj_type ?_ (by size_fits)
 simp only [raiseNew]
 refine wpAny_bind (wpAny_handled ?_)
 first | rw [show A.in1.handled = none from hh] | rw [hh]
 refine wpAny_bind (wpAny_pure (wpAny_throw ?_))
 exact hE _ _ (((Heap.SameBut.update ..).extBut.push _).push _) ⟨_,Heap.get?_push_size _ rfl,rfl⟩
theorem am4 {b:Bool} {it l:Addr} {i:Nat} {items:Array Value} {x:Value} {Q:Value → Shared → Prop} (hit:B4 b s.heap it l i) (hl:D7 b s.heap l items) (hx:items[i]? = some x)
  (hQ:∀ h',B4 b h' it l (i + 1) → Heap.SameBut it s.heap h' → Q x { s with heap:=h' }):wpAny (model prog w) A (Builtin.SmallTypes.nextOf (.ref it)) Q E s:=by
 cases b with
 | true=>exact aU6 hit hl hx hQ
 | false=>exact wpAny_nextOf_list_item hit hl hx hQ
theorem aD3 {b:Bool} {it l:Addr} {i:Nat} {items:Array Value} {Q:Value → Shared → Prop} (hh:A.handled = none) (hit:B4 b s.heap it l i) (hl:D7 b s.heap l items) (hx:items[i]? = none)
  (hE:∀ h' e,Heap.ExtBut it s.heap h' → (∃ o,h'.get? e = some o ∧ o.cls = .type "StopIteration") → E (.ref e) { s with heap:=h' }):wpAny (model prog w) A (Builtin.SmallTypes.nextOf (.ref it)) Q E s:=by
 cases b with
 | true=>exact aU4 hh hit hl hx hE
 | false=>exact wpAny_nextOf_list_end hh hit hl hx hE
structure ZAp (z t o i j l m:Addr):Prop where
 tz:t ≠ z
 oz:o ≠ z
 iz:i ≠ z
 jz:j ≠ z
 ot:o ≠ t
 it:i ≠ t
 jt:j ≠ t
 io:i ≠ o
 jo:j ≠ o
 ij:i ≠ j
 lz:l ≠ z
 lo:l ≠ o
 li:l ≠ i
 lj:l ≠ j
 mz:m ≠ z
 mo:m ≠ o
 mi:m ≠ i
 mj:m ≠ j
theorem aR0 {b:Bool} {z t o i j l m:Addr} {n:Nat} {xs ys:Array Value} {x y c d:Value} {Q:Option Value → Shared → Prop} (D:ZAp z t o i j l m) (hz:IsZip s.heap z t o .none) (ht:IsPair s.heap t (.ref i) (.ref j)) (ho:IsPair s.heap o c d)
  (hi:B4 b s.heap i l n) (hj:B4 b s.heap j m n) (hl:D7 b s.heap l xs) (hm:D7 b s.heap m ys) (hx:xs[n]? = some x) (hy:ys[n]? = some y)
  (hQ:∀ h',IsZip h' z t o (rawInt s.heap.objs.size) → IsPair h' o x y → B4 b h' i l (n + 1) → B4 b h' j m (n + 1) → IsPair h' s.heap.objs.size x y → h'.objs.size = s.heap.objs.size + 1 →
   (∀ a u,a ≠ z → a ≠ o → a ≠ i → a ≠ j → s.heap.get? a = some u → h'.get? a = some u) → Q (some (.ref s.heap.objs.size)) { s with heap:=h' }):wpAny (model prog w) A (pyNext (.ref z)) Q E s:=by
 have hT:s.TypeIs (.ref z) "zip":=⟨_,hz,rfl⟩
 unfold pyNext
 refine wpAny_bind (wpAny_attempt (wpAny_callSpecial?_slot (name:=Str.ofString "__next__") hT F.slot_zip_next (wpAny_call_entry F.slot_zip_next hT F.entry_zip_next ?_ (F.args_zip_next_1 _))))
 show wpAny _ _ (field (.ref z) 2 >>= _) _ _ _
 refine wpAny_bind (wpAny_field hz rfl (x:=.bool false) rfl ?_)
 show wpAny _ _ (field (.ref z) 3 >>= _) _ _ _
 refine wpAny_bind (wpAny_field hz rfl (x:=.ref t) rfl ?_)
 refine wpAny_bind (wpAny_seqItems ht rfl ?_)
 show wpAny _ _ (Builtin.SmallTypes.ownedTupleIsFree (.ref z) >>= _) _ _ _
 refine wpAny_bind ?_
 unfold Builtin.SmallTypes.ownedTupleIsFree
 refine wpAny_bind (wpAny_field hz rfl (x:=.none) rfl (wpAny_pure ?_))
 simp only [if_true]
 refine wpAny_bind (wpAny_rule ?_)
 refine wpAny_bind (wpAny_field hz rfl (x:=.ref o) rfl ?_)
 refine wpAny_bind (wpAny_setField_rec hz (by simp) fun h1 z1 s1=>?_)
 replace z1:IsZip h1 z t o .ellipsis:=z1
 refine wpAny_bind ?_
 simp only [List.zipIdx_cons,List.zipIdx_nil,List.forIn_cons,List.forIn_nil]
 refine wpAny_bind (wpAny_bind (wpAny_onRaise ?_))
 show wpAny _ _ (Builtin.SmallTypes.nextOf (.ref i) >>= _) _ _ _
 refine wpAny_bind (am4 (s:={ s with heap:=h1 }) (hi.kept fun u e=>s1.extBut _ u D.iz e) (hl.kept fun u e=>s1.extBut _ u D.lz e) hx fun h2 i2 s2=>wpAny_pure ?_)
 have o2:IsPair h2 o c d:=s2.extBut _ _ (Ne.symm D.io) (s1.extBut _ _ D.oz ho)
 refine wpAny_bind (wpAny_seqItems o2 rfl ?_)
 refine wpAny_bind (wpAny_updateSeq_pair o2 fun h3 o3 s3=>?_)
 replace o3:IsPair h3 o x d:=o3
 refine wpAny_bind (wpAny_letGo (wpAny_pure ?_))
 refine wpAny_bind (wpAny_bind (wpAny_onRaise ?_))
 show wpAny _ _ (Builtin.SmallTypes.nextOf (.ref j) >>= _) _ _ _
 refine wpAny_bind (am4 (s:={ s with heap:=h3 }) (hj.kept fun u e=>s3.extBut _ u D.jo (s2.extBut _ u (Ne.symm D.ij) (s1.extBut _ u D.jz e))) (hm.kept fun u e=>s3.extBut _ u D.mo (s2.extBut _ u D.mi (s1.extBut _ u D.mz e))) hy fun h4 j4 s4=>wpAny_pure ?_)
 have o4:IsPair h4 o x d:=s4.extBut _ _ (Ne.symm D.jo) o3
 refine wpAny_bind (wpAny_seqItems o4 rfl ?_)
 refine wpAny_bind (wpAny_updateSeq_pair o4 fun h5 o5 s5=>?_)
 replace o5:IsPair h5 o x y:=o5
 refine wpAny_bind (wpAny_letGo (wpAny_pure (wpAny_pure ?_)))
 refine wpAny_bind (wpAny_seqItems o5 rfl ?_)
 refine wpAny_bind (wpAny_newTuple ?_)
 have hsz:h5.objs.size = s.heap.objs.size:=by rw [s5.1,s4.1,s3.1,s2.1,s1.1]
 have z5:IsZip h5 z t o .ellipsis:=s5.extBut _ _ (Ne.symm D.oz) (s4.extBut _ _ (Ne.symm D.jz) (s3.extBut _ _ (Ne.symm D.oz) (s2.extBut _ _ (Ne.symm D.iz) z1)))
 have k5:∀ a u,a ≠ z → a ≠ o → a ≠ i → a ≠ j → s.heap.get? a = some u → h5.get? a = some u:=fun a u a1 a2 a3 a4 e=>s5.extBut _ _ a2 (s4.extBut _ _ a4 (s3.extBut _ _ a2 (s2.extBut _ _ a3 (s1.extBut _ _ a1 e))))
 have i5:B4 b h5 i l (n + 1):=i2.kept fun u e=>s5.extBut _ u D.io (s4.extBut _ u D.ij (s3.extBut _ u D.io e))
 have j5:B4 b h5 j m (n + 1):=j4.kept fun u e=>s5.extBut _ u D.jo e
 have hzlt:z < h5.objs.size:=Heap.lt_size z5
 show wpAny _ _ (Builtin.SmallTypes.ownedTupleHandOut (.ref z) (.ref h5.objs.size) >>= _) _ _ _
 refine wpAny_bind ?_
 unfold Builtin.SmallTypes.ownedTupleHandOut
 have z6:IsZip (h5.push { cls:=.type "tuple",data:=.seq #[x,y] }) z t o .ellipsis:=Heap.get?_push_of_some _ z5
 refine wpAny_bind (wpAny_setField_rec z6 (by simp) fun h7 z7 s7=>?_)
 replace z7:IsZip h7 z t o (rawInt h5.objs.size):=z7
 refine wpAny_setField_rec z7 (by simp) fun h8 z8 s8=>?_
 replace z8:IsZip h8 z t o (rawInt h5.objs.size):=z8
 have up:∀ a u,a ≠ z → h5.get? a = some u → h8.get? a = some u:=fun a u a1 e=>s8.extBut _ _ a1 (s7.extBut _ _ a1 (Heap.get?_push_of_some _ e))
 have t8:IsPair h8 h5.objs.size x y:=s8.extBut _ _ (Nat.ne_of_gt hzlt) (s7.extBut _ _ (Nat.ne_of_gt hzlt) (Heap.get?_push_size _ rfl))
 have n8:h8.objs.size = h5.objs.size + 1:=by rw [s8.1,s7.1,Heap.size_push]
 rw [hsz] at z8 t8 n8
 refine wpAny_pure ⟨_,rfl,wpAny_pure ?_⟩
 show Q (some (.ref h5.objs.size)) _
 rw [hsz]
 exact hQ h8 z8 (up _ _ D.oz o5) (i5.kept fun u e=>up _ u D.iz e) (j5.kept fun u e=>up _ u D.jz e) t8 n8 fun a u a1 a2 a3 a4 e=>up a u a1 (k5 a u a1 a2 a3 a4 e)
theorem aT9 {b:Bool} {z t o i j l m:Addr} {n:Nat} {xs ys:Array Value} {c d:Value} {Q:Option Value → Shared → Prop} (hh:A.handled = none) (D:ZAp z t o i j l m) (hz:IsZip s.heap z t o .none) (ht:IsPair s.heap t (.ref i) (.ref j)) (ho:IsPair s.heap o c d)
  (hi:B4 b s.heap i l n) (hj:B4 b s.heap j m n) (hl:D7 b s.heap l xs) (hm:D7 b s.heap m ys) (hend:xs[n]? = none ∨ ys[n]? = none)
  (hQ:∀ h',(∀ a u,a ≠ z → a ≠ o → a ≠ i → a ≠ j → s.heap.get? a = some u → h'.get? a = some u) → Q none { s with heap:=h' }):wpAny (model prog w) A (pyNext (.ref z)) Q E s:=by
 have hT:s.TypeIs (.ref z) "zip":=⟨_,hz,rfl⟩
 unfold pyNext
 have fin:∀ (h':Heap) (e:Addr),(∀ a u,a ≠ z → a ≠ o → a ≠ i → a ≠ j → s.heap.get? a = some u → h'.get? a = some u) → (∃ u,h'.get? e = some u ∧ u.cls = .type "StopIteration") →
   wpAny (model prog w) A (do if ← isInstance (.ref e) (.type "StopIteration") then pure none else throw (.ref e)) Q E { s with heap:=h' }:=fun h' e kk ⟨u,hu,hc⟩=>by
  refine wpAny_bind (wpAny_isInstance (T:="StopIteration") (b:=true) ⟨u,hu,hc⟩ isSubtype_stop ?_)
  exact wpAny_pure (hQ _ kk)
 refine wpAny_bind (wpAny_attempt (wpAny_callSpecial?_slot (name:=Str.ofString "__next__") hT F.slot_zip_next (wpAny_call_entry F.slot_zip_next hT F.entry_zip_next ?_ (F.args_zip_next_1 _))))
 show wpAny _ _ (field (.ref z) 2 >>= _) _ _ _
 refine wpAny_bind (wpAny_field hz rfl (x:=.bool false) rfl ?_)
 show wpAny _ _ (field (.ref z) 3 >>= _) _ _ _
 refine wpAny_bind (wpAny_field hz rfl (x:=.ref t) rfl ?_)
 refine wpAny_bind (wpAny_seqItems ht rfl ?_)
 show wpAny _ _ (Builtin.SmallTypes.ownedTupleIsFree (.ref z) >>= _) _ _ _
 refine wpAny_bind ?_
 unfold Builtin.SmallTypes.ownedTupleIsFree
 refine wpAny_bind (wpAny_field hz rfl (x:=.none) rfl (wpAny_pure ?_))
 simp only [if_true]
 refine wpAny_bind (wpAny_rule ?_)
 refine wpAny_bind (wpAny_field hz rfl (x:=.ref o) rfl ?_)
 refine wpAny_bind (wpAny_setField_rec hz (by simp) fun h1 z1 s1=>?_)
 replace z1:IsZip h1 z t o .ellipsis:=z1
 refine wpAny_bind ?_
 simp only [List.zipIdx_cons,List.zipIdx_nil,List.forIn_cons,List.forIn_nil]
 refine wpAny_bind (wpAny_bind (wpAny_onRaise ?_))
 show wpAny _ _ (Builtin.SmallTypes.nextOf (.ref i) >>= _) _ _ _
 cases hx:xs[n]? with
 | none =>
  refine wpAny_bind (aD3 (s:={ s with heap:=h1 }) hh (hi.kept fun u e=>s1.extBut _ u D.iz e) (hl.kept fun u e=>s1.extBut _ u D.lz e) hx fun h2 e s2 he=>?_)
  obtain ⟨oe,hoe,hce⟩:=he
  have z2:IsZip h2 z t o .ellipsis:=s2 _ _ (Ne.symm D.iz) z1
  have hez:e ≠ z:=fun q=>by subst q; rw [z2] at hoe; cases hoe; simp at hce
  refine wpAny_setField_rec z2 (by simp) fun h3 _ s3=>?_
  exact fin h3 e (fun a u a1 _ a3 _ q=>s3.extBut _ _ a1 (s2 _ _ a3 (s1.extBut _ _ a1 q))) ⟨oe,s3.extBut _ _ hez hoe,hce⟩
 | some x =>
  have hy:ys[n]? = none:=by
   rcases hend with q | q
   ·rw [hx] at q; cases q
   ·exact q
  refine wpAny_bind (am4 (s:={ s with heap:=h1 }) (hi.kept fun u e=>s1.extBut _ u D.iz e) (hl.kept fun u e=>s1.extBut _ u D.lz e) hx fun h2 i2 s2=>wpAny_pure ?_)
  have o2:IsPair h2 o c d:=s2.extBut _ _ (Ne.symm D.io) (s1.extBut _ _ D.oz ho)
  refine wpAny_bind (wpAny_seqItems o2 rfl ?_)
  refine wpAny_bind (wpAny_updateSeq_pair o2 fun h3 o3 s3=>?_)
  refine wpAny_bind (wpAny_letGo (wpAny_pure ?_))
  refine wpAny_bind (wpAny_bind (wpAny_onRaise ?_))
  show wpAny _ _ (Builtin.SmallTypes.nextOf (.ref j) >>= _) _ _ _
  refine wpAny_bind (aD3 (s:={ s with heap:=h3 }) hh (hj.kept fun u e=>s3.extBut _ u D.jo (s2.extBut _ u (Ne.symm D.ij) (s1.extBut _ u D.jz e))) (hm.kept fun u e=>s3.extBut _ u D.mo (s2.extBut _ u D.mi (s1.extBut _ u D.mz e))) hy fun h4 e s4 he=>?_)
  obtain ⟨oe,hoe,hce⟩:=he
  have z4:IsZip h4 z t o .ellipsis:=s4 _ _ (Ne.symm D.jz) (s3.extBut _ _ (Ne.symm D.oz) (s2.extBut _ _ (Ne.symm D.iz) z1))
  have hez:e ≠ z:=fun q=>by subst q; rw [z4] at hoe; cases hoe; simp at hce
  refine wpAny_setField_rec z4 (by simp) fun h5 _ s5=>?_
  exact fin h5 e (fun a u a1 a2 a3 a4 q=>s5.extBut _ _ a1 (s4 _ _ a4 (s3.extBut _ _ a2 (s2.extBut _ _ a3 (s1.extBut _ _ a1 q))))) ⟨oe,s5.extBut _ _ hez hoe,hce⟩
end
section
variable {prog:Program} {w:World} {A:Around} {E:Value → Shared → Prop} {s:Shared}
abbrev Q3 (b:Bool) (l:Addr):Obj:={ cls:=.type (if b then "tuple_iterator" else "list_iterator"),data:=.fields #[.ref l,.int 0 0] }
theorem ab8 {b:Bool} {l:Addr} {items:Array Value} {Q:Value → Shared → Prop} (hl:D7 b s.heap l items) (hQ:Q (.ref s.heap.objs.size) { s with heap:=s.heap.push (Q3 b l) }):wpAny (model prog w) A (pyIter (.ref l)) Q E s:=by
 cases b with
 | true=>exact wpAny_pyIter_tuple hl hQ
 | false=>exact wpAny_pyIter_list hl hQ
abbrev zH1 (b:Bool) (h:Heap) (l:Addr):Heap:=h.push (Q3 b l)
abbrev zH2 (b:Bool) (h:Heap) (l m:Addr):Heap:=(zH1 b h l).push (Q3 b m)
abbrev zH3 (b:Bool) (h:Heap) (l m:Addr):Heap:=(zH2 b h l m).push { cls:=.type "tuple",data:=.seq #[.ref h.objs.size,.ref (zH1 b h l).objs.size] }
abbrev zH4 (b:Bool) (h:Heap) (l m:Addr):Heap:=(zH3 b h l m).push { cls:=.type "tuple",data:=.seq #[.none,.none] }
abbrev zH5 (b:Bool) (h:Heap) (l m:Addr):Heap:=(zH4 b h l m).push { cls:=.type "zip",data:=.fields #[.none,.bool false,.bool false,.ref (zH2 b h l m).objs.size,.ref (zH3 b h l m).objs.size] }
theorem aN7 (b:Bool) (l m:Addr) (xs ys:Array Value):Meets (Builtin.«zip.__new__» ⟨[.type "zip",.ref l,.ref m],[]⟩) (fun _ R s=>D7 b s.heap l xs ∧ D7 b s.heap m ys ∧ R (.ok (.ret (.ref (zH4 b s.heap l m).objs.size))) { s with heap:=zH5 b s.heap l m }) :=
 .of_wp fun prog w A R s h=>by
  obtain ⟨hp,g,d,tk,os⟩:=s; obtain ⟨hl,hm,h⟩:=h
  have hsub:=sub_zip
  have hL:D7 b (Shared.heap ⟨hp,g,d,tk,os⟩) l xs:=hl
  have hM:D7 b (Shared.heap ⟨hp.push (Q3 b l),g,d,tk,os⟩) m ys:=hm.kept fun o e=>Heap.get?_push_of_some _ e
  wp_walk using ab8 hL,ab8 hM
  exact ⟨_,rfl,h⟩
theorem ae7 {b:Bool} {l m:Addr} {xs ys:Array Value} {Q:Value → Shared → Prop} (hl:D7 b s.heap l xs) (hm:D7 b s.heap m ys)
  (h:∀ h',IsZip h' (s.heap.objs.size + 4) (s.heap.objs.size + 2) (s.heap.objs.size + 3) .none → IsPair h' (s.heap.objs.size + 2) (.ref s.heap.objs.size) (.ref (s.heap.objs.size + 1)) → IsPair h' (s.heap.objs.size + 3) .none .none →
   B4 b h' s.heap.objs.size l 0 → B4 b h' (s.heap.objs.size + 1) m 0 → (∀ c o,s.heap.get? c = some o → h'.get? c = some o) → Q (.ref (s.heap.objs.size + 4)) { s with heap:=h' }) :
  wpAny (model prog w) A (call (.type "zip") [.ref l,.ref m]) Q E s:=by
 refine callType_new F.called_zip (by decide) (F.typeCall_zip_2 _ _) (F.newCall_zip_2 _ _) (fun obj=>F.args_object_init_3 obj _ _) F.entry_zip_new (aN7 b l m xs ys) ⟨hl,hm,?_⟩
 have z1:(zH1 b s.heap l).objs.size = s.heap.objs.size + 1:=Heap.size_push ..
 have z2:(zH2 b s.heap l m).objs.size = s.heap.objs.size + 2:=by rw [Heap.size_push,z1]
 have z3:(zH3 b s.heap l m).objs.size = s.heap.objs.size + 3:=by rw [Heap.size_push,z2]
 have z4:(zH4 b s.heap l m).objs.size = s.heap.objs.size + 4:=by rw [Heap.size_push,z3]
 have g5:(zH5 b s.heap l m).get? (zH4 b s.heap l m).objs.size = some _:=Heap.get?_push_size _ rfl
 have g4:(zH5 b s.heap l m).get? (zH3 b s.heap l m).objs.size = some _:=Heap.get?_push_of_some _ (Heap.get?_push_size _ rfl)
 have g3:(zH5 b s.heap l m).get? (zH2 b s.heap l m).objs.size = some _:=Heap.get?_push_of_some _ (Heap.get?_push_of_some _ (Heap.get?_push_size _ rfl))
 have g2:(zH5 b s.heap l m).get? (zH1 b s.heap l).objs.size = some (Q3 b m):=Heap.get?_push_of_some _ (Heap.get?_push_of_some _ (Heap.get?_push_of_some _ (Heap.get?_push_size _ rfl)))
 have g1:(zH5 b s.heap l m).get? s.heap.objs.size = some (Q3 b l):=Heap.get?_push_of_some _ (Heap.get?_push_of_some _ (Heap.get?_push_of_some _ (Heap.get?_push_of_some _ (Heap.get?_push_size _ rfl))))
 show _ ∧ _
 rw [z2,z3,z4] at g5
 rw [z1,z2] at g3
 rw [z3] at g4
 rw [z1] at g2
 rw [z4]
 have r1:B4 b (zH5 b s.heap l m) s.heap.objs.size l 0:=by cases b <;> exact ⟨_,g1,rfl,rfl⟩
 have r2:B4 b (zH5 b s.heap l m) (s.heap.objs.size + 1) m 0:=by cases b <;> exact ⟨_,g2,rfl,rfl⟩
 exact ⟨⟨_,g5,rfl⟩,h _ g5 g3 g4 r1 r2 fun c o x=>Heap.get?_push_of_some _ (Heap.get?_push_of_some _ (Heap.get?_push_of_some _ (Heap.get?_push_of_some _ (Heap.get?_push_of_some _ x))))⟩
end
def Sq (b:Bool) (K:PySem.W.Frag) (H:Hp) (a:Addr) (xs:List V):Prop:=match b with
 | true=>SqT K H a xs
 | false=>SqL K H a xs
section
variable {X:Cx} {pins:List (Addr × Obj)} {σ:St} {H:Hp} {s:Shared} {b:Bool} {a:Addr} {xs ys:List V}
theorem Inv.row (I:Inv X pins σ H s) (h:Sq b X.K H a xs):∃ its:List Value,j9 xs its ∧ D7 b s.heap a its.toArray ∧ xs.length ≤ sizeLine:=by
 cases b with
 | true =>
  obtain ⟨its,r,p,z⟩:=I.tuple h
  exact ⟨its,r,p,z⟩
 | false =>
  obtain ⟨its,r,p,z⟩:=I.list h
  exact ⟨its,r,p.isList,z⟩
theorem Inv.row_inj (I:Inv X pins σ H s) (h:Sq b X.K H a xs) (h':Sq b X.K H a ys):xs = ys:=by
 cases b with
 | true=>exact I.tuple_inj h h'
 | false=>exact I.list_inj h h'
end
theorem Sq.there {b:Bool} {h:Heap} {l:Addr} {xs:Array Value} (x:D7 b h l xs):l < h.objs.size:=by
 cases b with
 | true=>obtain ⟨o,e,_⟩:=(show h.IsTuple l xs from x); exact Heap.lt_size e
 | false=>obtain ⟨o,e,_⟩:=(show h.IsList l xs from x); exact Heap.lt_size e
def Itz (b:Bool) (K:PySem.W.Frag) (l m:Addr):It :=
  ⟨fun i H=>∃ xs ys x y,Sq b K H l xs ∧ Sq b K H m ys ∧ xs[i]? = some x ∧ ys[i]? = some y,
   fun i H v H'=>∃ p x y,H p = none ∧ v = .ref p ∧ H' = upd H p (.tup [x,y]) ∧ (∀ xs,Sq b K H l xs → xs[i]? = some x) ∧ ∀ ys,Sq b K H m ys → ys[i]? = some y,
   fun i H=>∃ xs ys,Sq b K H l xs ∧ Sq b K H m ys ∧ (xs.length ≤ i ∨ ys.length ≤ i)⟩
theorem aN6 {P:Program} {w:World} {K:PySem.W.Frag} {es:List Expr} {kk:Nat} {pos:Pos} {b:Bool} {z t o i j l m:Addr} (D:ZAp z t o i j l m) :
  Turn P w K (.Tuple es kk pos) (Itz b K l m) [z,t,o,i,j] z (fun n h=>IsZip h z t o .none ∧ IsPair h t (.ref i) (.ref j) ∧ (∃ c d,IsPair h o c d) ∧ B4 b h i l n ∧ B4 b h j m n) where
 mem:=by simp
 obj:=fun n h ⟨hz,ht,⟨c,d,ho⟩,hi,hj⟩ a ha=>by
  simp only [List.mem_cons,List.not_mem_nil,or_false] at ha
  rcases ha with rfl | rfl | rfl | rfl | rfl
  ·exact ⟨_,hz,fun v q=>nomatch q⟩
  ·exact ⟨_,ht,fun v q=>nomatch q⟩
  ·exact ⟨_,ho,fun v q=>nomatch q⟩
  ·exact hi.there
  ·exact hj.there
 keep:=fun n h h' ⟨hz,ht,⟨c,d,ho⟩,hi,hj⟩ k=>⟨k z (by simp) _ hz,k t (by simp) _ ht,⟨c,d,k o (by simp) _ ho⟩,hi.kept fun u e=>k i (by simp) u e,hj.kept fun u e=>k j (by simp) u e⟩
 item:=by
  intro X hP hw hK hc n pins s σ H E I hf ⟨hz,ht,⟨c,d,ho⟩,hi,hj⟩ hg
  subst hP hw hK
  obtain ⟨xs,ys,x,y,hl,hm,hx,hy⟩:=hg
  obtain ⟨us,ru,hl',hzl⟩:=I.row hl
  obtain ⟨vs,rv,hm',hzm⟩:=I.row hm
  obtain ⟨u,hu,r1⟩:=ru.get hx
  obtain ⟨v,hv,r2⟩:=rv.get hy
  refine aR0 D hz ht ho hi hj hl' hm' (x:=u) (y:=v) (by simpa using hu) (by simpa using hv) fun h' z' o' i' j' t' n' kp=>⟨_,rfl,?_⟩
  refine wpAny_letOwnedTupleGo_zip (s:={ s with heap:=h' }) z' fun h'' z'' sb=>?_
  have fresh:H s.heap.objs.size = none:=I.hok.fresh (Nat.le_refl _)
  have kp2:∀ a q,a ≠ z → a ≠ o → a ≠ i → a ≠ j → s.heap.get? a = some q → h''.get? a = some q:=fun a q a1 a2 a3 a4 e=>sb.extBut _ _ a1 (kp a q a1 a2 a3 a4 e)
  have hT:s.heap.objs.size ≠ z:=Nat.ne_of_gt (Heap.lt_size hz)
  have pT:IsPair h'' s.heap.objs.size u v:=sb.extBut _ _ hT t'
  have notin:∀ a,a ∉ [z,o,i,j] → a ≠ z ∧ a ≠ o ∧ a ≠ i ∧ a ≠ j:=fun a ha=>by simpa using ha
  have fpn:∀ a ∈ [z,o,i,j],H a = none:=fun a ha=>by
   simp only [List.mem_cons,List.not_mem_nil,or_false] at ha
   rcases ha with rfl | rfl | rfl | rfl
   ·exact (hf _ (by simp)).1
   ·exact (hf _ (by simp)).1
   ·exact (hf _ (by simp)).1
   ·exact (hf _ (by simp)).1
  have trk:∀ a q,H a = some q → a ∉ [z,o,i,j]:=fun a q e ha=>by rw [fpn a ha] at e; cases e
  have hok:HOk X.prog X.w (upd H s.heap.objs.size (.tup [x,y])) h'':=fun a q e=>by
   by_cases ha:a = s.heap.objs.size
   ·subst ha
    rw [b9] at e
    cases e
    exact ⟨by show 2 ≤ sizeLine; decide,[u,v],.cons r1 (.cons r2 .nil),⟨_,pT,rfl,_,rfl⟩⟩
   ·rw [d9 ha] at e
    refine (I.hok a q e).stay (fun a' q' h1 h2=>?_) (fun a' q'=>by rw [d9 (g9 q' fresh)]; exact q') fun a' xs' q'=>by rw [d9 (g9 q' fresh)]; exact q'
    have ni:a' ∉ [z,o,i,j]:=by
     rcases h1 with rfl | h1
     ·exact trk _ _ e
     ·exact trk _ _ h1
    obtain ⟨n1,n2,n3,n4⟩:=notin a' ni
    exact kp2 a' q' n1 n2 n3 n4 h2
  have J:Inv X pins σ (upd H s.heap.objs.size (.tup [x,y])) { s with heap:=h'' }:=by
   refine I.step (g':=s.gens) (d':=s.drawn) (t':=s.toks) (ch:=[z,o,i,j]) (fun a ha=>?_) (fun a q _ _ hc' e _=>?_) (fun a q _ _ hc' e _=>?_) (fun a q _ e n2=>?_) (fun a q hc' e=>?_) (fun a xs' e=>?_) (fun a q u' e=>?_) (fun a ps e=>?_) (fun m' hm''=>?_) hok I.bare
   ·have ha':a ∈ [z,t,o,i,j]:=by
     simp only [List.mem_cons,List.not_mem_nil,or_false] at ha ⊢
     rcases ha with q | q | q | q
     ·exact .inl q
     ·exact .inr (.inr (.inl q))
     ·exact .inr (.inr (.inr (.inl q)))
     ·exact .inr (.inr (.inr (.inr q)))
    obtain ⟨_,f1,_,f3,f4,f5⟩:=hf a ha'
    exact ⟨f3,f1,f4,f5⟩
   ·obtain ⟨n1,n2,n3,n4⟩:=notin a hc'
    exact kp2 a q n1 n2 n3 n4 e
   ·obtain ⟨n1,n2,n3,n4⟩:=notin a hc'
    exact ⟨q.slots,kp2 a q n1 n2 n3 n4 e⟩
   ·rw [d9 (Nat.ne_of_lt (Heap.lt_size e))]
    exact n2
   ·obtain ⟨n1,n2,n3,n4⟩:=notin a hc'
    exact ⟨q,kp2 a q n1 n2 n3 n4 e⟩
   ·rw [d9 (g9 e fresh)]
    exact e
   ·rw [d9 (g9 e fresh)]
    exact e
   ·exact ⟨#[],by rw [d9 (g9 e fresh),e]; simp⟩
   ·obtain ⟨ob,es',ep,e1,r⟩:=hm''
    have f1:∀ a' ∈ [z,t,o,i,j],a' ≠ X.env.locals:=fun a' ha'=>(hf a' ha').2.1
    exact ⟨ob,es',ep,kp2 _ _ (Ne.symm (f1 z (by simp))) (Ne.symm (f1 o (by simp))) (Ne.symm (f1 i (by simp))) (Ne.symm (f1 j (by simp))) e1,r⟩
  refine ⟨.ref s.heap.objs.size,_,J,rfl,⟨s.heap.objs.size,x,y,fresh,rfl,rfl,fun xs' q=>?_,fun ys' q=>?_⟩,⟨z'',?_,⟨_,_,sb.extBut _ _ D.oz o'⟩,i'.kept fun q e=>sb.extBut _ q D.iz e,j'.kept fun q e=>sb.extBut _ q D.jz e⟩,fun a ha=>?_⟩
  ·rw [I.row_inj q hl]; exact hx
  ·rw [I.row_inj q hm]; exact hy
  ·exact kp2 t _ D.tz (Ne.symm D.ot) (Ne.symm D.it) (Ne.symm D.jt) ht
  ·have:a ≠ s.heap.objs.size:=by
    simp only [List.mem_cons,List.not_mem_nil,or_false] at ha
    rcases ha with rfl | rfl | rfl | rfl | rfl
    ·exact Ne.symm hT
    ·exact Nat.ne_of_lt (Heap.lt_size ht)
    ·exact Nat.ne_of_lt (Heap.lt_size ho)
    ·obtain ⟨q,e,_⟩:=hi.there; exact Nat.ne_of_lt (Heap.lt_size e)
    ·obtain ⟨q,e,_⟩:=hj.there; exact Nat.ne_of_lt (Heap.lt_size e)
   rw [d9 this]
   exact (hf a ha).1
 done:=by
  intro X hP hw hK hc n pins s σ H E I hf ⟨hz,ht,⟨c,d,ho⟩,hi,hj⟩ hg
  subst hP hw hK
  obtain ⟨xs,ys,hl,hm,hend⟩:=hg
  obtain ⟨us,ru,hl',hzl⟩:=I.row hl
  obtain ⟨vs,rv,hm',hzm⟩:=I.row hm
  have e1:=ru.length
  have e2:=rv.length
  have hend':us.toArray[n]? = none ∨ vs.toArray[n]? = none:=by
   rcases hend with q | q
   ·exact .inl (by simp; lia)
   ·exact .inr (by simp; lia)
  refine aT9 (I.ok.hd hc) D hz ht ho hi hj hl' hm' hend' fun h' kp=>⟨rfl,?_⟩
  have notin:∀ a,a ∉ [z,o,i,j] → a ≠ z ∧ a ≠ o ∧ a ≠ i ∧ a ≠ j:=fun a ha=>by simpa using ha
  have fpn:∀ a ∈ [z,o,i,j],Z0 X pins H a:=fun a ha=>hf a (by
   simp only [List.mem_cons,List.not_mem_nil,or_false] at ha ⊢
   rcases ha with q | q | q | q
   ·exact .inl q
   ·exact .inr (.inr (.inl q))
   ·exact .inr (.inr (.inr (.inl q)))
   ·exact .inr (.inr (.inr (.inr q))))
  have trk:∀ a q,H a = some q → a ∉ [z,o,i,j]:=fun a q e ha=>by rw [(fpn a ha).1] at e; cases e
  have kp2:∀ a q,a ∉ [z,o,i,j] → s.heap.get? a = some q → h'.get? a = some q:=fun a q ha e=>by
   obtain ⟨n1,n2,n3,n4⟩:=notin a ha
   exact kp a q n1 n2 n3 n4 e
  refine I.step (g':=s.gens) (d':=s.drawn) (t':=s.toks) (ch:=[z,o,i,j]) (fun a ha=>?_) (fun a q _ _ hc' e _=>kp2 a q hc' e) (fun a q _ _ hc' e _=>⟨q.slots,kp2 a q hc' e⟩) (fun a q _ e n2=>n2) (fun a q hc' e=>⟨q,kp2 a q hc' e⟩) (fun a xs' e=>e) (fun a q u' e=>e) (fun a ps e=>⟨#[],by rw [e]; simp⟩) (fun m' hm''=>?_) (fun a q e=>?_) I.bare
  ·obtain ⟨_,f1,_,f3,f4,f5⟩:=fpn a ha
   exact ⟨f3,f1,f4,f5⟩
  ·obtain ⟨ob,es',ep,e1,r⟩:=hm''
   exact ⟨ob,es',ep,kp2 _ _ (fun ha=>(fpn _ ha).2.1 rfl) e1,r⟩
  ·refine (I.hok a q e).stay (fun a' q' h1 h2=>kp2 a' q' ?_ h2) (fun _ q'=>q') fun _ _ q'=>q'
   rcases h1 with rfl | h1
   ·exact trk _ _ e
   ·exact trk _ _ h1
 self:=fun _ _ _ _ _ st h=>wpAny_pyIter_zip st.1 h
section
variable {X:Cx}
def a83 (b:Bool) (K:PySem.W.Frag) (ta:TA):TI:=fun σ H R=>ta σ H fun vs H1=>∃ l m xs ys,vs = [.ref l,.ref m] ∧ Sq b K H1 l xs ∧ Sq b K H1 m ys ∧ R (Itz b K l m) H1
theorem a07 {b:Bool} {es:List Expr} {kk:Nat} {tpos:Pos} {e1 e2:Expr} {ta:TA} {p pos:Pos} (hg:Gl X "zip") (hm:X.mg "zip" = none) (ha:PA X [e1,e2] ta) (hs:starEach [e1,e2] X.env = [(false,eval e1 X.env),(false,eval e2 X.env)]:=by rfl) (hs2:starEach [e2] X.env = [(false,eval e2 X.env)]:=by rfl) :
  PI X (.Tuple es kk tpos) (.Call (.Name "zip" p) [e1,e2] [] pos) (a83 b X.K ta):=by
 intro pins s σ H R I h
 refine Call_ (T7 I hg hm boot_zip (PyProof.Rows.callWith_type1 (thn (ha pos pins s σ H _ I h) fun us s1 ⟨vs,H1,I1,r1,q1⟩=>?_) (by rw [hs,hs2]) (by rw [hs2]; rfl)))
 obtain ⟨l,m,xs,ys,e,hl,hm,q⟩:=q1
 subst e
 obtain ⟨u,u',rfl,ru,ru'⟩:=as5 r1
 cases ru
 cases ru'
 obtain ⟨its,rv,hl',_⟩:=I1.row hl
 obtain ⟨its2,rv2,hm',_⟩:=I1.row hm
 refine ae7 hl' hm' fun h' hz ht ho hi hj kp=>wpAny_pyIter_zip hz ?_
 have ll:=Sq.there hl'
 have lm:=Sq.there hm'
 have N:∀ n,l ≠ s1.heap.objs.size + n:=fun n=>Nat.ne_of_lt (Nat.lt_of_lt_of_le ll (Nat.le_add_right _ n))
 have M:∀ n,m ≠ s1.heap.objs.size + n:=fun n=>Nat.ne_of_lt (Nat.lt_of_lt_of_le lm (Nat.le_add_right _ n))
 have L:∀ n k,n < k → s1.heap.objs.size + n ≠ s1.heap.objs.size + k:=fun n k q=>Nat.ne_of_lt (Nat.add_lt_add_left q _)
 have G:∀ n k,k < n → s1.heap.objs.size + n ≠ s1.heap.objs.size + k:=fun n k q=>Nat.ne_of_gt (Nat.add_lt_add_left q _)
 have D:ZAp (s1.heap.objs.size + 4) (s1.heap.objs.size + 2) (s1.heap.objs.size + 3) s1.heap.objs.size (s1.heap.objs.size + 1) l m :=
  ⟨L 2 4 (by decide),L 3 4 (by decide),L 0 4 (by decide),L 1 4 (by decide),G 3 2 (by decide),L 0 2 (by decide),L 1 2 (by decide),L 0 3 (by decide),L 1 3 (by decide),L 0 1 (by decide),N 4,N 3,N 0,N 1,M 4,M 3,M 0,M 1⟩
 have fr:∀ n,Z0 X pins H1 (s1.heap.objs.size + n):=fun n=>I1.fpOk (Nat.le_add_right _ n) (I1.hok.fresh (Nat.le_add_right _ n))
 refine ⟨s1.heap.objs.size + 4,[s1.heap.objs.size + 4,s1.heap.objs.size + 2,s1.heap.objs.size + 3,s1.heap.objs.size,s1.heap.objs.size + 1],_,_,H1,rfl,I1.kept (t':=s1.toks) kp,aN6 (b:=b) D,⟨hz,ht,⟨_,_,ho⟩,hi,hj⟩,fun a ha=>?_,q⟩
 simp only [List.mem_cons,List.not_mem_nil,or_false] at ha
 rcases ha with rfl | rfl | rfl | rfl | rfl
 ·exact fr 4
 ·exact fr 2
 ·exact fr 3
 ·exact fr 0
 ·exact fr 1
end
theorem aK6 {b:Bool} {K:PySem.W.Frag} {l m:Addr} {xs ys:List V} {g:TG} {tt:TT} {te:TE} {σ₀:St} {H:Hp} {Q:VK} (Pv:Nat → List V → St → Hp → Prop) (h0:Pv 0 [] σ₀ H) (hz:xs.length ≤ sizeLine) (hn:∀ i acc σ H,Pv i acc σ H → acc.length ≤ i)
  (hl:∀ i acc σ H,i ≤ xs.length → i ≤ ys.length → Pv i acc σ H → Sq b K H l xs ∧ Sq b K H m ys)
  (hs:∀ i x y acc σ H p,xs[i]? = some x → ys[i]? = some y → Pv i acc σ H → H p = none → g (.ref p) σ (upd H p (.tup [x,y])) fun σ2 H2=>tt σ2 H2 fun ok H3=>if ok = true then te σ2 H3 fun z H4=>Pv (i + 1) (acc ++ [z]) σ2 H4 else Pv (i + 1) acc σ2 H3)
  (hd:∀ acc σ H,Pv (min xs.length ys.length) acc σ H → ∀ p,H p = none → Q (.ref p) (upd H p (.lst acc))) :
  W7 (Itz b K l m) g tt te Q σ₀ H:=by
 refine ⟨fun i n acc σ H=>n = min xs.length ys.length - i ∧ i ≤ min xs.length ys.length ∧ Pv i acc σ H,⟨min xs.length ys.length,by simp,Nat.zero_le _,h0⟩,?_⟩
 rintro i n acc σ H ⟨rfl,hi,p⟩
 obtain ⟨q1,q2⟩:=hl i acc σ H (by lia) (by lia) p
 have hlen:=hn i acc σ H p
 by_cases hlt:i < min xs.length ys.length
 ·have h1:i < xs.length:=by lia
  have h2:i < ys.length:=by lia
  refine .inr ⟨⟨xs,ys,xs[i],ys[i],q1,q2,by simp [h1],by simp [h2]⟩,by lia,Pv (i + 1),fun acc' σ' H' p'=>⟨min xs.length ys.length - (i + 1),by lia,rfl,hlt,p'⟩,fun v H' y=>?_⟩
  obtain ⟨a,x,y,fr,rfl,rfl,k1,k2⟩:=y
  exact hs i x y acc σ H a (k1 xs q1) (k2 ys q2) p fr
 ·have e:i = min xs.length ys.length:=by lia
  subst e
  refine .inl ⟨⟨xs,ys,q1,q2,?_⟩,by lia,hd acc σ H p⟩
  lia
end L2
namespace L2
open PySem
theorem aN3 (xs:Array Nat) (j:Nat) (mono:xs.toList.Pairwise (· < ·)):∀ fuel lo hi,hi - lo ≤ fuel → lo ≤ hi → hi ≤ xs.size → (∀ i,i < lo → xs.getD i j < j) → (∀ i,hi ≤ i → i < xs.size → j ≤ xs.getD i j) →
  SetTable.below.go xs j fuel lo hi ≤ xs.size ∧ (∀ i,i < SetTable.below.go xs j fuel lo hi → xs.getD i j < j) ∧ ∀ i,SetTable.below.go xs j fuel lo hi ≤ i → i < xs.size → j ≤ xs.getD i j:=by
 have le:∀ a b,a ≤ b → b < xs.size → xs.getD a j ≤ xs.getD b j:=fun a b h hb=>by
  rcases Nat.lt_or_eq_of_le h with h | h
  ·have:=List.pairwise_iff_getElem.mp mono a b (by simp; lia) (by simpa using hb) h
   simp only [Array.getElem_toList] at this
   simp only [Array.getD_eq_getD_getElem?,Array.getElem?_eq_getElem hb,Array.getElem?_eq_getElem (show a < xs.size by lia),Option.getD_some]
   lia
  ·rw [h]; exact Nat.le_refl _
 intro fuel
 induction fuel with
 | zero =>
  intro lo hi h1 h2 h3 h4 h5
  have e:lo = hi:=by lia
  subst e
  exact ⟨h3,h4,h5⟩
 | succ fuel ih =>
  intro lo hi h1 h2 h3 h4 h5
  unfold SetTable.below.go
  by_cases hl:lo < hi
  ·rw [if_pos hl]
   dsimp only
   by_cases hm:xs.getD ((lo + hi) / 2) j < j
   ·rw [if_pos hm]
    refine ih _ _ (by lia) (by lia) h3 (fun i hi'=>?_) h5
    exact Nat.lt_of_le_of_lt (le i ((lo + hi) / 2) (by lia) (by lia)) hm
   ·rw [if_neg hm]
    refine ih _ _ (by lia) (by lia) (by lia) h4 (fun i hi' hs=>?_)
    exact Nat.le_trans (by lia) (le ((lo + hi) / 2) i hi' hs)
  ·rw [if_neg hl]
   have e:lo = hi:=by lia
   subst e
   exact ⟨h3,h4,h5⟩
theorem S4 (xs:Array Nat) (j:Nat) (mono:xs.toList.Pairwise (· < ·)):SetTable.below xs j ≤ xs.size ∧ (∀ i,i < SetTable.below xs j → xs.getD i j < j) ∧ ∀ i,SetTable.below xs j ≤ i → i < xs.size → j ≤ xs.getD i j :=
 aN3 xs j mono xs.size 0 xs.size (by lia) (by lia) (Nat.le_refl _) (fun i h=>absurd h (by lia)) (fun i h h'=>absurd h' (by lia))
theorem al9 (xs:Array Nat) (j:Nat) (mono:xs.toList.Pairwise (· < ·)) (hn:xs[SetTable.below xs j]? ≠ some j):(SetTable.insertAt xs (SetTable.below xs j) j).toList.Pairwise (· < ·):=by
 obtain ⟨h1,h2,h3⟩:=S4 xs j mono
 have e:(SetTable.insertAt xs (SetTable.below xs j) j).toList = xs.toList.take (SetTable.below xs j) ++ j :: xs.toList.drop (SetTable.below xs j):=by
  simp [SetTable.insertAt,List.extract_eq_take_drop,List.take_of_length_le]
 rw [e]
 generalize hp:SetTable.below xs j = p at *
 have gt:∀ i,p ≤ i → (h:i < xs.size) → j < xs[i]:=fun i hi h=>by
  have q:=h3 i hi h
  rw [Array.getD_eq_getD_getElem?,Array.getElem?_eq_getElem h,Option.getD_some] at q
  rcases Nat.lt_or_eq_of_le q with q | q
  ·exact q
  ·exfalso
   have hps:p < xs.size:=by lia
   have q2:=h3 p (Nat.le_refl _) hps
   rw [Array.getD_eq_getD_getElem?,Array.getElem?_eq_getElem hps,Option.getD_some] at q2
   rcases Nat.lt_or_eq_of_le hi with z | z
   ·have:=List.pairwise_iff_getElem.mp mono p i (by simpa using hps) (by simpa using h) z
    simp only [Array.getElem_toList] at this
    lia
   ·subst z
    exact hn (by rw [Array.getElem?_eq_getElem h,← q])
 rw [List.pairwise_append,List.pairwise_cons]
 refine ⟨mono.sublist (List.take_sublist _ _),⟨fun a ha=>?_,mono.sublist (List.drop_sublist _ _)⟩,fun a ha b hb=>?_⟩
 ·obtain ⟨i,hi,rfl⟩:=List.getElem_of_mem ha
  rw [List.getElem_drop]
  rw [List.length_drop,Array.length_toList] at hi
  have:=gt (p + i) (by lia) (by lia)
  simpa using this
 ·obtain ⟨i,hi,rfl⟩:=List.getElem_of_mem ha
  rw [List.length_take,Array.length_toList] at hi
  have q:=h2 i (by lia)
  rw [Array.getD_eq_getD_getElem?,Array.getElem?_eq_getElem (by lia),Option.getD_some] at q
  rw [List.getElem_take]
  rw [Array.getElem_toList]
  rcases List.mem_cons.mp hb with rfl | hb
  ·exact q
  ·obtain ⟨k,hk,rfl⟩:=List.getElem_of_mem hb
   rw [List.getElem_drop]
   rw [List.length_drop,Array.length_toList] at hk
   have:=gt (p + k) (by lia) (by lia)
   rw [Array.getElem_toList]
   lia
structure JT (L:Bool) (t:SetTable):Prop where
 led:t.led = L
 dum:t.dummies = #[]
 mono:t.place.toList.Pairwise (· < ·)
theorem aA9 (j:Nat):SetTable.has #[] j = false:=by simp [SetTable.has]
theorem ax8 (t:SetTable) (j:Nat) (h:t.dummies = #[]):(t.slot j = .empty ∧ t.place[SetTable.below t.place j]? ≠ some j) ∨ ∃ i,t.slot j = .live i:=by
 unfold SetTable.slot
 rw [h,aA9]
 dsimp only
 by_cases e:(t.place[SetTable.below t.place j]? == some j) = true
 ·rw [if_pos e]; exact .inr ⟨_,rfl⟩
 ·rw [if_neg e]
  refine .inl ⟨by simp,fun q=>e ?_⟩
  rw [q]; simp
theorem as1 (t:SetTable) (hd:t.dummies = #[]) (f:Nat → Int) (h:Int):∀ (fuel:Nat) (p:SetTable.Probe) (j:Nat) (d:Option Nat),p.dummy = none → SetTable.probe.go t f h fuel p = some (.empty j d) →
  d = none ∧ t.place[SetTable.below t.place j]? ≠ some j:=by
 intro fuel
 induction fuel with
 | zero=>intro p j d _ e; simp [SetTable.probe.go] at e
 | succ fuel ih =>
  intro p j d hp e
  unfold SetTable.probe.go at e
  rcases ax8 t p.j hd with ⟨q,q2⟩ | ⟨i,q⟩
  ·rw [q] at e
   injection e with e
   injection e with e1 e2
   subst e1
   exact ⟨e2 ▸ hp,q2⟩
  ·rw [q] at e
   dsimp only at e
   have ha:(t.advance p).dummy = none:=by
    unfold SetTable.advance
    split
    ·exact hp
    ·exact hp
   split at e
   ·cases e
   ·exact ih _ j d ha e
theorem N6 {L:Bool} {t:SetTable} (n:Nat) (h:JT L t):JT L (t.standIn n) where
 led:=h.led
 dum:=rfl
 mono:=by
  show (Array.range n).toList.Pairwise (· < ·)
  rw [Array.toList_range]
  exact List.pairwise_lt_range
theorem aF5 {L:Bool} {t:SetTable} (es:Array (Int × Value)) (h:Int) (x:Value) (J:JT L t):JT L (layNew t es h x).2.1:=by
 unfold layNew
 cases q:t.freeSlot h with
 | none=>exact N6 _ J
 | some r =>
  obtain ⟨slot,wasDummy⟩:=r
  dsimp only
  have hs:t.place[SetTable.below t.place slot]? ≠ some slot:=by
   unfold SetTable.freeSlot at q
   cases e:t.probe (fun _=>h + 1) h (t.probeStart h) with
   | none=>rw [e] at q; cases q
   | some m =>
    rw [e] at q
    cases m with
    | candidate _ _ _=>cases q
    | empty j d =>
     obtain ⟨rfl,z⟩:=as1 t J.dum _ h _ _ j d rfl e
     have q1:=Option.some.inj q
     injection q1 with q2 _
     subst q2
     exact z
  have Jp:JT L (t.put slot).1:=by
   refine ⟨J.led,?_,al9 t.place slot J.mono hs⟩
   show (if SetTable.has t.dummies slot = true then _ else t.dummies) = #[]
   rw [J.dum,aA9]
   rfl
  unfold SetTable.orStandIn
  split
  ·exact Jp
  ·exact N6 _ Jp
theorem aR9 {L:Bool} {mask finger moves:Nat} {plain:Bool} {hs:Array Int} {t:SetTable} {o:Array Nat} (h:SetTable.laid mask finger moves L plain hs = some (t,o)):JT L t:=by
 unfold SetTable.laid at h
 cases q:SetTable.layClean mask hs with
 | none=>rw [q] at h; cases h
 | some owner =>
  rw [q] at h
  have e:=Option.some.inj h
  injection e with e1 _
  subst e1
  refine ⟨rfl,rfl,?_⟩
  show (List.map (fun x=>x.1) ((List.range (mask + 1)).filterMap fun j=>(owner.getD j none).map (j,·))).toArray.toList.Pairwise (· < ·)
  have:∀ l:List Nat,List.Sublist (List.map (fun x:Nat × Nat=>x.1) (l.filterMap fun j=>(owner.getD j none).map (j,·))) l:=by
   intro l
   induction l with
   | nil=>exact List.Sublist.refl _
   | cons a r ih =>
    rw [List.filterMap_cons]
    cases (owner.getD a none) with
    | none=>exact ih.cons _
    | some k=>exact ih.cons₂ _
  exact (List.pairwise_lt_range (n:=mask + 1)).sublist (by simpa using this (List.range (mask + 1)))
theorem aq8 {L:Bool} {t:SetTable} (es:Array (Int × Value)) (wanted:Nat) (J:JT L t):JT L (relayAll t es wanted).2.1:=by
 unfold relayAll
 cases q:t.relaid (es.map (·.1)) wanted with
 | none=>exact N6 _ J
 | some r =>
  obtain ⟨t',order⟩:=r
  dsimp only
  split
  ·unfold SetTable.relaid at q
   rw [J.led] at q
   exact aR9 q
  ·exact N6 _ J
theorem al4 {L:Bool} {t:SetTable} (J:JT L t):JT L { t with plain:=false }:=⟨J.led,J.dum,J.mono⟩
theorem av7 {xs:Array Nat} (mono:xs.toList.Pairwise (· < ·)) (k:Nat) (hk:k < xs.size):SetTable.below xs (xs[k] + 1) = k + 1:=by
 obtain ⟨h1,h2,h3⟩:=S4 xs (xs[k] + 1) mono
 have q1:¬ SetTable.below xs (xs[k] + 1) ≤ k:=fun q=>by
  have:=h3 k q hk
  rw [Array.getD_eq_getD_getElem?,Array.getElem?_eq_getElem hk,Option.getD_some] at this
  lia
 have q2:¬ k + 1 < SetTable.below xs (xs[k] + 1):=fun q=>by
  have hk1:k + 1 < xs.size:=by lia
  have:=h2 (k + 1) q
  rw [Array.getD_eq_getD_getElem?,Array.getElem?_eq_getElem hk1,Option.getD_some] at this
  have z:=List.pairwise_iff_getElem.mp mono k (k + 1) (by simpa using hk) (by simpa using hk1) (by lia)
  simp only [Array.getElem_toList] at z
  lia
 lia
theorem aq1 {xs:Array Nat} (mono:xs.toList.Pairwise (· < ·)):SetTable.below xs 0 = 0:=by
 obtain ⟨h1,h2,h3⟩:=S4 xs 0 mono
 rcases Nat.eq_zero_or_pos (SetTable.below xs 0) with h | h
 ·exact h
 ·exact absurd (h2 0 h) (by lia)
theorem J5 {α:Type}:∀ (l:List α) (i:Nat) (h:i < l.length),List.Perm (l[i] :: l.eraseIdx i) l
 | a :: l,0,_=>List.Perm.refl _
 | a :: l,i + 1,h=>(List.Perm.swap _ _ _).trans ((J5 l i (by simpa using h)).cons a)
theorem ab0 {α:Type} (next:Nat → Nat) (xs:Array α):List.Perm (pickOrder next xs).toList xs.toList:=by
 have go:∀ (fuel k:Nat) (left:List α) (out:Array α),left.length = fuel → List.Perm (pickOrder.go next fuel k left out).toList (out.toList ++ left):=by
  intro fuel
  induction fuel with
  | zero =>
   intro k left out h
   have e:left = []:=List.eq_nil_of_length_eq_zero h
   subst e
   simp [pickOrder.go]
  | succ fuel ih =>
   intro k left out h
   unfold pickOrder.go
   have hlt:next k % left.length < left.length:=Nat.mod_lt _ (by lia)
   rw [List.getElem?_eq_getElem hlt]
   dsimp only
   refine (ih (k + 1) _ _ (by rw [List.length_eraseIdx_of_lt hlt]; lia)).trans ?_
   rw [Array.toList_push,List.append_assoc]
   exact List.Perm.append_left _ (J5 left _ hlt)
 exact (go xs.size 0 xs.toList #[] (by simp)).trans (by simp)
end L2
namespace L2
open PySem
section
variable {prog:Program} {w:World} {κ:Type} [DecidableEq κ]
def F7 (knd:KeyKind prog w κ) (h:Heap) (a:Addr) (S:κ → Bool) (n:Nat):Prop :=
 ∃ o es ep t,h.get? a = some o ∧ o.ExactSet ∧ o.data = .set es ep t ∧ (ElemsOf knd es.toList ∧ (∀ k,S k = true ↔ ∃ e ∈ es.toList,knd.is k e.2 = true) ∧ es.size < scanBound ∧ t.fits es.size = true ∧ es.size = n) ∧ JT (!w.params.followText "set-order") t
variable {knd:KeyKind prog w κ} {A:Around} {E:Value → Shared → Prop} {s:Shared}
theorem F7.of_get {h h':Heap} {a:Addr} {S:κ → Bool} {n:Nat} (x:F7 knd h a S n) (k:∀ o,h.get? a = some o → h'.get? a = some o):F7 knd h' a S n:=by
 obtain ⟨o,es,ep,t,e,r⟩:=x
 exact ⟨o,es,ep,t,k o e,r⟩
theorem F7.congr {h:Heap} {a:Addr} {S S':κ → Bool} {n n':Nat} (x:F7 knd h a S n) (e:∀ k,S k = S' k) (en:n = n'):F7 knd h a S' n':=by
 obtain rfl:S = S':=funext e
 subst en
 exact x
theorem F7.new (h:Heap) {l:Bool} (hl:l = !w.params.followText "set-order"):F7 knd (h.push { cls:=.type "set",dict:=none,data:=.set #[] 0 (.fresh 0 0 l) }) h.objs.size (fun _=>false) 0:=by
 refine ⟨_,#[],0,_,Heap.get?_push_size _ rfl,⟨rfl,rfl,rfl⟩,rfl,⟨fun e he=>absurd he (by simp),fun k=>by simp,by decide,by simp [SetTable.fits,SetTable.fresh,SetTable.fill],rfl⟩,hl,rfl,?_⟩
 exact List.Pairwise.nil
theorem F7.store {h:Heap} {a:Addr} {o:Obj} {es es':Array (Int × Value)} {ep:Nat} {t t':SetTable} {S:κ → Bool} (ho:h.get? a = some o) (hx:o.ExactSet) (hd:o.data = .set es ep t)
  (el:ElemsOf knd es'.toList) (mem:∀ k,S k = true ↔ ∃ e ∈ es'.toList,knd.is k e.2 = true) (hb:es'.size < scanBound) (hf:t'.fits es'.size = true) (J:JT (!w.params.followText "set-order") t') :
  (h.update a (Obj.putSet es' t')).get? a = some { o with data:=.set es' (ep + 1) t' } ∧ F7 knd (h.update a (Obj.putSet es' t')) a S es'.size:=by
 have g:(h.update a (Obj.putSet es' t')).get? a = some { o with data:=.set es' (ep + 1) t' }:=(SetOf_store (knd:=knd) (S':=S) ho hx hd el mem hb hf).1
 exact ⟨g,_,es',ep + 1,t',g,hx,rfl,⟨el,mem,hb,hf,rfl⟩,J⟩
theorem aJ4 {g:Bool → Sem Unit} (hg:∀ (b:Bool) (s₁:Shared) (Q':Unit → Shared → Prop),Q' () s₁ → wpAny (model prog w) A (g b) Q' E s₁)
  {a:Addr} {o:Obj} {es es1:Array (Int × Value)} {ep:Nat} {t t2:SetTable} {S:κ → Bool} {wd:Bool} {R:Option Bool → Shared → Prop} (ho:s.heap.get? a = some o) (hx:o.ExactSet) (hd:o.data = .set es ep t)
  (el:ElemsOf knd es1.toList) (mem:∀ k,S k = true ↔ ∃ e ∈ es1.toList,knd.is k e.2 = true) (hb:es1.size < scanBound) (hf:t2.fits es1.size = true) (J:JT (!w.params.followText "set-order") t2)
  (fin:∀ h',Heap.SameBut a s.heap h' → F7 knd h' a S es1.size → R (some true) { s with heap:=h' }) :
  wpAny (model prog w) A (do
    storeSet a es1 t2
    if (!wd && t2.tooFull) = true then do
      g (relayAll t2 es1 (SetTable.grown es1.size)).2.2
      storeSet a (relayAll t2 es1 (SetTable.grown es1.size)).1 (relayAll t2 es1 (SetTable.grown es1.size)).2.1
      pure (some true)
     else pure (some true)) R E s:=by
 obtain ⟨g1,x1⟩:=F7.store (knd:=knd) ho hx hd el mem hb hf J
 have sb1:=Heap.SameBut.update s.heap a (Obj.putSet es1 t2)
 refine wpAny_bind (wpAny_storeSet_of ho hd ?_ (fits_of_scanBound hb))
 by_cases c:(!wd && t2.tooFull) = true
 ·rw [if_pos c]
  have pm:=relayAll_perm t2 es1 (SetTable.grown es1.size)
  have ft:=relayAll_fits t2 es1 (SetTable.grown es1.size)
  have J2:=aq8 (t:=t2) es1 (SetTable.grown es1.size) J
  generalize relayAll t2 es1 (SetTable.grown es1.size) = r at pm ft J2 ⊢
  obtain ⟨es2,t3,gave⟩:=r
  dsimp only at pm ft J2 ⊢
  have sz:es2.size = es1.size:=by simpa using pm.length_eq
  refine wpAny_bind (hg _ _ _ (wpAny_bind (wpAny_storeSet_of g1 rfl ?_ (by rw [sz]; exact fits_of_scanBound hb))))
  obtain ⟨_,x2⟩:=F7.store (knd:=knd) (S:=S) g1 hx rfl (el.perm pm) (fun k=>(mem k).trans ⟨fun ⟨e,he,q⟩=>⟨e,pm.mem_iff.mpr he,q⟩,fun ⟨e,he,q⟩=>⟨e,pm.mem_iff.mp he,q⟩⟩) (by rw [sz]; exact hb) ft J2
  rw [sz] at x2
  exact wpAny_pure (fin _ (sb1.trans (Heap.SameBut.update _ a _)) x2)
 ·rw [if_neg c]
  exact wpAny_pure (fin _ sb1 x1)
theorem ba6 {a:Addr} {S:κ → Bool} {n:Nat} {k:κ} {x:Value} {Q:Bool → Shared → Prop} (hk:knd.is k x = true) (hsc:x.scannable = true) (hS:F7 knd s.heap a S n) (room:n + 1 < scanBound)
  (fin:∀ h',Heap.SameBut a s.heap h' → F7 knd h' a (fun k'=>S k' || decide (k' = k)) (if S k then n else n + 1) → Q (!S k) { s with heap:=h' }) :
  wpAny (model prog w) A (setAddHashed a x (knd.hash k)) Q E s:=by
 obtain ⟨o,es,ep,t,ho,hx,hd,⟨el,mem,hb,hf,hn⟩,J⟩:=hS
 have quiet:∀ (b:Bool) (s₁:Shared) (Q':Unit → Shared → Prop),Q' () s₁ → wpAny (model prog w) A (match b with | true=>rule "set.scan.the-table-gave-way" | false=>pure ()) Q' E s₁:=fun b s₁ Q' z=>by
  cases b
  ·exact wpAny_pure z
  ·exact wpAny_rule z
 unfold setAddHashed setAddHashedIn
 refine wpAny_holding (wpAny_bind (wpAny_setState_of ho hd hf ?_))
 dsimp only
 rw [if_pos (byScan_of hsc hb el)]
 unfold setAddByScan
 refine wpAny_bind (wpAny_bind (wpAny_rule (wpAny_bind (wpAny_setScan_of hk ho hd hf el ?_))))
 cases found:List.findIdx? (fun e=>knd.is k e.2) es.toList with
 | some j =>
  obtain ⟨hj,pj,_⟩:=List.findIdx?_eq_some_iff_getElem.mp found
  have there:S k = true:=(mem k).mpr ⟨_,List.getElem_mem hj,pj⟩
  dsimp only
  refine wpAny_pure (wpAny_pure ?_)
  have z:=fin s.heap (Heap.SameBut.refl a s.heap) ⟨o,es,ep,t,ho,hx,hd,⟨el,fun k'=>?_,hb,hf,by rw [there]; exact hn⟩,J⟩
  ·rw [there] at z
   exact z
  ·rw [← mem k',Bool.or_eq_true,decide_eq_true_eq]
   exact ⟨fun q=>q.elim id fun e=>by rw [e]; exact there,.inl⟩
 | none =>
  have away:S k = false:=by
   cases q:S k with
   | false=>rfl
   | true =>
    obtain ⟨e,he,pe⟩:=(mem k).mp q
    exact absurd pe (by simpa using List.findIdx?_eq_none_iff.mp found e he)
  dsimp only
  have pm:=layNew_perm t es (knd.hash k) x
  have ft:=layNew_fits t es (knd.hash k) x
  have J1:=aF5 es (knd.hash k) x J
  generalize layNew t es (knd.hash k) x = r at pm ft J1 ⊢
  obtain ⟨es1,t1,wd,gave⟩:=r
  dsimp only at pm ft J1 ⊢
  rw [Array.toList_push] at pm
  have sz:es1.size = n + 1:=by
   have:=pm.length_eq
   rw [List.length_append] at this
   simp at this
   lia
  have last:∀ h',Heap.SameBut a s.heap h' → F7 knd h' a (fun k'=>S k' || decide (k' = k)) es1.size → Q true { s with heap:=h' }:=fun h' sb q=>by
   have z:=fin h' sb
   rw [away] at z
   rw [sz] at q
   exact z q
  have go:∀ t2:SetTable,t2.fits es1.size = true → JT (!w.params.followText "set-order") t2 → ∀ (R:Option Bool → Shared → Prop),(∀ h',Heap.SameBut a s.heap h' → F7 knd h' a (fun k'=>S k' || decide (k' = k)) es1.size → R (some true) { s with heap:=h' }) → wpAny (model prog w) A (do
    storeSet a es1 t2
    if (!wd && t2.tooFull) = true then do
      (match (relayAll t2 es1 (SetTable.grown es1.size)).2.2 with | true=>rule "set.scan.the-table-gave-way" | false=>pure ())
      storeSet a (relayAll t2 es1 (SetTable.grown es1.size)).1 (relayAll t2 es1 (SetTable.grown es1.size)).2.1
      pure (some true)
     else pure (some true)) R E s:=fun t2 f2 J2 R hR =>
   aJ4 quiet ho hx hd ((el.push hk hsc).perm pm) (mem_push_iff hk mem pm) (by rw [sz]; exact room) f2 J2 hR
  refine wpAny_bind (quiet _ _ _ ?_)
  by_cases c:t1.plain = true
  ·rw [if_pos c]
   refine wpAny_bind ?_
   rw [hashByValue_scannable 8 hsc]
   refine wpAny_pure ?_
   refine go _ ?_ ?_ _ fun h' sb q=>wpAny_pure (last h' sb q)
   ·split
    ·exact ft
    ·exact SetTable.fits_plain_off ft
   ·split
    ·exact J1
    ·exact al4 J1
  ·rw [if_neg c]
   refine wpAny_bind (wpAny_pure ?_)
   rw [if_pos rfl]
   exact go _ ft J1 _ fun h' sb q=>wpAny_pure (last h' sb q)
end
end L2
namespace L2
open PySem
theorem m4:Slot "set_iterator" "__next__" "set_iterator.__next__" :=
 .of (owner:="set_iterator") (n:="__next__") (by rw [typeLookup_type,builtinLookup_eq_fast]; kernel_rfl)
  (by decide +kernel) (by decide +kernel) (by decide +kernel)
  (by first | exact .inl (by decide +kernel) | exact .inr (by decide +kernel)) (by rw [isSubtype_type]; kernel_rfl)
theorem O4:Slot "set_iterator" "__iter__" "set_iterator.__iter__" :=
 .of (owner:="set_iterator") (n:="__iter__") (by rw [typeLookup_type,builtinLookup_eq_fast]; kernel_rfl)
  (by decide +kernel) (by decide +kernel) (by decide +kernel)
  (by first | exact .inl (by decide +kernel) | exact .inr (by decide +kernel)) (by rw [isSubtype_type]; kernel_rfl)
theorem B3:entryFor table "set_iterator.__next__" = some Builtin.«set_iterator.__next__»:=entryFor_of_fast (by kernel_rfl)
theorem W5:entryFor table "set_iterator.__iter__" = some Builtin.«dict_keyiterator.__iter__» :=
 entryFor_alias (id':="dict_keyiterator.__iter__") (by kernel_rfl)
  (by first | rfl | decide +kernel | (unfold String.splitOn; simp +decide [String.splitOnAux])) (by decide +kernel) (by kernel_rfl)
theorem Y7:entryFor table "set.__iter__" = some Builtin.«frozenset.__iter__» :=
 entryFor_alias (id':="frozenset.__iter__") (by kernel_rfl)
  (by first | rfl | decide +kernel | (unfold String.splitOn; simp +decide [String.splitOnAux])) (by decide +kernel) (by kernel_rfl)
theorem B8 (a:Value):argsOk "set_iterator.__next__" ⟨[a],[]⟩:=by unfold argsOk; kernel_rfl
theorem Y9 (a:Value):argsOk "set_iterator.__iter__" ⟨[a],[]⟩:=by unfold argsOk; kernel_rfl
abbrev R8 (first:Value) (i:Nat) (a:Addr) (n ep:Nat):Obj:={ cls:=.type "set_iterator",dict:=none,data:=.fields #[first,.int i 0,.ref a,.int n 0,.int ep 0],slots:=#[] }
section
variable {prog:Program} {w:World} {A:Around} {E:Value → Shared → Prop} {s:Shared} {a I:Addr} {o:Obj} {es:Array (Int × Value)} {ep:Nat} {t:SetTable}
theorem Z8 {Q:Bool → Shared → Prop} (h:Q (w.params.followText "set-order") s):wpAny (model prog w) A setsByText Q E s:=wpAny_bind (wpAny_askSetting (wpAny_pure h))
theorem am1 {Q:Array (Int × Value) → Shared → Prop} (ht:w.params.followText "set-order" = true) (ho:s.heap.get? a = some o) (hd:o.data = .set es ep t) (hf:t.fits es.size = true)
  (h:Q (pickOrder (w.params.setOrder a ep) es) s):wpAny (model prog w) A (setWalk a) Q E s:=by
 unfold setWalk
 refine wpAny_bind (wpAny_setState_of ho hd hf ?_)
 dsimp only
 refine wpAny_bind (Z8 ?_)
 rw [ht]
 simp only [if_true]
 exact wpAny_bind (wpAny_askSetting (wpAny_pure h))
theorem aj5 {sl k:Nat} {Q:Option (Value × Nat) → Shared → Prop} (ht:w.params.followText "set-order" = true) (ho:s.heap.get? a = some o) (hd:o.data = .set es ep t) (hf:t.fits es.size = true)
  (h:Q (((pickOrder (w.params.setOrder a ep) es)[k]?).map fun e=>(e.2,sl)) s):wpAny (model prog w) A (setNext a sl k ep) Q E s:=by
 unfold setNext
 refine wpAny_bind (wpAny_setState_of ho hd hf ?_)
 dsimp only
 refine wpAny_bind (Z8 ?_)
 rw [ht]
 simp only [if_true,bne_self_eq_false,Bool.false_eq_true,if_false]
 exact wpAny_bind (am1 ht ho hd hf (wpAny_pure h))
theorem ad9 {sl k:Nat} {Q:Option (Value × Nat) → Shared → Prop} (ht:w.params.followText "set-order" = false) (ho:s.heap.get? a = some o) (hd:o.data = .set es ep t) (hf:t.fits es.size = true) (J:JT true t)
  (hp:(!t.plain && decide (es.size > 1)) = false) (hs:SetTable.below t.place sl = k)
  (h:Q (match es[k]?,t.place[k]? with | some (_,x),some j=>some (x,j + 1) | _,_=>none) s):wpAny (model prog w) A (setNext a sl k ep) Q E s:=by
 unfold setNext
 refine wpAny_bind (wpAny_setState_of ho hd hf ?_)
 dsimp only
 refine wpAny_bind (Z8 ?_)
 rw [ht]
 simp only [Bool.false_eq_true,if_false]
 show wpAny _ _ (if (!t.plain && decide (es.size > 1)) = true then unsupported _ else _) _ _ s
 rw [hp]
 simp only [Bool.false_eq_true,if_false]
 refine wpAny_bind ?_
 show wpAny _ _ (if (!t.led && !es.isEmpty) = true then unsupported _ else pure ()) _ _ s
 rw [J.led]
 simp only [Bool.not_true,Bool.false_and,Bool.false_eq_true,if_false]
 refine wpAny_pure ?_
 rw [hs]
 exact wpAny_pure h
theorem E9 {Q:Array (Int × Value) → Shared → Prop} (ho:s.heap.get? a = some o) (hd:o.data = .set es ep t) (hf:t.fits es.size = true) (h:Q es s):wpAny (model prog w) A (setEntries a) Q E s:=by
 unfold setEntries
 exact wpAny_bind (wpAny_setState_of ho hd hf (wpAny_pure h))
theorem av6 {slot:Nat → Nat} {k n:Nat} {x:Value} {Q:Option Value → Shared → Prop} (hI:s.heap.get? I = some (R8 (.int (slot k:Nat) 0) k a n ep)) (ho:s.heap.get? a = some o) (hd:o.data = .set es ep t) (hf:t.fits es.size = true) (hn:es.size = n)
  (hnx:∀ (B:Around) (Q':Option (Value × Nat) → Shared → Prop) (E':Value → Shared → Prop),Q' (some (x,slot (k + 1))) s → wpAny (model prog w) B (setNext a (slot k) k ep) Q' E' s)
  (hQ:∀ h',h'.get? I = some (R8 (.int (slot (k + 1):Nat) 0) (k + 1) a n ep) → Heap.SameBut I s.heap h' → Q (some x) { s with heap:=h' }):wpAny (model prog w) A (pyNext (.ref I)) Q E s:=by
 have hT:s.TypeIs (.ref I) "set_iterator":=⟨_,hI,rfl⟩
 unfold pyNext
 refine wpAny_bind (wpAny_attempt (wpAny_callSpecial?_slot (name:=Str.ofString "__next__") hT m4
  (wpAny_call_entry m4 hT B3 ?_ (B8 _))))
 show wpAny _ _ (fieldsOf (.ref I) >>= _) _ _ s
 refine wpAny_bind (wpAny_fieldsOf hI rfl ?_)
 show wpAny _ _ (setEntries a >>= _) _ _ s
 refine wpAny_bind (E9 ho hd hf ?_)
 rw [hn]
 simp only [bne_self_eq_false,Bool.false_eq_true,if_false]
 show wpAny _ _ (setNext a ((slot k:Nat):Int).toNat ((k:Nat):Int).toNat ((ep:Nat):Int).toNat >>= _) _ _ s
 simp only [Int.toNat_natCast]
 refine wpAny_bind (hnx _ _ _ ?_)
 dsimp only
 refine wpAny_bind (wpAny_setField_rec hI (by simp) fun h1 g1 s1=>?_)
 refine wpAny_bind (wpAny_setField_rec g1 (by simp) fun h2 g2 s2=>wpAny_pure ⟨x,rfl,wpAny_pure (hQ h2 ?_ (s1.trans s2))⟩)
 rw [g2]
 simp [rawInt]
theorem W3 {α:Type} {h1:Heap} {Q:Option Value → Shared → Prop} (hh:A.handled = none) (hQ:∀ h',(∀ b ob,h1.get? b = some ob → h'.get? b = some ob) → Q none { s with heap:=h' }) :
  wpAny (model prog w) A.in1 (newExc (.type "StopIteration") [] >>= fun e=>(raiseNew e:Sem α)) (fun _ _=>False)
   (fun e s'=>wpAny (model prog w) A (do if ← isInstance e (.type "StopIteration") then pure none else throw e) Q E s') { s with heap:=h1 }:=by
 refine wpAny_bind ?_
 simp only [newExc,newTuple]
 refine wpAny_bind (wpAny_newObj_type ?_ (by size_fits))
 refine wpAny_bind (m:=firstArgMember _ _) (wpAny_of_eq (a:=Value.none) (by first | rfl | (simp only [firstArgMember]; rfl)) ?_)
 refine wpAny_newObj_type ?_ (by size_fits)
 simp only [raiseNew]
 refine wpAny_bind (wpAny_handled ?_)
 rw [show A.in1.handled = none from hh]
 refine wpAny_bind (wpAny_pure (wpAny_throw ?_))
 refine wpAny_bind (wpAny_isInstance (T:="StopIteration") (b:=true) ⟨_,Heap.get?_push_size _ rfl,rfl⟩ isSubtype_stop ?_)
 exact wpAny_pure (hQ _ fun b ob e=>Heap.get?_push_of_some _ (Heap.get?_push_of_some _ e))
theorem av1 {first:Nat} {k n:Nat} {Q:Option Value → Shared → Prop} (hh:A.handled = none) (hI:s.heap.get? I = some (R8 (.int (first:Nat) 0) k a n ep)) (ho:s.heap.get? a = some o) (hd:o.data = .set es ep t) (hf:t.fits es.size = true) (hn:es.size = n)
  (hnx:∀ (B:Around) (Q':Option (Value × Nat) → Shared → Prop) (E':Value → Shared → Prop),Q' none s → wpAny (model prog w) B (setNext a first k ep) Q' E' s)
  (hQ:∀ h',(∀ b ob,b ≠ I → s.heap.get? b = some ob → h'.get? b = some ob) → Q none { s with heap:=h' }):wpAny (model prog w) A (pyNext (.ref I)) Q E s:=by
 have hT:s.TypeIs (.ref I) "set_iterator":=⟨_,hI,rfl⟩
 unfold pyNext
 refine wpAny_bind (wpAny_attempt (wpAny_callSpecial?_slot (name:=Str.ofString "__next__") hT m4
  (wpAny_call_entry m4 hT B3 ?_ (B8 _))))
 show wpAny _ _ (fieldsOf (.ref I) >>= _) _ _ s
 refine wpAny_bind (wpAny_fieldsOf hI rfl ?_)
 show wpAny _ _ (setEntries a >>= _) _ _ s
 refine wpAny_bind (E9 ho hd hf ?_)
 rw [hn]
 simp only [bne_self_eq_false,Bool.false_eq_true,if_false]
 show wpAny _ _ (setNext a ((first:Nat):Int).toNat ((k:Nat):Int).toNat ((ep:Nat):Int).toNat >>= _) _ _ s
 simp only [Int.toNat_natCast]
 refine wpAny_bind (hnx _ _ _ ?_)
 dsimp only
 refine wpAny_bind (wpAny_setField_rec hI (by simp) fun h1 g1 s1=>?_)
 refine wpAny_mono (W3 (Q:=Q) (E:=E) hh fun h' kp=>hQ h' fun b ob hb e=>kp b ob (s1.extBut b ob hb e)) (fun _ _ z=>z.elim) fun e s' z=>z
theorem aW3 {src:Source} {n:Nat} {Q:Nat → Shared → Prop} (hn:n ≠ 0) (h:∀ i d,i < n → Q i { s with drawn:=d }):wpAny (model prog w) A (choose src n) Q E s :=
 fun _ _ _=>⟨hn,h _ _ (Nat.mod_lt _ (Nat.pos_of_ne_zero hn))⟩
theorem ay4 {α:Type}:∀ (n:Nat) (xs:List α) (s:Shared) {Q:List α → Shared → Prop},xs.length = n → (∀ ys d,ys.Perm xs → Q ys { s with drawn:=d }) → wpAny (model prog w) A (drawOrder n xs) Q E s:=by
 intro n
 induction n with
 | zero =>
  intro xs s Q hn h
  obtain rfl:xs = []:=List.eq_nil_of_length_eq_zero hn
  exact wpAny_pure (h [] s.drawn (List.Perm.refl _))
 | succ n ih =>
  intro xs s Q hn h
  match xs,hn with
  | x :: r,hn =>
   show wpAny _ _ (choose .order (x :: r).length >>= _) _ _ s
   refine wpAny_bind (aW3 (by simp) fun i d hi=>?_)
   rw [List.getElem?_eq_getElem hi]
   dsimp only
   refine wpAny_bind (ih _ _ (by rw [List.length_eraseIdx_of_lt hi]; lia) fun ys d' pm=>wpAny_pure (h _ d' ((pm.cons _).trans (J5 (x :: r) i hi))))
theorem aF1 {Q:Bool → Shared → Prop} (ho:s.heap.get? a = some o) (hd:o.data = .set es ep t) (hf:t.fits es.size = true) (h:Q (!w.params.followText "set-order" && (!t.plain && decide (es.size > 1))) s):wpAny (model prog w) A (setDrawn a) Q E s:=by
 unfold setDrawn
 refine wpAny_bind (wpAny_setState_of ho hd hf ?_)
 dsimp only
 exact wpAny_bind (Z8 (wpAny_pure h))
theorem ap7 {T:Addr} {ps:List Nat} {k n p:Nat} {x:Value} {h0:Int} {Q:Option Value → Shared → Prop} (hI:s.heap.get? I = some (R8 (.ref T) k a n ep)) (hTu:s.heap.get? T = some { cls:=.type "tuple",data:=.seq (ps.map fun (i:Nat)=>rawInt i).toArray })
  (ho:s.heap.get? a = some o) (hd:o.data = .set es ep t) (hf:t.fits es.size = true) (hn:es.size = n) (hp:ps[k]? = some p) (hx:es[p]? = some (h0,x))
  (hQ:∀ h',h'.get? I = some (R8 (.ref T) (k + 1) a n ep) → Heap.SameBut I s.heap h' → Q (some x) { s with heap:=h' }):wpAny (model prog w) A (pyNext (.ref I)) Q E s:=by
 have hT:s.TypeIs (.ref I) "set_iterator":=⟨_,hI,rfl⟩
 unfold pyNext
 refine wpAny_bind (wpAny_attempt (wpAny_callSpecial?_slot (name:=Str.ofString "__next__") hT m4
  (wpAny_call_entry m4 hT B3 ?_ (B8 _))))
 show wpAny _ _ (fieldsOf (.ref I) >>= _) _ _ s
 refine wpAny_bind (wpAny_fieldsOf hI rfl ?_)
 show wpAny _ _ (setEntries a >>= _) _ _ s
 refine wpAny_bind (E9 ho hd hf ?_)
 rw [hn]
 simp only [bne_self_eq_false,Bool.false_eq_true,if_false]
 show wpAny _ _ (seqItems? (.ref T) >>= _) _ _ s
 refine wpAny_bind (wpAny_seqItems hTu rfl ?_)
 dsimp only
 have e:(ps.map fun (i:Nat)=>rawInt i).toArray[((k:Nat):Int).toNat]? = some (.int (p:Nat) 0):=by
  rw [Int.toNat_natCast,List.getElem?_toArray,List.getElem?_map,hp]
  rfl
 rw [e]
 dsimp only
 show wpAny _ _ (setNextDrawn a ((p:Nat):Int).toNat ((ep:Nat):Int).toNat >>= _) _ _ s
 simp only [Int.toNat_natCast]
 unfold setNextDrawn
 refine wpAny_bind (wpAny_bind (wpAny_setState_of ho hd hf ?_))
 dsimp only
 simp only [bne_self_eq_false,Bool.false_eq_true,if_false,hx]
 refine wpAny_pure ?_
 refine wpAny_bind (wpAny_setField_rec hI (by simp) fun h2 g2 s2=>wpAny_pure ⟨x,rfl,wpAny_pure (hQ h2 ?_ s2)⟩)
 rw [g2]
 simp [rawInt]
theorem as7 {T:Addr} {ps:List Nat} {k n:Nat} {Q:Option Value → Shared → Prop} (hh:A.handled = none) (hI:s.heap.get? I = some (R8 (.ref T) k a n ep)) (hTu:s.heap.get? T = some { cls:=.type "tuple",data:=.seq (ps.map fun (i:Nat)=>rawInt i).toArray })
  (ho:s.heap.get? a = some o) (hd:o.data = .set es ep t) (hf:t.fits es.size = true) (hn:es.size = n) (hp:ps[k]? = none)
  (hQ:∀ h',(∀ b ob,b ≠ I → s.heap.get? b = some ob → h'.get? b = some ob) → Q none { s with heap:=h' }):wpAny (model prog w) A (pyNext (.ref I)) Q E s:=by
 have hT:s.TypeIs (.ref I) "set_iterator":=⟨_,hI,rfl⟩
 unfold pyNext
 refine wpAny_bind (wpAny_attempt (wpAny_callSpecial?_slot (name:=Str.ofString "__next__") hT m4
  (wpAny_call_entry m4 hT B3 ?_ (B8 _))))
 show wpAny _ _ (fieldsOf (.ref I) >>= _) _ _ s
 refine wpAny_bind (wpAny_fieldsOf hI rfl ?_)
 show wpAny _ _ (setEntries a >>= _) _ _ s
 refine wpAny_bind (E9 ho hd hf ?_)
 rw [hn]
 simp only [bne_self_eq_false,Bool.false_eq_true,if_false]
 show wpAny _ _ (seqItems? (.ref T) >>= _) _ _ s
 refine wpAny_bind (wpAny_seqItems hTu rfl ?_)
 dsimp only
 have e:(ps.map fun (i:Nat)=>rawInt i).toArray[((k:Nat):Int).toNat]? = none:=by
  rw [Int.toNat_natCast,List.getElem?_toArray,List.getElem?_map,hp]
  rfl
 rw [e]
 dsimp only
 refine wpAny_bind (wpAny_setField_rec hI (by simp) fun h1 g1 s1=>?_)
 refine wpAny_bind (wpAny_setField_rec g1 (by simp) fun h2 g2 s2=>?_)
 refine wpAny_mono (W3 (Q:=Q) (E:=E) hh fun h' kp=>hQ h' fun b ob hb e=>kp b ob (s2.extBut b ob hb (s1.extBut b ob hb e))) (fun _ _ z=>z.elim) fun e s' z=>z
theorem ac7 {first:Value} {k n:Nat} {Q:Value → Shared → Prop} (hI:s.heap.get? I = some (R8 first k a n ep)) (h:Q (.ref I) s):wpAny (model prog w) A (pyIter (.ref I)) Q E s:=by
 have hT:s.TypeIs (.ref I) "set_iterator":=⟨_,hI,rfl⟩
 refine wpAny_pyIter_slot hT O4 (wpAny_call_entry O4 hT W5 ?_ (Y9 _))
 show wpAny _ _ (ret (.ref I)) _ _ s
 exact wpAny_pure ⟨_,rfl,"set_iterator",_,hT,m4.lookup,h⟩
def aL7 (prog:Program) (w:World) (A:Around) (a I N:Addr) (n:Nat) (xs:List Value) (s:Shared):Prop :=
 ∃ (fp:List Addr) (St:Nat → Shared → Prop),WalksS prog w A I fp [I] (fun a b=>b = a) n (fun i v=>xs[i]? = some v) St ∧ St 0 s ∧ (∀ b ∈ fp,(b = a ∨ N ≤ b) ∧ b < s.heap.objs.size) ∧ I ∈ fp
theorem aF6 {slot:Nat → Nat} {n:Nat} {xs:List Value} (hh:A.handled = none) (hne:a ≠ I) (hd:o.data = .set es ep t) (hf:t.fits es.size = true) (hn:es.size = n) (hxs:xs.length = n)
  (step:∀ (k:Nat) (s:Shared) (B:Around) (Q':Option (Value × Nat) → Shared → Prop) (E':Value → Shared → Prop),k ≤ n → s.heap.get? a = some o → Q' ((xs[k]?).map fun x=>(x,slot (k + 1))) s → wpAny (model prog w) B (setNext a (slot k) k ep) Q' E' s) :
  WalksS prog w A I [I,a] [I] (fun a b=>b = a) n (fun i v=>xs[i]? = some v) (fun k s=>s.heap.get? I = some (R8 (.int (slot k:Nat) 0) k a n ep) ∧ s.heap.get? a = some o) where
 sub:=fun b hb=>by simp at hb; simp [hb]
 grefl:=fun _=>rfl
 gtrans:=fun _ _ _ p q=>q.trans p
 frame:=fun i s h' tk st _ kp=>⟨kp I (by simp) _ st.1,kp a (by simp) _ st.2⟩
 item:=fun i s Q E hi st hQ=>by
  have hx:xs[i]? = some (xs[i]'(by lia)):=List.getElem?_eq_getElem (by lia)
  refine av6 (x:=xs[i]'(by lia)) st.1 st.2 hd hf hn (fun B Q' E' q=>step i s B Q' E' (by lia) st.2 (by rw [hx]; exact q)) fun h' g sb=>?_
  exact hQ _ _ hx ⟨g,sb.extBut a o hne st.2⟩ ⟨fun b ob hb e=>sb.extBut b ob (fun z=>hb (by simp [z])) e,rfl,rfl,rfl,Nat.le_refl _⟩
 done:=fun s Q E st hQ=>by
  have hx:xs[n]? = none:=List.getElem?_eq_none (by lia)
  refine av1 hh st.1 st.2 hd hf hn (fun B Q' E' q=>step n s B Q' E' (Nat.le_refl _) st.2 (by rw [hx]; exact q)) fun h' kp=>?_
  exact hQ _ ⟨fun b ob hb e=>kp b ob (fun z=>hb (by simp [z])) e,rfl,rfl,rfl,Nat.le_refl _⟩
 self:=fun i s Q E st q=>ac7 st.1 q
theorem at0 {T:Addr} {ps:List Nat} {n:Nat} {xs:List Value} (hh:A.handled = none) (hne:a ≠ I) (hnT:T ≠ I) (hd:o.data = .set es ep t) (hf:t.fits es.size = true) (hn:es.size = n) (hps:ps.length = n)
  (hx:∀ (k p:Nat),ps[k]? = some p → ∃ h0 x,es[p]? = some (h0,x) ∧ xs[k]? = some x) :
  WalksS prog w A I [I,a,T] [I] (fun a b=>b = a) n (fun i v=>xs[i]? = some v) (fun k s=>s.heap.get? I = some (R8 (.ref T) k a n ep) ∧ s.heap.get? a = some o ∧ s.heap.get? T = some { cls:=.type "tuple",data:=.seq (ps.map fun (i:Nat)=>rawInt i).toArray }) where
 sub:=fun b hb=>by simp at hb; simp [hb]
 grefl:=fun _=>rfl
 gtrans:=fun _ _ _ p q=>q.trans p
 frame:=fun i s h' tk st _ kp=>⟨kp I (by simp) _ st.1,kp a (by simp) _ st.2.1,kp T (by simp) _ st.2.2⟩
 item:=fun i s Q E hi st hQ=>by
  have hp:ps[i]? = some (ps[i]'(by lia)):=List.getElem?_eq_getElem (by lia)
  obtain ⟨h0,x,e1,e2⟩:=hx i _ hp
  refine ap7 st.1 st.2.2 st.2.1 hd hf hn hp e1 fun h' g sb=>?_
  exact hQ _ _ e2 ⟨g,sb.extBut a o hne st.2.1,sb.extBut T _ hnT st.2.2⟩ ⟨fun b ob hb e=>sb.extBut b ob (fun z=>hb (by simp [z])) e,rfl,rfl,rfl,Nat.le_refl _⟩
 done:=fun s Q E st hQ=>by
  refine as7 hh st.1 st.2.2 st.2.1 hd hf hn (List.getElem?_eq_none (by lia)) fun h' kp=>?_
  exact hQ _ ⟨fun b ob hb e=>kp b ob (fun z=>hb (by simp [z])) e,rfl,rfl,rfl,Nat.le_refl _⟩
 self:=fun i s Q E st q=>ac7 st.1 q
theorem av8 {Q:Value → Shared → Prop} (ho:s.heap.get? a = some o) (hx:o.ExactSet) (hd:o.data = .set es ep t) (hf:t.fits es.size = true) (J:JT (!w.params.followText "set-order") t) (hz:es.size ≤ sizeLine)
  (hQ:∀ (I:Addr) (xs:List Value) (h':Heap) (d),xs.Perm (es.toList.map (·.2)) → s.heap.objs.size ≤ I → (∀ b ob,s.heap.get? b = some ob → h'.get? b = some ob) →
   (∀ B:Around,B.handled = none → aL7 prog w B a I s.heap.objs.size es.size xs { s with heap:=h',drawn:=d }) → Q (.ref I) { s with heap:=h',drawn:=d }):wpAny (model prog w) A (pyIter (.ref a)) Q E s:=by
 have hT:s.TypeIs (.ref a) "set":=⟨o,ho,hx.1⟩
 have hal:a < s.heap.objs.size:=Heap.lt_size ho
 refine wpAny_pyIter_slot hT F.slot_set_iter (wpAny_call_entry F.slot_set_iter hT Y7 ?_ (F.args_set_iter_1 _))
 show wpAny _ _ (Builtin.Frozenset.sizeOf a >>= _) _ _ s
 refine wpAny_bind (wpAny_bind (E9 ho hd hf (wpAny_pure ?_)))
 refine wpAny_bind (aF1 ho hd hf ?_)
 by_cases c:(!w.params.followText "set-order" && (!t.plain && decide (es.size > 1))) = true
 ·rw [c]
  simp only [if_true]
  refine wpAny_bind (ay4 es.size (List.range es.size) s (by simp) fun ps d pm=>?_)
  have hps:ps.length = es.size:=by simpa using pm.length_eq
  simp only [newTuple]
  refine wpAny_bind (wpAny_newObj_type ?_ ?_)
  case refine_2 =>
   show (List.map (fun (i:Nat)=>rawInt i) ps).toArray.size ≤ sizeLine
   rw [List.size_toArray,List.length_map,hps]
   exact hz
  have ho':(s.heap.push { cls:=.type "tuple",data:=.seq (ps.map fun (i:Nat)=>rawInt i).toArray }).get? a = some o:=Heap.get?_push_of_some _ ho
  refine wpAny_bind (wpAny_setEpoch_of ho' hd hf ?_)
  refine wpAny_bind (wpAny_newObj_type ?_)
  have eI:(s.heap.push { cls:=.type "tuple",data:=.seq (ps.map fun (i:Nat)=>rawInt i).toArray }).objs.size = s.heap.objs.size + 1:=Heap.size_push ..
  refine wpAny_pure ⟨_,rfl,"set_iterator",_,⟨_,Heap.get?_push_size _ rfl,rfl⟩,m4.lookup,?_⟩
  refine hQ _ ((ps.map fun p=>(es[p]?).map (·.2)).filterMap id) _ d ?_ (by rw [eI]; exact Nat.le_succ _) (fun b ob e=>Heap.get?_push_of_some _ (Heap.get?_push_of_some _ e)) fun B hB=>?_
  ·refine ((pm.map _).filterMap _).trans ?_
   rw [List.filterMap_map]
   have:(List.range es.size).filterMap (id ∘ fun p=>(es[p]?).map (·.2)) = ((List.range es.size).filterMap fun p=>es[p]?).map (·.2):=by
    rw [List.map_filterMap]
    rfl
   rw [this,filterMap_getElem?_range]
  ·have key:∀ (l:List Nat),(∀ p ∈ l,p < es.size) → ∀ (k p:Nat),l[k]? = some p → ∃ h0 x,es[p]? = some (h0,x) ∧ ((l.map fun p=>(es[p]?).map (·.2)).filterMap id)[k]? = some x:=by
    intro l
    induction l with
    | nil=>intro _ k p e; simp at e
    | cons q r ih =>
     intro hl k p e
     have hq:=hl q List.mem_cons_self
     have eq:es[q]? = some es[q]:=Array.getElem?_eq_getElem hq
     have e2:((q :: r).map fun p=>(es[p]?).map (·.2)).filterMap id = es[q].2 :: (r.map fun p=>(es[p]?).map (·.2)).filterMap id:=by
      rw [List.map_cons,eq]
      rfl
     rw [e2]
     cases k with
     | zero =>
      have:q = p:=by simpa using e
      subst this
      exact ⟨es[q].1,es[q].2,eq,rfl⟩
     | succ k=>exact ih (fun p hp=>hl p (List.mem_cons_of_mem _ hp)) k p (by simpa using e)
   refine ⟨_,_,at0 (o:=o) (T:=s.heap.objs.size) (ps:=ps) hB (by rw [eI]; exact Nat.ne_of_lt (Nat.lt_succ_of_lt hal)) (by rw [eI]; exact Nat.ne_of_lt (Nat.lt_succ_self _)) hd hf rfl hps (key ps fun p hp=>by simpa using pm.mem_iff.mp hp),⟨Heap.get?_push_size _ rfl,Heap.get?_push_of_some _ ho',Heap.get?_push_of_some _ (Heap.get?_push_size _ rfl)⟩,fun b hb=>?_,by simp⟩
   simp only [List.mem_cons,List.not_mem_nil,or_false] at hb
   rw [Heap.size_push]
   rcases hb with rfl | rfl | rfl
   ·exact ⟨.inr (by rw [eI]; exact Nat.le_succ _),Nat.lt_succ_self _⟩
   ·exact ⟨.inl rfl,by rw [eI]; exact Nat.lt_succ_of_lt (Nat.lt_succ_of_lt hal)⟩
   ·exact ⟨.inr (Nat.le_refl _),by rw [eI]; exact Nat.lt_succ_of_lt (Nat.lt_succ_self _)⟩
 ·rw [Bool.eq_false_iff.mpr c]
  simp only [Bool.false_eq_true,if_false]
  refine wpAny_bind (wpAny_pure (wpAny_bind (wpAny_setEpoch_of ho hd hf ?_)))
  refine wpAny_bind (wpAny_newObj_type ?_)
  refine wpAny_pure ⟨_,rfl,"set_iterator",_,⟨_,Heap.get?_push_size _ rfl,rfl⟩,m4.lookup,?_⟩
  have hne:a ≠ s.heap.objs.size:=Nat.ne_of_lt hal
  have go:∀ (slot:Nat → Nat) (xs:List Value),slot 0 = 0 → xs.Perm (es.toList.map (·.2)) → (∀ (k:Nat) (s:Shared) (B:Around) (Q':Option (Value × Nat) → Shared → Prop) (E':Value → Shared → Prop),k ≤ es.size → s.heap.get? a = some o → Q' ((xs[k]?).map fun x=>(x,slot (k + 1))) s → wpAny (model prog w) B (setNext a (slot k) k ep) Q' E' s) →
    Q (.ref s.heap.objs.size) { s with heap:=s.heap.push (R8 (rawInt 0) 0 a es.size ep) }:=fun slot xs h0 pm step=>by
   refine hQ _ xs _ s.drawn pm (Nat.le_refl _) (fun b ob e=>Heap.get?_push_of_some _ e) fun B hB=>⟨_,_,aF6 (slot:=slot) hB hne hd hf rfl (by simpa using pm.length_eq) step,⟨?_,Heap.get?_push_of_some _ ho⟩,fun b hb=>?_,by simp⟩
   ·rw [h0]
    exact Heap.get?_push_size _ rfl
   ·simp only [List.mem_cons,List.not_mem_nil,or_false] at hb
    rw [Heap.size_push]
    rcases hb with rfl | rfl
    ·exact ⟨.inr (Nat.le_refl _),Nat.lt_succ_self _⟩
    ·exact ⟨.inl rfl,Nat.lt_succ_of_lt hal⟩
  cases ht:w.params.followText "set-order" with
  | true =>
   refine go (fun _=>0) ((pickOrder (w.params.setOrder a ep) es).toList.map (·.2)) rfl ((ab0 _ es).map _) fun k s' B Q' E' hk ho' q=>aj5 ht ho' hd hf ?_
   have e:(((pickOrder (w.params.setOrder a ep) es).toList.map (·.2))[k]?).map (fun x=>(x,0)) = ((pickOrder (w.params.setOrder a ep) es)[k]?).map fun e=>(e.2,0):=by
    rw [List.getElem?_map,Array.getElem?_toList,Option.map_map]
    rfl
   rw [← e]
   exact q
  | false =>
   rw [ht] at c J
   have hpl:t.place.size = es.size:=by
    simp only [SetTable.fits,Bool.and_eq_true,beq_iff_eq] at hf
    exact hf.1
   refine go (fun k=>match k with | 0=>0 | k + 1=>t.place.getD k 0 + 1) (es.toList.map (·.2)) rfl (List.Perm.refl _) fun k s' B Q' E' hk ho' q=>ad9 ht ho' hd hf J (by simpa using c) ?_ ?_
   ·cases k with
    | zero=>exact aq1 J.mono
    | succ k =>
     have hk':k < t.place.size:=by lia
     have e:t.place.getD k 0 = t.place[k]:=by simp [Array.getD,hk']
     show SetTable.below t.place (t.place.getD k 0 + 1) = k + 1
     rw [e]
     exact av7 J.mono k hk'
   ·rcases Nat.lt_or_eq_of_le hk with hlt | heq
    ·have hk':k < t.place.size:=by lia
     have e2:t.place.getD k 0 = t.place[k]:=by simp [Array.getD,hk']
     have e3:(es.toList.map (·.2))[k]? = some es[k].2:=by simp [hlt]
     rw [e3] at q
     simp only [Array.getElem?_eq_getElem hlt,Array.getElem?_eq_getElem hk']
     rw [← e2]
     exact q
    ·have e3:(es.toList.map (·.2))[k]? = none:=by simp [heq]
     rw [e3] at q
     have e4:es[k]? = none:=by simp [heq]
     simp only [e4]
     exact q
end
end L2
namespace L2
open PySem PyProof.Rows
theorem aw0:typeLookup (.type "set") "__len__" = pure (some (.builtin "set.__len__")):=F.slot_set_len.lookup
theorem ae6:splitId "set.__len__" = some ("set","__len__"):=by kernel_rfl
section
variable {prog:Program} {w:World} {A:Around} {E:Value → Shared → Prop} {s:Shared} {a:Addr} {o:Obj} {es:Array (Int × Value)} {ep:Nat} {t:SetTable}
theorem aO1 {Q:Bool → Shared → Prop} (hT:s.TypeIs (.ref a) "set") (h:Q false s):wpAny (model prog w) A (Builtin.List.listLengthHint (.ref a)) Q E s:=by
 unfold Builtin.List.listLengthHint
 refine wpAny_bind (wpAny_specialOf hT aw0 ?_)
 simp only [ae6]
 refine wpAny_bind (wpAny_isInstance hT sub_set_self ?_)
 simp only [Bool.not_true,Bool.false_eq_true,if_false]
 show wpAny _ _ (typeOf (.ref a) >>= _) _ _ s
 exact wpAny_bind (wpAny_typeOf hT (wpAny_pure h))
theorem ar7 {Q:List Value → Shared → Prop} (hh:A.handled = none) (ho:s.heap.get? a = some o) (hx:o.ExactSet) (hd:o.data = .set es ep t) (hf:t.fits es.size = true) (J:JT (!w.params.followText "set-order") t) (hz:es.size ≤ sizeLine)
  (hQ:∀ (h':Heap) (d) (tk:Nat) (xs:List Value),xs.Perm (es.toList.map (·.2)) → s.heap.objs.size < h'.objs.size → (∀ b ob,s.heap.get? b = some ob → h'.get? b = some ob) → Q xs { s with heap:=h',drawn:=d,toks:=tk }):wpAny (model prog w) A (collect (.ref a)) Q E s:=by
 have hal:a < s.heap.objs.size:=Heap.lt_size ho
 unfold collect
 refine wpAny_bind (wpAny_runValue (codeAny_builtin F.entry_proto_collect ?_))
 rw [Around.under_plainId F.plain_proto_collect _]
 show wpAny _ A.in1 (newList [] >>= fun l=>again (.builtin "list.__iadd__" ⟨[l,.ref a],[]⟩)) _ _ s
 refine wpAny_bind (wpAny_newObj_type ?_)
 refine wpAny_pure ⟨plainId_quiet F.plain_list_iadd _,codeAny_builtin F.entry_list_iadd ?_⟩
 rw [Around.under_plainId F.plain_list_iadd _]
 generalize hH1:s.heap.push { cls:=.type "list",data:=.seq ([]:List Value).toArray } = H1
 have sz1:H1.objs.size = s.heap.objs.size + 1:=by rw [← hH1]; exact Heap.size_push ..
 have old1:∀ b ob,s.heap.get? b = some ob → H1.get? b = some ob:=fun b ob e=>by rw [← hH1]; exact Heap.get?_push_of_some _ e
 have gS:H1.get? s.heap.objs.size = some { cls:=.type "list",data:=.seq ([]:List Value).toArray }:=by rw [← hH1]; exact Heap.get?_push_size _ rfl
 show wpAny _ A.in1 (Builtin.List.listExtendWith (.ref s.heap.objs.size) (.ref a) (.ref s.heap.objs.size)) _ _ { s with heap:=H1 }
 unfold Builtin.List.listExtendWith
 have ho1:=old1 a o ho
 refine wpAny_bind (wpAny_typeOf (T:="set") ⟨o,ho1,hx.1⟩ ?_)
 have h1:Builtin.List.listSameRef (.ref s.heap.objs.size) (.ref a) = false:=by simpa [Builtin.List.listSameRef] using Nat.ne_of_gt hal
 have h2:(Value.type "set" == Value.type "list") = false:=by decide
 have h3:(Value.type "set" == Value.type "tuple") = false:=by decide
 simp only [h1,h2,h3,Bool.or_false,Bool.false_eq_true,if_false]
 refine wpAny_bind (av8 (s:={ s with heap:=H1 }) ho1 hx hd hf J hz fun I xs h' d pm hI old2 walks=>?_)
 refine wpAny_bind (wpAny_holding (aO1 ⟨o,old2 a o ho1,hx.1⟩ ?_))
 show wpAny _ A.in1 (rule "list.extend.makes-room" >>= fun _=>Builtin.List.listTouch (.ref s.heap.objs.size) >>= fun _ =>
  again (.builtin "list.extend.loop" ⟨[.ref s.heap.objs.size,.ref I,.ref s.heap.objs.size],[]⟩)) _ _ _
 refine wpAny_bind (wpAny_rule (wpAny_bind ?_))
 have g2:=old2 _ _ gS
 show wpAny _ A.in1 (updateSeq s.heap.objs.size (·.push .none) >>= fun _=>updateSeq s.heap.objs.size (·.pop)) _ _ _
 refine wpAny_bind (wpAny_updateSeq g2 rfl ?_)
 have g3:=Heap.get?_update_self (Obj.mapSeq (·.push Value.none)) g2 rfl
 refine wpAny_updateSeq g3 rfl ?_
 have g4:=Heap.get?_update_self (Obj.mapSeq (·.pop)) g3 rfl
 have oth:∀ b ob,b ≠ s.heap.objs.size → h'.get? b = some ob → ((h'.update s.heap.objs.size (Obj.mapSeq (·.push Value.none))).update s.heap.objs.size (Obj.mapSeq (·.pop))).get? b = some ob :=
  fun b ob hb e=>(Heap.get?_update_other _ _ (Ne.symm hb)).trans ((Heap.get?_update_other _ _ (Ne.symm hb)).trans e)
 obtain ⟨fp,St,W,st,hfp,_⟩:=walks A.in1 hh
 have hSf:s.heap.objs.size ∉ fp:=fun hm=>by
  rcases (hfp _ hm).1 with e | e
  ·exact Nat.lt_irrefl _ (e ▸ hal)
  ·have e':H1.objs.size ≤ s.heap.objs.size:=e
   rw [sz1] at e'
   exact Nat.lt_irrefl _ e'
 refine wpAny_pure ⟨plainId_quiet F.plain_extend_loop _,codeAny_extend_loopS W hz _ hSf _ es.size 0 _ _ _ rfl (Nat.zero_le _)
  (W.frame 0 ({ s with heap:=h',drawn:=d }:Shared) _ s.toks st (Nat.le_refl _) fun b hb ob e=>oth b ob (fun z=>hSf (z ▸ hb)) e) g4 (ItemsOf.nil _) fun s' acc' c' hm hS' hacc=>?_⟩
 show wpAny _ A (load s.heap.objs.size >>= _) _ _ s'
 refine wpAny_bind (wpAny_load hS' (wpAny_pure ?_))
 have e1:s'.gens = s.gens:=hm.gens
 have e2:s'.drawn = d:=hm.drawn
 have e3:s'.os = s.os:=hm.os
 have es':s' = { s with heap:=s'.heap,drawn:=d,toks:=s'.toks }:=by
  obtain ⟨h0,g0,d0,t0,o0⟩:=s'
  simp only at e1 e2 e3
  subst e1 e2 e3
  rfl
 have exs:acc'.toList = xs:=by
  have hl:xs.length = es.size:=by simpa using pm.length_eq
  apply List.ext_getElem
  ·rw [Array.length_toList,hacc.1,hl]
  ·intro i q1 q2
   have this:xs[i]? = some acc'[i]:=hacc.2 i acc'[i] (by simp)
   rw [List.getElem?_eq_getElem q2] at this
   simpa using (Option.some.inj this).symm
 have big:s.heap.objs.size < s'.heap.objs.size:=Heap.lt_size hS'
 rw [exs,es']
 refine hQ _ d _ xs pm big fun b ob e=>?_
 have hb:b ≠ s.heap.objs.size:=Nat.ne_of_lt (Heap.lt_size e)
 refine hm.heap b ob ?_ (oth b ob hb (old2 b ob (old1 b ob e)))
 simp only [List.mem_cons,List.not_mem_nil,or_false,not_or]
 refine ⟨hb,fun z=>?_⟩
 have hI':H1.objs.size ≤ I:=hI
 rw [sz1,← z] at hI'
 exact Nat.lt_irrefl _ (Nat.lt_of_lt_of_le (Nat.lt_succ_of_lt (Heap.lt_size e)) hI')
theorem ae3 (h:ElemsOf (intKind prog w) es.toList):∃ ks:List Int,IntsAre (es.toList.map (·.2)) ks ∧ ∀ k,k ∈ ks ↔ ∃ e ∈ es.toList,(intKind prog w).is k e.2 = true:=by
 have go:∀ l:List (Int × Value),ElemsOf (intKind prog w) l → ∃ ks:List Int,IntsAre (l.map (·.2)) ks ∧ ∀ k,k ∈ ks ↔ ∃ e ∈ l,(intKind prog w).is k e.2 = true:=by
  intro l
  induction l with
  | nil=>intro _; exact ⟨[],.nil,by simp⟩
  | cons e r ih =>
   intro h
   obtain ⟨ks,h1,h2⟩:=ih h.tail
   obtain ⟨⟨k,hk,_⟩,_⟩:=h.head
   obtain ⟨tk,ek⟩:=Value.isInt_shape (k:=k) (v:=e.2) hk
   refine ⟨k :: ks,?_,fun k'=>?_⟩
   ·rw [List.map_cons,ek]
    exact .cons k tk h1
   ·rw [List.mem_cons,h2 k']
    constructor
    ·rintro (rfl | ⟨e',he,q⟩)
     ·exact ⟨e,List.mem_cons_self,hk⟩
     ·exact ⟨e',List.mem_cons_of_mem _ he,q⟩
    ·rintro ⟨e',he,q⟩
     rcases List.mem_cons.mp he with rfl | he
     ·exact .inl ((intKind prog w).inj e'.2 k' k q hk)
     ·exact .inr ⟨e',he,q⟩
 exact go _ h
theorem IntsAre.perm {vs us:List Value} (p:us.Perm vs):∀ {ns:List Int},IntsAre vs ns → ∃ ms,IntsAre us ms ∧ ms.Perm ns:=by
 induction p with
 | nil=>intro ns h; exact ⟨ns,h,List.Perm.refl _⟩
 | cons x _ ih =>
  intro ns h
  cases h with
  | cons n t h=>obtain ⟨ms,h1,h2⟩:=ih h; exact ⟨n :: ms,.cons n t h1,h2.cons n⟩
 | swap x y l =>
  intro ns h
  cases h with
  | cons n t h=>cases h with
   | cons m u h=>exact ⟨_,.cons m u (.cons n t h),List.Perm.swap _ _ _⟩
 | trans _ _ ih1 ih2 =>
  intro ns h
  obtain ⟨ms,h1,h2⟩:=ih2 h
  obtain ⟨ls,h3,h4⟩:=ih1 h1
  exact ⟨ls,h3,h4.trans h2⟩
theorem ay7 {S:Int → Bool} {n:Nat} {Q:Value → Shared → Prop} (hh:A.handled = none) (hS:F7 (intKind prog w) s.heap a S n) (h64:n < 64)
  (h:∀ (l:Addr) (h':Heap) (d) (tk e:Nat) (out:Array Value) (ns:List Int),IntsAre out.toList ns → ns.Pairwise (· ≤ ·) → (∀ k,k ∈ ns ↔ S k = true) → ns.length = n → s.heap.objs.size ≤ l → (∀ b ob,s.heap.get? b = some ob → h'.get? b = some ob) →
   h'.get? l = some (seqObj "list" out e) → Q (.ref l) { s with heap:=h',drawn:=d,toks:=tk }):wpAny (model prog w) A (call (.builtin "sorted") [.ref a]) Q E s:=by
 obtain ⟨o,es,ep,t,ho,hx,hd,⟨el,mem,hb,hf,hn⟩,J⟩:=hS
 obtain ⟨ks,ik,mk⟩:=ae3 el
 refine Calls.call_function_entry kind_sorted plain_sorted entry_sorted (args_sorted1 _) ?_
 unfold Builtin.«sorted»
 refine wpAny_bind (m:=checkCount "sorted" 1 1 _) (wpAny_pure ?_)
 refine wpAny_bind (ar7 hh ho hx hd hf J (fits_of_scanBound hb) fun h1 d tk xs pm big old=>?_)
 obtain ⟨ms,im,pms⟩:=IntsAre.perm pm ik
 have hxl:xs.length = n:=by rw [← hn]; simpa using pm.length_eq
 refine wpAny_bind (wpAny_newList ?_ (by rw [hxl]; exact Nat.le_trans (Nat.le_of_lt h64) (by decide)))
 have hoL:(h1.push (seqObj "list" xs.toArray 0)).get? h1.objs.size = some (seqObj "list" xs.toArray 0):=Heap.get?_push_size _ rfl
 show wpAny _ _ _ _ _ { s with heap:=h1.push (seqObj "list" xs.toArray 0),drawn:=d,toks:=tk }
 refine wpAny_bind (wpAny_holding (wpAny_call_entry slot_list_sort ⟨_,hoL,rfl⟩ entry_list_sort (list_sort_tree hoL im (by lia) fun out ns a1 a2 a3=>⟨_,rfl,?_⟩) (args_list_sort _)))
 obtain ⟨e,he⟩:=sortedHeap_at (out:=out) hoL
 refine wpAny_pure ⟨_,rfl,h h1.objs.size _ d tk e out ns a1 a3 (fun k=>?_) ?_ ?_ (fun b ob q=>?_) he⟩
 ·rw [a2.mem_iff,pms.mem_iff,mk k,mem k]
 ·rw [a2.length_eq,pms.length_eq,← ik.length,List.length_map,Array.length_toList,hn]
 ·exact Nat.le_of_lt big
 ·have q1:=old b ob q
  have hlt:=Heap.lt_size q1
  rw [sortedHeap_old (Nat.ne_of_lt hlt) (by rw [Heap.size_push]; exact Nat.lt_succ_of_lt hlt)]
  exact Heap.get?_push_of_some _ q1
end
end L2
namespace L2
open PySem PyProof.Rows
section
variable {prog:Program} {w:World} {A:Around} {R:Result → Shared → Prop} {I:Addr} {fp wr:List Addr} {G:Array GenState → Array GenState → Prop} {n:Nat} {P:Nat → Value → Prop} {St:Nat → Shared → Prop}
abbrev X0 (prog:Program) (w:World) (val:Nat → Int) (i:Nat) (h:Heap) (S:Addr):Prop:=F7 (intKind prog w) h S (fun k=>(firstMet val i).any (· == k)) (firstMet val i).length
theorem aL1 (W:WalksS prog w A.in1 I fp wr G n P St) (S:Addr) (hSf:S ∉ fp) (val:Nat → Int) (hval:∀ i v,P i v → ∃ t,v = .int (val i) t) (hb:n + 1 < scanBound) :
  ∀ (k i:Nat) (s:Shared),n - i = k → i ≤ n → St i s → X0 prog w val i s.heap S → (∀ s',Moved (S :: wr) G s s' → X0 prog w val n s'.heap S → R (.ok (.ret .none)) s') →
   codeAny (model prog w) A (.builtin "set.update.loop" ⟨[.ref S,.ref I],[]⟩) R s:=by
 have hSw:S ∉ wr:=fun z=>hSf (W.sub _ z)
 have sub:∀ b ∈ wr,b ∈ S :: wr:=fun b q=>List.mem_cons_of_mem _ q
 intro k
 induction k with
 | zero =>
  intro i s hk hi st x fin
  obtain rfl:i = n:=by lia
  refine codeAny_builtin PyProof.Rows.F.entry_set_update_loop ?_
  rw [Around.under_plainId PyProof.Rows.F.plain_set_update_loop _]
  show wpAny _ A.in1 (pyNext (.ref I) >>= _) _ _ s
  refine wpAny_bind (W.done s _ _ st fun s' m=>?_)
  show wpAny _ A.in1 (ret Value.none) _ _ s'
  exact wpAny_pure (fin s' (m.mono sub) (x.of_get fun o e=>m.heap S _ hSw e))
 | succ k ih =>
  intro i s hk hi st x fin
  have lt:i < n:=by lia
  refine codeAny_builtin PyProof.Rows.F.entry_set_update_loop ?_
  rw [Around.under_plainId PyProof.Rows.F.plain_set_update_loop _]
  show wpAny _ A.in1 (pyNext (.ref I) >>= _) _ _ s
  refine wpAny_bind (W.item i s _ _ lt st fun v s' pv st' m=>?_)
  obtain ⟨t,rfl⟩:=hval i v pv
  have x':X0 prog w val i s'.heap S:=x.of_get fun o e=>m.heap S _ hSw e
  show wpAny _ A.in1 (holding [Value.int (val i) t] (setAdd S (.int (val i) t)) >>= _) _ _ s'
  refine wpAny_bind (wpAny_holding ?_)
  unfold setAdd
  refine wpAny_holding (wpAny_bind ((intKind prog w).pyHash (k:=val i) (intKind_is _ _ _ _) ?_))
  have room:(firstMet val i).length + 1 < scanBound:=by have:=firstMet_length_le val i; lia
  refine ba6 (knd:=intKind prog w) (s:={ s' with toks:=s'.toks + 1 }) (intKind_is _ _ _ _) rfl x' room fun h' sb x2=>?_
  have x3:X0 prog w val (i + 1) h' S:=x2.congr (fun k'=>by rw [firstMet_succ,step_any]) (by rw [firstMet_succ,step_length])
  refine wpAny_pure ⟨plainId_quiet PyProof.Rows.F.plain_set_update_loop _,ih (i + 1) _ (by lia) lt (W.frame _ s' _ _ st' (Nat.le_succ _) fun b hb o e=>?_) x3 fun s'' m2 x4=>?_⟩
  ·rw [sb.2 b (fun z:b = S=>hSf (z ▸ hb))]; exact e
  ·refine fin s'' (Moved.trans W.gtrans ((m.mono sub).then_heap (Nat.le_succ _) fun b o hb e=>?_) m2) x4
   rw [sb.2 b (fun z:b = S=>hb (z ▸ List.mem_cons_self))]; exact e
end
section
variable {prog:Program} {w:World} {A:Around} {E:Value → Shared → Prop} {s:Shared}
abbrev R6 (w:World):Obj:={ cls:=.type "set",dict:=none,data:=.set #[] 0 (.fresh 0 0 (!w.params.followText "set-order")) }
theorem ar1 (a:Value) {Q:Value → Shared → Prop} (h:Q (.ref s.heap.objs.size) { s with heap:=s.heap.push (R6 w) }) :
  codeAny (model prog w) A (.call (.builtin "set.__new__") ⟨[.type "set",a],[]⟩) (wants Q E) s:=by
 refine codeAny_of_tree ?_
 show wpAny _ A.in1 (do checkBuiltinCall "set.__new__" ⟨[.type "set",a],[]⟩; again (.builtin "set.__new__" ⟨[.type "set",a],[]⟩)) _ _ s
 refine wpAny_bind (wpAny_of_eq (PySem.F.newCall_set_1 a) (wpAny_pure ⟨plainId_quiet PySem.F.plain_set_new _,codeAny_builtin PySem.F.entry_set_new ?_⟩))
 rw [Around.under_plainId PySem.F.plain_set_new _]
 unfold Builtin.«set.__new__» Builtin.Frozenset.newClass
 have hsub:=sub_set_self
 obtain ⟨hp,g,d,tk,os⟩:=s
 dsimp only
 wp_walk
 refine wpAny_askSetting (wpAny_pure ?_)
 dsimp only
 simp only [newObj]
 exact wpAny_bind (wpAny_alloc (wpAny_pure (wpAny_pure h)))
set_option maxHeartbeats 3200000 in
theorem ao9 {l:Addr} {items:Array Value} {ns:List Int} {Q:Value → Shared → Prop} (hh:A.handled = none) (hl:s.heap.IsList l items) (hi:IntsAre items.toList ns) (hb:items.size + 1 < scanBound)
  (h:∀ (h':Heap) (tk:Nat),X0 prog w (fun i=>ns.getD i 0) items.size h' s.heap.objs.size → (∀ b o,b < s.heap.objs.size → s.heap.get? b = some o → h'.get? b = some o) → Q (.ref s.heap.objs.size) { s with heap:=h',toks:=tk }) :
  wpAny (model prog w) A (call (.type "set") [.ref l]) Q E s:=by
 obtain ⟨c,tl,hmro⟩:=PySem.F.called_set.mro
 have hmade:=PySem.F.called_set.made
 have hsub:=PySem.F.called_set.sub
 refine wpAny_call (codeAny_of_tree ?_)
 show wpAny _ _ (callAny (.type "set") _) _ _ _
 refine wpAny_pure ⟨Code.quiet_builtin _ (by decide +kernel),codeAny_builtin PySem.F.entry_type_call ?_⟩
 rw [Around.under_plain (weight_type_call_type "set" [.ref l] []) rfl]
 have h1:=PySem.F.called_set.notType
 have h2:=PySem.F.called_set.canCreate
 have hct:=PySem.F.typeCall_set_1 (.ref l)
 repeat (any_goals (first | assumption | wp_step))
 refine codeAny_mono (ar1 (.ref l) (E:=E) (Q:=fun obj s₁=>obj = .ref s.heap.objs.size ∧ s₁ = { s with heap:=s.heap.push (R6 w) }) ⟨rfl,rfl⟩) fun r s₁ hr=>?_
 cases r with
 | error e=>exact hr
 | ok fl =>
  cases fl with
  | ret obj =>
   obtain ⟨rfl,rfl⟩:=hr
   have hS:(s.heap.push (R6 w)).get? s.heap.objs.size = some (R6 w):=Heap.get?_push_size _ rfl
   have hT:Shared.TypeIs { s with heap:=s.heap.push (R6 w) } (.ref s.heap.objs.size) "set":=⟨_,hS,rfl⟩
   have hli:=PySem.F.called_set.init.lookup
   have hbi:=PySem.F.called_set.init.bind (.ref s.heap.objs.size)
   repeat (any_goals (first | assumption | wp_step))
   refine codeAny_mono (codeAny_call_builtin (R:=wants (fun r s₂=>r = .none ∧ ∃ h' tk,s₂ = { s with heap:=h',toks:=tk } ∧ X0 prog w (fun i=>ns.getD i 0) items.size h' s.heap.objs.size ∧
     (∀ b o,b < s.heap.objs.size → s.heap.get? b = some o → h'.get? b = some o)) E) PySem.F.called_set.init.plain PySem.F.entry_set_init (check_set_init_1 hT ?_)) fun r₂ s₂ hr₂=>?_
   ·obtain ⟨ol,hol,hcl,nl,hdl⟩:=id hl
    have hol':(s.heap.push (R6 w)).get? l = some ol:=Heap.get?_push_of_some _ hol
    have hTl:Shared.TypeIs { s with heap:=s.heap.push (R6 w) } (.ref l) "list":=⟨ol,hol',hcl⟩
    have hsls:=PySem.F.sub_list_set
    have hslf:=PySem.F.sub_list_frozenset
    have hne:(Value.type "list" == Value.type "dict") = false:=by decide
    have hl1:(s.heap.push (R6 w)).IsList l items:=⟨_,hol',hcl,nl,hdl⟩
    unfold Builtin.«set.__init__» noKeywords Builtin.Frozenset.updateFrom
    generalize hPI:pyIter = PI
    wp_walk
    subst hPI
    refine wpAny_pyIter_list hl1 (wpAny_bind (wpAny_runValue ?_))
    have hlS:l < s.heap.objs.size:=Heap.lt_size hol
    have hneI:l ≠ (s.heap.push (R6 w)).objs.size:=by rw [Heap.size_push]; exact Nat.ne_of_lt (Nat.lt_succ_of_lt hlS)
    have hSf:s.heap.objs.size ∉ [(s.heap.push (R6 w)).objs.size,l]:=by
     rw [Heap.size_push]
     simp only [List.mem_cons,List.not_mem_nil,or_false,not_or]
     exact ⟨Nat.ne_of_lt (Nat.lt_succ_self _),Nat.ne_of_gt hlS⟩
    refine aL1 ((Walks.list (by simpa using hh) _ l hneI items).toS) s.heap.objs.size hSf (fun i=>ns.getD i 0) (fun i v hv=>PyProof.Rows.IntsAre.int_at hi i v (by rw [Array.getElem?_toList]; exact hv)) hb (items.size - 0) 0 _ (by lia) (Nat.zero_le _)
     ⟨⟨_,Heap.get?_push_size _ rfl,rfl,rfl⟩,(hl1.push _)⟩ ?hS0 ?hR
    case hS0 =>
     exact ((F7.new (knd:=intKind prog w) s.heap rfl).congr (fun _=>rfl) rfl).of_get fun o e=>Heap.get?_push_of_some _ e
    case hR =>
     intro s' m x
     obtain ⟨h',g',d',tk',os'⟩:=s'
     have eg:g' = s.gens:=m.gens
     have ed:d' = s.drawn:=m.drawn
     have eo:os' = s.os:=m.os
     subst eg ed eo
     show wpAny _ _ _ _ _ _
     refine wpAny_pure ?_
     show wpAny _ _ (ret Value.none) _ _ _
     refine wpAny_pure ⟨rfl,h',tk',rfl,x,fun b o q e=>?_⟩
     refine m.heap b o ?_ (Heap.get?_push_of_some _ (Heap.get?_push_of_some _ e))
     simp only [List.mem_cons,List.not_mem_nil,or_false,not_or]
     refine ⟨Nat.ne_of_lt q,?_⟩
     rw [Heap.size_push]
     exact Nat.ne_of_lt (Nat.lt_succ_of_lt q)
   ·cases r₂ with
    | error e=>exact hr₂
    | ok fl₂ =>
     cases fl₂ with
     | ret r =>
      obtain ⟨rfl,h',tk,rfl,x,kp⟩:=hr₂
      repeat (any_goals (first | assumption | wp_step))
      exact h _ _ x kp
     | _=>exact hr₂.elim
  | _=>exact hr.elim
end
end L2
namespace L2
open PySem PySem.W PyProof.Rows
def ev {α:Type} (lt:Nat → Nat → Bool):KasT α → α
 | .ret a=>a
 | .ask i j k=>ev lt (k (lt i j))
theorem Q6 {α β:Type} (lt:Nat → Nat → Bool) (f:α → KasT β):∀ t:KasT α,ev lt (t.bind f) = ev lt (f (ev lt t))
 | .ret _=>rfl
 | .ask i j k=>Q6 lt f (k (lt i j))
section
variable {r:Nat → Int}
abbrev ltR (r:Nat → Int):Nat → Nat → Bool:=fun i j=>decide (r i < r j)
abbrev ky (r:Nat → Int) (p:Array Nat) (k:Nat):Int:=r (p.getD k 0)
theorem T4 {α:Type} (lt:Nat → Nat → Bool) (i j:Nat) (k:Bool → KasT α):ev lt (.ask i j k) = ev lt (k (lt i j)):=rfl
theorem as3 {i j:Nat} (c:r i < r j):ltR r i j = true:=decide_eq_true c
theorem as6 {i j:Nat} (c:¬ r i < r j):ltR r i j = false:=decide_eq_false c
def Up (r:Nat → Int) (p:Array Nat) (b:Nat):Prop:=∀ i,0 < i → i < b → ky r p (i - 1) ≤ ky r p i
def Dn (r:Nat → Int) (p:Array Nat) (b:Nat):Prop:=∀ i,0 < i → i < b → ky r p i ≤ ky r p (i - 1)
def Eqs (r:Nat → Int) (p:Array Nat) (a b:Nat):Prop:=∀ i,a < i → i < b → ky r p i = ky r p (i - 1)
theorem Up.mono {p:Array Nat} {b:Nat} (h:Up r p b):∀ i j,i ≤ j → j < b → ky r p i ≤ ky r p j:=by
  intro i j hij hj
  induction j with
  | zero =>
    have:i = 0:=by lia
    subst this; exact Int.le_refl _
  | succ j ih =>
    rcases Nat.lt_or_eq_of_le hij with q | q
    · exact Int.le_trans (ih (by lia) (by lia)) (h (j + 1) (by lia) hj)
    · rw [q]; exact Int.le_refl _
theorem Dn.mono {p:Array Nat} {b:Nat} (h:Dn r p b):∀ i j,i ≤ j → j < b → ky r p j ≤ ky r p i:=by
  intro i j hij hj
  induction j with
  | zero =>
    have:i = 0:=by lia
    subst this; exact Int.le_refl _
  | succ j ih =>
    rcases Nat.lt_or_eq_of_le hij with q | q
    · exact Int.le_trans (h (j + 1) (by lia) hj) (ih (by lia) (by lia))
    · rw [q]; exact Int.le_refl _
theorem Eqs.all {p:Array Nat} {a b:Nat} (h:Eqs r p a b):∀ i,a ≤ i → i < b → ky r p i = ky r p a:=by
  intro i hi hb
  induction i with
  | zero =>
    have:a = 0:=by lia
    subst this; rfl
  | succ i ih =>
    rcases Nat.lt_or_eq_of_le hi with q | q
    · rw [h (i + 1) q hb]; exact ih (by lia) (by lia)
    · rw [q]
theorem ac0 {p:Array Nat} {i j:Nat} (hj:j ≤ p.size) (k:Nat):(kas_rev p i j).getD k 0 = if i ≤ k ∧ k < j then p.getD (i + j - 1 - k) 0 else p.getD k 0:=by
 unfold kas_rev
 have e:=getElem?_mirror (xs:=p) (i:=i) hj ((j - i) / 2) (by lia) k
 rw [Array.getD_eq_getD_getElem?,e]
 by_cases c:i ≤ k ∧ k < j
 ·rw [if_pos c]
  by_cases d:i ≤ k ∧ k < i + (j - i) / 2 ∨ j - (j - i) / 2 ≤ k ∧ k < j
  ·rw [if_pos d,Array.getD_eq_getD_getElem?]
  ·rw [if_neg d]
   have:i + j - 1 - k = k:=by lia
   rw [this,Array.getD_eq_getD_getElem?]
 ·rw [if_neg c,if_neg (by lia),Array.getD_eq_getD_getElem?]
theorem ak6 {p:Array Nat} {i j:Nat} (hj:j ≤ p.size) (h:Eqs r p i j) (k:Nat):ky r (kas_rev p i j) k = ky r p k:=by
 show r _ = r _
 rw [ac0 hj]
 by_cases c:i ≤ k ∧ k < j
 ·rw [if_pos c]
  have e1:ky r p (i + j - 1 - k) = ky r p i:=h.all _ (by lia) (by lia)
  have e2:ky r p k = ky r p i:=h.all _ c.1 c.2
  exact e1.trans e2.symm
 ·rw [if_neg c]
theorem M3 (p:Array Nat) (i j:Nat):(kas_rev p i j).size = p.size:=mirror_size _ _ _ _
theorem D4 (p:Array Nat) (i j:Nat):(kas_rev p i j).Perm p:=mirror_perm _ _ _ _
theorem aP8 (p:Array Nat):∀ f n,1 ≤ n → Up r p n → n ≤ ev (ltR r) (kas_asc p f n) ∧ ev (ltR r) (kas_asc p f n) ≤ n + f ∧ Up r p (ev (ltR r) (kas_asc p f n)) ∧
  (ev (ltR r) (kas_asc p f n) < n + f → ky r p (ev (ltR r) (kas_asc p f n)) < ky r p (ev (ltR r) (kas_asc p f n) - 1)):=by
 intro f
 induction f with
 | zero=>intro n h1 h; exact ⟨Nat.le_refl _,Nat.le_refl _,h,fun q=>absurd q (Nat.lt_irrefl _)⟩
 | succ f ih =>
  intro n h1 h
  unfold kas_asc
  rw [T4]
  by_cases c:r (p.getD n 0) < r (p.getD (n - 1) 0)
  ·rw [as3 c,if_pos rfl]
   exact ⟨Nat.le_refl _,by show n ≤ n + (f + 1); lia,h,fun _=>c⟩
  ·rw [as6 c,if_neg (by simp)]
   obtain ⟨q1,q2,q3,q4⟩:=ih (n + 1) (by lia) (fun i hi hb=>by
    rcases Nat.lt_or_eq_of_le (Nat.le_of_lt_succ hb) with z | z
    ·exact h i hi z
    ·subst z; exact Int.not_lt.mp c)
   exact ⟨by lia,by lia,q3,fun z=>q4 (by lia)⟩
theorem aT5:∀ (f:Nat) (p:Array Nat) (n q:Nat),q < n → n + f ≤ p.size → Dn r p n → Eqs r p (n - (q + 1)) n →
  ∃ p' n' q',ev (ltR r) (kas_desc f p n q) = (p',n',q') ∧ q' < n' ∧ n ≤ n' ∧ n' ≤ n + f ∧ p'.size = p.size ∧ p'.Perm p ∧ Dn r p' n' ∧ Eqs r p' (n' - (q' + 1)) n':=by
 intro f
 induction f with
 | zero=>intro p n q hq hz hd he; exact ⟨p,n,q,rfl,hq,Nat.le_refl _,Nat.le_refl _,rfl,Array.Perm.refl _,hd,he⟩
 | succ f ih =>
  intro p n q hq hz hd he
  unfold kas_desc
  rw [T4]
  by_cases c:r (p.getD n 0) < r (p.getD (n - 1) 0)
  ·rw [as3 c,if_pos rfl]
   have step:∀ p1:Array Nat,p1.size = p.size → p1.Perm p → (∀ k,ky r p1 k = ky r p k) → ∃ p' n' q',ev (ltR r) (kas_desc f p1 (n + 1) 0) = (p',n',q') ∧ q' < n' ∧ n ≤ n' ∧ n' ≤ n + (f + 1) ∧ p'.size = p.size ∧ p'.Perm p ∧ Dn r p' n' ∧ Eqs r p' (n' - (q' + 1)) n':=fun p1 s1 pm hk=>by
    obtain ⟨p',n',q',e,a1,a2,a3,a4,a5,a6,a7⟩:=ih p1 (n + 1) 0 (by lia) (by lia) (fun i hi hb=>by
     rw [hk,hk]
     rcases Nat.lt_or_eq_of_le (Nat.le_of_lt_succ hb) with z | z
     ·exact hd i hi z
     ·subst z; exact Int.le_of_lt c) (fun i hi hb=>by lia)
    exact ⟨p',n',q',e,a1,by lia,by lia,a4.trans s1,a5.trans pm,a6,a7⟩
   by_cases cq:q > 0
   ·rw [if_pos cq]
    exact step _ (M3 _ _ _) (D4 _ _ _) (ak6 (by lia) he)
   ·rw [if_neg cq]
    exact step p rfl (Array.Perm.refl _) fun _=>rfl
  ·rw [as6 c,if_neg (by simp)]
   rw [T4]
   by_cases d:r (p.getD (n - 1) 0) < r (p.getD n 0)
   ·rw [as3 d,if_pos rfl]
    exact ⟨p,n,q,rfl,hq,Nat.le_refl _,by lia,rfl,Array.Perm.refl _,hd,he⟩
   ·rw [as6 d,if_neg (by simp)]
    have eqn:ky r p n = ky r p (n - 1):=Int.le_antisymm (Int.not_lt.mp d) (Int.not_lt.mp c)
    obtain ⟨p',n',q',e,a1,a2,a3,a4,a5,a6,a7⟩:=ih p (n + 1) (q + 1) (by lia) (by lia) (fun i hi hb=>by
     rcases Nat.lt_or_eq_of_le (Nat.le_of_lt_succ hb) with z | z
     ·exact hd i hi z
     ·subst z; exact Int.le_of_eq eqn) (fun i hi hb=>by
     rcases Nat.lt_or_eq_of_le (Nat.le_of_lt_succ hb) with z | z
     ·exact he i (by lia) z
     ·subst z; exact eqn)
    exact ⟨p',n',q',e,a1,by lia,by lia,a4,a5,a6,a7⟩
def Run (r:Nat → Int) (p:Array Nat) (nrem:Nat) (x:Nat × Array Nat):Prop:=x.1 ≤ nrem ∧ 1 ≤ x.1 ∧ x.2.size = p.size ∧ x.2.Perm p ∧ Up r x.2 x.1
theorem ao2 {p:Array Nat} {n nrem:Nat} (h1:1 ≤ n) (hn:n ≤ nrem) (hz:nrem ≤ p.size) (hd:Dn r p n):Run r p nrem (ev (ltR r) (kas_tail3 n nrem p)):=by
 unfold kas_tail3
 rw [Q6]
 have hu:Up r (kas_rev p 0 n) n:=fun i hi hb=>by
  show r _ ≤ r _
  rw [ac0 (by lia),ac0 (by lia),if_pos (by lia),if_pos (by lia)]
  exact hd.mono (0 + n - 1 - i) (0 + n - 1 - (i - 1)) (by lia) (by lia)
 obtain ⟨a1,a2,a3,_⟩:=aP8 (kas_rev p 0 n) (nrem - n) n h1 hu
 exact ⟨by show ev (ltR r) _ ≤ _; lia,by show 1 ≤ ev (ltR r) _; lia,M3 _ _ _,D4 _ _ _,a3⟩
theorem Run.of {p p1:Array Nat} {nrem:Nat} {x:Nat × Array Nat} (h:Run r p1 nrem x) (s:p1.size = p.size) (m:p1.Perm p):Run r p nrem x:=⟨h.1,h.2.1,h.2.2.1.trans s,h.2.2.2.1.trans m,h.2.2.2.2⟩
theorem Y0 {p:Array Nat} {n nrem:Nat} (hn:n + 1 ≤ nrem) (hz:nrem ≤ p.size) (hd:Dn r p (n + 1)):Run r p nrem (ev (ltR r) (kas_descPart n nrem p)):=by
 unfold kas_descPart
 rw [Q6]
 obtain ⟨p',n',q',e,a1,a2,a3,a4,a5,a6,a7⟩:=aT5 (nrem - (n + 1)) p (n + 1) 0 (by lia) (by lia) hd (fun i hi hb=>by lia)
 rw [e]
 dsimp only
 by_cases c:q' > 0
 ·rw [if_pos c]
  have k:=ak6 (r:=r) (by lia) a7
  exact (ao2 (p:=kas_rev p' (n' - (q' + 1)) n') (by lia) (by lia) (by rw [M3]; lia) (fun i hi hb=>by rw [k,k]; exact a6 i hi hb)).of ((M3 _ _ _).trans a4) ((D4 _ _ _).trans a5)
 ·rw [if_neg c]
  exact (ao2 (p:=p') (by lia) (by lia) (by lia) a6).of a4 a5
theorem ap1 {p:Array Nat} {nrem:Nat} (h1:1 ≤ nrem) (hz:nrem ≤ p.size):Run r p nrem (ev (ltR r) (kas_count nrem p)):=by
 unfold kas_count
 rw [Q6]
 obtain ⟨a1,a2,a3,a4⟩:=aP8 (r:=r) p (nrem - 1) 1 (Nat.le_refl _) (fun i hi hb=>by lia)
 generalize ev (ltR r) (kas_asc p (nrem - 1) 1) = n at *
 by_cases c:(n == nrem) = true
 ·rw [if_pos c]
  exact ⟨by show n ≤ nrem; lia,a1,rfl,Array.Perm.refl _,a3⟩
 ·rw [if_neg c]
  have hne:n ≠ nrem:=by simpa using c
  have stop:=a4 (by lia)
  by_cases c2:n > 1
  ·rw [if_pos c2]
   rw [T4]
   by_cases d:r (p.getD 0 0) < r (p.getD (n - 1) 0)
   ·rw [as3 d,if_pos rfl]
    exact ⟨by show n ≤ nrem; lia,a1,rfl,Array.Perm.refl _,a3⟩
   ·rw [as6 d,if_neg (by simp)]
    have eqs:Eqs r p 0 n:=fun i hi hb=>by
     have q1:=a3.mono 0 (i - 1) (by lia) (by lia)
     have q2:=a3.mono (i - 1) i (by lia) hb
     have q3:=a3.mono i (n - 1) (by lia) (by lia)
     have q4:ky r p (n - 1) ≤ ky r p 0:=Int.not_lt.mp d
     lia
    have k:=ak6 (r:=r) (by lia) eqs
    refine (Y0 (p:=kas_rev p 0 n) (by lia) (by rw [M3]; exact hz) (fun i hi hb=>?_)).of (M3 _ _ _) (D4 _ _ _)
    rw [k,k]
    rcases Nat.lt_or_eq_of_le (Nat.le_of_lt_succ hb) with z | z
    ·exact Int.le_of_eq (eqs i hi z)
    ·subst z; exact Int.le_of_lt stop
  ·rw [if_neg c2]
   obtain rfl:n = 1:=by lia
   exact Y0 (by lia) hz (fun i hi hb=>by
    obtain rfl:i = 1:=by lia
    exact Int.le_of_lt stop)
theorem aO8 {p:Array Nat} {k:Nat} (hu:Up r p k):∀ f l m,m - l ≤ f → l ≤ m → m ≤ k → (∀ i,i < l → ky r p i ≤ ky r p k) → (∀ i,m ≤ i → i < k → ky r p k < ky r p i) →
  ev (ltR r) (kas_place p k f l m) ≤ k ∧ (∀ i,i < ev (ltR r) (kas_place p k f l m) → ky r p i ≤ ky r p k) ∧ ∀ i,ev (ltR r) (kas_place p k f l m) ≤ i → i < k → ky r p k < ky r p i:=by
 intro f
 induction f with
 | zero =>
  intro l m h1 h2 h3 h4 h5
  obtain rfl:l = m:=by lia
  exact ⟨h3,h4,h5⟩
 | succ f ih =>
  intro l m h1 h2 h3 h4 h5
  unfold kas_place
  by_cases c:l ≥ m
  ·rw [if_pos c]
   obtain rfl:l = m:=by lia
   exact ⟨h3,h4,h5⟩
  ·rw [if_neg c]
   rw [T4]
   by_cases d:r (p.getD k 0) < r (p.getD ((l + m) / 2) 0)
   ·rw [as3 d,if_pos rfl]
    refine ih l ((l + m) / 2) (by lia) (by lia) (by lia) h4 (fun i hi hb=>?_)
    exact Int.lt_of_lt_of_le d (hu.mono _ i hi hb)
   ·rw [as6 d,if_neg (by simp)]
    refine ih ((l + m) / 2 + 1) m (by lia) (by lia) h3 (fun i hi=>?_) h5
    exact Int.le_trans (hu.mono i ((l + m) / 2) (by lia) (by lia)) (Int.not_lt.mp d)
theorem X5 {p:Array Nat} {k l:Nat} (hk:k < p.size) (hl:l ≤ k) (i:Nat):(bubble p k (k - l)).getD i 0 = if i = l then p.getD k 0 else if l < i ∧ i ≤ k then p.getD (i - 1) 0 else p.getD i 0:=by
 have e:=getElem?_bubble hk (k - l) (by lia) i
 rw [show k - (k - l) = l by lia] at e
 rw [Array.getD_eq_getD_getElem?,e]
 by_cases c1:i = l
 ·rw [if_pos c1,if_pos c1,Array.getD_eq_getD_getElem?]
 ·rw [if_neg c1,if_neg c1]
  by_cases c2:l < i ∧ i ≤ k
  ·rw [if_pos c2,if_pos c2,Array.getD_eq_getD_getElem?]
  ·rw [if_neg c2,if_neg c2,Array.getD_eq_getD_getElem?]
theorem a52:∀ (f:Nat) (p:Array Nat) (k:Nat),k + f ≤ p.size → Up r p k → (ev (ltR r) (kas_bin f p k)).Perm p ∧ Up r (ev (ltR r) (kas_bin f p k)) (k + f):=by
 intro f
 induction f with
 | zero=>intro p k hz hu; exact ⟨Array.Perm.refl _,hu⟩
 | succ f ih =>
  intro p k hz hu
  unfold kas_bin
  rw [Q6]
  obtain ⟨b1,b2,b3⟩:=aO8 hu k 0 k (by lia) (by lia) (Nat.le_refl _) (fun i hi=>absurd hi (by lia)) (fun i hi hb=>absurd hb (by lia))
  generalize ev (ltR r) (kas_place p k k 0 k) = l at *
  have hk:k < p.size:=by lia
  obtain ⟨c1,c2⟩:=ih (bubble p k (k - l)) (k + 1) (by rw [bubble_size]; lia) (fun i hi hb=>by
   show r _ ≤ r _
   rw [X5 hk b1,X5 hk b1]
   by_cases e1:i - 1 = l
   ·rw [if_pos e1,if_neg (show ¬ i = l by lia),if_pos (by lia)]
    have:=b3 (i - 1) (by lia) (by lia)
    exact Int.le_of_lt this
   ·rw [if_neg e1]
    by_cases e2:i = l
    ·rw [if_pos e2,if_neg (by lia)]
     exact b2 (i - 1) (by lia)
    ·rw [if_neg e2]
     by_cases e3:l < i
     ·rw [if_pos (by lia),if_pos (by lia)]
      exact hu (i - 1) (by lia) (by lia)
     ·rw [if_neg (by lia),if_neg (by lia)]
      exact hu i hi (by lia))
  exact ⟨c1.trans (bubble_perm _ _ _),by rw [show k + (f + 1) = k + 1 + f by lia]; exact c2⟩
theorem aR3 {n:Nat} (hn:1 ≤ n):(ev (ltR r) (kas_sort n)).Perm (List.range n).toArray ∧ Up r (ev (ltR r) (kas_sort n)) n:=by
 unfold kas_sort
 rw [Q6]
 obtain ⟨h1,h2,h3,h4,h5⟩:=ap1 (r:=r) (p:=(List.range n).toArray) (nrem:=n) hn (by simp)
 generalize ev (ltR r) (kas_count n (List.range n).toArray) = x at *
 have hs:x.2.size = n:=by rw [h3]; simp
 by_cases c:x.1 < n
 ·rw [if_pos c]
  have hm:max x.1 1 = x.1:=by lia
  rw [hm]
  obtain ⟨c1,c2⟩:=a52 (r:=r) (n - x.1) x.2 x.1 (by lia) h5
  rw [show x.1 + (n - x.1) = n by lia] at c2
  exact ⟨c1.trans h4,c2⟩
 ·rw [if_neg c]
  have:x.1 = n:=by lia
  rw [this] at h5
  exact ⟨h4,h5⟩
def T8 {α:Type} (lt:Nat → Nat → Bool) (n:Nat):KasT α → Prop
 | .ret _=>True
 | .ask i j k=>i < n ∧ j < n ∧ T8 lt n (k (lt i j))
theorem T8.bind {α β:Type} {lt:Nat → Nat → Bool} {n:Nat} {f:α → KasT β}:∀ {t:KasT α},T8 lt n t → T8 lt n (f (ev lt t)) → T8 lt n (t.bind f)
 | .ret _,_,h=>h
 | .ask i j k,h,h'=>⟨h.1,h.2.1,T8.bind (t:=k (lt i j)) h.2.2 h'⟩
def InN (n:Nat) (p:Array Nat):Prop:=0 < n ∧ ∀ x ∈ p.toList,x < n
theorem InN.at {n:Nat} {p:Array Nat} (h:InN n p) (k:Nat):p.getD k 0 < n:=by
 rw [Array.getD_eq_getD_getElem?]
 cases e:p[k]? with
 | none=>exact h.1
 | some x=>exact h.2 x (by rw [Array.mem_toList_iff]; exact Array.mem_of_getElem? e)
theorem InN.perm {n:Nat} {p p':Array Nat} (h:InN n p) (m:p'.Perm p):InN n p':=⟨h.1,fun x hx=>h.2 x (by
 rw [Array.mem_toList_iff] at hx ⊢
 exact (Array.Perm.mem_iff m).mp hx)⟩
variable {n₀:Nat}
theorem ad4 {p:Array Nat} (h:InN n₀ p):∀ f n,T8 (ltR r) n₀ (kas_asc p f n)
 | 0,_=>True.intro
 | f + 1,n=>by
  unfold kas_asc
  refine ⟨h.at _,h.at _,?_⟩
  dsimp only
  split
  ·exact True.intro
  ·exact ad4 h f (n + 1)
theorem Q2:∀ (f:Nat) {p:Array Nat} (n q:Nat),InN n₀ p → T8 (ltR r) n₀ (kas_desc f p n q)
 | 0,_,_,_,_=>True.intro
 | f + 1,p,n,q,h=>by
  unfold kas_desc
  refine ⟨h.at _,h.at _,?_⟩
  dsimp only
  split
  ·split
   ·exact Q2 f _ _ (h.perm (D4 _ _ _))
   ·exact Q2 f _ _ h
  ·refine ⟨h.at _,h.at _,?_⟩
   dsimp only
   split
   ·exact True.intro
   ·exact Q2 f _ _ h
theorem Q5:∀ (f:Nat) (p:Array Nat) (n q:Nat),(ev (ltR r) (kas_desc f p n q)).1.Perm p
 | 0,p,_,_=>Array.Perm.refl _
 | f + 1,p,n,q=>by
  unfold kas_desc
  rw [T4]
  split
  ·split
   ·exact (Q5 f _ _ _).trans (D4 _ _ _)
   ·exact Q5 f _ _ _
  ·rw [T4]
   split
   ·exact Array.Perm.refl _
   ·exact Q5 f _ _ _
theorem ac6 {p:Array Nat} (n nrem:Nat) (h:InN n₀ p):T8 (ltR r) n₀ (kas_tail3 n nrem p):=(ad4 (h.perm (D4 _ _ _)) _ _).bind True.intro
theorem R9 {p:Array Nat} (n nrem:Nat) (h:InN n₀ p):T8 (ltR r) n₀ (kas_descPart n nrem p):=by
 refine (Q2 _ _ _ h).bind ?_
 have pm:=Q5 (r:=r) (nrem - (n + 1)) p (n + 1) 0
 split
 ·exact ac6 _ _ ((h.perm pm).perm (D4 _ _ _))
 ·exact ac6 _ _ (h.perm pm)
theorem ay2 {p:Array Nat} (nrem:Nat) (h:InN n₀ p):T8 (ltR r) n₀ (kas_count nrem p):=by
 refine (ad4 h _ _).bind ?_
 split
 ·exact True.intro
 ·split
  ·refine ⟨h.at _,h.at _,?_⟩
   dsimp only
   split
   ·exact True.intro
   ·exact R9 _ _ (h.perm (D4 _ _ _))
  ·exact R9 _ _ h
theorem S6 {p:Array Nat} {k:Nat} (h:InN n₀ p):∀ f l m,T8 (ltR r) n₀ (kas_place p k f l m)
 | 0,_,_=>True.intro
 | f + 1,l,m=>by
  unfold kas_place
  split
  ·exact True.intro
  ·refine ⟨h.at _,h.at _,?_⟩
   dsimp only
   split
   ·exact S6 h f _ _
   ·exact S6 h f _ _
theorem aq4:∀ (f:Nat) {p:Array Nat} (k:Nat),InN n₀ p → T8 (ltR r) n₀ (kas_bin f p k)
 | 0,_,_,_=>True.intro
 | f + 1,p,k,h=>(S6 h _ _ _).bind (aq4 f _ (h.perm (bubble_perm _ _ _)))
theorem aH4 {n:Nat} (hn:1 ≤ n):T8 (ltR r) n (kas_sort n):=by
 have h:InN n (List.range n).toArray:=⟨hn,fun x hx=>by simpa using hx⟩
 refine (ay2 n h).bind ?_
 obtain ⟨h1,h2,h3,h4,h5⟩:=ap1 (r:=r) (p:=(List.range n).toArray) (nrem:=n) hn (by simp)
 split
 ·exact aq4 _ _ (h.perm h4)
 ·exact True.intro
theorem aY1 {cmp:Nat → Nat → (Bool → Shared → Prop) → Shared → Prop} {J:Shared → Prop} {n:Nat} {lt:Nat → Nat → Bool} {α:Type} (hc:∀ i j C s,i < n → j < n → J s → (∀ s',J s' → C (lt i j) s') → cmp i j C s) :
  ∀ (t:KasT α) (s:Shared) (Q:α → Shared → Prop),T8 lt n t → J s → (∀ s',J s' → Q (ev lt t) s') → t.kasWp cmp Q s
 | .ret a,s,Q,_,hJ,h=>h s hJ
 | .ask i j k,s,Q,ha,hJ,h=>hc i j _ s ha.1 ha.2.1 hJ fun s' hJ'=>aY1 hc (k (lt i j)) s' Q ha.2.2 hJ' h
theorem au2 {α:Type} {xs:List α} {r:Nat → Int} {p:Array Nat} (hp:p.Perm (List.range xs.length).toArray) (hu:Up r p xs.length) (d:α) (key:α → Int) (hk:∀ i,i < xs.length → r i = key (xs.getD i d)) :
  (p.toList.map fun i=>xs.getD i d).Perm xs ∧ (p.toList.map fun i=>xs.getD i d).Pairwise (fun a b=>key a ≤ key b):=by
 have hpl:p.toList.Perm (List.range xs.length):=by simpa using Array.perm_iff_toList_perm.mp hp
 have hlen:p.toList.length = xs.length:=by simpa using hpl.length_eq
 constructor
 ·refine (hpl.map _).trans ?_
  have:(List.range xs.length).map (fun i=>xs.getD i d) = xs:=by
   apply List.ext_getElem
   ·simp
   ·intro i h1 h2
    simp [List.getD,h2]
  rw [this]
 ·rw [List.pairwise_iff_getElem]
  intro i j hi hj hij
  rw [List.length_map] at hi hj
  rw [List.getElem_map,List.getElem_map]
  have m:∀ k (hk:k < p.toList.length),p.toList[k] < xs.length:=fun k hk=>by
   have:=hpl.mem_iff.mp (List.getElem_mem hk)
   simpa using this
  rw [← hk _ (m i hi),← hk _ (m j hj)]
  have q:=hu.mono i j (by lia) (by lia)
  have e:∀ k (hk:k < p.toList.length),p.getD k 0 = p.toList[k]:=fun k hk=>by
   have hk':k < p.size:=by simpa using hk
   simp [Array.getD,hk']
  rw [ky,ky,e i hi,e j hj] at q
  exact q
end
end L2
namespace L2
open PySem PySem.Spec PyProof.Rows
def V7 (x:Int):List Int → List Int
 | []=>[x]
 | y :: r=>if x < y then x :: y :: r else if x = y then y :: r else y :: V7 x r
def A7 (ns:List Int):List Int:=ns.foldr V7 []
theorem aa5 (x k:Int):∀ l:List Int,k ∈ V7 x l ↔ k = x ∨ k ∈ l
 | []=>by simp [V7]
 | y :: r=>by
  unfold V7
  split
  ·simp
  ·split
   ·rename_i h; subst h; simp
   ·rw [List.mem_cons,aa5 x k r,List.mem_cons]
    constructor
    ·rintro (h | h | h)
     ·exact .inr (.inl h)
     ·exact .inl h
     ·exact .inr (.inr h)
    ·rintro (h | h | h)
     ·exact .inr (.inl h)
     ·exact .inl h
     ·exact .inr (.inr h)
theorem ah1 (x:Int):∀ l:List Int,l.Pairwise (· < ·) → (V7 x l).Pairwise (· < ·)
 | [],_=>by simp [V7]
 | y :: r,h=>by
  rw [List.pairwise_cons] at h
  unfold V7
  split
  ·rename_i hlt
   rw [List.pairwise_cons,List.pairwise_cons]
   refine ⟨fun a ha=>?_,h⟩
   rcases List.mem_cons.mp ha with rfl | ha
   ·exact hlt
   ·exact Int.lt_trans hlt (h.1 a ha)
  ·split
   ·rw [List.pairwise_cons]; exact h
   ·rename_i h1 h2
    rw [List.pairwise_cons]
    refine ⟨fun a ha=>?_,ah1 x r h.2⟩
    rcases (aa5 x a r).mp ha with rfl | ha
    ·lia
    ·exact h.1 a ha
theorem J3 (k:Int):∀ ns:List Int,k ∈ A7 ns ↔ k ∈ ns
 | []=>Iff.rfl
 | x :: r=>by
  show k ∈ V7 x (A7 r) ↔ _
  rw [aa5,J3 k r,List.mem_cons]
theorem E5:∀ ns:List Int,(A7 ns).Pairwise (· < ·)
 | []=>List.Pairwise.nil
 | x :: r=>ah1 x _ (E5 r)
theorem L6 {l:List Int} (h:l.Pairwise (· < ·)):l.Nodup:=h.imp fun {a b} q e=>by rw [e] at q; exact Int.lt_irrefl _ q
theorem K3:∀ (l1 l2:List Int),l1.Nodup → (∀ x ∈ l1,x ∈ l2) → l2.length ≤ l1.length → l1.Perm l2
 | [],l2,_,_,h=>by
  have:l2 = []:=List.eq_nil_of_length_eq_zero (by simpa using h)
  subst this; exact List.Perm.refl _
 | a :: r,l2,hn,hs,hl=>by
  rw [List.nodup_cons] at hn
  have ha:=hs a List.mem_cons_self
  have p:=List.perm_cons_erase ha
  refine ((K3 r (l2.erase a) hn.2 (fun x hx=>?_) ?_).cons a).trans p.symm
  ·have hne:x ≠ a:=fun e=>hn.1 (e ▸ hx)
   exact (List.mem_erase_of_ne hne).mpr (hs x (List.mem_cons_of_mem _ hx))
  ·have:=p.length_eq
   rw [List.length_cons] at this hl
   lia
theorem ao4:∀ {l1 l2:List Int},l1.Pairwise (· < ·) → l2.Pairwise (· < ·) → (∀ k,k ∈ l1 ↔ k ∈ l2) → l1 = l2
 | [],[],_,_,_=>rfl
 | [],b :: r,_,_,h=>absurd ((h b).mpr List.mem_cons_self) (by simp)
 | a :: r,[],_,_,h=>absurd ((h a).mp List.mem_cons_self) (by simp)
 | a :: r,b :: t,h1,h2,h=>by
  rw [List.pairwise_cons] at h1 h2
  have e:a = b:=by
   rcases List.mem_cons.mp ((h a).mp List.mem_cons_self) with q | q
   ·exact q
   ·rcases List.mem_cons.mp ((h b).mpr List.mem_cons_self) with q' | q'
    ·exact q'.symm
    ·have z1:=h2.1 a q
     have z2:=h1.1 b q'
     lia
  subst e
  have:r = t:=ao4 h1.2 h2.2 fun k=>by
   have q:=h k
   rw [List.mem_cons,List.mem_cons] at q
   constructor
   ·intro hk
    rcases q.mp (.inr hk) with e | z
    ·have:=h1.1 k hk; lia
    ·exact z
   ·intro hk
    rcases q.mpr (.inr hk) with e | z
    ·have:=h2.1 k hk; lia
    ·exact z
  rw [this]
theorem aG0 {ns' ns:List Int} (hp:ns'.Pairwise (· ≤ ·)) (hm:∀ k,k ∈ ns' ↔ k ∈ ns) (hl:ns'.length = (A7 ns).length):ns' = A7 ns:=by
 have pm:=K3 (A7 ns) ns' (L6 (E5 ns)) (fun x hx=>(hm x).mpr ((J3 x ns).mp hx)) (Nat.le_of_eq hl)
 have nd:ns'.Nodup:=pm.nodup_iff.mp (L6 (E5 ns))
 refine ao4 ((hp.and nd).imp fun {a b} q=>?_) (E5 ns) fun k=>by rw [hm,J3]
 have:=q.1
 have:=q.2
 lia
theorem V1 (ns:List Int) (k:Int):(firstMet (fun i=>ns.getD i 0) ns.length).any (· == k) = decide (k ∈ ns):=by
 rw [firstMet_any]
 have e:(List.range ns.length).map (fun i=>ns.getD i 0) = ns:=by
  apply List.ext_getElem
  ·simp
  ·intro i h1 h2
   simp [List.getD,h2]
 rw [e,Bool.eq_iff_iff,List.any_eq_true,decide_eq_true_iff]
 constructor
 ·rintro ⟨x,hx,q⟩
  rw [← eq_of_beq q]; exact hx
 ·intro h
  exact ⟨k,h,beq_self_eq_true k⟩
theorem P2 (val:Nat → Int):∀ i,(firstMet val i).Nodup
 | 0=>List.nodup_nil
 | i + 1=>by
  rw [firstMet_succ]
  unfold step_dedup
  have ih:=P2 val i
  by_cases h:(firstMet val i).any (· == val i) = true
  ·rw [if_pos h]; exact ih
  ·rw [if_neg h,List.nodup_append]
   refine ⟨ih,by simp,fun a ha b hb e=>h ?_⟩
   rw [List.mem_singleton] at hb
   rw [List.any_eq_true]
   exact ⟨a,ha,by rw [e,hb]; exact beq_self_eq_true _⟩
theorem ai5 (ns:List Int):(firstMet (fun i=>ns.getD i 0) ns.length).length = (A7 ns).length:=by
 have m:∀ k,k ∈ firstMet (fun i=>ns.getD i 0) ns.length ↔ k ∈ ns:=fun k=>by
  have:=V1 ns k
  rw [Bool.eq_iff_iff,List.any_eq_true,decide_eq_true_iff] at this
  rw [← this]
  exact ⟨fun h=>⟨k,h,beq_self_eq_true k⟩,fun ⟨x,hx,q⟩=>by rw [← eq_of_beq q]; exact hx⟩
 have n1:=P2 (fun i=>ns.getD i 0) ns.length
 have n2:=L6 (E5 ns)
 rcases Nat.le_total (firstMet (fun i=>ns.getD i 0) ns.length).length (A7 ns).length with h | h
 ·exact (K3 (A7 ns) _ n2 (fun x hx=>(m x).mpr ((J3 x ns).mp hx)) h).length_eq.symm
 ·exact (K3 _ (A7 ns) n1 (fun x hx=>(J3 x ns).mpr ((m x).mp hx)) h).length_eq
theorem ah7 (ns:List Int):(A7 ns).length ≤ ns.length:=by
 induction ns with
 | nil=>exact Nat.le_refl _
 | cons x r ih =>
  have:∀ l:List Int,(V7 x l).length ≤ l.length + 1:=by
   intro l
   induction l with
   | nil=>simp [V7]
   | cons y t ih =>
    unfold V7; split <;> try split
    all_goals simp only [List.length_cons]
    all_goals lia
  have q:=this (A7 r)
  show (V7 x (A7 r)).length ≤ _
  rw [List.length_cons]
  lia
section
variable {X:Cx}
def aH2 (X:Cx) (l:Addr) (ns:List Int):HO:=.ext fun h=>F7 (intKind X.prog X.w) h l (fun k=>decide (k ∈ ns)) (A7 ns).length
theorem ae5 (hc:X.calm = true):y7 X (.type "set") (fun xs H Q=>∃ (p:Addr) (ns:List Int),xs = [.ref p] ∧ SqL X.K H p (ns.map V.int) ∧ ns.length < 4000 ∧ ∀ l,H l = none → Q (.ref l) (upd H l (aH2 X l ns))):=by
 intro pins s σ H xs us Q I r h
 obtain ⟨p,ns,rfl,hq,hlt,q⟩:=h
 obtain ⟨u,rfl,rx⟩:=K4 r
 cases rx
 obtain ⟨its,r',pl,hz⟩:=I.list hq
 have hi:IntsAre its ns:=aA3 r'
 have hlen:its.length = ns.length:=hi.length
 refine ao9 (I.ok.hd hc) pl.isList (ns:=ns) (by simpa using hi) (by show its.toArray.size + 1 < 4096; rw [List.size_toArray]; lia) fun h' tk x kp=>?_
 have x':F7 (intKind X.prog X.w) h' s.heap.objs.size (fun k=>decide (k ∈ ns)) (A7 ns).length:=x.congr (fun k=>by
  rw [List.size_toArray,hlen]; exact V1 ns k) (by rw [List.size_toArray,hlen]; exact ai5 ns)
 have he:∃ o,h'.get? s.heap.objs.size = some o:=let ⟨o,_,_,_,e,_⟩:=x'; ⟨o,e⟩
 exact ⟨.ref s.heap.objs.size,_,I.laid (t':=tk) (o:=aH2 X s.heap.objs.size ns) (fun b o e=>kp b o (Heap.lt_size e) e) (Nat.le_refl _) ⟨x',he,fun h1 h2 y k=>y.of_get k⟩,rfl,q _ (I.hok.fresh (Nat.le_refl _))⟩
theorem aS5 {pins:List (Addr × Obj)} {σ:St} {H:Hp} {s:Shared} {p:Addr} {ns:List Int} (I:Inv X pins σ H s) (e:H p = some (aH2 X p ns)):F7 (intKind X.prog X.w) s.heap p (fun k=>decide (k ∈ ns)) (A7 ns).length :=
 (show m5 X.prog X.w H s.heap p (aH2 X p ns) from I.hok p _ e).1
theorem Y8 (hc:X.calm = true):y7 X (.builtin "sorted") (fun xs H Q=>∃ (p:Addr) (ns:List Int),xs = [.ref p] ∧ H p = some (aH2 X p ns) ∧ ns.length < 64 ∧ ∀ l,H l = none → Q (.ref l) (upd H l (.lst ((A7 ns).map V.int)))):=by
 intro pins s σ H xs us Q I r h
 obtain ⟨p,ns,rfl,he,hlt,q⟩:=h
 obtain ⟨u,rfl,rx⟩:=K4 r
 cases rx
 have hl:=ah7 ns
 refine ay7 (I.ok.hd hc) (aS5 I he) (by lia) fun l h' d tk e out ns' a1 a2 a3 a4 hlz kp g=>?_
 have e2:ns' = A7 ns:=aG0 a2 (fun k=>by rw [a3,decide_eq_true_iff]) a4
 subst e2
 have fr:=I.hok.fresh hlz
 have new:m5 X.prog X.w (upd H l (.lst ((A7 ns).map V.int))) h' l (.lst ((A7 ns).map V.int)):=⟨by rw [List.length_map]; exact Nat.le_of_lt (m3 (by lia)),out.toList,e,Q7 a1,by simpa [seqObj] using g⟩
 exact ⟨.ref l,_,I.call' (s':={ s with heap:=h',drawn:=d,toks:=tk }) (ch:=[]) rfl (Un.track (Un.kept kp) hlz fr) (HOk.track (I.hok.kept kp) fr new) I.bare (fun b z=>nomatch z),rfl,q l fr⟩
end
def EqV (X:Cx) (H:Hp) (n:Nat) (x y:V) (b:Bool):Prop :=
 ∀ (A:Around) (pins:List (Addr × Obj)) (s:Shared) (σ:St) (u v:Value),Inv X pins σ H s → n5 x u → n5 y v → A.units + n < cLine → SeqAt.EqAt A s u v b
structure EqRep (X:Cx) {δ:Type} [DecidableEq δ] (n:Nat) (R:Hp → V → δ → Prop):Prop where
 eq:∀ H x y dx dy,R H x dx → R H y dy → EqV X H n x y (decide (dx = dy))
 fn:∀ pins s σ H x d d',Inv X pins σ H s → R H x d → R H x d' → d = d'
def a63:Hp → V → Int → Prop:=fun _ x i=>x = .int i
theorem aV2 {i j:Int}:(i == j) = decide (i = j):=by rw [Bool.eq_iff_iff]; simp
section
variable {X:Cx}
theorem S8:EqRep X 0 a63 where
 eq:=fun H x y dx dy hx hy A pins s σ u v I ru rv hu=>by
  subst hx hy
  obtain ⟨t,rfl⟩:=ru
  obtain ⟨t',rfl⟩:=rv
  rw [← aV2]
  exact SeqAt.EqAt.int_int _ _ _ _
 fn:=fun _ _ _ _ x d d' _ h h'=>by subst h; injection h'
variable {δ:Type} [DecidableEq δ] {n:Nat} {R:Hp → V → δ → Prop}
def bb1 (K:PySem.W.Frag) (R:Hp → V → δ → Prop):Hp → V → List δ → Prop:=fun H x ds=>∃ a xs,x = .ref a ∧ SqT K H a xs ∧ Paired (R H) xs ds
def aK0 (K:PySem.W.Frag) (R:Hp → V → δ → Prop):Hp → V → List δ → Prop:=fun H x ds=>∃ a xs,x = .ref a ∧ SqL K H a xs ∧ Paired (R H) xs ds
theorem p4 {α β:Type} {Rl:α → β → Prop}:∀ {xs:List α} {ds:List β},Paired Rl xs ds → ∀ (i:Nat) (x:α),xs[i]? = some x → ∃ d,ds[i]? = some d ∧ Rl x d
 | _,_,.nil,i,x,h=>by simp at h
 | _,_,.cons r t,0,x,h=>by simp at h; subst h; exact ⟨_,rfl,r⟩
 | _,_,.cons r t,i + 1,x,h=>by
  obtain ⟨d,e,q⟩:=p4 t i x (by simpa using h)
  exact ⟨d,by simpa using e,q⟩
theorem aC3 (ds ds':List δ) (h:ds.length = ds'.length):((List.range ds.length).all fun j=>decide (ds[j]? = ds'[j]?)) = decide (ds = ds'):=by
 rw [Bool.eq_iff_iff,List.all_eq_true,decide_eq_true_iff]
 constructor
 ·intro q
  apply List.ext_getElem?
  intro i
  by_cases hi:i < ds.length
  ·exact of_decide_eq_true (q i (by simpa using hi))
  ·rw [List.getElem?_eq_none (by lia),List.getElem?_eq_none (by lia)]
 ·rintro rfl i hi
  simp
theorem at6 (ep:EqRep X n R) {H:Hp} {A:Around} {pins:List (Addr × Obj)} {s:Shared} {σ:St} (I:Inv X pins σ H s) {xs ys:List V} {ds ds':List δ} {us vs:List Value} (hx:Paired (R H) xs ds) (hy:Paired (R H) ys ds') (ru:j9 xs us) (rv:j9 ys vs)
  (hu:A.units + n < cLine):∀ j (h1:j < us.toArray.size) (h2:j < vs.toArray.size),SeqAt.EqAt A s us.toArray[j] vs.toArray[j] (decide (ds[j]? = ds'[j]?)):=fun j h1 h2=>by
 have l1:=ru.length
 have l2:=rv.length
 rw [List.size_toArray] at h1 h2
 have e1:xs[j]? = some (xs[j]'(by lia)):=List.getElem?_eq_getElem _
 have e2:ys[j]? = some (ys[j]'(by lia)):=List.getElem?_eq_getElem _
 obtain ⟨d,q1,r1⟩:=p4 hx j _ e1
 obtain ⟨d',q2,r2⟩:=p4 hy j _ e2
 obtain ⟨u,w1,s1⟩:=ru.get e1
 obtain ⟨v,w2,s2⟩:=rv.get e2
 have z1:us.toArray[j] = u:=by rw [List.getElem?_eq_getElem h1] at w1; simpa using w1
 have z2:vs.toArray[j] = v:=by rw [List.getElem?_eq_getElem h2] at w2; simpa using w2
 rw [z1,z2,q1,q2]
 have:decide (some d = some d') = decide (d = d'):=by rw [Bool.eq_iff_iff]; simp
 rw [this]
 exact ep.eq H _ _ _ _ r1 r2 A pins s σ u v I s1 s2 hu
theorem M0 (ep:EqRep X n R) {H:Hp} {pins:List (Addr × Obj)} {s:Shared} {σ:St} (I:Inv X pins σ H s):∀ {xs:List V} {ds ds':List δ},Paired (R H) xs ds → Paired (R H) xs ds' → ds = ds'
 | _,_,_,.nil,.nil=>rfl
 | _,_,_,.cons r t,.cons r' t'=>by rw [ep.fn pins s σ H _ _ _ I r r',M0 ep I t t']
theorem av4 (ep:EqRep X n R):EqRep X (n + 1) (bb1 X.K R) where
 eq:=fun H x y dx dy hx hy A pins s σ u v I ru rv hu=>by
  obtain ⟨a,xs,rfl,ha,px⟩:=hx
  obtain ⟨b,ys,rfl,hb,py⟩:=hy
  cases ru
  cases rv
  by_cases hab:a = b
  ·subst hab
   have:=I.tuple_inj ha hb
   subst this
   rw [M0 ep I px py,decide_eq_true rfl]
   exact SeqAt.EqAt.same _
  ·obtain ⟨us,r1,p1,_⟩:=I.tuple ha
   obtain ⟨vs,r2,p2,_⟩:=I.tuple hb
   have l1:=r1.length
   have l2:=r2.length
   have l3:=Paired.length px
   have l4:=Paired.length py
   have:=SeqAt.RcAt.tuples (A:=A) (e:=fun j=>decide (dx[j]? = dy[j]?)) p1 p2 (by lia) (at6 ep I px py r1 r2 (by show A.units + 1 + n < cLine; lia))
   refine SeqAt.EqAt.of_refs hab ?_
   have e:((List.range (min us.toArray.size vs.toArray.size)).all (fun j=>decide (dx[j]? = dy[j]?)) && us.toArray.size == vs.toArray.size) = decide (dx = dy):=by
    rw [List.size_toArray,List.size_toArray]
    by_cases hl:dx.length = dy.length
    ·rw [show min us.length vs.length = dx.length by lia,aC3 dx dy hl,show (us.length == vs.length) = true by simp; lia,Bool.and_true]
    ·rw [show (us.length == vs.length) = false by simp; lia,Bool.and_false,decide_eq_false (fun z=>hl (by rw [z]))]
   rw [← e]
   exact this
 fn:=fun pins s σ H x d d' I h h'=>by
  obtain ⟨a,xs,rfl,ha,px⟩:=h
  obtain ⟨b,ys,e,hb,py⟩:=h'
  cases e
  have:=I.tuple_inj ha hb
  subst this
  exact M0 ep I px py
end
end L2
namespace L2
open PySem PySem.Spec PyProof.Rows PySem.W
def M7:List V → List V → Option Bool
 | [],[]=>some false
 | [],_ :: _=>some true
 | _ :: _,[]=>some false
 | .int a :: r,.int b :: r'=>if a = b then M7 r r' else some (decide (a < b))
 | .ref a :: r,.ref b :: r'=>if a = b then M7 r r' else none
 | _,_=>none
section
variable {prog:Program} {w:World} {A:Around} {E:Value → Shared → Prop} {s:Shared}
theorem aS9 {a b:Int} {t u:Tok} {k:Bool} {Q:Bool → Shared → Prop} (h:Q (decide (a < b)) s):wpAny (model prog w) A (oneLt' k (.int a t) (.int b u)) Q E s:=by
 cases k with
 | true=>exact oneLt_int h
 | false=>exact kat_one _ _ (lt_int (show PySem.W.BoolBack Q (.bool (decide (a < b))) s from h))
theorem ab6 {b fin:Bool} {Q:Bool → Shared → Prop}:∀ (xs ys:List V) (us vs:List Value) (i:Nat) (c:Bool),j9 xs us → j9 ys vs → M7 xs ys = some c → fin = decide (us.length < vs.length) → Q c s → KatLex prog w A b fin Q (us.zip vs) i s
 | [],[],_,_,i,c,.nil,.nil,h,hf,q=>by
  have e:c = false:=by simpa [M7] using h.symm
  subst e
  refine kat_nil ?_
  rw [hf]; exact q
 | [],y :: ys,_,_,i,c,.nil,.cons _ _,h,hf,q=>by
  have e:c = true:=by simpa [M7] using h.symm
  subst e
  refine kat_nil ?_
  rw [hf,decide_eq_true (by simp)]; exact q
 | x :: xs,[],_,_,i,c,.cons _ _,.nil,h,hf,q=>by
  have e:c = false:=by cases x <;> simpa [M7] using h.symm
  subst e
  refine kat_nil ?_
  rw [hf,decide_eq_false (by simp)]; exact q
 | x :: xs,y :: ys,u :: us,v :: vs,i,c,.cons rx tx,.cons ry ty,h,hf,q=>by
  have hf':fin = decide (us.length < vs.length):=by
   rw [hf,List.length_cons,List.length_cons]
   rw [Bool.eq_iff_iff,decide_eq_true_iff,decide_eq_true_iff]
   lia
  rw [List.zip_cons_cons]
  cases x with
  | int m =>
   cases y with
   | int k =>
    obtain ⟨t,rfl⟩:=rx
    obtain ⟨t',rfl⟩:=ry
    refine kat_cons (wpAny_eqBool_int ?_)
    by_cases e:m = k
    ·rw [show (m == k) = true by simpa using e]
     have h':M7 xs ys = some c:=by simpa [M7,e] using h
     exact kat_yes (ab6 xs ys us vs (i + 1) c tx ty h' hf' q)
    ·rw [show (m == k) = false by simpa using e]
     have h':decide (m < k) = c:=by simpa [M7,e] using h
     refine kat_no (aS9 ?_)
     rw [h']; exact q
   | _=>simp [M7] at h
  | ref m =>
   cases y with
   | ref k =>
    cases rx
    cases ry
    by_cases e:m = k
    ·subst e
     have h':M7 xs ys = some c:=by simpa [M7] using h
     exact kat_cons (SeqAt.EqAt.same (.ref m) prog w _ _ (kat_yes (ab6 xs ys us vs (i + 1) c tx ty h' hf' q)))
    ·simp [M7,e] at h
   | _=>simp [M7] at h
  | _=>cases y <;> simp [M7] at h
theorem ak2 {a:Addr} {vs:List Value} {n:Nat} {r:Nat → Int} {P:PySem.Fin → Shared → Prop} (ho:s.heap.get? a = some (seqObj "list" vs.toArray n)) (h64:vs.length < 64)
  (hk:∀ (h':Heap),(∀ b o,b ≠ a → s.heap.get? b = some o → h'.get? b = some o) → 2 ≤ vs.length → ∀ Q':SortKind → Shared → Prop,Q' (tuples' true) { s with heap:=h' } → wpAny (model prog w) A (keyKind' vs.toArray) Q' E { s with heap:=h' })
  (hc:∀ (h':Heap),(∀ b o,b ≠ a → s.heap.get? b = some o → h'.get? b = some o) → ∀ i j,i < vs.length → j < vs.length → ∀ C:Bool → Shared → Prop,C (decide (r i < r j)) { s with heap:=h' } → wpAny (model prog w) A (keyLt' (tuples' true) (vs.getD i Value.none) (vs.getD j Value.none)) C (fun _ _=>False) { s with heap:=h' })
  (h:∀ p:Array Nat,p.Perm (List.range vs.length).toArray → Up r p vs.length → P (.done (.ret .none)) { s with heap:=sortedHeap s.heap a vs (p.toList.map fun i=>vs.getD i Value.none).toArray }) :
  wpAny (model prog w) A (Builtin.«list.sort» ⟨[.ref a],[]⟩) P E s:=by
 have ha:a < s.heap.objs.size:=Heap.lt_size ho
 rw [list_sort_plain]
 refine wpAny_bind (listItems_at ho rfl ?_)
 refine wpAny_bind (listUpdate_at ho rfl ?_ (by rw [List.size_toArray,sizeLine_eq]; lia) (Nat.zero_le _))
 obtain ⟨e1,ho1⟩:∃ e1,(s.heap.update a (Obj.mapSeq fun _=>(#[]:Array Value))).get? a = some (seqObj "list" #[] e1):=⟨_,get?_update_seq ho fun _=>#[]⟩
 refine wpAny_bind (seqEpoch_at ho1 rfl ?_)
 refine wpAny_bind (wpAny_newTuple ?_ (by show vs.length ≤ _; rw [sizeLine_eq]; lia))
 refine wpAny_bind (wpAny_newList ?_ (Nat.zero_le _))
 refine wpAny_holding ?_
 have keep:∀ b o,b ≠ a → s.heap.get? b = some o → (((s.heap.update a (Obj.mapSeq fun _=>(#[]:Array Value))).push (seqObj "tuple" vs.toArray 0)).push (seqObj "list" #[] 0)).get? b = some o:=fun b o hb q =>
  Heap.get?_push_of_some _ (Heap.get?_push_of_some _ ((Heap.get?_update_other _ _ (Ne.symm hb)).trans q))
 have ho6:(((s.heap.update a (Obj.mapSeq fun _=>(#[]:Array Value))).push (seqObj "tuple" vs.toArray 0)).push (seqObj "list" #[] 0)).get? a = some (seqObj "list" #[] e1):=Heap.get?_push_of_some _ (Heap.get?_push_of_some _ ho1)
 show wpAny (model prog w) A _ P E { s with heap:=((s.heap.update a (Obj.mapSeq fun _=>(#[]:Array Value))).push (seqObj "tuple" vs.toArray 0)).push (seqObj "list" #[] 0) }
 dsimp only
 by_cases h2:vs.toArray.size < 2
 ·rw [if_pos h2,if_pos h2]
  refine wpAny_bind (wpAny_pure ?_)
  rw [StateT.run_pure]
  refine wpAny_bind (wpAny_pure ?_)
  dsimp only
  refine wpAny_bind (seqEpoch_at ho6 rfl ?_)
  have eo:(arrOf (SortSt.mk' general' (vs.toArray.zip vs.toArray) #[] 7 none)).map (·.2) = (((List.range vs.length).toArray.toList).map fun i=>vs.getD i Value.none).toArray:=by
   have e3:((List.range vs.length).toArray.toList.map fun i=>vs.getD i Value.none) = vs:=by
    apply List.ext_getElem
    ·simp
    ·intro i q1 q2
     simp [List.getD,q2]
   rw [e3]
   show (vs.toArray.zip vs.toArray).map (·.2) = vs.toArray
   apply Array.ext
   ·simp
   ·intro i q1 q2
    simp
  refine wpAny_bind (listUpdate_at ho6 rfl ?_ (Nat.zero_le _) (by rw [eo,List.size_toArray,List.length_map]; simp; rw [sizeLine_eq]; lia))
  simp only [bne_self_eq_false,Bool.false_eq_true,if_false]
  refine wpAny_pure ?_
  rw [eo]
  refine h (List.range vs.length).toArray (Array.Perm.refl _) fun i hi hb=>?_
  rw [List.size_toArray] at h2
  lia
 ·rw [if_neg h2,if_neg h2]
  rw [List.size_toArray] at h2
  refine wpAny_bind (hk _ keep (by lia) _ ?_)
  have run:=kat_run (E:=E) (κ:=tuples' true) (ks:=vs) (vs:=vs) (prog:=prog) (w:=w) (A:=A) (Q:=fun st' s'=>s' = { s with heap:=((s.heap.update a (Obj.mapSeq fun _=>(#[]:Array Value))).push (seqObj "tuple" vs.toArray 0)).push (seqObj "list" #[] 0) } ∧ failedOf st' = none ∧ ∃ p:Array Nat,p.Perm (List.range vs.length).toArray ∧ Up r p vs.length ∧ arrOf st' = p.map (kas_item (vs.toArray.zip vs.toArray)))
   (G:=fun p s'=>s' = { s with heap:=((s.heap.update a (Obj.mapSeq fun _=>(#[]:Array Value))).push (seqObj "tuple" vs.toArray 0)).push (seqObj "list" #[] 0) } ∧ p.Perm (List.range vs.length).toArray ∧ Up r p vs.length) rfl (by lia) h64 (fun p st' s' a1 a2 a3 ⟨b1,b2,b3⟩=>⟨b1,a3,p,b2,b3,a2⟩)
   (aY1 (J:=fun s'=>s' = { s with heap:=((s.heap.update a (Obj.mapSeq fun _=>(#[]:Array Value))).push (seqObj "tuple" vs.toArray 0)).push (seqObj "list" #[] 0) }) (lt:=ltR r) (n:=vs.length) (fun i j C s' hi hj hJ q=>by
    subst hJ
    exact hc _ keep i j hi hj C (q _ rfl)) _ _ _ (aH4 (by lia)) rfl fun s' hJ=>⟨hJ,aR3 (by lia)⟩)
  refine wpAny_bind (wpAny_mono run ?_ fun _ _ e=>e)
  rintro ⟨⟨⟩,st'⟩ s' ⟨rfl,hf,p,pm,up,har⟩
  dsimp only
  have hout:=kat_snds (ks:=vs) (vs:=vs) rfl har
  have hsz:(p.toList.map fun i=>vs.getD i Value.none).toArray.size = vs.length:=by rw [List.size_toArray,List.length_map,Array.length_toList,pm.size_eq]; simp
  rw [hout]
  refine wpAny_bind (seqEpoch_at ho6 rfl ?_)
  refine wpAny_bind (listUpdate_at ho6 rfl ?_ (Nat.zero_le _) (by rw [hsz,sizeLine_eq]; lia))
  rw [hf]
  simp only [bne_self_eq_false,Bool.false_eq_true,if_false]
  exact wpAny_pure (h p pm up)
theorem aH9 {l:Addr} {vs:List Value} {r:Nat → Int} {Q:Value → Shared → Prop} (hl:s.heap.IsList l vs.toArray) (h64:vs.length < 64)
  (hk:∀ (A:Around) (E:Value → Shared → Prop) (h':Heap),(∀ b o,s.heap.get? b = some o → h'.get? b = some o) → 2 ≤ vs.length → ∀ Q':SortKind → Shared → Prop,Q' (tuples' true) { s with heap:=h' } → wpAny (model prog w) A (keyKind' vs.toArray) Q' E { s with heap:=h' })
  (hc:∀ (A:Around) (h':Heap),(∀ b o,s.heap.get? b = some o → h'.get? b = some o) → ∀ i j,i < vs.length → j < vs.length → ∀ C:Bool → Shared → Prop,C (decide (r i < r j)) { s with heap:=h' } → wpAny (model prog w) A (keyLt' (tuples' true) (vs.getD i Value.none) (vs.getD j Value.none)) C (fun _ _=>False) { s with heap:=h' })
  (h:∀ (p:Array Nat),p.Perm (List.range vs.length).toArray → Up r p vs.length → Q (.ref (s.heap.objs.size + 1)) { s with heap:=sortedAll s.heap vs (p.toList.map fun i=>vs.getD i Value.none).toArray }) :
  wpAny (model prog w) A (call (.builtin "sorted") [.ref l]) Q E s:=by
 refine Calls.call_function_entry kind_sorted plain_sorted entry_sorted (args_sorted1 _) ?_
 unfold Builtin.«sorted»
 refine wpAny_bind (m:=checkCount "sorted" 1 1 _) (wpAny_pure ?_)
 refine wpAny_bind (collect_list hl ?_ (by rw [sizeLine_eq]; lia))
 refine wpAny_bind (wpAny_newList ?_ (by rw [sizeLine_eq]; lia))
 have sz:((s.heap.push (seqObj "list" #[] 0)).update s.heap.objs.size (Obj.mapSeq (· ++ vs.toArray))).objs.size = s.heap.objs.size + 1:=by rw [Heap.size_update,size_push']
 have hoL:(((s.heap.push (seqObj "list" #[] 0)).update s.heap.objs.size (Obj.mapSeq (· ++ vs.toArray))).push (seqObj "list" vs.toArray 0)).get? (s.heap.objs.size + 1) = some (seqObj "list" vs.toArray 0):=by
  rw [← sz]; exact Heap.get?_push_size _ rfl
 have keep:∀ b o,s.heap.get? b = some o → (((s.heap.push (seqObj "list" #[] 0)).update s.heap.objs.size (Obj.mapSeq (· ++ vs.toArray))).push (seqObj "list" vs.toArray 0)).get? b = some o:=fun b o q =>
  Heap.get?_push_of_some _ ((Heap.get?_update_other _ _ (Nat.ne_of_gt (Heap.lt_size q))).trans (Heap.get?_push_of_some _ q))
 show wpAny _ _ _ _ _ { s with heap:=((s.heap.push (seqObj "list" #[] 0)).update s.heap.objs.size (Obj.mapSeq (· ++ vs.toArray))).push (seqObj "list" vs.toArray 0) }
 rw [sz]
 refine wpAny_bind (wpAny_holding (wpAny_call_entry slot_list_sort ⟨_,hoL,rfl⟩ entry_list_sort (ak2 (r:=r) (s:={ s with heap:=((s.heap.push (seqObj "list" #[] 0)).update s.heap.objs.size (Obj.mapSeq (· ++ vs.toArray))).push (seqObj "list" vs.toArray 0) }) hoL h64
  (fun h' kp h2 Q' q=>hk _ _ h' (fun b o e=>kp b o (Nat.ne_of_lt (Nat.lt_succ_of_lt (Heap.lt_size e))) (keep b o e)) h2 Q' q)
  (fun h' kp i j hi hj C q=>hc _ h' (fun b o e=>kp b o (Nat.ne_of_lt (Nat.lt_succ_of_lt (Heap.lt_size e))) (keep b o e)) i j hi hj C q) fun p pm up=>⟨_,rfl,?_⟩) (args_list_sort _)))
 exact wpAny_pure ⟨_,rfl,h p pm up⟩
end
section
variable {X:Cx}
def T0 (K:PySem.W.Frag) (H:Hp) (as:List Addr) (its:List (List V)):Prop:=Paired (fun a xs=>SqT K H a xs ∧ ∃ i r,xs = V.int i :: r) as its
theorem at2 {K:PySem.W.Frag} {H:Hp} {as:List Addr} {its:List (List V)} (h:T0 K H as its):∀ (i:Nat),i < as.length → ∃ a xs,as[i]? = some a ∧ its[i]? = some xs ∧ SqT K H a xs ∧ ∃ j r,xs = V.int j :: r:=fun i hi=>by
 have e:as[i]? = some as[i]:=List.getElem?_eq_getElem hi
 obtain ⟨d,e2,q⟩:=p4 h i _ e
 exact ⟨_,d,e,e2,q.1,q.2⟩
theorem N0:y7 X (.builtin "sorted") (fun xs H Q=>∃ (p:Addr) (as:List Addr) (its:List (List V)) (r:Nat → Int),xs = [.ref p] ∧ SqL X.K H p (as.map V.ref) ∧ T0 X.K H as its ∧ as.length < 64 ∧
  (∀ i j x y,its[i]? = some x → its[j]? = some y → M7 x y = some (decide (r i < r j))) ∧ ∀ q:Array Nat,q.Perm (List.range as.length).toArray → Up r q as.length → ∀ l,H l = none → Q (.ref l) (upd H l (.lst ((q.toList.map fun i=>as.getD i 0).map V.ref)))):=by
 intro pins s σ H xs us Q I r0 h
 obtain ⟨p,as,its,r,rfl,hq,ht,h64,hcmp,q⟩:=h
 obtain ⟨u,rfl,rx⟩:=K4 r0
 cases rx
 obtain ⟨vs,r',pl,hz⟩:=I.list hq
 have evs:vs = as.map Value.ref:=by
  have go:∀ (as:List Addr) (vs:List Value),j9 (as.map V.ref) vs → vs = as.map Value.ref:=by
   intro as
   induction as with
   | nil=>intro vs r; cases r; rfl
   | cons a t ih =>
    intro vs r
    rw [List.map_cons] at r
    cases r with
    | cons r1 r2=>rw [show _ = Value.ref a from r1,ih _ r2]; rfl
  exact go as vs r'
 subst evs
 have hl:(as.map Value.ref).length = as.length:=List.length_map _
 have hget:∀ i a,as[i]? = some a → (as.map Value.ref).getD i Value.none = .ref a:=fun i a e=>by
  rw [List.getD,List.getElem?_map,e]; rfl
 have tl:=Paired.length ht
 refine aH9 (r:=r) pl.isList (by rw [hl]; exact h64) (fun A E h' kp h2 Q' q'=>?_) (fun A h' kp i j hi hj C q'=>?_) fun pq pm up=>?_
 ·-- the kind
  have I':Inv X pins σ H { s with heap:=h' }:=I.kept (t':=s.toks) kp
  have go:∀ (as:List Addr) (its:List (List V)),T0 X.K H as its → ∃ fs:List Value,KatTups h' (as.map Value.ref) fs ∧ (∀ v ∈ fs,∃ i t,v = .int i t) ∧ fs.length = as.length:=by
   intro as its hT
   unfold T0 at hT
   induction hT with
   | nil=>exact ⟨[],trivial,fun v hv=>absurd hv (by simp),rfl⟩
   | @cons a xs as its hx t ih =>
    obtain ⟨fs,k1,k2,k3⟩:=ih
    obtain ⟨hS,i,r,rfl⟩:=hx
    obtain ⟨us,ru,pu,_⟩:=I'.tuple hS
    cases ru with
    | @cons _ u _ us r1 r2 =>
     obtain ⟨tk,rfl⟩:=r1
     obtain ⟨o,e1,e2,n,e3⟩:=pu
     refine ⟨.int i tk :: fs,KatTups.cons e1 e2 e3 (by simp) k1,fun v hv=>?_,by rw [List.length_cons,List.length_cons,k3]⟩
     rcases List.mem_cons.mp hv with rfl | hv
     ·exact ⟨i,tk,rfl⟩
     ·exact k2 v hv
  obtain ⟨fs,k1,k2,k3⟩:=go as its ht
  refine kat_kind (T:=.type "int") k1 (by rw [hl] at h2; lia) (fun v hv=>?_) (by decide) q'
  obtain ⟨i,tk,rfl⟩:=k2 v hv
  exact .now
 ·-- a comparison
  have I':Inv X pins σ H { s with heap:=h' }:=I.kept (t':=s.toks) kp
  rw [hl] at hi hj
  obtain ⟨a,x,ea,ex,hS,_⟩:=at2 ht i hi
  obtain ⟨b,y,eb,ey,hS',_⟩:=at2 ht j hj
  rw [hget i a ea,hget j b eb]
  obtain ⟨us,ru,⟨o,e1,e2,n,e3⟩,_⟩:=I'.tuple hS
  obtain ⟨us',ru',⟨o',e1',e2',n',e3'⟩,_⟩:=I'.tuple hS'
  refine kat_lt e1 e3 e1' e3' ?_
  exact ab6 x y us us' 0 _ (by simpa using ru) (by simpa using ru') (hcmp i j x y ex ey) (by simp) q'
 ·have sz:(pq.toList.map fun i=>(as.map Value.ref).getD i Value.none) = (pq.toList.map fun i=>as.getD i 0).map Value.ref:=by
   rw [List.map_map]
   apply List.map_congr_left
   intro i hi
   have hi':i < as.length:=by
    have:=(Array.Perm.mem_iff pm (a:=i)).mp (by simpa using hi)
    rw [hl] at this
    simpa using this
   show _ = Value.ref (as.getD i 0)
   rw [hget i as[i] (List.getElem?_eq_getElem hi')]
   simp [List.getD,hi']
  rw [sz]
  rw [hl] at pm up
  obtain ⟨e,he⟩:=sortedAll_at s.heap (as.map Value.ref) ((pq.toList.map fun i=>as.getD i 0).map Value.ref).toArray
  have vr:∀ bs:List Addr,j9 (bs.map V.ref) (bs.map Value.ref):=fun bs=>by
   induction bs with
   | nil=>exact .nil
   | cons b t ih=>exact .cons rfl ih
  have hlen:((pq.toList.map fun i=>as.getD i 0).map V.ref).length ≤ sizeLine:=by
   rw [List.length_map,List.length_map,Array.length_toList,pm.size_eq]
   exact Nat.le_of_lt (m3 (by simp; lia))
  exact ⟨.ref (s.heap.objs.size + 1),_,I.laid (t':=s.toks) (o:=.lst ((pq.toList.map fun i=>as.getD i 0).map V.ref)) (fun b o e=>sortedAll_old e) (Nat.le_succ _) ⟨hlen,_,e,vr _,by simpa [seqObj] using he⟩,rfl,q pq pm up _ (I.hok.fresh (Nat.le_succ _))⟩
end
end L2
namespace L2
open PySem PySem.Spec PyProof.Rows
section
variable {X:Cx} {x y z w:Str} {i j k l n:Nat} {px py pz pw pt:Pos}
structure Nm (X:Cx) (i:Nat) (x:Str):Prop where
 at_:X.N[i]? = some x
 loc:Loc X.env.scope x
 fn:X.fn x = true ∨ X.env.scope.names.lookup x = some .local
theorem Nm.pg (h:Nm X i x) (nd:X.N.Nodup):PG X (.Name x px) (U6 i):=o9 nd h.at_ h.loc h.fn
theorem pg2 (hc:X.calm = true) (nd:X.N.Nodup) (a:Nm X i x) (b:Nm X j y):PG X (.Tuple [.Name x px,.Name y py] n pt) (aY6 X.K 2 (ar5 (U6 i) (ar5 (U6 j) a01))) :=
 a50 (X:=X) (n:=2) hc (as8 (X:=X) (a.pg nd) (as8 (X:=X) (b.pg nd) aT6))
end
end L2
namespace L2
open PySem PySem.Spec PyProof.Rows
section
variable {es:List Expr} {env:Env} {c:Const} {i:Nat} {p:Pos}
theorem i0:starEach (.Constant c i p :: es) env = (false,eval (.Constant c i p) env) :: starEach es env:=by rw [starEach]; intro a b h; cases h
theorem b8 {x:Str}:starEach (.Name x p :: es) env = (false,eval (.Name x p) env) :: starEach es env:=by rw [starEach]; intro a b h; cases h
theorem m8 {f:Expr} {as:List Expr} {ks:List Keyword}:starEach (.Call f as ks p :: es) env = (false,eval (.Call f as ks p) env) :: starEach es env:=by rw [starEach]; intro a b h; cases h
theorem r6 {a b:Expr} {o:Operator}:starEach (.BinOp a o b p :: es) env = (false,eval (.BinOp a o b p) env) :: starEach es env:=by rw [starEach]; intro a b h; cases h
theorem j6 {a b:Expr}:starEach (.Subscript a b p :: es) env = (false,eval (.Subscript a b p) env) :: starEach es env:=by rw [starEach]; intro a b h; cases h
theorem P0 {a:List Expr}:starEach (.Tuple a i p :: es) env = (false,eval (.Tuple a i p) env) :: starEach es env:=by rw [starEach]; intro a b h; cases h
theorem aS4 {a:List Expr}:starEach (.List a p :: es) env = (false,eval (.List a p) env) :: starEach es env:=by rw [starEach]; intro a b h; cases h
theorem aB6 {a:List (Option Expr)} {b:List Expr}:starEach (.Dict a b p :: es) env = (false,eval (.Dict a b p) env) :: starEach es env:=by rw [starEach]; intro a b h; cases h
theorem Z5 {a:Expr} {g:List Comprehension} {s:Scope}:starEach (.ListComp a g s p :: es) env = (false,eval (.ListComp a g s p) env) :: starEach es env:=by rw [starEach]; intro a b h; cases h
theorem aj1 {a:Expr} {x:Str}:starEach (.Attribute a x p :: es) env = (false,eval (.Attribute a x p) env) :: starEach es env:=by rw [starEach]; intro a b h; cases h
end
section
variable {X:Cx}
theorem x8 (K:PySem.W.Frag) (h:X.K = K:=by rfl):IxR X (a62 K):=h ▸ aU2
theorem g7 (K:PySem.W.Frag) (h:X.K = K:=by rfl):IxR X (a60 K):=h ▸ aZ9
theorem ao5 (K:PySem.W.Frag) (h:X.K = K:=by rfl):SlR X (a_2 K):=h ▸ aW6
def aR4 (K:PySem.W.Frag):List V → Hp → VK → Prop:=fun xs H Q=>∃ p ys,xs = [.ref p] ∧ (SqL K H p ys ∨ SqT K H p ys) ∧ Q (.int ys.length) H
theorem u6 (K:PySem.W.Frag) (h:X.K = K:=by rfl):y7 X (.builtin "len") (aR4 K):=h ▸ al7
def aS0 (K:PySem.W.Frag):List V → Hp → VK → Prop:=fun xs H Q=>∃ p ys,xs = [.ref p] ∧ (SqL K H p ys ∨ SqT K H p ys) ∧ ∀ l,H l = none → Q (.ref l) (upd H l (.lst ys))
theorem az7 (K:PySem.W.Frag) (h:X.K = K:=by rfl):y7 X (.type "list") (aS0 K):=h ▸ ak4
def aP2 (K:PySem.W.Frag):List V → Hp → VK → Prop:=fun xs H Q=>∃ p ys,xs = [.ref p] ∧ ((SqL K H p ys ∧ ∀ l,H l = none → Q (.ref l) (upd H l (.tup ys))) ∨ (SqT K H p ys ∧ Q (.ref p) H))
theorem ap8 (K:PySem.W.Frag) (h:X.K = K:=by rfl):y7 X (.type "tuple") (aP2 K):=h ▸ ae4
def aR8 (K:PySem.W.Frag):List V → Hp → VK → Prop:=fun xs H Q=>∃ v T t b,xs = [v,.ty T] ∧ TyOf K H v t ∧ PySem.W.kitOne K t (.type T) = some b ∧ Q (.bl b) H
theorem x5 (K:PySem.W.Frag) (h:X.K = K:=by rfl):y7 X (.builtin "isinstance") (aR8 K):=h ▸ ap3
def a_1 (P:Program) (w:World) (l:Addr) (ns:List Int):HO:=.ext fun h=>F7 (intKind P w) h l (fun k=>decide (k ∈ ns)) (A7 ns).length
def aX4 (K:PySem.W.Frag) (P:Program) (w:World):List V → Hp → VK → Prop:=fun xs H Q=>∃ (p:Addr) (ns:List Int),xs = [.ref p] ∧ SqL K H p (ns.map V.int) ∧ ns.length < 4000 ∧ ∀ l,H l = none → Q (.ref l) (upd H l (a_1 P w l ns))
theorem ag4 (K:PySem.W.Frag) (P:Program) (w:World) (hc:X.calm = true) (h:X.K = K:=by rfl) (hP:X.prog = P:=by rfl) (hw:X.w = w:=by rfl):y7 X (.type "set") (aX4 K P w):=by
 subst h hP hw
 exact ae5 hc
def ar8 (P:Program) (w:World):List V → Hp → VK → Prop:=fun xs H Q=>∃ (p:Addr) (ns:List Int),xs = [.ref p] ∧ H p = some (a_1 P w p ns) ∧ ns.length < 64 ∧ ∀ l,H l = none → Q (.ref l) (upd H l (.lst ((A7 ns).map V.int)))
theorem R7 (P:Program) (w:World) (hc:X.calm = true) (hP:X.prog = P:=by rfl) (hw:X.w = w:=by rfl):y7 X (.builtin "sorted") (ar8 P w):=by
 subst hP hw
 exact Y8 hc
def au5 (K:PySem.W.Frag):List V → Hp → VK → Prop:=fun xs H Q=>∃ (p:Addr) (as:List Addr) (its:List (List V)) (r:Nat → Int),xs = [.ref p] ∧ SqL K H p (as.map V.ref) ∧ T0 K H as its ∧ as.length < 64 ∧
  (∀ i j x y,its[i]? = some x → its[j]? = some y → M7 x y = some (decide (r i < r j))) ∧ ∀ q:Array Nat,q.Perm (List.range as.length).toArray → Up r q as.length → ∀ l,H l = none → Q (.ref l) (upd H l (.lst ((q.toList.map fun i=>as.getD i 0).map V.ref)))
theorem S0 (K:PySem.W.Frag) (h:X.K = K:=by rfl):y7 X (.builtin "sorted") (au5 K):=h ▸ N0
def a_8 (K:PySem.W.Frag) (ta:TE):TT:=fun σ H Q=>ta σ H fun x H'=>∃ k,a59 K x H' k ∧ Q k H'
theorem C0 (K:PySem.W.Frag) {a:Expr} {ta:TE} (ha:PE X a ta) (he:∀ whole,isTrue a X.env whole = (do let v ← whole; standAt a.pos; holding [v] (truthy v))) (h:X.K = K:=by rfl):PT X a (a_8 K ta):=h ▸ aM4 ha he
theorem z9 (K:PySem.W.Frag) {tg l:Expr} {tl:TE} (hl:PE X l tl) (h:X.K = K:=by rfl):PI X tg l (aY0 K tl):=h ▸ aT3 hl
theorem Z6 (K:PySem.W.Frag) {tg l:Expr} {tl:TE} (hl:PE X l tl) (h:X.K = K:=by rfl):PI X tg l (a_3 K tl):=h ▸ a36 hl
theorem aE1 (b:Bool) (K:PySem.W.Frag) {es:List Expr} {kk:Nat} {tpos:Pos} {e1 e2:Expr} {ta:TA} {p pos:Pos} (hg:Gl X "zip") (hm:X.mg "zip" = none) (ha:PA X [e1,e2] ta) (h:X.K = K:=by rfl) (hs:starEach [e1,e2] X.env = [(false,eval e1 X.env),(false,eval e2 X.env)]:=by rfl) (hs2:starEach [e2] X.env = [(false,eval e2 X.env)]:=by rfl) :
  PI X (.Tuple es kk tpos) (.Call (.Name "zip" p) [e1,e2] [] pos) (a83 b K ta):=h ▸ a07 hg hm ha hs hs2
variable {x y z w:Str} {i j k l n:Nat} {px py pz pw pt:Pos}
theorem aJ3 (K:PySem.W.Frag) (hc:X.calm = true) (nd:X.N.Nodup) (a:Nm X i x) (b:Nm X j y) (h:X.K = K:=by rfl):PG X (.Tuple [.Name x px,.Name y py] n pt) (aY6 K 2 (ar5 (U6 i) (ar5 (U6 j) a01))):=h ▸ pg2 hc nd a b
end
section
variable {X:Cx} {o e:Expr} {es:List Expr} {to:TE} {t:TA} {name:Str} {apos cpos:Pos} {T id:String} {r:V → List V → Hp → VK → Prop}
theorem K8 (K:PySem.W.Frag) (pa:PlainAttrs T) (slot:Slot T name id) (hty:typeOf (.builtin id) = pure (.type "method_descriptor")) (hm:MtR X id r) (ho:PE X o to) (ha:PA X (e :: es) t) (h:X.K = K:=by rfl)
  (hbase:attributeBase o name X.env (eval o X.env) = eval o X.env:=by rfl)
  (hfew:((backTo cpos (starEach (e :: es) X.env)).all (fun x=>!x.1) && (backToKw cpos (keywordEach [] X.env)).all (fun x=>x.1.isSome)
   && decide ((e :: es).length + ([]:List Keyword).length + (if ([]:List Keyword).isEmpty then 0 else 1) < 30)) = true:=by rfl)
  (hline:(apos.endLine == cpos.line) = true:=by rfl) (hs:starEach (e :: es) X.env = (false,eval e X.env) :: starEach es X.env:=by rfl) (hplain:(backTo cpos (starEach es X.env)).any (·.1) = false:=by rfl) :
  PE X (.Call (.Attribute o name apos) (e :: es) [] cpos) (tBM K T r to t):=h ▸ a86 pa slot hty hm ho ha hbase hfew hline hs hplain
end
end L2
namespace HT
open PySem PySem.Spec PyProof.Rows
section
variable {prog:Program} {w:World} {A:Around} {E:Value → Shared → Prop} {s:Shared}
theorem cat_tup0 {t b:Addr} {vs ws:List Value} {Q:Value → Shared → Prop} (ht:IsTup s.heap t vs.toArray) (hb:IsTup s.heap b ws.toArray) (hv:vs = []) (h:Q (.ref b) s):wpAny (model prog w) A (binaryOp .Add (.ref t) (.ref b)) Q E s:=by
 obtain ⟨⟨cls,dd,data,sl⟩,ho,hc,n,hd⟩:=id ht
 obtain ⟨⟨cls2,dd2,data2,sl2⟩,ho2,hc2,n2,hd2⟩:=id hb
 simp only at hc hd hc2 hd2
 subst hc hd hc2 hd2
 exact concat_meets ⟨_,ho,rfl⟩ ⟨_,ho2,rfl⟩ noFill_tuple_add seq_tuple_add PySem.F.slot_tuple_add PySem.F.entry_tuple_add (PySem.F.args_tuple_add_2 _ _)
  (tuple_addW0 t b vs.toArray ws.toArray n n2 dd dd2 sl sl2 (by simp [hv])) ⟨ho,ho2,h⟩
theorem getItem_tuple_whole {t sl:Addr} {items:Array Value} {vl vu:Value} {lo hi:Option Int} {Q:Value → Shared → Prop} (ht:IsTup s.heap t items) (hs:s.heap.IsSliceOf sl vl vu .none) (pl:IsPart vl lo) (pu:IsPart vu hi)
  (hw:sIx items.size 0 lo = 0 ∧ sIx items.size items.size hi = items.size) (h:Q (.ref t) s):wpAny (model prog w) A (getItem (.ref t) (.ref sl)) Q E s:=by
 obtain ⟨os,hos,hcs,hds⟩:=id hs
 have hTs:s.TypeIs (.ref sl) "slice":=⟨os,hos,hcs⟩
 unfold getItem
 try with_reducible refine wpAny_holding ?_
 first | refine wpAny_bind (wpAny_pure ?_) | skip
 refine wpAny_bind (wpAny_sequenceKey ht.typeIs (by decide) ?_)
 refine wpAny_bind (wpAny_callSpecial?_slot (name:=Str.ofString "__getitem__") ht.typeIs PyProof.Rows.slot_tuple_getitem
  (wpAny_call_entry PyProof.Rows.slot_tuple_getitem ht.typeIs entry_tuple_getitem ?_ (args_tuple_getitem _ _)))
 show wpAny _ _ (Builtin.Tuple.tupleItemsOf (.ref t) >>= _) _ _ s
 refine wpAny_bind (tupleItemsOf_ ht ?_)
 refine wpAny_bind (wpAny_typeOf hTs ?_)
 rw [if_pos (by decide)]
 refine wpAny_bind (M6 hs pl pu ?_)
 have hyes:((((sIx items.size 0 lo:Nat):Int) == 0 && (1:Int) == 1 && (sIx items.size items.size hi - sIx items.size 0 lo) == items.size) = true):=by
  rw [hw.1,hw.2,Nat.sub_zero]
  simp
 show wpAny _ _ (if (((sIx items.size 0 lo:Nat):Int) == 0 && (1:Int) == 1 && (sIx items.size items.size hi - sIx items.size 0 lo) == items.size) = true then _ else _) _ _ s
 rw [if_pos hyes]
 have hT:=ht.typeIs
 unfold Builtin.Tuple.tupleIsExact
 refine wpAny_bind (wpAny_bind (wpAny_typeOf hT (wpAny_pure ?_)))
 rw [if_pos (by decide)]
 first
  | exact wpAny_bind (wpAny_rule (wpAny_pure ⟨_,rfl,wpAny_pure h⟩))
  | exact wpAny_pure ⟨_,rfl,wpAny_pure h⟩
  | exact wpAny_bind (wpAny_pure (wpAny_pure ⟨_,rfl,wpAny_pure h⟩))
end
end HT
namespace L2
open PySem PySem.Spec PyProof.Rows
section
variable {X:Cx}
def a77:R2:=fun x y H Q=>∃ a b xs ys,x = .ref a ∧ y = .ref b ∧ H a = some (.tup xs) ∧ H b = some (.tup ys) ∧ xs.length + ys.length ≤ sizeLine ∧ ∀ (p:Addr) (H':Hp),i4 H H' → H' p = some (.tup (xs ++ ys)) → Q (.ref p) H'
theorem aD9:OpR X (binaryOp .Add) a77:=by
 intro pins s σ H x y v u Q I rx ry h
 obtain ⟨a,b,xs,ys,rfl,rfl,ha,hb,hz,q⟩:=h
 by_cases hx:xs = []
 ·cases rx
  cases ry
  obtain ⟨its,r1,p1,_⟩:=I.tuple (SqT.of ha)
  obtain ⟨its2,r2,p2,_⟩:=I.tuple (SqT.of hb)
  exact HT.cat_tup0 p1 p2 (r1.nil_iff.mpr hx) ⟨.ref b,H,I,rfl,q _ _ (i4.refl H) (by rw [hx,List.nil_append]; exact hb)⟩
 ·exact aS2 pins s σ H _ _ v u Q I rx ry ⟨a,b,xs,ys,rfl,rfl,SqT.of ha,SqT.of hb,hx,hz,fun hy=>q _ _ (i4.refl H) (by rw [hy,List.append_nil]; exact ha),fun _ p hp=>q _ _ (fun b u q=>by rw [d9 (g9 q hp)]; exact q) b9⟩
def bb2:V → Option Int → Option Int → Hp → VK → Prop:=fun x lo hi H Q=>∃ a xs,x = .ref a ∧ H a = some (.tup xs) ∧ ∀ (p:Addr) (H':Hp),i4 H H' → H' p = some (.tup (X2 xs lo hi)) → Q (.ref p) H'
theorem aC2:SlR X bb2:=by
 intro pins s σ H x v vl vu lo hi sl Q I rx hs pl pu h
 obtain ⟨a,xs,rfl,hx,q⟩:=h
 by_cases hw:HT.sIx xs.length 0 lo = 0 ∧ HT.sIx xs.length xs.length hi = xs.length
 ·cases rx
  obtain ⟨its,r,ht,hz⟩:=I.tuple (SqT.of hx)
  have hlen:its.toArray.size = xs.length:=by rw [List.size_toArray]; exact r.length.symm
  refine ⟨"tuple",_,PyProof.Rows.slot_tuple_getitem.lookup,ht.typeIs,?_⟩
  refine HT.getItem_tuple_whole ht hs pl pu (by rw [hlen]; exact hw) ⟨.ref a,H,I,rfl,q _ _ (i4.refl H) ?_⟩
  rw [hx]
  unfold X2
  rw [hw.1,hw.2,Nat.sub_zero,List.drop_zero,List.take_length]
 ·exact a53 pins s σ H _ v vl vu lo hi sl Q I rx hs pl pu ⟨a,xs,rfl,SqT.of hx,hw,fun p hp=>q _ _ (fun b u q=>by rw [d9 (g9 q hp)]; exact q) b9⟩
end
end L2
namespace L2
open PySem PySem.Spec PyProof.Rows
def enc:List Int → Int
 | []=>0
 | x :: r=>x * 1000 ^ r.length + enc r
def Few (d:List Int):Prop:=∀ x ∈ d,0 ≤ x ∧ x < 1000
theorem Few.tail {x:Int} {r:List Int} (h:Few (x :: r)):Few r:=fun y hy=>h y (List.mem_cons_of_mem _ hy)
theorem ay8:∀ {d:List Int},Few d → 0 ≤ enc d ∧ enc d < 1000 ^ d.length
 | [],_=>⟨Int.le_refl _,by decide⟩
 | x :: r,h=>by
  obtain ⟨h1,h2⟩:=ay8 h.tail
  obtain ⟨g1,g2⟩:=h x (List.mem_cons_self ..)
  have p:(0:Int) < 1000 ^ r.length:=Int.lt_of_le_of_lt h1 h2
  generalize hP:(1000:Int) ^ r.length = P at h2 p
  have e:(1000:Int) ^ (x :: r).length = 1000 * P:=by rw [List.length_cons,Int.pow_succ,hP,Int.mul_comm]
  rw [e]
  show 0 ≤ x * 1000 ^ r.length + enc r ∧ x * 1000 ^ r.length + enc r < 1000 * P
  rw [hP]
  have a1:0 ≤ x * P:=Int.mul_nonneg g1 (Int.le_of_lt p)
  have a2:(x + 1) * P ≤ 1000 * P:=Int.mul_le_mul_of_nonneg_right (by lia) (Int.le_of_lt p)
  rw [Int.add_mul,Int.one_mul] at a2
  lia
theorem F0 {a b:Int} {r r':List Int} (hl:r.length = r'.length) (hr:Few r) (hr':Few r') (h:a < b):enc (a :: r) < enc (b :: r'):=by
 obtain ⟨h1,h2⟩:=ay8 hr
 obtain ⟨g1,g2⟩:=ay8 hr'
 show a * 1000 ^ r.length + enc r < b * 1000 ^ r'.length + enc r'
 rw [← hl] at g2 ⊢
 generalize (1000:Int) ^ r.length = P at h2 g2
 have a2:(a + 1) * P ≤ b * P:=Int.mul_le_mul_of_nonneg_right (by lia) (by lia)
 rw [Int.add_mul,Int.one_mul] at a2
 lia
theorem E7 {a:Int} {r r':List Int} (hl:r.length = r'.length):(enc (a :: r) < enc (a :: r') ↔ enc r < enc r') ∧ (enc (a :: r) = enc (a :: r') ↔ enc r = enc r'):=by
 show (a * 1000 ^ r.length + enc r < a * 1000 ^ r'.length + enc r' ↔ _) ∧ (a * 1000 ^ r.length + enc r = a * 1000 ^ r'.length + enc r' ↔ _)
 rw [hl]
 lia
theorem ar6:∀ {d d':List Int},d.length = d'.length → Few d → Few d' → M7 (d.map V.int) (d'.map V.int) = some (decide (enc d < enc d'))
 | [],[],_,_,_=>rfl
 | [],_ :: _,h,_,_=>by cases h
 | _ :: _,[],h,_,_=>by cases h
 | a :: r,b :: r',h,f,f'=>by
  have hl:r.length = r'.length:=by simpa using h
  show (if a = b then M7 (r.map V.int) (r'.map V.int) else some (decide (a < b))) = _
  by_cases c:a = b
  ·subst c
   rw [if_pos rfl,ar6 hl f.tail f'.tail,decide_eq_decide.mpr (E7 hl).1]
  ·rw [if_neg c]
   by_cases k:a < b
   ·rw [decide_eq_true k,decide_eq_true (F0 hl f.tail f'.tail k)]
   ·have:=F0 hl.symm f'.tail f.tail (show b < a by lia)
    rw [decide_eq_false k,decide_eq_false (by lia)]
theorem aB3:∀ {d d':List Int},d.length = d'.length → Few d → Few d' → enc d = enc d' → d = d'
 | [],[],_,_,_,_=>rfl
 | [],_ :: _,h,_,_,_=>by cases h
 | _ :: _,[],h,_,_,_=>by cases h
 | a :: r,b :: r',h,f,f',e=>by
  have hl:r.length = r'.length:=by simpa using h
  by_cases c:a = b
  ·subst c
   rw [aB3 hl f.tail f'.tail ((E7 hl).2.mp e)]
  ·by_cases k:a < b
   ·have:=F0 hl f.tail f'.tail k
    lia
   ·have:=F0 hl.symm f'.tail f.tail (show b < a by lia)
    lia
theorem aa3 {n:Nat}:∀ {l1 l2:List (List Int)},l1.Perm l2 → l1.Pairwise (fun a b=>enc a ≤ enc b) → l2.Pairwise (fun a b=>enc a ≤ enc b) → (∀ d ∈ l1,d.length = n ∧ Few d) → l1 = l2
 | [],l2,p,_,_,_=>(List.nil_perm.mp p).symm
 | a :: t,[],p,_,_,_=>by cases List.perm_nil.mp p
 | a :: t,b :: u,p,s1,s2,h=>by
  have hb:b ∈ a :: t:=p.mem_iff.mpr (List.mem_cons_self ..)
  have ha:a ∈ b :: u:=p.mem_iff.mp (List.mem_cons_self ..)
  have le1:enc a ≤ enc b:=by
   rcases List.mem_cons.mp hb with z | z
   ·rw [z]; exact Int.le_refl _
   ·exact (List.pairwise_cons.mp s1).1 b z
  have le2:enc b ≤ enc a:=by
   rcases List.mem_cons.mp ha with z | z
   ·rw [z]; exact Int.le_refl _
   ·exact (List.pairwise_cons.mp s2).1 a z
  have e:a = b:=aB3 (by rw [(h a (List.mem_cons_self ..)).1,(h b hb).1]) (h a (List.mem_cons_self ..)).2 (h b hb).2 (by lia)
  subst e
  rw [aa3 (List.perm_cons _ |>.mp p) (List.pairwise_cons.mp s1).2 (List.pairwise_cons.mp s2).2 fun d hd=>h d (List.mem_cons_of_mem _ hd)]
def aA1 (K:PySem.W.Frag) (H:Hp) (as:List Addr) (ds:List (List Int)):Prop:=Paired (fun a d=>SqT K H a (d.map V.int)) as ds
def aP5 (K:PySem.W.Frag):List V → Hp → VK → Prop:=fun xs H Q=>∃ (p:Addr) (as:List Addr) (ds:List (List Int)) (n:Nat),xs = [.ref p] ∧ SqL K H p (as.map V.ref) ∧ aA1 K H as ds ∧ as.length < 64 ∧ 0 < n ∧ (∀ d ∈ ds,d.length = n ∧ Few d) ∧
 ∀ (as':List Addr) (ds':List (List Int)),(∀ R:Addr → List Int → Prop,Paired R as ds → Paired R as' ds') → ds'.Perm ds → ds'.Pairwise (fun a b=>enc a ≤ enc b) → ∀ l,H l = none → Q (.ref l) (upd H l (.lst (as'.map V.ref)))
theorem ad2 {α β γ:Type} {R:α → γ → Prop} {f:β → γ}:∀ {as:List α} {ds:List β},Paired (fun a d=>R a (f d)) as ds → Paired R as (ds.map f)
 | _,_,.nil=>.nil
 | _,_,.cons h t=>.cons h (ad2 t)
theorem N7 {α β:Type} {R R':α → β → Prop}:∀ {as:List α} {ds:List β},Paired R as ds → (∀ a b,b ∈ ds → R a b → R' a b) → Paired R' as ds
 | _,_,.nil,_=>.nil
 | _,_,.cons h t,hi=>.cons (hi _ _ (List.mem_cons_self ..) h) (N7 t fun a b hb=>hi a b (List.mem_cons_of_mem _ hb))
theorem ae0 {X:Cx} (K:PySem.W.Frag) (h:X.K = K:=by rfl):y7 X (.builtin "sorted") (aP5 K):=by
 subst h
 intro pins s σ H xs us Q I r hh
 obtain ⟨p,as,ds,n,rfl,hq,hd,h64,hn,hok,q⟩:=hh
 have hl:as.length = ds.length:=Paired.length hd
 refine N0 pins s σ H _ us Q I r ⟨p,as,ds.map (fun d=>d.map V.int),fun i=>enc (ds.getD i []),rfl,hq,?_,h64,?_,?_⟩
 ·unfold T0
  refine ad2 (N7 hd fun a d hd' hs=>⟨hs,?_⟩)
  obtain ⟨h1,_⟩:=hok d hd'
  cases d with
  | nil=>rw [← h1] at hn; cases hn
  | cons x t=>exact ⟨x,t.map V.int,rfl⟩
 ·intro i j x y hx hy
  rw [List.getElem?_map] at hx hy
  obtain ⟨dx,ex,rfl⟩:=Option.map_eq_some_iff.mp hx
  obtain ⟨dy,ey,rfl⟩:=Option.map_eq_some_iff.mp hy
  obtain ⟨a1,a2⟩:=hok dx (List.mem_of_getElem? ex)
  obtain ⟨b1,b2⟩:=hok dy (List.mem_of_getElem? ey)
  rw [ar6 (by rw [a1,b1]) a2 b2]
  show _ = some (decide (enc (ds.getD i []) < enc (ds.getD j [])))
  rw [List.getD,List.getD,ex,ey]
  rfl
 ·intro pq pm up l hl0
  rw [hl] at pm up
  obtain ⟨s1,s2⟩:=au2 (xs:=ds) pm up [] enc fun i _=>rfl
  refine q _ (pq.toList.map fun i=>ds.getD i []) (fun R hR=>?_) s1 s2 l hl0
  have hin:∀ i ∈ pq.toList,i < ds.length:=fun i hi=>by
   have:=(Array.Perm.mem_iff pm (a:=i)).mp (by simpa using hi)
   simpa using this
  generalize pq.toList = is at hin
  induction is with
  | nil=>exact .nil
  | cons i t ih =>
   refine .cons ?_ (ih fun j hj=>hin j (List.mem_cons_of_mem _ hj))
   have hi:=hin i (List.mem_cons_self ..)
   have ea:as[i]? = some (as[i]'(by lia)):=List.getElem?_eq_getElem (by lia)
   obtain ⟨d,e2,hs⟩:=p4 hR i _ ea
   show R (as.getD i 0) (ds.getD i [])
   rw [show as.getD i 0 = as[i]'(by lia) by rw [List.getD,ea]; rfl,show ds.getD i [] = d by rw [List.getD,e2]; rfl]
   exact hs
end L2
namespace L2
open PySem PySem.Spec PyProof.Rows
theorem D8 {X:Cx}:MtR X "list.append" aD7:=aG4
end L2
namespace L2
open PySem PySem.Spec PyProof.Rows
theorem A9 {H:Hp}:∀ d:List Int,Paired (a63 H) (d.map V.int) d
 | []=>.nil
 | _ :: t=>.cons rfl (A9 t)
end L2
namespace L2
open PySem PySem.Spec PyProof.Rows
section
variable {X:Cx}
theorem Room.unitsT {k:Nat} {A:Around} (r:Room k A):A.units + 2 < cLine:=by have:=r.un; lia
end
end L2
namespace L2
open PySem PySem.Spec PyProof.Rows
section
variable {X:Cx}
theorem aR7:PIp X .Add (rI0 fun i j=>.int (i + j)):=aV7
end
end L2
namespace L2
open PySem PySem.Spec PyProof.Rows
section
variable {X:Cx}
variable {δ:Type} [DecidableEq δ] {n:Nat} {R:Hp → V → δ → Prop}
theorem aZ8 (ep:EqRep X n R):EqRep X (n + 1) (aK0 X.K R) where
 eq:=fun H x y dx dy hx hy A pins s σ u v I ru rv hu=>by
  obtain ⟨a,xs,rfl,ha,px⟩:=hx
  obtain ⟨b,ys,rfl,hb,py⟩:=hy
  cases ru
  cases rv
  by_cases hab:a = b
  ·subst hab
   have:=I.list_inj ha hb
   subst this
   rw [M0 ep I px py,decide_eq_true rfl]
   exact SeqAt.EqAt.same _
  ·obtain ⟨us,r1,p1,_⟩:=I.list ha
   obtain ⟨vs,r2,p2,_⟩:=I.list hb
   have l1:=r1.length
   have l2:=r2.length
   have l3:=Paired.length px
   have l4:=Paired.length py
   refine SeqAt.EqAt.of_refs hab ?_
   by_cases hl:dx.length = dy.length
   ·have:=SeqAt.RcAt.lists (A:=A) (e:=fun j=>decide (dx[j]? = dy[j]?)) p1.isList p2.isList (by simp only [List.size_toArray]; lia) (by lia) (at6 ep I px py r1 r2 (by show A.units + 1 + n < cLine; lia))
    rw [List.size_toArray,show us.length = dx.length by lia,aC3 dx dy hl] at this
    exact this
   ·rw [decide_eq_false (fun z=>hl (by rw [z]))]
    exact SeqAt.RcAt.lists_lengths p1.isList p2.isList (by simp only [List.size_toArray]; simpa using (by lia:us.length ≠ vs.length)) (by lia)
 fn:=fun pins s σ H x d d' I h h'=>by
  obtain ⟨a,xs,rfl,ha,px⟩:=h
  obtain ⟨b,ys,e,hb,py⟩:=h'
  cases e
  have:=I.list_inj ha hb
  subst this
  exact M0 ep I px py
end
end L2
namespace L2
open PySem PySem.Spec PyProof.Rows
structure DefD (K:PySem.W.Frag) (mg:Str → Option Value) (x:Str) (st:Stmt) (ps:List Str) (dvs:List V):Prop where
 ex:∃ (f:Addr) (fd:FuncData),(∃ (oc:Value) (od:Option Addr) (dV kV doc pm:Value) (an:Option Addr) (cdv ct:Value) (osl:Array (Option Value)),
   fd = PySem.W.fnOf x x (j0 st) (i8 st) (d7 st) dV kV doc pm an cdv ct ∧ K.lookup f = some ⟨oc,od,.func fd,osl⟩ ∧ PySem.W.codeIn K cdv x = true) ∧ PySem.W.keepIn K (.ref f) = true ∧
  (∀ m,m ≤ dvs.length → ∃ ds,j9 (dvs.drop m) ds ∧ O5 K fd ps ds) ∧ mg x = some (.ref f)
structure CalleeD (P:Program) (w:World) (K:PySem.W.Frag) (mg:Str → Option Value) (base:Heap) (k:Nat) (x:Str) (ps:List Str) (dvs:List V) (sp:Sp):Prop where
 ex:∃ (f:Addr) (fd:FuncData),FnOk P w K mg base CX0 k f fd ps sp ∧ (∀ m,m ≤ dvs.length → ∃ ds,j9 (dvs.drop m) ds ∧ O5 K fd ps ds) ∧ PySem.W.keepIn K (.ref f) = true ∧ mg x = some (.ref f)
section
variable {P:Program} {w:World} {K:PySem.W.Frag} {mg:Str → Option Value} {base:Heap}
theorem DefD.ok {x:Str} {st:Stmt} {N ps:List Str} {k:Nat} {dvs:List V} {sp:Sp} (D:DefD K mg x st ps dvs) (S:FnScope N ps (d7 st)) (len:∀ vs H Q E,sp vs H Q E → vs.length = ps.length)
  (hbody:∀ (f:Addr) (cdv:Value) (A:Around) (outer:List Env) (s:Shared) (H:Hp) (vs:List V) (Q:VK) (E:XK),Room k (A.deeper (envOfC x (d7 st) s.heap.objs.size f cdv)) → sp vs H Q E →
   ∃ t,PSs (F8 CX0 P w K mg base N x (d7 st) f cdv A outer s H E).nox (i8 st) t ∧ t { nx:=fun _ H'=>Q .non H',rt:=Q } (start N vs) H):CalleeD P w K mg base (k + 1) x ps dvs sp:=by
 obtain ⟨f,fd,⟨oc,od,dV,kV,doc,pm,an,cdv,ct,osl,rfl,lk,hcd⟩,kp,b,m⟩:=D.ex
 refine ⟨f,_,ar0 lk hcd S len fun A outer s H vs Q E hr hsp=>?_,b,kp,m⟩
 obtain ⟨t,h,q⟩:=hbody f cdv A outer s H vs Q E hr hsp
 exact ⟨t,h.nox,q⟩
theorem CalleeD.all {x:Str} {ps:List Str} {k:Nat} {dvs:List V} {sp:Sp} (C:CalleeD P w K mg base k x ps dvs sp):Callee P w K mg base k x ps sp:=by
 obtain ⟨f,fd,F,b,kp,m⟩:=C.ex
 obtain ⟨ds,hv,hb⟩:=b dvs.length (Nat.le_refl _)
 rw [List.drop_length] at hv
 cases hv
 exact ⟨f,fd,F,hb,kp,m⟩
end
section
variable {X:Cx}
def aj6 (l:Addr) (j:Int):HO:=.ext fun h=>∃ t u v,IsRange h l 0 j 1 t u v
def ba2:List V → Hp → VK → Prop:=fun xs H Q=>∃ j:Int,xs = [.int j] ∧ ∀ l,H l = none → Q (.ref l) (upd H l (aj6 l j))
theorem D3:y7 X (.type "range") ba2:=by
 intro pins s σ H xs us Q I r h
 obtain ⟨j,rfl,q⟩:=h
 obtain ⟨u,rfl,t,rfl⟩:=K4 r
 refine call_range_1 ?_
 have new:m5 X.prog X.w (upd H s.heap.objs.size (aj6 s.heap.objs.size j)) (s.heap.push { cls:=.type "range",data:=.fields #[.int 0 s.toks,.int j t,.int 1 (s.toks + 1)] }) s.heap.objs.size (aj6 s.heap.objs.size j):=by
  have e:IsRange (s.heap.push { cls:=.type "range",data:=.fields #[.int 0 s.toks,.int j t,.int 1 (s.toks + 1)] }) s.heap.objs.size 0 j 1 s.toks t (s.toks + 1):=IsRange.new ..
  exact ⟨⟨_,_,_,e⟩,⟨_,e⟩,fun h1 h2 ⟨_,_,_,a⟩ b=>⟨_,_,_,b _ a⟩⟩
 exact ⟨.ref s.heap.objs.size,_,I.laid (t':=s.toks + 1 + 1) (fun b o e=>Heap.get?_push_of_some _ e) (Nat.le_refl _) new,rfl,q _ (I.hok.fresh (Nat.le_refl _))⟩
def aM7:List V → Hp → VK → Prop:=fun xs H Q=>∃ (l:Addr) (n:Nat),xs = [.ref l] ∧ H l = some (aj6 l n) ∧ n ≤ 1000 ∧ ∀ t,H t = none → Q (.ref t) (upd H t (.lst ((List.range n).map fun (i:Nat)=>V.int i)))
theorem ae8:∀ (n:Nat) (acc:Array Value),ItemsOf (fun i v=>∃ t,v = Value.int (0 + (i:Int) * 1) t) acc n → j9 ((List.range n).map fun (i:Nat)=>V.int i) acc.toList:=fun n acc h=>by
 have go:∀ (us:List Value) (k:Nat),(∀ i v,us[i]? = some v → ∃ t,v = Value.int ((k + i:Nat):Int) t) → j9 ((List.range' k us.length).map fun (i:Nat)=>V.int i) us:=by
  intro us
  induction us with
  | nil=>intro k _; exact .nil
  | cons u r ih =>
   intro k hk
   obtain ⟨t,e⟩:=hk 0 u rfl
   refine .cons ⟨t,by simpa using e⟩ (ih (k + 1) fun i v hv=>?_)
   obtain ⟨t,e⟩:=hk (i + 1) v (by simpa using hv)
   exact ⟨t,by rw [e,show k + 1 + i = k + (i + 1) by lia]⟩
 have:=go acc.toList 0 fun i v hv=>by
  obtain ⟨t,e⟩:=h.2 i v (by simpa using hv)
  exact ⟨t,by rw [e]; simp⟩
 rw [Array.length_toList,h.1] at this
 rw [List.range_eq_range']
 exact this
theorem E6 (hc:X.calm = true):y7 X (.type "list") aM7:=by
 intro pins s σ H xs us Q I r h
 obtain ⟨l,n,rfl,e,hz,q⟩:=h
 obtain ⟨u,rfl,rx⟩:=K4 r
 cases rx
 obtain ⟨t,u,v,g⟩:=(show m5 X.prog X.w H s.heap l (aj6 l n) from I.hok l _ e).1
 have sz:Builtin.Range.rangeSize 0 (n:Int) 1 = (n:Int):=by rw [rangeSize_one]; split <;> lia
 refine call_list_range (I.ok.hd hc) g (small_one (by lia) (by lia) (by lia) (by lia)) sz (by lia) fun h' tk acc c kp gS hacc=>?_
 have hv:=ae8 n acc hacc
 have I2:Inv X pins σ (upd H s.heap.objs.size (.lst ((List.range n).map fun (i:Nat)=>V.int i))) { s with heap:=h',toks:=tk } :=
  I.laid kp (Nat.le_refl _) (show m5 X.prog X.w _ h' _ (.lst _) from ⟨by rw [List.length_map,List.length_range]; exact Nat.le_of_lt (m3 hz),acc.toList,c,hv,by simpa using gS⟩)
 exact ⟨.ref s.heap.objs.size,_,I2,rfl,q _ (I.hok.fresh (Nat.le_refl _))⟩
end
end L2
namespace L2
open PySem PySem.Spec PyProof.Rows
section
variable {X:Cx}
def a39 (K:PySem.W.Frag):R2:=fun x y H Q=>∃ (a b:Addr) (xs:List V),x = .ref a ∧ y = .ref b ∧ SqL K H a xs ∧ SqL K H b [] ∧ Q (.bl (!decide (xs = []))) H
theorem Q8 (K:PySem.W.Frag) (hu:X.A.units < cLine) (h:X.K = K:=by rfl):OpR X (compareOp .NotEq) (a39 K):=by
 subst h
 intro pins s σ H x y v u Q I rx ry h
 obtain ⟨a,b,xs,rfl,rfl,ha,hb,q⟩:=h
 cases rx
 cases ry
 obtain ⟨us,r1,p1,_⟩:=I.list ha
 obtain ⟨vs,r2,p2,_⟩:=I.list hb
 cases r2
 have l1:=r1.length
 cases xs with
 | nil =>
  cases r1
  refine SeqAt.RcNeAt.lists (e:=fun j=>true) p1.isList p2.isList rfl (by lia) (fun j h1 h2=>absurd h1 (by simp)) X.prog X.w X.xe _ ?_
  exact ⟨.bl false,H,I,rfl,q⟩
 | cons x t =>
  refine SeqAt.RcNeAt.lists_lengths p1.isList p2.isList (by simp only [List.size_toArray]; rw [← l1]; simp) (by lia) X.prog X.w X.xe _ ?_
  exact ⟨.bl true,H,I,rfl,q⟩
end
theorem ak1 {A u:TS} {D:Ends} {σ:St} {H:Hp} (S:St → Hp → Prop) (h1:∀ R:St → Hp → Prop,(∀ σ' H',S σ' H' → R σ' H') → A { D with nx:=R } σ H) (h2:∀ σ' H',S σ' H' → u D σ' H'):a94 A u D σ H:=h1 (u D) h2
end L2
namespace L2
open PySem PySem.Spec PyProof.Rows PyProof PySem.W
section
variable {prog:Program} {w:World} {A:Around} {E:Value → Shared → Prop} {s:Shared} {d:Addr}
theorem ai6 {K:Type} [DecidableEq K] {knd:KeyKind prog w K} {kvs:List (K × Value)} {ep:Nat} {Q:List Value → Shared → Prop} (hh:A.handled = none) (lo:(d == sysModules) = false) (hm:s.heap.DictAt knd d kvs ep) (hn:kvs.length ≤ sizeLine)
  (hQ:∀ (h':Heap) (tk:Nat) (xs:List Value),xs.length = kvs.length → (∀ (j:Nat) v,xs[j]? = some v → ∃ k x,kvs[j]? = some (k,x) ∧ knd.is k v = true) → s.heap.objs.size < h'.objs.size → (∀ b ob,s.heap.get? b = some ob → h'.get? b = some ob) → Q xs { s with heap:=h',toks:=tk }) :
  wpAny (model prog w) A (collect (.ref d)) Q E s:=by
 have hdl:=hm.lt_size
 unfold collect
 refine wpAny_bind (wpAny_runValue (codeAny_builtin PySem.F.entry_proto_collect ?_))
 rw [Around.under_plainId PySem.F.plain_proto_collect _]
 show wpAny _ A.in1 (newList [] >>= fun l=>again (.builtin "list.__iadd__" ⟨[l,.ref d],[]⟩)) _ _ s
 refine wpAny_bind (wpAny_newObj_type ?_)
 refine wpAny_pure ⟨plainId_quiet PySem.F.plain_list_iadd _,codeAny_builtin PySem.F.entry_list_iadd ?_⟩
 rw [Around.under_plainId PySem.F.plain_list_iadd _]
 have hS:(s.heap.push { cls:=.type "list",data:=.seq ([]:List Value).toArray }).get? s.heap.objs.size = some { cls:=.type "list",data:=.seq #[] }:=Heap.get?_push_size _ rfl
 show wpAny _ A.in1 (Builtin.List.listExtendWith (.ref s.heap.objs.size) (.ref d) (.ref s.heap.objs.size)) _ _ _
 refine kdl_extend (R:=fun r s'=>match r with | .ok (.ret v)=>wpAny (model prog w) A (match v with | .ref a=>(do match (← load a).data with | .seq xs _=>pure xs.toList | _=>unsupported "internal:collect") | _=>unsupported "internal:collect") Q E s' | .ok _=>False | .error e=>E e s')
  (kdl_dict (knd:=knd) (kvs:=kvs) (ep:=ep) lo) hh (hm.push _) _ (Nat.ne_of_gt hdl) (Nat.ne_of_gt hdl) _ 0 hS (fun h' tk acc c keep hS' items=>?_) hn
 show wpAny _ A (load s.heap.objs.size >>= _) _ _ _
 refine wpAny_bind (wpAny_load hS' (wpAny_pure (hQ h' tk acc.toList (by rw [Array.length_toList]; exact items.1) (fun j v e=>items.2 j v (by rw [← Array.getElem?_toList]; exact e)) (Heap.lt_size hS') fun b ob e=>?_)))
 exact keep b ob (Nat.ne_of_lt (Heap.lt_size e)) (Heap.get?_push_of_some _ e)
theorem ar4 {kvs:List (Key × Value)} {ns:List Int} {ep:Nat} {Q:Value → Shared → Prop} (hh:A.handled = none) (lo:(d == sysModules) = false) (hm:s.heap.DictAt (u7 prog w) d kvs ep) (hk:kvs.map (·.1) = ns.map Sum.inl) (h64:ns.length < 64)
  (h:∀ (l:Addr) (h':Heap) (tk e:Nat) (out:Array Value) (ns':List Int),IntsAre out.toList ns' → ns'.Perm ns → ns'.Pairwise (· ≤ ·) → s.heap.objs.size ≤ l → (∀ b ob,s.heap.get? b = some ob → h'.get? b = some ob) →
   h'.get? l = some (seqObj "list" out e) → Q (.ref l) { s with heap:=h',toks:=tk }):wpAny (model prog w) A (call (.builtin "sorted") [.ref d]) Q E s:=by
 have hl:kvs.length = ns.length:=by
  have:=congrArg List.length hk
  rwa [List.length_map,List.length_map] at this
 refine Calls.call_function_entry kind_sorted plain_sorted entry_sorted (args_sorted1 _) ?_
 unfold Builtin.«sorted»
 refine wpAny_bind (m:=checkCount "sorted" 1 1 _) (wpAny_pure ?_)
 refine wpAny_bind (ai6 hh lo hm (by rw [hl]; exact Nat.le_trans (Nat.le_of_lt h64) (by decide)) fun h1 tk xs hxl hx big old=>?_)
 have im:IntsAre xs ns:=by
  have go:∀ (xs:List Value) (ns:List Int),xs.length = ns.length → (∀ (j:Nat) v,xs[j]? = some v → ∃ i t,ns[j]? = some i ∧ v = Value.int i t) → IntsAre xs ns:=by
   intro xs
   induction xs with
   | nil =>
    intro ns h _
    cases ns with
    | nil=>exact .nil
    | cons=>cases h
   | cons x xs ih =>
    intro ns h q
    cases ns with
    | nil=>cases h
    | cons n ns =>
     obtain ⟨i,t,e1,e2⟩:=q 0 x rfl
     simp at e1
     subst e1 e2
     exact .cons _ _ (ih ns (by simpa using h) fun j v e=>q (j + 1) v (by simpa using e))
  refine go xs ns (hxl.trans hl) fun j v e=>?_
  obtain ⟨k,x,e1,e2⟩:=hx j v e
  have e3:(kvs.map (·.1))[j]? = some k:=by rw [List.getElem?_map,e1]; rfl
  rw [hk,List.getElem?_map] at e3
  obtain ⟨i,e4,e5⟩:=Option.map_eq_some_iff.mp e3
  subst e5
  rcases w5 (show aa2 (Sum.inl i) v = true from e2) with ⟨i',t,e6,rfl⟩ | ⟨_,_,e6,_⟩
  ·injection e6 with e6
   subst e6
   exact ⟨i,t,e4,rfl⟩
  ·cases e6
 refine wpAny_bind (wpAny_newList ?_ (by rw [hxl,hl]; exact Nat.le_trans (Nat.le_of_lt h64) (by decide)))
 have hoL:(h1.push (seqObj "list" xs.toArray 0)).get? h1.objs.size = some (seqObj "list" xs.toArray 0):=Heap.get?_push_size _ rfl
 show wpAny _ _ _ _ _ { s with heap:=h1.push (seqObj "list" xs.toArray 0),toks:=tk }
 refine wpAny_bind (wpAny_holding (wpAny_call_entry slot_list_sort ⟨_,hoL,rfl⟩ entry_list_sort (list_sort_tree hoL im (by lia) fun out ns' a1 a2 a3=>⟨_,rfl,?_⟩) (args_list_sort _)))
 obtain ⟨e,he⟩:=sortedHeap_at (out:=out) hoL
 refine wpAny_pure ⟨_,rfl,h h1.objs.size _ tk e out ns' a1 a2 a3 ?_ (fun b ob q=>?_) he⟩
 ·exact Nat.le_of_lt big
 ·have q1:=old b ob q
  have hlt:=Heap.lt_size q1
  rw [sortedHeap_old (Nat.ne_of_lt hlt) (by rw [Heap.size_push]; exact Nat.lt_succ_of_lt hlt)]
  exact Heap.get?_push_of_some _ q1
end
section
variable {X:Cx}
def az2:List V → Hp → VK → Prop:=fun xs H Q=>∃ (p:Addr) (kvs:List (Key × V)) (ns:List Int),xs = [.ref p] ∧ Rd H p (.dK kvs) ∧ kvs.map (·.1) = ns.map Sum.inl ∧ ns.length < 64 ∧ ∀ ns':List Int,ns'.Perm ns → ns'.Pairwise (· ≤ ·) → ∀ l,H l = none → Q (.ref l) (upd H l (.lst (ns'.map V.int)))
theorem P4 (hc:X.calm = true):y7 X (.builtin "sorted") az2:=by
 intro pins s σ H xs us Q I r h
 obtain ⟨p,kvs,ns,rfl,rd,hk,h64,q⟩:=h
 obtain ⟨u,rfl,rx⟩:=K4 r
 cases rx
 obtain ⟨_,hs,vs,rel,dd⟩:=X6 I.hok rd
 obtain ⟨ep,dd⟩:=dd.dictAt
 have hk':vs.map (·.1) = ns.map Sum.inl:=(KV.keys rel).symm.trans hk
 refine ar4 (I.ok.hd hc) hs dd hk' h64 fun l h' tk e out ns' a1 a2 a3 hlz kp g=>?_
 have fr:=I.hok.fresh hlz
 have new:m5 X.prog X.w (upd H l (.lst (ns'.map V.int))) h' l (.lst (ns'.map V.int)):=⟨by rw [List.length_map,a2.length_eq]; exact Nat.le_of_lt (m3 (by lia)),out.toList,e,Q7 a1,by simpa [seqObj] using g⟩
 exact ⟨.ref l,_,I.call' (s':={ s with heap:=h',toks:=tk }) (ch:=[]) rfl (Un.track (Un.kept kp) hlz fr) (HOk.track (I.hok.kept kp) fr new) I.bare (fun b z=>nomatch z),rfl,q ns' a2 a3 l fr⟩
end
end L2
namespace L2
open PySem PySem.Spec PyProof.Rows
def Ite (K:PySem.W.Frag) (l:Addr):It :=
  ⟨fun i H=>∃ xs x,SqL K H l xs ∧ xs[i]? = some x,
   fun i H v H'=>∃ p x,H p = none ∧ v = .ref p ∧ H' = upd H p (.tup [.int (i:Nat),x]) ∧ ∀ xs,SqL K H l xs → xs[i]? = some x,
   fun i H=>∃ xs,SqL K H l xs ∧ xs.length ≤ i⟩
theorem aH1 {P:Program} {w:World} {K:PySem.W.Frag} {es:List Expr} {kk:Nat} {pos:Pos} {e it l:Addr} (hei:e ≠ it) (hle:l ≠ e) (hli:l ≠ it) :
  Turn P w K (.Tuple es kk pos) (Ite K l) [e,it] e (fun n h=>(∃ old,IsEnum h e it (n:Int) old) ∧ h.IsListIter it l n) where
 mem:=by simp
 obj:=fun n h ⟨⟨old,he⟩,hi⟩ a ha=>by
  simp only [List.mem_cons,List.not_mem_nil,or_false] at ha
  rcases ha with rfl | rfl
  ·exact ⟨_,he,fun v q=>nomatch q⟩
  ·obtain ⟨o,e1,_,d⟩:=hi
   exact ⟨o,e1,fun v z=>by rw [d] at z; cases z⟩
 keep:=fun n h h' ⟨⟨old,he⟩,hi⟩ k=>⟨⟨old,k e (by simp) _ he⟩,hi.at fun o x=>k it (by simp) o x⟩
 item:=by
  intro X hP hw hK hc n pins s σ H E I hf ⟨⟨old,he⟩,hi⟩ hg
  subst hP hw hK
  obtain ⟨xs,x,hl,hx⟩:=hg
  obtain ⟨us,ru,hl',hzl⟩:=I.list hl
  obtain ⟨u,hu,r1⟩:=ru.get hx
  refine wpAny_pyNext_enum_item he hi hl'.isList (x:=u) (by simpa using hu) hei fun h' ho hit hT hsz kp=>⟨_,rfl,?_⟩
  refine wpAny_letOwnedTupleGo_enum (s:={ s with heap:=h',toks:=s.toks + 1 }) ho fun h'' he'' sb=>?_
  replace sb:Heap.SameBut e h' h'':=sb
  have fresh:H s.heap.objs.size = none:=I.hok.fresh (Nat.le_refl _)
  have kp2:∀ a q,a ≠ e → a ≠ it → s.heap.get? a = some q → h''.get? a = some q:=fun a q a1 a2 z=>sb.extBut _ _ a1 (kp a q a1 a2 z)
  have hTe:s.heap.objs.size ≠ e:=Nat.ne_of_gt (Heap.lt_size he)
  have pT:h''.get? s.heap.objs.size = some { cls:=.type "tuple",data:=.seq #[.int n s.toks,u] }:=sb.extBut _ _ hTe hT
  have notin:∀ a,a ∉ [e,it] → a ≠ e ∧ a ≠ it:=fun a ha=>by simpa using ha
  have trk:∀ a q,H a = some q → a ∉ [e,it]:=fun a q z ha=>by rw [(hf a ha).1] at z; cases z
  have hok:HOk X.prog X.w (upd H s.heap.objs.size (.tup [.int (n:Nat),x])) h'':=fun a q z=>by
   by_cases ha:a = s.heap.objs.size
   ·subst ha
    rw [b9] at z
    cases z
    exact ⟨by show 2 ≤ sizeLine; decide,[.int n s.toks,u],.cons ⟨_,rfl⟩ (.cons r1 .nil),⟨_,pT,rfl,_,rfl⟩⟩
   ·rw [d9 ha] at z
    refine (I.hok a q z).stay (fun a' q' h1 h2=>?_) (fun a' q'=>by rw [d9 (g9 q' fresh)]; exact q') fun a' xs' q'=>by rw [d9 (g9 q' fresh)]; exact q'
    have ni:a' ∉ [e,it]:=by
     rcases h1 with rfl | h1
     ·exact trk _ _ z
     ·exact trk _ _ h1
    obtain ⟨n1,n2⟩:=notin a' ni
    exact kp2 a' q' n1 n2 h2
  have J:Inv X pins σ (upd H s.heap.objs.size (.tup [.int (n:Nat),x])) { s with heap:=h'',toks:=s.toks + 1 }:=by
   refine I.step (g':=s.gens) (d':=s.drawn) (t':=s.toks + 1) (ch:=[e,it]) (fun a ha=>?_) (fun a q _ _ hc' z _=>?_) (fun a q _ _ hc' z _=>?_) (fun a q _ z n2=>?_) (fun a q hc' z=>?_) (fun a xs' z=>?_) (fun a q u' z=>?_) (fun a ps z=>?_) (fun m' hm''=>?_) hok I.bare
   ·obtain ⟨_,f1,_,f3,f4,f5⟩:=hf a ha
    exact ⟨f3,f1,f4,f5⟩
   ·obtain ⟨n1,n2⟩:=notin a hc'
    exact kp2 a q n1 n2 z
   ·obtain ⟨n1,n2⟩:=notin a hc'
    exact ⟨q.slots,kp2 a q n1 n2 z⟩
   ·rw [d9 (Nat.ne_of_lt (Heap.lt_size z))]
    exact n2
   ·obtain ⟨n1,n2⟩:=notin a hc'
    exact ⟨q,kp2 a q n1 n2 z⟩
   ·rw [d9 (g9 z fresh)]
    exact z
   ·rw [d9 (g9 z fresh)]
    exact z
   ·exact ⟨#[],by rw [d9 (g9 z fresh),z]; simp⟩
   ·obtain ⟨ob,es',ep,e1,r⟩:=hm''
    have f1:∀ a' ∈ [e,it],a' ≠ X.env.locals:=fun a' ha'=>(hf a' ha').2.1
    exact ⟨ob,es',ep,kp2 _ _ (Ne.symm (f1 e (by simp))) (Ne.symm (f1 it (by simp))) e1,r⟩
  have hi2:h''.IsListIter it l (n + 1):=hit.at fun o z=>sb.extBut _ _ (Ne.symm hei) z
  refine ⟨.ref s.heap.objs.size,_,J,rfl,⟨s.heap.objs.size,x,fresh,rfl,rfl,fun xs' q=>?_⟩,⟨⟨_,by have:=he''; rw [show ((n:Nat):Int) + 1 = ((n + 1:Nat):Int) by lia] at this; exact this⟩,hi2⟩,fun a ha=>?_⟩
  ·have e2:=I.row_inj (b:=false) (show Sq false X.K H l xs' from q) (show Sq false X.K H l xs from hl)
   rw [e2]
   exact hx
  ·have:a ≠ s.heap.objs.size:=by
    simp only [List.mem_cons,List.not_mem_nil,or_false] at ha
    rcases ha with rfl | rfl
    ·exact Ne.symm hTe
    ·obtain ⟨q,z,_⟩:=hi; exact Nat.ne_of_lt (Heap.lt_size z)
   rw [d9 this]
   exact (hf a ha).1
 done:=by
  intro X hP hw hK hc n pins s σ H E I hf ⟨⟨old,he⟩,hi⟩ hg
  subst hP hw hK
  obtain ⟨xs,hl,hend⟩:=hg
  obtain ⟨us,ru,hl',hzl⟩:=I.list hl
  have e1:=ru.length
  refine wpAny_pyNext_enum_end (I.ok.hd hc) he hi hl'.isList (by simp; lia) fun h' kp=>⟨rfl,?_⟩
  obtain ⟨f0,f1,f2,f3,f4,f5⟩:=hf it (by simp)
  exact I.turned (t':=s.toks) (fun b o hb z=>kp b o hb z) f0 f1 f3 f4 f5
 self:=fun _ _ _ _ _ ⟨⟨old,he⟩,_⟩ h=>wpAny_pyIter_enum he h
section
variable {X:Cx}
def a69 (K:PySem.W.Frag) (ta:TA):TI:=fun σ H R=>ta σ H fun vs H1=>∃ l xs,vs = [.ref l] ∧ SqL K H1 l xs ∧ R (Ite K l) H1
theorem aE8 (K:PySem.W.Frag) {es:List Expr} {kk:Nat} {tpos:Pos} {e1:Expr} {ta:TA} {p pos:Pos} (hg:Gl X "enumerate") (hm:X.mg "enumerate" = none) (ha:PA X [e1] ta) (hK:X.K = K:=by rfl) (hs:starEach [e1] X.env = [(false,eval e1 X.env)]:=by rfl) (hs0:starEach [] X.env = []:=by rfl) :
  PI X (.Tuple es kk tpos) (.Call (.Name "enumerate" p) [e1] [] pos) (a69 K ta):=by
 subst hK
 intro pins s σ H R I h
 refine Call_ (T7 I hg hm boot_enumerate (PyProof.Rows.callWith_type1 (thn (ha pos pins s σ H _ I h) fun us s1 ⟨vs,H1,I1,r1,q1⟩=>?_) (by rw [hs,hs0]) (by rw [hs0]; rfl)))
 obtain ⟨l,xs,e,hl,q⟩:=q1
 subst e
 obtain ⟨u,rfl,ru⟩:=K4 r1
 cases ru
 obtain ⟨its,rv,hl',_⟩:=I1.list hl
 refine call_enumerate_list hl'.isList fun h' he hi hz kp=>wpAny_pyIter_enum he ?_
 obtain ⟨ol,gl,_⟩:=id hl'.isList
 have ll:l < s1.heap.objs.size:=Heap.lt_size gl
 have fr:∀ n,Z0 X pins H1 (s1.heap.objs.size + n):=fun n=>I1.fpOk (Nat.le_add_right _ n) (I1.hok.fresh (Nat.le_add_right _ n))
 refine ⟨s1.heap.objs.size + 1,[s1.heap.objs.size + 1,s1.heap.objs.size],_,_,H1,rfl,I1.kept (t':=s1.toks) kp,aH1 (Nat.succ_ne_self _) (Nat.ne_of_lt (Nat.lt_succ_of_lt ll)) (Nat.ne_of_lt ll),⟨⟨_,he⟩,hi⟩,fun a ha=>?_,q⟩
 simp only [List.mem_cons,List.not_mem_nil,or_false] at ha
 rcases ha with rfl | rfl
 ·exact fr 1
 ·exact fr 0
end
theorem at1 {K:PySem.W.Frag} {l:Addr} {xs:List V} {g:TG} {tb:TS} {D:Ends} {σ:St} {H:Hp} (Pv:Nat → St → Hp → Prop) (h0:Pv 0 σ H) (hl:∀ i σ H,i ≤ xs.length → Pv i σ H → SqL K H l xs)
  (hs:∀ i x σ H p,xs[i]? = some x → Pv i σ H → H p = none → g (.ref p) σ (upd H p (.tup [.int (i:Nat),x])) fun σ2 H2=>tb { D with nx:=Pv (i + 1),ct:=Pv (i + 1),bk:=D.nx } σ2 H2) (hd:∀ σ H,Pv xs.length σ H → D.nx σ H) :
  ∃ W:Nat → Nat → St → Hp → Prop,(∃ m,W 0 m σ H) ∧ ∀ i m σ H,W i m σ H →
   ((Ite K l).stop i H ∧ D.nx σ H) ∨ ((Ite K l).go i H ∧ ∃ N:St → Hp → Prop,(∀ σ' H',N σ' H' → ∃ m',m' < m ∧ W (i + 1) m' σ' H') ∧ ∀ x H',(Ite K l).yld i H x H' → g x σ H' fun σ2 H2=>tb { D with nx:=N,ct:=N,bk:=D.nx } σ2 H2):=by
 refine ⟨fun i m σ H=>m = xs.length - i ∧ i ≤ xs.length ∧ Pv i σ H,⟨xs.length,by simp,Nat.zero_le _,h0⟩,?_⟩
 rintro i m σ H ⟨rfl,hi,p⟩
 have hq:=hl i σ H hi p
 by_cases hlt:i < xs.length
 ·refine .inr ⟨⟨xs,xs[i],hq,by simp [hlt]⟩,Pv (i + 1),fun σ' H' p'=>⟨xs.length - (i + 1),by lia,rfl,hlt,p'⟩,fun x H' y=>?_⟩
  obtain ⟨a,v,fr,rfl,rfl,k⟩:=y
  exact hs i v σ H a (k xs hq) p fr
 ·have e:i = xs.length:=by lia
  subst e
  exact .inl ⟨⟨xs,hq,Nat.le_refl _⟩,hd σ H p⟩
theorem aT0 {b:Bool} {K:PySem.W.Frag} {l m:Addr} {xs ys:List V} {g:TG} {tb:TS} {D:Ends} {σ:St} {H:Hp} (Pv:Nat → St → Hp → Prop) (he:ys.length = xs.length) (h0:Pv 0 σ H) (hl:∀ i σ H,i ≤ xs.length → Pv i σ H → Sq b K H l xs ∧ Sq b K H m ys)
  (hs:∀ i x y σ H p,xs[i]? = some x → ys[i]? = some y → Pv i σ H → H p = none → g (.ref p) σ (upd H p (.tup [x,y])) fun σ2 H2=>tb { D with nx:=Pv (i + 1),ct:=Pv (i + 1),bk:=D.nx } σ2 H2) (hd:∀ σ H,Pv xs.length σ H → D.nx σ H) :
  ∃ W:Nat → Nat → St → Hp → Prop,(∃ m,W 0 m σ H) ∧ ∀ i n σ H,W i n σ H →
   ((Itz b K l m).stop i H ∧ D.nx σ H) ∨ ((Itz b K l m).go i H ∧ ∃ N:St → Hp → Prop,(∀ σ' H',N σ' H' → ∃ n',n' < n ∧ W (i + 1) n' σ' H') ∧ ∀ x H',(Itz b K l m).yld i H x H' → g x σ H' fun σ2 H2=>tb { D with nx:=N,ct:=N,bk:=D.nx } σ2 H2):=by
 refine ⟨fun i n σ H=>n = xs.length - i ∧ i ≤ xs.length ∧ Pv i σ H,⟨xs.length,by simp,Nat.zero_le _,h0⟩,?_⟩
 rintro i n σ H ⟨rfl,hi,p⟩
 obtain ⟨q1,q2⟩:=hl i σ H hi p
 by_cases hlt:i < xs.length
 ·have h2:i < ys.length:=by lia
  refine .inr ⟨⟨xs,ys,xs[i],ys[i],q1,q2,by simp [hlt],by simp [h2]⟩,Pv (i + 1),fun σ' H' p'=>⟨xs.length - (i + 1),by lia,rfl,hlt,p'⟩,fun x H' y=>?_⟩
  obtain ⟨a,u,v,fr,rfl,rfl,k1,k2⟩:=y
  exact hs i u v σ H a (k1 xs q1) (k2 ys q2) p fr
 ·have e:i = xs.length:=by lia
  subst e
  exact .inl ⟨⟨xs,ys,q1,q2,.inl (Nat.le_refl _)⟩,hd σ H p⟩
end L2
namespace L2
open PySem PySem.Spec PyProof.Rows
section
variable {K:Type} [DecidableEq K]
def O2 (xs:List (K × Addr × Value)) (k:K):List (K × Addr × Value):=xs.filter fun x=>decide (x.1 ≠ k)
theorem aa6:∀ {xs:List (K × Addr × Value)} {j:Nat} {k:K} {p:Addr × Value},(xs.map (·.1)).Nodup → xs[j]? = some (k,p) → xs.eraseIdx j = O2 xs k
 | [],j,k,p,_,h=>by simp at h
 | x :: t,0,k,p,n,h=>by
  simp at h
  subst h
  obtain ⟨n1,n2⟩:=List.nodup_cons.mp n
  have:O2 t k = t:=by
   unfold O2
   rw [List.filter_eq_self]
   intro y hy
   simp
   intro e
   exact n1 (List.mem_map.mpr ⟨y,hy,e⟩)
  show t = O2 ((k,p) :: t) k
  unfold O2 at this ⊢
  rw [List.filter_cons_of_neg (by simp),this]
 | x :: t,j + 1,k,p,n,h=>by
  obtain ⟨n1,n2⟩:=List.nodup_cons.mp n
  have h':t[j]? = some (k,p):=by simpa using h
  have hx:x.1 ≠ k:=fun e=>n1 (List.mem_map.mpr ⟨(k,p),List.mem_of_getElem? h',e.symm⟩)
  have ih:=aa6 n2 h'
  show x :: t.eraseIdx j = O2 (x :: t) k
  unfold O2 at ih ⊢
  rw [List.filter_cons_of_pos (by simpa using hx),ih]
end
theorem ag9 {α β:Type} (f:α → β):∀ (l:List α) (j:Nat),(l.eraseIdx j).map f = (l.map f).eraseIdx j
 | [],_=>by simp
 | x :: t,0=>rfl
 | x :: t,j + 1=>by
  show f x :: (t.eraseIdx j).map f = f x :: (t.map f).eraseIdx j
  rw [ag9 f t j]
section
variable {prog:Program} {w:World} {K:Type} [DecidableEq K] {knd:HeapKind prog w K} {A:Around} {E:Value → Shared → Prop} {s:Shared}
theorem al0 {d a b:Addr} {v:Value} {xs:List (K × Addr × Value)} {k:K} {Q:Option DictEntry → Shared → Prop} (hu:knd.room A) (hkey:knd.is s.heap k a) (hm:s.heap.DictOfH knd d xs) (hat:atKey xs k = some (b,v))
  (hQ:∀ (e:DictEntry) h',e.val = v → h'.DictOfH knd d (O2 xs k) → Heap.SameBut d s.heap h' → Q (some e) { s with heap:=h',toks:=s.toks + knd.draws k }) (hsz:xs.length ≤ sizeLine) :
  wpAny (model prog w) A (Builtin.Dict.takeOut d (.ref a)) Q E s:=by
 obtain ⟨o,es,ep,ho,hc,hd,he,his,hn⟩:=hm
 have hes:es.size = xs.length:=size_of_entries he
 unfold Builtin.Dict.takeOut
 try with_reducible refine wpAny_holding ?_
 refine wpAny_bind (knd.pyHash hu hkey ?_)
 refine wpAny_bind (wpAny_dictFind_heap (s:={ s with toks:=s.toks + knd.draws k }) hu hkey ho hd he his hn ?_ ?_)
 ·intro hno
  rw [atKey_none_of_get hno] at hat
  cases hat
 ·intro j p hj
  have hp:=atKey_of_get hn hj
  rw [hat] at hp
  cases hp
  refine wpAny_bind (wpAny_dictEntries (s:={ s with toks:=s.toks + knd.draws k }) ho hd ?_)
  rw [entry_at he j,hj]
  refine wpAny_bind (wpAny_updateDictKeys (hz:=by rw [hes]; exact hsz) (s:={ s with toks:=s.toks + knd.draws k }) ho hd (wpAny_pure (hQ _ _ rfl ⟨_,_,ep + 1,Heap.get?_update_self _ ho (Obj.isFreed_of_dict (Obj.data_mapDictKeys hd _)),
   hc.mapDictKeys _,Obj.data_mapDictKeys hd _,?_,?_,?_⟩ (Heap.SameBut.update ..))))
  ·rw [← aa6 hn hj,ag9,← he]
   obtain ⟨l⟩:=es
   simp
  ·intro x hx
   exact knd.keeps (his x (List.mem_filter.mp hx).1) ho hd (Heap.SameBut.update ..)
  ·exact (List.Sublist.map _ List.filter_sublist).nodup hn
theorem Y3 {d a:Addr} (knd:HeapKind prog w K) (hd:(d == sysModules) = false) :
  MeetsIn prog w (Builtin.«dict.pop» ⟨[.ref d,.ref a],[]⟩) (fun A R s=>knd.room A.in1 ∧ ∃ k xs b v,knd.is s.heap k a ∧ s.heap.DictOfH knd d xs ∧ xs.length ≤ sizeLine ∧ atKey xs k = some (b,v) ∧
   ∀ h',h'.DictOfH knd d (O2 xs k) → Heap.SameBut d s.heap h' → R (.ok (.ret v)) { s with heap:=h',toks:=s.toks + knd.draws k }) :=
 .of_wp fun A R s ⟨hu,k,xs,b,v,hkey,hm,hsz,hat,h⟩=>by
  unfold Builtin.«dict.pop»
  refine wpAny_bind ?_
  unfold Builtin.Dict.keyAndDefault
  refine wpAny_bind (wpAny_notOrdered_dict hm.typeIs ?_)
  show wpAny _ _ (pure (d,Value.ref a,none)) _ _ s
  refine wpAny_pure ?_
  obtain ⟨o,es,ep,ho,hc,hdat,he,his,hn⟩:=id hm
  have hne:es.isEmpty = false:=by
   have hs:es.size = xs.length:=size_of_entries he
   have:xs ≠ []:=fun z=>by rw [z] at hat; cases hat
   have:0 < xs.length:=List.length_pos_iff.mpr this
   rw [Array.isEmpty_eq_false_iff]
   intro z
   rw [z] at hs
   simp at hs
   lia
  simp only [show (keyPart (Value.ref a)).isSome = false from rfl,Bool.false_eq_true,if_false]
  refine wpAny_bind (wpAny_dictEntries ho hdat ?_)
  refine wpAny_bind (wpAny_pure ?_)
  simp only [hne,Bool.false_eq_true,if_false]
  refine wpAny_bind (al0 hu hkey hm hat (fun e h' hev hm' hs'=>?_) hsz)
  simp only [Option.isNone_some,Bool.false_eq_true,if_false]
  exact wpAny_bind (wpAny_letGo (wpAny_pure ⟨e.val,rfl,by rw [hev]; exact h h' hm' hs'⟩))
end
end L2
namespace L2
open PySem PySem.Spec PyProof.Rows
theorem KT.drop {H:Hp} {kvs:List (List Key × V)} {xs:List (List Key × Addr × Value)} (r:KT H kvs xs) (k:List Key):KT H (E8 kvs k) (O2 xs k):=by
 induction r with
 | nil=>exact .nil
 | @cons p q ps qs h t ih =>
  by_cases e:p.1 = k
  ·have e':q.1 = k:=h.1.symm.trans e
   rw [ah2 e]
   unfold O2
   rw [List.filter_cons_of_neg (by simp [e'])]
   exact ih
  ·have e':¬ q.1 = k:=fun z=>e (h.1.trans z)
   rw [ag3 e]
   unfold O2
   rw [List.filter_cons_of_pos (by simp [e'])]
   exact .cons h ih
section
variable {X:Cx} {o e:Expr} {apos cpos:Pos} {td ty:TE}
def a42 (td ty:TE):TE:=fun σ H Q=>td σ H fun x H1=>∃ a,x = .ref a ∧ IsD H1 a ∧ ty σ H1 fun y H2=>∃ kvs k b v,H2 a = some (.dT kvs) ∧ y = .ref b ∧ H2 b = some (.tup (k.map kV)) ∧ p7 kvs k = some v ∧ Q v (upd H2 a (.dT (E8 kvs k)))
theorem aP1 (hu:X.A.units + 1 < cLine) (ho:PE X o td) (he:PE X e ty) (m:M1 X o "pop" apos e cpos):PE X (.Call (.Attribute o "pop" apos) [e] [] cpos) (a42 td ty):=by
 intro pins s σ H Q I h
 refine wpAny_Call_method m.base m.few m.line PySem.F.plainAttrs_dict PySem.F.slot_dict_pop PySem.F.type_dict_pop (thn (ho pins s σ H _ I h) fun u s1 ⟨x,H1,I1,rx,a,ex,d,q1⟩=>?_)
 subst ex
 obtain rfl:u = Value.ref a:=rx
 obtain ⟨t1,t2,_⟩:=az1 I1 d
 refine ⟨t1,t2,?_⟩
 rw [m.trees]
 refine Calls.callWith_builtin rfl (Calls.evalArgs_plain (Calls.spliced_cons (thn (he pins s1 σ H1 _ I1 q1) fun iv s2 ⟨y,H2,I2,ry,kvs,k,b,v,ea,ey,eb,l,q2⟩=>Calls.spliced_nil ?_)))
 subst ey
 cases (show iv = Value.ref b from ry)
 obtain ⟨z,hd,xs,rel,dd⟩:=aM2 I2.hok ea
 have hz:xs.length ≤ sizeLine:=by rw [← Paired.length rel]; exact z
 obtain ⟨w',hw,rw'⟩:=P1.some_of (v:=v) (o:=(atKey xs k).map (·.2)) (by rw [← l]; exact rel.val k)
 obtain ⟨⟨b',w''⟩,hw1,hw2⟩:=Option.map_eq_some_iff.mp hw
 cases hw2
 refine call_meetsIn PySem.F.slot_dict_pop dd.typeIs PySem.F.entry_dict_pop (PySem.F.args_dict_pop_2 _ _) (Y3 (tupleKind (u7 X.prog X.w)) hd) ⟨tupleKind_room_in1 hu,k,xs,b',_,S5 I2.hok eb,dd,hz,hw1,fun h' dd' hs=>?_⟩
 obtain ⟨q,es,ep,hq,h2,h3,h4,_,h5⟩:=dd'
 refine ⟨v,upd H2 a (.dT (E8 kvs k)),am0 I2 (ob:=.dT (E8 kvs k)) (by rw [ea]; exact True.intro) hs ⟨q,hq⟩ ⟨Nat.le_trans (ac4 kvs k) z,hd,_,(rel.drop k).keeps fun c ys ec=>?_,q,es,ep,hq,h2,h3,h4,h5⟩,rw',q2⟩
 rw [d9 (aX3 ec ea (fun z=>nomatch z))]
 exact ec
end
end L2
namespace L2
open PySem PySem.Spec PyProof.Rows
structure FnQ (K:PySem.W.Frag) (x qual:Str) (st:Stmt) (f:Addr) (fd:FuncData):Prop where
 ex:∃ (oc:Value) (od:Option Addr) (dV kV doc pm:Value) (an:Option Addr) (cdv ct:Value) (osl:Array (Option Value)),
  fd = PySem.W.fnOf x qual (j0 st) (i8 st) (d7 st) dV kV doc pm an cdv ct ∧ K.lookup f = some ⟨oc,od,.func fd,osl⟩ ∧ PySem.W.codeIn K cdv qual = true
structure DefM (K:PySem.W.Frag) (C:Addr) (m qual:Str) (st:Stmt) (ps:List Str) (dvs:List V) (kb:FuncData → Prop):Prop where
 ex:∃ (f:Addr) (fd:FuncData),FnQ K m qual st f fd ∧ Meth K C m f ∧ kb fd ∧ ∀ j,j ≤ dvs.length → ∃ ds,j9 (dvs.drop j) ds ∧ O5 K fd ps ds
structure CalleeM (P:Program) (w:World) (K:PySem.W.Frag) (mg:Str → Option Value) (base:Heap) (k:Nat) (C:Addr) (m:Str) (ps:List Str) (dvs:List V) (kb:FuncData → Prop) (sp:Sp):Prop where
 ex:∃ (f:Addr) (fd:FuncData),FnOk P w K mg base CX0 k f fd ps sp ∧ Meth K C m f ∧ kb fd ∧ ∀ j,j ≤ dvs.length → ∃ ds,j9 (dvs.drop j) ds ∧ O5 K fd ps ds
abbrev noKw:FuncData → Prop:=fun _=>True
section
variable {P:Program} {w:World} {K:PySem.W.Frag} {mg:Str → Option Value} {base:Heap}
theorem DefM.ok {C:Addr} {m qual:Str} {st:Stmt} {N ps:List Str} {k:Nat} {dvs:List V} {kb:FuncData → Prop} {sp:Sp} (D:DefM K C m qual st ps dvs kb) (S:FnScope N ps (d7 st)) (len:∀ vs H Q E,sp vs H Q E → vs.length = ps.length)
  (hbody:∀ (f:Addr) (cdv:Value) (A:Around) (outer:List Env) (s:Shared) (H:Hp) (vs:List V) (Q:VK) (E:XK),Room k (A.deeper (envOfC qual (d7 st) s.heap.objs.size f cdv)) → sp vs H Q E →
   ∃ t,PSs (F8 CX0 P w K mg base N qual (d7 st) f cdv A outer s H E).nox (i8 st) t ∧ t { nx:=fun _ H'=>Q .non H',rt:=Q } (start N vs) H):CalleeM P w K mg base (k + 1) C m ps dvs kb sp:=by
 obtain ⟨f,fd,⟨oc,od,dV,kV,doc,pm,an,cdv,ct,osl,rfl,lk,hcd⟩,mt,hkb,b⟩:=D.ex
 refine ⟨f,_,ar0 lk hcd S len fun A outer s H vs Q E hr hsp=>?_,mt,hkb,b⟩
 obtain ⟨t,h,q⟩:=hbody f cdv A outer s H vs Q E hr hsp
 exact ⟨t,h.nox,q⟩
end
section
variable {X:Cx} {k n:Nat} {C:Addr} {ps:List Str} {dvs:List V} {kb:FuncData → Prop} {sp:Sp} {x m:Str} {p pos apos kpos:Pos} {e o:Expr} {es:List Expr} {ta te:TE} {t:TA}
theorem aa1 {K:PySem.W.Frag} {C D:Addr} (hc:PySem.W.isClsIn K D = true) (ht:PySem.W.typeIn K (.ref D) = some (.type "type")) (hs:PySem.W.subIn K (.ref C) (.ref D) = some true):PySem.W.kitOne K (.ref C) (.ref D) = some true:=by
 unfold PySem.W.kitOne
 split
 ·rfl
 ·show (if ((PySem.W.clsIn K D).isSome && PySem.W.typeIn K (.ref D) == some (.type "type")) = true then PySem.W.subIn K (.ref C) (.ref D) else none) = some true
  rw [if_pos (by rw [show (PySem.W.clsIn K D).isSome = true from hc,ht]; rfl),hs]
end
end L2
namespace L2
open PySem PySem.Spec PyProof.Rows
theorem m5.at_ {P:Program} {w:World} {H:Hp} {h:Heap} {a:Addr} {o:HO} (x:m5 P w H h a o):∃ u,h.get? a = some u:=by
 cases o with
 | lst xs=>obtain ⟨_,_,_,_,e⟩:=x; exact ⟨_,e⟩
 | tup xs=>obtain ⟨_,_,_,p⟩:=x; exact ⟨_,p.choose_spec.1⟩
 | dK kvs=>obtain ⟨_,_,_,_,o,_,_,e,_⟩:=x; exact ⟨_,e⟩
 | dT kvs=>obtain ⟨_,_,_,_,o,_,_,e,_⟩:=x; exact ⟨_,e⟩
 | set S n=>obtain ⟨o,_,_,_,e,_⟩:=x; exact ⟨_,e⟩
 | ins C dx fs=>obtain ⟨_,_,_,e,_⟩:=x; exact ⟨_,e⟩
 | own y=>obtain ⟨_,e⟩:=x; exact ⟨_,e⟩
 | xd fs=>obtain ⟨_,⟨_,_,_,e,_⟩,_⟩:=x; exact ⟨_,e⟩
 | rng lo hi=>obtain ⟨_,_,_,e⟩:=x; exact ⟨_,e⟩
 | frz ob u=>obtain ⟨e,_⟩:=x; exact ⟨_,e⟩
 | tbl ps=>exact ⟨_,(show h.get? a = some _ from x)⟩
 | met f y=>exact ⟨_,(show h.get? a = some _ from x)⟩
 | ext φ=>obtain ⟨_,e,_⟩:=x; exact e
structure Fly (fs:List Addr) (H1 H2:Hp) (h1 B h2:Heap):Prop where
 kp:∀ b o,h1.get? b = some o → b ∉ fs → (∃ o',B.get? b = some o') ∧ (H1 b = none → B.get? b = some o)
 sl:∀ b o,h1.get? b = some o → b ∈ fs → ∃ sl,h2.get? b = some { o with slots:=sl }
 free:∀ b o,h1.get? b = some o → H1 b = none → H2 b = none
 tups:∀ b xs,H1 b = some (.tup xs) → H2 b = some (.tup xs)
 frzs:∀ b o u,H1 b = some (.frz o u) → H2 b = some (.frz o u)
 tbls:∀ b ps,H1 b = some (.tbl ps) → ∃ more,H2 b = some (.tbl (ps ++ more))
theorem Fly.un {fs:List Addr} {H1 H2:Hp} {h1 B h2:Heap} (f:Fly fs H1 H2 h1 B h2) (st:B.StaysIn h2):Un fs [] H1 H2 h1 h2 where
 keep:=fun b o e n hb _=>st b o ((f.kp b o e hb).2 n)
 slot:=fun b o e _ hb _=>f.sl b o e hb
 free:=fun b o e n _=>f.free b o e n
 there:=fun b o e _=>by
  by_cases hb:b ∈ fs
  ·obtain ⟨sl,q⟩:=f.sl b o e hb; exact ⟨_,q⟩
  ·obtain ⟨⟨o',q⟩,_⟩:=f.kp b o e hb; exact ⟨o',st _ _ q⟩
 tups:=f.tups
 frzs:=f.frzs
 tbls:=f.tbls
theorem Fly.up {fs:List Addr} {H1 H2:Hp} {h1 B h2 h3:Heap} (f:Fly fs H1 H2 h1 B h2) (up:∀ b ∈ fs,∀ o,h2.get? b = some o → ∃ sl,h3.get? b = some { o with slots:=sl }):Fly fs H1 H2 h1 B h3 :=
 ⟨f.kp,fun b o e hb=>by
  obtain ⟨s1,q1⟩:=f.sl b o e hb
  obtain ⟨s2,q2⟩:=up b hb _ q1
  exact ⟨s2,q2⟩,f.free,f.tups,f.frzs,f.tbls⟩
theorem Fly.after {fs fs':List Addr} {H0 H1 H2:Hp} {h0 h1 B h2:Heap} (u:Un fs [] H0 H1 h0 h1) (f:Fly fs' H1 H2 h1 B h2) (hL:∀ b o,h0.get? b = some o → b ∉ fs → b ∉ fs') (hs:∀ b ∈ fs,b ∈ fs') (hf:∀ b ∈ fs,H0 b = none) :
  Fly fs H0 H2 h0 B h2 where
 kp:=fun b o e hb=>by
  obtain ⟨o1,e1⟩:=u.there b o e (by simp)
  refine ⟨(f.kp b o1 e1 (hL b o e hb)).1,fun n=>?_⟩
  exact (f.kp b o (u.keep b o e n hb (by simp)) (hL b o e hb)).2 (u.free b o e n (by simp))
 sl:=fun b o e hb=>by
  obtain ⟨s1,q1⟩:=u.slot b o e (hf b hb) hb (by simp)
  obtain ⟨s2,q2⟩:=f.sl b _ q1 (hs b hb)
  exact ⟨s2,q2⟩
 free:=fun b o e n=>by
  obtain ⟨o1,e1⟩:=u.there b o e (by simp)
  exact f.free b o1 e1 (u.free b o e n (by simp))
 tups:=fun b xs e=>f.tups b xs (u.tups b xs e)
 frzs:=fun b o x e=>f.frzs b o x (u.frzs b o x e)
 tbls:=fun b ps e=>by
  obtain ⟨m1,e1⟩:=u.tbls b ps e
  obtain ⟨m2,e2⟩:=f.tbls b _ e1
  exact ⟨m1 ++ m2,by rw [e2,Array.append_assoc]⟩
section
variable {P:Program} {w:World} {K:PySem.W.Frag} {mg:Str → Option Value} {base:Heap} {N:List Str} {qual:Str} {scope:Scope} {f:Addr} {cd:Value} {A:Around} {outer:List Env} {s:Shared} {H:Hp} {E:XK}
theorem au3 {env:Env} {L:Addr} {l:List Env} (h:env.frame = some L):frs (env :: l) = L :: frs l:=by unfold frs; rw [List.filterMap_cons,h]
end
end L2
namespace L2
open PySem PySem.Spec PyProof.Rows
def a45 (sp:Sp) (dvs:List V) (E:St → XK) (t:TA):TE:=fun σ H Q=>t σ H fun vs H1=>sp (vs ++ dvs) H1 Q (E σ)
def aI8:List Value:=[.type "ValueError",.type "Exception",.type "BaseException",.type "object"]
end L2
namespace L2
open PySem PySem.Spec PyProof.Rows
abbrev Cx.pinned (X:Cx) (pn:List (Addr × Obj)):Cx:={ X with pn:=pn }
abbrev hcx (X:Cx) (ea:Addr):Cx:={ X with A:=X.A.mark (some (.ref ea)),calm:=false,xe:=fun _ _=>False }
section
variable {X:Cx} {pins:List (Addr × Obj)} {σ:St} {H:Hp} {s:Shared}
theorem Inv.toPinned (I:Inv X pins σ H s):Inv (X.pinned (X.pn ++ pins)) [] σ H s :=
 ⟨⟨I.ok.mod,I.ok.kind,I.ok.glob,I.ok.blt,I.ok.above,I.ok.inj,I.ok.has,I.ok.cab,I.ok.hd,I.ok.frames,I.ok.stk,I.ok.exf,I.ok.bs,I.ok.bsz,I.ok.noex,I.ok.exfs,I.ok.funs,I.ok.frf⟩,I.os,I.bare,I.base,I.loc,I.cell,I.free,I.freeC,fun p hp=>I.pin p (by rw [List.append_nil] at hp; exact hp),I.hok,I.len⟩
theorem Inv.ofPinned {ps:List (Addr × Obj)} (I:Inv (X.pinned (X.pn ++ pins)) ps σ H s):Inv X pins σ H s :=
 ⟨⟨I.ok.mod,I.ok.kind,I.ok.glob,I.ok.blt,I.ok.above,I.ok.inj,I.ok.has,I.ok.cab,I.ok.hd,I.ok.frames,I.ok.stk,I.ok.exf,I.ok.bs,I.ok.bsz,I.ok.noex,I.ok.exfs,I.ok.funs,I.ok.frf⟩,I.os,I.bare,I.base,I.loc,I.cell,I.free,I.freeC,fun p hp=>I.pin p (List.mem_append_left _ hp),I.hok,I.len⟩
theorem Inv.toH (I:Inv X pins σ H s) (ea:Addr):Inv (hcx X ea) pins σ H s :=
 ⟨⟨I.ok.mod,I.ok.kind,I.ok.glob,I.ok.blt,I.ok.above,I.ok.inj,I.ok.has,I.ok.cab,(fun z=>nomatch z),I.ok.frames,I.ok.stk,I.ok.exf,I.ok.bs,I.ok.bsz,I.ok.noex,I.ok.exfs,I.ok.funs,I.ok.frf⟩,I.os,I.bare,I.base,I.loc,I.cell,I.free,I.freeC,I.pin,I.hok,I.len⟩
theorem Inv.ofH {ea:Addr} (ok:X.Ok) (I:Inv (hcx X ea) pins σ H s):Inv X pins σ H s :=
 ⟨ok,I.os,I.bare,I.base,I.loc,I.cell,I.free,I.freeC,I.pin,I.hok,I.len⟩
theorem Z2 {M:Model} {A:Around} {E:Value → Shared → Prop} {i:Nat} {n:Str} {pos:Pos} {Q:Unit → Shared → Prop} (I:Inv X pins σ H s) (hN:X.N.Nodup) (hi:X.N[i]? = some n) (hl:X.env.scope.names.lookup n = some .local)
  (h:∀ s',Inv X pins (σ.set i none) H s' → Q () s'):wpAny M A (do bindName X.env n .none; unbindBehindTheSuite X.env n pos) Q E s:=by
 obtain ⟨m,hn,hlm⟩:=id I.loc
 have hcls:(X.env.scope.kind == .class || (X.env.scope.kind == .module && X.env.locals != X.env.globals)) = false:=by rw [I.ok.kind]; rfl
 have cne:=I.cne
 obtain ⟨oL,_,_,hoL,_⟩:=id hn
 have iσ:i < σ.length:=by rw [I.len]; exact (List.getElem?_eq_some_iff.mp hi).1
 refine wpAny_nameGoes_keeps hl hn hcls fun h' v hn' hs=>?_
 refine h _ ⟨I.ok,I.os,I.bare,⟨fun b o e n hb hx=>?_,fun b o e n hb hx=>?_,I.base.free,fun b o e hx=>?_,I.base.tups,I.base.frzs,I.base.tbls⟩,⟨_,hn',fun j y v' e1 e2 e3=>?_⟩,fun y c e=>?_,I.free,I.freeC,fun p hp=>?_,fun b ob e=>?_,by simpa using I.len⟩
 ·exact (hs.2 b (Nat.ne_of_lt (Nat.lt_of_lt_of_le (Heap.lt_size e) I.ok.above))).trans (I.base.keep b o e n hb hx)
 ·obtain ⟨sl,e1⟩:=I.base.slot b o e n hb hx
  exact ⟨sl,(hs.2 b (Nat.ne_of_lt (Nat.lt_of_lt_of_le (Heap.lt_size e) I.ok.above))).trans e1⟩
 ·obtain ⟨o',e1⟩:=I.base.there b o e hx
  exact ⟨o',(hs.2 b (Nat.ne_of_lt (Nat.lt_of_lt_of_le (Heap.lt_size e) I.ok.above))).trans e1⟩
 ·by_cases hj:j = i
  ·subst hj
   rw [List.getElem?_set_self iσ] at e2
   cases e2
  ·rw [List.getElem?_set_ne (Ne.symm hj)] at e2
   obtain ⟨u',r',q⟩:=hlm j y v' e1 e2 e3
   refine ⟨u',r',?_⟩
   rcases q with ⟨k,e⟩ | ⟨k,c,e,z⟩
   ·refine .inl ⟨k,?_⟩
    have:y ≠ n:=fun e=>hj (ab4 hN e1 (e ▸ hi))
    simp [this,e]
   ·exact .inr ⟨k,c,e,z.sameBut hs (cne y c e)⟩
 ·obtain ⟨w',z⟩:=I.cell y c e
  exact ⟨w',z.sameBut hs (cne y c e)⟩
 ·obtain ⟨e,n,ne,nf,d⟩:=I.pin p hp
  exact ⟨(hs.2 p.1 ne).trans e,n,ne,nf,d⟩
 ·refine (I.hok b ob e).stay (fun c w' hc q=>(hs.2 c ?_).trans q) (fun _ q=>q) fun _ _ q=>q
  rintro rfl
  have fr:=I.free
  rcases hc with rfl | hc
  ·rw [fr] at e; cases e
  ·rw [fr] at hc; cases hc
end
section
variable {X:Cx}
def Ends.gone (D:Ends) (i:Nat):Ends:={ nx:=fun σ H=>D.nx (σ.set i none) H,rt:=D.rt,bk:=fun σ H=>D.bk (σ.set i none) H,ct:=fun σ H=>D.ct (σ.set i none) H }
end
end L2
namespace L2
open PySem PySem.Spec PyProof.Rows
open PySem.W (Looks)
open PySem.Builtin PySem.Builtin.ObjectAttr PySem.Builtin.Getset_descriptor
structure ExcX (K:PySem.W.Frag) (C:Addr):Prop where
 ga:PySem.W.findIn K (.ref C) "__getattribute__" = some (some (.builtin "BaseException.__getattribute__"))
 gn:PySem.W.findIn K (.ref C) "__getattr__" = some none
 cl:PySem.W.findIn K (.ref C) "__class__" = some (some (.builtin "object.__class__"))
 gt:PySem.W.specialIn K (.builtin "object.__class__") "__get__" = some (some (.builtin "getset_descriptor.__get__"))
 tk:PySem.W.takesIn K (.builtin "object.__class__") = some true
 mo:PySem.W.mroIn K C (.type "object") = some true
 mb:PySem.W.mroIn K C (.type "BaseException") = some true
 cs:(PySem.W.clsIn K C).isSome = true
section
variable {prog:Program} {w:World} {A:Around} {E:Value → Shared → Prop} {s:Shared} {K:PySem.W.Frag} {x C:Addr}
theorem aO7 {M:Model} {h:Heap} (X:K.In h) (Z:ExcX K C):Looks M h (find (.ref x) (.ref C) "__class__") (.bind (.builtin "getset_descriptor.__get__") (.builtin "object.__class__")):=by
 have L1:=PySem.W.looks_findIn (M:=M) X Z.cl
 have L2:Looks M h (getOf (some (.builtin "object.__class__"))) (some (.builtin "getset_descriptor.__get__")):=PySem.W.looks_specialIn X Z.gt
 have L3:=PySem.W.looks_takesIn (M:=M) X Z.tk
 exact L1.andThen (L2.andThen ((show Looks M h (dataDescriptor? (some (.builtin "object.__class__")) (some (.builtin "getset_descriptor.__get__"))) (some (.builtin "getset_descriptor.__get__",.builtin "object.__class__")) from L3.andThen .now).andThen (Looks.tag .now)))
theorem aU3 {R:Result → Shared → Prop} {tp:Value} {o:Obj} (X:K.In s.heap) (Z:ExcX K C) (ho:s.heap.get? x = some o) (hc:o.cls = .ref C) (h:R (.ok (.ret (.ref C))) s) :
  codeAny (model prog w) A (.call (.builtin "getset_descriptor.__get__") ⟨[.builtin "object.__class__",.ref x,tp],[]⟩) R s:=by
 obtain ⟨hh,g,dr,t,os⟩:=s
 have L0:Looks (model prog w) hh (typeOf (.ref x)) (.ref C):=hc ▸ (Looks.ld ho).andThen .now
 have L1:=PySem.W.looks_mroIn (M:=model prog w) X Z.mo
 refine codeAny_call_builtin PySem.W.KF.slot_gs.plain PySem.W.KF.entry_gs (PySem.W.KF.slot_gs.check _ _ _ _ _ _ _ _ PySem.W.KF.type_class (PySem.W.KF.args_gs _ _ _) ?_)
 unfold Builtin.«getset_descriptor.__get__» descrGet
 rw [PySem.W.dga_obj]
 refine wpAny_bind (wpAny_pure ?_)
 unfold descrGetter descrCheckInstance descrNameAndClass isInstance
 simp only [PySem.W.KF.owner_class]
 repeat lk
 refine ⟨Code.quiet_builtin _ (by decide +kernel),codeAny_builtin PySem.W.KF.entry_class ?_⟩
 unfold Builtin.«object.__class__» shownTypeOf
 repeat lk
 exact h
theorem aH7 {Q:Option Value → Shared → Prop} {o:Obj} (X:K.In s.heap) (Z:ExcX K C) (ho:s.heap.get? x = some o) (hc:o.cls = .ref C) (h:Q (some (.ref C)) { s with toks:=s.toks + 1 }) :
  wpAny (model prog w) A (getAttr? (.ref x) "__class__") Q E s:=by
 obtain ⟨hh,g,dr,t,os⟩:=s
 have L0:Looks (model prog w) hh (typeOf (.ref x)) (.ref C):=hc ▸ (Looks.ld ho).andThen .now
 have L1:=PySem.W.looks_findIn (M:=model prog w) X Z.ga
 have L2:=PySem.W.looks_findIn (M:=model prog w) X Z.gn
 have L3:=aO7 (M:=model prog w) (x:=x) X Z
 have L4:=PySem.W.looks_mroIn (M:=model prog w) X Z.mb
 have f3:=PySem.F.attr_ValueError.ga.bind (.ref x)
 have hk:builtinKind "BaseException.__getattribute__" = some .slot:=by decide +kernel
 have hsplit:splitId "BaseException.__getattribute__" = some ("BaseException","__getattribute__"):=by decide +kernel
 unfold getAttr? getAttrBy? getAttrBy
 refine wpAny_bind (wpAny_mkText (wpAny_bind (wpAny_attempt (wpAny_holding (wpAny_bind (L0.at (wpAny_bind (L1.at ?_))))))))
 show wpAny _ _ (getAttrByItsOwn _ _ _ _ _ _) _ _ _
 unfold getAttrByItsOwn
 refine wpAny_bind ?_
 show wpAny _ _ (typeLookup _ _) _ _ _
 refine L2.at ?_
 refine wpAny_bind (wpAny_attempt (wpAny_holding ?_))
 show wpAny _ _ (boundAndCalled _ _ _) _ _ _
 unfold boundAndCalled
 refine wpAny_bind ?_
 rw [f3]
 refine wpAny_pure ?_
 refine wpAny_call (codeAny_call_builtin PySem.F.attr_ValueError.ga.plain PySem.F.entry_bexc_ga ?_)
 have ha:=PySem.F.args_bexc_ga (.ref x) (.str "__class__" t)
 simp only [checkBuiltinCall,hk,hsplit]
 refine wpAny_bind ?_
 unfold isInstance
 refine wpAny_bind (L0.at (L4.at ?_))
 simp only [Bool.not_true,Bool.false_eq_true,if_false]
 repeat (any_goals (first | assumption | wp_step))
 rw [hc]
 have La:=PySem.W.looks_findIn (M:=model prog w) X Z.cl
 have Lb:Looks (model prog w) hh (getOf (some (.builtin "object.__class__"))) (some (.builtin "getset_descriptor.__get__")):=PySem.W.looks_specialIn X Z.gt
 have Lc:Looks (model prog w) hh (dataDescriptor? (some (.builtin "object.__class__")) (some (.builtin "getset_descriptor.__get__"))) (some (.builtin "getset_descriptor.__get__",.builtin "object.__class__")):=(PySem.W.looks_takesIn (M:=model prog w) X Z.tk).andThen .now
 refine La.at (wpAny_bind (Lb.at (wpAny_bind (Lc.at (wpAny_bind (wpAny_rule (wpAny_pure ?_)))))))
 unfold bindTo
 refine wpAny_bind (wpAny_holding (wpAny_call (aU3 (s:=⟨hh,g,dr,t + 1,os⟩) X Z ho hc ?_)))
 show wpAny _ _ (ret (.ref C)) _ _ _
 refine wpAny_pure ?_
 show wpAny _ _ (handedOut (.ref C)) _ _ _
 exact PySem.W.handed_on rfl (wpAny_pure h)
theorem aO3 (Z:ExcX K C):PySem.W.KitX K (.ref x) (.ref C) (fun h=>∃ o,h.get? x = some o ∧ o.cls = .ref C) where
 ty:=fun _ _ _ ⟨o,ho,hc⟩=>hc ▸ (Looks.ld ho).andThen .now
 it:=fun _ _ X _=>by
  have z0:=Z.cs
  unfold PySem.W.clsIn at z0
  split at z0
  ·rename_i c' d' cd' sl' ho
   intro A' Q' E' s' k q
   unfold isType loadHead
   exact wpAny_bind (wpAny_loadPart (k _ _ (X _ _ ho)) (wpAny_pure q))
  ·cases z0
 ne:=fun h tp dd its n sl X htp=>by
  have z0:=Z.cs
  refine Bool.eq_false_iff.mpr fun q=>?_
  have e:C = tp:=Value.ref.inj (beq_iff_eq.mp q)
  subst e
  unfold PySem.W.clsIn at z0
  split at z0
  ·rename_i c' d' cd' sl' ho
   have z:=(X _ _ ho).symm.trans htp
   cases z
  ·cases z0
 ca:=fun X ⟨o,ho,hc⟩ k=>aH7 X Z ho hc k
end
end L2
namespace L2
open PySem PySem.Spec PyProof.Rows PySem.SeqAt
section
variable {K:PySem.W.Frag} {C D:Addr}
theorem aE6 (hc:PySem.W.isClsIn K D = true) (ht:PySem.W.typeIn K (.ref D) = some (.type "type")) (hs:PySem.W.subIn K (.ref C) (.ref D) = some false) (h1:PySem.W.subIn K (.ref C) (.ref C) = some true):PySem.W.kitOne K (.ref C) (.ref D) = some false:=by
 unfold PySem.W.kitOne
 split
 ·rename_i z
  have e:C = D:=Value.ref.inj (beq_iff_eq.mp z)
  rw [← e,h1] at hs
  cases hs
 ·show (if ((PySem.W.clsIn K D).isSome && PySem.W.typeIn K (.ref D) == some (.type "type")) = true then PySem.W.subIn K (.ref C) (.ref D) else none) = some false
  rw [if_pos (by rw [show (PySem.W.clsIn K D).isSome = true from hc,ht]; rfl),hs]
theorem aB2 (hs:PySem.W.subIn K (.ref C) (.type "ValueError") = some true):PySem.W.kitOne K (.ref C) (.type "ValueError") = some true:=by
 unfold PySem.W.kitOne
 split
 ·rfl
 ·show (if PySem.W.kitMeta "ValueError" = true then PySem.W.subIn K (.ref C) (.type "ValueError") else none) = some true
  rw [if_pos (by decide +kernel),hs]
theorem aB4 (hc:PySem.W.isClsIn K D = true) (ht:PySem.W.typeIn K (.ref D) = some (.type "type")) (hs:PySem.W.subIn K (.ref C) (.ref D) = some true) (hb:PySem.W.subIn K (.ref D) (.type "BaseException") = some true):PySem.W.exmOne K (.ref C) (.ref D) = some true:=by
 unfold PySem.W.exmOne
 rw [if_pos (by rw [hb]; rfl)]
 show (if ((PySem.W.clsIn K D).isSome && PySem.W.typeIn K (.ref D) == some (.type "type")) = true then PySem.W.subIn K (.ref C) (.ref D) else none) = some true
 rw [if_pos (by rw [show (PySem.W.clsIn K D).isSome = true from hc,ht]; rfl),hs]
end
end L2
namespace L2
open PySem
def C2 (h:Heap) (e:Addr) (od:Option Addr):Prop:=∃ o,h.get? e = some o ∧ o.dict = od
theorem ao6 (f:Array Value → Array Value) (o:Obj):(Obj.mapFields f o).dict = o.dict:=by
 obtain ⟨c,d,dt,sl⟩:=o
 cases dt <;> rfl
section
variable {M:Model} {A:Around} {E:Value → Shared → Prop} {s:Shared} {B:Heap} {env:Env} {up:List Env} {L x:Addr} {k:Value} {a0:Value} {od:Option Addr} {Q:Unit → Shared → Prop}
abbrev a56 (hd:Value) (L:Addr) (pl:List Value):Obj:={ cls:=.type "traceback",dict:=none,data:=.fields ([hd,.ref L,.none,rawInt L,.none] ++ (if pl.isEmpty then List.replicate 6 Value.none else pl)).toArray }
theorem ad0 {ob:Obj} {fs:Array Value} {hd:Value} {hn:Bool} (a1:A.frames = some (env :: up)) (a2:s.heap.FunFrames B (env :: up)) (a3:env.frame = some L) (b1:s.heap.get? x = some ob) (b2:B.StaysIn s.heap) (b3:B.get? x = none)
  (b4:ob.data = .fields fs) (b5:1 < fs.size) (b6:fs[0]? = some a0) (q:∀ g,Heap.NotedW B (env :: up) x ob.cls a0 (rawInt L) s.heap g → C2 g x ob.dict → Q () { s with heap:=g }) :
  wpAny M A (do let a ← frameOf env; let pl ← entryPlaceOf L hn; let b ← EntryCells.newEntry hd a .none (rawInt L) .none pl; setField (.ref x) 1 b) Q E s:=by
 have out:x ∉ (env :: up).filterMap (·.frame):=fun m=>by
  obtain ⟨_,o,e1,e2⟩:=a2.mem m
  rw [b1] at e1
  cases e1
  exact e2 fs b4
 refine wpAny_bind (wpAny_frameOf_fun a1 a2 a3 fun g1 k1=>wpAny_bind (wpAny_entryPlaceOf fun pl hpl=>?_))
 unfold EntryCells.newEntry newFields
 refine wpAny_bind (wpAny_newObj_type ?_ (hpl.sizeOk5 _ _ _ _ _))
 have x1:g1.get? x = some ob:=(k1.2.1 x out).trans b1
 have st1:B.StaysIn g1:=fun b o e=>(k1.2.1 b fun m=>by rw [(a2.mem m).1] at e; cases e).trans (b2 b o e)
 have x2:=Heap.get?_push_of_some (h:=g1) (a56 hd L pl) x1
 refine wpAny_setField x2 b4 b5 ?_
 have nT:g1.objs.size ≠ x:=Nat.ne_of_gt (Heap.lt_size x1)
 have d3:=Obj.data_mapFields b4 (·.setIfInBounds 1 (Value.ref g1.objs.size))
 have x3:=Heap.get?_update_self (Obj.mapFields (·.setIfInBounds 1 (Value.ref g1.objs.size))) x2 (Obj.isFreed_of_fields d3)
 have t3:=(Heap.get?_update_other (g1.push (a56 hd L pl)) (Obj.mapFields (·.setIfInBounds 1 (Value.ref g1.objs.size))) (Ne.symm nT)).trans (Heap.get?_push_size g1 rfl)
 have kp:∀ b o,b ≠ x → g1.get? b = some o → ((g1.push (a56 hd L pl)).update x (Obj.mapFields (·.setIfInBounds 1 (Value.ref g1.objs.size)))).get? b = some o:=fun b o n e=>by
  rw [Heap.get?_update_other _ _ (Ne.symm n)]
  exact Heap.get?_push_of_some _ e
 have no:∀ b o,s.heap.get? b = some o → (∀ vs,o.data ≠ .fields vs) → b ≠ x:=fun b o e n z=>by
  rw [z,b1] at e
  cases e
  exact n fs b4
 refine q _ ⟨fun b o e=>kp b o (fun z=>by rw [z,b3] at e; cases e) (st1 b o e),a2.of_keeps fun b o e n=>?_,?_,fun b o e n=>?_⟩ ⟨_,x3,ao6 _ _⟩
 ·obtain ⟨sl,z⟩:=k1.2.2 b o e
  exact ⟨_,kp b _ (no b o e n) z,rfl⟩
 ·refine ⟨_,_,g1.objs.size,_,_,x3,⟨Obj.cls_mapFields _ _,?_⟩,d3,by simp [b5],st1.fresh,nT,t3,rfl,?_⟩
  ·rw [Array.getElem?_setIfInBounds_ne (by decide)]
   exact b6
  ·first | (simp; done) | (rcases hpl with rfl | ⟨_,_,_,_,_,_,_,rfl⟩ <;> simp)
 ·obtain ⟨sl,z⟩:=k1.2.2 b o e
  exact ⟨sl,kp b _ (no b o e n) z⟩
theorem ag6 (a1:A.frames = some (env :: up)) (a2:s.heap.FunFrames B (env :: up)) (a3:env.frame = some L) (tr:s.heap.TracedW B x k a0) (dx:C2 s.heap x od) (b2:B.StaysIn s.heap) (b3:B.get? x = none)
  (q:∀ g,Heap.NotedW B (env :: up) x k a0 (rawInt L) s.heap g → C2 g x od → Q () { s with heap:=g }):wpAny M A (noteFrame (.ref x) env) Q E s:=by
 obtain ⟨ob,fs,T,oT,ts,e1,⟨e2,e3⟩,e4,e5,e6,e7,e8,e9,e10⟩:=tr
 subst e2
 obtain ⟨o2,f1,f2⟩:=dx
 rw [e1] at f1
 cases f1
 subst f2
 unfold noteFrame
 simp only [a3]
 refine wpAny_bind (wpAny_field e1 e4 e5 ?_)
 rw [if_pos (show (Value.ref T != Value.none) = true by simp)]
 refine wpAny_bind (wpAny_field e8 e9 e10 ?_)
 rw [if_neg (show ¬ (Value.none == rawInt L) = true by simp [rawInt])]
 refine wpAny_bind (wpAny_setField e8 e9 (Array.getElem?_eq_some_iff.mp e10).1 ?_)
 have oth:∀ b,b ≠ T → (s.heap.update T (Obj.mapFields (·.setIfInBounds 3 Value.none))).get? b = s.heap.get? b:=fun b n=>Heap.get?_update_other _ _ (Ne.symm n)
 have no:∀ b o,s.heap.get? b = some o → (∀ vs,o.data ≠ .fields vs) → b ≠ T:=fun b o e n z=>by
  rw [z,e8] at e
  cases e
  exact n ts e9
 refine ad0 a1 (a2.of_keeps fun b o e n=>⟨o,(oth b (no b o e n)).trans e,rfl⟩) a3 ((oth x (Ne.symm e7)).trans e1) (fun b o e=>(oth b fun z=>by rw [z,e6] at e; cases e).trans (b2 b o e)) b3 e4 (Array.getElem?_eq_some_iff.mp e5).1 e3 fun g z dz=>?_
 obtain ⟨z1,z2,z3,z4⟩:=z
 exact q g ⟨z1,z2,z3,fun b o e n=>z4 b o ((oth b (no b o e n)).trans e) n⟩ dz
theorem K6 {l:List Env} {fl:Value} (b2:B.StaysIn s.heap) (a2:s.heap.FunFrames B l) (tr:s.heap.TracedAtW B x k a0 fl) (dx:C2 s.heap x od)
  (q:∀ g,B.StaysIn g → g.FunFrames B l → g.TracedW B x k a0 → s.heap.UpToSlots g → C2 g x od → Q () { s with heap:=g }):wpAny M A (setFlight (.ref x) none) Q E s:=by
 obtain ⟨ob,fs,T,oT,ts,e1,e2,e4,e5,e6,e7,e8,e9,e10⟩:=tr
 obtain ⟨o2,f1,f2⟩:=dx
 have l3:3 < ts.size:=(Array.getElem?_eq_some_iff.mp e10).1
 have oth:∀ b,b ≠ T → (s.heap.update T (Obj.mapFields (·.setIfInBounds 3 ((none:Option Addr).elim Value.none fun f=>rawInt f)))).get? b = s.heap.get? b:=fun b n=>Heap.get?_update_other _ _ (Ne.symm n)
 have no:∀ b o,s.heap.get? b = some o → (∀ vs,o.data ≠ .fields vs) → b ≠ T:=fun b o e n z=>by
  rw [z,e8] at e
  cases e
  exact n ts e9
 unfold setFlight
 refine wpAny_bind (wpAny_field e1 e4 e5 ?_)
 rw [if_pos (show (Value.ref T != Value.none) = true by simp)]
 refine wpAny_setField e8 e9 l3 (q _ (fun b o e=>(oth b fun z=>by rw [z,e6] at e; cases e).trans (b2 b o e)) (a2.of_keeps fun b o e n=>⟨o,(oth b (no b o e n)).trans e,rfl⟩) ?_ (fun b o e n=>⟨o.slots,(oth b (no b o e n)).trans e⟩) ⟨o2,(oth x (Ne.symm e7)).trans f1,f2⟩)
 exact ⟨ob,fs,T,_,_,(oth x (Ne.symm e7)).trans e1,e2,e4,e5,e6,e7,Heap.get?_update_self _ e8 (Obj.isFreed_of_fields (Obj.data_mapFields e9 _)),Obj.data_mapFields e9 _,by simp [l3]⟩
theorem aw9 (a1:A.frames = some (env :: up)) (a3:env.frame = some L) (fl:Heap.FlyingW B (env :: up) x k a0 s.heap) (dx:C2 s.heap x od)
  (q:∀ g,Heap.FlyingW B up x k a0 g → s.heap.UpToSlots g → C2 g x od → Q () { s with heap:=g }):wpAny M A (leaving env (.ref x)) Q E s:=by
 obtain ⟨f1,f2,f3,f4⟩:=fl
 unfold leaving
 refine wpAny_bind (ag6 a1 f3 a3 f4 dx f1 f2 fun g1 z1 d1=>?_)
 obtain ⟨z1,z2,z3,z4⟩:=z1
 refine K6 (s:={ s with heap:=g1 }) z1 z2 z3 d1 fun g2 y1 y2 y3 y4 d2=>?_
 obtain ⟨_,_,y2'⟩:=y2
 exact q g2 ⟨y1,f2,y2',y3⟩ (Heap.UpToSlots.trans (fun b o e n=>z4 b o e n) y4) d2
theorem aI0 (a1:A.frames = some (env :: up)) (a3:env.frame = some L) (fl:Heap.FlyingW B (env :: up) x k a0 s.heap) (dx:C2 s.heap x od)
  (q:∀ g,Heap.HeldW B (env :: up) x k a0 L g → s.heap.UpToSlots g → C2 g x od → Q () { s with heap:=g }):wpAny M A (noteFrame (.ref x) env) Q E s:=by
 obtain ⟨f1,f2,f3,f4⟩:=fl
 refine ag6 a1 f3 a3 f4 dx f1 f2 fun g1 z1 d1=>?_
 obtain ⟨z1,z2,z3,z4⟩:=z1
 exact q g1 ⟨z1,f2,z2,z3⟩ z4 d1
theorem a46 {l:List Env} (hh:Heap.HeldW B l x k a0 L s.heap) (dx:C2 s.heap x od) (q:∀ g,Heap.FlyingW B l x k a0 g → s.heap.UpToSlots g → C2 g x od → Q () { s with heap:=g }):wpAny M A (setFlight (.ref x) none) Q E s:=by
 obtain ⟨f1,f2,f3,f4⟩:=hh
 exact K6 f1 f3 f4 dx fun g y1 y2 y3 y4 d=>q g ⟨y1,f2,y2,y3⟩ y4 d
theorem aj3 {l:List Env} (hh:Heap.FlyingW B l x k a0 s.heap) (dx:C2 s.heap x od) (q:∀ g,Heap.FlyingW B l x k a0 g → s.heap.UpToSlots g → C2 g x od → Q () { s with heap:=g }):wpAny M A (setFlight (.ref x) none) Q E s:=by
 obtain ⟨f1,f2,f3,f4⟩:=hh
 exact K6 f1 f3 f4.at dx fun g y1 y2 y3 y4 d=>q g ⟨y1,f2,y2,y3⟩ y4 d
theorem ad6 {ob:Obj} {fs:Array Value} (a1:A.frames = some (env :: up)) (a2:s.heap.FunFrames B (env :: up)) (a3:env.frame = some L) (b1:s.heap.get? x = some ob) (b2:B.StaysIn s.heap) (b3:B.get? x = none)
  (b4:ob.data = .fields fs) (b5:fs[1]? = some .none) (b6:fs[0]? = some a0) (q:∀ g,Heap.FlyingW B up x ob.cls a0 g → s.heap.UpToSlots g → C2 g x ob.dict → Q () { s with heap:=g }):wpAny M A (leaving env (.ref x)) Q E s:=by
 unfold leaving noteFrame
 simp only [a3]
 refine wpAny_bind (wpAny_bind (wpAny_field b1 b4 b5 ?_))
 rw [if_neg (by decide)]
 refine ad0 a1 a2 a3 b1 b2 b3 b4 (Array.getElem?_eq_some_iff.mp b5).1 b6 fun g1 z1 d1=>?_
 obtain ⟨z1,z2,z3,z4⟩:=z1
 refine K6 (s:={ s with heap:=g1 }) z1 z2 z3 d1 fun g2 y1 y2 y3 y4 d2=>?_
 obtain ⟨_,_,y2'⟩:=y2
 exact q g2 ⟨y1,b3,y2',y3⟩ (Heap.UpToSlots.trans (fun b o e n=>z4 b o e n) y4) d2
end
end L2
namespace L2
open PySem PySem.Spec PyProof.Rows
def M9:List Value → Bool
 | .ref _ :: r=>M9 r
 | l=>l == aI8
def T3 (K:PySem.W.Frag) (C fI:Addr):Bool:=match K.lookup C with
 | some ⟨.type "type",_,.cls cd,sl⟩=>(match cd.mro,sl.toList with
  | .ref C' :: bm,[_,_,_,_,some (.builtin n),_]=>C' == C && n == "ValueError.__new__" && !cd.hasDel && cd.hasDict && PySem.W.tailIn K aI8 bm && PySem.W.nsOkIn K cd.ns && PySem.W.nsIn K cd.ns "__init__" == some (some (.ref fI)) && M9 bm
  | _,_=>false)
 | _=>false
theorem aR1 {K:PySem.W.Frag} {h:Heap} {N:Addr} {m:Str → Option Value} {n:Str} {v:Value} (X:K.In h) (G:h.Ns N m) (e:PySem.W.nsIn K N n = some (some v)):m n = some v:=by
 obtain ⟨o,es,ep,ho,hd,_,hf⟩:=G
 unfold PySem.W.nsIn at e
 split at e
 ·rename_i c d es' n' sl q
  have z:=X _ _ q
  rw [ho] at z
  cases z
  cases hd
  split at e
  ·rename_i en he
   cases e
   rw [← hf]
   unfold nsFind findBy
   rw [← Array.find?_toList,he]
   rfl
  ·split at e <;> cases e
 ·cases e
structure ClsI (C fI:Addr) (h:Heap):Prop where
 obj:∃ bm N nm q bs sn sub ab col dd k0 k1 k2 k3 k5 mN,h.get? C = some (excClassObj nm q C N bs bm true sn sub ab col dd k0 k1 k2 k3 k5 "ValueError.__new__") ∧ h.Ns N mN ∧ mN "__init__" = some (.ref fI) ∧ OwnTail h aI8 bm ∧ M9 bm = true
theorem aA5 {K:PySem.W.Frag} {C fI:Addr} {h:Heap} (X:K.In h) (q:T3 K C fI = true):ClsI C fI h:=by
 unfold T3 at q
 split at q
 ·rename_i dd cd sl ho
  split at q
  ·rename_i C' bm k0 k1 k2 k3 n k5 hm hs
   simp only [Bool.and_eq_true,beq_iff_eq,Bool.not_eq_true'] at q
   obtain ⟨⟨⟨⟨⟨⟨⟨rfl,rfl⟩,hdel⟩,hdc⟩,ht⟩,hok⟩,hni⟩,hrf⟩:=q
   obtain ⟨nm,bs,mro,ns,qn,hd,sn,sub,ab,col,del⟩:=cd
   dsimp only at hm hdel hdc hok hni
   subst hm hdel hdc
   have hsl:sl = #[k0,k1,k2,k3,some (.builtin "ValueError.__new__"),k5]:=by
    obtain ⟨l⟩:=sl
    simp only at hs
    rw [hs]
   subst hsl
   have N1:h.Ns ns _:=.of_isNs (PySem.W.isNs_of_in X hok)
   exact ⟨bm,ns,nm,qn,bs,sn,sub,ab,col,dd,k0,k1,k2,k3,k5,_,X _ _ ho,N1,aR1 X N1 hni,PySem.W.tail_of_in X ht,hrf⟩
  ·cases q
 ·cases q
end L2
namespace L2
open PySem
abbrev D6 (C t:Addr) (od:Option Addr):Obj:={ cls:=.ref C,dict:=od,data:=.fields #[.ref t,.none,.none,.none,.bool false,.none] }
section
variable {prog:Program} {w:World} {A:Around} {E:Value → Shared → Prop} {h:Heap} {g:Array GenState} {d:Drawn} {t:Nat} {os:OsState}
variable {nm q:Str} {C N fI:Addr} {bs bm:List Value} {hdct:Bool} {sn:List Str} {sub:List Value} {ab:Bool} {col:Option Bool} {dd:Option Addr} {k0 k1 k2 k3 k5:Option Value}
set_option maxHeartbeats 4000000 in
theorem ay1 (T:OwnTail h aI8 bm) {mN:Str → Option Value} {rest:List Value} {oI:Obj} {Q:Fin → Shared → Prop}
  (hC:h.get? C = some (excClassObj nm q C N bs bm hdct sn sub ab col dd k0 k1 k2 k3 k5 "ValueError.__new__")) (hn:h.Ns N mN) (hi:mN "__init__" = some (.ref fI)) (hfI:h.get? fI = some oI) (hfc:oI.cls = .type "function")
  (hq:∀ h' e,(∀ b o,h.get? b = some o → h'.get? b = some o) → h.objs.size ≤ e → (∃ tt,h'.get? e = some (D6 C tt none)) →
   wpAny (model prog w) A (call (.ref fI) (.ref e :: rest)) (fun r s'=>r = .none ∧ Q (.done (.ret (.ref e))) s') E ⟨h',g,d,t,os⟩) (hrest:rest.length ≤ sizeLine) :
  wpAny (model prog w) A (Builtin.«type.__call__» ⟨.ref C :: rest,[]⟩) Q E ⟨h,g,d,t,os⟩:=by
 have F:=PySem.F.excBase_ValueError
 repeat (first | with_reducible refine wpAny_loadPart_at hC ?_ | with_reducible refine wpAny_madeBy_exc hC ?_ | wp_step)
 refine codeAny_call_builtin_code (Code.quiet_builtin _ F.quiet) (wpAny_check_new_subT F T hC ?_)
 refine codeAny_exc_new_subT F T hC ?_ hrest
 show wpAny _ _ _ _ _ _
 let tp:Obj:={ cls:=.type "tuple",data:=.seq rest.toArray }
 let eo:Obj:={ cls:=.ref C,data:=.fields #[.ref h.objs.size,.none,.none,.none,.bool false,.none] }
 have kp:∀ b o,h.get? b = some o → ((h.push tp).push eo).get? b = some o:=fun b o z=>Heap.get?_push_of_some _ (Heap.get?_push_of_some _ z)
 have C1:=kp _ _ hC
 have I1:=kp _ _ hfI
 have N1:((h.push tp).push eo).Ns N mN:=let ⟨o,es,ep,z,r⟩:=hn; ⟨o,es,ep,kp _ _ z,r⟩
 have G1:((h.push tp).push eo).get? (h.objs.size + 1) = some eo:=by
  show ((h.push { cls:=.type "tuple",data:=.seq rest.toArray }).push _).get? (h.objs.size + 1) = some _
  heap_get
 have c1:(Value.ref C :: bm).contains (.ref C) = true:=by simp
 have T1:=T.keeps kp
 unfold isInstance
 repeat (first | with_reducible refine wpAny_loadPart_at G1 ?_ | (with_reducible refine wpAny_isSubtype_exc C1 ?_; rw [c1]) | wp_step)
 show wpAny _ _ (typeLookup (.ref C) _) _ _ _
 refine wpAny_typeLookup_tail C1 N1 T1 F.mroIs F.init.lookup ?_
 rw [hi]
 refine wpAny_holding (wpAny_bind ?_)
 unfold bindSpecial
 refine wpAny_bind (wpAny_typeOf (T:="function") ⟨_,I1,hfc⟩ ?_)
 rw [if_pos (by decide)]
 refine wpAny_pure (wpAny_bind (wpAny_mono (hq _ (h.objs.size + 1) kp (Nat.le_succ _) ⟨_,G1⟩) (fun r s' hr=>?_) fun _ _ z=>z))
 obtain ⟨rfl,hQ⟩:=hr
 wp_walk
 exact hQ
theorem aF7 (T:OwnTail h aI8 bm) {mN:Str → Option Value} {rest:List Value} {oI:Obj} {Q:Value → Shared → Prop}
  (hC:h.get? C = some (excClassObj nm q C N bs bm hdct sn sub ab col dd k0 k1 k2 k3 k5 "ValueError.__new__")) (hn:h.Ns N mN) (hi:mN "__init__" = some (.ref fI)) (hfI:h.get? fI = some oI) (hfc:oI.cls = .type "function")
  (hq:∀ h' e,(∀ b o,h.get? b = some o → h'.get? b = some o) → h.objs.size ≤ e → (∃ tt,h'.get? e = some (D6 C tt none)) →
   wpAny (model prog w) (A.under (.builtin "type.__call__" ⟨.ref C :: rest,[]⟩)) (call (.ref fI) (.ref e :: rest)) (fun r s'=>r = .none ∧ Q (.ref e) s') E ⟨h',g,d,t,os⟩) (hrest:rest.length ≤ sizeLine) :
  wpAny (model prog w) A (call (.ref C) rest) Q E ⟨h,g,d,t,os⟩:=by
 have f1:=tc_lookup
 have f2:=tc_bind (.ref C)
 have hT:(⟨h,g,d,t,os⟩:Shared).TypeIs (.ref C) "type":=⟨_,hC,rfl⟩
 refine wpAny_call (codeAny_of_tree ?_)
 show wpAny _ _ (callAny (.ref C) _) _ _ _
 repeat (any_goals (first | assumption | with_reducible refine wpAny_loadPart_at hC ?_ | wp_step))
 refine ⟨rfl,?_⟩
 refine codeAny_call_builtin_at (Code.quiet_builtin _ (by decide +kernel)) entry_typeCall (wpAny_check_type_call_sub hC (ay1 T hC hn hi hfI hfc (fun h' e a1 a2 a3=>?_) hrest))
 exact hq h' e a1 a2 a3
end
section
variable {M:Model} {A:Around} {E:Value → Shared → Prop} {s:Shared} {env:Env} {C:Addr}
theorem ab5 {x:Sem Value} {Q:Flow → Shared → Prop} (hh:A.handled = none)
  (h:wpAny M A x (fun v s1=>∃ e t od fI,v = .ref e ∧ ClsI C fI s1.heap ∧ s1.heap.get? e = some (D6 C t od) ∧ E (.ref e) s1) E s) :
  wpAny M A (raiseStmt env (some x) none) Q E s:=by
 unfold raiseStmt
 refine wpAny_bind (wpAny_mono h (fun v s1 z=>?_) fun _ _ y=>y)
 obtain ⟨e,t,od,fI,rfl,Z,he,hE⟩:=z
 obtain ⟨bm,N,nm,q,bs,sn,sub,ab,col,dd,k0,k1,k2,k3,k5,mN,hC,_,_,T,_⟩:=Z.obj
 have hcB:(Value.ref C :: bm).contains (.type "BaseException") = true:=by rw [List.contains_cons,T.hasType PySem.F.excBase_ValueError.hasBase,Bool.or_true]
 obtain ⟨hp,g,d,tk,os⟩:=s1
 repeat (first | with_reducible refine wpAny_loadPart_at he ?_ | with_reducible refine wpAny_loadPart_at hC ?_ | (with_reducible refine wpAny_isSubtype_exc hC ?_; rw [hcB]) | wp_step)
 exact wpAny_raiseNew_none hh hE
end
section
variable {prog:Program} {w:World} {A:Around} {E:Value → Shared → Prop} {s:Shared} {env:Env} {C fI:Addr}
theorem az0 {x:Str} {np cpos pos:Pos} {args:List Expr} {Q:Flow → Shared → Prop} (hh:A.handled = none) (hplain:(backTo cpos (starEach args env)).any (·.1) = false)
  (h:wpAny (model prog w) A (eval (.Name x np) env) (fun f s1=>f = .ref C ∧ wpAny (model prog w) A (evalArgs (.ref C) true (backTo cpos (starEach args env)) [])
   (fun a s2=>a.kw = [] ∧ a.pos.length ≤ sizeLine ∧ ClsI C fI s2.heap ∧ (∃ oI,s2.heap.get? fI = some oI ∧ oI.cls = .type "function") ∧
    ∀ h' e,(∀ b o,s2.heap.get? b = some o → h'.get? b = some o) → s2.heap.objs.size ≤ e → (∃ tt,h'.get? e = some (D6 C tt none)) →
     wpAny (model prog w) (A.under (.builtin "type.__call__" ⟨.ref C :: a.pos,[]⟩)) (call (.ref fI) (.ref e :: a.pos)) (fun r s'=>r = .none ∧ ClsI C fI s'.heap ∧ (∃ t od,s'.heap.get? e = some (D6 C t od)) ∧ E (.ref e) s') E { s2 with heap:=h' }) E s1) E s) :
  wpAny (model prog w) A (exec (.Raise (some (.Call (.Name x np) args [] cpos)) none pos) env) Q E s:=by
 rw [arm_exec_Raise]
 first
  | refine wpAny_bind (wpAny_standAt (ab5 (C:=C) hh (wpAny_bind (wpAny_mono (wpAny_Call_ofName (wpAny_mono h (fun f s1 z=>?_) fun _ _ y=>y)) (fun v s3 y3=>wpAny_bind (wpAny_standAt (wpAny_pure y3))) fun _ _ y=>y))))
  | (simp only [evalOpt,Option.map]; refine wpAny_bind (wpAny_standAt (ab5 (C:=C) hh (wpAny_bind (wpAny_mono (wpAny_Call_ofName (wpAny_mono h (fun f s1 z=>?_) fun _ _ y=>y)) (fun v s3 y3=>wpAny_bind (wpAny_standAt (wpAny_pure y3))) fun _ _ y=>y)))))
  | (refine wpAny_bind (wpAny_standAt (ab5 (C:=C) hh ?_)); refine wpAny_bind (wpAny_mono (wpAny_Call_ofName (wpAny_mono h (fun f s1 z=>?_) fun _ _ y=>y)) (fun v s3 y3=>wpAny_bind (wpAny_standAt (wpAny_pure y3))) fun _ _ y=>y))
 obtain ⟨rfl,z⟩:=z
 unfold callWith
 refine wpAny_bind (wpAny_holding (wpAny_mono z (fun a s2 y=>wpAny_bind (wpAny_standAt ?_)) fun _ _ y=>y))
 obtain ⟨apos,akw⟩:=a
 obtain ⟨hkw,hlen,Z,⟨oI,hfI,hfc⟩,y⟩:=y
 obtain rfl:akw = []:=hkw
 obtain ⟨bm,N,nm,q,bs,sn,sub,ab,col,dd,k0,k1,k2,k3,k5,mN,hC,hn,hi,T,_⟩:=Z.obj
 obtain ⟨hp,g,d,tk,os⟩:=s2
 simp only [hplain]
 refine wpAny_bind (wpAny_keeperOf_exc hC ?_)
 refine wpAny_bind (aF7 T hC hn hi hfI hfc (fun h' e a1 a2 a3=>?_) hlen)
 refine wpAny_mono (y h' e a1 a2 a3) (fun r s' u=>?_) fun _ _ u=>u
 obtain ⟨rfl,u1,⟨t,od,u2⟩,u3⟩:=u
 exact ⟨rfl,wpAny_bind (wpAny_holding (wpAny_point (wpAny_pure ⟨e,t,od,fI,rfl,u1,u2,u3⟩)))⟩
end
end L2
namespace L2
open PySem PySem.Spec PyProof.Rows
open PySem.W (Looks InstAt)
open PySem.Builtin PySem.Builtin.ObjectAttr
theorem ao7 (self:Value):∀ {l:List Value},M9 l = true → refuseLoop self "__setattr__" l = pure ()
 | .ref c :: r,e=>by rw [refuseLoop_ref]; exact ao7 self (l:=r) e
 | [],e=>by cases e
 | .none :: _,e=>by cases e
 | .bool _ :: _,e=>by cases e
 | .int _ _ :: _,e=>by cases e
 | .str _ _ :: _,e=>by cases e
 | .bytes _ _ :: _,e=>by cases e
 | .float _ _ :: _,e=>by cases e
 | .builtin _ :: _,e=>by cases e
 | .type n :: r,e=>by
  rw [show (Value.type n :: r) = aI8 from beq_iff_eq.mp e]
  exact PySem.F.store_ValueError.passes self
structure ExcN (K:PySem.W.Frag) (C:Addr):Prop where
 cd:∃ cd,PySem.W.clsIn K C = some cd ∧ M9 cd.mro = true ∧ cd.hasDict = true
 sa:PySem.W.findIn K (.ref C) "__setattr__" = some (some (.builtin "object.__setattr__"))
 hd:PySem.W.hasDictIn K C = true
section
variable {prog:Program} {w:World} {A:Around} {E:Value → Shared → Prop} {s:Shared} {K:PySem.W.Frag} {x C:Addr} {R:Result → Shared → Prop}
theorem ag0 {ox:Obj} {od:Option Obj} {name:Str} {tk:Tok} {v:Value} (X:K.In s.heap) (I:InstAt s.heap x ox C od) (Z:ExcN K C) (mo:PySem.W.mroIn K C (.type "object") = some true) (ht:PySem.W.findIn K (.ref C) name = some none)
  (h:∀ b,wpAny (model prog w) A.in1 (storeInOwnDict (.ref x) (.ref C) (.str name tk) name v b)
   (fun fin s'=>match fin with | .done f=>R (.ok f) s' | .again c'=>c'.quiet = true ∧ codeAny (model prog w) A c' R s') (fun e s'=>R (.error e) s') s) :
  codeAny (model prog w) A (.call (.builtin "object.__setattr__") ⟨[.ref x,.str name tk,v],[]⟩) R s:=by
 have SF:=PySem.F.store_object
 obtain ⟨cd,hc,ho,_⟩:=Z.cd
 have sub:Looks (model prog w) s.heap (isInstance (.ref x) (.type "object")) true:=I.type.andThen (PySem.W.looks_mroIn X mo)
 refine codeAny_call_builtin SF.slot.plain SF.entry (@PySem.W.check_slot (model prog w) _ _ s "object.__setattr__" "object" "__setattr__" (.ref x) [.str name tk,v] [] _ SF.kind SF.split sub (SF.args (.ref x) (.str name tk) v) ?_)
 have hm:Looks (model prog w) s.heap (mroOf (.ref C)) cd.mro:=(PySem.W.looks_clsIn X hc).andThen .now
 rw [PySem.W.osa_eq,refuse_eq]
 refine wpAny_bind (wpAny_bind (I.type.here (wpAny_bind (hm.here ?_))))
 rw [ao7 _ ho]
 refine wpAny_pure (wpAny_bind (I.type.here (wpAny_bind ((PySem.W.looks_findIn X ht).here (wpAny_bind (wpAny_pure ?_))))))
 exact h _
theorem aH5 {t:Addr} {name:Str} {v:Value} {Q:Unit → Shared → Prop} (X:K.In s.heap) (hx:s.heap.get? x = some (D6 C t none)) (Z:ExcN K C) (mo:PySem.W.mroIn K C (.type "object") = some true) (ht:PySem.W.findIn K (.ref C) name = some none)
  (h:∀ h',h'.get? x = some (D6 C t (some s.heap.objs.size)) → h'.Ns1 s.heap.objs.size (fun y=>if y = name then some v else none) → (∀ b o,b ≠ x → s.heap.get? b = some o → h'.get? b = some o) → Q () { s with heap:=h',toks:=s.toks + 2 }) :
  wpAny (model prog w) A (setAttr (.ref x) name v) Q E s:=by
 have J:InstAt s.heap x (D6 C t none) C none:=⟨hx,rfl,rfl,trivial⟩
 refine PySem.W.set_plain X J Z.sa (ag0 (s:={ s with toks:=s.toks + 1 }) X J Z mo ht fun b=>?_)
 obtain ⟨cd,hc,_,hd'⟩:=Z.cd
 refine wpAny_bind (wpAny_pure (wpAny_bind (wpAny_bind (wpAny_loadPart hx (wpAny_bind (Looks.here (s:={ s with toks:=s.toks + 1 }) (PySem.W.looks_clsIn X hc) ?_))))))
 rw [hd']
 have x1:(s.heap.push { cls:=.type "dict",data:=.dict #[] }).get? x = some (D6 C t none):=Heap.get?_push_of_some _ hx
 have nx:x ≠ s.heap.objs.size:=Nat.ne_of_lt (Heap.lt_size hx)
 show wpAny _ _ ((if (!true || !typeHasDict (Value.ref C)) = true then _ else _)) _ _ _
 rw [if_neg (by simp [typeHasDict])]
 refine wpAny_bind (wpAny_alloc' ?_)
 refine wpAny_bind (wpAny_update' x1 ?_)
 refine wpAny_pure ?_
 show wpAny _ _ (storeInDict s.heap.objs.size (.str name s.toks) name v) _ _ _
 have gx:((s.heap.push { cls:=.type "dict",data:=.dict #[] }).update x fun o=>{ cls:=o.cls,dict:=some s.heap.objs.size,data:=o.data,slots:=o.slots }).get? x = some (D6 C t (some s.heap.objs.size)):=Heap.get?_update_self _ x1 rfl
 have gd:((s.heap.push { cls:=.type "dict",data:=.dict #[] }).update x fun o=>{ cls:=o.cls,dict:=some s.heap.objs.size,data:=o.data,slots:=o.slots }).get? s.heap.objs.size = some { cls:=.type "dict",data:=.dict #[] } :=
  (Heap.get?_update_ne _ _ _ _ nx.symm).trans (Heap.get?_push_at rfl rfl)
 have ko:∀ b o,b ≠ x → s.heap.get? b = some o → ((s.heap.push { cls:=.type "dict",data:=.dict #[] }).update x fun o=>{ cls:=o.cls,dict:=some s.heap.objs.size,data:=o.data,slots:=o.slots }).get? b = some o:=fun b o n e=>(Heap.get?_update_ne _ _ _ _ n).trans (Heap.get?_push_of_some _ e)
 generalize ((s.heap.push { cls:=.type "dict",data:=.dict #[] }).update x fun o=>{ cls:=o.cls,dict:=some s.heap.objs.size,data:=o.data,slots:=o.slots }) = g1 at gx gd ko ⊢
 have nd:g1.Ns s.heap.objs.size (fun _=>none):=⟨_,#[],_,gd,rfl,fun e he=>absurd he (by simp),fun _=>rfl⟩
 unfold storeInDict newKeyGuard
 refine wpAny_bind (wpAny_pure (wpAny_bind (wpAny_nsSet1 (Heap.Ns1.of_empty nd) fun h' hn' hs=>?_)))
 obtain ⟨oD,esD,epD,hoD,hdD,hcD⟩:=hn'.count (PySem.Within.cons name v PySem.Within.nil)
 refine wpAny_bind (wpAny_lookBehind hoD (by rw [hdD]; exact pastItsLine_dict (Nat.le_trans hcD (by rw [List.length_cons,List.length_nil,sizeLine_eq]; lia))) ?_)
 exact wpAny_pure (h h' ((hs.2 x nx).trans gx) hn' fun b o n e=>(hs.2 b (Nat.ne_of_lt (Heap.lt_size e))).trans (ko b o n e))
theorem aF8 {t dx:Addr} {mA:Str → Option Value} {ns:List Str} {name:Str} {v:Value} {Q:Unit → Shared → Prop} (X:K.In s.heap) (hx:s.heap.get? x = some (D6 C t (some dx))) (hn:s.heap.Ns1 dx mA) (hw:PySem.Within mA ns) (hz:ns.length ≤ 1000) (Z:ExcN K C)
  (mo:PySem.W.mroIn K C (.type "object") = some true) (ht:PySem.W.findIn K (.ref C) name = some none)
  (h:∀ h',h'.Ns1 dx (fun y=>if y = name then some v else mA y) → Heap.SameBut dx s.heap h' → Q () { s with heap:=h',toks:=s.toks + 2 }) :
  wpAny (model prog w) A (setAttr (.ref x) name v) Q E s:=by
 obtain ⟨od,ho,hl⟩:=W8 hn
 have J:InstAt s.heap x (D6 C t (some dx)) C (some od):=⟨hx,rfl,rfl,ho⟩
 refine PySem.W.set_plain X J Z.sa (ag0 (s:={ s with toks:=s.toks + 1 }) X J Z mo ht fun b=>?_)
 obtain ⟨cd,hc,_,hd'⟩:=Z.cd
 refine wpAny_bind (wpAny_pure (wpAny_bind (wpAny_bind (wpAny_loadPart hx (wpAny_bind (Looks.here (s:={ s with toks:=s.toks + 1 }) (PySem.W.looks_clsIn X hc) ?_))))))
 rw [hd']
 refine wpAny_pure (a:=some dx) (wpAny_bind (wpAny_pure (wpAny_bind ?_)))
 refine wpAny_nsSet1 (s:={ s with toks:=s.toks + 1 }) hn fun h' hn2 hs2=>?_
 obtain ⟨oD,esD,epD,hoD,hdD,hcD⟩:=hn2.count (PySem.Within.cons name v hw)
 refine wpAny_bind (wpAny_lookBehind hoD (by rw [hdD]; exact pastItsLine_dict (Nat.le_trans hcD (by rw [List.length_cons,sizeLine_eq]; lia))) ?_)
 exact wpAny_pure (h _ hn2 hs2)
theorem a_4 {o:Obj} {dx:Addr} {mA:Str → Option Value} {name:Str} {v:Value} {expr:Bool} {Q:Value → Shared → Prop} (X:K.In s.heap) (Z:ExcX K C) (N:ExcN K C) (hx:s.heap.get? x = some o) (hc:o.cls = .ref C) (hf:∃ fs,o.data = .fields fs) (hd:o.dict = some dx) (hn:s.heap.Ns1 dx mA)
  (ht:PySem.W.findIn K (.ref C) name = some none) (hv:mA name = some v) (hh:PySem.W.handedIn v = true) (h:Q v { s with toks:=s.toks + 1 }) :
  wpAny (model prog w) A (getAttr (.ref x) name expr) Q E s:=by
 obtain ⟨od,ho,hl⟩:=W8 hn
 obtain ⟨fs,hfs⟩:=hf
 have J:InstAt s.heap x o C (some od):=⟨hx,hc,by obtain ⟨a,b,c,d⟩:=o; cases hfs; rfl,by rw [hd]; exact ho⟩
 have Lf:=PySem.W.looks_find (M:=model prog w) X J (PySem.W.findObj_own N.hd ht rfl (by rw [hl,hv]))
 obtain ⟨hh0,g,dr,t,os⟩:=s
 have L0:Looks (model prog w) hh0 (typeOf (.ref x)) (.ref C):=hc ▸ (Looks.ld hx).andThen .now
 have L1:=PySem.W.looks_findIn (M:=model prog w) X Z.ga
 have L2:=PySem.W.looks_findIn (M:=model prog w) X Z.gn
 have L4:=PySem.W.looks_mroIn (M:=model prog w) X Z.mb
 have f3:=PySem.F.attr_ValueError.ga.bind (.ref x)
 have hk:builtinKind "BaseException.__getattribute__" = some .slot:=by decide +kernel
 have hsplit:splitId "BaseException.__getattribute__" = some ("BaseException","__getattribute__"):=by decide +kernel
 unfold getAttr getAttrBy
 refine wpAny_bind (wpAny_mkText (wpAny_holding (wpAny_bind (L0.at (wpAny_bind (L1.at ?_))))))
 show wpAny _ _ (getAttrByItsOwn _ _ _ _ _ _) _ _ _
 unfold getAttrByItsOwn
 refine wpAny_bind ?_
 show wpAny _ _ (typeLookup _ _) _ _ _
 refine L2.at ?_
 refine wpAny_bind (wpAny_attempt (wpAny_holding ?_))
 unfold callGetattribute
 rw [if_neg (by simp [onTheHeap])]
 unfold boundAndCalled
 refine wpAny_bind ?_
 rw [f3]
 refine wpAny_pure ?_
 refine wpAny_call (codeAny_call_builtin PySem.F.attr_ValueError.ga.plain PySem.F.entry_bexc_ga ?_)
 have ha:=PySem.F.args_bexc_ga (.ref x) (.str name t)
 simp only [checkBuiltinCall,hk,hsplit]
 refine wpAny_bind ?_
 unfold isInstance
 refine wpAny_bind (L0.at (L4.at ?_))
 simp only [Bool.not_true,Bool.false_eq_true,if_false]
 refine wpAny_mono (Q:=fun _ s1=>s1 = ⟨hh0,g,dr,t + 1,os⟩) (E:=fun _ _=>False) ?_ (fun _ s1 z=>?_) fun _ _ z=>z.elim
 ·cases hs:Manifest.signature? "BaseException.__getattribute__" with
  | none=>exact wpAny_pure rfl
  | some sig =>
   simp only [argsOk,hs] at ha
   have h2:Bind.checkArgs "BaseException.__getattribute__" sig ⟨[.ref x,.str name t],[]⟩ = pure ():=ha
   show wpAny _ _ (Bind.checkArgs "BaseException.__getattribute__" sig ⟨[.ref x,.str name t],[]⟩) _ _ _
   rw [h2]
   exact wpAny_pure rfl
 subst z
 unfold Builtin.«object.__getattribute__»
 refine wpAny_bind (wpAny_pure (wpAny_bind (wpAny_pure (wpAny_bind (L0.at (wpAny_bind (Lf.at (wpAny_pure ?_))))))))
 show wpAny _ _ (handedOut v) _ _ _
 rw [PySem.W.handedOut_of hh]
 exact wpAny_pure h
end
end L2
namespace L2
open PySem PySem.Spec PyProof.Rows
def F3 (e C:Addr) (od:Option Addr):HO:=.ext fun h=>∃ t,h.get? e = some (D6 C t od)
def XdO (dx:Addr) (fs:List (Str × V)):HO:=.ext fun h=>∃ mA,h.Ns1 dx mA ∧ (∀ f,P1 (fs.lookup f) (mA f)) ∧ PySem.Within mA (fs.map (·.1))
def ac5 (e C:Addr) (od:Option Addr):HO:=.ext fun h=>∃ o vs,h.get? e = some o ∧ o.cls = .ref C ∧ o.data = .fields vs ∧ o.dict = od
theorem aB8 {P:Program} {w:World} {H:Hp} {h:Heap} {e C t:Addr} {od:Option Addr} (g:h.get? e = some (D6 C t od)):m5 P w H h e (F3 e C od):=⟨⟨t,g⟩,⟨_,g⟩,fun h1 h2 ⟨t',g'⟩ k=>⟨t',k _ g'⟩⟩
theorem a03 {h1 h2:Heap} {d:Addr} {m:Str → Option Value} (n:h1.Ns1 d m) (k:∀ o,h1.get? d = some o → h2.get? d = some o):h2.Ns1 d m:=by
 obtain ⟨o,es,ep,e,r⟩:=n
 exact ⟨o,es,ep,k _ e,r⟩
theorem aP3 {P:Program} {w:World} {H:Hp} {h:Heap} {dx:Addr} {fs:List (Str × V)} {mA:Str → Option Value} (n:h.Ns1 dx mA) (r:∀ f,P1 (fs.lookup f) (mA f)) (wi:PySem.Within mA (fs.map (·.1))):m5 P w H h dx (XdO dx fs):=by
 obtain ⟨o,es,ep,e,r'⟩:=id n
 exact ⟨⟨mA,n,r,wi⟩,⟨_,e⟩,fun h1 h2 ⟨m,n1,r1,w1⟩ k=>⟨m,a03 n1 k,r1,w1⟩⟩
section
variable {X:Cx} {o value:Expr} {ta tv:TE} {f:Str} {pos pos':Pos}
def sX0 (K:PySem.W.Frag) (ta tv:TE) (f:Str):TS:=fun D σ H=>tv σ H fun y H1=>ta σ H1 fun x H2=>∃ a C,x = .ref a ∧ H2 a = some (F3 a C none) ∧ ExcN K C ∧ PySem.W.mroIn K C (.type "object") = some true ∧ PySem.W.findIn K (.ref C) f = some none ∧
 ∀ dx,H2 dx = none → D.nx σ (upd (upd H2 a (F3 a C (some dx))) dx (XdO dx [(f,y)]))
theorem aX6 (K:PySem.W.Frag) (ha:PE X o ta) (hv:PE X value tv) (hs:swapsWith value (some (.Attribute o f pos')) pos.line X.env = pure false) (hK:X.K = K:=by rfl):PS X (.Assign [.Attribute o f pos'] value pos) (sX0 K ta tv f):=by
 subst hK
 intro pins s σ H D I h
 refine plainObj_wpAny_Assign_Attribute (thn (hv pins s σ H _ I h) fun u s1 ⟨y,H1,I1,ry,q⟩=>thn (ha pins s1 σ H1 _ I1 q) fun ov s2 ⟨x,H2,I2,rx,a,C,ex,ea,Z,mo,nf,q2⟩=>?_) hs
 subst ex
 obtain rfl:ov = Value.ref a:=rx
 obtain ⟨⟨t,g⟩,_,_⟩:=(show m5 X.prog X.w H2 s2.heap a (F3 a C none) from I2.hok a _ ea)
 refine aH5 I2.kIn g Z mo nf fun h' g' n' kp=>?_
 have fr:H2 s2.heap.objs.size = none:=I2.hok.fresh (Nat.le_refl _)
 have na:s2.heap.objs.size ≠ a:=Nat.ne_of_gt (Heap.lt_size g)
 have mu:Mut (H2 a):=by rw [ea]; exact True.intro
 have new1:m5 X.prog X.w (upd H2 a (F3 a C (some s2.heap.objs.size))) h' a (F3 a C (some s2.heap.objs.size)):=aB8 g'
 have ok1:=I2.hok.write (e:=a) mu (.inl rfl) (fun b u hb z=>kp b u hb z) ⟨_,g'⟩ new1
 have fr1:upd H2 a (F3 a C (some s2.heap.objs.size)) s2.heap.objs.size = none:=by rw [d9 na]; exact fr
 refine ⟨σ,_,I2.call' (s':={ s2 with heap:=h',toks:=s2.toks + 2 }) (ch:=[]) rfl (Un.track (Un.write (e:=a) mu (.inl rfl) (fun b u hb z=>kp b u hb z) ⟨_,g'⟩) (Nat.le_refl _) fr) (HOk.track ok1 fr1 (aP3 (fs:=[(f,y)]) n' (fun g=>?_) ?_)) I2.bare (fun b z=>nomatch z),q2 _ fr⟩
 ·by_cases z:g = f
  ·subst z
   simp only [List.lookup,beq_self_eq_true,if_true]
   exact ry
  ·have z':(g == f) = false:=beq_eq_false_iff_ne.mpr z
   simp only [List.lookup,z',if_neg z]
   exact True.intro
 ·exact PySem.Within.cons f u PySem.Within.nil
def sX1 (K:PySem.W.Frag) (ta tv:TE) (f:Str):TS:=fun D σ H=>tv σ H fun y H1=>ta σ H1 fun x H2=>∃ a C dx fs,x = .ref a ∧ H2 a = some (F3 a C (some dx)) ∧ H2 dx = some (XdO dx fs) ∧ ExcN K C ∧ PySem.W.mroIn K C (.type "object") = some true ∧ PySem.W.findIn K (.ref C) f = some none ∧ fs.length < 1000 ∧
 D.nx σ (upd H2 dx (XdO dx ((f,y) :: fs)))
theorem aX7 (K:PySem.W.Frag) (ha:PE X o ta) (hv:PE X value tv) (hs:swapsWith value (some (.Attribute o f pos')) pos.line X.env = pure false) (hK:X.K = K:=by rfl):PS X (.Assign [.Attribute o f pos'] value pos) (sX1 K ta tv f):=by
 subst hK
 intro pins s σ H D I h
 refine plainObj_wpAny_Assign_Attribute (thn (hv pins s σ H _ I h) fun u s1 ⟨y,H1,I1,ry,q⟩=>thn (ha pins s1 σ H1 _ I1 q) fun ov s2 ⟨x,H2,I2,rx,a,C,dx,fs,ex,ea,ed,Z,mo,nf,hl,q2⟩=>?_) hs
 subst ex
 obtain rfl:ov = Value.ref a:=rx
 obtain ⟨⟨t,g⟩,_,_⟩:=(show m5 X.prog X.w H2 s2.heap a (F3 a C (some dx)) from I2.hok a _ ea)
 obtain ⟨⟨mA,n,r,wi⟩,_,_⟩:=(show m5 X.prog X.w H2 s2.heap dx (XdO dx fs) from I2.hok dx _ ed)
 refine aF8 I2.kIn g n wi (by rw [List.length_map]; lia) Z mo nf fun h' n' sb=>?_
 have he:∃ u,h'.get? dx = some u:=by obtain ⟨o,_,_,e,_⟩:=id n'; exact ⟨o,e⟩
 refine ⟨σ,_,I2.write (x:=dx) (e:=dx) (o:=XdO dx ((f,y) :: fs)) (by rw [ed]; exact True.intro) (.inl rfl) (fun b u hb z=>(sb.2 b hb).trans z) he (aP3 n' (fun g=>?_) ?_),q2⟩
 ·by_cases z:g = f
  ·subst z
   simp only [List.lookup,beq_self_eq_true,if_true]
   exact ry
  ·have z':(g == f) = false:=beq_eq_false_iff_ne.mpr z
   simp only [List.lookup,z',if_neg z]
   exact r g
 ·rw [List.map_cons]
  exact PySem.Within.cons f u wi
def tXf (K:PySem.W.Frag) (ta:TE) (f:Str):TE:=fun σ H Q=>ta σ H fun x H1=>∃ a C dx fs v,x = .ref a ∧ H1 a = some (ac5 a C (some dx)) ∧ H1 dx = some (XdO dx fs) ∧ ExcX K C ∧ ExcN K C ∧ PySem.W.findIn K (.ref C) f = some none ∧ fs.lookup f = some v ∧ Q v H1
theorem aJ2 (K:PySem.W.Frag) (he:PE X o ta) (hK:X.K = K:=by rfl) (hb:attributeBase o f X.env (eval o X.env) = eval o X.env:=by rfl):PE X (.Attribute o f pos) (tXf K ta f):=by
 subst hK
 intro pins s σ H Q I h
 refine aV4 hb (thn (he pins s σ H _ I h) fun u s1 ⟨x,H1,I1,rx,a,C,dx,fs,v,ex,ea,ed,Z,N,nf,l,q⟩=>?_)
 subst ex
 obtain rfl:u = Value.ref a:=rx
 obtain ⟨⟨o,vs,g,hc,hd,hdd⟩,_,_⟩:=(show m5 X.prog X.w H1 s1.heap a (ac5 a C (some dx)) from I1.hok a _ ea)
 obtain ⟨⟨mA,n,r,wi⟩,_,_⟩:=(show m5 X.prog X.w H1 s1.heap dx (XdO dx fs) from I1.hok dx _ ed)
 obtain ⟨u',hu,ru⟩:=P1.some_of (v:=v) (o:=mA f) (by rw [← l]; exact r f)
 exact a_4 I1.kIn Z N g hc ⟨vs,hd⟩ hdd n nf hu (aI2 ru) ⟨v,H1,I1.tok _,ru,q⟩
def aL3 (K:PySem.W.Frag):List V → Hp → VK → Prop:=fun xs H Q=>∃ ea C od d c b,xs = [.ref ea,d] ∧ (∀ u,n5 d u → u = c) ∧ H ea = some (ac5 ea C od) ∧ ExcX K C ∧ PySem.W.kitOne K (.ref C) c = some b ∧ Q (.bl b) H
theorem ai4 (K:PySem.W.Frag) (h:X.K = K:=by rfl):y7 X (.builtin "isinstance") (aL3 K):=by
 subst h
 intro pins s σ H xs us Q I r h
 obtain ⟨ea,C,od,d,c,b,rfl,hd,he,Z,e,q⟩:=h
 obtain ⟨u,u',rfl,r1,r2⟩:=as5 r
 cases (show u = Value.ref ea from r1)
 cases hd u' r2
 obtain ⟨⟨o,vs,ho,hc,_⟩,_⟩:=(show m5 X.prog X.w H s.heap ea (ac5 ea C od) from I.hok ea _ he)
 exact PySem.W.kia_one (aO3 Z) I.kIn ⟨o,ho,hc⟩ e (fun z=>nomatch z) fun tk=>⟨.bl b,H,I.tok _,rfl,q⟩
end
end L2
namespace L2
open PySem PySem.Spec PyProof.Rows
def ax2 (H:Hp) (e:Addr):Hp:=fun b=>if b = e then none else H b
theorem aH0 {H:Hp} {e:Addr}:ax2 H e e = none:=if_pos rfl
theorem C7 {H:Hp} {e b:Addr} (h:b ≠ e):ax2 H e b = H b:=if_neg h
def CXF (P:Program) (w:World):CXT:=fun outer H s E e s'=>∃ (ea C:Addr) (a0:Value) (B:Heap) (H':Hp) (od:Option Addr),
 e = .ref ea ∧ s'.os = s.os ∧ AllBare s'.gens ∧ Heap.FlyingW B outer ea (.ref C) a0 s'.heap ∧ C2 s'.heap ea od ∧ Fly (frs outer) H H' s.heap B s'.heap ∧ HOk P w H' B ∧ E (.ref C) od H'
def aD6 (X:Cx) (E:St → XK):Prop:=∀ (pins:List (Addr × Obj)) (σ:St) (H:Hp) (s:Shared) (e:Value) (s':Shared),Inv X pins σ H s → CXF X.prog X.w X.stack H s (E σ) e s' → X.xe e s'
def aX2 (X:Cx) (E:XK):Prop:=∀ (pins:List (Addr × Obj)) (σ:St) (H:Hp) (s:Shared) (e C:Addr) (od:Option Addr),Inv X pins σ H s → H e = some (F3 e C od) → X.s₀.heap.get? e = none → E (.ref C) od (ax2 H e) → X.xe (.ref e) s
section
variable {P:Program} {w:World} {K:PySem.W.Frag} {mg:Str → Option Value} {base:Heap} {N:List Str} {qual:Str} {scope:Scope} {f:Addr} {cd:Value} {A:Around} {outer:List Env} {s:Shared} {H:Hp} {E:XK}
theorem ap2:aX2 (F8 (CXF P w) P w K mg base N qual scope f cd A outer s H E) E:=by
 intro pins σ H1 s1 e C od I he h0 hE
 show wpAny _ _ (leaving _ (.ref e)) _ _ _
 have fr:frs (F8 (CXF P w) P w K mg base N qual scope f cd A outer s H E).stack = s.heap.objs.size :: frs outer:=au3 rfl
 have hin:∀ env ∈ (F8 (CXF P w) P w K mg base N qual scope f cd A outer s H E).stack,∀ a,env.frame = some a → a ∈ e :: frs (F8 (CXF P w) P w K mg base N qual scope f cd A outer s H E).stack:=fun env hm b hb=>List.mem_cons_of_mem _ (List.mem_filterMap.mpr ⟨env,hm,hb⟩)
 have frees:=I.stkFree
 have stk:=I.stack
 obtain ⟨⟨t,g⟩,_,_⟩:=(show m5 P w H1 s1.heap e (F3 e C od) from I.hok e _ he)
 refine ad6 (B:=PySem.W.hideAll s1.heap (e :: frs (F8 (CXF P w) P w K mg base N qual scope f cd A outer s H E).stack)) I.ok.frames (PySem.W.funFrames_hide stk hin) rfl g (fun b o q=>PySem.W.of_hideAll _ q) (PySem.W.hideAll_none _ (List.mem_cons_self ..)) rfl rfl rfl fun h'' fl up dz=>?_
 have ne:∀ b,b ∈ frs (F8 (CXF P w) P w K mg base N qual scope f cd A outer s H E).stack → b ≠ e:=fun b hb z=>by
  have:=frees b hb
  rw [z,he] at this
  cases this
 have keepB:∀ b o,s1.heap.get? b = some o → b ≠ e → b ∉ frs (F8 (CXF P w) P w K mg base N qual scope f cd A outer s H E).stack → (PySem.W.hideAll s1.heap (e :: frs (F8 (CXF P w) P w K mg base N qual scope f cd A outer s H E).stack)).get? b = some o:=fun b o q n1 n2=>PySem.W.hideAll_get _ q fun z=>(List.mem_cons.mp z).elim n1 n2
 have n0:∀ b o,s.heap.get? b = some o → b ≠ e:=fun b o q z=>by
  have h0':s.heap.get? e = none:=h0
  rw [z,h0'] at q
  cases q
 have nL:∀ b o,s.heap.get? b = some o → b ∉ frs outer → b ∉ frs (F8 (CXF P w) P w K mg base N qual scope f cd A outer s H E).stack:=fun b o q hb z=>by
  rw [fr] at z
  rcases List.mem_cons.mp z with y | y
  ·exact absurd (Heap.lt_size q) (by rw [y]; exact Nat.lt_irrefl _)
  ·exact hb y
 have fly:Fly (frs outer) H (ax2 H1 e) s.heap (PySem.W.hideAll s1.heap (e :: frs (F8 (CXF P w) P w K mg base N qual scope f cd A outer s H E).stack)) h'':=by
  refine ⟨fun b o q hb=>?_,fun b o q hb=>?_,fun b o q n=>?_,fun b xs q=>?_,fun b o u q=>?_,fun b ps q=>?_⟩
  ·obtain ⟨o1,e1⟩:=I.base.there b o q (show _ ∉ ([]:List Addr) by simp)
   refine ⟨⟨o1,keepB b o1 e1 (n0 b o q) (nL b o q hb)⟩,fun n=>?_⟩
   exact keepB b o (I.base.keep b o q n hb (show _ ∉ ([]:List Addr) by simp)) (n0 b o q) (nL b o q hb)
  ·obtain ⟨s1',q1⟩:=I.base.slot b o q (I.ok.frf b hb) hb (show _ ∉ ([]:List Addr) by simp)
   have hb':b ∈ frs (F8 (CXF P w) P w K mg base N qual scope f cd A outer s H E).stack:=by rw [fr]; exact List.mem_cons_of_mem _ hb
   obtain ⟨s2',q2⟩:=up b _ q1 (by
    obtain ⟨_,o',q',d⟩:=stk.mem hb'
    rw [q1] at q'
    cases q'
    exact d)
   exact ⟨s2',q2⟩
  ·rw [C7 (n0 b o q)]
   exact I.base.free b o q n (show _ ∉ ([]:List Addr) by simp)
  ·have z:=I.base.tups b xs q
   rw [C7 (fun y=>by rw [y,he] at z; cases z)]
   exact z
  ·have z:=I.base.frzs b o u q
   rw [C7 (fun y=>by rw [y,he] at z; cases z)]
   exact z
  ·obtain ⟨m,z⟩:=I.base.tbls b ps q
   exact ⟨m,by rw [C7 (fun y=>by rw [y,he] at z; cases z)]; exact z⟩
 refine ⟨e,C,_,_,ax2 H1 e,od,rfl,I.os,I.bare,fl,dz,fly,fun b u e1=>?_,hE⟩
 have nb:b ≠ e:=fun z=>by rw [z,aH0] at e1; cases e1
 rw [C7 nb] at e1
 refine (I.hok b u e1).stay (fun c v hc q=>keepB c v q ?_ fun hm=>?_) (fun c q=>?_) fun c xs q=>?_
 ·rintro rfl
  rcases hc with z | z
  ·exact nb z.symm
  ·rw [he] at z; cases z
 ·have hn:=frees c hm
  rcases hc with z | z
  ·rw [z] at hn; rw [e1] at hn; cases hn
  ·rw [z] at hn; cases hn
 ·rw [C7 (fun y=>by rw [y,he] at q; cases q)]; exact q
 ·rw [C7 (fun y=>by rw [y,he] at q; cases q)]; exact q
theorem P9 {E2:XK} (hE:∀ c d H,E2 c d H → E c d H):aD6 (F8 (CXF P w) P w K mg base N qual scope f cd A outer s H E) (fun _=>E2):=by
 intro pins σ H1 s1 e s' I c
 obtain ⟨ea,C,a0,B,H2,od,rfl,os,bare,fl,dz,fy,hok,hE2⟩:=c
 show wpAny _ _ (leaving _ (.ref ea)) _ _ _
 have fr:frs (F8 (CXF P w) P w K mg base N qual scope f cd A outer s H E).stack = s.heap.objs.size :: frs outer:=au3 rfl
 refine aw9 I.ok.frames rfl fl dz fun h'' fl' up dz'=>?_
 have f2:=fy.up (h3:=h'') fun b hb o e1=>up b o e1 (by
  obtain ⟨_,o',q,d⟩:=fl.2.2.1.mem hb
  rw [e1] at q; cases q; exact d)
 refine ⟨ea,C,a0,B,H2,od,rfl,os.trans I.os,bare,fl',dz',f2.after (u:=I.base) (fun b o e1 hb=>?_) (fun b hb=>by rw [fr]; exact List.mem_cons_of_mem _ hb) I.ok.frf,hok,hE _ _ _ hE2⟩
 rw [fr]
 intro z
 rcases List.mem_cons.mp z with z | z
 ·exact absurd (Heap.lt_size e1) (by rw [z]; exact Nat.lt_irrefl _)
 ·exact hb z
end
structure CalleeF (P:Program) (w:World) (K:PySem.W.Frag) (mg:Str → Option Value) (base:Heap) (k:Nat) (x:Str) (ps:List Str) (dvs:List V) (sp:Sp):Prop where
 ex:∃ (f:Addr) (fd:FuncData),FnOk P w K mg base (CXF P w) k f fd ps sp ∧ (∀ m,m ≤ dvs.length → ∃ ds,j9 (dvs.drop m) ds ∧ O5 K fd ps ds) ∧ PySem.W.keepIn K (.ref f) = true ∧ mg x = some (.ref f)
section
variable {P:Program} {w:World} {K:PySem.W.Frag} {mg:Str → Option Value} {base:Heap}
theorem DefD.okF {x:Str} {st:Stmt} {N ps:List Str} {k:Nat} {dvs:List V} {sp:Sp} (D:DefD K mg x st ps dvs) (S:FnScope N ps (d7 st)) (len:∀ vs H Q E,sp vs H Q E → vs.length = ps.length)
  (hbody:∀ (f:Addr) (cdv:Value) (A:Around) (outer:List Env) (s:Shared) (H:Hp) (vs:List V) (Q:VK) (E:XK),Room k (A.deeper (envOfC x (d7 st) s.heap.objs.size f cdv)) → sp vs H Q E →
   ∃ t,PSs (F8 (CXF P w) P w K mg base N x (d7 st) f cdv A outer s H E) (i8 st) t ∧ t { nx:=fun _ H'=>Q .non H',rt:=Q } (start N vs) H):CalleeF P w K mg base (k + 1) x ps dvs sp:=by
 obtain ⟨f,fd,⟨oc,od,dV,kV,doc,pm,an,cdv,ct,osl,rfl,lk,hcd⟩,kp,b,m⟩:=D.ex
 exact ⟨f,_,ar0 lk hcd S len fun A outer s H vs Q E hr hsp=>hbody f cdv A outer s H vs Q E hr hsp,b,kp,m⟩
theorem Def.okF {x:Str} {st:Stmt} {N ps:List Str} {k:Nat} {sp:Sp} (D:Def K mg x st ps) (S:FnScope N ps (d7 st)) (len:∀ vs H Q E,sp vs H Q E → vs.length = ps.length)
  (hbody:∀ (f:Addr) (cdv:Value) (A:Around) (outer:List Env) (s:Shared) (H:Hp) (vs:List V) (Q:VK) (E:XK),Room k (A.deeper (envOfC x (d7 st) s.heap.objs.size f cdv)) → sp vs H Q E →
   ∃ t,PSs (F8 (CXF P w) P w K mg base N x (d7 st) f cdv A outer s H E) (i8 st) t ∧ t { nx:=fun _ H'=>Q .non H',rt:=Q } (start N vs) H):CalleeF P w K mg base (k + 1) x ps [] sp:=by
 obtain ⟨f,fd,⟨⟨oc,od,kV,doc,pm,an,cdv,ct,osl,rfl,lk,hcd⟩,kp⟩,b,m⟩:=D.ex
 refine ⟨f,_,ar0 lk hcd S len fun A outer s H vs Q E hr hsp=>hbody f cdv A outer s H vs Q E hr hsp,fun j hj=>⟨[],?_,b⟩,kp,m⟩
 rw [List.drop_nil]; exact .nil
end
section
variable {X:Cx} {k n:Nat} {ps:List Str} {dvs:List V} {sp:Sp} {x:Str} {p pos:Pos} {e:Expr} {es:List Expr} {t:TA} {E:St → XK}
theorem aV5 {f:Addr} {fd:FuncData} {ds:List Value} {pins:List (Addr × Obj)} {σ:St} {H:Hp} {s:Shared} {Q:VK} {us:List Value} {vs:List V} (F:FnOk X.prog X.w X.K X.mg X.base (CXF X.prog X.w) k f fd ps sp) (hr:Room k X.A) (hb:O5 X.K fd ps ds) (hd:j9 dvs ds) (hx:aD6 X E)
  (I:Inv X pins σ H s) (r:j9 vs us) (h:sp (vs ++ dvs) H Q (E σ)):wpAny (model X.prog X.w) X.A (call (.ref f) us) (EP X pins σ Q) X.xe s:=by
 have r2:j9 (vs ++ dvs) (us ++ ds):=r.append hd
 have hl:(us ++ ds).length = ps.length:=by rw [← r2.length]; exact F.len _ _ _ _ h
 refine wpAny_call (codeAny_mono (F.run X.A X.stack s H ⟨us,[]⟩ (us ++ ds) (vs ++ dvs) Q (E σ) hr I.env0 (hb s us I.kIn hl) r2 h) fun r s' hq=>?_)
 cases r with
 | error e=>exact hx pins σ H s e s' I hq
 | ok fl =>
  cases fl with
  | ret u=>exact I.after hq
  | next=>exact False.elim hq
  | brk=>exact False.elim hq
  | cont=>exact False.elim hq
theorem S7 (m:Nat) (C:CalleeF X.prog X.w X.K X.mg X.base k x ps dvs sp) (hx:aD6 X E) (hr:Room n X.A) (hg:Gl X x) (ha:PA X (e :: es) t) (hm:m ≤ dvs.length:=by decide) (hk:k ≤ n:=by decide) (hdb:(x == ("__debug__":Str)) = false:=by decide)
  (he:starEach (e :: es) X.env = (false,eval e X.env) :: starEach es X.env:=by rfl) (hpl:(backTo pos (starEach es X.env)).any (·.1) = false:=by rfl) :
  PE X (.Call (.Name x p) (e :: es) [] pos) (a45 sp (dvs.drop m) E t):=by
 obtain ⟨f,fd,F,b,kp,mm⟩:=C.ex
 obtain ⟨ds,hv,hb⟩:=b m hm
 intro pins s σ H Q I h
 refine wpAny_Call_Name_kw (U0 I hg mm ?_ hdb)
 refine PySem.W.callWith_K (h₀:=X.base) I.ok.mod.kin kp (thn (ha pos pins s σ H _ I h) fun us s1 ⟨vs,H1,I1,r,q⟩=>⟨I1.kIn,?_⟩) he hpl
 exact aV5 F (hr.mono hk) hb hv hx I1 r q
end
end L2
namespace L2
open PySem PySem.Spec PyProof.Rows
structure ExcI (K:PySem.W.Frag) (mg:Str → Option Value) (x:Str) (C fI:Addr):Prop where
 mg:mg x = some (.ref C)
 exc:T3 K C fI = true
 at_:PySem.W.findIn K (.ref C) "__init__" = some (some (.ref fI))
section
variable {X:Cx} {C:Addr} {x:Str} {E:XK} {np cpos pos:Pos} {e:Expr} {es:List Expr} {t:TA} {k n:Nat} {ps:List Str} {kb:FuncData → Prop} {sp:Sp}
def aS1 (C:Addr) (sp:Sp) (E:XK) (t:TA):TS:=fun _ σ H=>t σ H fun vs H1=>vs.length ≤ 1000 ∧ ∀ ea,H1 ea = none → sp (.ref ea :: vs) (upd H1 ea (F3 ea C none)) (fun r H2=>r = .non ∧ ∃ od,H2 ea = some (F3 ea C od) ∧ E (.ref C) od (ax2 H2 ea)) E0
theorem af3 (hl:aX2 X E) (M:∃ fI,ExcI X.K X.mg x C fI) (Z:CalleeM X.prog X.w X.K X.mg X.base k C "__init__" ps [] kb sp) (hr:Room n X.A) (hh:X.A.handled = none) (hg:Gl X x) (ha:PA X (e :: es) t) (hk:k + 1 ≤ n:=by decide) (hdb:(x == ("__debug__":Str)) = false:=by decide) (hx0:X.ex = []:=by rfl)
  (hst:starEach (e :: es) X.env = (false,eval e X.env) :: starEach es X.env:=by rfl) (hpl:(backTo cpos (starEach es X.env)).any (·.1) = false:=by rfl):PS X (.Raise (some (.Call (.Name x np) (e :: es) [] cpos)) none pos) (aS1 C sp E t):=by
 obtain ⟨fI,M⟩:=M
 obtain ⟨f,fd,F,mt,hkb,b⟩:=Z.ex
 have ef:f = fI:=by
  have z:=mt.at_
  rw [M.at_] at z
  cases z
  rfl
 subst ef
 obtain ⟨ds,hv,hb⟩:=b 0 (Nat.zero_le _)
 rw [List.drop_zero] at hv
 cases hv
 intro pins s σ H D I h
 have hpl':(backTo cpos (starEach (e :: es) X.env)).any (·.1) = false:=by rw [hst]; exact hpl
 refine az0 (C:=C) (fI:=f) hh hpl' (U0 I hg M.mg ⟨rfl,?_⟩ hdb)
 have hA:=ha cpos pins s σ H _ I h
 rw [hst] at hA ⊢
 refine Calls.evalArgs_plain ?_
 refine thn hA fun us s2 ⟨vs,H2,I2,r2,hlen,q2⟩=>?_
 have hfn:∃ oI,s2.heap.get? f = some oI ∧ oI.cls = .type "function":=by
  have z:PySem.W.typeIn X.K (.ref f) = some (.type "function"):=beq_iff_eq.mp mt.fn
  obtain ⟨oI,h1,h2⟩:=Option.map_eq_some_iff.mp (show (X.K.lookup f).map (·.cls) = _ from z)
  exact ⟨oI,I2.kIn _ _ h1,h2⟩
 refine ⟨rfl,by rw [← r2.length]; exact Nat.le_of_lt (m3 hlen),aA5 I2.kIn M.exc,hfn,fun h' ea kp hsz ⟨tt,ge⟩=>?_⟩
 have fr:=I2.hok.fresh hsz
 have I3:Inv X pins σ (upd H2 ea (F3 ea C none)) { s2 with heap:=h' }:=I2.laid (t':=s2.toks) kp hsz (aB8 ge)
 have hq:=q2 ea fr
 have rr:j9 (V.ref ea :: vs) (Value.ref ea :: us):=.cons rfl r2
 have hll:(Value.ref ea :: us).length = ps.length:=by rw [← rr.length]; exact F.len _ _ _ _ hq
 have s0n:X.s₀.heap.get? ea = none:=by
  cases z:X.s₀.heap.get? ea with
  | none=>rfl
  | some o =>
   obtain ⟨o',e'⟩:=I2.base.there ea o z (by rw [hx0]; simp)
   exact absurd (Heap.lt_size e') (Nat.not_lt.mpr hsz)
 refine wpAny_call (codeAny_mono (F.run _ X.stack _ _ ⟨.ref ea :: us,[]⟩ (.ref ea :: us) _ _ E0 ((hr.mono hk).make C us []) (I3.env0.make C us []) (by have:=hb _ (.ref ea :: us) I3.kIn (by rw [List.append_nil]; exact hll); rw [List.append_nil] at this; exact this) rr hq) fun r s' hq'=>?_)
 cases r with
 | error e=>exact (aX0 (X:=X)) pins σ _ _ e s' I3 hq'
 | ok fl =>
  cases fl with
  | ret u =>
   obtain ⟨v,H',I4,rv,ev,od,eH,hE⟩:=I3.after hq'
   subst ev
   cases (show u = Value.none from rv)
   obtain ⟨⟨t',g'⟩,_,_⟩:=(show m5 X.prog X.w H' s'.heap ea (F3 ea C od) from I4.hok ea _ eH)
   exact ⟨rfl,aA5 I4.kIn M.exc,⟨t',od,g'⟩,hl pins σ H' s' ea C od I4 eH s0n hE⟩
  | next=>exact False.elim hq'
  | brk=>exact False.elim hq'
  | cont=>exact False.elim hq'
end
def xeF (X:Cx) (pn:List (Addr × Obj)) (E:St → XK):Value → Shared → Prop:=fun e s'=>∃ (pins:List (Addr × Obj)) (σ:St) (H:Hp) (s1:Shared),Inv (X.pinned pn) pins σ H s1 ∧ CXF X.prog X.w X.stack H s1 (E σ) e s'
abbrev a85 (X:Cx) (pn:List (Addr × Obj)) (E:St → XK):Cx:=(X.pinned pn).wish (xeF X pn E)
section
variable {X:Cx} {pins:List (Addr × Obj)} {σ:St} {H:Hp} {s:Shared}
theorem ag5 {pn:List (Addr × Obj)} {E:St → XK}:aD6 (a85 X pn E) E:=fun pins σ H s _ _ I c=>⟨pins,σ,H,s,I.unwish,c⟩
end
section
variable {X:Cx}
def a66 (K:PySem.W.Frag) (c:Value) (i:Nat) (tb:(St → XK) → TS) (th:TS):TS:=fun D σ H=>∃ E:St → XK,tb E D σ H ∧ ∀ σ' c0 d H',E σ' c0 d H' → σ'.length = σ.length ∧ PySem.W.exmOne K c0 c = some true ∧
 ∀ (ea C:Addr),c0 = .ref C → H' ea = none → th (D.gone i) (σ'.set i (some (.ref ea))) (upd H' ea (ac5 ea C d))
theorem aU9 {x n:Str} {c:Value} {i:Nat} {body:List Stmt} {b₀:Stmt} {suite:List Stmt} {np hpos pos:Pos} {tb:(St → XK) → TS} {th:TS} (hg:Gl X x) (hm:X.mg x = some c) (hN:X.N.Nodup) (hi:X.N[i]? = some n)
  (hl:X.env.scope.names.lookup n = some .local) (hst:X.stack = X.env :: X.outer) (hf:X.env.frame = some X.env.locals) (hx0:X.ex = [])
  (hb:∀ (pn:List (Addr × Obj)) (E:St → XK),PSs (a85 X pn E) body (tb E)) (hs:∀ ea,PSs (hcx X ea) (b₀ :: suite) th) (hdb:(x == ("__debug__":Str)) = false:=by decide) :
  PS X (.Try body [.ExceptHandler (some (.Name x np)) (some n) (b₀ :: suite) hpos] [] [] pos) (a66 X.K c i tb th):=by
 intro pins s σ H D I h
 obtain ⟨E,h1,h2⟩:=h
 have lenσ:=I.len
 refine wpAny_Try_except ?_
 refine wpAny_mono (hb (X.pn ++ pins) E [] s σ H D (I.toPinned.wish _) h1) (fun fl s1 q=>?_) (fun e s1 q=>?_)
 ·cases fl with
  | next=>obtain ⟨σ',H',J,q⟩:=q; exact wpAny_execs_nil ⟨σ',H',J.unwish.ofPinned,q⟩
  | brk=>obtain ⟨σ',H',J,q⟩:=q; exact ⟨σ',H',J.unwish.ofPinned,q⟩
  | cont=>obtain ⟨σ',H',J,q⟩:=q; exact ⟨σ',H',J.unwish.ofPinned,q⟩
  | ret u=>obtain ⟨v,σ',H',J,r,q⟩:=q; exact ⟨v,σ',H',J.unwish.ofPinned,r,q⟩
 ·obtain ⟨ps,σ1,H1,s0,J0,ea,C,a0,B,H2,od,rfl,os,bare,fl,dz0,fy,hok,hE⟩:=q
  have J1:Inv X pins σ1 H1 s0:=J0.ofPinned
  obtain ⟨lσ,hex,hth⟩:=h2 σ1 _ _ H2 hE
  have he2:H2 ea = none:=by
   cases q:H2 ea with
   | none=>rfl
   | some o=>obtain ⟨u,e⟩:=(hok ea o q).at_; rw [fl.2.1] at e; cases e
  have hframes:X.A.frames = some (X.env :: X.outer):=hst ▸ I.ok.frames
  have flup:∀ {h3:Heap},s1.heap.UpToSlots h3 → Fly (frs X.stack) H1 H2 s0.heap B h3:=fun {h3} up=>fy.up fun b hb o e1=>up b o e1 (by
   obtain ⟨_,o',q,d⟩:=fl.2.2.1.mem hb
   rw [e1] at q; cases q; exact d)
  have inv:∀ {h3:Heap} {t:Nat},s1.heap.UpToSlots h3 → B.StaysIn h3 → Inv X pins σ1 H2 { s1 with heap:=h3,toks:=t }:=fun {h3 t} up st =>
   J1.call' (s':={ s1 with heap:=h3,toks:=t }) (ch:=[]) os ((flup up).un st) (hok.kept st) bare (fun _ z=>nomatch z)
  refine aI0 hframes hf (hst ▸ fl) dz0 fun h4 held up4 dz4=>?_
  refine a46 held dz4 fun h5 fl5 up5 dz5=>?_
  have up45:=up4.trans up5
  have I5:Inv X pins σ1 H2 { s1 with heap:=h5 }:=inv (t:=s1.toks) up45 fl5.1
  obtain ⟨ob,hob,hobc⟩:=fl5.there
  refine wpAny_handleBy_cons (codeAny_handlers_test (U0 (X:=hcx X ea) (I5.toH ea) hg hm ?_ hdb)) (by intro q; cases q)
  have LT:PySem.W.Looks (model X.prog X.w) h5 (typeOf (.ref ea)) (.ref C):=hobc ▸ (PySem.W.Looks.ld hob).andThen .now
  refine (PySem.W.exm_one (M:=model X.prog X.w) (K:=X.K) (h:=h5) I5.kIn LT hex).here ?_
  refine codeAny_handlers_suite_as ?_
  refine aj3 fl5 dz5 fun h6 fl6 up6 dz6=>?_
  have I6:Inv X pins σ1 H2 { s1 with heap:=h6 }:=inv (t:=s1.toks) (up45.trans up6) fl6.1
  obtain ⟨oe,ws,hoe,hoec,hoed,_⟩:=fl6.first
  have hodd:oe.dict = od:=by
   obtain ⟨o2,z1,z2⟩:=dz6
   rw [hoe] at z1
   cases z1
   exact z2
  have new:m5 X.prog X.w (upd H2 ea (ac5 ea C od)) h6 ea (ac5 ea C od):=⟨⟨oe,ws,hoe,hoec,hoed,hodd⟩,⟨oe,hoe⟩,fun g1 g2 ⟨o,vs,e1,e2,e3,e4⟩ k=>⟨o,vs,k _ e1,e2,e3,e4⟩⟩
  have none0:X.s₀.heap.get? ea = none:=by
   cases q:X.s₀.heap.get? ea with
   | none=>rfl
   | some o =>
    exfalso
    have hx:ea ∉ X.ex:=by rw [hx0]; simp
    obtain ⟨o1,e1⟩:=J1.base.there ea o q hx
    by_cases hb:ea ∈ frs X.stack
    ·obtain ⟨_,o',q',d⟩:=fl6.2.2.1.mem (hst ▸ hb)
     rw [hoe] at q'; cases q'; exact d _ hoed
    ·obtain ⟨⟨o',q'⟩,_⟩:=fy.kp ea o1 e1 hb
     rw [fl.2.1] at q'; cases q'
  have ne:∀ {b:Addr} {u:HO},H2 b = some u → b ≠ ea:=fun {b u} e z=>by rw [z,he2] at e; cases e
  have nL:X.env.locals ≠ ea:=fun z=>by
   obtain ⟨m,⟨o,es,ep,ho,hd,_⟩,_⟩:=I6.loc
   rw [z] at ho
   have ho2:h6.get? ea = some o:=ho
   rw [hoe] at ho2; cases ho2; rw [hoed] at hd; cases hd
  have I7:Inv X pins σ1 (upd H2 ea (ac5 ea C od)) { s1 with heap:=h6 }:=by
   refine ⟨I6.ok,I6.os,I6.bare,⟨I6.base.keep,I6.base.slot,fun b o e n hx=>?_,I6.base.there,fun b xs e=>?_,fun b o u e=>?_,fun b ps e=>?_⟩,I6.loc,I6.cell,?_,fun y c e=>?_,fun p hp=>?_,fun b u e=>?_,I6.len⟩
   ·rw [d9 (fun z=>by rw [z,none0] at e; cases e)]; exact I6.base.free b o e n hx
   ·have q:=I6.base.tups b xs e; rw [d9 (ne q)]; exact q
   ·have q:=I6.base.frzs b o u e; rw [d9 (ne q)]; exact q
   ·obtain ⟨m,q⟩:=I6.base.tbls b ps e; exact ⟨m,by rw [d9 (ne q)]; exact q⟩
   ·rw [d9 nL]; exact I6.free
   ·have nC:c ≠ ea:=fun z=>by
     obtain ⟨v,o,ho,hd⟩:=I6.cell y c e
     rw [z] at ho
     have ho2:h6.get? ea = some o:=ho
     rw [hoe] at ho2; cases ho2; rw [hoed] at hd; cases hd
    rw [d9 nC]; exact I6.freeC y c e
   ·obtain ⟨e,n,ne1,nf,d⟩:=I6.pin p hp
    obtain ⟨e0,n0,_,_,_⟩:=J1.pin p hp
    have np:p.1 ≠ ea:=fun z=>by
     have hb:p.1 ∉ frs X.stack:=fun hm=>(List.mem_cons.mp (J1.stkSub _ hm)).elim ne1 nf
     have q:=(fy.kp p.1 p.2 e0 hb).2 n0
     rw [z,fl.2.1] at q; cases q
    exact ⟨e,by rw [d9 np]; exact n,ne1,nf,d⟩
   ·by_cases hb:b = ea
    ·subst hb; rw [b9] at e; cases e; exact new
    ·rw [d9 hb] at e
     exact (I6.hok b u e).stay (fun c v _ q=>q) (fun c q=>by rw [d9 (ne q)]; exact q) fun c xs q=>by rw [d9 (ne q)]; exact q
  refine U7 (X:=hcx X ea) (I7.toH ea) hN hi (.inl hl) (v:=.ref ea) rfl (fun s7 I8=>?_) (.inr hl)
  refine wpAny_mono (hs ea pins s7 _ _ (D.gone i) I8 (hth ea C rfl he2)) (fun fl8 s8 q8=>?_) fun _ _ z=>z.elim
  cases fl8 with
  | next =>
   obtain ⟨σ',H',J,q⟩:=q8
   exact Z2 (J.ofH I.ok) hN hi hl fun s9 J9=>⟨_,H',J9,q⟩
  | brk =>
   obtain ⟨σ',H',J,q⟩:=q8
   exact Z2 (J.ofH I.ok) hN hi hl fun s9 J9=>⟨_,H',J9,q⟩
  | cont =>
   obtain ⟨σ',H',J,q⟩:=q8
   exact Z2 (J.ofH I.ok) hN hi hl fun s9 J9=>⟨_,H',J9,q⟩
  | ret u =>
   obtain ⟨v,σ',H',J,r,q⟩:=q8
   exact Z2 (J.ofH I.ok) hN hi hl fun s9 J9=>⟨v,_,H',J9,r,q⟩
end
end L2
namespace L2
open PySem PySem.Spec PyProof.Rows
theorem aB9 {K:PySem.W.Frag} {C fI:Addr} (q:T3 K C fI = true) (sa:PySem.W.findIn K (.ref C) "__setattr__" = some (some (.builtin "object.__setattr__"))):ExcN K C:=by
 have key:∃ cd,PySem.W.clsIn K C = some cd ∧ M9 cd.mro = true ∧ cd.hasDict = true:=by
  unfold T3 at q
  split at q
  ·rename_i dd cd sl ho
   split at q
   ·rename_i C' bm k0 k1 k2 k3 n k5 hm hs
    simp only [Bool.and_eq_true,beq_iff_eq,Bool.not_eq_true'] at q
    obtain ⟨⟨⟨⟨⟨⟨⟨rfl,rfl⟩,hdel⟩,hdc⟩,ht⟩,hok⟩,hni⟩,hrf⟩:=q
    refine ⟨cd,?_,?_,hdc⟩
    ·unfold PySem.W.clsIn
     rw [ho]
    ·rw [hm]
     exact hrf
   ·cases q
  ·cases q
 refine ⟨key,sa,?_⟩
 obtain ⟨cd,h1,_,h2⟩:=key
 unfold PySem.W.hasDictIn
 rw [h1]
 exact h2
end L2
namespace L2
open PySem PySem.Spec PyProof.Rows
theorem Room.units9 {k:Nat} {A:Around} (r:Room k A):A.units + 8 < cLine:=by have:=r.un; lia
end L2
namespace L2
open PySem PySem.Spec PyProof.Rows
structure Hinted (prog:Program) (w:World) (T:String) (I:Addr) (wr:List Addr) (G:Array GenState → Array GenState → Prop) (n:Nat) (St:Nat → Shared → Prop):Prop where
 ty:∀ i s,St i s → s.TypeIs (.ref I) T
 l:(Value.type T == Value.type "list") = false
 t:(Value.type T == Value.type "tuple") = false
 fin:∀ (B:Around) (s:Shared) (Q:Option Value → Shared → Prop) (E:Value → Shared → Prop),B.handled = none → St n s → (∀ s',Moved wr G s s' → (∃ o,s'.heap.get? I = some o) → Q none s') → wpAny (model prog w) B (pyNext (.ref I)) Q E s
 hint:∀ (B:Around) (s:Shared) (Q:Bool → Shared → Prop) (E:Value → Shared → Prop),St 0 s → (∀ b tk,s.toks ≤ tk → Q b { s with toks:=tk }) → wpAny (model prog w) B (Builtin.List.listLengthHint (.ref I)) Q E s
section
variable {prog:Program} {w:World} {A:Around} {s:Shared} {R:Result → Shared → Prop} {T:String}
variable {I:Addr} {fp wr:List Addr} {G:Array GenState → Array GenState → Prop} {n:Nat} {P:Nat → Value → Prop} {St:Nat → Shared → Prop}
theorem a97 (W:WalksS prog w A.in1 I fp wr G n P St) (hh:A.handled = none) (hT:Hinted prog w T I wr G n St) (hn:n ≤ sizeLine) (S:Addr) (hSf:S ∉ fp) (res:Value) :
  ∀ (k i:Nat) (s:Shared) (acc:Array Value) (c:Nat),n - i = k → i ≤ n → St i s → s.heap.get? S = some { cls:=.type "list",dict:=none,data:=.seq acc c,slots:=#[] } → ItemsOf P acc i →
  (∀ s' acc' c',Moved (S :: wr) G s s' → (∃ o,s'.heap.get? I = some o) → s'.heap.get? S = some { cls:=.type "list",dict:=none,data:=.seq acc' c',slots:=#[] } → ItemsOf P acc' n → R (.ok (.ret res)) s') →
  codeAny (model prog w) A (.builtin "list.extend.loop" ⟨[.ref S,.ref I,res],[]⟩) R s:=by
 have hSw:S ∉ wr:=fun z=>hSf (W.sub _ z)
 have sub:∀ b ∈ wr,b ∈ S :: wr:=fun b hb=>List.mem_cons_of_mem _ hb
 intro k
 induction k with
 | zero =>
  intro i s acc c hk hi st g hacc fin
  obtain rfl:i = n:=by lia
  refine codeAny_builtin PySem.F.entry_extend_loop ?_
  rw [Around.under_plainId PySem.F.plain_extend_loop _]
  show wpAny _ A.in1 (pyNext (.ref I) >>= _) _ _ s
  refine wpAny_bind (hT.fin _ s _ _ hh st fun s' m al=>?_)
  exact wpAny_pure (fin s' acc c (m.mono sub) al (m.heap S _ hSw g) hacc)
 | succ k ih =>
  intro i s acc c hk hi st g hacc fin
  have lt:i < n:=by lia
  refine codeAny_builtin PySem.F.entry_extend_loop ?_
  rw [Around.under_plainId PySem.F.plain_extend_loop _]
  show wpAny _ A.in1 (pyNext (.ref I) >>= _) _ _ s
  refine wpAny_bind (W.item i s _ _ lt st fun v s' pv st' m=>?_)
  have g':=m.heap S _ hSw g
  show wpAny _ A.in1 (updateSeq S (·.push v) >>= _) _ _ _
  refine wpAny_bind ?_
  refine wpAny_updateSeq g' rfl (wpAny_pure ⟨plainId_quiet PySem.F.plain_extend_loop _,ih (i + 1) _ (acc.push v) _ (by lia) lt (W.frame _ s' _ s'.toks st' (Nat.le_refl _) fun b hb o e=>?_) (Heap.get?_update_self _ g' rfl) (hacc.push pv) fun s'' acc' c' m2 al g2 hacc'=>?_⟩)
   (by rw [hacc.1]; lia) (by show (acc.push v).size ≤ sizeLine + 1; rw [Array.size_push,hacc.1]; lia)
  ·exact (Heap.get?_update_other _ _ (fun z:S = b=>hSf (by rw [z]; exact hb))).trans e
  ·refine fin s'' acc' c' (Moved.trans W.gtrans ((m.mono sub).then_heap (Nat.le_refl _) fun b o hb e=>?_) m2) al g2 hacc'
   exact (Heap.get?_update_other _ _ (fun z:S = b=>hb (by rw [z]; exact List.mem_cons_self))).trans e
theorem aO4 (W:WalksS prog w A.in1 I fp wr G n P St) (hh:A.handled = none) (hT:Hinted prog w T I wr G n St) (S:Addr) (res:Value) (c₀:Nat) (hst:St 0 s) (hSf:S ∉ fp) (hI:I ∈ fp) (hS:s.heap.get? S = some { cls:=.type "list",data:=.seq #[] c₀ })
  (hR:∀ s' acc' c',Moved (S :: wr) G s s' → (∃ o,s'.heap.get? I = some o) → s'.heap.get? S = some { cls:=.type "list",dict:=none,data:=.seq acc' c',slots:=#[] } → ItemsOf P acc' n → R (.ok (.ret res)) s') (hn:n ≤ sizeLine) :
  wpAny (model prog w) A.in1 (Builtin.List.listExtendWith (.ref S) (.ref I) res)
   (fun fin s'=>match fin with | .done f=>R (.ok f) s' | .again c'=>c'.quiet = true ∧ codeAny (model prog w) A c' R s') (fun e s'=>R (.error e) s') s:=by
 have hSI:S ≠ I:=fun e=>hSf (e ▸ hI)
 unfold Builtin.List.listExtendWith
 refine wpAny_bind (wpAny_typeOf (hT.ty 0 _ hst) ?_)
 have h1:Builtin.List.listSameRef (.ref S) (.ref I) = false:=by simp [Builtin.List.listSameRef,hSI]
 simp only [h1,hT.l,hT.t,Bool.or_false,Bool.false_eq_true,if_false]
 refine wpAny_bind (W.self 0 _ _ _ hst ?_)
 refine wpAny_bind (wpAny_holding (hT.hint _ _ _ _ hst fun b tk htk=>?_))
 have st1:St 0 { s with toks:=tk }:=W.frame 0 s s.heap tk hst htk fun b _ o e=>e
 have go:∀ (h1:Heap) (acc:Nat),(∀ b o,b ≠ S → s.heap.get? b = some o → h1.get? b = some o) → h1.get? S = some { cls:=.type "list",data:=.seq #[] acc } → wpAny (model prog w) A.in1 (again (.builtin "list.extend.loop" ⟨[.ref S,.ref I,res],[]⟩))
   (fun fin s'=>match fin with | .done f=>R (.ok f) s' | .again c'=>c'.quiet = true ∧ codeAny (model prog w) A c' R s') (fun e s'=>R (.error e) s') { s with heap:=h1,toks:=tk }:=fun h1 acc oth g=>by
  refine wpAny_pure ⟨plainId_quiet PySem.F.plain_extend_loop _,a97 W hh hT hn _ hSf _ n 0 _ _ _ rfl (Nat.zero_le _) (W.frame 0 { s with toks:=tk } h1 tk st1 (Nat.le_refl _) fun b hb o e=>oth b o (fun z=>hSf (z ▸ hb)) e) g (ItemsOf.nil P) fun s' acc' c' hm al hS' hacc=>?_⟩
  exact hR s' acc' c' (Moved.trans W.gtrans ((Moved.refl W.grefl).then_heap htk fun b o hb e=>oth b o (fun z=>hb (z ▸ List.mem_cons_self)) e) hm) al hS' hacc
 split
 ·refine wpAny_bind (wpAny_rule (wpAny_bind ?_))
  show wpAny _ A.in1 (updateSeq S (·.push .none) >>= fun _=>updateSeq S (·.pop)) _ _ _
  refine wpAny_bind (wpAny_updateSeq hS rfl ?_)
  have g2:=Heap.get?_update_self (Obj.mapSeq (·.push Value.none)) hS rfl
  refine wpAny_updateSeq (hz:=by seq_fits) g2 rfl ?_
  have g3:=Heap.get?_update_self (Obj.mapSeq (·.pop)) g2 rfl
  exact go _ _ (fun b o hb e=>(Heap.get?_update_other _ _ (Ne.symm hb)).trans ((Heap.get?_update_other _ _ (Ne.symm hb)).trans e)) g3
 ·exact go s.heap c₀ (fun b o _ e=>e) hS
theorem ao3 (W:WalksS prog w A.in1 I fp wr G n P St) (hh:A.handled = none) (hT:Hinted prog w T I wr G n St) (S:Addr) (hst:St 0 s) (hSf:S ∉ fp) (hI:I ∈ fp) (hS:s.heap.get? S = some { cls:=.type "list",data:=.seq #[] })
  (hR:∀ s' acc' c',Moved (S :: wr) G s s' → (∃ o,s'.heap.get? I = some o) → s'.heap.get? S = some { cls:=.type "list",dict:=none,data:=.seq acc' c',slots:=#[] } → ItemsOf P acc' n → R (.ok (.ret .none)) s') (hn:n ≤ sizeLine) :
  wpAny (model prog w) A.in1 (Builtin.«list.__init__» ⟨[.ref S,.ref I],[]⟩)
   (fun fin s'=>match fin with | .done f=>R (.ok f) s' | .again c'=>c'.quiet = true ∧ codeAny (model prog w) A c' R s') (fun e s'=>R (.error e) s') s:=by
 show wpAny _ A.in1 (do let old ← Builtin.List.listItems (.ref S); Builtin.List.listUpdate (.ref S) (fun _=>#[]); letGo old.toList.reverse; Builtin.List.listExtendWith (.ref S) (.ref I) .none) _ _ s
 refine wpAny_bind ?_
 unfold Builtin.List.listItems
 refine wpAny_bind (wpAny_seqItems hS rfl (wpAny_pure ?_))
 show wpAny _ A.in1 (updateSeq S (fun _=>#[]) >>= fun _=>letGo (#[]:Array Value).toList.reverse >>= fun _=>Builtin.List.listExtendWith (.ref S) (.ref I) .none) _ _ s
 refine wpAny_bind (wpAny_updateSeq hS rfl ?_)
 have g2:=Heap.get?_update_self (Obj.mapSeq (fun _=>(#[]:Array Value))) hS rfl
 have oth:∀ b o,b ≠ S → s.heap.get? b = some o → (s.heap.update S (Obj.mapSeq (fun _=>(#[]:Array Value)))).get? b = some o:=fun b o hb e=>(Heap.get?_update_other _ _ (Ne.symm hb)).trans e
 refine wpAny_bind (wpAny_letGo ?_)
 refine aO4 (hn:=hn) W hh hT S .none _ (W.frame 0 s _ s.toks hst (Nat.le_refl _) fun b hb o e=>oth b o (fun z=>hSf (z ▸ hb)) e) hSf hI g2 fun s' acc' c' hm al hS' hacc=>?_
 exact hR s' acc' c' (Moved.trans W.gtrans ((Moved.refl W.grefl).then_heap (Nat.le_refl _) fun b o hb e=>oth b o (fun z=>hb (z ▸ List.mem_cons_self)) e) hm) al hS' hacc
end
section
variable {prog:Program} {w:World} {A:Around} {E:Value → Shared → Prop} {s:Shared} {T:String}
variable {I:Addr} {fp wr:List Addr} {G:Array GenState → Array GenState → Prop} {n:Nat} {P:Nat → Value → Prop} {St:Nat → Shared → Prop}
theorem aq2 {Q:Value → Shared → Prop} (W:WalksS prog w A.in1.in1 I fp wr G n P St) (hh:A.handled = none) (hT:Hinted prog w T I wr G n St) (hst:St 0 s) (hfp:∀ b ∈ fp,b < s.heap.objs.size) (hI:I ∈ fp)
  (hQ:∀ s' acc' c',Moved (s.heap.objs.size :: wr) G { s with heap:=s.heap.push { cls:=.type "list",data:=.seq #[] } } s' → (∃ o,s'.heap.get? I = some o) →
   s'.heap.get? s.heap.objs.size = some { cls:=.type "list",dict:=none,data:=.seq acc' c',slots:=#[] } → ItemsOf P acc' n → Q (.ref s.heap.objs.size) s') (hn:n ≤ sizeLine) :
  wpAny (model prog w) A (call (.type "list") [.ref I]) Q E s:=by
 have hSf:s.heap.objs.size ∉ fp:=fun hm=>Nat.lt_irrefl _ (hfp _ hm)
 refine callType_codes (Q₁:=fun obj s₁=>obj = .ref s.heap.objs.size ∧ s₁ = { s with heap:=s.heap.push { cls:=.type "list",data:=.seq #[] } }) PySem.F.called_list (PySem.F.typeCall_list_1 _) PySem.F.entry_list_init
  (code_list_new _ ⟨rfl,rfl⟩) fun obj s₁ h₁=>?_
 obtain ⟨rfl,rfl⟩:=h₁
 have hS:(s.heap.push { cls:=.type "list",data:=.seq #[] }).get? s.heap.objs.size = some { cls:=.type "list",data:=.seq #[] }:=Heap.get?_push_size _ rfl
 refine ⟨⟨_,hS,rfl⟩,PySem.F.args_list_init_2 _ _,ao3 (hn:=hn) W hh hT _ (W.frame 0 s _ s.toks hst (Nat.le_refl _) fun b _ o e=>Heap.get?_push_of_some _ e) hSf hI hS fun s' acc' c' hm al hS' hacc=>?_⟩
 exact ⟨rfl,hQ s' acc' c' hm al hS' hacc⟩
end
theorem aG2 {items acc:Array Value} (h:ItemsOf (fun i v=>items[items.size - 1 - i]? = some v) acc items.size):acc.toList = items.toList.reverse:=by
 apply List.ext_getElem
 ·rw [Array.length_toList,h.1,List.length_reverse,Array.length_toList]
 ·intro i h1 h2
  have hi:i < acc.size:=by simpa using h1
  have this:items[items.size - 1 - i]? = some acc[i]:=h.2 i acc[i] (Array.getElem?_eq_getElem hi)
  rw [Array.getElem_toList,List.getElem_reverse,Array.getElem_toList]
  simp only [Array.length_toList]
  rw [Array.getElem?_eq_getElem (by have:=h.1; lia)] at this
  exact (Option.some.inj this).symm
section
variable {X:Cx}
def Y2:HO:=.ext fun _=>True
theorem az4 {s s':Shared} (eg:s'.gens = s.gens) (ed:s'.drawn = s.drawn) (eo:s'.os = s.os):s' = { s with heap:=s'.heap,toks:=s'.toks }:=by
 obtain ⟨h0,g0,d0,t0,o0⟩:=s'
 simp only at eg ed eo
 subst eg ed eo
 rfl
theorem au7:∀ {xs:List V} {us:List Value},j9 xs us → j9 xs.reverse us.reverse
 | _,_,.nil=>.nil
 | _,_,.cons r t=>by
  rw [List.reverse_cons,List.reverse_cons]
  exact (au7 t).append (.cons r .nil)
end
end L2
namespace L2
open PySem PySem.Spec PyProof.Rows
theorem aA0:typeLookup (.type "list_reverseiterator") "__len__" = pure none:=by rw [typeLookup_type,builtinLookup_eq_fast]; kernel_rfl
theorem ae9:Slot "list_reverseiterator" "__length_hint__" "list_reverseiterator.__length_hint__" :=
 .of (owner:="list_reverseiterator") (n:="__length_hint__") (by rw [typeLookup_type,builtinLookup_eq_fast]; kernel_rfl)
  (by decide +kernel) (by decide +kernel) (by decide +kernel)
  (by first | exact .inl (by decide +kernel) | exact .inr (by decide +kernel)) (by rw [isSubtype_type]; kernel_rfl)
theorem ab2:splitId "list_reverseiterator.__length_hint__" = some ("list_reverseiterator","__length_hint__"):=by kernel_rfl
theorem ak3:isSubtype (.type "list_reverseiterator") (.type "list_reverseiterator") = pure true:=by rw [isSubtype_type]; kernel_rfl
section
variable {prog:Program} {w:World} {A:Around} {E:Value → Shared → Prop} {s:Shared} {I l:Addr} {items:Array Value}
theorem aU5 {Q:Option Value → Shared → Prop} (hh:A.handled = none) (hit:s.heap.IsRevIter I l (-1))
  (hQ:∀ h',(∀ b ob,s.heap.get? b = some ob → h'.get? b = some ob) → Q none { s with heap:=h' }):wpAny (model prog w) A (pyNext (.ref I)) Q E s:=by
 obtain ⟨o,ho,hc,hd⟩:=id hit
 unfold pyNext
 refine wpAny_bind (wpAny_attempt (wpAny_callSpecial?_slot (name:=Str.ofString "__next__") hit.typeIs PySem.F.slot_lri_next
  (wpAny_call_entry PySem.F.slot_lri_next hit.typeIs PySem.F.entry_lri_next ?_ (PySem.F.args_lri_next_1 _))))
 unfold Builtin.«list_reverseiterator.__next__»
 refine wpAny_bind (wpAny_of_eq (a:=(Value.ref I,[])) rfl ?_)
 try dsimp only
 refine wpAny_bind (wpAny_field ho hd (x:=rawInt (-1)) rfl ?_)
 show wpAny _ _ (if (-1:Int) < 0 then _ else _) _ _ s
 rw [if_pos (by decide)]
 refine wpAny_bind (wpAny_rule ?_)
 refine wpAny_bind ?_
 show wpAny _ _ (newExc (.type "StopIteration") [] >>= fun e=>raiseNew e) _ _ _
 exact wpAny_mono (W3 (Q:=Q) (E:=E) hh fun h' kp=>hQ h' kp) (fun _ _ z=>False.elim z) fun e s' z=>z
theorem aM8 {Q:Bool → Shared → Prop} (hit:s.heap.IsRevIter I l ((items.size:Int) - 1)) (hl:s.heap.IsList l items) (hz:items.size ≤ sizeLine) (h:∀ b tk,s.toks ≤ tk → Q b { s with toks:=tk }) :
  wpAny (model prog w) A (Builtin.List.listLengthHint (.ref I)) Q E s:=by
 have hT:=hit.typeIs
 unfold Builtin.List.listLengthHint
 refine wpAny_bind (wpAny_specialOf hT aA0 ?_)
 try dsimp only
 show wpAny _ _ (specialOf (.ref I) "__length_hint__" >>= _) _ _ s
 refine wpAny_bind (wpAny_specialOf hT ae9.lookup ?_)
 try dsimp only
 simp only [ab2]
 refine wpAny_bind (wpAny_isInstance hT ak3 ?_)
 simp only [Bool.not_true,Bool.false_eq_true,if_false]
 split
 ·exact wpAny_pure (h _ s.toks (Nat.le_refl _))
 ·rename_i hs
  exact absurd (by decide) hs
end
section
variable {X:Cx}
def ai8 (l p:Addr) (n:Nat):HO:=.ext fun h=>h.IsRevIter l p ((n:Int) - 1)
def a89 (K:PySem.W.Frag):List V → Hp → VK → Prop:=fun xs H Q=>∃ (p:Addr) (ys:List V),xs = [.ref p] ∧ SqL K H p ys ∧ ∀ l,H l = none → Q (.ref l) (upd H l (ai8 l p ys.length))
theorem Z1 (K:PySem.W.Frag) (h:X.K = K:=by rfl):y7 X (.type "reversed") (a89 K):=by
 subst h
 intro pins s σ H xs us Q I r h
 obtain ⟨p,ys,rfl,hq,q⟩:=h
 obtain ⟨u,rfl,rx⟩:=K4 r
 cases rx
 obtain ⟨its,r',pl,hz⟩:=I.list hq
 have hl:=r'.length
 refine call_reversed_list pl.isList ?_
 have e:(s.heap.push (revObj p (((its.toArray.size:Nat):Int) - 1))).get? s.heap.objs.size = some (revObj p ((ys.length:Int) - 1)):=by
  rw [List.size_toArray,← hl]
  exact Heap.get?_push_size _ rfl
 have new:m5 X.prog X.w (upd H s.heap.objs.size (ai8 s.heap.objs.size p ys.length)) (s.heap.push (revObj p (((its.toArray.size:Nat):Int) - 1))) s.heap.objs.size (ai8 s.heap.objs.size p ys.length) :=
  ⟨⟨_,e,rfl,rfl⟩,⟨_,e⟩,fun h1 h2 a b=>a.at b⟩
 exact ⟨.ref s.heap.objs.size,_,I.laid (t':=s.toks) (fun b o e=>Heap.get?_push_of_some _ e) (Nat.le_refl _) new,rfl,q _ (I.hok.fresh (Nat.le_refl _))⟩
theorem ax3 {prog:Program} {w:World} {l I:Addr} {items:Array Value} (hz:items.size ≤ sizeLine):Hinted prog w "list_reverseiterator" I [I] (fun a b=>b = a) items.size (fun k s=>k ≤ items.size ∧ s.heap.IsRevIter I l ((items.size:Int) - 1 - (k:Nat)) ∧ s.heap.IsList l items) where
 ty:=fun i s st=>st.2.1.typeIs
 l:=by decide
 t:=by decide
 fin:=fun B s Q E hB st hQ=>by
  have st2:=st.2.1
  rw [show ((items.size:Nat):Int) - 1 - (items.size:Nat) = (-1:Int) by lia] at st2
  obtain ⟨o,ho,_⟩:=id st2
  exact aU5 hB st2 fun h' kp=>hQ _ ⟨fun b ob hb e=>kp b ob e,rfl,rfl,rfl,Nat.le_refl _⟩ ⟨_,kp _ _ ho⟩
 hint:=fun B s Q E st h=>aM8 (items:=items) (by simpa using st.2.1) st.2.2 hz h
def aS3 (K:PySem.W.Frag) (mk:List V → HO):List V → Hp → VK → Prop:=fun xs H Q=>∃ (l p:Addr) (ys:List V),xs = [.ref l] ∧ H l = some (ai8 l p ys.length) ∧ SqL K H p ys ∧ p ≠ l ∧ ∀ t,H t = none → Q (.ref t) (upd (upd H l Y2) t (mk ys.reverse))
theorem a68 {pins:List (Addr × Obj)} {σ:St} {H:Hp} {s:Shared} {l p:Addr} {n tk:Nat} {h':Heap} (I:Inv X pins σ H s) (e:H l = some (ai8 l p n)) (kp:∀ b o,b ≠ l → s.heap.get? b = some o → h'.get? b = some o) (he:∃ o,h'.get? l = some o) :
  Inv X pins σ (upd H l Y2) { s with heap:=h',toks:=tk } :=
 I.write (x:=l) (e:=l) (by rw [e]; exact True.intro) (.inl rfl) kp he ⟨True.intro,he,fun _ _ a _=>a⟩
theorem Y4 (K:PySem.W.Frag) (hc:X.calm = true) (h:X.K = K:=by rfl):y7 X (.type "list") (aS3 K .lst):=by
 subst h
 intro pins s σ H xs us Q I r h
 obtain ⟨l,p,ys,rfl,e,hq,hne,q⟩:=h
 obtain ⟨u,rfl,rx⟩:=K4 r
 cases rx
 obtain ⟨its,r',pl,hz⟩:=I.list hq
 have hl:=r'.length
 have hh:=I.ok.hd hc
 have g:s.heap.IsRevIter l p ((ys.length:Int) - 1):=(show m5 X.prog X.w H s.heap l (ai8 l p ys.length) from I.hok l _ e).1
 have hz':its.toArray.size ≤ sizeLine:=by rw [List.size_toArray]; lia
 refine aq2 ((Walks.listRev (A:=X.A.in1.in1) (l:=p) (I:=l) (items:=its.toArray) hh hne).toS) hh (ax3 (l:=p) (I:=l) (items:=its.toArray) hz') ⟨Nat.zero_le _,?_,pl.isList⟩ (fun b hb=>?_) (by simp) (fun s' acc c m al gS hacc=>?_) hz'
 ·rw [List.size_toArray,← hl]
  simpa using g
 ·simp only [List.mem_cons,List.not_mem_nil,or_false] at hb
  rcases hb with rfl | rfl
  ·obtain ⟨o,e1,_⟩:=g
   exact Heap.lt_size e1
  ·obtain ⟨o,e1,_⟩:=pl.isList
   exact Heap.lt_size e1
 ·have eacc:acc.toList = its.reverse:=by simpa using aG2 hacc
  have kp:∀ b o,b ≠ l → s.heap.get? b = some o → s'.heap.get? b = some o:=fun b o hb z=>m.heap b o (by
   simp only [List.mem_cons,List.not_mem_nil,or_false,not_or]
   exact ⟨Nat.ne_of_lt (Heap.lt_size z),hb⟩) (Heap.get?_push_of_some _ z)
  have I1:Inv X pins σ (upd H l Y2) { s with heap:=s'.heap,toks:=s'.toks }:=a68 I e kp al
  rw [← az4 (show s'.gens = s.gens from m.gens) m.drawn m.os] at I1
  have hn0:H s.heap.objs.size = none:=I.hok.fresh (Nat.le_refl _)
  have hnl:s.heap.objs.size ≠ l:=fun z=>by rw [z,e] at hn0; cases hn0
  have hn:(upd H l Y2) s.heap.objs.size = none:=by rw [d9 hnl]; exact hn0
  have ea:acc = its.reverse.toArray:=by rw [← eacc]
  have I2:Inv X pins σ (upd (upd H l Y2) s.heap.objs.size (.lst ys.reverse)) s' :=
   I.call' (s':=s') (ch:=[]) m.os (Un.track (Un.write (x:=l) (e:=l) (by rw [e]; exact True.intro) (.inl rfl) kp al) (Nat.le_refl _) hn0) (HOk.track I1.hok hn ⟨by rw [List.length_reverse]; exact hz,its.reverse,c,au7 r',by rw [← ea]; exact gS⟩) (by rw [show s'.gens = s.gens from m.gens]; exact I.bare) (fun b z=>nomatch z)
  exact ⟨.ref s.heap.objs.size,_,I2,rfl,q _ hn0⟩
end
end L2
namespace L2
open PySem PySem.Spec PyProof.Rows
def aq0 (K:PySem.W.Frag):Hp → V → Int × List Int × Int → Prop:=fun H x d=>∃ a e,x = .ref a ∧ SqT K H a [.int d.1,.ref e,.int d.2.2] ∧ SqT K H e (d.2.1.map V.int)
section
variable {X:Cx}
def eqC (d d':Int × List Int × Int) (j:Nat):Bool:=match j with
 | 0=>decide (d.1 = d'.1)
 | 1=>decide (d.2.1 = d'.2.1)
 | _=>decide (d.2.2 = d'.2.2)
theorem aB1 (d d':Int × List Int × Int):((List.range 3).all (eqC d d')) = decide (d = d'):=by
 obtain ⟨a,b,c⟩:=d
 obtain ⟨a',b',c'⟩:=d'
 rw [Bool.eq_iff_iff,decide_eq_true_iff,List.all_eq_true]
 constructor
 ·intro q
  have h0:=of_decide_eq_true (q 0 (by decide))
  have h1:=of_decide_eq_true (q 1 (by decide))
  have h2:=of_decide_eq_true (q 2 (by decide))
  simp only at h0 h1 h2
  rw [h0,h1,h2]
 ·intro z i hi
  injection z with z1 z2
  injection z2 with z2 z3
  subst z1 z2 z3
  match i with
  | 0=>exact decide_eq_true rfl
  | 1=>exact decide_eq_true rfl
  | _ + 2=>exact decide_eq_true rfl
def ba5 (K:PySem.W.Frag):R2:=fun x y H Q=>∃ d d',aq0 K H x d ∧ aq0 K H y d' ∧ Q (.bl (!decide (d = d'))) H
theorem aV3 (K:PySem.W.Frag) (hu:X.A.units + 2 < cLine) (h:X.K = K:=by rfl):OpR X (compareOp .NotEq) (ba5 K):=by
 subst h
 intro pins s σ H x y v u Q I rx ry h
 obtain ⟨d,d',⟨a,e,rfl,ha,he⟩,⟨b,e',rfl,hb,he'⟩,q⟩:=h
 cases rx
 cases ry
 obtain ⟨us,r1,p1,_⟩:=I.tuple ha
 obtain ⟨vs,r2,p2,_⟩:=I.tuple hb
 cases r1 with
 | cons r10 r1 =>
 cases r1 with
 | cons r11 r1 =>
 cases r1 with
 | cons r12 r1 =>
 cases r1
 cases r2 with
 | cons r20 r2 =>
 cases r2 with
 | cons r21 r2 =>
 cases r2 with
 | cons r22 r2 =>
 cases r2
 have:=SeqAt.RcNeAt.tuples (A:=X.A) (e:=eqC d d') p1 p2 (by lia) (fun j h1 h2=>by
  match j,h1,h2 with
  | 0,_,_=>exact S8.eq H _ _ d.1 d'.1 rfl rfl X.A.in1 pins s σ _ _ I r10 r20 (by show X.A.units + 1 + 0 < cLine; lia)
  | 1,_,_=>exact (av4 S8).eq H _ _ d.2.1 d'.2.1 ⟨e,_,rfl,he,A9 _⟩ ⟨e',_,rfl,he',A9 _⟩ X.A.in1 pins s σ _ _ I r11 r21 (by show X.A.units + 1 + 1 < cLine; lia)
  | 2,_,_=>exact S8.eq H _ _ d.2.2 d'.2.2 rfl rfl X.A.in1 pins s σ _ _ I r12 r22 (by show X.A.units + 1 + 0 < cLine; lia))
 refine this X.prog X.w X.xe _ ?_
 have e3:((List.range 3).all (eqC d d') && (3 == 3)) = decide (d = d'):=by rw [aB1]; simp
 exact ⟨.bl _,H,I,rfl,by rw [← e3] at q; exact q⟩
end
end L2
namespace L2
open PySem PySem.Spec PyProof.Rows PyProof
section
variable {X:Cx}
theorem a40 (K:PySem.W.Frag) (h:X.K = K:=by rfl):EqRep X 2 (aq0 K) where
 eq:=fun H x y d d' hx hy A pins s σ u v I ru rv hu=>by
  subst h
  obtain ⟨a,e,rfl,ha,he⟩:=hx
  obtain ⟨b,e',rfl,hb,he'⟩:=hy
  cases ru
  cases rv
  by_cases hab:a = b
  ·subst hab
   have q1:=I.tuple_inj ha hb
   injection q1 with q2 q3
   injection q3 with q4 q5
   injection q5 with q6 q7
   injection q2 with q2
   injection q4 with q4
   injection q6 with q6
   subst q4
   have q8:=I.tuple_inj he he'
   have q9:d.2.1 = d'.2.1:=List.map_inj_right (fun x y z=>by injection z) |>.mp q8
   have:d = d':=by
    obtain ⟨a1,a2,a3⟩:=d
    obtain ⟨b1,b2,b3⟩:=d'
    simp only at q2 q6 q9
    rw [q2,q6,q9]
   rw [this,decide_eq_true rfl]
   exact SeqAt.EqAt.same _
  ·obtain ⟨us,r1,p1,_⟩:=I.tuple ha
   obtain ⟨vs,r2,p2,_⟩:=I.tuple hb
   cases r1 with
   | cons r10 r1 =>
   cases r1 with
   | cons r11 r1 =>
   cases r1 with
   | cons r12 r1 =>
   cases r1
   cases r2 with
   | cons r20 r2 =>
   cases r2 with
   | cons r21 r2 =>
   cases r2 with
   | cons r22 r2 =>
   cases r2
   have:=SeqAt.RcAt.tuples (A:=A) (e:=eqC d d') p1 p2 (by lia) (fun j h1 h2=>by
    match j,h1,h2 with
    | 0,_,_=>exact S8.eq H _ _ d.1 d'.1 rfl rfl A.in1 pins s σ _ _ I r10 r20 (by show A.units + 1 + 0 < cLine; lia)
    | 1,_,_=>exact (av4 S8).eq H _ _ d.2.1 d'.2.1 ⟨e,_,rfl,he,A9 _⟩ ⟨e',_,rfl,he',A9 _⟩ A.in1 pins s σ _ _ I r11 r21 (by show A.units + 1 + 1 < cLine; lia)
    | 2,_,_=>exact S8.eq H _ _ d.2.2 d'.2.2 rfl rfl A.in1 pins s σ _ _ I r12 r22 (by show A.units + 1 + 0 < cLine; lia))
   refine SeqAt.EqAt.of_refs hab ?_
   have e3:((List.range 3).all (eqC d d') && (3 == 3)) = decide (d = d'):=by rw [aB1]; simp
   rw [← e3]
   exact this
 fn:=fun pins s σ H x d d' I hx hy=>by
  subst h
  obtain ⟨a,e,rfl,ha,he⟩:=hx
  obtain ⟨b,e',q0,hb,he'⟩:=hy
  cases q0
  have q1:=I.tuple_inj ha hb
  injection q1 with q2 q3
  injection q3 with q4 q5
  injection q5 with q6 q7
  injection q2 with q2
  injection q4 with q4
  injection q6 with q6
  subst q4
  have q8:=I.tuple_inj he he'
  have q9:d.2.1 = d'.2.1:=List.map_inj_right (fun x y z=>by injection z) |>.mp q8
  obtain ⟨a1,a2,a3⟩:=d
  obtain ⟨b1,b2,b3⟩:=d'
  simp only at q2 q6 q9
  rw [q2,q6,q9]
end
end L2
namespace L2
open PySem PySem.Spec PyProof.Rows
section
variable {X:Cx}
theorem Q1:MtR X "list.pop" ax9:=aN0
end
end L2
namespace L2
open PySem PySem.Spec PyProof.Rows
section
variable {X:Cx}
def aJ5:V → Bool
 | .int _ | .bl _ | .non | .ref _=>true
 | _=>false
def aU0 (K:PySem.W.Frag):R2:=fun x y H Q=>∃ (a b:Addr) (xs:List V),x = .ref a ∧ y = .ref b ∧ SqL K H a (xs) ∧ SqL K H b xs ∧ xs.all aJ5 = true ∧ Q (.bl false) H
theorem aT2 {A:Around} {s:Shared} {x:V} {u v:Value} (h:aJ5 x = true) (ru:n5 x u) (rv:n5 x v):SeqAt.EqAt A s u v true:=by
 cases x with
 | int i =>
  obtain ⟨t,rfl⟩:=ru
  obtain ⟨t',rfl⟩:=rv
  have:=SeqAt.EqAt.int_int (A:=A) (s:=s) i t i t'
  rwa [beq_self_eq_true] at this
 | bl b=>cases ru; cases rv; exact SeqAt.EqAt.same _
 | non=>cases ru; cases rv; exact SeqAt.EqAt.same _
 | ref a=>cases ru; cases rv; exact SeqAt.EqAt.same _
 | _=>cases h
theorem aw4 (K:PySem.W.Frag) (hu:X.A.units < cLine) (h:X.K = K:=by rfl):OpR X (compareOp .NotEq) (aU0 K):=by
 subst h
 intro pins s σ H x y v u Q I rx ry h
 obtain ⟨a,b,xs,rfl,rfl,ha,hb,hr,q⟩:=h
 cases rx
 cases ry
 obtain ⟨us,r1,p1,_⟩:=I.list ha
 obtain ⟨vs,r2,p2,_⟩:=I.list hb
 have l1:=r1.length
 have l2:=r2.length
 refine SeqAt.RcNeAt.lists (e:=fun j=>true) p1.isList p2.isList (by simp only [List.size_toArray]; lia) (by lia) (fun j h1 h2=>?_) X.prog X.w X.xe _ ?_
 ·rw [List.size_toArray] at h1 h2
  have e1:xs[j]? = some (xs[j]'(by lia)):=List.getElem?_eq_getElem _
  obtain ⟨u,w1,s1⟩:=r1.get e1
  obtain ⟨v,w2,s2⟩:=r2.get e1
  have z1:us.toArray[j] = u:=by rw [List.getElem?_eq_getElem h1] at w1; simpa using w1
  have z2:vs.toArray[j] = v:=by rw [List.getElem?_eq_getElem h2] at w2; simpa using w2
  rw [z1,z2]
  exact aT2 (List.all_eq_true.mp hr _ (List.getElem_mem _)) s1 s2
 ·have:((List.range us.toArray.size).all fun _=>true) = true:=by simp
  rw [this]
  exact ⟨.bl false,H,I,rfl,q⟩
end
end L2
open PySem
namespace L2
variable {X:Cx}
end L2
namespace L2
open PySem PySem.Spec PyProof.Rows PyProof
section
variable {X:Cx}
def ak9 (K:PySem.W.Frag) (H:Hp) (x y:V):Prop:=∃ (a b:Addr) (z:Str) (l m:Addr),x = .ref a ∧ y = .ref b ∧ SqT K H a [.str z,.ref l] ∧ SqT K H b [.str z,.ref m] ∧ ((∃ ds,aK0 K (aq0 K) H (.ref l) ds ∧ aK0 K (aq0 K) H (.ref m) ds) ∨ ∃ ns:List Int,SqT K H l (ns.map V.int) ∧ SqT K H m (ns.map V.int))
theorem as4 {pins:List (Addr × Obj)} {σ:St} {H:Hp} {s:Shared} {A:Around} {l m:Addr} (I:Inv X pins σ H s) (hu:A.units + 5 < cLine) (h:(∃ ds,aK0 X.K (aq0 X.K) H (.ref l) ds ∧ aK0 X.K (aq0 X.K) H (.ref m) ds) ∨ ∃ ns:List Int,SqT X.K H l (ns.map V.int) ∧ SqT X.K H m (ns.map V.int)):SeqAt.EqAt A s (.ref l) (.ref m) true:=by
 rcases h with ⟨ds,h1,h2⟩ | ⟨ns,h1,h2⟩
 ·have:=(aZ8 (a40 X.K)).eq H (.ref l) (.ref m) ds ds h1 h2 A pins s σ (.ref l) (.ref m) I rfl rfl (by lia)
  rwa [decide_eq_true rfl] at this
 ·have:=(av4 S8).eq H (.ref l) (.ref m) ns ns ⟨l,_,rfl,h1,A9 _⟩ ⟨m,_,rfl,h2,A9 _⟩ A pins s σ (.ref l) (.ref m) I rfl rfl (by lia)
  rwa [decide_eq_true rfl] at this
theorem aG1 (K:PySem.W.Frag) (hu:X.A.units + 8 < cLine) (h:X.K = K:=by rfl):OpR X (compareOp .NotEq) (fun x y H Q=>ak9 K H x y ∧ Q (.bl false) H):=by
 subst h
 intro pins s σ H x y v u Q I rx ry h
 obtain ⟨⟨a,b,z,l,m,rfl,rfl,ha,hb,hd⟩,q⟩:=h
 cases rx
 cases ry
 obtain ⟨its,r1,p1,_⟩:=I.tuple ha
 obtain ⟨its2,r2,p2,_⟩:=I.tuple hb
 cases r1 with
 | cons r10 r1 =>
 cases r1 with
 | cons r11 r1 =>
 cases r1
 cases r2 with
 | cons r20 r2 =>
 cases r2 with
 | cons r21 r2 =>
 cases r2
 obtain ⟨t1,rfl⟩:=r10
 obtain ⟨t2,rfl⟩:=r20
 cases r11
 cases r21
 refine SeqAt.RcNeAt.tuples (A:=X.A) (e:=fun j=>true) p1 p2 (by lia) (fun j h1 h2=>?_) X.prog X.w X.xe _ ?_
 ·match j,h1,h2 with
  | 0,_,_ =>
   have:=SeqAt.EqAt.str_str (A:=X.A.in1) (s:=s) z t1 z t2
   rwa [beq_self_eq_true] at this
  | 1,_,_=>exact as4 (A:=X.A.in1) I (by show X.A.units + 1 + 5 < cLine; lia) hd
 ·exact ⟨.bl false,H,I,rfl,q⟩
theorem aG8 (K:PySem.W.Frag) (hu:X.A.units + 8 < cLine) (h:X.K = K:=by rfl):OpR X (compareOp .Eq) (fun x y H Q=>ak9 K H x y ∧ Q (.bl true) H):=by
 subst h
 intro pins s σ H x y v u Q I rx ry h
 obtain ⟨⟨a,b,z,l,m,rfl,rfl,ha,hb,hd⟩,q⟩:=h
 cases rx
 cases ry
 obtain ⟨its,r1,p1,_⟩:=I.tuple ha
 obtain ⟨its2,r2,p2,_⟩:=I.tuple hb
 cases r1 with
 | cons r10 r1 =>
 cases r1 with
 | cons r11 r1 =>
 cases r1
 cases r2 with
 | cons r20 r2 =>
 cases r2 with
 | cons r21 r2 =>
 cases r2
 obtain ⟨t1,rfl⟩:=r10
 obtain ⟨t2,rfl⟩:=r20
 cases r11
 cases r21
 refine SeqAt.RcAt.tuples (A:=X.A) (e:=fun j=>true) p1 p2 (by lia) (fun j h1 h2=>?_) X.prog X.w X.xe _ ?_
 ·match j,h1,h2 with
  | 0,_,_ =>
   have:=SeqAt.EqAt.str_str (A:=X.A.in1) (s:=s) z t1 z t2
   rwa [beq_self_eq_true] at this
  | 1,_,_=>exact as4 (A:=X.A.in1) I (by show X.A.units + 1 + 5 < cLine; lia) hd
 ·exact ⟨.bl true,H,I,rfl,q⟩
end
theorem az3 {prog:Program} {w:World} {knd:HeapKind prog w (List Key)} {d:Addr} (hd:(d == sysModules) = false) :
  MeetsIn prog w (Builtin.«dict.__len__» ⟨[.ref d],[]⟩) (fun _ R s=>∃ xs,s.heap.DictOfH knd d xs ∧ R (.ok (.ret (.int xs.length s.toks))) { s with toks:=s.toks + 1 }) :=
 .of_wp fun A R s ⟨kvs,hm,h⟩=>by
  obtain ⟨o,es,ep,ho,hc,hdat,hk,hp,hn⟩:=hm
  show wpAny _ _ (dictSize d >>= _) _ _ s
  unfold dictSize
  refine wpAny_bind (wpAny_bind (wpAny_dictEntries ho hdat (wpAny_pure ?_)))
  show wpAny _ _ (Builtin.Dict.pendingCount d >>= _) _ _ s
  refine wpAny_bind (wpAny_pendingCount_other hd ?_)
  refine wpAny_ret_mkInt ?_
  have:es.size = kvs.length:=size_of_entries hk
  rw [Nat.add_zero,this]; exact h
theorem ac1 {prog:Program} {w:World} {knd:HeapKind prog w (List Key)} {A:Around} {E:Value → Shared → Prop} {s:Shared} {d:Addr} {xs:List (List Key × Addr × Value)} {Q:Value → Shared → Prop} (hd:(d == sysModules) = false) (hm:s.heap.DictOfH knd d xs) (hfit:(xs.length:Int) < 2 ^ 63)
  (h:Q (.int xs.length (s.toks + 1)) { s with toks:=s.toks + 1 + 1 }):wpAny (model prog w) A (call (.builtin "len") [.ref d]) Q E s:=by
 refine Calls.call_function_entry kind_len plain_len entry_len (args_len1 _) ?_
 unfold Builtin.«len»
 refine wpAny_bind (m:=oneArg "len" _) (wpAny_pure ?_)
 refine wpAny_bind (m:=callSpecial? (.ref d) (Str.ofString "__len__")) (wpAny_callSpecial?_slot (name:=Str.ofString "__len__") hm.typeIs F.slot_dict_len
  (call_meetsIn F.slot_dict_len hm.typeIs F.entry_dict_len (F.args_dict_len_1 _) (az3 (knd:=knd) hd) ⟨xs,hm,?_⟩))
 show wpAny _ _ _ _ _ { s with toks:=s.toks + 1 }
 refine wpAny_bind (wpAny_holding (wpAny_pure ?_))
 refine wpAny_bind (wpAny_letGo ?_)
 show wpAny _ _ (if ((xs.length:Nat):Int) < 0 then _ else _) _ _ _
 rw [if_neg (by lia)]
 show wpAny _ _ (if ((xs.length:Nat):Int) ≥ 2 ^ 63 then _ else _) _ _ _
 rw [if_neg (by lia)]
 exact wpAny_bind (wpAny_mkInt (wpAny_pure ⟨_,rfl,h⟩))
theorem aw3 {X:Cx}:y7 X (.builtin "len") (fun xs H Q=>∃ a kvs,xs = [V.ref a] ∧ H a = some (.dT kvs) ∧ Q (.int kvs.length) H):=by
 intro pins s σ H xs us Q I r h
 obtain ⟨a,kvs,rfl,ha,q⟩:=h
 obtain ⟨u,rfl,ru⟩:=K4 r
 cases ru
 obtain ⟨z,hd,ys,rel,dd⟩:=aM2 I.hok ha
 have hl:kvs.length = ys.length:=Paired.length rel
 refine ac1 hd dd (by rw [← hl]; rw [sizeLine_eq] at z; lia) ?_
 exact ⟨.int kvs.length,H,I.tok _,⟨_,by rw [hl]⟩,q⟩
end L2
def PySem.W.Fast.tw5552029067485112915:Nat:=0
def PySem.W.Fast.tw17032798963548792696:Nat:=0
def PySem.W.Fast.tw5350623334918330885:Nat:=0
def PySem.W.Fast.tw523535723625556910:Nat:=0
def PySem.W.Fast.tw1806689914508942385:Nat:=0
def PySem.W.Fast.tw16908946328643149721:Nat:=0
def PySem.W.Fast.tw7796920323431088579:Nat:=0
def PySem.W.Fast.tw11036614619140472580:Nat:=0
def PySem.W.Fast.tw9670606910261863444:Nat:=0
def PySem.W.Fast.tw269875615385048398:Nat:=0
def PySem.W.Fast.tw9436182781635348935:Nat:=0
def PySem.W.Fast.tw14412367692322440405:Nat:=0
def PySem.W.Fast.tw8620408522887604028:Nat:=0
def PySem.W.Fast.tw2213444958882902695:Nat:=0
def PySem.W.Fast.tw17641967400944410692:Nat:=0
def PySem.W.Fast.tw17341102325827309679:Nat:=0
def PySem.W.Fast.tw7808677684211139310:Nat:=0
def PySem.W.Fast.tw9546360684031752528:Nat:=0
def PySem.W.Fast.tw5215069710124064799:Nat:=0
def PySem.W.Fast.tw859400305939317295:Nat:=0
def PySem.W.Fast.tw2845212700311702626:Nat:=0
def PySem.W.Fast.tw3053070295576397240:Nat:=0
def PySem.W.Fast.tw16910933035408225764:Nat:=0
def PySem.W.Fast.tw9861437043125104205:Nat:=0
def PySem.W.Fast.tw1724964434953013176:Nat:=0
def PySem.W.Fast.tw17875127511712592880:Nat:=0
def PySem.W.Fast.tw14677840477314906039:Nat:=0
def PySem.W.Fast.tw18379809855648616936:Nat:=0
def PySem.W.Fast.tw12910422718023262913:Nat:=0
def PySem.W.Fast.tw1617814669709934149:Nat:=0
def PySem.W.Fast.tw18134660586416151440:Nat:=0
def PySem.W.Fast.tw8937383546800404924:Nat:=0
def PySem.W.Fast.tw5862433982928997025:Nat:=0
def PySem.W.Fast.tw8442269658332167885:Nat:=0
def PySem.W.Fast.tw12994931893129713261:Nat:=0
def PySem.W.Fast.tw7007595592542272294:Nat:=0
def PySem.W.Fast.tw858665023073135604:Nat:=0
def PySem.W.Fast.tw15005431472852091574:Nat:=0
def PySem.W.Fast.tw13772819747644484299:Nat:=0
def PySem.W.Fast.tw13606616915949605206:Nat:=0
def PySem.W.Fast.tw16413478077014255302:Nat:=0
def PySem.W.Fast.tw2559276757912321066:Nat:=0
def PySem.W.Fast.tw17244986047354956607:Nat:=0
def PySem.W.Fast.tw10579941086705929617:Nat:=0
def PySem.W.Fast.tw2468500837578512072:Nat:=0
def PySem.W.Fast.tw17671585390042045296:Nat:=0
def PySem.W.Fast.tw14005585109313090357:Nat:=0
def PySem.W.Fast.tw10455613493054683787:Nat:=0
def PySem.W.Fast.tw7677448361666222392:Nat:=0
def PySem.W.Fast.tw12462996692303478883:Nat:=0
def PySem.W.Fast.tw4448890765952815942:Nat:=0
def PySem.W.Fast.tw2440985700823217003:Nat:=0
def PySem.W.Fast.tw14598963306348252481:Nat:=0
def PySem.W.Fast.tw7341481038926676449:Nat:=0
def PySem.W.Fast.tw8393069581583816423:Nat:=0
def PySem.W.Fast.tw3277955057255342800:Nat:=0
def PySem.W.Fast.tw18037951937700932650:Nat:=0
def PySem.W.Fast.tw8625136904368373856:Nat:=0
def PySem.W.Fast.tw18284067111251606626:Nat:=0
def PySem.W.Fast.tw12334775253754708175:Nat:=0
def PySem.W.Fast.tw5171149953014681494:Nat:=0
def PySem.W.Fast.tw9701144681329657601:Nat:=0
def PySem.W.Fast.tw3897246988180366081:Nat:=0
def PySem.W.Fast.tw11975019995850635306:Nat:=0
def PySem.W.Fast.tw9567603940098898399:Nat:=0
def PySem.W.Fast.tw13377410096267581934:Nat:=0
def PySem.W.Fast.tw11460712552881791207:Nat:=0
def PySem.W.Fast.tw10970034988311444611:Nat:=0
def PySem.W.Fast.tw3704909147279984775:Nat:=0
def PySem.W.Fast.tw17538851214262389086:Nat:=0
def PySem.W.Fast.tw15851383792474096111:Nat:=0
def PySem.W.Fast.tw5665263918291655207:Nat:=0
def PySem.W.Fast.tw5365340789640803505:Nat:=0
def PySem.W.Fast.tw604977558190672864:Nat:=0
def PySem.W.Fast.tw11338906476615842515:Nat:=0
def PySem.W.Fast.tw11941152187624047933:Nat:=0
def PySem.W.Fast.tw7846784006497984774:Nat:=0
def PySem.W.Fast.tw876253793966674644:Nat:=0
def PySem.W.Fast.tw6130282192043106163:Nat:=0
def PySem.W.Fast.tw1095349471879985713:Nat:=0
def PySem.W.Fast.tw1681949104386710339:Nat:=0
def PySem.W.Fast.tw9922803817788873768:Nat:=0
def PySem.W.Fast.tw13925004465372509726:Nat:=0
def PySem.W.Fast.tw14520595691669085813:Nat:=0
def PySem.W.Fast.tw13070004053361516980:Nat:=0
def PySem.W.Fast.tw6575504546934239220:Nat:=0
def PySem.W.Fast.tw16369121780767705098:Nat:=0
def PySem.W.Fast.tw8327049794932334579:Nat:=0
def PySem.W.Fast.tw9770351577444371911:Nat:=0
def PySem.W.Fast.tw18341450772663446157:Nat:=0
def PySem.W.Fast.tw13850174715872125927:Nat:=0
def PySem.W.Fast.tw16702586798729168895:Nat:=0
def PySem.W.Fast.tw2579279776688908452:Nat:=0
def PySem.W.Fast.tw3876256766122617254:Nat:=0
def PySem.W.Fast.tw17059456871577081680:Nat:=0
def PySem.W.Fast.tw8716652816314086783:Nat:=0
def PySem.W.Fast.tw9760993663517639805:Nat:=0
def PySem.W.Fast.tw9528854326522801594:Nat:=0
def PySem.W.Fast.tw2021814602812966557:Nat:=0
def PySem.W.Fast.tw3898830933161422529:Nat:=0
def PySem.W.Fast.tw9295001293621267680:Nat:=0
def PySem.W.Fast.tw6757561920836236252:Nat:=0
def PySem.W.Fast.tw706079598911978331:Nat:=0
def PySem.W.Fast.tw8855526589986148798:Nat:=0
def PySem.W.Fast.tw12930935647311271225:Nat:=0
def PySem.W.Fast.tw16323759065454883979:Nat:=0
def PySem.W.Fast.tw12161558880939573693:Nat:=0
def PySem.W.Fast.tw6071173345491591498:Nat:=0
def PySem.W.Fast.tw17994924918900455038:Nat:=0
def PySem.W.Fast.tw3620861475569299984:Nat:=0
def PySem.W.Fast.tw5018352423824312846:Nat:=0
def PySem.W.Fast.tw17040782488166956293:Nat:=0
def PySem.W.Fast.tw16758360841549668608:Nat:=0
def PySem.W.Fast.tw13172245646562614122:Nat:=0
def PySem.W.Fast.tw8337797021563002429:Nat:=0
def PySem.W.Fast.tw12652236953053973592:Nat:=0
def PySem.W.Fast.tw16904657086811356608:Nat:=0
def PySem.W.Fast.tw7312551009122363728:Nat:=0
def PySem.W.Fast.tw11464186872855173544:Nat:=0
def PySem.W.Fast.tw8075256830505895742:Nat:=0
def PySem.W.Fast.tw4512525940909523017:Nat:=0
def PySem.W.Fast.tw5276613057933126050:Nat:=0
def PySem.W.Fast.tw16981980829840702494:Nat:=0
def PySem.W.Fast.tw14498129546816288853:Nat:=0
def PySem.W.Fast.tw6598392938649662294:Nat:=0
def PySem.W.Fast.tw15983942962091650340:Nat:=0
def PySem.W.Fast.tw9956401786737159242:Nat:=0
def PySem.W.Fast.tw9154117085421094399:Nat:=0
def PySem.W.Fast.tw7266142382440050409:Nat:=0
def PySem.W.Fast.tw3188723084488922751:Nat:=0
def PySem.W.Fast.tw12314338564196643646:Nat:=0
def PySem.W.Fast.tw12924250546896566532:Nat:=0
def PySem.W.Fast.tw17830467844488692503:Nat:=0
def PySem.W.Fast.tw3737966510880403801:Nat:=0
def PySem.W.Fast.tw3132985003572724976:Nat:=0
def PySem.W.Fast.tw14005010030435642831:Nat:=0
def PySem.W.Fast.tw5795468301829729982:Nat:=0
def PySem.W.Fast.tw5041095179270202647:Nat:=0
def PySem.W.Fast.tw15226956855915604455:Nat:=0
def PySem.W.Fast.tw18217249313162403046:Nat:=0
def PySem.W.Fast.tw5592133353747511590:Nat:=0
def PySem.W.Fast.tw12131678436577259825:Nat:=0
def PySem.W.Fast.tw8080016127152868891:Nat:=0
def PySem.W.Fast.tw7411810116578861047:Nat:=0
def PySem.W.Fast.tw16632614713590300265:Nat:=0
def PySem.W.Fast.tw17733463314892744899:Nat:=0
def PySem.W.Fast.tw2881755061037148431:Nat:=0
def PySem.W.Fast.tw11973312172548418199:Nat:=0
def PySem.W.Fast.tw9889997250398811453:Nat:=0
def PySem.W.Fast.tw8787390583474258618:Nat:=0
def PySem.W.Fast.tw5606432778569660703:Nat:=0
def PySem.W.Fast.tw8022962574327260487:Nat:=0
def PySem.W.Fast.tw13559459427164630610:Nat:=0
def PySem.W.Fast.tw8984337941890628780:Nat:=0
def PySem.W.Fast.tw4844846714031003878:Nat:=0
def PySem.W.Fast.tw2840503865933189292:Nat:=0
def PySem.W.Fast.tw3738820166718429919:Nat:=0
def PySem.W.Fast.tw17382905481962327068:Nat:=0
def PySem.W.Fast.tw4141748227417010332:Nat:=0
def PySem.W.Fast.tw3979913948464145603:Nat:=0
def PySem.W.Fast.tw16265303933018818581:Nat:=0
def PySem.W.Fast.tw12100437168815571549:Nat:=0
def PySem.W.Fast.tw5850081932285969954:Nat:=0
def PySem.W.Fast.tw8435335443654758470:Nat:=0
def PySem.W.Fast.tw11781662326207819019:Nat:=0
def PySem.W.Fast.tw1975551618908006750:Nat:=0
def PySem.W.Fast.tw215988501675256621:Nat:=0
def PySem.W.Fast.tw13218149932562583696:Nat:=0
def PySem.W.Fast.tw13833426613364801631:Nat:=0
def PySem.W.Fast.tw16061950698957050870:Nat:=0
def PySem.W.Fast.tw14695878375753304977:Nat:=0
def PySem.W.Fast.tw1316524960481847443:Nat:=0
def PySem.W.Fast.tw16367843278636232118:Nat:=0
def PySem.W.Fast.tw7436032555179354564:Nat:=0
def PySem.W.Fast.tw8544169687608220316:Nat:=0
def PySem.W.Fast.tw10010016479294969777:Nat:=0
def PySem.W.Fast.tw4301338768013691987:Nat:=0
def PySem.W.Fast.tw6214070192587051785:Nat:=0
def PySem.W.Fast.tw2992837185135813687:Nat:=0
def PySem.W.Fast.tw4587608692939305784:Nat:=0
def PySem.W.Fast.tw5723897257408664503:Nat:=0
def PySem.W.Fast.tw11522645153209271438:Nat:=0
def PySem.W.Fast.tw15849174371004523815:Nat:=0
def PySem.W.Fast.tw8286635124202617629:Nat:=0
def PySem.W.Fast.tw9412424194599347197:Nat:=0
def PySem.W.Fast.tw9053375141395590423:Nat:=0
def PySem.W.Fast.tw7080214424991936441:Nat:=0
def PySem.W.Fast.tw8206669055238370746:Nat:=0
def PySem.W.Fast.tw10560517387198263195:Nat:=0
def PySem.W.Fast.tw9647467932319779535:Nat:=0
def PySem.W.Fast.tw6035435075979234497:Nat:=0
def PySem.W.Fast.tw17200933050328051472:Nat:=0
def PySem.W.Fast.tw4157351154810487007:Nat:=0
def PySem.W.Fast.tw6722400590037866275:Nat:=0
def PySem.W.Fast.tw4016573265437389105:Nat:=0
def PySem.W.Fast.tw9737738944241527099:Nat:=0
def PySem.W.Fast.tw7959091680637091620:Nat:=0
def PySem.W.Fast.tw8547358864651091902:Nat:=0
def PySem.W.Fast.tw841277466741577548:Nat:=0
def PySem.W.Fast.tw2921929067090297118:Nat:=0
def PySem.W.Fast.tw13920047567280999831:Nat:=0
def PySem.W.Fast.tw14473444798093090314:Nat:=0
def PySem.W.Fast.tw17731040188697812501:Nat:=0
def PySem.W.Fast.tw5859163274460536780:Nat:=0
def PySem.W.Fast.tw15309940296647416199:Nat:=0
def PySem.W.Fast.tw790914105451257347:Nat:=0
def PySem.W.Fast.tw17171225351129840038:Nat:=0
def PySem.W.Fast.tw13039475497277361339:Nat:=0
def PySem.W.Fast.tw5006104277893035419:Nat:=0
def PySem.W.Fast.tw2963147350823519440:Nat:=0
def PySem.W.Fast.tw10111012587970125363:Nat:=0
def PySem.W.Fast.tw14508170679737618453:Nat:=0
def PySem.W.Fast.tw8193926544112044062:Nat:=0
def PySem.W.Fast.tw16450570730171623799:Nat:=0
def PySem.W.Fast.tw1411637678340270092:Nat:=0
def PySem.W.Fast.tw14132913721243566664:Nat:=0
def PySem.W.Fast.tw15765751255780581619:Nat:=0
def PySem.W.Fast.tw1905997688350400125:Nat:=0
def PySem.W.Fast.tw16177054606032371090:Nat:=0
def PySem.W.Fast.tw6359148186203272158:Nat:=0
def PySem.W.Fast.tw15126067136785241369:Nat:=0
def PySem.W.Fast.tw3407807106414067948:Nat:=0
def PySem.W.Fast.tw11385832469022065641:Nat:=0
def PySem.W.Fast.tw17257694741372156528:Nat:=0
def PySem.W.Fast.tw17503761525179204341:Nat:=0
def PySem.W.Fast.tw10010493596061535736:Nat:=0
def PySem.W.Fast.tw10067899844023020533:Nat:=0
def PySem.W.Fast.tw9160453061945735257:Nat:=0
def PySem.W.Fast.tw15630042863561212946:Nat:=0
def PySem.W.Fast.tw16493602183367226499:Nat:=0
def PySem.W.Fast.tw6333521411789623071:Nat:=0
def PySem.W.Fast.tw12095829735323111318:Nat:=0
def PySem.W.Fast.tw6191241648845567192:Nat:=0
def PySem.W.Fast.tw3339534945564077728:Nat:=0
def PySem.W.Fast.tw10583483433512072468:Nat:=0
def PySem.W.Fast.tw9899377779343697925:Nat:=0
def PySem.W.Fast.tw5527168499785891787:Nat:=0
def PySem.W.Fast.tw3381463134114332950:Nat:=0
def PySem.W.Fast.tw10265334820572471063:Nat:=0
def PySem.W.Fast.tw6538044396286792629:Nat:=0
def PySem.W.Fast.tw17535652119090712800:Nat:=0
def PySem.W.Fast.tw11402592005693044387:Nat:=0
def PySem.W.Fast.tw863021329075694191:Nat:=0
def PySem.W.Fast.tw9586365364946359700:Nat:=0
def PySem.W.Fast.tw3438839695479812527:Nat:=0
def PySem.W.Fast.tw9623991045067096611:Nat:=0
def PySem.W.Fast.tw9615536434856268643:Nat:=0
def PySem.W.Fast.tw15389425587313488277:Nat:=0
def PySem.W.Fast.tw18321257909180837706:Nat:=0
def PySem.W.Fast.tw14986966639694973756:Nat:=0
namespace My
open PySem L2 PyProof.Rows
seal PE PT PW PA PS PSs PG PGs PI aQ8 PO OpR y7 a_0 IxR SlR MtR MtM a51 PIp PC
def top (i:Nat):Stmt:=PySem.Challenge.pw_crossracks_k45_whole_at_once.main.body.getD i (.Pass ⟨0,0,0,0⟩)
structure Txt (K:PySem.W.Frag) (mg:Str → Option Value):Prop where
 m_len:mg "len" = none
 m_isinstance:mg "isinstance" = none
 m_int:mg "int" = none
 m_bool:mg "bool" = none
 m_tuple:mg "tuple" = none
 m_list:mg "list" = none
 m_range:mg "range" = none
 m_abs:mg "abs" = none
 m_min:mg "min" = none
 m_max:mg "max" = none
 m_sorted:mg "sorted" = none
 m_zip:mg "zip" = none
 m_enumerate:mg "enumerate" = none
 m_divmod:mg "divmod" = none
 m_set:mg "set" = none
 m_reversed:mg "reversed" = none
 m_ValueError:mg "ValueError" = none
structure TxtC (K:PySem.W.Frag) (mg:Str → Option Value) (C_HallError:Addr) (C_TooFull:Addr) (C_NoTable:Addr):Prop where
 mg_HallError:mg "HallError" = some (.ref C_HallError)
 mg_TooFull:mg "TooFull" = some (.ref C_TooFull)
 mg_NoTable:mg "NoTable" = some (.ref C_NoTable)
 i_TooFull:∃ fI,ExcI K mg "TooFull" C_TooFull fI
 n_TooFull:ExcN K C_TooFull
 x_TooFull:ExcX K C_TooFull
 kv_TooFull:PySem.W.kitOne K (.ref C_TooFull) (.type "ValueError") = some true
 kh_TooFull:PySem.W.exmOne K (.ref C_TooFull) (.ref C_HallError) = some true
 kx_TooFull_HallError:PySem.W.kitOne K (.ref C_TooFull) (.ref C_HallError) = some true
 kx_TooFull_TooFull:PySem.W.kitOne K (.ref C_TooFull) (.ref C_TooFull) = some true
 kx_TooFull_NoTable:PySem.W.kitOne K (.ref C_TooFull) (.ref C_NoTable) = some false
 f_TooFull_side:PySem.W.findIn K (.ref C_TooFull) "side" = some none
 f_TooFull_rack:PySem.W.findIn K (.ref C_TooFull) "rack" = some none
 f_TooFull_many:PySem.W.findIn K (.ref C_TooFull) "many" = some none
 i_NoTable:∃ fI,ExcI K mg "NoTable" C_NoTable fI
 n_NoTable:ExcN K C_NoTable
 x_NoTable:ExcX K C_NoTable
 kv_NoTable:PySem.W.kitOne K (.ref C_NoTable) (.type "ValueError") = some true
 kh_NoTable:PySem.W.exmOne K (.ref C_NoTable) (.ref C_HallError) = some true
 kx_NoTable_HallError:PySem.W.kitOne K (.ref C_NoTable) (.ref C_HallError) = some true
 kx_NoTable_TooFull:PySem.W.kitOne K (.ref C_NoTable) (.ref C_TooFull) = some false
 kx_NoTable_NoTable:PySem.W.kitOne K (.ref C_NoTable) (.ref C_NoTable) = some true
 f_NoTable_place:PySem.W.findIn K (.ref C_NoTable) "place" = some none
def cell (ns:List Int) (k:Nat):Int:=ns.getD k 0
theorem aM9 {ns:List Int} {k:Nat} (h:k < ns.length):atI (ns.map V.int) (k:Int) = some (.int (cell ns k)):=G9 (by
 rw [List.getElem?_map,List.getElem?_eq_getElem h]
 simp [cell,List.getD,h])
theorem d8 {H:Hp} {p:Addr} (h:H p = none) (o:HO):i4 H (upd H p o):=fun b u q=>by rw [d9 (g9 q h)]; exact q
theorem i4.put {H H':Hp} {l:Addr} {o:HO} (s:i4 H H') (hl:H l = none):i4 H (upd H' l o):=fun b u q=>by
 rw [d9 (g9 q hl)]
 exact s b u q
def O3 (t:Addr) (H H':Hp):Prop:=∀ b u,b ≠ t → H b = some u → H' b = some u
def ax5 (K:PySem.W.Frag):Sp:=fun vs H Q _=>∃ (a:Addr) (ns:List Int) (k:Nat),vs = [.ref a,.int k] ∧ SqL K H a (ns.map V.int) ∧ Q (.int (cell ns k)) H
def aC7 (K:PySem.W.Frag):Sp:=fun vs H Q _=>∃ (a:Addr) (ns:List Int),vs = [.ref a] ∧ SqL K H a (ns.map V.int) ∧ ns.length ≤ 63 ∧ ∀ H',Q (.bl true) H'
def Z4:Sp:=fun vs H Q _=>∃ (c:Int) (k:Nat),vs = [.int c,.int k] ∧ k ≤ 63 ∧ ∀ v:Int,0 ≤ v → v < 2147483647 → Q (.int v) H
theorem i4.seqT {K:PySem.W.Frag} {H H':Hp} {a:Addr} {xs:List V} (e:i4 H H') (h:SqT K H a xs):SqT K H' a xs:=by
 rcases h with (h | ⟨o,h⟩) | h
 ·exact .inl (.inl (e _ _ h))
 ·exact .inl (.inr ⟨o,e _ _ h⟩)
 ·exact .inr h
section
variable {P:Program} {w:World} {K:PySem.W.Frag} {mg:Str → Option Value} {base:Heap}
theorem Y5:FnScope ["_law_script","_law_k"] ["_law_script","_law_k"] (d7 (top 33)):=⟨rfl,rfl,rfl,by decide +kernel,rfl,by decide +kernel,by decide +kernel⟩
theorem aT7 (T:Txt K mg) (D:Def K mg "_law_cell_at" (top 33) ["_law_script","_law_k"]):Callee P w K mg base 1 "_law_cell_at" ["_law_script","_law_k"] (ax5 K):=by
 refine D.ok Y5 (fun vs H Q E h=>?_) (fun f cdv A outer s H vs Q E hr h=>?_)
 ·obtain ⟨a,ns,k,rfl,_⟩:=h
  rfl
 obtain ⟨a,ns,k,rfl,hS,q⟩:=h
 refine ⟨_,(d6 (y8 (m7 aX1 (pv 1) (i9 (u6 K) rfl T.m_len boot_len (b7 (pv 0) d5 b8)) (n9 _)) (g6 (j8 (h9 (x8 K) (pv 0) (pv 1) (fun _ _=>rfl)))) n6)
  (g6 (j8 d4))),?_⟩
 refine ⟨_,rfl,_,rfl,a,_,rfl,.inl hS,_,_,rfl,rfl,_,rfl,?_⟩
 refine O7 (fun c=>?_) (fun c=>?_)
 ·have c':(k:Int) < (((ns.map V.int).length:Nat):Int):=of_decide_eq_true c
  rw [List.length_map] at c'
  exact ⟨_,rfl,_,rfl,a,_,_,_,rfl,rfl,hS,aM9 (by lia),q⟩
 ·have c':¬ (k:Int) < (((ns.map V.int).length:Nat):Int):=of_decide_eq_false (Bool.eq_false_iff.mpr c)
  rw [List.length_map] at c'
  have e:cell ns k = 0:=by simp [cell,List.getD,List.getElem?_eq_none (show ns.length ≤ k by lia)]
  rw [e] at q
  exact q
theorem ae1:FnScope ["_law_cell","_law_k"] ["_law_cell","_law_k"] (d7 (top 34)):=⟨rfl,rfl,rfl,by decide +kernel,rfl,by decide +kernel,by decide +kernel⟩
theorem aJ1 (T:Txt K mg) (D:Def K mg "_law_mixed" (top 34) ["_law_cell","_law_k"]):Callee P w K mg base 1 "_law_mixed" ["_law_cell","_law_k"] Z4:=by
 refine D.ok ae1 (fun vs H Q E h=>?_) (fun f cdv A outer s H vs Q E hr h=>?_)
 ·obtain ⟨c,k,rfl,_⟩:=h
  rfl
 obtain ⟨c,k,rfl,hk,q⟩:=h
 refine ⟨_,(g6 (j8 (i6 p8 (i6 K7 (i6 A4 (i6 A4 (i6 p8 (pv 0) d4) (i6 K7 (pv 1) (pv 1))) d4) d4) d4))),?_⟩
 exact ⟨_,rfl,_,_,rfl,rfl,(by show (0:Int) < 1000003; decide),_,rfl,_,rfl,_,_,rfl,rfl,.inl ⟨by lia,by lia⟩,_,_,rfl,rfl,_,_,rfl,rfl,_,_,rfl,rfl,.inr ⟨by decide,by decide⟩,_,_,rfl,rfl,(by show (0:Int) < 2147483647; decide),q _ (Int.emod_nonneg _ (by decide)) (Int.emod_lt_of_pos _ (by decide))⟩
end
theorem al6 {x d:Int} (h:0 < d):0 ≤ x % d ∧ x % d < d:=⟨Int.emod_nonneg _ (by lia),Int.emod_lt_of_pos _ h⟩
def ak5:Sp:=fun vs H Q _=>∃ (l:Addr) (n m:Int),vs = [.ref l,.int m] ∧ H l = some (.lst [.int n]) ∧ 0 < m ∧ m < 1000 ∧ Q (.int (n % m)) (upd H l (.lst [.int (n / m)]))
section
variable {P:Program} {w:World} {K:PySem.W.Frag} {mg:Str → Option Value} {base:Heap}
theorem R5:FnScope ["_law_left","_law_many","_law_found"] ["_law_left","_law_many"] (d7 (top 36)):=⟨rfl,rfl,rfl,by decide +kernel,rfl,by decide +kernel,by decide +kernel⟩
theorem aQ1 (T:Txt K mg) (D:Def K mg "_law_digit" (top 36) ["_law_left","_law_many"]):Callee P w K mg base 1 "_law_digit" ["_law_left","_law_many"] ak5:=by
 refine D.ok R5 (fun vs H Q E h=>?_) (fun f cdv A outer s H vs Q E hr h=>?_)
 ·obtain ⟨l,n,m,rfl,_⟩:=h
  rfl
 obtain ⟨l,n,m,rfl,hl,hm,hm2,q⟩:=h
 refine ⟨_,(d6 (i7 (i:=2) R5.nd rfl (Or.inl rfl) (i6 p8 (h9 (x8 K) (pv 0) d4 (fun _ _=>rfl)) (pv 1)))
  (d6 (az5 (i6 x6 (h9 (x8 K) (pv 0) d4 (fun _ _=>rfl)) (pv 1)) (aK8 (pv 0) d4 ap9))
  (g6 (j8 (pv 2))))),?_⟩
 refine ⟨_,rfl,l,_,_,_,rfl,rfl,SqL.of hl,rfl,_,rfl,_,_,rfl,rfl,hm,?_⟩
 exact ⟨_,rfl,l,_,_,_,rfl,rfl,SqL.of hl,rfl,_,rfl,_,_,rfl,rfl,⟨hm,by lia⟩,_,rfl,l,_,_,0,rfl,rfl,hl,rfl,_,rfl,q⟩
end
structure Hall where
 i:Int
 c:Int
 m:Int
 o:Int
 e:Int
def Hall.row (h:Hall):List Int:=[h.i,h.c,h.m,h.o,h.e]
structure Hall.Ok (h:Hall):Prop where
 i:1 ≤ h.i ∧ h.i ≤ 12
 c:1 ≤ h.c ∧ h.c ≤ 12
 m:1 ≤ h.m ∧ h.m ≤ 24
 o:1 ≤ h.o ∧ h.o ≤ 12
 e:1 ≤ h.e ∧ h.e ≤ 12
theorem aN9 {a b:Int} (ha:1 ≤ a ∧ a ≤ 12) (hb:1 ≤ b ∧ b ≤ 12):1 ≤ a * b ∧ a * b ≤ 144:=by
 have h1:1 * 1 ≤ a * b:=Int.mul_le_mul ha.1 hb.1 (by decide) (by lia)
 have h2:a * b ≤ 12 * 12:=Int.mul_le_mul ha.2 hb.2 (by lia) (by decide)
 lia
theorem Hall.Ok.ic {h:Hall} (k:h.Ok):1 ≤ h.i * h.c ∧ h.i * h.c ≤ 144:=aN9 k.i k.c
theorem Hall.Ok.oe {h:Hall} (k:h.Ok):1 ≤ h.o * h.e ∧ h.o * h.e ≤ 144:=aN9 k.o k.e
def aC4:Sp:=fun vs H Q _=>∃ c:Int,vs = [.int c] ∧ ∀ (p:Addr) (h:Hall) (H':Hp),h.Ok → i4 H H' → H' p = some (.tup (h.row.map V.int)) → Q (.ref p) H'
def N4 (j:Nat):Int:=if j = 2 then 24 else 12
theorem a76 {i:Nat} {x:V} (h:([12,12,24,12,12].map V.int)[i]? = some x):x = .int (N4 i):=by
 match i,h with
 | 0,h=>exact (Option.some.inj h).symm
 | 1,h=>exact (Option.some.inj h).symm
 | 2,h=>exact (Option.some.inj h).symm
 | 3,h=>exact (Option.some.inj h).symm
 | 4,h=>exact (Option.some.inj h).symm
theorem aI7 (i:Nat):12 ≤ N4 i ∧ N4 i ≤ 24:=by
 unfold N4
 split <;> lia
theorem aU8 {xs:List Int} (l5:xs.length = 5) (hx:∀ j x,xs[j]? = some x → 1 ≤ x ∧ x ≤ N4 j):∃ h:Hall,h.Ok ∧ h.row = xs:=by
 match xs,l5 with
 | [a,b,c,d,e],_=>exact ⟨⟨a,b,c,d,e⟩,⟨hx 0 a rfl,hx 1 b rfl,hx 2 c rfl,hx 3 d rfl,hx 4 e rfl⟩,rfl⟩
section
variable {P:Program} {w:World} {K:PySem.W.Frag} {mg:Str → Option Value} {base:Heap}
theorem C9:FnScope ["_law_cell","_law_left","_law_number","_law_big","_law_small"] ["_law_cell"] (d7 (top 37)):=⟨rfl,rfl,rfl,by decide +kernel,rfl,by decide +kernel,by decide +kernel⟩
theorem aP9 (T:Txt K mg) (C__law_mixed:Callee P w K mg base 1 "_law_mixed" ["_law_cell","_law_k"] Z4) (C__law_digit:Callee P w K mg base 1 "_law_digit" ["_law_left","_law_many"] ak5) (D:Def K mg "_law_hall" (top 37) ["_law_cell"]):Callee P w K mg base 2 "_law_hall" ["_law_cell"] aC4:=by
 refine D.ok C9 (fun vs H Q E h=>?_) (fun f cdv A outer s H vs Q E hr h=>?_)
 ·obtain ⟨c,rfl,_⟩:=h
  rfl
 obtain ⟨c,rfl,q⟩:=h
 refine ⟨_,(d6 (y8 (m7 S1 (i6 p8 (pv 0) d4) d4 (n9 _)) (d6 (i7 (i:=1) C9.nd rfl (Or.inr rfl) (C4 (b7 (i6 x6 (i9 aa4 rfl T.m_abs boot_abs (b7 (pv 0) d5 b8)) d4) d5 r6)))
  (g6 (j8 (w4 (ap8 K) rfl T.m_tuple boot_tuple (b7 (N8 (own:=["_law_most"]) (fr:=[(1,"_law_left")]) rfl (show CompScope ["_law_cell","_law_left","_law_number","_law_big","_law_small"] (d7 (top 37)) _ _ _ from ⟨rfl,by decide +kernel,by decide +kernel,by decide +kernel,by decide +kernel⟩) (Z6 K (m9 (b7 d4 (b7 d4 (b7 d4 (b7 d4 (b7 d4 d5 i0) i0) i0) i0) i0))) (fun cl C s H ex=>⟨(o9 (i:=0) (show (["_law_most","_law_left"]:List Str).Nodup from by decide +kernel) rfl (Or.inl rfl) (Or.inr rfl)),U2,(i6 A4 d4 (m6 C__law_digit hr rfl (b7 (pv 1) (b7 (pv 0) d5 b8) b8)))⟩)) d5 Z5))))) n6)
  (d6 (i7 (i:=2) C9.nd rfl (Or.inl rfl) (m6 C__law_mixed hr rfl (b7 (pv 0) (b7 d4 d5 i0) b8)))
  (d6 (y8 (m7 S1 (i6 p8 (pv 2) d4) d4 (n9 _)) (d6 (i7 (i:=3) C9.nd rfl (Or.inl rfl) (m9 (b7 (i6 A4 d4 (i6 p8 (i6 x6 (pv 2) d4) d4)) (b7 (i6 A4 d4 (i6 p8 (i6 x6 (pv 2) d4) d4)) (b7 (i6 A4 d4 (i6 p8 (i6 x6 (pv 2) d4) d4)) d5 r6) r6) r6)))
  (g6 (j8 (i6 aD9 (pv 3) (m9 (b7 (i6 A4 d4 (i6 p8 (i6 x6 (pv 2) d4) d4)) (b7 (i6 A4 d4 (i6 p8 (i6 x6 (pv 2) d4) d4)) d5 r6) r6)))))) n6)
  (d6 (i7 (i:=4) C9.nd rfl (Or.inl rfl) (m9 (b7 (i6 A4 d4 (i6 p8 (i6 x6 (pv 2) d4) d4)) (b7 (i6 A4 d4 (i6 p8 (i6 x6 (pv 2) d4) d4)) (b7 (i6 A4 d4 (i6 p8 (i6 x6 (pv 2) d4) d4)) d5 r6) r6) r6)))
  (g6 (j8 (i6 aD9 (pv 4) (m9 (b7 (i6 A4 d4 (i6 p8 (i6 x6 (pv 2) d4) d4)) (b7 (i6 A4 d4 (i6 p8 (i6 x6 (pv 2) d4) d4)) d5 r6) r6))))))))),?_⟩
 refine ⟨_,rfl,_,_,rfl,rfl,(by show (0:Int) < 2; decide),rfl,_,rfl,?_⟩
 refine O7 (fun _=>?_) (fun _=>?_)
 ·refine ⟨_,rfl,_,rfl,_,_,rfl,rfl,⟨by decide,by decide⟩,(by show 1 ≤ sizeLine; decide),fun l hl=>?_⟩
  dsimp only
  generalize (if c < 0 then -c else c) / 2 = n0
  have s1:=d8 hl (.lst [.int n0])
  have el:=b9 (H:=H) (a:=l) (o:=.lst [.int n0])
  generalize upd H l (.lst [.int n0]) = H1 at s1 el ⊢
  refine ⟨(by show 5 ≤ sizeLine; decide),fun tp htp=>?_⟩
  have s2:=d8 htp (.tup ([12,12,24,12,12].map V.int))
  have etp:=b9 (H:=H1) (a:=tp) (o:=.tup ([12,12,24,12,12].map V.int))
  change i4 H1 (upd H1 tp (.tup [.int 12,.int 12,.int 24,.int 12,.int 12])) at s2
  change upd H1 tp (.tup [.int 12,.int 12,.int 24,.int 12,.int 12]) tp = _ at etp
  generalize upd H1 tp (.tup [.int 12,.int 12,.int 24,.int 12,.int 12]) = H2 at s2 etp ⊢
  have el2:=s2 _ _ el
  have ntl:tp ≠ l:=fun z=>by rw [z,el2] at etp; cases etp
  refine ⟨tp,rfl,⟨_,SqT.of etp⟩,?_⟩
  refine au4 (xs:=[12,12,24,12,12].map V.int) (fun i acc σ H'=>O3 l H2 H' ∧ (∃ n,H' l = some (.lst [.int n])) ∧ (∃ xs:List Int,acc = xs.map V.int ∧ xs.length = i ∧ ∀ j x,xs[j]? = some x → 1 ≤ x ∧ x ≤ N4 j) ∧ ∃ v,σ = [v,some (.ref l)])
   ⟨fun _ _ _ z=>z,⟨_,el2⟩,⟨[],rfl,rfl,fun j x hx=>by simp at hx⟩,none,rfl⟩ (by decide) (fun i acc σ H' g=>?_) (fun i acc σ H' _ g=>SqT.of (g.1 _ _ ntl etp)) ?_ ?_
  ·obtain ⟨_,_,⟨xs,rfl,hl,_⟩,_⟩:=g
   rw [List.length_map,hl]
   exact Nat.le_refl _
  ·rintro i x acc σ G hx ⟨sx,⟨n,en⟩,⟨xs,rfl,hxl,hxb⟩,v,rfl⟩
   obtain rfl:=a76 hx
   have mb:=aI7 i
   refine ⟨_,rfl,_,rfl,l,n,_,rfl,en,by lia,by lia,_,_,rfl,rfl,?_⟩
   have b1:=Int.emod_nonneg n (show N4 i ≠ 0 by lia)
   have b2:=Int.emod_lt_of_pos n (show 0 < N4 i by lia)
   refine ⟨fun b u nb z=>by rw [d9 nb]; exact sx b u nb z,⟨_,b9⟩,⟨xs ++ [1 + n % N4 i],by rw [List.map_append]; rfl,by rw [List.length_append,hxl]; rfl,fun j x hj=>?_⟩,_,rfl⟩
   rcases Nat.lt_or_ge j xs.length with z | z
   ·rw [List.getElem?_append_left z] at hj
    exact hxb j x hj
   ·rw [List.getElem?_append_right z] at hj
    have:j = i:=by
     have:=(List.getElem?_eq_some_iff.mp hj).1
     rw [List.length_singleton] at this
     lia
    subst this
    rw [hxl,Nat.sub_self] at hj
    cases Option.some.inj hj
    lia
  ·rintro acc σ G ⟨sx,⟨n,en⟩,⟨xs,rfl,hxl,hxb⟩,v,rfl⟩ r hr0
   obtain ⟨h,ok,hrow⟩:=aU8 hxl hxb
   subst hrow
   have er:=b9 (H:=G) (a:=r) (o:=.lst (h.row.map V.int))
   have s3:=d8 hr0 (.lst (h.row.map V.int))
   generalize upd G r (.lst (h.row.map V.int)) = G1 at er s3 ⊢
   refine ⟨r,_,rfl,.inl ⟨SqL.of er,fun t ht=>q t h _ ok (fun b u z=>?_) b9⟩⟩
   exact d8 ht _ _ _ (s3 _ _ (sx b u (g9 z hl) (s2 _ _ (s1 _ _ z))))
 ·refine ⟨_,rfl,c,0,rfl,by decide,fun v v0 v1=>?_⟩
  refine ⟨_,rfl,_,_,rfl,rfl,(by show (0:Int) < 5; decide),rfl,_,rfl,?_⟩
  refine O7 (fun _=>?_) (fun _=>?_)
  ·refine ⟨_,rfl,_,_,rfl,rfl,⟨by decide,by decide⟩,_,_,rfl,rfl,(by show (0:Int) < 7; decide),_,_,rfl,rfl,_,rfl,_,_,rfl,rfl,⟨by decide,by decide⟩,_,_,rfl,rfl,(by show (0:Int) < 7; decide),_,_,rfl,rfl,_,rfl,_,_,rfl,rfl,⟨by decide,by decide⟩,_,_,rfl,rfl,(by show (0:Int) < 24; decide),_,_,rfl,rfl,(by show 3 ≤ sizeLine; decide),fun b hb=>?_⟩
   have s1:=d8 hb (.tup [.int (6 + v / 5 % 7),.int (6 + v / 35 % 7),.int (1 + v / 245 % 24)])
   have eb:=b9 (H:=H) (a:=b) (o:=.tup [.int (6 + v / 5 % 7),.int (6 + v / 35 % 7),.int (1 + v / 245 % 24)])
   generalize upd H b (.tup [.int (6 + v / 5 % 7),.int (6 + v / 35 % 7),.int (1 + v / 245 % 24)]) = H1 at s1 eb ⊢
   refine ⟨_,rfl,_,rfl,_,_,rfl,rfl,⟨by decide,by decide⟩,_,_,rfl,rfl,(by show (0:Int) < 7; decide),_,_,rfl,rfl,_,rfl,_,_,rfl,rfl,⟨by decide,by decide⟩,_,_,rfl,rfl,(by show (0:Int) < 7; decide),_,_,rfl,rfl,(by show 2 ≤ sizeLine; decide),fun b2 hb2=>?_⟩
   have s2:=d8 hb2 (.tup [.int (6 + v / 5880 % 7),.int (6 + v / 41160 % 7)])
   have eb2:=b9 (H:=H1) (a:=b2) (o:=.tup [.int (6 + v / 5880 % 7),.int (6 + v / 41160 % 7)])
   generalize upd H1 b2 (.tup [.int (6 + v / 5880 % 7),.int (6 + v / 41160 % 7)]) = H2 at s2 eb2 ⊢
   refine ⟨b,b2,_,_,rfl,rfl,s2 _ _ eb,eb2,(by show 5 ≤ sizeLine; decide),fun p H3 s3 ep=>?_⟩
   exact q p ⟨6 + v / 5 % 7,6 + v / 35 % 7,1 + v / 245 % 24,6 + v / 5880 % 7,6 + v / 41160 % 7⟩ H3 ⟨by show 1 ≤ 6 + v / 5 % 7 ∧ 6 + v / 5 % 7 ≤ 12; lia,by show 1 ≤ 6 + v / 35 % 7 ∧ 6 + v / 35 % 7 ≤ 12; lia,by show 1 ≤ 1 + v / 245 % 24 ∧ 1 + v / 245 % 24 ≤ 24; lia,by show 1 ≤ 6 + v / 5880 % 7 ∧ 6 + v / 5880 % 7 ≤ 12; lia,by show 1 ≤ 6 + v / 41160 % 7 ∧ 6 + v / 41160 % 7 ≤ 12; lia⟩ (s1.trans (s2.trans s3)) ep
  ·refine ⟨_,rfl,_,_,rfl,rfl,⟨by decide,by decide⟩,_,_,rfl,rfl,(by show (0:Int) < 5; decide),_,_,rfl,rfl,_,rfl,_,_,rfl,rfl,⟨by decide,by decide⟩,_,_,rfl,rfl,(by show (0:Int) < 4; decide),_,_,rfl,rfl,_,rfl,_,_,rfl,rfl,⟨by decide,by decide⟩,_,_,rfl,rfl,(by show (0:Int) < 6; decide),_,_,rfl,rfl,(by show 3 ≤ sizeLine; decide),fun b hb=>?_⟩
   have s1:=d8 hb (.tup [.int (1 + v / 5 % 5),.int (1 + v / 25 % 4),.int (1 + v / 100 % 6)])
   have eb:=b9 (H:=H) (a:=b) (o:=.tup [.int (1 + v / 5 % 5),.int (1 + v / 25 % 4),.int (1 + v / 100 % 6)])
   generalize upd H b (.tup [.int (1 + v / 5 % 5),.int (1 + v / 25 % 4),.int (1 + v / 100 % 6)]) = H1 at s1 eb ⊢
   refine ⟨_,rfl,_,rfl,_,_,rfl,rfl,⟨by decide,by decide⟩,_,_,rfl,rfl,(by show (0:Int) < 5; decide),_,_,rfl,rfl,_,rfl,_,_,rfl,rfl,⟨by decide,by decide⟩,_,_,rfl,rfl,(by show (0:Int) < 4; decide),_,_,rfl,rfl,(by show 2 ≤ sizeLine; decide),fun b2 hb2=>?_⟩
   have s2:=d8 hb2 (.tup [.int (1 + v / 600 % 5),.int (1 + v / 3000 % 4)])
   have eb2:=b9 (H:=H1) (a:=b2) (o:=.tup [.int (1 + v / 600 % 5),.int (1 + v / 3000 % 4)])
   generalize upd H1 b2 (.tup [.int (1 + v / 600 % 5),.int (1 + v / 3000 % 4)]) = H2 at s2 eb2 ⊢
   refine ⟨b,b2,_,_,rfl,rfl,s2 _ _ eb,eb2,(by show 5 ≤ sizeLine; decide),fun p H3 s3 ep=>?_⟩
   exact q p ⟨1 + v / 5 % 5,1 + v / 25 % 4,1 + v / 100 % 6,1 + v / 600 % 5,1 + v / 3000 % 4⟩ H3 ⟨by show 1 ≤ 1 + v / 5 % 5 ∧ 1 + v / 5 % 5 ≤ 12; lia,by show 1 ≤ 1 + v / 25 % 4 ∧ 1 + v / 25 % 4 ≤ 12; lia,by show 1 ≤ 1 + v / 100 % 6 ∧ 1 + v / 100 % 6 ≤ 24; lia,by show 1 ≤ 1 + v / 600 % 5 ∧ 1 + v / 600 % 5 ≤ 12; lia,by show 1 ≤ 1 + v / 3000 % 4 ∧ 1 + v / 3000 % 4 ≤ 12; lia⟩ (s1.trans (s2.trans s3)) ep
end
def oN:Option Nat → V
 | none=>.non
 | some n=>.int (n:Nat)
def bb5 (H:Hp) (a:Addr) (p:Int × Int):Prop:=H a = some (.tup [.int p.1,.int p.2])
def o6 (H:Hp) (as:List Addr) (ps:List (Int × Int)):Prop:=Paired (bb5 H) as ps
theorem o6.mono {H H':Hp} {as:List Addr} {ps:List (Int × Int)} (s:∀ a xs,H a = some (.tup xs) → H' a = some (.tup xs)) (h:o6 H as ps):o6 H' as ps:=Paired.mapP h fun a p z=>s _ _ z
theorem o6.same {H H':Hp} {as:List Addr} {ps:List (Int × Int)} (s:i4 H H') (h:o6 H as ps):o6 H' as ps:=h.mono fun a xs z=>s _ _ z
theorem aC9 {F:Addr → Int × Int → Prop} {a:Addr} {p:Int × Int}:∀ {as:List Addr} {ps:List (Int × Int)},Paired F as ps → F a p → Paired F (as ++ [a]) (ps ++ [p])
 | _,_,.nil,h=>.cons h .nil
 | _,_,.cons r t,h=>.cons r (aC9 t h)
theorem o6.snoc {H:Hp} {as:List Addr} {ps:List (Int × Int)} {a:Addr} {p:Int × Int} (h:o6 H as ps) (e:H a = some (.tup [.int p.1,.int p.2])):o6 H (as ++ [a]) (ps ++ [p]):=aC9 h e
def N3 (K:PySem.W.Frag) (d:Hall → Int):Sp:=fun vs H Q _=>∃ (a:Addr) (h:Hall) (x:Int),vs = [.ref a,.int x] ∧ SqT K H a (h.row.map V.int) ∧ h.Ok ∧ ∀ p,H p = none → Q (.ref p) (upd H p (.tup [.int (x / d h),.int (x % d h)]))
section
variable {P:Program} {w:World} {K:PySem.W.Frag} {mg:Str → Option Value} {base:Heap}
theorem ao1:FnScope ["hall","caller"] ["hall","caller"] (d7 (top 7)):=⟨rfl,rfl,rfl,by decide +kernel,rfl,by decide +kernel,by decide +kernel⟩
theorem at3 (T:Txt K mg) (D:Def K mg "place_in" (top 7) ["hall","caller"]):Callee P w K mg base 1 "place_in" ["hall","caller"] (N3 K Hall.c):=by
 refine D.ok ao1 (fun vs H Q E h=>?_) (fun f cdv A outer s H vs Q E hr h=>?_)
 ·obtain ⟨a,h,x,rfl,_⟩:=h
  rfl
 obtain ⟨a,h,x,rfl,hS,ok,q⟩:=h
 have b:=ok.c
 refine ⟨_,(g6 (j8 (i9 P3 rfl T.m_divmod boot_divmod (b7 (pv 1) (b7 (h9 (g7 K) (pv 0) d4 (fun _ _=>rfl)) d5 j6) b8)))),?_⟩
 exact ⟨_,rfl,_,rfl,a,_,_,_,rfl,rfl,hS,rfl,_,_,rfl,⟨by lia,by lia⟩,q⟩
theorem al1:FnScope ["hall","end"] ["hall","end"] (d7 (top 8)):=⟨rfl,rfl,rfl,by decide +kernel,rfl,by decide +kernel,by decide +kernel⟩
theorem aj2 (T:Txt K mg) (D:Def K mg "place_out" (top 8) ["hall","end"]):Callee P w K mg base 1 "place_out" ["hall","end"] (N3 K Hall.e):=by
 refine D.ok al1 (fun vs H Q E h=>?_) (fun f cdv A outer s H vs Q E hr h=>?_)
 ·obtain ⟨a,h,x,rfl,_⟩:=h
  rfl
 obtain ⟨a,h,x,rfl,hS,ok,q⟩:=h
 have b:=ok.e
 refine ⟨_,(g6 (j8 (i9 P3 rfl T.m_divmod boot_divmod (b7 (pv 1) (b7 (h9 (g7 K) (pv 0) d4 (fun _ _=>rfl)) d5 j6) b8)))),?_⟩
 exact ⟨_,rfl,_,rfl,a,_,_,_,rfl,rfl,hS,rfl,_,_,rfl,⟨by lia,by lia⟩,q⟩
end
inductive PartIs (K:PySem.W.Frag) (H:Hp):V → Prop where
 | int (i:Int):PartIs K H (.int i)
 | odd {x:V} {t:Value} {b1 b2:Bool} (ni:∀ i,x ≠ .int i) (ty:TyOf K H x t) (h1:PySem.W.kitOne K t (.type "int") = some b1) (h2:PySem.W.kitOne K t (.type "bool") = some b2) (hb:b1 = false ∨ b2 = true):PartIs K H x
inductive ThingIs (K:PySem.W.Frag) (H:Hp):V → Option (List V) → Prop where
 | tup {a:Addr} {xs:List V} (e:H a = some (.tup xs)) (h:∀ x ∈ xs,PartIs K H x):ThingIs K H (.ref a) (some xs)
 | no {x:V} {t:Value} (ty:TyOf K H x t) (h:PySem.W.kitOne K t (.type "tuple") = some false):ThingIs K H x none
theorem TyOf.same {K:PySem.W.Frag} {H H':Hp} {x:V} {t:Value} (s:i4 H H') (h:TyOf K H x t):TyOf K H' x t:=by
 cases h with
 | non=>exact .non
 | bl b=>exact .bl b
 | int i=>exact .int i
 | str y=>exact .str y
 | flt y=>exact .flt y
 | lst e=>exact .lst (s _ _ e)
 | frz e=>exact .frz (s _ _ e)
 | tup e=>exact .tup (s _ _ e)
 | dK e=>exact .dK (s _ _ e)
 | dT e=>exact .dT (s _ _ e)
 | ins e a b c d f=>exact .ins (s _ _ e) a b c d f
theorem PartIs.same {K:PySem.W.Frag} {H H':Hp} {x:V} (s:i4 H H') (h:PartIs K H x):PartIs K H' x:=by
 cases h with
 | int i=>exact .int i
 | odd ni ty h1 h2 hb=>exact .odd ni (TyOf.same s ty) h1 h2 hb
theorem ThingIs.same {K:PySem.W.Frag} {H H':Hp} {x:V} {o:Option (List V)} (s:i4 H H') (h:ThingIs K H x o):ThingIs K H' x o:=by
 cases h with
 | tup e q=>exact .tup (s _ _ e) fun x hx=>PartIs.same s (q x hx)
 | no ty q=>exact .no (TyOf.same s ty) q
def B2 (x:V) (lo hi:Int):Bool:=match x with
 | .int i=>decide (lo ≤ i) && decide (i ≤ hi)
 | _=>false
def isInt:V → Bool
 | .int _=>true
 | _=>false
def ai1 (K:PySem.W.Frag):Sp:=fun vs H Q _=>∃ (x:V) (lo hi:Int),vs = [x,.int lo,.int hi] ∧ PartIs K H x ∧ Q (.bl (B2 x lo hi)) H
def Z3 (K:PySem.W.Frag):Sp:=fun vs H Q _=>∃ x:V,vs = [x] ∧ PartIs K H x ∧ Q (.bl (isInt x)) H
section
variable {P:Program} {w:World} {K:PySem.W.Frag} {mg:Str → Option Value} {base:Heap}
theorem aj0:FnScope ["thing"] ["thing"] (d7 (top 5)):=⟨rfl,rfl,rfl,by decide +kernel,rfl,by decide +kernel,by decide +kernel⟩
theorem aj4 (T:Txt K mg) (D:Def K mg "is_number" (top 5) ["thing"]):Callee P w K mg base 1 "is_number" ["thing"] (Z3 K):=by
 refine D.ok aj0 (fun vs H Q E h=>?_) (fun f cdv A outer s H vs Q E hr h=>?_)
 ·obtain ⟨x,rfl,_⟩:=h
  rfl
 obtain ⟨x,rfl,hp,q⟩:=h
 refine ⟨_,(g6 (j8 (am3 (i9 (x5 K) rfl T.m_isinstance boot_isinstance (b7 (pv 0) (b7 (K5 (v:=.ty "int") rfl T.m_int boot_int rfl) d5 b8) b8)) (aj7 (aQ9 (i9 (x5 K) rfl T.m_isinstance boot_isinstance (b7 (pv 0) (b7 (K5 (v:=.ty "bool") rfl T.m_bool boot_bool rfl) d5 b8) b8))))))),?_⟩
 cases hp with
 | int i =>
  refine ⟨_,rfl,_,_,_,true,rfl,.int i,X7,_,rfl,T5 ?_⟩
  exact ⟨_,rfl,_,_,_,false,rfl,.int i,U3,_,rfl,q⟩
 | @odd _ t b1 b2 ni ty h1 h2 hb =>
  have e:isInt x = false:=by
   cases x with
   | int i=>exact absurd rfl (ni i)
   | _=>rfl
  rw [e] at q
  refine ⟨_,rfl,_,_,_,b1,rfl,ty,h1,_,rfl,?_⟩
  cases b1 with
  | false=>exact D9 q
  | true =>
   have hb2:b2 = true:=hb.elim (fun z=>nomatch z) id
   subst hb2
   exact T5 ⟨_,rfl,_,_,_,true,rfl,ty,h2,_,rfl,q⟩
theorem au1:FnScope ["thing","least","most"] ["thing","least","most"] (d7 (top 6)):=⟨rfl,rfl,rfl,by decide +kernel,rfl,by decide +kernel,by decide +kernel⟩
theorem ao0 (T:Txt K mg) (C_is_number:Callee P w K mg base 1 "is_number" ["thing"] (Z3 K)) (D:Def K mg "is_whole" (top 6) ["thing","least","most"]):Callee P w K mg base 2 "is_whole" ["thing","least","most"] (ai1 K):=by
 refine D.ok au1 (fun vs H Q E h=>?_) (fun f cdv A outer s H vs Q E hr h=>?_)
 ·obtain ⟨x,lo,hi,rfl,_⟩:=h
  rfl
 obtain ⟨x,lo,hi,rfl,hp,q⟩:=h
 refine ⟨_,(g6 (j8 (am3 (m6 C_is_number hr rfl (b7 (pv 0) d5 b8)) (aj7 (aK9 aX8 aX8 (pv 1) (pv 0) (pv 2)))))),?_⟩
 refine ⟨_,rfl,x,rfl,hp,_,rfl,?_⟩
 cases hp with
 | int i =>
  refine T5 ?_
  refine ⟨_,rfl,_,rfl,_,_,rfl,rfl,_,rfl,?_⟩
  refine O7 (fun c=>?_) (fun c=>?_)
  ·refine ⟨_,rfl,_,_,rfl,rfl,?_⟩
   have e:B2 (.int i) lo hi = decide (i ≤ hi):=by show (decide (lo ≤ i) && decide (i ≤ hi)) = _; rw [c,Bool.true_and]
   rw [e] at q
   exact q
  ·have e:B2 (.int i) lo hi = false:=by show (decide (lo ≤ i) && decide (i ≤ hi)) = _; rw [Bool.eq_false_iff.mpr c,Bool.false_and]
   rw [e] at q
   exact q
 | @odd _ t b1 b2 ni ty h1 h2 hb =>
  have e0:isInt x = false:=by
   cases x with
   | int i=>exact absurd rfl (ni i)
   | _=>rfl
  have e:B2 x lo hi = false:=by
   cases x with
   | int i=>exact absurd rfl (ni i)
   | _=>rfl
  rw [e] at q
  rw [e0]
  exact D9 q
end
def entryB (o:Option (List V)) (F S:Int):Bool:=match o with
 | some [a,b]=>B2 a 0 (F - 1) && B2 b 0 (S - 1)
 | _=>false
def A8 (o:Option (List V)):Int × Int:=match o with
 | some [.int a,.int b]=>(a,b)
 | _=>(0,0)
theorem ai0 {o:Option (List V)} {F S:Int} (h:entryB o F S = true):o = some [.int (A8 o).1,.int (A8 o).2]:=by
 match o,h with
 | some [a,b],h =>
  have h':(B2 a 0 (F - 1) && B2 b 0 (S - 1)) = true:=h
  rw [Bool.and_eq_true] at h'
  cases a with
  | int i =>
   cases b with
   | int j=>rfl
   | _=>cases h'.2
  | _=>cases h'.1
def X1 (ps:List (Int × Int)) (F S:Int) (o:Option (List V)):Bool:=!entryB o F S || (decide ((A8 o).1 ∈ ps.map Prod.fst) || decide ((A8 o).2 ∈ ps.map Prod.snd))
def o8 (F S:Int):List (Option (List V)) → List (Int × Int) → Nat → Option Nat
 | [],_,_=>none
 | o :: os,ps,i=>if X1 ps F S o = true then some i else o8 F S os (ps ++ [A8 o]) (i + 1)
theorem au9 {F S:Int} {os:List (Option (List V))} {ps:List (Int × Int)} {i:Nat} {o:Option (List V)} (ho:os[i]? = some o) (b:X1 ps F S o = true):o8 F S (os.drop i) ps i = some i:=by
 have h:=List.getElem?_eq_some_iff.mp ho
 rw [List.drop_eq_getElem_cons h.1,h.2]
 unfold o8
 rw [if_pos b]
theorem aN8 {F S:Int} {os:List (Option (List V))} {ps:List (Int × Int)} {i:Nat} {o:Option (List V)} (ho:os[i]? = some o) (b:X1 ps F S o = false):o8 F S (os.drop i) ps i = o8 F S (os.drop (i + 1)) (ps ++ [A8 o]) (i + 1):=by
 have h:=List.getElem?_eq_some_iff.mp ho
 rw [List.drop_eq_getElem_cons h.1,h.2]
 conv=>lhs; unfold o8
 rw [if_neg (by rw [b]; decide)]
theorem aG9 {F S:Int} {os:List (Option (List V))} {ps:List (Int × Int)} {i:Nat} (h:os.length ≤ i):o8 F S (os.drop i) ps i = none:=by
 rw [List.drop_eq_nil_of_le h]
 rfl
def ba9:Option Nat → V
 | none=>.non
 | some i=>.int (i:Nat)
def J7 (K:PySem.W.Frag) (H:Hp) (xs:List V) (os:List (Option (List V))):Prop:=Paired (ThingIs K H) xs os
theorem J7.same {K:PySem.W.Frag} {H H':Hp} {xs:List V} {os:List (Option (List V))} (s:i4 H H') (h:J7 K H xs os):J7 K H' xs os:=Paired.mapP h fun a d z=>z.same s
def U1 (kvs:List (Key × V)) (ns:List Int):Prop:=∀ a:Int,(p7 kvs (.inl a)).isSome = decide (a ∈ ns)
theorem U1.put {kvs:List (Key × V)} {ns:List Int} {a:Int} {v:V} (h:U1 kvs ns):U1 (A0 kvs (.inl a) v) (ns ++ [a]):=fun b=>by
 rw [P8]
 by_cases e:b = a
 ·subst e
  rw [if_pos rfl]
  simp
 ·rw [if_neg (fun z=>e (by injection z)),h b]
  simp [e]
theorem aD2 {kvs:List (Key × V)} {k:Key} {v:V}:(A0 kvs k v).length ≤ kvs.length + 1:=by
 unfold A0
 split <;> simp
def af7 (K:PySem.W.Frag):Sp:=fun vs H Q _=>∃ (x:V) (o:Option (List V)) (F S:Int),vs = [x,.int F,.int S] ∧ ThingIs K H x o ∧ Q (.bl (entryB o F S)) H
def aE7 (K:PySem.W.Frag):Sp:=fun vs H Q _=>∃ (l:Addr) (xs:List V) (os:List (Option (List V))) (F S:Int),vs = [.ref l,.int F,.int S] ∧ SqL K H l xs ∧ J7 K H xs os ∧ xs.length ≤ 64 ∧ ∀ H',i4 H H' → Q (ba9 (o8 F S os [] 0)) H'
section
variable {P:Program} {w:World} {K:PySem.W.Frag} {mg:Str → Option Value} {base:Heap}
theorem am8:FnScope ["thing","firsts","seconds"] ["thing","firsts","seconds"] (d7 (top 11)):=⟨rfl,rfl,rfl,by decide +kernel,rfl,by decide +kernel,by decide +kernel⟩
theorem at8 (T:Txt K mg) (C_is_whole:Callee P w K mg base 2 "is_whole" ["thing","least","most"] (ai1 K)) (D:Def K mg "is_entry" (top 11) ["thing","firsts","seconds"]):Callee P w K mg base 3 "is_entry" ["thing","firsts","seconds"] (af7 K):=by
 refine D.ok am8 (fun vs H Q E h=>?_) (fun f cdv A outer s H vs Q E hr h=>?_)
 ·obtain ⟨x,o,F,S,rfl,_⟩:=h
  rfl
 obtain ⟨x,o,F,S,rfl,hx,q⟩:=h
 refine ⟨_,(d6 (y8 (PW.pt (M4 (L7 (C0 K (i9 (x5 K) rfl T.m_isinstance boot_isinstance (b7 (pv 0) (b7 (K5 (v:=.ty "tuple") rfl T.m_tuple boot_tuple rfl) d5 b8) b8)) (fun _=>rfl))) (O9 (m7 am6 (i9 (u6 K) rfl T.m_len boot_len (b7 (pv 0) d5 b8)) d4 (n9 _))))) (g6 (j8 J6)) n6)
  (g6 (j8 (am3 (m6 C_is_whole hr rfl (b7 (h9 (g7 K) (pv 0) d4 (fun _ _=>rfl)) (b7 d4 (b7 (i6 al8 (pv 1) d4) d5 r6) i0) j6)) (aj7 (m6 C_is_whole hr rfl (b7 (h9 (g7 K) (pv 0) d4 (fun _ _=>rfl)) (b7 d4 (b7 (i6 al8 (pv 2) d4) d5 r6) i0) j6))))))),?_⟩
 cases hx with
 | no ty hk=>exact ⟨_,rfl,_,_,_,false,rfl,ty,hk,false,rfl,T5 q⟩
 | @tup a xs e hp =>
  refine ⟨_,rfl,_,_,_,true,rfl,.tup e,P5,true,rfl,D9 ?_⟩
  refine ⟨_,rfl,a,_,rfl,.inr (SqT.of e),rfl,_,rfl,?_⟩
  match xs,e,hp,q with
  | [u,v],e,hp,q =>
   refine az6 (by simp) ?_
   refine ⟨_,rfl,a,_,_,_,rfl,rfl,SqT.of e,rfl,_,rfl,_,_,rfl,rfl,u,0,F - 1,rfl,hp u (by simp),_,rfl,?_⟩
   refine O7 (fun c=>?_) (fun c=>?_)
   ·have e':entryB (some [u,v]) F S = B2 v 0 (S - 1):=by
     show (B2 u 0 (F - 1) && B2 v 0 (S - 1)) = _
     rw [c,Bool.true_and]
    rw [e'] at q
    exact ⟨_,rfl,a,_,_,_,rfl,rfl,SqT.of e,rfl,_,rfl,_,_,rfl,rfl,v,0,S - 1,rfl,hp v (by simp),q⟩
   ·have e':entryB (some [u,v]) F S = false:=by
     show (B2 u 0 (F - 1) && B2 v 0 (S - 1)) = _
     rw [Bool.eq_false_iff.mpr c]
     rfl
    rw [e'] at q
    exact q
  | [],e,hp,q=>exact aZ4 (by simp) q
  | [u],e,hp,q=>exact aZ4 (by simp) q
  | u :: v :: y :: t,e,hp,q=>exact aZ4 (by simp; lia) q
theorem D2:FnScope ["things","firsts","seconds","ones","others","place","thing"] ["things","firsts","seconds"] (d7 (top 12)):=⟨rfl,rfl,rfl,by decide +kernel,rfl,by decide +kernel,by decide +kernel⟩
set_option maxHeartbeats 2000000 in
theorem aQ3 (T:Txt K mg) (C_is_entry:Callee P w K mg base 3 "is_entry" ["thing","firsts","seconds"] (af7 K)) (D:Def K mg "first_wrong" (top 12) ["things","firsts","seconds"]):Callee P w K mg base 4 "first_wrong" ["things","firsts","seconds"] (aE7 K):=by
 refine D.ok D2 (fun vs H Q E h=>?_) (fun f cdv A outer s H vs Q E hr h=>?_)
 ·obtain ⟨l,xs,os,F,S,rfl,_⟩:=h
  rfl
 obtain ⟨l,xs,os,F,S,rfl,hl,hT,few,q⟩:=h
 have lx:xs.length = os.length:=Paired.length hT
 refine ⟨_,(d6 (i7 (i:=3) D2.nd rfl (Or.inl rfl) V0)
  (d6 (i7 (i:=4) D2.nd rfl (Or.inl rfl) V0)
  (d6 (y6 PassesOwn.never rfl (aE8 K rfl T.m_enumerate (b7 (pv 0) d5 b8)) (aJ3 K rfl D2.nd (Nm.mk (i:=5) rfl (Or.inl rfl) (Or.inl rfl)) (Nm.mk (i:=6) rfl (Or.inl rfl) (Or.inl rfl)))
  (d6 (y8 (PW.pt (M4 (L7 (C0 K (m6 C_is_entry hr rfl (b7 (pv 6) (b7 (pv 1) (b7 (pv 2) d5 b8) b8) b8)) (fun _=>rfl))) (M4 (V9 (V5 (A1 hr) (h9 (g7 K) (pv 6) d4 (fun _ _=>rfl)) (pv 3))) (O9 (V9 (V5 (A1 hr) (h9 (g7 K) (pv 6) d4 (fun _ _=>rfl)) (pv 4))))))) (g6 (j8 (pv 5))) n6)
  (d6 (K2 (A1 hr) (pv 3) (h9 (g7 K) (pv 6) d4 (fun _ _=>rfl)) J6 rfl)
  (g6 (K2 (A1 hr) (pv 4) (h9 (g7 K) (pv 6) d4 (fun _ _=>rfl)) J6 rfl)))))
  (g6 (j8 L5))))),?_⟩
 refine fun d1 hd1=>?_
 have s1:=d8 hd1 (.dK [])
 have e1:=b9 (H:=H) (a:=d1) (o:=.dK [])
 generalize upd H d1 (.dK []) = H1 at s1 e1 ⊢
 refine fun d2 hd2=>?_
 have s2':=d8 hd2 (.dK [])
 have e2:=b9 (H:=H1) (a:=d2) (o:=.dK [])
 generalize upd H1 d2 (.dK []) = H2 at s2' e2 ⊢
 have s2:=s1.trans s2'
 have hd2':H d2 = none:=s1.free hd2
 have n12:d1 ≠ d2:=g9 e1 hd2
 refine ⟨_,rfl,l,xs,rfl,s2.seq hl,?_⟩
 refine at1 (xs:=xs) (fun i σ G=>i4 H G ∧ ∃ (ps:List (Int × Int)) (kv1 kv2:List (Key × V)) (v5 v6:Option V),o8 F S os [] 0 = o8 F S (os.drop i) ps i ∧ G d1 = some (.dK kv1) ∧ G d2 = some (.dK kv2) ∧ U1 kv1 (ps.map Prod.fst) ∧ U1 kv2 (ps.map Prod.snd) ∧ kv1.length ≤ i ∧ kv2.length ≤ i ∧ σ = [some (.ref l),some (.int F),some (.int S),some (.ref d1),some (.ref d2),v5,v6])
  ⟨s2,[],[],[],none,none,rfl,s2' _ _ e1,e2,(fun a=>rfl),(fun a=>rfl),Nat.le_refl _,Nat.le_refl _,rfl⟩ (fun i σ G _ g=>g.1.seq hl) ?_ ?_
 ·rintro i x σ G p hx ⟨sG,ps,kv1,kv2,v5,v6,fe,f1,f2,k1,k2,l1,l2,rfl⟩ hp
  obtain ⟨o,ho,hth⟩:=p4 hT i x hx
  have hi:=(List.getElem?_eq_some_iff.mp hx).1
  have sp:=d8 hp (.tup [.int (i:Nat),x])
  have ep:=b9 (H:=G) (a:=p) (o:=.tup [.int (i:Nat),x])
  have f1':=sp _ _ f1
  have f2':=sp _ _ f2
  have sG':=sG.trans sp
  generalize upd G p (.tup [.int (i:Nat),x]) = G1 at sp ep f1' f2' sG' ⊢
  refine ⟨p,[.int (i:Nat),x],rfl,SqT.of ep,rfl,.int (i:Nat),[x],rfl,x,[],rfl,rfl,?_⟩
  have bad:X1 ps F S o = true → Q (.int (i:Nat)) G1:=fun b=>by
   have:=q G1 sG'
   rw [fe,au9 ho b] at this
   exact this
  refine ⟨_,rfl,_,rfl,_,rfl,x,o,F,S,rfl,hth.same sG',?_⟩
  cases hb:entryB o F S with
  | false =>
   refine ⟨_,rfl,T5 ⟨_,rfl,bad ?_⟩⟩
   unfold X1
   rw [hb]
   rfl
  | true =>
   refine ⟨_,rfl,D9 ?_⟩
   have eo:=ai0 hb
   have hth1:=hth.same sG'
   rw [eo] at hth1
   cases hth1 with
   | @tup t _ et hpt =>
   refine ⟨_,rfl,t,_,_,_,rfl,rfl,SqT.of et,rfl,_,rfl,d1,_,rfl,E3.k (k:=.inl (A8 o).1) f1',_,rfl,?_⟩
   rw [k1]
   refine O7 (fun c1=>⟨_,rfl,bad ?_⟩) (fun c1=>?_)
   ·unfold X1
    rw [hb,c1]
    rfl
   refine ⟨_,rfl,t,_,_,_,rfl,rfl,SqT.of et,rfl,_,rfl,d2,_,rfl,E3.k (k:=.inl (A8 o).2) f2',_,rfl,?_⟩
   rw [k2]
   refine O7 (fun c2=>⟨_,rfl,bad ?_⟩) (fun c2=>?_)
   ·unfold X1
    rw [hb,c2,Bool.or_true]
    rfl
   have nb:X1 ps F S o = false:=by
    unfold X1
    rw [hb,Bool.eq_false_iff.mpr c1,Bool.eq_false_iff.mpr c2]
    rfl
   refine ⟨_,rfl,_,rfl,t,_,_,_,rfl,rfl,SqT.of et,rfl,d1,_,rfl,S2.k (k:=.inl (A8 o).1) f1' (Nat.lt_of_le_of_lt l1 (m3 (by lia))),?_⟩
   have nt1:t ≠ d1:=fun z=>by rw [z,f1'] at et; cases et
   have et2:upd G1 d1 (.dK (A0 kv1 (.inl (A8 o).1) (.bl true))) t = some (.tup [.int (A8 o).1,.int (A8 o).2]):=by rw [d9 nt1]; exact et
   have f22:upd G1 d1 (.dK (A0 kv1 (.inl (A8 o).1) (.bl true))) d2 = some (.dK kv2):=by rw [d9 (Ne.symm n12)]; exact f2'
   have f12:=b9 (H:=G1) (a:=d1) (o:=.dK (A0 kv1 (.inl (A8 o).1) (.bl true)))
   have sG2:i4 H (upd G1 d1 (.dK (A0 kv1 (.inl (A8 o).1) (.bl true)))):=i4.put sG' hd1
   generalize upd G1 d1 (.dK (A0 kv1 (.inl (A8 o).1) (.bl true))) = G2 at et2 f22 f12 sG2 ⊢
   refine ⟨_,rfl,_,rfl,t,_,_,_,rfl,rfl,SqT.of et2,rfl,d2,_,rfl,S2.k (k:=.inl (A8 o).2) f22 (Nat.lt_of_le_of_lt l2 (m3 (by lia))),?_⟩
   refine ⟨i4.put sG2 hd2',ps ++ [A8 o],_,_,_,_,fe.trans (aN8 ho nb),by rw [d9 n12]; exact f12,b9,?_,?_,Nat.le_trans aD2 (by lia),Nat.le_trans aD2 (by lia),rfl⟩
   ·rw [List.map_append]
    exact k1.put
   ·rw [List.map_append]
    exact k2.put
 ·rintro σ G ⟨sG,ps,kv1,kv2,v5,v6,fe,f1,f2,k1,k2,l1,l2,rfl⟩
  have:=q G sG
  rw [fe,aG9 (by lia)] at this
  exact this
end
def T2 (F:Int) (cs fs:List Int):Prop:=(cs ++ fs).Nodup ∧ ∀ x ∈ cs ++ fs,0 ≤ x ∧ x < F
theorem T2.pop {F x:Int} {cs cs' fs:List Int} (h:T2 F cs fs) (p:(x :: cs').Perm cs):T2 F cs' (fs ++ [x]):=by
 have q:(cs' ++ (fs ++ [x])).Perm (cs ++ fs):=by
  have h1:(cs' ++ (fs ++ [x])).Perm ([x] ++ (cs' ++ fs)):=by
   rw [← List.append_assoc]
   exact List.perm_append_comm
  have h2:([x] ++ (cs' ++ fs)).Perm (cs ++ fs):=by
   rw [← List.append_assoc]
   exact List.Perm.append_right fs p
  exact h1.trans h2
 exact ⟨q.nodup_iff.mpr h.1,fun y hy=>h.2 y (q.mem_iff.mp hy)⟩
theorem U4 {F:Int} (h0:0 ≤ F):T2 F ((List.range F.toNat).map fun (k:Nat)=>(k:Int)) []:=by
 rw [T2,List.append_nil]
 refine ⟨?_,fun x hx=>?_⟩
 ·rw [List.nodup_iff_pairwise_ne,List.pairwise_map]
  exact List.nodup_range.imp fun {a b} h z=>h (by lia)
 ·obtain ⟨k,hk,rfl⟩:=List.mem_map.mp hx
  have:=List.mem_range.mp hk
  lia
theorem aY4 {bs:List Int} {i:Nat} (hi:i < bs.length):seqIndex? (i:Int) (bs.map V.int).length = some i ∧ (bs.map V.int)[i]? = some (.int (bs[i]'hi)) ∧ (bs.map V.int).eraseIdx i = (bs.eraseIdx i).map V.int:=by
 refine ⟨?_,by rw [List.getElem?_map,List.getElem?_eq_getElem hi]; rfl,?_⟩
 ·unfold seqIndex?
  rw [List.length_map]
  simp
  lia
 ·rw [List.eraseIdx_eq_take_drop_succ,List.eraseIdx_eq_take_drop_succ,List.map_append,List.map_take,List.map_drop]
theorem J5 {cs:List Int} {j:Nat} (hj:j < cs.length):(cs[j]'hj :: cs.eraseIdx j).Perm cs:=by
 have e:cs = cs.take j ++ cs[j]'hj :: cs.drop (j + 1):=by rw [← List.drop_eq_getElem_cons hj,List.take_append_drop]
 rw [List.eraseIdx_eq_take_drop_succ]
 conv=>rhs; rw [e]
 exact List.perm_middle.symm
theorem ai7 {G:Hp} {l:Addr} {cs:List Int} {i:Int} {Q:VK} (e:G l = some (.lst (cs.map V.int))) (few:cs.length ≤ 200) (h0:0 ≤ i) (h1:i < (cs.length:Nat)) (q:∀ (x:Int) (cs':List Int),(x :: cs').Perm cs → Q (.int x) (upd G l (.lst (cs'.map V.int)))):ax9 (.ref l) [.int i] G Q:=by
 obtain ⟨j,rfl⟩:=Int.eq_ofNat_of_zero_le h0
 have hj:j < cs.length:=by lia
 obtain ⟨p1,p2,p3⟩:=aY4 hj
 refine ⟨l,_,_,j,_,rfl,rfl,e,by lia,by lia,p1,p2,?_⟩
 rw [p3]
 exact q _ _ (J5 hj)
structure TabOk (h:Hall) (ps:List (Int × Int)):Prop where
 n1:(ps.map Prod.fst).Nodup
 n2:(ps.map Prod.snd).Nodup
 b:∀ p ∈ ps,(0 ≤ p.1 ∧ p.1 < h.i * h.c) ∧ 0 ≤ p.2 ∧ p.2 < h.o * h.e
theorem aO5 {h:Hall} {ps:List (Int × Int)} {cs es:List Int} (l1:T2 (h.i * h.c) cs (ps.map Prod.fst)) (l2:T2 (h.o * h.e) es (ps.map Prod.snd)):TabOk h ps :=
 ⟨(List.nodup_append.mp l1.1).2.1,(List.nodup_append.mp l2.1).2.1,fun p hp=>⟨l1.2 _ (List.mem_append_right _ (List.mem_map_of_mem hp)),l2.2 _ (List.mem_append_right _ (List.mem_map_of_mem hp))⟩⟩
def aC1 (K:PySem.W.Frag):Sp:=fun vs H Q _=>∃ (p l:Addr) (h:Hall) (n m:Int),vs = [.ref p,.ref l,.int m] ∧ SqT K H p (h.row.map V.int) ∧ h.Ok ∧ H l = some (.lst [.int n]) ∧ 0 ≤ m ∧ m ≤ 60 ∧ ∀ (r:Addr) (as:List Addr) (ps:List (Int × Int)) (H':Hp),O3 l H H' → H r = none → H' r = some (.lst (as.map V.ref)) → o6 H' as ps → TabOk h ps → (ps.length:Int) ≤ m → Q (.ref r) H'
def aE5 (K:PySem.W.Frag):Sp:=fun vs H Q _=>∃ (a p:Addr) (ns:List Int) (h:Hall) (la:Int),vs = [.ref a,.ref p,.int 4,.int la] ∧ SqL K H a (ns.map V.int) ∧ ns.length ≤ 63 ∧ SqT K H p (h.row.map V.int) ∧ h.Ok ∧ 4 ≤ la ∧ la ≤ 63 ∧ ∀ (r:Addr) (as:List Addr) (ps:List (Int × Int)) (H':Hp),i4 H H' → H r = none → H' r = some (.lst (as.map V.ref)) → o6 H' as ps → TabOk h ps → ps.length ≤ 59 → Q (.ref r) H'
section
variable {P:Program} {w:World} {K:PySem.W.Frag} {mg:Str → Option Value} {base:Heap}
theorem O0 {G:Hp} {F:Int} {Q:VK} (h0:0 ≤ F) (h1:F ≤ 144) (q:∀ (l:Addr) (G':Hp),i4 G G' → G l = none → G' l = some (.lst (((List.range F.toNat).map fun (k:Nat)=>(k:Int)).map V.int)) → Q (.ref l) G'):∀ r,G r = none → aM7 [.ref r] (upd G r (aj6 r F)) Q:=by
 intro r hr1
 have s1:=d8 hr1 (aj6 r F)
 have er:upd G r (aj6 r F) r = some (aj6 r (F.toNat:Nat)):=by rw [b9,Int.toNat_of_nonneg h0]
 refine ⟨r,F.toNat,rfl,er,by lia,fun l0 hl0=>?_⟩
 refine q l0 _ (s1.trans (d8 hl0 _)) (s1.free hl0) ?_
 rw [b9,List.map_map]
 rfl
theorem p9:FnScope ["_law_hall_here","_law_left","_law_most","_law_callers","_law_ends","_law_found","_law_k","_law_caller"] ["_law_hall_here","_law_left","_law_most"] (d7 (top 38)):=⟨rfl,rfl,rfl,by decide +kernel,rfl,by decide +kernel,by decide +kernel⟩
set_option maxHeartbeats 2000000 in
theorem aM6 (T:Txt K mg) (C__law_digit:Callee P w K mg base 1 "_law_digit" ["_law_left","_law_many"] ak5) (D:Def K mg "_law_free_table" (top 38) ["_law_hall_here","_law_left","_law_most"]):Callee P w K mg base 2 "_law_free_table" ["_law_hall_here","_law_left","_law_most"] (aC1 K):=by
 refine D.ok p9 (fun vs H Q E h=>?_) (fun f cdv A outer s H vs Q E hr h=>?_)
 ·obtain ⟨p,l,h,n,m,rfl,_⟩:=h
  rfl
 obtain ⟨p,l,h,n,m,rfl,hH,ok,el,m0,m60,q⟩:=h
 have oic:=ok.ic
 have ooe:=ok.oe
 have b1:=ok.i
 have b2:=ok.c
 have b3:=ok.o
 have b4:=ok.e
 refine ⟨_,(d6 (i7 (i:=3) p9.nd rfl (Or.inl rfl) (w4 (E6 rfl) rfl T.m_list boot_list (b7 (w4 D3 rfl T.m_range boot_range (b7 (i6 K7 (h9 (g7 K) (pv 0) d4 (fun _ _=>rfl)) (h9 (g7 K) (pv 0) d4 (fun _ _=>rfl))) d5 r6)) d5 m8)))
  (d6 (i7 (i:=4) p9.nd rfl (Or.inl rfl) (w4 (E6 rfl) rfl T.m_list boot_list (b7 (w4 D3 rfl T.m_range boot_range (b7 (i6 K7 (h9 (g7 K) (pv 0) d4 (fun _ _=>rfl)) (h9 (g7 K) (pv 0) d4 (fun _ _=>rfl))) d5 r6)) d5 m8)))
  (d6 (i7 (i:=5) p9.nd rfl (Or.inl rfl) (C4 d5))
  (d6 (y6 PassesOwn.never rfl (J4 rfl T.m_range (b7 (m6 C__law_digit hr rfl (b7 (pv 1) (b7 (i6 A4 (pv 2) d4) d5 r6) b8)) d5 m8)) (o9 (i:=6) p9.nd rfl (Or.inl rfl))
  (g6 (y8 (PW.pt (aL9 (m7 (Q8 K (Room.units0 hr)) (pv 3) (C4 d5) (n9 _)) (aE3 (m7 (Q8 K (Room.units0 hr)) (pv 4) (C4 d5) (n9 _))))) (d6 (i7 (i:=7) p9.nd rfl (Or.inl rfl) (K8 K PySem.F.plainAttrs_list PySem.F.slot_list_pop PySem.F.type_list_pop Q1 (pv 3) (b7 (m6 C__law_digit hr rfl (b7 (pv 1) (b7 (i9 (u6 K) rfl T.m_len boot_len (b7 (pv 3) d5 b8)) d5 m8) b8)) d5 m8)))
  (g6 (A6 (K8 K PySem.F.plainAttrs_list PySem.F.slot_list_append PySem.F.type_list_append D8 (pv 5) (b7 (m9 (b7 (pv 7) (b7 (K8 K PySem.F.plainAttrs_list PySem.F.slot_list_pop PySem.F.type_list_pop Q1 (pv 4) (b7 (m6 C__law_digit hr rfl (b7 (pv 1) (b7 (i9 (u6 K) rfl T.m_len boot_len (b7 (pv 4) d5 b8)) d5 m8) b8)) d5 m8)) d5 m8) b8)) d5 P0))))) n6)))
  (g6 (j8 (pv 5))))))),?_⟩
 refine ⟨_,rfl,p,_,_,_,rfl,rfl,hH,rfl,_,rfl,p,_,_,_,rfl,rfl,hH,rfl,_,_,rfl,rfl,.inl ⟨by lia,by lia⟩,_,rfl,?_⟩
 dsimp only [V4]
 refine O0 (F:=h.i * h.c) (by lia) (by lia) fun lc H1 s1 hlc ec=>?_
 have hH1:=i4.seqT s1 hH
 refine ⟨_,rfl,p,_,_,_,rfl,rfl,hH1,rfl,_,rfl,p,_,_,_,rfl,rfl,hH1,rfl,_,_,rfl,rfl,.inl ⟨by lia,by lia⟩,_,rfl,?_⟩
 dsimp only [V4]
 refine O0 (F:=h.o * h.e) (by lia) (by lia) fun le H2 s2' hle ee=>?_
 have s2:=s1.trans s2'
 have ec2:=s2' _ _ ec
 have hle0:=s1.free hle
 refine ⟨(by show 0 ≤ sizeLine; decide),fun r hr0=>?_⟩
 have s3':=d8 hr0 (.lst [])
 have er:=b9 (H:=H2) (a:=r) (o:=.lst [])
 generalize upd H2 r (.lst []) = H3 at s3' er ⊢
 have s3:=s2.trans s3'
 have hr00:=s2.free hr0
 have el3:=s3 _ _ el
 have nlc:l ≠ lc:=g9 el hlc
 have nle:l ≠ le:=g9 el hle0
 have nlr:l ≠ r:=g9 el hr00
 have nce:lc ≠ le:=g9 ec hle
 have ncr:lc ≠ r:=g9 ec2 hr0
 have ner:le ≠ r:=g9 ee hr0
 refine ⟨_,rfl,_,rfl,_,_,rfl,rfl,l,n,m + 1,rfl,el3,by lia,by lia,?_⟩
 have k1:=Int.emod_nonneg n (show m + 1 ≠ 0 by lia)
 have k2:=Int.emod_lt_of_pos n (show 0 < m + 1 by lia)
 refine ⟨_,rfl,by lia,by lia,?_⟩
 have c0:∀ {H':Hp},O3 l H3 H' → H' lc = some (.lst (((List.range (h.i * h.c).toNat).map fun (k:Nat)=>(k:Int)).map V.int)):=fun s=>s _ _ (Ne.symm nlc) (s3' _ _ ec2)
 have w0:O3 l H3 (upd H3 l (.lst [.int (n / (m + 1))])):=fun b u nb z=>by rw [d9 nb]; exact z
 have len1:((List.range (h.i * h.c).toNat).map fun (k:Nat)=>(k:Int)).length ≤ 144:=by rw [List.length_map,List.length_range]; lia
 have len2:((List.range (h.o * h.e).toNat).map fun (k:Nat)=>(k:Int)).length ≤ 144:=by rw [List.length_map,List.length_range]; lia
 refine M8 (lo:=0) (n:=(n % (m + 1)).toNat) (fun i σ G=>O3 l H G ∧ (∃ n',G l = some (.lst [.int n'])) ∧ (∃ as ps cs es,G r = some (.lst (as.map V.ref)) ∧ o6 G as ps ∧ G lc = some (.lst (cs.map V.int)) ∧ G le = some (.lst (es.map V.int)) ∧ cs.length ≤ 144 ∧ es.length ≤ 144 ∧ T2 (h.i * h.c) cs (ps.map Prod.fst) ∧ T2 (h.o * h.e) es (ps.map Prod.snd) ∧ ps.length ≤ i) ∧ ∃ v6 v7,σ = [some (.ref p),some (.ref l),some (.int m),some (.ref lc),some (.ref le),some (.ref r),v6,v7])
  ⟨fun b u nb z=>w0 b u nb (s3 _ _ z),⟨_,b9⟩,⟨[],[],_,_,w0 _ _ (Ne.symm nlr) er,.nil,c0 w0,w0 _ _ (Ne.symm nle) (s3' _ _ ee),len1,len2,U4 (by lia),U4 (by lia),Nat.le_refl _⟩,none,none,rfl⟩ ?_ ?_
 ·rintro i σ G hi ⟨sx,⟨n',eL⟩,⟨as,ps,cs,es,e1,e2,e3,e4,lc1,lc2,L1,L2,pl⟩,v6,v7,rfl⟩
  refine ⟨_,rfl,(by show 0 ≤ sizeLine; decide),fun z1 hz1=>?_⟩
  have t1:=d8 hz1 (.lst [])
  have f1:=b9 (H:=G) (a:=z1) (o:=.lst [])
  generalize upd G z1 (.lst []) = G1 at t1 f1 ⊢
  refine ⟨lc,z1,_,rfl,rfl,SqL.of (t1 _ _ e3),SqL.of f1,_,rfl,?_⟩
  have stay:∀ {G':Hp},i4 G G' → O3 l H G' ∧ (∃ n',G' l = some (.lst [.int n'])) ∧ (∃ as ps cs es,G' r = some (.lst (as.map V.ref)) ∧ o6 G' as ps ∧ G' lc = some (.lst (cs.map V.int)) ∧ G' le = some (.lst (es.map V.int)) ∧ cs.length ≤ 144 ∧ es.length ≤ 144 ∧ T2 (h.i * h.c) cs (ps.map Prod.fst) ∧ T2 (h.o * h.e) es (ps.map Prod.snd) ∧ ps.length ≤ i + 1):=fun s=>⟨fun b u nb z=>s _ _ (sx b u nb z),⟨n',s _ _ eL⟩,as,ps,cs,es,s _ _ e1,e2.mono fun a xs z=>s _ _ z,s _ _ e3,s _ _ e4,lc1,lc2,L1,L2,by lia⟩
  refine O7 (fun z=>?_) (fun z=>?_)
  rotate_left
  ·obtain ⟨a1,a2,a3⟩:=stay t1
   exact ⟨a1,a2,a3,_,_,rfl⟩
  refine ⟨_,rfl,(by show 0 ≤ sizeLine; decide),fun z2 hz2=>?_⟩
  have t2':=d8 hz2 (.lst [])
  have f2:=b9 (H:=G1) (a:=z2) (o:=.lst [])
  generalize upd G1 z2 (.lst []) = G2 at t2' f2 ⊢
  have t2:=t1.trans t2'
  refine ⟨le,z2,_,rfl,rfl,SqL.of (t2 _ _ e4),SqL.of f2,_,rfl,?_⟩
  refine O7 (fun y=>?_) (fun y=>?_)
  rotate_left
  ·obtain ⟨a1,a2,a3⟩:=stay t2
   exact ⟨a1,a2,a3,_,_,rfl⟩
  have pc:0 < cs.length:=by
   cases cs with
   | nil=>exact absurd z (by decide)
   | cons x t=>exact Nat.succ_pos _
  have pe:0 < es.length:=by
   cases es with
   | nil=>exact absurd y (by decide)
   | cons x t=>exact Nat.succ_pos _
  have eL2:=t2 _ _ eL
  have e12:=t2 _ _ e1
  have e22:o6 G2 as ps:=e2.mono fun a xs z=>t2 _ _ z
  have e32:=t2 _ _ e3
  have e42:=t2 _ _ e4
  have sx2:O3 l H G2:=fun b u nb z=>t2 _ _ (sx b u nb z)
  clear t2' f1 f2 hz1 hz2
  have hm1:=al6 (x:=n') (d:=((cs.map V.int).length:Int)) (by rw [List.length_map]; lia)
  refine ⟨_,rfl,.inl ⟨rfl,_,SqL.of e32⟩,_,rfl,_,rfl,lc,_,rfl,.inl (SqL.of e32),l,n',_,rfl,eL2,by rw [List.length_map]; lia,by rw [List.length_map]; lia,?_⟩
  have g1:∀ b u,b ≠ l → G2 b = some u → upd G2 l (.lst [.int (n' / ((cs.map V.int).length:Int))]) b = some u:=fun b u nb z=>by rw [d9 nb]; exact z
  have gl:=b9 (H:=G2) (a:=l) (o:=.lst [.int (n' / ((cs.map V.int).length:Int))])
  dsimp only
  generalize n' % ((cs.map V.int).length:Int) = j1 at hm1 ⊢
  generalize n' / ((cs.map V.int).length:Int) = q1 at g1 gl ⊢
  generalize upd G2 l (.lst [.int q1]) = G3 at g1 gl ⊢
  rw [List.length_map] at hm1
  dsimp only [V4]
  refine ai7 (g1 _ _ (Ne.symm nlc) e32) (by lia) hm1.1 hm1.2 fun x cs' pm=>?_
  have ec4:=b9 (H:=G3) (a:=lc) (o:=.lst (cs'.map V.int))
  have g2:∀ b u,b ≠ l → b ≠ lc → G2 b = some u → upd G3 lc (.lst (cs'.map V.int)) b = some u:=fun b u n1 n2 z=>by rw [d9 n2]; exact g1 b u n1 z
  have gl2:upd G3 lc (.lst (cs'.map V.int)) l = some (.lst [.int q1]):=by rw [d9 nlc]; exact gl
  generalize upd G3 lc (.lst (cs'.map V.int)) = G4 at ec4 g2 gl2 ⊢
  have e44:=g2 _ _ (Ne.symm nle) (Ne.symm nce) e42
  have e14:=g2 _ _ (Ne.symm nlr) (Ne.symm ncr) e12
  have hm2:=al6 (x:=q1) (d:=((es.map V.int).length:Int)) (by rw [List.length_map]; lia)
  refine ⟨_,rfl,.inl ⟨rfl,_,SqL.of e14⟩,_,rfl,_,rfl,.inl ⟨rfl,_,SqL.of e44⟩,_,rfl,_,rfl,le,_,rfl,.inl (SqL.of e44),l,q1,_,rfl,gl2,by rw [List.length_map]; lia,by rw [List.length_map]; lia,?_⟩
  have g3:∀ b u,b ≠ l → G4 b = some u → upd G4 l (.lst [.int (q1 / ((es.map V.int).length:Int))]) b = some u:=fun b u nb z=>by rw [d9 nb]; exact z
  have gl3:=b9 (H:=G4) (a:=l) (o:=.lst [.int (q1 / ((es.map V.int).length:Int))])
  dsimp only
  generalize q1 % ((es.map V.int).length:Int) = j2 at hm2 ⊢
  generalize q1 / ((es.map V.int).length:Int) = q2 at g3 gl3 ⊢
  generalize upd G4 l (.lst [.int q2]) = G5 at g3 gl3 ⊢
  rw [List.length_map] at hm2
  dsimp only [V4]
  refine ai7 (g3 _ _ (Ne.symm nle) e44) (by lia) hm2.1 hm2.2 fun y' es' pm2=>?_
  have ee6:=b9 (H:=G5) (a:=le) (o:=.lst (es'.map V.int))
  have g4:∀ b u,b ≠ l → b ≠ lc → b ≠ le → G2 b = some u → upd G5 le (.lst (es'.map V.int)) b = some u:=fun b u n1 n2 n3 z=>by rw [d9 n3]; exact g3 b u n1 (g2 b u n1 n2 z)
  have gl4:upd G5 le (.lst (es'.map V.int)) l = some (.lst [.int q2]):=by rw [d9 nle]; exact gl3
  have ec6:upd G5 le (.lst (es'.map V.int)) lc = some (.lst (cs'.map V.int)):=by rw [d9 nce]; exact g3 _ _ (Ne.symm nlc) ec4
  generalize upd G5 le (.lst (es'.map V.int)) = G6 at ee6 g4 gl4 ec6 ⊢
  refine ⟨(by show 2 ≤ sizeLine; decide),fun tp htp=>?_⟩
  have t7:=d8 htp (.tup [.int x,.int y'])
  have etp:=b9 (H:=G6) (a:=tp) (o:=.tup [.int x,.int y'])
  generalize upd G6 tp (.tup [.int x,.int y']) = G7 at t7 etp ⊢
  have e17:=t7 _ _ (g4 _ _ (Ne.symm nlr) (Ne.symm ncr) (Ne.symm ner) e12)
  have la:as.length = ps.length:=Paired.length e2
  refine ⟨r,_,_,rfl,rfl,e17,m3 (by rw [List.length_map]; lia),?_⟩
  have tup2:∀ a xs,G2 a = some (.tup xs) → upd G7 r (.lst (as.map V.ref ++ [.ref tp])) a = some (.tup xs):=fun a xs z=>by
   rw [d9 (fun y=>by rw [y,e12] at z; cases z)]
   exact t7 _ _ (g4 _ _ (fun y=>by rw [y,eL2] at z; cases z) (fun y=>by rw [y,e32] at z; cases z) (fun y=>by rw [y,e42] at z; cases z) z)
  have lx:cs'.length + 1 = cs.length:=pm.length_eq
  have ly:es'.length + 1 = es.length:=pm2.length_eq
  refine ⟨fun b u nb z=>?_,⟨q2,by rw [d9 nlr]; exact t7 _ _ gl4⟩,⟨as ++ [tp],ps ++ [(x,y')],cs',es',by rw [b9,List.map_append]; rfl,(e22.mono tup2).snoc ?_,by rw [d9 ncr]; exact t7 _ _ ec6,by rw [d9 ner]; exact t7 _ _ ee6,by lia,by lia,?_,?_,by rw [List.length_append,List.length_singleton]; lia⟩,_,_,rfl⟩
  ·rw [d9 (g9 z hr00)]
   exact t7 _ _ (g4 _ _ nb (g9 z hlc) (g9 z hle0) (sx2 b u nb z))
  ·rw [d9 (fun y=>by rw [y,e17] at etp; cases etp)]
   exact etp
  ·rw [List.map_append]
   exact L1.pop pm
  ·rw [List.map_append]
   exact L2.pop pm2
 ·rintro σ G ⟨sx,_,⟨as,ps,cs,es,e1,e2,e3,e4,lc1,lc2,L1,L2,pl⟩,v6,v7,rfl⟩
  exact ⟨_,rfl,q r as ps G sx hr00 e1 e2 (aO5 L1 L2) (by lia)⟩
end
theorem aW8 {i:Int} (h0:0 ≤ i) (h1:i < 4):∃ x:Int,atI [V.int 1,.int 2,.int 5,.int 200] i = some (.int x) ∧ 1 ≤ x:=by
 obtain rfl | rfl | rfl | rfl:i = 0 ∨ i = 1 ∨ i = 2 ∨ i = 3:=by lia
 ·exact ⟨1,rfl,by decide⟩
 ·exact ⟨2,rfl,by decide⟩
 ·exact ⟨5,rfl,by decide⟩
 ·exact ⟨200,rfl,by decide⟩
section
variable {P:Program} {w:World} {K:PySem.W.Frag} {mg:Str → Option Value} {base:Heap}
theorem p6:FnScope ["_law_script","_law_hall_here","_law_start","_law_last","_law_callers","_law_ends","_law_first","_law_near","_law_far","_law_found","_law_k","_law_number","_law_caller"] ["_law_script","_law_hall_here","_law_start","_law_last"] (d7 (top 39)):=⟨rfl,rfl,rfl,by decide +kernel,rfl,by decide +kernel,by decide +kernel⟩
set_option maxHeartbeats 4000000 in
theorem aL2 (T:Txt K mg) (C__law_cell_at:Callee P w K mg base 1 "_law_cell_at" ["_law_script","_law_k"] (ax5 K)) (C__law_mixed:Callee P w K mg base 1 "_law_mixed" ["_law_cell","_law_k"] Z4) (C__law_free_table:Callee P w K mg base 2 "_law_free_table" ["_law_hall_here","_law_left","_law_most"] (aC1 K)) (D:Def K mg "_law_table" (top 39) ["_law_script","_law_hall_here","_law_start","_law_last"]):Callee P w K mg base 3 "_law_table" ["_law_script","_law_hall_here","_law_start","_law_last"] (aE5 K):=by
 refine D.ok p6 (fun vs H Q E h=>?_) (fun f cdv A outer s H vs Q E hr h=>?_)
 ·obtain ⟨a,p,ns,h,la,rfl,_⟩:=h
  rfl
 obtain ⟨a,p,ns,h,la,rfl,hS,h63,hH,ok,la4,la63,q⟩:=h
 have oic:=ok.ic
 have ooe:=ok.oe
 have b1:=ok.i
 have b2:=ok.c
 have b3:=ok.o
 have b4:=ok.e
 refine ⟨_,(d6 (y8 (m7 S1 (i6 p8 (m6 C__law_cell_at hr rfl (b7 (pv 0) (b7 d4 d5 i0) b8)) d4) d4 (n9 _)) (g6 (j8 (m6 C__law_free_table hr rfl (b7 (pv 1) (b7 (C4 (b7 (i9 aa4 rfl T.m_abs boot_abs (b7 (m6 C__law_cell_at hr rfl (b7 (pv 0) (b7 (pv 2) d5 b8) b8)) d5 m8)) d5 m8)) (b7 (i6 al8 (pv 3) (pv 2)) d5 r6) aS4) b8)))) n6)
  (d6 (i7 (i:=4) p6.nd rfl (Or.inl rfl) (w4 (E6 rfl) rfl T.m_list boot_list (b7 (w4 D3 rfl T.m_range boot_range (b7 (i6 K7 (h9 (g7 K) (pv 1) d4 (fun _ _=>rfl)) (h9 (g7 K) (pv 1) d4 (fun _ _=>rfl))) d5 r6)) d5 m8)))
  (d6 (i7 (i:=5) p6.nd rfl (Or.inl rfl) (w4 (E6 rfl) rfl T.m_list boot_list (b7 (w4 D3 rfl T.m_range boot_range (b7 (i6 K7 (h9 (g7 K) (pv 1) d4 (fun _ _=>rfl)) (h9 (g7 K) (pv 1) d4 (fun _ _=>rfl))) d5 r6)) d5 m8)))
  (d6 (i7 (i:=6) p6.nd rfl (Or.inl rfl) (m6 C__law_mixed hr rfl (b7 (m6 C__law_cell_at hr rfl (b7 (pv 0) (b7 d4 d5 i0) b8)) (b7 d4 d5 i0) m8)))
  (d6 (i7 (i:=7) p6.nd rfl (Or.inl rfl) (h9 (x8 K) (C4 (b7 d4 (b7 d4 (b7 d4 (b7 d4 d5 i0) i0) i0) i0)) (i6 p8 (pv 6) d4) (fun _ _=>rfl)))
  (d6 (i7 (i:=8) p6.nd rfl (Or.inl rfl) (h9 (x8 K) (C4 (b7 d4 (b7 d4 (b7 d4 (b7 d4 d5 i0) i0) i0) i0)) (i6 p8 (i6 x6 (pv 6) d4) d4) (fun _ _=>rfl)))
  (d6 (i7 (i:=9) p6.nd rfl (Or.inl rfl) (C4 d5))
  (d6 (y6 PassesOwn.never rfl (aF2 rfl T.m_range (b7 (pv 2) (b7 (i9 (V6 rfl) rfl T.m_min boot_min (b7 (i9 (u6 K) rfl T.m_len boot_len (b7 (pv 0) d5 b8)) (b7 (pv 3) d5 b8) m8)) d5 m8) b8)) (o9 (i:=10) p6.nd rfl (Or.inl rfl))
  (g6 (y8 (PW.pt (aL9 (m7 (Q8 K (Room.units0 hr)) (pv 4) (C4 d5) (n9 _)) (aE3 (m7 (Q8 K (Room.units0 hr)) (pv 5) (C4 d5) (n9 _))))) (d6 (i7 (i:=11) p6.nd rfl (Or.inl rfl) (m6 C__law_mixed hr rfl (b7 (h9 (x8 K) (pv 0) (pv 10) (fun _ _=>rfl)) (b7 (pv 10) d5 b8) j6)))
  (d6 (i7 (i:=12) p6.nd rfl (Or.inl rfl) (K8 K PySem.F.plainAttrs_list PySem.F.slot_list_pop PySem.F.type_list_pop Q1 (pv 4) (b7 (i6 p8 (pv 11) (i9 (V6 rfl) rfl T.m_min boot_min (b7 (i9 (u6 K) rfl T.m_len boot_len (b7 (pv 4) d5 b8)) (b7 (pv 7) d5 b8) m8))) d5 r6)))
  (g6 (A6 (K8 K PySem.F.plainAttrs_list PySem.F.slot_list_append PySem.F.type_list_append D8 (pv 9) (b7 (m9 (b7 (pv 12) (b7 (K8 K PySem.F.plainAttrs_list PySem.F.slot_list_pop PySem.F.type_list_pop Q1 (pv 5) (b7 (i6 p8 (i6 x6 (pv 11) d4) (i9 (V6 rfl) rfl T.m_min boot_min (b7 (i9 (u6 K) rfl T.m_len boot_len (b7 (pv 5) d5 b8)) (b7 (pv 8) d5 b8) m8))) d5 r6)) d5 m8) b8)) d5 P0)))))) n6)))
  (g6 (j8 (pv 9))))))))))),?_⟩
 refine ⟨_,rfl,a,ns,0,rfl,hS,_,_,rfl,rfl,(by show (0:Int) < 2; decide),rfl,_,rfl,?_⟩
 refine O7 (fun _=>?_) (fun _=>?_)
 ·refine ⟨_,rfl,_,rfl,_,rfl,a,ns,4,rfl,hS,_,rfl,(by show 1 ≤ sizeLine; decide),fun l hl=>?_⟩
  have s1:=d8 hl (.lst [.int (if cell ns 4 < 0 then -cell ns 4 else cell ns 4)])
  have el:=b9 (H:=H) (a:=l) (o:=.lst [.int (if cell ns 4 < 0 then -cell ns 4 else cell ns 4)])
  generalize upd H l (.lst [.int (if cell ns 4 < 0 then -cell ns 4 else cell ns 4)]) = H1 at s1 el ⊢
  exact ⟨_,rfl,_,rfl,_,_,rfl,rfl,p,l,h,_,la - 4,rfl,i4.seqT s1 hH,ok,el,by lia,by lia,fun r as ps H2 sx hr er prs tok pl=>q r as ps H2 (fun b u z=>sx b u (g9 z hl) (s1 _ _ z)) (s1.free hr) er prs tok (by lia)⟩
 refine ⟨_,rfl,p,_,_,_,rfl,rfl,hH,rfl,_,rfl,p,_,_,_,rfl,rfl,hH,rfl,_,_,rfl,rfl,.inl ⟨by lia,by lia⟩,_,rfl,?_⟩
 dsimp only [V4]
 refine O0 (F:=h.i * h.c) (by lia) (by lia) fun lc H1 s1 hlc ec=>?_
 have hH1:=i4.seqT s1 hH
 refine ⟨_,rfl,p,_,_,_,rfl,rfl,hH1,rfl,_,rfl,p,_,_,_,rfl,rfl,hH1,rfl,_,_,rfl,rfl,.inl ⟨by lia,by lia⟩,_,rfl,?_⟩
 dsimp only [V4]
 refine O0 (F:=h.o * h.e) (by lia) (by lia) fun le H2 s2' hle ee=>?_
 have s2:=s1.trans s2'
 have ec2:=s2' _ _ ec
 have hle0:=s1.free hle
 refine ⟨_,rfl,a,ns,1,rfl,s2.seq hS,_,1,rfl,by decide,fun v v0 v1=>?_⟩
 refine ⟨(by show 4 ≤ sizeLine; decide),fun d1 hd1=>?_⟩
 have t1:=d8 hd1 (.lst [.int 1,.int 2,.int 5,.int 200])
 have ed1:=b9 (H:=H2) (a:=d1) (o:=.lst [.int 1,.int 2,.int 5,.int 200])
 generalize upd H2 d1 (.lst [.int 1,.int 2,.int 5,.int 200]) = H3 at t1 ed1 ⊢
 obtain ⟨nr,hnr,nr1⟩:=aW8 (i:=v % 4) (by lia) (by lia)
 refine ⟨_,rfl,_,_,rfl,rfl,(by show (0:Int) < 4; decide),d1,_,_,_,rfl,rfl,SqL.of ed1,hnr,?_⟩
 refine ⟨(by show 4 ≤ sizeLine; decide),fun d2 hd2=>?_⟩
 have t2:=d8 hd2 (.lst [.int 1,.int 2,.int 5,.int 200])
 have ed2:=b9 (H:=H3) (a:=d2) (o:=.lst [.int 1,.int 2,.int 5,.int 200])
 generalize upd H3 d2 (.lst [.int 1,.int 2,.int 5,.int 200]) = H4 at t2 ed2 ⊢
 obtain ⟨fr,hfr,fr1⟩:=aW8 (i:=v / 4 % 4) (by lia) (by lia)
 refine ⟨_,rfl,_,_,rfl,rfl,⟨by decide,by decide⟩,_,_,rfl,rfl,(by show (0:Int) < 4; decide),d2,_,_,_,rfl,rfl,SqL.of ed2,hfr,?_⟩
 refine ⟨(by show 0 ≤ sizeLine; decide),fun r hr0=>?_⟩
 have t3:=d8 hr0 (.lst [])
 have er:=b9 (H:=H4) (a:=r) (o:=.lst [])
 generalize upd H4 r (.lst []) = H5 at t3 er ⊢
 have t12:=t1.trans t2
 have t13:=t12.trans t3
 have s5:=s2.trans t13
 have hr00:=s2.free (t12.free hr0)
 have nce:lc ≠ le:=g9 ec hle
 have ncr:lc ≠ r:=g9 (t12 _ _ ec2) hr0
 have ner:le ≠ r:=g9 (t12 _ _ ee) hr0
 have len1:((List.range (h.i * h.c).toNat).map fun (k:Nat)=>(k:Int)).length ≤ 144:=by rw [List.length_map,List.length_range]; lia
 have len2:((List.range (h.o * h.e).toNat).map fun (k:Nat)=>(k:Int)).length ≤ 144:=by rw [List.length_map,List.length_range]; lia
 refine ⟨_,rfl,_,rfl,a,_,rfl,.inl (s5.seq hS),_,rfl,_,_,rfl,_,_,rfl,⟨by decide,by decide,?_,?_⟩,?_⟩
 ·show -(2 ^ 62) ≤ (if la < (((ns.map V.int).length:Nat):Int) then la else (((ns.map V.int).length:Nat):Int))
  split <;> lia
 ·rw [List.length_map]
  show (if la < ((ns.length:Nat):Int) then la else ((ns.length:Nat):Int)) < 2 ^ 62
  split <;> lia
 rw [List.length_map]
 have bnd:∀ i:Nat,i < ((if la < ((ns.length:Nat):Int) then la else ((ns.length:Nat):Int)) - 4).toNat → 4 + i < ns.length ∧ i < 59:=fun i hi=>by
  split at hi <;> lia
 refine M8 (lo:=4) (fun i σ G=>i4 H G ∧ i ≤ 59 ∧ (∃ as ps cs es,G r = some (.lst (as.map V.ref)) ∧ o6 G as ps ∧ G lc = some (.lst (cs.map V.int)) ∧ G le = some (.lst (es.map V.int)) ∧ cs.length ≤ 144 ∧ es.length ≤ 144 ∧ T2 (h.i * h.c) cs (ps.map Prod.fst) ∧ T2 (h.o * h.e) es (ps.map Prod.snd) ∧ ps.length ≤ i) ∧ ∃ v10 v11 v12,σ = [some (.ref a),some (.ref p),some (.int 4),some (.int la),some (.ref lc),some (.ref le),some (.int v),some (.int nr),some (.int fr),some (.ref r),v10,v11,v12])
  ⟨s5,by decide,⟨[],[],_,_,er,.nil,t13 _ _ ec2,t13 _ _ ee,len1,len2,U4 (by lia),U4 (by lia),Nat.le_refl _⟩,none,none,none,rfl⟩ ?_ ?_
 ·rintro i σ G hi ⟨sG,i59,⟨as,ps,cs,es,e1,e2,e3,e4,lc1,lc2,L1,L2,pl⟩,v10,v11,v12,rfl⟩
  obtain ⟨hi1,hi2⟩:=bnd i hi
  have e6:(4 + (i:Int)) = ((4 + i:Nat):Int):=by lia
  rw [e6]
  refine ⟨_,rfl,(by show 0 ≤ sizeLine; decide),fun z1 hz1=>?_⟩
  have t1:=d8 hz1 (.lst [])
  have f1:=b9 (H:=G) (a:=z1) (o:=.lst [])
  generalize upd G z1 (.lst []) = G1 at t1 f1 ⊢
  refine ⟨lc,z1,_,rfl,rfl,SqL.of (t1 _ _ e3),SqL.of f1,_,rfl,?_⟩
  have stay:∀ {G':Hp},i4 G G' → i4 H G' ∧ i + 1 ≤ 59 ∧ (∃ as ps cs es,G' r = some (.lst (as.map V.ref)) ∧ o6 G' as ps ∧ G' lc = some (.lst (cs.map V.int)) ∧ G' le = some (.lst (es.map V.int)) ∧ cs.length ≤ 144 ∧ es.length ≤ 144 ∧ T2 (h.i * h.c) cs (ps.map Prod.fst) ∧ T2 (h.o * h.e) es (ps.map Prod.snd) ∧ ps.length ≤ i + 1):=fun s=>⟨sG.trans s,by lia,as,ps,cs,es,s _ _ e1,e2.mono fun a xs z=>s _ _ z,s _ _ e3,s _ _ e4,lc1,lc2,L1,L2,by lia⟩
  refine O7 (fun z=>?_) (fun z=>?_)
  rotate_left
  ·obtain ⟨a1,a2,a3⟩:=stay t1
   exact ⟨a1,a2,a3,_,_,_,rfl⟩
  refine ⟨_,rfl,(by show 0 ≤ sizeLine; decide),fun z2 hz2=>?_⟩
  have t2':=d8 hz2 (.lst [])
  have f2:=b9 (H:=G1) (a:=z2) (o:=.lst [])
  generalize upd G1 z2 (.lst []) = G2 at t2' f2 ⊢
  have t2:=t1.trans t2'
  refine ⟨le,z2,_,rfl,rfl,SqL.of (t2 _ _ e4),SqL.of f2,_,rfl,?_⟩
  refine O7 (fun y=>?_) (fun y=>?_)
  rotate_left
  ·obtain ⟨a1,a2,a3⟩:=stay t2
   exact ⟨a1,a2,a3,_,_,_,rfl⟩
  have pc:0 < cs.length:=by
   cases cs with
   | nil=>exact absurd z (by decide)
   | cons x t=>exact Nat.succ_pos _
  have pe:0 < es.length:=by
   cases es with
   | nil=>exact absurd y (by decide)
   | cons x t=>exact Nat.succ_pos _
  have e12:=t2 _ _ e1
  have e22:o6 G2 as ps:=e2.mono fun a xs z=>t2 _ _ z
  have e32:=t2 _ _ e3
  have e42:=t2 _ _ e4
  have sG2:=sG.trans t2
  clear t2' f1 f2 hz1 hz2 stay
  refine ⟨_,rfl,_,rfl,a,_,_,_,rfl,rfl,sG2.seq hS,aM9 hi1,_,rfl,_,4 + i,rfl,by lia,fun vv w0 w1=>?_⟩
  have m1:(0:Int) < (if nr < ((cs.map V.int).length:Int) then nr else ((cs.map V.int).length:Int)) ∧ (if nr < ((cs.map V.int).length:Int) then nr else ((cs.map V.int).length:Int)) ≤ (cs.length:Int):=by
   rw [List.length_map]
   split <;> lia
  have m2:(0:Int) < (if fr < ((es.map V.int).length:Int) then fr else ((es.map V.int).length:Int)) ∧ (if fr < ((es.map V.int).length:Int) then fr else ((es.map V.int).length:Int)) ≤ (es.length:Int):=by
   rw [List.length_map]
   split <;> lia
  refine ⟨_,rfl,.inl ⟨rfl,_,SqL.of e32⟩,_,rfl,_,rfl,lc,_,rfl,.inl (SqL.of e32),_,rfl,_,_,rfl,_,_,rfl,rfl,m1.1,?_⟩
  have hm1:=al6 (x:=vv) m1.1
  dsimp only [V4]
  refine ai7 e32 (by lia) hm1.1 (by lia) fun x cs' pm=>?_
  have ec4:=b9 (H:=G2) (a:=lc) (o:=.lst (cs'.map V.int))
  have g2:∀ b u,b ≠ lc → G2 b = some u → upd G2 lc (.lst (cs'.map V.int)) b = some u:=fun b u n2 z=>by rw [d9 n2]; exact z
  generalize upd G2 lc (.lst (cs'.map V.int)) = G4 at ec4 g2 ⊢
  have e44:=g2 _ _ (Ne.symm nce) e42
  have e14:=g2 _ _ (Ne.symm ncr) e12
  refine ⟨_,rfl,.inl ⟨rfl,_,SqL.of e14⟩,_,rfl,_,rfl,.inl ⟨rfl,_,SqL.of e44⟩,_,rfl,_,_,rfl,rfl,⟨by decide,by decide⟩,_,rfl,le,_,rfl,.inl (SqL.of e44),_,rfl,_,_,rfl,_,_,rfl,rfl,m2.1,?_⟩
  have hm2:=al6 (x:=vv / 200) m2.1
  dsimp only [V4]
  refine ai7 e44 (by lia) hm2.1 (by lia) fun y' es' pm2=>?_
  have ee6:=b9 (H:=G4) (a:=le) (o:=.lst (es'.map V.int))
  have g4:∀ b u,b ≠ lc → b ≠ le → G2 b = some u → upd G4 le (.lst (es'.map V.int)) b = some u:=fun b u n2 n3 z=>by rw [d9 n3]; exact g2 b u n2 z
  have ec6:upd G4 le (.lst (es'.map V.int)) lc = some (.lst (cs'.map V.int)):=by rw [d9 nce]; exact ec4
  generalize upd G4 le (.lst (es'.map V.int)) = G6 at ee6 g4 ec6 ⊢
  refine ⟨(by show 2 ≤ sizeLine; decide),fun tp htp=>?_⟩
  have t7:=d8 htp (.tup [.int x,.int y'])
  have etp:=b9 (H:=G6) (a:=tp) (o:=.tup [.int x,.int y'])
  generalize upd G6 tp (.tup [.int x,.int y']) = G7 at t7 etp ⊢
  have e17:=t7 _ _ (g4 _ _ (Ne.symm ncr) (Ne.symm ner) e12)
  have la:as.length = ps.length:=Paired.length e2
  refine ⟨r,_,_,rfl,rfl,e17,m3 (by rw [List.length_map]; lia),?_⟩
  have tup2:∀ a xs,G2 a = some (.tup xs) → upd G7 r (.lst (as.map V.ref ++ [.ref tp])) a = some (.tup xs):=fun a xs z=>by
   rw [d9 (fun y=>by rw [y,e12] at z; cases z)]
   exact t7 _ _ (g4 _ _ (fun y=>by rw [y,e32] at z; cases z) (fun y=>by rw [y,e42] at z; cases z) z)
  have lx:cs'.length + 1 = cs.length:=pm.length_eq
  have ly:es'.length + 1 = es.length:=pm2.length_eq
  refine ⟨fun b u z=>?_,by lia,⟨as ++ [tp],ps ++ [(x,y')],cs',es',by rw [b9,List.map_append]; rfl,(e22.mono tup2).snoc ?_,by rw [d9 ncr]; exact t7 _ _ ec6,by rw [d9 ner]; exact t7 _ _ ee6,by lia,by lia,?_,?_,by rw [List.length_append,List.length_singleton]; lia⟩,_,_,_,rfl⟩
  ·rw [d9 (g9 z hr00)]
   exact t7 _ _ (g4 _ _ (g9 z hlc) (g9 z hle0) (sG2 _ _ z))
  ·rw [d9 (fun y=>by rw [y,e17] at etp; cases etp)]
   exact etp
  ·rw [List.map_append]
   exact L1.pop pm
  ·rw [List.map_append]
   exact L2.pop pm2
 ·rintro σ G ⟨sG,i59,⟨as,ps,cs,es,e1,e2,e3,e4,lc1,lc2,L1,L2,pl⟩,v10,v11,v12,rfl⟩
  exact ⟨_,rfl,q r as ps G sG hr00 e1 e2 (aO5 L1 L2) (by lia)⟩
end
def sdI (side:Int) (p:Int × Int):Int:=if side = 0 then p.1 else p.2
def rks (side:Int) (ps:List (Int × Int)):List Int:=ps.map (sdI side)
theorem aD8 {side:Int} (hs:side = 0 ∨ side = 1) (p:Int × Int):atI [V.int p.1,V.int p.2] side = some (V.int (sdI side p)):=by
 rcases hs with rfl | rfl <;> rfl
theorem aj9 {n k:Nat} (h:k < n):ixN n (k:Int) = some k:=by
 unfold ixN
 simp
 lia
theorem aE4 {α:Type} (f:α → V) (l:List α) (i:Nat) (x:α):(l.map f).set i (f x) = (l.set i x).map f:=by rw [List.map_set]
theorem al5 {f:Int → V} (r:Int):∀ ns:List Int,p7 (ns.map fun r=>((Sum.inl r:Key),f r)) (.inl r) = if r ∈ ns then some (f r) else none
 | []=>rfl
 | n :: ns=>by
  rw [List.map_cons]
  by_cases e:n = r
  ·subst e
   rw [x9 (by rfl),if_pos (List.mem_cons_self ..)]
  ·rw [w9 (fun z=>e (Sum.inl.inj z)),al5 r ns]
   have:r ∈ n :: ns ↔ r ∈ ns:=by
    rw [List.mem_cons]
    exact ⟨fun z=>z.elim (fun y=>absurd y.symm e) id,.inr⟩
   by_cases m:r ∈ ns
   ·rw [if_pos m,if_pos (this.mpr m)]
   ·rw [if_neg m,if_neg (fun z=>m (this.mp z))]
def V2 (kvs:List (Key × V)) (rs:List Int):Prop:=∃ ns:List Int,ns.Nodup ∧ (∀ r,r ∈ ns ↔ r ∈ rs) ∧ ns.length ≤ rs.length ∧ kvs = ns.map fun r=>((Sum.inl r:Key),V.int ((rs.count r:Nat):Int))
theorem V2.nil:V2 [] []:=⟨[],List.nodup_nil,fun r=>Iff.rfl,Nat.le_refl _,rfl⟩
theorem V2.val {kvs:List (Key × V)} {rs:List Int} (h:V2 kvs rs) (r:Int):p7 kvs (.inl r) = if r ∈ rs then some (.int ((rs.count r:Nat):Int)) else none:=by
 obtain ⟨ns,_,h2,_,rfl⟩:=h
 rw [al5]
 by_cases m:r ∈ rs
 ·rw [if_pos m,if_pos ((h2 r).mpr m)]
 ·rw [if_neg m,if_neg fun z=>m ((h2 r).mp z)]
theorem V2.get {kvs:List (Key × V)} {rs:List Int} (h:V2 kvs rs) (r:Int):(p7 kvs (.inl r)).getD (.int 0) = .int ((rs.count r:Nat):Int):=by
 rw [h.val]
 by_cases m:r ∈ rs
 ·rw [if_pos m]; rfl
 ·rw [if_neg m,List.count_eq_zero.mpr m]; rfl
theorem J8 (rs:List Int) (r x:Int):(rs ++ [r]).count x = rs.count x + if r = x then 1 else 0:=by
 rw [List.count_append,List.count_singleton]
 by_cases e:r = x
 ·rw [if_pos e,if_pos (by simpa using e)]
 ·rw [if_neg e,if_neg (by simpa using e)]
theorem V2.put {kvs:List (Key × V)} {rs:List Int} (h:V2 kvs rs) (r:Int):V2 (A0 kvs (.inl r) (.int ((rs.count r:Nat) + 1:Int))) (rs ++ [r]):=by
 obtain ⟨ns,h1,h2,h3,rfl⟩:=h
 have hv:=al5 (f:=fun r=>V.int ((rs.count r:Nat):Int)) r ns
 by_cases m:r ∈ ns
 ·rw [if_pos m] at hv
  refine ⟨ns,h1,fun x=>?_,by rw [List.length_append]; lia,?_⟩
  ·rw [h2 x,List.mem_append,List.mem_singleton]
   exact ⟨.inl,fun z=>z.elim id fun y=>y ▸ (h2 r).mp m⟩
  ·unfold A0
   rw [if_pos (by rw [K0,hv]; rfl),List.map_map]
   refine List.map_congr_left fun x hx=>?_
   by_cases e:x = r
   ·subst e
    simp only [Function.comp,if_pos,J8]
    rfl
   ·have e':¬ (Sum.inl x:Key) = Sum.inl r:=fun z=>e (Sum.inl.inj z)
    simp only [Function.comp,if_neg e',J8,if_neg (show ¬ r = x from fun z=>e z.symm),Nat.add_zero]
 ·rw [if_neg m] at hv
  rw [aQ4 _ hv]
  have mr:¬ r ∈ rs:=fun z=>m ((h2 r).mpr z)
  refine ⟨ns ++ [r],aD5 h1 m,fun x=>?_,by rw [List.length_append,List.length_append]; exact Nat.add_le_add_right h3 _,?_⟩
  ·rw [List.mem_append,List.mem_append,h2 x]
  ·rw [List.map_append]
   congr 1
   ·refine List.map_congr_left fun x hx=>?_
    have e:¬ r = x:=fun z=>m (z ▸ hx)
    rw [J8,if_neg e,Nat.add_zero]
   ·rw [List.map_singleton,J8,if_pos rfl]
    rfl
def aN5 (K:PySem.W.Frag):Sp:=fun vs H Q _=>∃ (l:Addr) (as:List Addr) (ps:List (Int × Int)) (side:Int),vs = [.ref l,.int side] ∧ SqL K H l (as.map V.ref) ∧ o6 H as ps ∧ ps.length ≤ 60 ∧ (side = 0 ∨ side = 1) ∧ ∀ (d:Addr) (kvs:List (Key × V)) (H':Hp),i4 H H' → H d = none → H' d = some (.dK kvs) → V2 kvs (rks side ps) → Q (.ref d) H'
theorem C6 {α:Type} {l:List α} {i:Nat} {x:α} (h:l[i]? = some x):l.take (i + 1) = l.take i ++ [x]:=by
 rw [List.take_add_one,h]
 rfl
section
variable {P:Program} {w:World} {K:PySem.W.Frag} {mg:Str → Option Value} {base:Heap}
theorem F2:FnScope ["pairs","side","found","pair"] ["pairs","side"] (d7 (top 16)):=⟨rfl,rfl,rfl,by decide +kernel,rfl,by decide +kernel,by decide +kernel⟩
theorem aW7 (T:Txt K mg) (D:Def K mg "side_weights" (top 16) ["pairs","side"]):Callee P w K mg base 1 "side_weights" ["pairs","side"] (aN5 K):=by
 refine D.ok F2 (fun vs H Q E h=>?_) (fun f cdv A outer s H vs Q E hr h=>?_)
 ·obtain ⟨l,as,ps,side,rfl,_⟩:=h
  rfl
 obtain ⟨l,as,ps,side,rfl,hl,pr,few,hs,q⟩:=h
 refine ⟨_,(d6 (i7 (i:=2) F2.nd rfl (Or.inl rfl) V0)
  (d6 (y6 PassesOwn.never rfl (z9 K (pv 0)) (o9 (i:=3) F2.nd rfl (Or.inl rfl))
  (g6 (K2 (A1 hr) (pv 2) (h9 (g7 K) (pv 3) (pv 1) (fun _ _=>rfl)) (i6 A4 (P7 (A1 hr) (pv 2) (h9 (g7 K) (pv 3) (pv 1) (fun _ _=>rfl)) d4 ⟨rfl,rfl,rfl,rfl⟩) d4) rfl)))
  (g6 (j8 (pv 2))))),?_⟩
 refine fun d hd=>?_
 have ed:=b9 (H:=H) (a:=d) (o:=.dK [])
 have s1:=d8 hd (.dK [])
 generalize upd H d (.dK []) = H1 at ed s1 ⊢
 have ln:as.length = ps.length:=Paired.length pr
 refine ⟨_,rfl,l,rfl,⟨_,s1.seq hl⟩,?_⟩
 refine B0 (xs:=as.map V.ref) (fun i σ H'=>i4 H H' ∧ (∃ kvs,H' d = some (.dK kvs) ∧ V2 kvs (rks side (ps.take i))) ∧ ∃ v3,σ = [some (.ref l),some (.int side),some (.ref d),v3])
  ⟨s1,⟨[],ed,V2.nil⟩,none,rfl⟩ (fun i σ H' _ g=>g.1.seq hl) ?_ ?_
 ·rintro i x σ H' hx ⟨s2,⟨kvs,e1,cd⟩,v3,rfl⟩
  rw [List.getElem?_map] at hx
  obtain ⟨a,ha,rfl⟩:=Option.map_eq_some_iff.mp hx
  obtain ⟨p,hp,pa⟩:=p4 pr i a ha
  have pa':H' a = some (.tup [.int p.1,.int p.2]):=s2 _ _ pa
  have hi:=(List.getElem?_eq_some_iff.mp hp).1
  have kl:kvs.length ≤ 60:=by
   obtain ⟨ns,_,_,h3,rfl⟩:=cd
   rw [rks,List.length_map,List.length_take] at h3
   rw [List.length_map]
   lia
  refine ⟨_,rfl,d,rfl,.inl ⟨_,.inl e1⟩,_,rfl,_,rfl,a,_,_,_,rfl,rfl,SqT.of pa',aD8 hs p,_,E3.k (k:=.inl (sdI side p)) e1,_,_,cd.get _,rfl,_,rfl,_,rfl,_,rfl,a,_,_,_,rfl,rfl,SqT.of pa',aD8 hs p,d,_,rfl,S2.k (k:=.inl (sdI side p)) e1 (m3 (by lia)),?_⟩
  refine ⟨i4.put s2 hd,⟨_,b9,?_⟩,_,rfl⟩
  have:=cd.put (sdI side p)
  rw [C6 hp,show rks side (ps.take i ++ [p]) = rks side (ps.take i) ++ [sdI side p] by rw [rks,rks,List.map_append]; rfl]
  exact this
 ·rintro σ H' ⟨s2,⟨kvs,e1,cd⟩,v3,rfl⟩
  rw [List.length_map,ln,List.take_length] at cd
  exact ⟨_,rfl,q d kvs H' s2 hd e1 cd⟩
end
structure Num (R0 R1:Nat → Int) (t:Nat) (nu:Nat → Int):Prop where
 p0:∀ i j,i < t → j < t → nu i = nu j → R0 i = R0 j → i = j
 p1:∀ i j,i < t → j < t → nu i = nu j → R1 i = R1 j → i = j
structure Cha (R0 R1:Nat → Int) (t:Nat) (nu:Nat → Int) (a b r1:Int) (cs pre:List Nat):Prop where
 nd:cs.Nodup
 sub:∀ i ∈ pre,i ∈ cs
 lt:∀ i ∈ cs,i < t
 ab:∀ i ∈ cs,nu i = a ∨ nu i = b
 A:∀ p ∈ cs,nu p = b → ∃ e ∈ pre,nu e = a ∧ R0 e = R0 p
 B:∀ p ∈ cs,nu p = a → R1 p = r1 ∨ ∃ e ∈ pre,nu e = b ∧ R1 e = R1 p
 C:∀ e ∈ pre,nu e = a → ∀ j,j < t → nu j = b → R0 j = R0 e → j ∈ cs
 D:∀ e ∈ pre,nu e = b → ∀ j,j < t → nu j = a → R1 j = R1 e → j ∈ cs
 F:∀ j,j < t → nu j = a → R1 j = r1 → j ∈ cs
section
variable {R0 R1:Nat → Int} {t:Nat} {nu:Nat → Int} {a b r1:Int} {cs pre:List Nat} {e p:Nat}
theorem Cha.none (h:∀ j,j < t → nu j = a → R1 j ≠ r1):Cha R0 R1 t nu a b r1 [] [] :=
 ⟨List.nodup_nil,(fun i z=>z),(fun i z=>nomatch z),(fun i z=>nomatch z),(fun i z=>nomatch z),(fun i z=>nomatch z),(fun i z=>nomatch z),(fun i z=>nomatch z),fun j h1 h2 h3=>absurd h3 (h j h1 h2)⟩
theorem Cha.one (N:Num R0 R1 t nu) (hb:∀ j,j < t → R1 j = r1 → nu j ≠ b) (hp:p < t) (pa:nu p = a) (pr:R1 p = r1):Cha R0 R1 t nu a b r1 [p] []:=by
 have hab:a ≠ b:=fun z=>hb p hp pr (by rw [pa,z])
 refine ⟨by simp,(fun i z=>nomatch z),fun i z=>?_,fun i z=>?_,fun i z y=>?_,fun i z y=>?_,(fun i z=>nomatch z),(fun i z=>nomatch z),fun j h1 h2 h3=>?_⟩
 ·rw [List.mem_singleton.mp z]; exact hp
 ·rw [List.mem_singleton.mp z]; exact .inl pa
 ·rw [List.mem_singleton.mp z,pa] at y; exact absurd y hab
 ·rw [List.mem_singleton.mp z]; exact .inl pr
 ·rw [N.p1 j p h1 hp (by rw [h2,pa]) (by rw [h3,pr])]; exact List.mem_singleton.mpr rfl
theorem aA4 (h:(pre ++ [e]).Nodup):¬ e ∈ pre:=fun z=>by
 rw [List.nodup_append] at h
 exact h.2.2 e z e (List.mem_singleton.mpr rfl) rfl
theorem ar3 {l:List Nat} {x:Nat} (h:l.Nodup) (hx:¬ x ∈ l):(l ++ [x]).Nodup:=by
 rw [List.nodup_append]
 refine ⟨h,by simp,fun y hy z hz w=>?_⟩
 rw [List.mem_singleton.mp hz] at w
 exact hx (w ▸ hy)
theorem Cha.to0 (N:Num R0 R1 t nu) (hab:a ≠ b) (h:Cha R0 R1 t nu a b r1 (pre ++ [e]) pre) (ea:nu e = a) (hp:p < t) (pb:nu p = b) (pr:R0 p = R0 e):Cha R0 R1 t nu a b r1 ((pre ++ [e]) ++ [p]) (pre ++ [e]):=by
 have he:e ∈ pre ++ [e]:=List.mem_append_right _ (List.mem_singleton.mpr rfl)
 have le:=h.lt e he
 have np:¬ p ∈ pre ++ [e]:=fun z=>by
  obtain ⟨e',h1,h2,h3⟩:=h.A p z pb
  have:e' = e:=N.p0 e' e (h.lt e' (h.sub e' h1)) le (by rw [h2,ea]) (by rw [h3,pr])
  exact aA4 h.nd (this ▸ h1)
 have old:∀ i,i ∈ pre ++ [e] → i ∈ (pre ++ [e]) ++ [p]:=fun i z=>List.mem_append_left _ z
 have cas:∀ i,i ∈ (pre ++ [e]) ++ [p] → i ∈ pre ++ [e] ∨ i = p:=fun i z=>(List.mem_append.mp z).imp id List.mem_singleton.mp
 refine ⟨ar3 h.nd np,old,fun i z=>?_,fun i z=>?_,fun i z y=>?_,fun i z y=>?_,fun i z y j h1 h2 h3=>?_,fun i z y j h1 h2 h3=>?_,fun j h1 h2 h3=>old _ (h.F j h1 h2 h3)⟩
 ·rcases cas i z with w | rfl
  ·exact h.lt i w
  ·exact hp
 ·rcases cas i z with w | rfl
  ·exact h.ab i w
  ·exact .inr pb
 ·rcases cas i z with w | rfl
  ·obtain ⟨e',h1,h2⟩:=h.A i w y
   exact ⟨e',h.sub e' h1,h2⟩
  ·exact ⟨e,he,ea,pr.symm⟩
 ·rcases cas i z with w | rfl
  ·rcases h.B i w y with v | ⟨e',h1,h2⟩
   ·exact .inl v
   ·exact .inr ⟨e',h.sub e' h1,h2⟩
  ·exact absurd (y.symm.trans pb) hab
 ·rcases List.mem_append.mp z with w | w
  ·exact old _ (h.C i w y j h1 h2 h3)
  ·rw [List.mem_singleton.mp w] at h3
   rw [N.p0 j p h1 hp (by rw [h2,pb]) (by rw [h3,pr])]
   exact List.mem_append_right _ (List.mem_singleton.mpr rfl)
 ·rcases List.mem_append.mp z with w | w
  ·exact old _ (h.D i w y j h1 h2 h3)
  ·rw [List.mem_singleton.mp w,ea] at y
   exact absurd y hab
theorem Cha.to1 (N:Num R0 R1 t nu) (hab:a ≠ b) (hb:∀ j,j < t → R1 j = r1 → nu j ≠ b) (h:Cha R0 R1 t nu a b r1 (pre ++ [e]) pre) (eb:nu e = b) (hp:p < t) (pa:nu p = a) (pr:R1 p = R1 e):Cha R0 R1 t nu a b r1 ((pre ++ [e]) ++ [p]) (pre ++ [e]):=by
 have he:e ∈ pre ++ [e]:=List.mem_append_right _ (List.mem_singleton.mpr rfl)
 have le:=h.lt e he
 have np:¬ p ∈ pre ++ [e]:=fun z=>by
  rcases h.B p z pa with w | ⟨e',h1,h2,h3⟩
  ·exact hb e le (by rw [← pr,w]) eb
  ·have:e' = e:=N.p1 e' e (h.lt e' (h.sub e' h1)) le (by rw [h2,eb]) (by rw [h3,pr])
   exact aA4 h.nd (this ▸ h1)
 have old:∀ i,i ∈ pre ++ [e] → i ∈ (pre ++ [e]) ++ [p]:=fun i z=>List.mem_append_left _ z
 have cas:∀ i,i ∈ (pre ++ [e]) ++ [p] → i ∈ pre ++ [e] ∨ i = p:=fun i z=>(List.mem_append.mp z).imp id List.mem_singleton.mp
 refine ⟨ar3 h.nd np,old,fun i z=>?_,fun i z=>?_,fun i z y=>?_,fun i z y=>?_,fun i z y j h1 h2 h3=>?_,fun i z y j h1 h2 h3=>?_,fun j h1 h2 h3=>old _ (h.F j h1 h2 h3)⟩
 ·rcases cas i z with w | rfl
  ·exact h.lt i w
  ·exact hp
 ·rcases cas i z with w | rfl
  ·exact h.ab i w
  ·exact .inl pa
 ·rcases cas i z with w | rfl
  ·obtain ⟨e',h1,h2⟩:=h.A i w y
   exact ⟨e',h.sub e' h1,h2⟩
  ·exact absurd (pa.symm.trans y) hab
 ·rcases cas i z with w | rfl
  ·rcases h.B i w y with v | ⟨e',h1,h2⟩
   ·exact .inl v
   ·exact .inr ⟨e',h.sub e' h1,h2⟩
  ·exact .inr ⟨e,he,eb,pr.symm⟩
 ·rcases List.mem_append.mp z with w | w
  ·exact old _ (h.C i w y j h1 h2 h3)
  ·rw [List.mem_singleton.mp w,eb] at y
   exact absurd y.symm hab
 ·rcases List.mem_append.mp z with w | w
  ·exact old _ (h.D i w y j h1 h2 h3)
  ·rw [List.mem_singleton.mp w] at h3
   rw [N.p1 j p h1 hp (by rw [h2,pa]) (by rw [h3,pr])]
   exact List.mem_append_right _ (List.mem_singleton.mpr rfl)
theorem Cha.end0 (hab:a ≠ b) (h:Cha R0 R1 t nu a b r1 (pre ++ [e]) pre) (ea:nu e = a) (no:∀ j,j < t → nu j = b → R0 j ≠ R0 e):Cha R0 R1 t nu a b r1 (pre ++ [e]) (pre ++ [e]):=by
 refine ⟨h.nd,fun i z=>z,h.lt,h.ab,fun i z y=>?_,fun i z y=>?_,fun i z y j h1 h2 h3=>?_,fun i z y j h1 h2 h3=>?_,h.F⟩
 ·obtain ⟨e',h1,h2⟩:=h.A i z y
  exact ⟨e',h.sub e' h1,h2⟩
 ·rcases h.B i z y with v | ⟨e',h1,h2⟩
  ·exact .inl v
  ·exact .inr ⟨e',h.sub e' h1,h2⟩
 ·rcases List.mem_append.mp z with w | w
  ·exact h.C i w y j h1 h2 h3
  ·rw [List.mem_singleton.mp w] at h3
   exact absurd h3 (no j h1 h2)
 ·rcases List.mem_append.mp z with w | w
  ·exact h.D i w y j h1 h2 h3
  ·rw [List.mem_singleton.mp w,ea] at y
   exact absurd y hab
theorem Cha.end1 (hab:a ≠ b) (h:Cha R0 R1 t nu a b r1 (pre ++ [e]) pre) (eb:nu e = b) (no:∀ j,j < t → nu j = a → R1 j ≠ R1 e):Cha R0 R1 t nu a b r1 (pre ++ [e]) (pre ++ [e]):=by
 refine ⟨h.nd,fun i z=>z,h.lt,h.ab,fun i z y=>?_,fun i z y=>?_,fun i z y j h1 h2 h3=>?_,fun i z y j h1 h2 h3=>?_,h.F⟩
 ·obtain ⟨e',h1,h2⟩:=h.A i z y
  exact ⟨e',h.sub e' h1,h2⟩
 ·rcases h.B i z y with v | ⟨e',h1,h2⟩
  ·exact .inl v
  ·exact .inr ⟨e',h.sub e' h1,h2⟩
 ·rcases List.mem_append.mp z with w | w
  ·exact h.C i w y j h1 h2 h3
  ·rw [List.mem_singleton.mp w,eb] at y
   exact absurd y.symm hab
 ·rcases List.mem_append.mp z with w | w
  ·exact h.D i w y j h1 h2 h3
  ·rw [List.mem_singleton.mp w] at h3
   exact absurd h3 (no j h1 h2)
theorem Cha.closed (N:Num R0 R1 t nu) (hb:∀ j,j < t → R1 j = r1 → nu j ≠ b) (h:Cha R0 R1 t nu a b r1 cs cs) {i j:Nat} (hi:i ∈ cs) (hj:j < t) (ja:nu j = a ∨ nu j = b) (sh:R0 i = R0 j ∨ R1 i = R1 j):j ∈ cs:=by
 have li:=h.lt i hi
 rcases h.ab i hi with ia | ib
 ·rcases ja with ja | jb
  ·rcases sh with s | s
   ·rw [← N.p0 i j li hj (by rw [ia,ja]) s]; exact hi
   ·rw [← N.p1 i j li hj (by rw [ia,ja]) s]; exact hi
  ·rcases sh with s | s
   ·exact h.C i hi ia j hj jb s.symm
   ·rcases h.B i hi ia with v | ⟨e,h1,h2,h3⟩
    ·exact absurd jb (hb j hj (by rw [← s,v]))
    ·rw [N.p1 j e hj (h.lt e h1) (by rw [jb,h2]) (by rw [← s,h3])]; exact h1
 ·rcases ja with ja | jb
  ·rcases sh with s | s
   ·obtain ⟨e,h1,h2,h3⟩:=h.A i hi ib
    rw [N.p0 j e hj (h.lt e h1) (by rw [ja,h2]) (by rw [← s,h3])]; exact h1
   ·exact h.D i hi ib j hj ja s.symm
  ·rcases sh with s | s
   ·rw [← N.p0 i j li hj (by rw [ib,jb]) s]; exact hi
   ·rw [← N.p1 i j li hj (by rw [ib,jb]) s]; exact hi
def swp (a b x:Int):Int:=if x = a then b else a
theorem ai2 (x:Int):swp a b x = a ∨ swp a b x = b:=by
 unfold swp
 split
 ·exact .inr rfl
 ·exact .inl rfl
theorem aC0 {x y:Int} (hx:x = a ∨ x = b) (hy:y = a ∨ y = b) (h:swp a b x = swp a b y):x = y:=by
 unfold swp at h
 split at h <;> split at h
 ·lia
 ·lia
 ·lia
 ·lia
theorem aV8 (N:Num R0 R1 t nu) (hb:∀ j,j < t → R1 j = r1 → nu j ≠ b) (h:Cha R0 R1 t nu a b r1 cs cs) {nu':Nat → Int} (hn:∀ i,i < t → nu' i = if i ∈ cs then swp a b (nu i) else nu i):Num R0 R1 t nu':=by
 have key:∀ i j,i < t → j < t → nu' i = nu' j → (R0 i = R0 j ∨ R1 i = R1 j) → nu i = nu j:=fun i j hi hj e sh=>by
  rw [hn i hi,hn j hj] at e
  by_cases ci:i ∈ cs
  ·rw [if_pos ci] at e
   by_cases cj:j ∈ cs
   ·rw [if_pos cj] at e
    exact aC0 (h.ab i ci) (h.ab j cj) e
   ·rw [if_neg cj] at e
    exact absurd (h.closed N hb ci hj (by rw [← e]; exact ai2 _) sh) cj
  ·rw [if_neg ci] at e
   by_cases cj:j ∈ cs
   ·rw [if_pos cj] at e
    exact absurd (h.closed N hb cj hi (by rw [e]; exact ai2 _) (sh.imp Eq.symm Eq.symm)) ci
   ·rw [if_neg cj] at e
    exact e
 exact ⟨fun i j hi hj e s=>N.p0 i j hi hj (key i j hi hj e (.inl s)) s,fun i j hi hj e s=>N.p1 i j hi hj (key i j hi hj e (.inr s)) s⟩
theorem aL4 {r0:Int} (ha:∀ j,j < t → R0 j = r0 → nu j ≠ a) (h:Cha R0 R1 t nu a b r1 cs cs) {nu':Nat → Int} (hn:∀ i,i < t → nu' i = if i ∈ cs then swp a b (nu i) else nu i):∀ j,j < t → R0 j = r0 → nu' j ≠ a:=fun j hj hr e=>by
 rw [hn j hj] at e
 by_cases cj:j ∈ cs
 ·rcases h.ab j cj with w | w
  ·exact ha j hj hr w
  ·obtain ⟨e',h1,h2,h3⟩:=h.A j cj w
   exact ha e' (h.lt e' h1) (by rw [h3,hr]) h2
 ·rw [if_neg cj] at e
  exact ha j hj hr e
theorem aL0 (hb:∀ j,j < t → R1 j = r1 → nu j ≠ b) (h:Cha R0 R1 t nu a b r1 cs cs) {nu':Nat → Int} (hn:∀ i,i < t → nu' i = if i ∈ cs then swp a b (nu i) else nu i):∀ j,j < t → R1 j = r1 → nu' j ≠ a:=fun j hj hr e=>by
 rw [hn j hj] at e
 by_cases cj:j ∈ cs
 ·rw [if_pos cj] at e
  rcases h.ab j cj with w | w
  ·unfold swp at e
   rw [if_pos w] at e
   exact hb j hj hr (by rw [w,e])
  ·exact hb j hj hr w
 ·rw [if_neg cj] at e
  exact cj (h.F j hj e hr)
theorem Num.snoc {x:Int} (N:Num R0 R1 t nu) (h0:∀ j,j < t → R0 j = R0 t → nu j ≠ x) (h1:∀ j,j < t → R1 j = R1 t → nu j ≠ x) {nu':Nat → Int} (ho:∀ i,i < t → nu' i = nu i) (hx:nu' t = x):Num R0 R1 (t + 1) nu':=by
 refine ⟨fun i j hi hj e s=>?_,fun i j hi hj e s=>?_⟩
 ·by_cases zi:i = t
  ·by_cases zj:j = t
   ·rw [zi,zj]
   ·rw [zi,hx,ho j (by lia)] at e
    rw [zi] at s
    exact absurd e.symm (h0 j (by lia) s.symm)
  ·by_cases zj:j = t
   ·rw [zj,hx,ho i (by lia)] at e
    rw [zj] at s
    exact absurd e (h0 i (by lia) s)
   ·rw [ho i (by lia),ho j (by lia)] at e
    exact N.p0 i j (by lia) (by lia) e s
 ·by_cases zi:i = t
  ·by_cases zj:j = t
   ·rw [zi,zj]
   ·rw [zi,hx,ho j (by lia)] at e
    rw [zi] at s
    exact absurd e.symm (h1 j (by lia) s.symm)
  ·by_cases zj:j = t
   ·rw [zj,hx,ho i (by lia)] at e
    rw [zj] at s
    exact absurd e (h1 i (by lia) s)
   ·rw [ho i (by lia),ho j (by lia)] at e
    exact N.p1 i j (by lia) (by lia) e s
end
theorem av9 {α:Type} [BEq α] [LawfulBEq α]:∀ {l l':List α},l.Nodup → (∀ x ∈ l,x ∈ l') → l.length ≤ l'.length
 | [],_,_,_=>Nat.zero_le _
 | x :: t,l',n,h=>by
  obtain ⟨n1,n2⟩:=List.nodup_cons.mp n
  have hx:=h x (List.mem_cons_self ..)
  have ih:=av9 (l:=t) (l':=l'.erase x) n2 fun y hy=>(List.mem_erase_of_ne (show y ≠ x from fun z=>n1 (z ▸ hy))).mpr (h y (List.mem_cons_of_mem _ hy))
  rw [List.length_erase_of_mem hx] at ih
  have:=List.length_pos_of_mem hx
  rw [List.length_cons]
  lia
theorem a78 {t:Nat} {l:List Nat} (n:l.Nodup) (h:∀ x ∈ l,x < t):l.length ≤ t:=by
 have:=av9 (l':=List.range t) n fun x hx=>List.mem_range.mpr (h x hx)
 rwa [List.length_range] at this
theorem aK7 {R nu:Nat → Int} {t x:Nat} {r:Int} (h:∀ y:Nat,y < x → ∃ i,i < t ∧ R i = r ∧ nu i = (y:Int)):x ≤ ((List.range t).filter fun i=>decide (R i = r)).length:=by
 have:=av9 (l:=(List.range x).map fun y:Nat=>(y:Int)) (l':=((List.range t).filter fun i=>decide (R i = r)).map nu) (List.Pairwise.map _ (fun a b c z=>c (by lia)) List.nodup_range) fun y hy=>by
  obtain ⟨k,hk,rfl⟩:=List.mem_map.mp hy
  obtain ⟨i,h1,h2,h3⟩:=h k (List.mem_range.mp hk)
  exact List.mem_map.mpr ⟨i,List.mem_filter.mpr ⟨List.mem_range.mpr h1,decide_eq_true h2⟩,h3⟩
 rwa [List.length_map,List.length_map,List.length_range] at this
theorem aN4 {n:Nat} (h:n ≤ 100000):n < sizeLine:=Nat.lt_of_le_of_lt h (by decide)
def kRN (r x:Int):List Key:=[.inl r,.inl x]
theorem ak8 {r x r' x':Int} (h:kRN r x = kRN r' x'):r = r' ∧ x = x':=by
 unfold kRN at h
 injection h with h1 h2
 injection h2 with h2 _
 exact ⟨Sum.inl.inj h1,Sum.inl.inj h2⟩
theorem Q4 {κ:Type} [DecidableEq κ] (k j:κ):∀ kvs:List (κ × V),p7 (E8 kvs k) j = if j = k then none else p7 kvs j
 | []=>by
  show none = _
  split <;> rfl
 | p :: r=>by
  by_cases e:p.1 = k
  ·rw [ah2 e,Q4 k j r]
   by_cases z:j = k
   ·rw [if_pos z,if_pos z]
   ·rw [if_neg z,if_neg z,w9 (fun y=>z (y.symm.trans e))]
  ·rw [ag3 e]
   by_cases z:p.1 = j
   ·rw [x9 z,if_neg (fun y=>e (z.trans y)),x9 z]
   ·rw [w9 z,Q4 k j r,w9 z]
def DT (kvs:List (List Key × V)) (R nu:Nat → Int) (In:Nat → Prop):Prop:=(∀ i,In i → p7 kvs (kRN (R i) (nu i)) = some (.int (i:Nat))) ∧ ∀ (r x:Int) (v:V),p7 kvs (kRN r x) = some v → ∃ i:Nat,In i ∧ R i = r ∧ nu i = x ∧ v = .int (i:Nat)
theorem DT.put {kvs:List (List Key × V)} {R nu nu':Nat → Int} {In In':Nat → Prop} {i:Nat} {x:Int} (h:DT kvs R nu In) (hi:¬ In i) (hno:∀ j,In j → R j = R i → nu j ≠ x) (ho:∀ j,In j → nu' j = nu j) (hx:nu' i = x) (hI:∀ j,In' j ↔ In j ∨ j = i):DT (A0 kvs (kRN (R i) x) (.int (i:Nat))) R nu' In':=by
 refine ⟨fun j hj=>?_,fun r y v hv=>?_⟩
 ·rw [P8]
  rcases (hI j).mp hj with z | rfl
  ·rw [ho j z,if_neg,h.1 j z]
   intro w
   obtain ⟨w1,w2⟩:=ak8 w
   exact hno j z w1 w2
  ·rw [hx,if_pos rfl]
 ·rw [P8] at hv
  by_cases z:kRN r y = kRN (R i) x
  ·rw [if_pos z] at hv
   cases hv
   obtain ⟨w1,w2⟩:=ak8 z
   exact ⟨i,(hI i).mpr (.inr rfl),w1.symm,by rw [hx,w2],rfl⟩
  ·rw [if_neg z] at hv
   obtain ⟨j,j1,j2,j3,j4⟩:=h.2 r y v hv
   exact ⟨j,(hI j).mpr (.inl j1),j2,by rw [ho j j1]; exact j3,j4⟩
theorem DT.drop {kvs:List (List Key × V)} {R nu:Nat → Int} {In In':Nat → Prop} {i:Nat} (h:DT kvs R nu In) (inj:∀ j,In j → R j = R i → nu j = nu i → j = i) (hI:∀ j,In' j ↔ In j ∧ j ≠ i):DT (E8 kvs (kRN (R i) (nu i))) R nu In':=by
 refine ⟨fun j hj=>?_,fun r y v hv=>?_⟩
 ·obtain ⟨j1,j2⟩:=(hI j).mp hj
  rw [Q4,if_neg,h.1 j j1]
  intro w
  obtain ⟨w1,w2⟩:=ak8 w
  exact j2 (inj j j1 w1 w2)
 ·rw [Q4] at hv
  by_cases z:kRN r y = kRN (R i) (nu i)
  ·rw [if_pos z] at hv
   cases hv
  ·rw [if_neg z] at hv
   obtain ⟨j,j1,j2,j3,j4⟩:=h.2 r y v hv
   exact ⟨j,(hI j).mpr ⟨j1,fun w=>z (by rw [← j2,← j3,w])⟩,j2,j3,j4⟩
theorem DT.look {kvs:List (List Key × V)} {R nu:Nat → Int} {In:Nat → Prop} (h:DT kvs R nu In) (r x:Int):(p7 kvs (kRN r x) = none ∧ ∀ i,In i → R i = r → nu i ≠ x) ∨ ∃ i,p7 kvs (kRN r x) = some (.int (i:Nat)) ∧ In i ∧ R i = r ∧ nu i = x:=by
 cases e:p7 kvs (kRN r x) with
 | none =>
  refine .inl ⟨rfl,fun i h1 h2 h3=>?_⟩
  have:=h.1 i h1
  rw [h2,h3,e] at this
  cases this
 | some v =>
  obtain ⟨i,h1,h2,h3,h4⟩:=h.2 r x v e
  exact .inr ⟨i,by rw [h4],h1,h2,h3⟩
def RI (side:Int) (ps:List (Int × Int)) (i:Nat):Int:=sdI side (ps.getD i (0,0))
theorem L9 {side:Int} {ps:List (Int × Int)} {i:Nat} {p:Int × Int} (h:ps[i]? = some p):RI side ps i = sdI side p:=by
 unfold RI
 rw [List.getD,h]
 rfl
def nuL (ns:List Int) (i:Nat):Int:=ns.getD i 0
theorem ah8 {side r:Int} {ps:List (Int × Int)}:∀ t,t ≤ ps.length → (rks side (ps.take t)).count r = ((List.range t).filter fun i=>decide (RI side ps i = r)).length
 | 0,_=>rfl
 | t + 1,h=>by
  have e:ps[t]? = some (ps[t]'(by lia)):=List.getElem?_eq_getElem _
  rw [C6 e,rks,List.map_append,List.map_singleton,J8,List.range_succ,List.filter_append,List.length_append,← ah8 t (by lia)]
  congr 1
  rw [← L9 (side:=side) e]
  by_cases z:RI side ps t = r
  ·rw [if_pos z,List.filter_cons_of_pos (by simpa using z)]; rfl
  ·rw [if_neg z,List.filter_cons_of_neg (by simpa using z)]; rfl
theorem at4 {side r:Int} {ps:List (Int × Int)} {t:Nat} (ht:t < ps.length) (hr:RI side ps t = r):((List.range t).filter fun i=>decide (RI side ps i = r)).length + 1 ≤ (rks side ps).count r:=by
 have h1:=ah8 (side:=side) (r:=r) (ps:=ps) (t + 1) ht
 rw [List.range_succ,List.filter_append,List.length_append,List.filter_cons_of_pos (by simpa using hr)] at h1
 have h2:(rks side (ps.take (t + 1))).count r ≤ (rks side ps).count r:=List.Sublist.count_le r (List.Sublist.map _ (List.take_sublist _ _))
 rw [h1] at h2
 exact h2
def at7 (R:Nat → Int) (t:Nat) (nu:Nat → Int) (r x:Int) (o:Option Nat):Prop:=(o = none ∧ ∀ j,j < t → R j = r → nu j ≠ x) ∨ ∃ i,o = some i ∧ i < t ∧ R i = r ∧ nu i = x
inductive Run (R0 R1:Nat → Int) (t:Nat) (nu:Nat → Int) (a b r1:Int):List Nat → Int → Option Nat → Prop where
 | start {o:Option Nat} (h:at7 R1 t nu r1 a o):Run R0 R1 t nu a b r1 [] 1 o
 | on1 {cs:List Nat} {p:Nat} {o:Option Nat} {r:Int} (h:Run R0 R1 t nu a b r1 cs 0 (some p)) (e:R1 p = r) (l:at7 R1 t nu r a o):Run R0 R1 t nu a b r1 (cs ++ [p]) 1 o
 | on0 {cs:List Nat} {p:Nat} {o:Option Nat} {r:Int} (h:Run R0 R1 t nu a b r1 cs 1 (some p)) (e:R0 p = r) (l:at7 R0 t nu r b o):Run R0 R1 t nu a b r1 (cs ++ [p]) 0 o
theorem at7.one {R nu:Nat → Int} {t:Nat} {r x:Int} {o o':Option Nat} (inj:∀ i j,i < t → j < t → nu i = nu j → R i = R j → i = j) (h:at7 R t nu r x o) (h':at7 R t nu r x o'):o = o':=by
 rcases h with ⟨rfl,n⟩ | ⟨i,rfl,i1,i2,i3⟩
 ·rcases h' with ⟨rfl,_⟩ | ⟨i,rfl,i1,i2,i3⟩
  ·rfl
  ·exact absurd i3 (n i i1 i2)
 ·rcases h' with ⟨rfl,n⟩ | ⟨j,rfl,j1,j2,j3⟩
  ·exact absurd i3 (n i i1 i2)
  ·rw [inj i j i1 j1 (by rw [i3,j3]) (by rw [i2,j2])]
section
variable {R0 R1:Nat → Int} {t:Nat} {nu:Nat → Int} {a b r1:Int}
theorem Run.det (N:Num R0 R1 t nu) {cs:List Nat} {s:Int} {o:Option Nat} (h:Run R0 R1 t nu a b r1 cs s o):∀ {cs':List Nat} {s':Int} {o':Option Nat},Run R0 R1 t nu a b r1 cs' s' o' → cs'.length = cs.length → cs' = cs ∧ s' = s ∧ o' = o:=by
 induction h with
 | start l =>
  intro cs' s' o' h' e
  cases h' with
  | start l'=>exact ⟨rfl,rfl,l'.one N.p1 l⟩
  | on1=>rw [List.length_append] at e; cases e
  | on0=>rw [List.length_append] at e; cases e
 | on1 h0 e0 l ih =>
  intro cs' s' o' h' e
  cases h' with
  | start=>rw [List.length_append] at e; cases e
  | on1 h1 e1 l1 =>
   rw [List.length_append,List.length_append] at e
   obtain ⟨rfl,_,z⟩:=ih h1 (by simpa using e)
   cases z
   subst e0
   subst e1
   exact ⟨rfl,rfl,l1.one N.p1 l⟩
  | on0 h1 e1 l1 =>
   rw [List.length_append,List.length_append] at e
   obtain ⟨_,z,_⟩:=ih h1 (by simpa using e)
   cases z
 | on0 h0 e0 l ih =>
  intro cs' s' o' h' e
  cases h' with
  | start=>rw [List.length_append] at e; cases e
  | on0 h1 e1 l1 =>
   rw [List.length_append,List.length_append] at e
   obtain ⟨rfl,_,z⟩:=ih h1 (by simpa using e)
   cases z
   subst e0
   subst e1
   exact ⟨rfl,rfl,l1.one N.p0 l⟩
  | on1 h1 e1 l1 =>
   rw [List.length_append,List.length_append] at e
   obtain ⟨_,z,_⟩:=ih h1 (by simpa using e)
   cases z
theorem Run.pre {cs:List Nat} {s:Int} {o:Option Nat} (h:Run R0 R1 t nu a b r1 cs s o):∀ k,k < cs.length → ∃ cs1 s1 p,Run R0 R1 t nu a b r1 cs1 s1 (some p) ∧ cs1.length = k:=by
 induction h with
 | start l=>intro k hk; exact absurd hk (Nat.not_lt_zero _)
 | on1 h0 e0 l ih =>
  intro k hk
  rw [List.length_append,List.length_singleton] at hk
  rcases Nat.lt_or_ge k _ with z | z
  ·exact ih k z
  ·exact ⟨_,_,_,h0,by lia⟩
 | on0 h0 e0 l ih =>
  intro k hk
  rw [List.length_append,List.length_singleton] at hk
  rcases Nat.lt_or_ge k _ with z | z
  ·exact ih k z
  ·exact ⟨_,_,_,h0,by lia⟩
theorem Run.one (N:Num R0 R1 t nu) {cs cs':List Nat} {s s':Int} (h:Run R0 R1 t nu a b r1 cs s none) (h':Run R0 R1 t nu a b r1 cs' s' none):cs' = cs:=by
 rcases Nat.lt_trichotomy cs.length cs'.length with z | z | z
 ·obtain ⟨c1,s1,p,h1,e⟩:=h'.pre _ z
  obtain ⟨_,_,y⟩:=h.det N h1 e
  cases y
 ·exact (h.det N h' z.symm).1
 ·obtain ⟨c1,s1,p,h1,e⟩:=h.pre _ z
  obtain ⟨_,_,y⟩:=h'.det N h1 e
  cases y
end
inductive PartRel (ps:List (Int × Int)):Nat → List Int → Prop where
 | zero:PartRel ps 0 []
 | step {t:Nat} {ns ns':List Int} {na nb:Nat} {r0 r1 s:Int} {cs:List Nat} (h:PartRel ps t ns) (N:Num (RI 0 ps) (RI 1 ps) t (nuL ns)) (e0:RI 0 ps t = r0) (e1:RI 1 ps t = r1)
   (a1:∀ y:Nat,y < na → ∃ j,j < t ∧ RI 0 ps j = r0 ∧ nuL ns j = (y:Int)) (a2:∀ j,j < t → RI 0 ps j = r0 → nuL ns j ≠ (na:Int)) (b1:∀ y:Nat,y < nb → ∃ j,j < t ∧ RI 1 ps j = r1 ∧ nuL ns j = (y:Int)) (b2:∀ j,j < t → RI 1 ps j = r1 → nuL ns j ≠ (nb:Int))
   (run:Run (RI 0 ps) (RI 1 ps) t (nuL ns) (na:Int) (nb:Int) r1 cs s none) (l:ns'.length = t + 1) (m1:∀ i,i < t → nuL ns' i = if i ∈ cs then swp (na:Int) (nb:Int) (nuL ns i) else nuL ns i) (m2:nuL ns' t = (na:Int)):PartRel ps (t + 1) ns'
theorem af4 {na nb:Nat} {P:Nat → Prop} (a1:∀ y,y < na → P y) (a2:¬ P na) (b1:∀ y,y < nb → P y) (b2:¬ P nb):na = nb:=by
 rcases Nat.lt_trichotomy na nb with z | z | z
 ·exact absurd (b1 na z) a2
 ·exact z
 ·exact absurd (a1 nb z) b2
theorem aY7 {l1 l2:List Int} (e:l1.length = l2.length) (h:∀ i,i < l1.length → nuL l1 i = nuL l2 i):l1 = l2:=by
 refine List.ext_getElem e fun i h1 h2=>?_
 have:=h i h1
 unfold nuL at this
 rw [List.getD,List.getD,List.getElem?_eq_getElem h1,List.getElem?_eq_getElem h2] at this
 exact this
theorem PartRel.one {ps:List (Int × Int)} {t:Nat} {ns:List Int} (h:PartRel ps t ns):∀ {ns':List Int},PartRel ps t ns' → ns' = ns:=by
 induction h with
 | zero =>
  intro ns' h'
  cases h'
  rfl
 | @step t0 _ _ _ _ _ _ _ _ h0 N e0 e1 a1 a2 b1 b2 run l m1 m2 ih =>
  intro ns' h'
  cases h' with
  | step h0' N' e0' e1' a1' a2' b1' b2' run' l' m1' m2' =>
   obtain rfl:=ih h0'
   subst e0
   subst e0'
   subst e1
   subst e1'
   obtain rfl:=af4 (P:=fun y=>∃ j,j < _ ∧ RI 0 ps j = RI 0 ps _ ∧ nuL _ j = ((y:Nat):Int)) a1 (fun ⟨j,h1,h2,h3⟩=>a2 j h1 h2 h3) a1' (fun ⟨j,h1,h2,h3⟩=>a2' j h1 h2 h3)
   obtain rfl:=af4 (P:=fun y=>∃ j,j < _ ∧ RI 1 ps j = RI 1 ps _ ∧ nuL _ j = ((y:Nat):Int)) b1 (fun ⟨j,h1,h2,h3⟩=>b2 j h1 h2 h3) b1' (fun ⟨j,h1,h2,h3⟩=>b2' j h1 h2 h3)
   obtain rfl:=run.one N run'
   refine aY7 (by lia) fun i hi=>?_
   by_cases z:i < t0
   ·rw [m1' i z,m1 i z]
   ·have:i = t0:=by
     rw [l'] at hi
     exact Nat.le_antisymm (Nat.lt_succ_iff.mp hi) (Nat.not_lt.mp z)
    subst this
    rw [m2',m2]
def S9 (c d:Addr) (H H':Hp):Prop:=∀ b u,b ≠ c → b ≠ d → H b = some u → H' b = some u
def W6 (c d e:Addr) (H H':Hp):Prop:=∀ b u,b ≠ c → b ≠ d → b ≠ e → H b = some u → H' b = some u
structure Tk (H:Hp) (tk d0 d1:Addr) (kv0 kv1:List (List Key × V)):Prop where
 tk:H tk = some (.tup [.ref d0,.ref d1])
 e0:H d0 = some (.dT kv0)
 e1:H d1 = some (.dT kv1)
 ne:d0 ≠ d1
theorem Tk.same {H H':Hp} {tk d0 d1:Addr} {kv0 kv1:List (List Key × V)} (s:i4 H H') (h:Tk H tk d0 d1 kv0 kv1):Tk H' tk d0 d1 kv0 kv1:=⟨s _ _ h.tk,s _ _ h.e0,s _ _ h.e1,h.ne⟩
theorem F4 {H:Hp} {a b:Addr} {xs:List V} {kv:List (List Key × V)} (h:H a = some (.tup xs)) (h':H b = some (.dT kv)):a ≠ b:=fun z=>by rw [z,h'] at h; cases h
def aw5:Sp:=fun vs H Q _=>∃ (tk d0 d1 pa:Addr) (kv0 kv1:List (List Key × V)) (p:Int × Int) (i:Nat) (x:Int),vs = [.ref tk,.int (i:Nat),.ref pa,.int x] ∧ Tk H tk d0 d1 kv0 kv1 ∧ H pa = some (.tup [.int p.1,.int p.2]) ∧ kv0.length ≤ 9000 ∧ kv1.length ≤ 9000 ∧
 ∀ H',S9 d0 d1 H H' → Tk H' tk d0 d1 (A0 kv0 (kRN p.1 x) (.int (i:Nat))) (A0 kv1 (kRN p.2 x) (.int (i:Nat))) → Q .non H'
def aD1:Sp:=fun vs H Q _=>∃ (tk d0 d1 pa:Addr) (kv0 kv1:List (List Key × V)) (p:Int × Int) (x:Int) (v0 v1:V),vs = [.ref tk,.ref pa,.int x] ∧ Tk H tk d0 d1 kv0 kv1 ∧ H pa = some (.tup [.int p.1,.int p.2]) ∧ p7 kv0 (kRN p.1 x) = some v0 ∧ p7 kv1 (kRN p.2 x) = some v1 ∧
 ∀ H',S9 d0 d1 H H' → Tk H' tk d0 d1 (E8 kv0 (kRN p.1 x)) (E8 kv1 (kRN p.2 x)) → Q .non H'
def aK4:Sp:=fun vs H Q _=>∃ (d:Addr) (kvs:List (List Key × V)) (r:Int),vs = [.ref d,.int r] ∧ H d = some (.dT kvs) ∧ (∀ x:Nat,(∀ y:Nat,y < x → (p7 kvs (kRN r y)).isSome = true) → x ≤ 60) ∧
 ∀ (x:Nat) (H':Hp),i4 H H' → (∀ y:Nat,y < x → (p7 kvs (kRN r y)).isSome = true) → p7 kvs (kRN r x) = none → Q (.int (x:Nat)) H'
def aC5 (K:PySem.W.Frag):Sp:=fun vs H Q _=>∃ (l tk d0 d1:Addr) (as:List Addr) (ps:List (Int × Int)) (kv0 kv1:List (List Key × V)) (nu:Nat → Int) (t:Nat) (r1 a b:Int),vs = [.ref l,.ref tk,.int r1,.int a,.int b] ∧ SqL K H l (as.map V.ref) ∧ o6 H as ps ∧ t ≤ ps.length ∧ ps.length ≤ 60 ∧ Tk H tk d0 d1 kv0 kv1 ∧
 DT kv0 (RI 0 ps) nu (· < t) ∧ DT kv1 (RI 1 ps) nu (· < t) ∧ Num (RI 0 ps) (RI 1 ps) t nu ∧ (∀ j,j < t → RI 1 ps j = r1 → nu j ≠ b) ∧
 ∀ (cl:Addr) (cs:List Nat) (H':Hp),i4 H H' → H cl = none → H' cl = some (.lst (cs.map fun c=>V.int (c:Nat))) → Cha (RI 0 ps) (RI 1 ps) t nu a b r1 cs cs → (∃ side,Run (RI 0 ps) (RI 1 ps) t nu a b r1 cs side none) → Q (.ref cl) H'
def aN2 (K:PySem.W.Frag):Sp:=fun vs H Q _=>∃ (l tk nl cl d0 d1:Addr) (as:List Addr) (ps:List (Int × Int)) (kv0 kv1:List (List Key × V)) (ns:List Int) (cs:List Nat) (r1 a b:Int),vs = [.ref l,.ref tk,.ref nl,.ref cl,.int a,.int b] ∧ SqL K H l (as.map V.ref) ∧ o6 H as ps ∧ ns.length ≤ ps.length ∧ ps.length ≤ 60 ∧ Tk H tk d0 d1 kv0 kv1 ∧ l ≠ nl ∧ cl ≠ nl ∧
 H nl = some (.lst (ns.map V.int)) ∧ H cl = some (.lst (cs.map fun c=>V.int (c:Nat))) ∧ H l = some (.lst (as.map V.ref)) ∧ kv0.length ≤ 5000 ∧ kv1.length ≤ 5000 ∧
 DT kv0 (RI 0 ps) (nuL ns) (· < ns.length) ∧ DT kv1 (RI 1 ps) (nuL ns) (· < ns.length) ∧ Num (RI 0 ps) (RI 1 ps) ns.length (nuL ns) ∧ (∀ j,j < ns.length → RI 1 ps j = r1 → nuL ns j ≠ b) ∧ Cha (RI 0 ps) (RI 1 ps) ns.length (nuL ns) a b r1 cs cs ∧
 ∀ (ns':List Int) (kv0' kv1':List (List Key × V)) (H':Hp),W6 d0 d1 nl H H' → Tk H' tk d0 d1 kv0' kv1' → H' nl = some (.lst (ns'.map V.int)) → ns'.length = ns.length → kv0'.length ≤ kv0.length + 60 → kv1'.length ≤ kv1.length + 60 → (∀ i,i < ns.length → nuL ns' i = if i ∈ cs then swp a b (nuL ns i) else nuL ns i) → DT kv0' (RI 0 ps) (nuL ns') (· < ns.length) → DT kv1' (RI 1 ps) (nuL ns') (· < ns.length) → Q .non H'
section
variable {P:Program} {w:World} {K:PySem.W.Frag} {mg:Str → Option Value} {base:Heap}
theorem aB5:FnScope ["taken","place","pair","number","side"] ["taken","place","pair","number"] (d7 (top 19)):=⟨rfl,rfl,rfl,by decide +kernel,rfl,by decide +kernel,by decide +kernel⟩
theorem aV0 (T:Txt K mg) (D:Def K mg "take" (top 19) ["taken","place","pair","number"]):Callee P w K mg base 1 "take" ["taken","place","pair","number"] aw5:=by
 refine D.ok aB5 (fun vs H Q E h=>?_) (fun f cdv A outer s H vs Q E hr h=>?_)
 ·obtain ⟨tk,d0,d1,pa,kv0,kv1,p,i,x,rfl,_⟩:=h
  rfl
 obtain ⟨tk,d0,d1,pa,kv0,kv1,p,i,x,rfl,tt,ep,l0,l1,q⟩:=h
 refine ⟨_,(g6 (y6 PassesOwn.never rfl (J4 rfl T.m_range (b7 d4 d5 i0)) (o9 (i:=4) aB5.nd rfl (Or.inl rfl))
  (g6 (K2 (A1 hr) (h9 (g7 K) (pv 0) (pv 4) (fun _ _=>rfl)) (m9 (b7 (h9 (g7 K) (pv 2) (pv 4) (fun _ _=>rfl)) (b7 (pv 3) d5 b8) j6)) (pv 1) rfl)))),?_⟩
 refine ⟨_,rfl,by decide,by decide,?_⟩
 have nt0:=F4 tt.tk tt.e0
 have nt1:=F4 tt.tk tt.e1
 have np0:=F4 ep tt.e0
 have np1:=F4 ep tt.e1
 refine M8 (lo:=0) (n:=2) (fun j σ H'=>S9 d0 d1 H H' ∧ Tk H' tk d0 d1 (if 0 < j then A0 kv0 (kRN p.1 x) (.int (i:Nat)) else kv0) (if 1 < j then A0 kv1 (kRN p.2 x) (.int (i:Nat)) else kv1) ∧ ∃ v4,σ = [some (.ref tk),some (.int (i:Nat)),some (.ref pa),some (.int x),v4])
  ⟨fun b u _ _ z=>z,tt,none,rfl⟩ ?_ ?_
 ·rintro j σ H' hj ⟨sx,tj,v4,rfl⟩
  have ep':=sx _ _ np0 np1 ep
  match j,hj with
  | 0,_ =>
   refine ⟨_,rfl,_,rfl,_,rfl,tk,_,_,_,rfl,rfl,SqT.of tj.tk,rfl,_,rfl,_,rfl,pa,_,_,_,rfl,rfl,SqT.of ep',rfl,_,rfl,(by show 2 ≤ sizeLine; decide),fun k hk=>?_⟩
   have s2:=d8 hk (.tup [.int p.1,.int x])
   have ek:=b9 (H:=H') (a:=k) (o:=.tup [.int p.1,.int x])
   have t2:=tj.same s2
   generalize upd H' k (.tup [.int p.1,.int x]) = H2 at s2 ek t2 ⊢
   refine ⟨d0,_,rfl,S2.t (k:=kRN p.1 x) t2.e0 ek (aN4 (show kv0.length ≤ 100000 by lia)),?_⟩
   refine ⟨fun b u b0 b1 z=>by rw [d9 b0]; exact s2 _ _ (sx b u b0 b1 z),⟨by rw [d9 nt0]; exact t2.tk,b9,by rw [d9 (Ne.symm tt.ne)]; exact t2.e1,tt.ne⟩,_,rfl⟩
  | 1,_ =>
   refine ⟨_,rfl,_,rfl,_,rfl,tk,_,_,_,rfl,rfl,SqT.of tj.tk,rfl,_,rfl,_,rfl,pa,_,_,_,rfl,rfl,SqT.of ep',rfl,_,rfl,(by show 2 ≤ sizeLine; decide),fun k hk=>?_⟩
   have s2:=d8 hk (.tup [.int p.2,.int x])
   have ek:=b9 (H:=H') (a:=k) (o:=.tup [.int p.2,.int x])
   have t2:=tj.same s2
   generalize upd H' k (.tup [.int p.2,.int x]) = H2 at s2 ek t2 ⊢
   refine ⟨d1,_,rfl,S2.t (k:=kRN p.2 x) t2.e1 ek (aN4 (show kv1.length ≤ 100000 by lia)),?_⟩
   refine ⟨fun b u b0 b1 z=>by rw [d9 b1]; exact s2 _ _ (sx b u b0 b1 z),⟨by rw [d9 nt1]; exact t2.tk,by rw [d9 tt.ne]; exact t2.e0,b9,tt.ne⟩,_,rfl⟩
 ·rintro σ H' ⟨sx,tj,v4,rfl⟩
  exact q H' sx tj
theorem am7:FnScope ["taken","pair","number","side"] ["taken","pair","number"] (d7 (top 20)):=⟨rfl,rfl,rfl,by decide +kernel,rfl,by decide +kernel,by decide +kernel⟩
theorem aK5 (T:Txt K mg) (D:Def K mg "leave" (top 20) ["taken","pair","number"]):Callee P w K mg base 1 "leave" ["taken","pair","number"] aD1:=by
 refine D.ok am7 (fun vs H Q E h=>?_) (fun f cdv A outer s H vs Q E hr h=>?_)
 ·obtain ⟨tk,d0,d1,pa,kv0,kv1,p,x,v0,v1,rfl,_⟩:=h
  rfl
 obtain ⟨tk,d0,d1,pa,kv0,kv1,p,x,v0,v1,rfl,tt,ep,l0,l1,q⟩:=h
 refine ⟨_,(g6 (y6 PassesOwn.never rfl (J4 rfl T.m_range (b7 d4 d5 i0)) (o9 (i:=3) am7.nd rfl (Or.inl rfl))
  (g6 (A6 (aP1 (A1 hr) (h9 (g7 K) (pv 0) (pv 3) (fun _ _=>rfl)) (m9 (b7 (h9 (g7 K) (pv 1) (pv 3) (fun _ _=>rfl)) (b7 (pv 2) d5 b8) j6)) ⟨rfl,rfl,rfl,rfl⟩))))),?_⟩
 refine ⟨_,rfl,by decide,by decide,?_⟩
 have nt0:=F4 tt.tk tt.e0
 have nt1:=F4 tt.tk tt.e1
 have np0:=F4 ep tt.e0
 have np1:=F4 ep tt.e1
 refine M8 (lo:=0) (n:=2) (fun j σ H'=>S9 d0 d1 H H' ∧ Tk H' tk d0 d1 (if 0 < j then E8 kv0 (kRN p.1 x) else kv0) (if 1 < j then E8 kv1 (kRN p.2 x) else kv1) ∧ ∃ v3,σ = [some (.ref tk),some (.ref pa),some (.int x),v3])
  ⟨fun b u _ _ z=>z,tt,none,rfl⟩ ?_ ?_
 ·rintro j σ H' hj ⟨sx,tj,v3,rfl⟩
  have ep':=sx _ _ np0 np1 ep
  match j,hj with
  | 0,_ =>
   refine ⟨_,rfl,_,rfl,tk,_,_,_,rfl,rfl,SqT.of tj.tk,rfl,d0,rfl,.inr ⟨_,.inl tj.e0⟩,_,rfl,_,rfl,pa,_,_,_,rfl,rfl,SqT.of ep',rfl,_,rfl,(by show 2 ≤ sizeLine; decide),fun k hk=>?_⟩
   have s2:=d8 hk (.tup [.int p.1,.int x])
   have ek:=b9 (H:=H') (a:=k) (o:=.tup [.int p.1,.int x])
   have t2:=tj.same s2
   generalize upd H' k (.tup [.int p.1,.int x]) = H2 at s2 ek t2 ⊢
   refine ⟨_,kRN p.1 x,k,v0,t2.e0,rfl,ek,l0,?_⟩
   refine ⟨fun b u b0 b1 z=>by rw [d9 b0]; exact s2 _ _ (sx b u b0 b1 z),⟨by rw [d9 nt0]; exact t2.tk,b9,by rw [d9 (Ne.symm tt.ne)]; exact t2.e1,tt.ne⟩,_,rfl⟩
  | 1,_ =>
   refine ⟨_,rfl,_,rfl,tk,_,_,_,rfl,rfl,SqT.of tj.tk,rfl,d1,rfl,.inr ⟨_,.inl tj.e1⟩,_,rfl,_,rfl,pa,_,_,_,rfl,rfl,SqT.of ep',rfl,_,rfl,(by show 2 ≤ sizeLine; decide),fun k hk=>?_⟩
   have s2:=d8 hk (.tup [.int p.2,.int x])
   have ek:=b9 (H:=H') (a:=k) (o:=.tup [.int p.2,.int x])
   have t2:=tj.same s2
   generalize upd H' k (.tup [.int p.2,.int x]) = H2 at s2 ek t2 ⊢
   refine ⟨_,kRN p.2 x,k,v1,t2.e1,rfl,ek,l1,?_⟩
   refine ⟨fun b u b0 b1 z=>by rw [d9 b1]; exact s2 _ _ (sx b u b0 b1 z),⟨by rw [d9 nt1]; exact t2.tk,by rw [d9 tt.ne]; exact t2.e0,b9,tt.ne⟩,_,rfl⟩
 ·rintro σ H' ⟨sx,tj,v3,rfl⟩
  exact q H' sx tj
theorem K9:FnScope ["places","rack","number"] ["places","rack"] (d7 (top 21)):=⟨rfl,rfl,rfl,by decide +kernel,rfl,by decide +kernel,by decide +kernel⟩
theorem aV9 (T:Txt K mg) (D:Def K mg "first_left" (top 21) ["places","rack"]):Callee P w K mg base 1 "first_left" ["places","rack"] aK4:=by
 refine D.ok K9 (fun vs H Q E h=>?_) (fun f cdv A outer s H vs Q E hr h=>?_)
 ·obtain ⟨d,kvs,r,rfl,_⟩:=h
  rfl
 obtain ⟨d,kvs,r,rfl,ed,hb,q⟩:=h
 refine ⟨_,(d6 (i7 (i:=2) K9.nd rfl (Or.inl rfl) d4)
  (d6 (au0 PassesOwn.never (V9 (V5 (A1 hr) (m9 (b7 (pv 1) (b7 (pv 2) d5 b8) b8)) (pv 0))) (g6 (aY8 (i:=2) K9.nd rfl (Or.inl rfl) d4 aR7)))
  (g6 (j8 (pv 2))))),?_⟩
 refine ⟨fun m σ H'=>i4 H H' ∧ ∃ x:Nat,m = 61 - x ∧ (∀ y:Nat,y < x → (p7 kvs (kRN r y)).isSome = true) ∧ σ = [some (.ref d),some (.int r),some (.int (x:Nat))],
  ⟨_,fun b u z=>z,0,rfl,fun y hy=>absurd hy (Nat.not_lt_zero _),rfl⟩,?_⟩
 rintro m σ H' ⟨s1,x,rfl,hx,rfl⟩
 refine ⟨_,rfl,_,rfl,(by show 2 ≤ sizeLine; decide),fun k hk=>?_⟩
 have s2:=d8 hk (.tup [.int r,.int (x:Nat)])
 have ek:=b9 (H:=H') (a:=k) (o:=.tup [.int r,.int (x:Nat)])
 generalize upd H' k (.tup [.int r,.int (x:Nat)]) = H2 at s2 ek ⊢
 refine ⟨_,rfl,d,_,rfl,E3.t (k:=kRN r x) (s2 _ _ (s1 _ _ ed)) ek,?_⟩
 have h60:=hb x hx
 cases e:p7 kvs (kRN r x) with
 | some v =>
  refine ⟨true,rfl,T5 ?_⟩
  have hx':∀ y:Nat,y < x + 1 → (p7 kvs (kRN r y)).isSome = true:=fun y hy=>by
   rcases Nat.lt_succ_iff_lt_or_eq.mp hy with z | rfl
   ·exact hx y z
   ·rw [e]; rfl
  have h61:=hb (x + 1) hx'
  refine ⟨fun σ' G=>∃ m',m' < 61 - x ∧ (i4 H G ∧ ∃ x:Nat,m' = 61 - x ∧ (∀ y:Nat,y < x → (p7 kvs (kRN r y)).isSome = true) ∧ σ' = [some (.ref d),some (.int r),some (.int (x:Nat))]),fun σ' G z=>z,?_⟩
  exact ⟨_,rfl,_,_,rfl,rfl,61 - (x + 1),by lia,s1.trans s2,x + 1,rfl,hx',rfl⟩
 | none =>
  refine ⟨false,rfl,D9 ?_⟩
  exact ⟨_,rfl,q x H2 (s1.trans s2) hx e⟩
end
def aJ7 (R0 R1:Nat → Int) (t:Nat) (nu:Nat → Int) (a b r1:Int) (cs:List Nat) (side:Int) (nx:Option Nat):Prop :=
 Run R0 R1 t nu a b r1 cs side nx ∧ (side = 0 ∨ side = 1) ∧ (nx = none → Cha R0 R1 t nu a b r1 cs cs) ∧ ∀ p,nx = some p → p < t ∧ a ≠ b ∧ nu p = (if side = 1 then a else b) ∧ Cha R0 R1 t nu a b r1 (cs ++ [p]) cs
theorem aB7 {R0 R1:Nat → Int} {t:Nat} {nu:Nat → Int} {a b r1:Int} {cs pre:List Nat} (h:Cha R0 R1 t nu a b r1 cs pre):cs.length ≤ t:=a78 h.nd h.lt
theorem ai9 {H:Hp} {as:List Addr} {ps:List (Int × Int)} (h:o6 H as ps) {i:Nat} (hi:i < ps.length):∃ a p,as[i]? = some a ∧ ps[i]? = some p ∧ H a = some (.tup [.int p.1,.int p.2]):=by
 have ln:as.length = ps.length:=Paired.length h
 have ea:as[i]? = some (as[i]'(by lia)):=List.getElem?_eq_getElem _
 obtain ⟨p,hp,e⟩:=p4 h i _ ea
 exact ⟨_,p,ea,hp,e⟩
section
variable {P:Program} {w:World} {K:PySem.W.Frag} {mg:Str → Option Value} {base:Heap}
theorem y9:FnScope ["pairs","taken","rack","a","b","chain","side","place"] ["pairs","taken","rack","a","b"] (d7 (top 22)):=⟨rfl,rfl,rfl,by decide +kernel,rfl,by decide +kernel,by decide +kernel⟩
set_option maxHeartbeats 4000000 in
theorem aP6 (T:Txt K mg) (D:Def K mg "chain_along" (top 22) ["pairs","taken","rack","a","b"]):Callee P w K mg base 1 "chain_along" ["pairs","taken","rack","a","b"] (aC5 K):=by
 refine D.ok y9 (fun vs H Q E h=>?_) (fun f cdv A outer s H vs Q E hr h=>?_)
 ·obtain ⟨l,tk,d0,d1,as,ps,kv0,kv1,nu,t,r1,a,b,rfl,_⟩:=h
  rfl
 obtain ⟨l,tk,d0,d1,as,ps,kv0,kv1,nu,t,r1,a,b,rfl,hl,pr,ht,few,tt,D0,D1,N,hb,q⟩:=h
 have ln:as.length = ps.length:=Paired.length pr
 refine ⟨_,(d6 (i7 (i:=5) y9.nd rfl (Or.inl rfl) (C4 d5))
  (d6 (i7 (i:=6) y9.nd rfl (Or.inl rfl) d4)
  (d6 (i7 (i:=7) y9.nd rfl (Or.inl rfl) (aq7 (A1 hr) (h9 (g7 K) (pv 1) (pv 6) (fun _ _=>rfl)) (m9 (b7 (pv 2) (b7 (pv 3) d5 b8) b8)) ⟨rfl,rfl,rfl,rfl⟩))
  (d6 (au0 PassesOwn.never (m7 am5 (pv 7) L5 (n9 _)) (d6 (A6 (K8 K PySem.F.plainAttrs_list PySem.F.slot_list_append PySem.F.type_list_append D8 (pv 5) (b7 (pv 7) d5 b8)))
  (d6 (i7 (i:=6) y9.nd rfl (Or.inl rfl) (i6 al8 d4 (pv 6)))
  (g6 (i7 (i:=7) y9.nd rfl (Or.inl rfl) (aq7 (A1 hr) (h9 (g7 K) (pv 1) (pv 6) (fun _ _=>rfl)) (m9 (b7 (h9 (g7 K) (h9 (x8 K) (pv 0) (pv 7) (fun _ _=>rfl)) (pv 6) (fun _ _=>rfl)) (b7 (h9 (g7 K) (m9 (b7 (pv 4) (b7 (pv 3) d5 b8) b8)) (pv 6) (fun _ _=>rfl)) d5 j6) j6)) ⟨rfl,rfl,rfl,rfl⟩))))))
  (g6 (j8 (pv 5))))))),?_⟩
 refine ⟨(by show 0 ≤ sizeLine; decide),fun cl hcl=>?_⟩
 have s1:=d8 hcl (.lst [])
 have ec:=b9 (H:=H) (a:=cl) (o:=.lst [])
 have t1:=tt.same s1
 generalize upd H cl (.lst []) = H1 at s1 ec t1 ⊢
 refine ⟨_,rfl,_,rfl,tk,_,_,_,rfl,rfl,SqT.of t1.tk,rfl,d1,rfl,.inr ⟨_,.inl t1.e1⟩,_,rfl,_,rfl,(by show 2 ≤ sizeLine; decide),fun k hk=>?_⟩
 have s2:=d8 hk (.tup [.int r1,.int a])
 have ek:=b9 (H:=H1) (a:=k) (o:=.tup [.int r1,.int a])
 have t2:=t1.same s2
 have ec2:=s2 _ _ ec
 generalize upd H1 k (.tup [.int r1,.int a]) = H2 at s2 ek t2 ec2 ⊢
 refine ⟨_,E3.t (k:=kRN r1 a) t2.e1 ek,?_⟩
 obtain ⟨nx,vx,pd⟩:∃ nx:Option Nat,(p7 kv1 (kRN r1 a)).getD .non = oN nx ∧ aJ7 (RI 0 ps) (RI 1 ps) t nu a b r1 [] 1 nx:=by
  rcases D1.look r1 a with ⟨e1,e2⟩ | ⟨i,e1,e2,e3,e4⟩
  ·exact ⟨none,by rw [e1]; rfl,.start (.inl ⟨rfl,e2⟩),.inr rfl,fun _=>Cha.none fun j h1 h2 h3=>e2 j h1 h3 h2,fun p z=>nomatch z⟩
  ·refine ⟨some i,by rw [e1]; rfl,.start (.inr ⟨i,rfl,e2,e3,e4⟩),.inr rfl,fun z=>(nomatch z),fun p z=>?_⟩
   cases z
   exact ⟨e2,fun z=>hb i e2 e3 (by rw [e4,z]),by rw [if_pos rfl]; exact e4,Cha.one N hb e2 e4 e3⟩
 rw [vx]
 have s12:=s1.trans s2
 refine ⟨fun m σ H'=>i4 H H' ∧ ∃ (cs:List Nat) (side:Int) (nx:Option Nat),m = 61 - cs.length ∧ H' cl = some (.lst (cs.map fun c=>V.int (c:Nat))) ∧ aJ7 (RI 0 ps) (RI 1 ps) t nu a b r1 cs side nx ∧ σ = [some (.ref l),some (.ref tk),some (.int r1),some (.int a),some (.int b),some (.ref cl),some (.int side),some (oN nx)],
  ⟨_,s12,[],1,nx,rfl,ec2,pd,rfl⟩,?_⟩
 rintro m σ H' ⟨s3,cs,side,nx,rfl,e3,pd,rfl⟩
 obtain ⟨run,hside,pd0,pd1⟩:=pd
 cases nx with
 | none =>
  refine ⟨_,rfl,rfl,_,rfl,D9 ?_⟩
  exact ⟨_,rfl,q cl cs H' s3 hcl e3 (pd0 rfl) ⟨side,run⟩⟩
 | some p =>
  obtain ⟨pt,hab,pn,cha⟩:=pd1 p rfl
  refine ⟨_,rfl,rfl,_,rfl,T5 ?_⟩
  have cl60:(cs ++ [p]).length ≤ t:=aB7 cha
  rw [List.length_append,List.length_singleton] at cl60
  refine ⟨fun σ' G=>∃ m',m' < 61 - cs.length ∧ (i4 H G ∧ ∃ (cs:List Nat) (side:Int) (nx:Option Nat),m' = 61 - cs.length ∧ G cl = some (.lst (cs.map fun c=>V.int (c:Nat))) ∧ aJ7 (RI 0 ps) (RI 1 ps) t nu a b r1 cs side nx ∧ σ' = [some (.ref l),some (.ref tk),some (.int r1),some (.int a),some (.int b),some (.ref cl),some (.int side),some (oN nx)]),fun σ' G z=>z,?_⟩
  refine ⟨_,rfl,.inl ⟨rfl,_,SqL.of e3⟩,_,rfl,cl,_,_,rfl,rfl,e3,m3 (by rw [List.length_map]; lia),?_⟩
  have s4:i4 H (upd H' cl (.lst ((cs.map fun c=>V.int (c:Nat)) ++ [oN (some p)]))):=i4.put s3 hcl
  have e4:upd H' cl (.lst ((cs.map fun c=>V.int (c:Nat)) ++ [oN (some p)])) cl = some (.lst ((cs ++ [p]).map fun c=>V.int (c:Nat))):=by rw [b9,List.map_append]; rfl
  generalize upd H' cl (.lst ((cs.map fun c=>V.int (c:Nat)) ++ [oN (some p)])) = H4 at s4 e4 ⊢
  have t4:=tt.same s4
  refine ⟨_,rfl,_,_,rfl,rfl,?_⟩
  obtain ⟨ap,pp,ha,hp,ep⟩:=ai9 pr (show p < ps.length by lia)
  have ep4:=s4 _ _ ep
  have hat:atI (as.map V.ref) ((p:Nat):Int) = some (.ref ap):=G9 (by rw [List.getElem?_map,ha]; rfl)
  rcases hside with rfl | rfl
  ·-- behind a pair with b: its out rack
   rw [if_neg (by decide)] at pn
   refine ⟨_,rfl,_,rfl,tk,_,_,_,rfl,rfl,SqT.of t4.tk,rfl,d1,rfl,.inr ⟨_,.inl t4.e1⟩,_,rfl,_,rfl,l,_,_,_,rfl,rfl,s4.seq hl,hat,_,rfl,ap,_,_,_,rfl,rfl,SqT.of ep4,rfl,_,rfl,_,rfl,(by show 2 ≤ sizeLine; decide),fun k2 hk2=>?_⟩
   have s5:=d8 hk2 (.tup [.int b,.int a])
   have ek2:=b9 (H:=H4) (a:=k2) (o:=.tup [.int b,.int a])
   have t5:=t4.same s5
   have e5:=s5 _ _ e4
   generalize upd H4 k2 (.tup [.int b,.int a]) = H5 at s5 ek2 t5 e5 ⊢
   refine ⟨_,rfl,k2,_,_,_,rfl,rfl,SqT.of ek2,rfl,(by show 2 ≤ sizeLine; decide),fun k3 hk3=>?_⟩
   have s6:=d8 hk3 (.tup [.int pp.2,.int a])
   have ek3:=b9 (H:=H5) (a:=k3) (o:=.tup [.int pp.2,.int a])
   have t6:=t5.same s6
   have e6:=s6 _ _ e5
   generalize upd H5 k3 (.tup [.int pp.2,.int a]) = H6 at s6 ek3 t6 e6 ⊢
   refine ⟨_,E3.t (k:=kRN pp.2 a) t6.e1 ek3,?_⟩
   have rp:RI 1 ps p = pp.2:=L9 hp
   obtain ⟨nx,vx,pd⟩:∃ nx:Option Nat,(p7 kv1 (kRN pp.2 a)).getD .non = oN nx ∧ aJ7 (RI 0 ps) (RI 1 ps) t nu a b r1 (cs ++ [p]) 1 nx:=by
    rcases D1.look pp.2 a with ⟨e1,e2⟩ | ⟨i,e1,e2,e3,e4⟩
    ·exact ⟨none,by rw [e1]; rfl,run.on1 rp (.inl ⟨rfl,e2⟩),.inr rfl,fun _=>cha.end1 hab pn fun j h1 h2 h3=>e2 j h1 (by rw [h3,rp]) h2,fun p z=>nomatch z⟩
    ·refine ⟨some i,by rw [e1]; rfl,run.on1 rp (.inr ⟨i,rfl,e2,e3,e4⟩),.inr rfl,fun z=>(nomatch z),fun p' z=>?_⟩
     cases z
     exact ⟨e2,hab,by rw [if_pos rfl]; exact e4,cha.to1 N hab hb pn e2 e4 (by rw [e3,rp])⟩
   rw [vx]
   exact ⟨61 - (cs ++ [p]).length,by rw [List.length_append,List.length_singleton]; lia,s4.trans (s5.trans s6),cs ++ [p],1,nx,rfl,e6,pd,rfl⟩
  ·rw [if_pos rfl] at pn
   refine ⟨_,rfl,_,rfl,tk,_,_,_,rfl,rfl,SqT.of t4.tk,rfl,d0,rfl,.inr ⟨_,.inl t4.e0⟩,_,rfl,_,rfl,l,_,_,_,rfl,rfl,s4.seq hl,hat,_,rfl,ap,_,_,_,rfl,rfl,SqT.of ep4,rfl,_,rfl,_,rfl,(by show 2 ≤ sizeLine; decide),fun k2 hk2=>?_⟩
   have s5:=d8 hk2 (.tup [.int b,.int a])
   have ek2:=b9 (H:=H4) (a:=k2) (o:=.tup [.int b,.int a])
   have t5:=t4.same s5
   have e5:=s5 _ _ e4
   generalize upd H4 k2 (.tup [.int b,.int a]) = H5 at s5 ek2 t5 e5 ⊢
   refine ⟨_,rfl,k2,_,_,_,rfl,rfl,SqT.of ek2,rfl,(by show 2 ≤ sizeLine; decide),fun k3 hk3=>?_⟩
   have s6:=d8 hk3 (.tup [.int pp.1,.int b])
   have ek3:=b9 (H:=H5) (a:=k3) (o:=.tup [.int pp.1,.int b])
   have t6:=t5.same s6
   have e6:=s6 _ _ e5
   generalize upd H5 k3 (.tup [.int pp.1,.int b]) = H6 at s6 ek3 t6 e6 ⊢
   refine ⟨_,E3.t (k:=kRN pp.1 b) t6.e0 ek3,?_⟩
   have rp:RI 0 ps p = pp.1:=L9 hp
   obtain ⟨nx,vx,pd⟩:∃ nx:Option Nat,(p7 kv0 (kRN pp.1 b)).getD .non = oN nx ∧ aJ7 (RI 0 ps) (RI 1 ps) t nu a b r1 (cs ++ [p]) 0 nx:=by
    rcases D0.look pp.1 b with ⟨e1,e2⟩ | ⟨i,e1,e2,e3,e4⟩
    ·exact ⟨none,by rw [e1]; rfl,run.on0 rp (.inl ⟨rfl,e2⟩),.inl rfl,fun _=>cha.end0 hab pn fun j h1 h2 h3=>e2 j h1 (by rw [h3,rp]) h2,fun p z=>nomatch z⟩
    ·refine ⟨some i,by rw [e1]; rfl,run.on0 rp (.inr ⟨i,rfl,e2,e3,e4⟩),.inl rfl,fun z=>(nomatch z),fun p' z=>?_⟩
     cases z
     exact ⟨e2,hab,by rw [if_neg (by decide)]; exact e4,cha.to0 N hab pn e2 e4 (by rw [e3,rp])⟩
   rw [vx]
   exact ⟨61 - (cs ++ [p]).length,by rw [List.length_append,List.length_singleton]; lia,s4.trans (s5.trans s6),cs ++ [p],0,nx,rfl,e6,pd,rfl⟩
end
theorem a48 {ns:List Int} {i:Nat} {x:Int} (h:i < ns.length) (j:Nat):nuL (ns.set i x) j = if j = i then x else nuL ns j:=by
 unfold nuL
 by_cases e:j = i
 ·rw [if_pos e,e,List.getD,List.getElem?_set_self h]
  rfl
 ·rw [if_neg e,List.getD,List.getElem?_set_ne (Ne.symm e),List.getD]
theorem aW1 {ns:List Int} {x:Int}:(∀ i,i < ns.length → nuL (ns ++ [x]) i = nuL ns i) ∧ nuL (ns ++ [x]) ns.length = x:=by
 refine ⟨fun i hi=>?_,?_⟩
 ·unfold nuL
  rw [List.getD,List.getElem?_append_left hi,List.getD]
 ·unfold nuL
  rw [List.getD,List.getElem?_concat_length]
  rfl
theorem X4 {cs:List Nat} {k j:Nat} {c:Nat} (nd:cs.Nodup) (hc:cs[k]? = some c):¬ c ∈ cs.take k:=fun z=>by
 obtain ⟨i,hi,e⟩:=List.getElem_of_mem z
 rw [List.length_take] at hi
 have hk:=(List.getElem?_eq_some_iff.mp hc).1
 have e1:cs[i]? = some c:=by
  rw [List.getElem_take] at e
  rw [List.getElem?_eq_getElem (by lia),e]
 have:=(List.getElem?_inj (by lia) nd).mp (e1.trans hc.symm)
 lia
section
variable {P:Program} {w:World} {K:PySem.W.Frag} {mg:Str → Option Value} {base:Heap}
theorem O8:FnScope ["pairs","taken","numbers","chain","a","b","place"] ["pairs","taken","numbers","chain","a","b"] (d7 (top 23)):=⟨rfl,rfl,rfl,by decide +kernel,rfl,by decide +kernel,by decide +kernel⟩
set_option maxHeartbeats 4000000 in
theorem aT1 (T:Txt K mg) (C_take:Callee P w K mg base 1 "take" ["taken","place","pair","number"] aw5) (C_leave:Callee P w K mg base 1 "leave" ["taken","pair","number"] aD1) (D:Def K mg "exchange" (top 23) ["pairs","taken","numbers","chain","a","b"]):Callee P w K mg base 2 "exchange" ["pairs","taken","numbers","chain","a","b"] (aN2 K):=by
 refine D.ok O8 (fun vs H Q E h=>?_) (fun f cdv A outer s H vs Q E hr h=>?_)
 ·obtain ⟨l,tk,nl,cl,d0,d1,as,ps,kv0,kv1,ns,cs,r1,a,b,rfl,_⟩:=h
  rfl
 obtain ⟨l,tk,nl,cl,d0,d1,as,ps,kv0,kv1,ns,cs,r1,a,b,rfl,hl,pr,ht,few,tt,hln,hcn,en,ec,el,k0,k1,D0,D1,N,hb,ch,q⟩:=h
 have ln:as.length = ps.length:=Paired.length pr
 have cl60:=aB7 ch
 refine ⟨_,(d6 (y6 PassesOwn.never rfl (z9 K (pv 3)) (o9 (i:=6) O8.nd rfl (Or.inl rfl))
  (g6 (A6 (m6 C_leave hr rfl (b7 (pv 1) (b7 (h9 (x8 K) (pv 0) (pv 6) (fun _ _=>rfl)) (b7 (h9 (x8 K) (pv 2) (pv 6) (fun _ _=>rfl)) d5 j6) j6) b8)))))
  (g6 (y6 PassesOwn.never rfl (z9 K (pv 3)) (o9 (i:=6) O8.nd rfl (Or.inl rfl))
  (d6 (az5 (aJ8 (m7 S1 (h9 (x8 K) (pv 2) (pv 6) (fun _ _=>rfl)) (pv 4) (n9 _)) (pv 5) (pv 4)) (aK8 (pv 2) (pv 6) ap9))
  (g6 (A6 (m6 C_take hr rfl (b7 (pv 1) (b7 (pv 6) (b7 (h9 (x8 K) (pv 0) (pv 6) (fun _ _=>rfl)) (b7 (h9 (x8 K) (pv 2) (pv 6) (fun _ _=>rfl)) d5 j6) j6) b8) b8)))))))),?_⟩
 have ln0:l ≠ d0:=fun z=>by rw [z,tt.e0] at el; cases el
 have ln1:l ≠ d1:=fun z=>by rw [z,tt.e1] at el; cases el
 have cn0:cl ≠ d0:=fun z=>by rw [z,tt.e0] at ec; cases ec
 have cn1:cl ≠ d1:=fun z=>by rw [z,tt.e1] at ec; cases ec
 have nn0:nl ≠ d0:=fun z=>by rw [z,tt.e0] at en; cases en
 have nn1:nl ≠ d1:=fun z=>by rw [z,tt.e1] at en; cases en
 have ntn:tk ≠ nl:=fun z=>by
  have:=tt.tk
  rw [z,en] at this
  cases this
 have tupX:∀ {H':Hp},S9 d0 d1 H H' → ∀ x xs,H x = some (.tup xs) → H' x = some (.tup xs):=fun sx x xs z=>sx _ _ (F4 z tt.e0) (F4 z tt.e1) z
 refine ⟨_,rfl,cl,rfl,⟨_,SqL.of ec⟩,?_⟩
 refine B0 (xs:=cs.map fun c=>V.int (c:Nat)) (fun i σ H'=>S9 d0 d1 H H' ∧ (∃ kv0' kv1',Tk H' tk d0 d1 kv0' kv1' ∧ kv0'.length ≤ kv0.length ∧ kv1'.length ≤ kv1.length ∧ DT kv0' (RI 0 ps) (nuL ns) (fun j=>j < ns.length ∧ ¬ j ∈ cs.take i) ∧ DT kv1' (RI 1 ps) (nuL ns) (fun j=>j < ns.length ∧ ¬ j ∈ cs.take i)) ∧ ∃ v6,σ = [some (.ref l),some (.ref tk),some (.ref nl),some (.ref cl),some (.int a),some (.int b),v6])
  ⟨fun b u _ _ z=>z,⟨kv0,kv1,tt,Nat.le_refl _,Nat.le_refl _,?_,?_⟩,none,rfl⟩ (fun i σ H' _ g=>SqL.of (g.1 _ _ cn0 cn1 ec)) ?_ ?_
 ·have e:(fun j=>j < ns.length ∧ ¬ j ∈ cs.take 0) = fun j=>j < ns.length:=funext fun j=>propext ⟨And.left,fun z=>⟨z,fun y=>nomatch y⟩⟩
  rw [e]; exact D0
 ·have e:(fun j=>j < ns.length ∧ ¬ j ∈ cs.take 0) = fun j=>j < ns.length:=funext fun j=>propext ⟨And.left,fun z=>⟨z,fun y=>nomatch y⟩⟩
  rw [e]; exact D1
 ·rintro i x σ H' hx ⟨sx,⟨kv0',kv1',t',z0,z1,E0,E1⟩,v6,rfl⟩
  rw [List.getElem?_map] at hx
  obtain ⟨c,hc,rfl⟩:=Option.map_eq_some_iff.mp hx
  have hcl:=ch.lt c (List.mem_of_getElem? hc)
  obtain ⟨ap,pp,ha,hp,ep⟩:=ai9 pr (show c < ps.length by lia)
  have ep':=tupX sx _ _ ep
  have hat:atI (as.map V.ref) ((c:Nat):Int) = some (.ref ap):=G9 (by rw [List.getElem?_map,ha]; rfl)
  have hat2:atI (ns.map V.int) ((c:Nat):Int) = some (.int (nuL ns c)):=G9 (by
   rw [List.getElem?_map,List.getElem?_eq_getElem hcl,nuL,List.getD,List.getElem?_eq_getElem hcl]
   rfl)
  have r0:RI 0 ps c = pp.1:=L9 hp
  have r1':RI 1 ps c = pp.2:=L9 hp
  have hnt:=X4 (j:=0) ch.nd hc
  have g0:=E0.1 c ⟨hcl,hnt⟩
  have g1:=E1.1 c ⟨hcl,hnt⟩
  rw [r0] at g0
  rw [r1'] at g1
  refine ⟨_,rfl,_,rfl,_,rfl,l,_,_,_,rfl,rfl,SqL.of (sx _ _ ln0 ln1 el),hat,_,rfl,_,rfl,nl,_,_,_,rfl,rfl,SqL.of (sx _ _ nn0 nn1 en),hat2,tk,d0,d1,ap,kv0',kv1',pp,nuL ns c,_,_,rfl,t',ep',g0,g1,fun H2 s2 t2=>?_⟩
  refine ⟨fun b u b0 b1 z=>s2 b u b0 b1 (sx b u b0 b1 z),⟨_,_,t2,Nat.le_trans (ac4 ..) z0,Nat.le_trans (ac4 ..) z1,?_,?_⟩,_,rfl⟩
  ·rw [← r0]
   refine E0.drop (fun j hj e1 e2=>N.p0 j c hj.1 hcl e2 e1) fun j=>?_
   rw [C6 hc,List.mem_append,List.mem_singleton]
   exact ⟨fun z=>⟨⟨z.1,fun y=>z.2 (.inl y)⟩,fun y=>z.2 (.inr y)⟩,fun z=>⟨z.1.1,fun y=>y.elim z.1.2 z.2⟩⟩
  ·rw [← r1']
   refine E1.drop (fun j hj e1 e2=>N.p1 j c hj.1 hcl e2 e1) fun j=>?_
   rw [C6 hc,List.mem_append,List.mem_singleton]
   exact ⟨fun z=>⟨⟨z.1,fun y=>z.2 (.inl y)⟩,fun y=>z.2 (.inr y)⟩,fun z=>⟨z.1.1,fun y=>y.elim z.1.2 z.2⟩⟩
 rintro σ H2 ⟨sx,⟨kv0',kv1',t',z0,z1,E0,E1⟩,v6,rfl⟩
 rw [List.length_map,List.take_length] at E0 E1
 have ec2:=sx _ _ cn0 cn1 ec
 refine ⟨_,rfl,cl,rfl,⟨_,SqL.of ec2⟩,?_⟩
 refine B0 (xs:=cs.map fun c=>V.int (c:Nat)) (fun i σ H'=>W6 d0 d1 nl H H' ∧ (∃ (ns':List Int) (kv0'' kv1'':List (List Key × V)),Tk H' tk d0 d1 kv0'' kv1'' ∧ H' nl = some (.lst (ns'.map V.int)) ∧ ns'.length = ns.length ∧ kv0''.length ≤ kv0.length + i ∧ kv1''.length ≤ kv1.length + i ∧ (∀ j,j < ns.length → nuL ns' j = if j ∈ cs.take i then swp a b (nuL ns j) else nuL ns j) ∧
   DT kv0'' (RI 0 ps) (nuL ns') (fun j=>j < ns.length ∧ (¬ j ∈ cs ∨ j ∈ cs.take i)) ∧ DT kv1'' (RI 1 ps) (nuL ns') (fun j=>j < ns.length ∧ (¬ j ∈ cs ∨ j ∈ cs.take i))) ∧ ∃ v6,σ = [some (.ref l),some (.ref tk),some (.ref nl),some (.ref cl),some (.int a),some (.int b),v6])
  ⟨fun b u b0 b1 _ z=>sx b u b0 b1 z,⟨ns,kv0',kv1',t',sx _ _ nn0 nn1 en,rfl,by lia,by lia,fun j hj=>?_,?_,?_⟩,_,rfl⟩ (fun i σ H' _ g=>SqL.of (g.1 _ _ cn0 cn1 hcn ec)) ?_ ?_
 ·rw [if_neg (fun z=>nomatch z)]
 ·have e:(fun j=>j < ns.length ∧ (¬ j ∈ cs ∨ j ∈ cs.take 0)) = fun j=>j < ns.length ∧ ¬ j ∈ cs:=funext fun j=>propext ⟨fun z=>⟨z.1,z.2.elim id fun y=>nomatch y⟩,fun z=>⟨z.1,.inl z.2⟩⟩
  rw [e]; exact E0
 ·have e:(fun j=>j < ns.length ∧ (¬ j ∈ cs ∨ j ∈ cs.take 0)) = fun j=>j < ns.length ∧ ¬ j ∈ cs:=funext fun j=>propext ⟨fun z=>⟨z.1,z.2.elim id fun y=>nomatch y⟩,fun z=>⟨z.1,.inl z.2⟩⟩
  rw [e]; exact E1
 ·rintro i x σ H' hx ⟨s3,⟨ns',w0,w1,t3,f1,f2,f3,f4,f5,G0,G1⟩,v6,rfl⟩
  rw [List.getElem?_map] at hx
  obtain ⟨c,hc,rfl⟩:=Option.map_eq_some_iff.mp hx
  have hi:=(List.getElem?_eq_some_iff.mp hc).1
  have hcm:=List.mem_of_getElem? hc
  have hcl:=ch.lt c hcm
  have hnt:=X4 (j:=0) ch.nd hc
  obtain ⟨ap,pp,ha,hp,ep⟩:=ai9 pr (show c < ps.length by lia)
  have hne_ap:∀ z:Addr,z = nl → ¬ H z = some (.tup [.int pp.1,.int pp.2]):=fun z e y=>by rw [e,en] at y; cases y
  have ep3:H' ap = some (.tup [.int pp.1,.int pp.2]):=s3 _ _ (F4 ep tt.e0) (F4 ep tt.e1) (fun z=>hne_ap ap z ep) ep
  have hat:atI (as.map V.ref) ((c:Nat):Int) = some (.ref ap):=G9 (by rw [List.getElem?_map,ha]; rfl)
  have cl':c < ns'.length:=by lia
  have nc:nuL ns' c = nuL ns c:=by rw [f5 c hcl,if_neg hnt]
  have hat2:atI (ns'.map V.int) ((c:Nat):Int) = some (.int (nuL ns c)):=G9 (by
   rw [List.getElem?_map,List.getElem?_eq_getElem cl',← nc,nuL,List.getD,List.getElem?_eq_getElem cl']
   rfl)
  have r0:RI 0 ps c = pp.1:=L9 hp
  have r1':RI 1 ps c = pp.2:=L9 hp
  have rest:H' nl = some (.lst (ns'.map V.int)) ∧ ∃ j,ixN (ns'.map V.int).length ((c:Nat):Int) = some j ∧ j = c:=⟨f1,c,by rw [List.length_map]; exact aj9 cl',rfl⟩
  have goal:∀ G:Hp,G = upd H' nl (.lst ((ns'.set c (swp a b (nuL ns c))).map V.int)) → W6 d0 d1 nl H G ∧ Tk G tk d0 d1 w0 w1 ∧ G nl = some (.lst ((ns'.set c (swp a b (nuL ns c))).map V.int)) ∧ G l = some (.lst (as.map V.ref)) ∧ G ap = some (.tup [.int pp.1,.int pp.2]):=fun G e=>by
   subst e
   refine ⟨fun b u b0 b1 b2 z=>by rw [d9 b2]; exact s3 b u b0 b1 b2 z,⟨by rw [d9 ntn]; exact t3.tk,by rw [d9 (Ne.symm nn0)]; exact t3.e0,by rw [d9 (Ne.symm nn1)]; exact t3.e1,t3.ne⟩,b9,by rw [d9 hln]; exact s3 _ _ ln0 ln1 hln el,by rw [d9 (fun z=>hne_ap ap z ep)]; exact ep3⟩
  have nset:=a48 (ns:=ns') (x:=swp a b (nuL ns c)) cl'
  have fin:∀ G:Hp,W6 d0 d1 nl H G → Tk G tk d0 d1 w0 w1 → G nl = some (.lst ((ns'.set c (swp a b (nuL ns c))).map V.int)) → ∀ G',S9 d0 d1 G G' → Tk G' tk d0 d1 (A0 w0 (kRN pp.1 (swp a b (nuL ns c))) (.int (c:Nat))) (A0 w1 (kRN pp.2 (swp a b (nuL ns c))) (.int (c:Nat))) →
    (W6 d0 d1 nl H G' ∧ (∃ (ns':List Int) (kv0'' kv1'':List (List Key × V)),Tk G' tk d0 d1 kv0'' kv1'' ∧ G' nl = some (.lst (ns'.map V.int)) ∧ ns'.length = ns.length ∧ kv0''.length ≤ kv0.length + (i + 1) ∧ kv1''.length ≤ kv1.length + (i + 1) ∧ (∀ j,j < ns.length → nuL ns' j = if j ∈ cs.take (i + 1) then swp a b (nuL ns j) else nuL ns j) ∧
    DT kv0'' (RI 0 ps) (nuL ns') (fun j=>j < ns.length ∧ (¬ j ∈ cs ∨ j ∈ cs.take (i + 1))) ∧ DT kv1'' (RI 1 ps) (nuL ns') (fun j=>j < ns.length ∧ (¬ j ∈ cs ∨ j ∈ cs.take (i + 1))))):=fun G g1 g2 g3 G' s4 t4=>by
   have mem1:∀ j,(j ∈ cs.take (i + 1)) ↔ (j ∈ cs.take i ∨ j = c):=fun j=>by rw [C6 hc,List.mem_append,List.mem_singleton]
   have inI:∀ j,(j < ns.length ∧ (¬ j ∈ cs ∨ j ∈ cs.take (i + 1))) ↔ ((j < ns.length ∧ (¬ j ∈ cs ∨ j ∈ cs.take i)) ∨ j = c):=fun j=>by
    rw [mem1]
    refine ⟨fun z=>?_,fun z=>?_⟩
    ·rcases z.2 with y | y | y
     ·exact .inl ⟨z.1,.inl y⟩
     ·exact .inl ⟨z.1,.inr y⟩
     ·exact .inr y
    ·rcases z with y | y
     ·exact ⟨y.1,y.2.imp id .inl⟩
     ·exact ⟨y ▸ hcl,.inr (.inr y)⟩
   have notin:¬ (c < ns.length ∧ (¬ c ∈ cs ∨ c ∈ cs.take i)):=fun z=>z.2.elim (fun y=>y hcm) hnt
   have oldn:∀ j,(j < ns.length ∧ (¬ j ∈ cs ∨ j ∈ cs.take i)) → nuL (ns'.set c (swp a b (nuL ns c))) j = nuL ns' j:=fun j hj=>by
    rw [nset j,if_neg (show ¬ j = c from fun z=>notin (by rw [z] at hj; exact hj))]
   have clash:∀ j,(j < ns.length ∧ (¬ j ∈ cs ∨ j ∈ cs.take i)) → (RI 0 ps j = RI 0 ps c ∨ RI 1 ps j = RI 1 ps c) → nuL ns' j ≠ swp a b (nuL ns c):=fun j hj sh e=>by
    rw [f5 j hj.1] at e
    by_cases m:j ∈ cs.take i
    ·rw [if_pos m] at e
     have jm:=List.mem_of_mem_take m
     have:=aC0 (ch.ab j jm) (ch.ab c hcm) e
     have jc:j = c:=sh.elim (fun y=>N.p0 j c hj.1 hcl this y) (fun y=>N.p1 j c hj.1 hcl this y)
     exact hnt (jc ▸ m)
    ·rw [if_neg m] at e
     have nj:¬ j ∈ cs:=hj.2.elim id (fun y=>absurd y m)
     exact nj (ch.closed N hb hcm hj.1 (by rw [e]; exact ai2 _) (sh.imp Eq.symm Eq.symm))
   refine ⟨fun b u b0 b1 b2 z=>s4 b u b0 b1 (g1 b u b0 b1 b2 z),_,_,_,t4,s4 _ _ nn0 nn1 g3,by rw [List.length_set]; exact f2,Nat.le_trans (A2 ..) (by lia),Nat.le_trans (A2 ..) (by lia),fun j hj=>?_,?_,?_⟩
   ·rw [nset j]
    by_cases e:j = c
    ·rw [if_pos e,if_pos ((mem1 j).mpr (.inr e)),e]
    ·rw [if_neg e,f5 j hj]
     by_cases m:j ∈ cs.take i
     ·rw [if_pos m,if_pos ((mem1 j).mpr (.inl m))]
     ·rw [if_neg m,if_neg (fun z=>((mem1 j).mp z).elim m e)]
   ·rw [← r0]
    exact G0.put notin (fun j hj e=>clash j hj (.inl e)) oldn (by rw [nset c,if_pos rfl]) inI
   ·rw [← r1']
    exact G1.put notin (fun j hj e=>clash j hj (.inr e)) oldn (by rw [nset c,if_pos rfl]) inI
  have step:∀ xv:Int,xv = swp a b (nuL ns c) → ∀ R:Hp → Prop,(∀ G',W6 d0 d1 nl H G' ∧ (∃ (ns':List Int) (kv0'' kv1'':List (List Key × V)),Tk G' tk d0 d1 kv0'' kv1'' ∧ G' nl = some (.lst (ns'.map V.int)) ∧ ns'.length = ns.length ∧ kv0''.length ≤ kv0.length + (i + 1) ∧ kv1''.length ≤ kv1.length + (i + 1) ∧ (∀ j,j < ns.length → nuL ns' j = if j ∈ cs.take (i + 1) then swp a b (nuL ns j) else nuL ns j) ∧
    DT kv0'' (RI 0 ps) (nuL ns') (fun j=>j < ns.length ∧ (¬ j ∈ cs ∨ j ∈ cs.take (i + 1))) ∧ DT kv1'' (RI 1 ps) (nuL ns') (fun j=>j < ns.length ∧ (¬ j ∈ cs ∨ j ∈ cs.take (i + 1)))) → R G') → True:=fun _ _ _ _=>trivial
  refine ⟨_,rfl,_,rfl,nl,_,_,_,rfl,rfl,SqL.of f1,hat2,_,rfl,rfl,_,rfl,?_⟩
  refine O7 (fun e=>?_) (fun e=>?_)
  ·have e':nuL ns c = a:=V.int.inj (of_decide_eq_true e)
   have sv:swp a b (nuL ns c) = b:=if_pos e'
   refine ⟨_,rfl,_,rfl,_,rfl,nl,_,_,c,rfl,rfl,f1,by rw [List.length_map]; exact aj9 cl',?_⟩
   rw [show V.int b = V.int (swp a b (nuL ns c)) by rw [sv],aE4]
   obtain ⟨g1,g2,g3,g4,g5⟩:=goal _ rfl
   generalize upd H' nl (.lst ((ns'.set c (swp a b (nuL ns c))).map V.int)) = G at g1 g2 g3 g4 g5 ⊢
   have hat3:atI ((ns'.set c (swp a b (nuL ns c))).map V.int) ((c:Nat):Int) = some (.int (swp a b (nuL ns c))):=G9 (by rw [List.getElem?_map,List.getElem?_set_self cl']; rfl)
   refine ⟨_,rfl,_,rfl,_,rfl,_,rfl,l,_,_,_,rfl,rfl,SqL.of g4,hat,_,rfl,_,rfl,nl,_,_,_,rfl,rfl,SqL.of g3,hat3,tk,d0,d1,ap,w0,w1,pp,c,_,rfl,g2,g5,by lia,by lia,fun G' s4 t4=>?_⟩
   obtain ⟨o1,o2⟩:=fin G g1 g2 g3 G' s4 t4
   exact ⟨o1,o2,_,rfl⟩
  ·have e':¬ nuL ns c = a:=fun z=>e (decide_eq_true (by rw [z]))
   have sv:swp a b (nuL ns c) = a:=if_neg e'
   refine ⟨_,rfl,_,rfl,_,rfl,nl,_,_,c,rfl,rfl,f1,by rw [List.length_map]; exact aj9 cl',?_⟩
   rw [show V.int a = V.int (swp a b (nuL ns c)) by rw [sv],aE4]
   obtain ⟨g1,g2,g3,g4,g5⟩:=goal _ rfl
   generalize upd H' nl (.lst ((ns'.set c (swp a b (nuL ns c))).map V.int)) = G at g1 g2 g3 g4 g5 ⊢
   have hat3:atI ((ns'.set c (swp a b (nuL ns c))).map V.int) ((c:Nat):Int) = some (.int (swp a b (nuL ns c))):=G9 (by rw [List.getElem?_map,List.getElem?_set_self cl']; rfl)
   refine ⟨_,rfl,_,rfl,_,rfl,_,rfl,l,_,_,_,rfl,rfl,SqL.of g4,hat,_,rfl,_,rfl,nl,_,_,_,rfl,rfl,SqL.of g3,hat3,tk,d0,d1,ap,w0,w1,pp,c,_,rfl,g2,g5,by lia,by lia,fun G' s4 t4=>?_⟩
   obtain ⟨o1,o2⟩:=fin G g1 g2 g3 G' s4 t4
   exact ⟨o1,o2,_,rfl⟩
 ·rintro σ H' ⟨s3,⟨ns',w0,w1,t3,f1,f2,f3,f4,f5,G0,G1⟩,v6,rfl⟩
  rw [List.length_map] at f3 f4
  rw [List.length_map,List.take_length] at f5 G0 G1
  have e:(fun j=>j < ns.length ∧ (¬ j ∈ cs ∨ j ∈ cs)) = fun j=>j < ns.length:=funext fun j=>propext ⟨And.left,fun z=>⟨z,(Classical.em (j ∈ cs)).symm⟩⟩
  rw [e] at G0 G1
  exact q ns' w0 w1 H' s3 t3 f1 f2 (by lia) (by lia) f5 G0 G1
end
def ah9 (side r n:Int):List (Str × V):=[("many",.int n),("rack",.int r),("side",.int side)]
structure FirstFull (ps:List (Int × Int)) (W side r:Int):Prop where
 sd:side = 0 ∨ side = 1
 full:W < (((rks side ps).count r:Nat):Int)
 least:∀ r',r' < r → (((rks side ps).count r':Nat):Int) ≤ W
 before:∀ s r',0 ≤ s → s < side → (((rks s ps).count r':Nat):Int) ≤ W
theorem FirstFull.one {ps:List (Int × Int)} {W s r s' r':Int} (h:FirstFull ps W s r) (h':FirstFull ps W s' r'):s = s' ∧ r = r':=by
 have b1:=h.sd
 have b2:=h'.sd
 have es:s = s':=by
  rcases Int.lt_trichotomy s s' with z | z | z
  ·have:=h'.before s r (by lia) z
   have:=h.full
   lia
  ·exact z
  ·have:=h.before s' r' (by lia) z
   have:=h'.full
   lia
 subst es
 refine ⟨rfl,?_⟩
 rcases Int.lt_trichotomy r r' with z | z | z
 ·have:=h'.least r z
  have:=h.full
  lia
 ·exact z
 ·have:=h.least r' z
  have:=h'.full
  lia
def aP7 (K:PySem.W.Frag) (C:Addr):Sp:=fun vs H Q _=>∃ (e:Addr) (a b c:Int),vs = [.ref e,.int a,.int b,.int c] ∧ H e = some (F3 e C none) ∧ ∀ (dx:Addr) (H':Hp),H dx = none → dx ≠ e → (∀ b,b ≠ e → b ≠ dx → H' b = H b) → H' e = some (F3 e C (some dx)) → H' dx = some (XdO dx (ah9 a b c)) → Q .non H'
def ap0 (K:PySem.W.Frag) (C:Addr):Sp:=fun vs H Q E=>∃ (l:Addr) (as:List Addr) (ps:List (Int × Int)) (W:Int),vs = [.ref l,.int W] ∧ 0 ≤ W ∧ SqL K H l (as.map V.ref) ∧ o6 H as ps ∧ ps.length ≤ 60 ∧ (∀ H',i4 H H' → (∀ side r:Int,side = 0 ∨ side = 1 → (((rks side ps).count r:Nat):Int) ≤ W) → Q .non H') ∧
 ∀ (side r:Int) (dx:Addr) (H':Hp),i4 H H' → FirstFull ps W side r → H dx = none → H' dx = some (XdO dx (ah9 side r ((rks side ps).count r:Nat))) → E (.ref C) (some dx) H'
def an0 (C:Addr):Sp:=fun vs H Q E=>∃ (l:Addr) (as:List Addr) (ps:List (Int × Int)) (W:Int),vs = [.ref l,.int W] ∧ 0 ≤ W ∧ H l = some (.lst (as.map V.ref)) ∧ o6 H as ps ∧ ps.length ≤ 60 ∧
 (∀ (nl:Addr) (ns:List Int) (H':Hp),i4 H H' → (∀ side r:Int,side = 0 ∨ side = 1 → (((rks side ps).count r:Nat):Int) ≤ W) → H nl = none → H' nl = some (.lst (ns.map V.int)) → ns.length = ps.length → Num (RI 0 ps) (RI 1 ps) ps.length (nuL ns) → (∀ i,i < ps.length → 0 ≤ nuL ns i ∧ nuL ns i < W) → PartRel ps ps.length ns → Q (.ref nl) H') ∧
 ∀ (side r:Int) (dx:Addr) (H':Hp),i4 H H' → FirstFull ps W side r → H dx = none → H' dx = some (XdO dx (ah9 side r ((rks side ps).count r:Nat))) → E (.ref C) (some dx) H'
theorem au6 {kvs:List (List Key × V)} {R nu:Nat → Int} {t y:Nat} {r:Int} (h:DT kvs R nu (· < t)) (e:(p7 kvs (kRN r y)).isSome = true):∃ j,j < t ∧ R j = r ∧ nu j = (y:Int):=by
 obtain ⟨v,hv⟩:=Option.isSome_iff_exists.mp e
 obtain ⟨i,h1,h2,h3,_⟩:=h.2 r y v hv
 exact ⟨i,h1,h2,h3⟩
theorem U9 {kvs:List (List Key × V)} {R nu:Nat → Int} {t x:Nat} {r:Int} (h:DT kvs R nu (· < t)) (hx:∀ y:Nat,y < x → (p7 kvs (kRN r y)).isSome = true):x ≤ ((List.range t).filter fun i=>decide (R i = r)).length:=aK7 (nu:=nu) fun y hy=>by
 obtain ⟨v,hv⟩:=Option.isSome_iff_exists.mp (hx y hy)
 obtain ⟨i,h1,h2,h3,_⟩:=h.2 r y v hv
 exact ⟨i,h1,h2,h3⟩
section
variable {P:Program} {w:World} {K:PySem.W.Frag} {mg:Str → Option Value} {base:Heap} {C_HallError C_TooFull C_NoTable:Addr}
theorem R3:FnScope ["self","side","rack","many"] ["self","side","rack","many"] (d7 (B9 (top 2) 0)):=⟨rfl,rfl,rfl,by decide +kernel,rfl,by decide +kernel,by decide +kernel⟩
theorem aV6 (T:Txt K mg) (Z:TxtC K mg C_HallError C_TooFull C_NoTable) (D:DefM K C_TooFull "__init__" "TooFull.__init__" (B9 (top 2) 0) ["self","side","rack","many"] [] noKw):CalleeM P w K mg base 1 C_TooFull "__init__" ["self","side","rack","many"] [] noKw (aP7 K C_TooFull):=by
 refine D.ok R3 (fun vs H Q E h=>?_) (fun f cdv A outer s H vs Q E hr h=>?_)
 ·obtain ⟨e,a,b,c,rfl,_⟩:=h
  rfl
 obtain ⟨e,a,b,c,rfl,he,q⟩:=h
 refine ⟨_,(d6 (aX6 K (pv 0) (pv 1) rfl)
  (d6 (aX7 K (pv 0) (pv 2) rfl)
  (g6 (aX7 K (pv 0) (pv 3) rfl)))),?_⟩
 refine ⟨_,rfl,_,rfl,e,C_TooFull,rfl,he,Z.n_TooFull,Z.x_TooFull.mo,Z.f_TooFull_side,fun dx hdx=>?_⟩
 have ne:dx ≠ e:=fun z=>by rw [z,he] at hdx; cases hdx
 have h1:upd (upd H e (F3 e C_TooFull (some dx))) dx (XdO dx [("side",.int a)]) e = some (F3 e C_TooFull (some dx)):=by rw [d9 (Ne.symm ne),b9]
 have h2:=b9 (H:=upd H e (F3 e C_TooFull (some dx))) (a:=dx) (o:=XdO dx [("side",.int a)])
 have h3:∀ b,b ≠ e → b ≠ dx → upd (upd H e (F3 e C_TooFull (some dx))) dx (XdO dx [("side",.int a)]) b = H b:=fun b n1 n2=>by rw [d9 n2,d9 n1]
 generalize upd (upd H e (F3 e C_TooFull (some dx))) dx (XdO dx [("side",.int a)]) = H1 at h1 h2 h3 ⊢
 refine ⟨_,rfl,_,rfl,e,C_TooFull,dx,_,rfl,h1,h2,Z.n_TooFull,Z.x_TooFull.mo,Z.f_TooFull_rack,(by show 1 < 1000; decide),?_⟩
 have g1:upd H1 dx (XdO dx [("rack",.int b),("side",.int a)]) e = some (F3 e C_TooFull (some dx)):=by rw [d9 (Ne.symm ne)]; exact h1
 have g2:=b9 (H:=H1) (a:=dx) (o:=XdO dx [("rack",.int b),("side",.int a)])
 have g3:∀ b',b' ≠ e → b' ≠ dx → upd H1 dx (XdO dx [("rack",.int b),("side",.int a)]) b' = H b':=fun b' n1 n2=>by rw [d9 n2]; exact h3 b' n1 n2
 refine ⟨_,rfl,_,rfl,e,C_TooFull,dx,_,rfl,g1,g2,Z.n_TooFull,Z.x_TooFull.mo,Z.f_TooFull_many,(by show 2 < 1000; decide),?_⟩
 refine q dx _ hdx ne (fun b' n1 n2=>by rw [d9 n2]; exact g3 b' n1 n2) (by rw [d9 (Ne.symm ne)]; exact g1) b9
theorem C8:FnScope ["pairs","ways","side","weights","rack"] ["pairs","ways"] (d7 (top 18)):=⟨rfl,rfl,rfl,by decide +kernel,rfl,by decide +kernel,by decide +kernel⟩
theorem aH8 (T:Txt K mg) (Z:TxtC K mg C_HallError C_TooFull C_NoTable) (C_side_weights:Callee P w K mg base 1 "side_weights" ["pairs","side"] (aN5 K)) (C_TooFull___init__:CalleeM P w K mg base 1 C_TooFull "__init__" ["self","side","rack","many"] [] noKw (aP7 K C_TooFull)) (D:Def K mg "refuse_full" (top 18) ["pairs","ways"]):CalleeF P w K mg base 3 "refuse_full" ["pairs","ways"] [] (ap0 K C_TooFull):=by
 refine D.okF C8 (fun vs H Q E h=>?_) (fun f cdv A outer s H vs Q E hr h=>?_)
 ·obtain ⟨l,as,ps,W,rfl,_⟩:=h
  rfl
 obtain ⟨l,as,ps,W,rfl,hW0,hl,pr,few,q,qE⟩:=h
 refine ⟨_,(g6 (y6 PassesOwn.leaving rfl (J4 rfl T.m_range (b7 d4 d5 i0)) (o9 (i:=2) C8.nd rfl (Or.inl rfl))
  (d6 (i7 (i:=3) C8.nd rfl (Or.inl rfl) (m6 C_side_weights hr rfl (b7 (pv 0) (b7 (pv 2) d5 b8) b8)))
  (g6 (y6 PassesOwn.leaving rfl (z9 K (i9 (P4 rfl) rfl T.m_sorted boot_sorted (b7 (pv 3) d5 b8))) (o9 (i:=4) C8.nd rfl (Or.inl rfl))
  (g6 (y8 (m7 aX5 (aa0 (A1 hr) (pv 3) (pv 4) (fun _ _=>rfl)) (pv 1) (n9 _)) (g6 (af3 ap2 Z.i_TooFull C_TooFull___init__ hr hr.hd rfl (b7 (pv 2) (b7 (pv 4) (b7 (aa0 (A1 hr) (pv 3) (pv 4) (fun _ _=>rfl)) d5 j6) b8) b8))) n6))))))),?_⟩
 refine ⟨_,rfl,by decide,by decide,?_⟩
 refine M8 (lo:=0) (n:=2) (fun j σ H'=>i4 H H' ∧ (∀ s r:Int,0 ≤ s → s < (j:Int) → (((rks s ps).count r:Nat):Int) ≤ W) ∧ ∃ v2 v3 v4,σ = [some (.ref l),some (.int W),v2,v3,v4])
  ⟨fun b u z=>z,fun s r h1 h2=>by lia,none,none,none,rfl⟩ ?_ ?_
 ·rintro j σ H' hj ⟨s1,bef,v2,v3,v4,rfl⟩
  rw [Int.zero_add]
  have hs:(j:Int) = 0 ∨ (j:Int) = 1:=by lia
  refine ⟨_,rfl,_,rfl,l,as,ps,(j:Int),rfl,s1.seq hl,pr.same s1,few,hs,fun d kvs H2 s2 hd ed cd=>?_⟩
  obtain ⟨nsx,nd,mem,nlen,hk⟩:=id cd
  have n60:nsx.length ≤ 60:=by rw [rks,List.length_map] at nlen; lia
  refine ⟨_,rfl,d,kvs,nsx,rfl,.inl ed,by rw [hk,List.map_map]; rfl,by lia,fun ns' pm srt sl hsl=>?_⟩
  have s3:=d8 hsl (.lst (ns'.map V.int))
  have es:=b9 (H:=H2) (a:=sl) (o:=.lst (ns'.map V.int))
  have ed3:=s3 _ _ ed
  generalize upd H2 sl (.lst (ns'.map V.int)) = H3 at s3 es ed3 ⊢
  have s13:=s1.trans (s2.trans s3)
  have mem':∀ r,r ∈ ns' ↔ r ∈ rks (j:Int) ps:=fun r=>by rw [pm.mem_iff]; exact mem r
  refine ⟨sl,rfl,⟨_,SqL.of es⟩,?_⟩
  refine B0 (xs:=ns'.map V.int) (fun k σ H'=>H' = H3 ∧ (∀ r ∈ ns'.take k,(((rks (j:Int) ps).count r:Nat):Int) ≤ W) ∧ ∃ v4,σ = [some (.ref l),some (.int W),some (.int (j:Int)),some (.ref d),v4])
   ⟨rfl,(fun r hr=>nomatch hr),_,rfl⟩ (fun k σ H' _ g=>by rw [g.1]; exact SqL.of es) ?_ ?_
  ·rintro k x σ G hx ⟨rfl,low,v4,rfl⟩
   rw [List.getElem?_map] at hx
   obtain ⟨r,hr,rfl⟩:=Option.map_eq_some_iff.mp hx
   have mr:=(mem' r).mp (List.mem_of_getElem? hr)
   have hv:=cd.val r
   rw [if_pos mr] at hv
   refine ⟨_,rfl,_,rfl,d,_,rfl,.inl ⟨kvs,.inl r,.inl ed3,rfl,hv.symm⟩,_,rfl,_,_,rfl,rfl,_,rfl,?_⟩
   refine O7 (fun c=>?_) (fun c=>?_)
   ·have c':W < (((rks (j:Int) ps).count r:Nat):Int):=of_decide_eq_true c
    refine ⟨_,rfl,_,rfl,_,rfl,_,rfl,d,_,rfl,.inl ⟨kvs,.inl r,.inl ed3,rfl,hv.symm⟩,(by show 3 ≤ 1000; decide),fun ea hea=>?_⟩
    refine ⟨ea,(j:Int),r,_,rfl,b9,fun dx H4 hdx ne oth e1 e2=>⟨rfl,some dx,e1,?_⟩⟩
    rw [d9 ne] at hdx
    have s4:i4 G (ax2 H4 ea):=fun b u z=>by
     have nb:b ≠ ea:=fun y=>by rw [y,hea] at z; cases z
     have nd':b ≠ dx:=fun y=>by rw [y,hdx] at z; cases z
     rw [C7 nb,oth b nb nd',d9 nb]
     exact z
    refine qE (j:Int) r dx _ (s13.trans s4) ⟨hs,c',fun r' hr'=>?_,fun s r' h1 h2=>bef s r' h1 h2⟩ ?_ (by rw [C7 ne]; exact e2)
    ·by_cases mr':r' ∈ rks (j:Int) ps
     ·refine low r' ?_
      obtain ⟨i,hi,he⟩:=List.getElem_of_mem ((mem' r').mpr mr')
      have hk:=(List.getElem?_eq_some_iff.mp hr)
      by_cases z:i < k
      ·rw [List.mem_take_iff_getElem]
       exact ⟨i,by lia,he⟩
      ·by_cases y:i = k
       ·subst y
        rw [hk.2] at he
        lia
       ·have:=(List.pairwise_iff_getElem.mp srt) k i hk.1 hi (by lia)
        rw [hk.2,he] at this
        lia
     ·rw [List.count_eq_zero.mpr mr']
      exact hW0
    ·cases z:H dx with
     | none=>rfl
     | some u=>rw [s13 _ _ z] at hdx; cases hdx
   ·have c':¬ W < (((rks (j:Int) ps).count r:Nat):Int):=fun z=>c (decide_eq_true z)
    refine ⟨rfl,fun r' hr'=>?_,_,rfl⟩
    rw [C6 hr] at hr'
    rcases List.mem_append.mp hr' with y | y
    ·exact low r' y
    ·rw [List.mem_singleton.mp y]
     lia
  ·rintro σ G ⟨rfl,low,v4,rfl⟩
   rw [List.length_map,List.take_length] at low
   refine ⟨s13,fun s r h1 h2=>?_,_,_,_,rfl⟩
   by_cases z:s = (j:Int)
   ·rw [z]
    by_cases mr:r ∈ rks (j:Int) ps
    ·exact low r ((mem' r).mpr mr)
    ·rw [List.count_eq_zero.mpr mr]
     exact hW0
   ·exact bef s r h1 (by lia)
 ·rintro σ H' ⟨s1,bef,v2,v3,v4,rfl⟩
  exact q H' s1 fun side r hs=>bef side r (by lia) (by lia)
theorem I9:FnScope ["pairs","ways","taken","numbers","place","pair","a","b"] ["pairs","ways"] (d7 (top 24)):=⟨rfl,rfl,rfl,by decide +kernel,rfl,by decide +kernel,by decide +kernel⟩
set_option maxHeartbeats 4000000 in
theorem aH6 (T:Txt K mg) (Z:TxtC K mg C_HallError C_TooFull C_NoTable) (C_refuse_full:CalleeF P w K mg base 3 "refuse_full" ["pairs","ways"] [] (ap0 K C_TooFull)) (C_first_left:Callee P w K mg base 1 "first_left" ["places","rack"] aK4) (C_chain_along:Callee P w K mg base 1 "chain_along" ["pairs","taken","rack","a","b"] (aC5 K)) (C_exchange:Callee P w K mg base 2 "exchange" ["pairs","taken","numbers","chain","a","b"] (aN2 K)) (C_take:Callee P w K mg base 1 "take" ["taken","place","pair","number"] aw5) (D:Def K mg "parted" (top 24) ["pairs","ways"]):CalleeF P w K mg base 4 "parted" ["pairs","ways"] [] (an0 C_TooFull):=by
 refine D.okF I9 (fun vs H Q E h=>?_) (fun f cdv A outer s H vs Q E hr h=>?_)
 ·obtain ⟨l,as,ps,W,rfl,_⟩:=h
  rfl
 obtain ⟨l,as,ps,W,rfl,hW0,el,pr,few,q,qE⟩:=h
 have ln:as.length = ps.length:=Paired.length pr
 refine ⟨_,(d6 (A6 (S7 0 C_refuse_full (P9 fun _ _ _ z=>z) hr rfl (b7 (pv 0) (b7 (pv 1) d5 b8) b8)))
  (d6 (i7 (i:=2) I9.nd rfl (Or.inl rfl) (m9 (b7 U8 (b7 U8 d5 aB6) aB6)))
  (d6 (i7 (i:=3) I9.nd rfl (Or.inl rfl) (C4 d5))
  (d6 (y6 PassesOwn.leaving rfl (aE8 K rfl T.m_enumerate (b7 (pv 0) d5 b8)) (aJ3 K rfl I9.nd (Nm.mk (i:=4) rfl (Or.inl rfl) (Or.inl rfl)) (Nm.mk (i:=5) rfl (Or.inl rfl) (Or.inl rfl)))
  (d6 (i7 (i:=6) I9.nd rfl (Or.inl rfl) (m6 C_first_left hr rfl (b7 (h9 (g7 K) (pv 2) d4 (fun _ _=>rfl)) (b7 (h9 (g7 K) (pv 5) d4 (fun _ _=>rfl)) d5 j6) j6)))
  (d6 (i7 (i:=7) I9.nd rfl (Or.inl rfl) (m6 C_first_left hr rfl (b7 (h9 (g7 K) (pv 2) d4 (fun _ _=>rfl)) (b7 (h9 (g7 K) (pv 5) d4 (fun _ _=>rfl)) d5 j6) j6)))
  (d6 (A6 (m6 C_exchange hr rfl (b7 (pv 0) (b7 (pv 2) (b7 (pv 3) (b7 (m6 C_chain_along hr rfl (b7 (pv 0) (b7 (pv 2) (b7 (h9 (g7 K) (pv 5) d4 (fun _ _=>rfl)) (b7 (pv 6) (b7 (pv 7) d5 b8) b8) j6) b8) b8)) (b7 (pv 6) (b7 (pv 7) d5 b8) b8) m8) b8) b8) b8)))
  (d6 (A6 (K8 K PySem.F.plainAttrs_list PySem.F.slot_list_append PySem.F.type_list_append D8 (pv 3) (b7 (pv 6) d5 b8)))
  (g6 (A6 (m6 C_take hr rfl (b7 (pv 2) (b7 (pv 4) (b7 (pv 5) (b7 (pv 6) d5 b8) b8) b8) b8)))))))))
  (g6 (j8 (pv 3))))))),?_⟩
 refine ⟨_,rfl,_,rfl,l,as,ps,W,rfl,hW0,SqL.of el,pr,few,fun H0 s0 hW=>?_,qE⟩
 refine fun d0 hd0=>fun d1 hd1=>?_
 have s1:=s0.trans (d8 hd0 (.dT []))
 have s2:=s1.trans (d8 hd1 (.dT []))
 have e0:=d8 hd1 (.dT []) _ _ (b9 (H:=H0) (a:=d0) (o:=.dT []))
 have e1:=b9 (H:=upd H0 d0 (.dT [])) (a:=d1) (o:=.dT [])
 have nd01:d0 ≠ d1:=g9 (b9 (H:=H0) (a:=d0) (o:=.dT [])) hd1
 have fr:∀ {G:Hp} {x:Addr},i4 H G → G x = none → H x = none:=fun {G x} s z=>by
  cases y:H x with
  | none=>rfl
  | some u=>rw [s _ _ y] at z; cases z
 have f0:=fr s0 hd0
 have f1:=fr s1 hd1
 generalize upd (upd H0 d0 (.dT [])) d1 (.dT []) = H2 at s2 e0 e1 ⊢
 refine ⟨(by show 2 ≤ sizeLine; decide),fun tk htk=>?_⟩
 have s3:=s2.trans (d8 htk (.tup [.ref d0,.ref d1]))
 have t3:Tk (upd H2 tk (.tup [.ref d0,.ref d1])) tk d0 d1 [] []:=⟨b9,d8 htk _ _ _ e0,d8 htk _ _ _ e1,nd01⟩
 generalize upd H2 tk (.tup [.ref d0,.ref d1]) = H3 at s3 t3 ⊢
 refine ⟨(by show 0 ≤ sizeLine; decide),fun nl hnl=>?_⟩
 have fn:=fr s3 hnl
 have s4:=s3.trans (d8 hnl (.lst []))
 have t4:=t3.same (d8 hnl (.lst []))
 have en:=b9 (H:=H3) (a:=nl) (o:=.lst [])
 generalize upd H3 nl (.lst []) = H4 at s4 t4 en ⊢
 refine ⟨_,rfl,l,_,rfl,SqL.of (s4 _ _ el),?_⟩
 refine at1 (xs:=as.map V.ref) (fun i σ H'=>i4 H H' ∧ (∃ (ns:List Int) (kv0 kv1:List (List Key × V)),Tk H' tk d0 d1 kv0 kv1 ∧ H' nl = some (.lst (ns.map V.int)) ∧ ns.length = i ∧ kv0.length ≤ 61 * i ∧ kv1.length ≤ 61 * i ∧ DT kv0 (RI 0 ps) (nuL ns) (· < i) ∧ DT kv1 (RI 1 ps) (nuL ns) (· < i) ∧ Num (RI 0 ps) (RI 1 ps) i (nuL ns) ∧ (∀ j,j < i → 0 ≤ nuL ns j ∧ nuL ns j < W) ∧ PartRel ps i ns) ∧ ∃ v4 v5 v6 v7,σ = [some (.ref l),some (.int W),some (.ref tk),some (.ref nl),v4,v5,v6,v7])
  ⟨s4,⟨[],[],[],t4,en,rfl,Nat.le_refl _,Nat.le_refl _,⟨fun i z=>absurd z (Nat.not_lt_zero _),fun r x v z=>nomatch z⟩,⟨fun i z=>absurd z (Nat.not_lt_zero _),fun r x v z=>nomatch z⟩,⟨fun i j z=>absurd z (Nat.not_lt_zero _),fun i j z=>absurd z (Nat.not_lt_zero _)⟩,(fun j z=>absurd z (Nat.not_lt_zero _)),.zero⟩,none,none,none,none,rfl⟩ (fun i σ H' _ g=>SqL.of (g.1 _ _ el)) ?_ ?_
 ·rintro i x σ H' p hx ⟨s5,⟨ns,kv0,kv1,t5,en5,hlen,z0,z1,D0,D1,N,bd,prel⟩,v4,v5,v6,v7,rfl⟩ hp
  rw [List.getElem?_map] at hx
  obtain ⟨a,ha,rfl⟩:=Option.map_eq_some_iff.mp hx
  obtain ⟨pp,hpp,pa⟩:=p4 pr i a ha
  have hi:=(List.getElem?_eq_some_iff.mp hpp).1
  have r0:RI 0 ps i = pp.1:=L9 hpp
  have r1:RI 1 ps i = pp.2:=L9 hpp
  refine ⟨p,[.int (i:Nat),.ref a],rfl,SqT.of b9,rfl,.int (i:Nat),[.ref a],rfl,.ref a,[],rfl,rfl,?_⟩
  have s6':=d8 hp (.tup [.int (i:Nat),.ref a])
  have s6:=s5.trans s6'
  have t6:=t5.same s6'
  have en6:=s6' _ _ en5
  generalize upd H' p (.tup [.int (i:Nat),.ref a]) = H6 at s6 t6 en6 ⊢
  have fl:∀ (side r:Int),((List.range i).filter fun j=>decide (RI side ps j = r)).length ≤ i:=fun side r=>Nat.le_trans (List.length_filter_le ..) (by rw [List.length_range]; exact Nat.le_refl _)
  refine ⟨_,rfl,tk,_,_,_,rfl,rfl,SqT.of t6.tk,rfl,_,rfl,a,_,_,_,rfl,rfl,SqT.of (s6 _ _ pa),rfl,d0,kv0,pp.1,rfl,t6.e0,fun x hx=>Nat.le_trans (U9 D0 hx) (Nat.le_trans (fl _ _) (by lia)),fun na H7 s7 ha1 ha2=>?_⟩
  have t7:=t6.same s7
  refine ⟨_,rfl,tk,_,_,_,rfl,rfl,SqT.of t7.tk,rfl,_,rfl,a,_,_,_,rfl,rfl,SqT.of (s7 _ _ (s6 _ _ pa)),rfl,d1,kv1,pp.2,rfl,t7.e1,fun x hx=>Nat.le_trans (U9 D1 hx) (Nat.le_trans (fl _ _) (by lia)),fun nb H8 s8 hb1 hb2=>?_⟩
  have t8:=t7.same s8
  have s68:=(s6.trans s7).trans s8
  have aW:((na:Nat):Int) < W:=by
   have h1:=U9 D0 ha1
   have h2:=at4 hi r0
   have h3:=hW 0 pp.1 (.inl rfl)
   lia
  have bW:((nb:Nat):Int) < W:=by
   have h1:=U9 D1 hb1
   have h2:=at4 hi r1
   have h3:=hW 1 pp.2 (.inr rfl)
   lia
  have ha3:∀ j,j < i → RI 0 ps j = pp.1 → nuL ns j ≠ (na:Nat):=fun j h1 h2 h3=>by
   have:=D0.1 j h1
   rw [h2,h3,ha2] at this
   cases this
  have hb3:∀ j,j < i → RI 1 ps j = pp.2 → nuL ns j ≠ (nb:Nat):=fun j h1 h2 h3=>by
   have:=D1.1 j h1
   rw [h2,h3,hb2] at this
   cases this
  have pa8:=s68 _ _ pa
  have en8:=s8 _ _ (s7 _ _ en6)
  refine ⟨_,rfl,_,rfl,_,rfl,_,rfl,_,rfl,_,rfl,a,_,_,_,rfl,rfl,SqT.of pa8,rfl,_,rfl,_,rfl,l,tk,d0,d1,as,ps,kv0,kv1,nuL ns,i,pp.2,(na:Nat),(nb:Nat),rfl,SqL.of (s68 _ _ el),pr.same s68,by lia,few,t8,D0,D1,N,hb3,fun cl cs H9 s9 hcl ecl ch ⟨sd,run⟩=>?_⟩
  have t9:=t8.same s9
  have s69:=s68.trans s9
  have en9:=s9 _ _ en8
  have hln:l ≠ nl:=g9 el fn
  have hcn:cl ≠ nl:=fun z=>by rw [z,en8] at hcl; cases hcl
  subst hlen
  refine ⟨_,rfl,_,rfl,l,tk,nl,cl,d0,d1,as,ps,kv0,kv1,ns,cs,pp.2,(na:Nat),(nb:Nat),rfl,SqL.of (s69 _ _ el),pr.same s69,by lia,few,t9,hln,hcn,en9,ecl,s69 _ _ el,by lia,by lia,D0,D1,N,hb3,ch,fun ns' kv0' kv1' HA sA tA enA lA y0 y1 nA E0 E1=>?_⟩
  have sHA:i4 H HA:=fun b u z=>sA b u (g9 z f0) (g9 z f1) (g9 z fn) (s69 b u z)
  have nn0:nl ≠ d0:=fun z=>by have:=tA.e0; rw [← z,enA] at this; cases this
  have nn1:nl ≠ d1:=fun z=>by have:=tA.e1; rw [← z,enA] at this; cases this
  have ntn:tk ≠ nl:=fun z=>by have:=tA.tk; rw [z,enA] at this; cases this
  refine ⟨_,rfl,.inl ⟨rfl,_,SqL.of enA⟩,_,rfl,nl,_,_,rfl,rfl,enA,m3 (by rw [List.length_map]; lia),?_⟩
  have sB:i4 H (upd HA nl (.lst (ns'.map V.int ++ [.int ((na:Nat):Int)]))):=i4.put sHA fn
  have tB:Tk (upd HA nl (.lst (ns'.map V.int ++ [.int ((na:Nat):Int)]))) tk d0 d1 kv0' kv1':=⟨by rw [d9 ntn]; exact tA.tk,by rw [d9 (Ne.symm nn0)]; exact tA.e0,by rw [d9 (Ne.symm nn1)]; exact tA.e1,tA.ne⟩
  have enB:upd HA nl (.lst (ns'.map V.int ++ [.int ((na:Nat):Int)])) nl = some (.lst ((ns' ++ [((na:Nat):Int)]).map V.int)):=by rw [b9,List.map_append]; rfl
  generalize upd HA nl (.lst (ns'.map V.int ++ [.int ((na:Nat):Int)])) = HB at sB tB enB ⊢
  refine ⟨_,rfl,_,rfl,_,rfl,_,rfl,tk,d0,d1,a,kv0',kv1',pp,ns.length,((na:Nat):Int),rfl,tB,sB _ _ pa,by lia,by lia,fun HC sC tC=>?_⟩
  have sHC:i4 H HC:=fun b u z=>sC b u (g9 z f0) (g9 z f1) (sB b u z)
  have N':=aV8 N hb3 ch nA
  have g0:=aL4 ha3 ch nA
  have g1:=aL0 hb3 ch nA
  obtain ⟨m1,m2⟩:=aW1 (ns:=ns') (x:=((na:Nat):Int))
  rw [lA] at m1 m2
  refine ⟨sHC,⟨ns' ++ [((na:Nat):Int)],_,_,tC,sC _ _ nn0 nn1 enB,by rw [List.length_append,List.length_singleton,lA],Nat.le_trans (A2 ..) (by lia),Nat.le_trans (A2 ..) (by lia),?_,?_,N'.snoc (fun j h1 h2=>g0 j h1 (by rw [h2,r0])) (fun j h1 h2=>g1 j h1 (by rw [h2,r1])) m1 m2,(fun j hj=>?_),.step prel N r0 r1 (fun y hy=>au6 D0 (ha1 y hy)) ha3 (fun y hy=>au6 D1 (hb1 y hy)) hb3 run (by rw [List.length_append,List.length_singleton,lA]) (fun j hj=>(m1 j hj).trans (nA j hj)) m2⟩,_,_,_,_,rfl⟩
  ·rw [← r0]
   exact E0.put (Nat.lt_irrefl _) (fun j h1 h2=>g0 j h1 (by rw [h2,r0])) m1 m2 fun j=>by lia
  ·rw [← r1]
   exact E1.put (Nat.lt_irrefl _) (fun j h1 h2=>g1 j h1 (by rw [h2,r1])) m1 m2 fun j=>by lia
  ·by_cases e:j = ns.length
   ·rw [e,m2]
    exact ⟨by lia,aW⟩
   ·rw [m1 j (by lia),nA j (by lia)]
    split
    ·rcases ai2 (a:=((na:Nat):Int)) (b:=((nb:Nat):Int)) (nuL ns j) with y | y <;> rw [y] <;> exact ⟨by lia,by lia⟩
    ·exact bd j (by lia)
 ·rintro σ H' ⟨s5,⟨ns,kv0,kv1,t5,en5,hlen,z0,z1,D0,D1,N,bd,prel⟩,v4,v5,v6,v7,rfl⟩
  rw [List.length_map,ln] at hlen N bd prel
  exact ⟨_,rfl,q nl ns H' s5 hW fn en5 hlen N bd prel⟩
end
def A5 (sh:Int) (k:Nat):Bool:=decide (Builtin.bitAnd (sh / 2 ^ k) 1 = 0)
def u9 (h:Hall) (sh:Int):List Nat:=(List.range h.m.toNat).filter (A5 sh)
def F9 (ks:List Nat):List V:=ks.map fun (k:Nat)=>V.int k
theorem aS7 {h:Hall} {sh:Int} {k:Nat} (hk:k ∈ u9 h sh):k < h.m.toNat:=List.mem_range.mp (List.mem_filter.mp hk).1
def al2 (K:PySem.W.Frag):Sp:=fun vs H Q _=>∃ (a:Addr) (h:Hall) (sh:Int),vs = [.ref a,.int sh] ∧ SqT K H a (h.row.map V.int) ∧ h.Ok ∧ ∀ l,H l = none → Q (.ref l) (upd H l (.lst (F9 (u9 h sh))))
section
variable {P:Program} {w:World} {K:PySem.W.Frag} {mg:Str → Option Value} {base:Heap}
theorem al3:FnScope ["hall","shut"] ["hall","shut"] (d7 (top 14)):=⟨rfl,rfl,rfl,by decide +kernel,rfl,by decide +kernel,by decide +kernel⟩
theorem aT8 (T:Txt K mg) (D:Def K mg "left_open" (top 14) ["hall","shut"]):Callee P w K mg base 1 "left_open" ["hall","shut"] (al2 K):=by
 refine D.ok al3 (fun vs H Q E h=>?_) (fun f cdv A outer s H vs Q E hr h=>?_)
 ·obtain ⟨a,h,sh,rfl,_⟩:=h
  rfl
 obtain ⟨a,h,sh,rfl,hH,ok,q⟩:=h
 have b3:=ok.m
 refine ⟨_,(g6 (j8 (N8 (own:=["k"]) (fr:=[(1,"shut")]) rfl (show CompScope ["hall","shut"] (d7 (top 14)) _ _ _ from ⟨rfl,by decide +kernel,by decide +kernel,by decide +kernel,by decide +kernel⟩) (J4 rfl T.m_range (b7 (h9 (g7 K) (pv 0) d4 (fun _ _=>rfl)) d5 j6)) (fun cl C s H ex=>⟨(o9 (i:=0) (show (["k","shut"]:List Str).Nodup from by decide +kernel) rfl (Or.inl rfl) (Or.inr rfl)),(aB0 (m7 S1 (i6 aY3 (i6 aw7 (pv 1) (pv 0)) d4) d4 (n9 _))),(pv 0)⟩)))),?_⟩
 refine ⟨_,rfl,a,_,_,_,rfl,rfl,hH,rfl,_,rfl,by show -(2 ^ 62) ≤ h.m; lia,by show h.m < 2 ^ 62; lia,?_⟩
 refine ac3 (fun i acc σ H'=>H' = H ∧ acc = F9 ((List.range i).filter (A5 sh)) ∧ ∃ v,σ = [v,some (.int sh)])
  ⟨rfl,rfl,none,rfl⟩ (by show h.m.toNat ≤ 16777216; lia) (fun i acc σ H' g=>?_) ?_ ?_
 ·obtain ⟨_,rfl,_⟩:=g
  unfold F9
  rw [List.length_map]
  have:=List.length_filter_le (A5 sh) (List.range i)
  rw [List.length_range] at this
  exact this
 ·rintro i acc σ H' hi ⟨rfl,rfl,v,rfl⟩
  rw [Int.zero_add]
  have step:F9 ((List.range (i + 1)).filter (A5 sh)) = F9 ((List.range i).filter (A5 sh)) ++ (if A5 sh i = true then [V.int (i:Int)] else []):=by
   unfold F9
   rw [List.range_succ,List.filter_append,List.map_append]
   by_cases c:A5 sh i = true
   ·rw [if_pos c]
    simp [c]
   ·rw [if_neg c]
    simp [c]
  refine ⟨_,rfl,_,rfl,_,_,rfl,rfl,by lia,_,_,rfl,rfl,rfl,_,rfl,?_⟩
  refine O7 (fun c=>?_) (fun c=>?_)
  ·have c':A5 sh i = true:=by
    unfold A5
    simpa using c
   refine ⟨_,rfl,rfl,?_,_,rfl⟩
   rw [step,if_pos c']
  ·have c':¬ A5 sh i = true:=by
    unfold A5
    simpa using c
   refine ⟨rfl,?_,_,rfl⟩
   rw [step,if_neg c',List.append_nil]
 ·rintro acc σ H' ⟨rfl,rfl,v,rfl⟩ l hl
  exact q l hl
end
def aQ6 (i:Nat):List (Str × V):=[("place",.int (i:Nat))]
def at5 (C:Addr):Sp:=fun vs H Q _=>∃ (e:Addr) (v:V),vs = [.ref e,v] ∧ H e = some (F3 e C none) ∧ ∀ (dx:Addr) (H':Hp),H dx = none → dx ≠ e → (∀ b,b ≠ e → b ≠ dx → H' b = H b) → H' e = some (F3 e C (some dx)) → H' dx = some (XdO dx [("place",v)]) → Q .non H'
def ax1 (K:PySem.W.Frag) (C:Addr):Sp:=fun vs H Q E=>∃ (p l:Addr) (h:Hall) (xs:List V) (os:List (Option (List V))),vs = [.ref p,.ref l] ∧ SqT K H p (h.row.map V.int) ∧ h.Ok ∧ SqL K H l xs ∧ J7 K H xs os ∧ xs.length ≤ 64 ∧
 (o8 (h.i * h.c) (h.o * h.e) os [] 0 = none → ∀ H',i4 H H' → Q .non H') ∧ ∀ (i:Nat) (dx:Addr) (H':Hp),o8 (h.i * h.c) (h.o * h.e) os [] 0 = some i → i4 H H' → H' dx = some (XdO dx (aQ6 i)) → E (.ref C) (some dx) H'
def aO9 (h:Hall) (o:Option (List V)):Int × Int:=((A8 o).1 / h.c,(A8 o).2 / h.e)
def af2 (K:PySem.W.Frag) (C:Addr):Sp:=fun vs H Q E=>∃ (p l:Addr) (h:Hall) (xs:List V) (os:List (Option (List V))),vs = [.ref p,.ref l] ∧ SqT K H p (h.row.map V.int) ∧ h.Ok ∧ SqL K H l xs ∧ J7 K H xs os ∧ xs.length ≤ 64 ∧
 (o8 (h.i * h.c) (h.o * h.e) os [] 0 = none → ∀ (r:Addr) (as:List Addr) (H':Hp),i4 H H' → H' r = some (.lst (as.map V.ref)) → o6 H' as (os.map (aO9 h)) → Q (.ref r) H') ∧ ∀ (i:Nat) (dx:Addr) (H':Hp),o8 (h.i * h.c) (h.o * h.e) os [] 0 = some i → i4 H H' → H' dx = some (XdO dx (aQ6 i)) → E (.ref C) (some dx) H'
theorem ab9 {F S:Int}:∀ {os:List (Option (List V))} {ps:List (Int × Int)} {i:Nat},o8 F S os ps i = none → ∀ o ∈ os,entryB o F S = true
 | [],_,_,_,o,ho=>nomatch ho
 | o' :: os,ps,i,h,o,ho=>by
  unfold o8 at h
  by_cases b:X1 ps F S o' = true
  ·rw [if_pos b] at h
   cases h
  ·rw [if_neg b] at h
   rcases List.mem_cons.mp ho with z | z
   ·subst z
    cases hb:entryB o F S with
    | true=>rfl
    | false =>
     exact absurd (by unfold X1; rw [hb]; rfl) b
   ·exact ab9 h o z
section
variable {P:Program} {w:World} {K:PySem.W.Frag} {mg:Str → Option Value} {base:Heap} {C_HallError C_TooFull C_NoTable:Addr}
theorem Q9:FnScope ["self","place"] ["self","place"] (d7 (B9 (top 3) 0)):=⟨rfl,rfl,rfl,by decide +kernel,rfl,by decide +kernel,by decide +kernel⟩
theorem aI1 (T:Txt K mg) (Z:TxtC K mg C_HallError C_TooFull C_NoTable) (D:DefM K C_NoTable "__init__" "NoTable.__init__" (B9 (top 3) 0) ["self","place"] [] noKw):CalleeM P w K mg base 1 C_NoTable "__init__" ["self","place"] [] noKw (at5 C_NoTable):=by
 refine D.ok Q9 (fun vs H Q E h=>?_) (fun f cdv A outer s H vs Q E hr h=>?_)
 ·obtain ⟨e,v,rfl,_⟩:=h
  rfl
 obtain ⟨e,v,rfl,he,q⟩:=h
 refine ⟨_,(g6 (aX6 K (pv 0) (pv 1) rfl)),?_⟩
 refine ⟨_,rfl,_,rfl,e,C_NoTable,rfl,he,Z.n_NoTable,Z.x_NoTable.mo,Z.f_NoTable_place,fun dx hdx=>?_⟩
 have ne:dx ≠ e:=fun z=>by rw [z,he] at hdx; cases hdx
 exact q dx _ hdx ne (fun b n1 n2=>by rw [d9 n2,d9 n1]) (by rw [d9 (Ne.symm ne),b9]) b9
theorem O6:FnScope ["hall","table","place"] ["hall","table"] (d7 (top 26)):=⟨rfl,rfl,rfl,by decide +kernel,rfl,by decide +kernel,by decide +kernel⟩
theorem aW5 (T:Txt K mg) (Z:TxtC K mg C_HallError C_TooFull C_NoTable) (C_first_wrong:Callee P w K mg base 4 "first_wrong" ["things","firsts","seconds"] (aE7 K)) (C_NoTable___init__:CalleeM P w K mg base 1 C_NoTable "__init__" ["self","place"] [] noKw (at5 C_NoTable)) (D:Def K mg "refuse_table" (top 26) ["hall","table"]):CalleeF P w K mg base 5 "refuse_table" ["hall","table"] [] (ax1 K C_NoTable):=by
 refine D.okF O6 (fun vs H Q E h=>?_) (fun f cdv A outer s H vs Q E hr h=>?_)
 ·obtain ⟨p,l,h,xs,os,rfl,_⟩:=h
  rfl
 obtain ⟨p,l,h,xs,os,rfl,hH,ok,hl,hT,few,q,qE⟩:=h
 have b1:=ok.i
 have b2:=ok.c
 have b3:=ok.o
 have b4:=ok.e
 refine ⟨_,(d6 (i7 (i:=2) O6.nd rfl (Or.inl rfl) (m6 C_first_wrong hr rfl (b7 (pv 1) (b7 (i6 K7 (h9 (g7 K) (pv 0) d4 (fun _ _=>rfl)) (h9 (g7 K) (pv 0) d4 (fun _ _=>rfl))) (b7 (i6 K7 (h9 (g7 K) (pv 0) d4 (fun _ _=>rfl)) (h9 (g7 K) (pv 0) d4 (fun _ _=>rfl))) d5 r6) r6) b8)))
  (g6 (y8 (m7 am5 (pv 2) L5 (n9 _)) (g6 (af3 ap2 Z.i_NoTable C_NoTable___init__ hr hr.hd rfl (b7 (pv 2) d5 b8))) n6))),?_⟩
 refine ⟨_,rfl,_,rfl,p,_,_,_,rfl,rfl,hH,rfl,_,rfl,p,_,_,_,rfl,rfl,hH,rfl,_,_,rfl,rfl,.inl ⟨by lia,by lia⟩,_,rfl,p,_,_,_,rfl,rfl,hH,rfl,_,rfl,p,_,_,_,rfl,rfl,hH,rfl,_,_,rfl,rfl,.inl ⟨by lia,by lia⟩,l,xs,os,_,_,rfl,hl,hT,few,fun H1 s1=>?_⟩
 cases hb:o8 (h.i * h.c) (h.o * h.e) os [] 0 with
 | none=>exact ⟨_,rfl,rfl,_,rfl,D9 (q hb H1 s1)⟩
 | some i =>
  refine ⟨_,rfl,rfl,_,rfl,T5 ⟨_,rfl,(by show 1 ≤ 1000; decide),fun ea hea=>?_⟩⟩
  refine ⟨ea,.int (i:Nat),rfl,b9,fun dx H4 hdx ne oth e1 e2=>⟨rfl,some dx,e1,?_⟩⟩
  rw [d9 ne] at hdx
  refine qE i dx _ hb (s1.trans fun b u z=>?_) (by rw [C7 ne]; exact e2)
  have nb:b ≠ ea:=fun y=>by rw [y,hea] at z; cases z
  have nd':b ≠ dx:=fun y=>by rw [y,hdx] at z; cases z
  rw [C7 nb,oth b nb nd',d9 nb]
  exact z
theorem aq3:FnScope ["hall","table"] ["hall","table"] (d7 (top 27)):=⟨rfl,rfl,rfl,by decide +kernel,rfl,by decide +kernel,by decide +kernel⟩
set_option maxHeartbeats 2000000 in
theorem ax4 (T:Txt K mg) (Z:TxtC K mg C_HallError C_TooFull C_NoTable) (C_refuse_table:CalleeF P w K mg base 5 "refuse_table" ["hall","table"] [] (ax1 K C_NoTable)) (C_place_in:Callee P w K mg base 1 "place_in" ["hall","caller"] (N3 K Hall.c)) (C_place_out:Callee P w K mg base 1 "place_out" ["hall","end"] (N3 K Hall.e)) (D:Def K mg "pairs_of" (top 27) ["hall","table"]):CalleeF P w K mg base 6 "pairs_of" ["hall","table"] [] (af2 K C_NoTable):=by
 refine D.okF aq3 (fun vs H Q E h=>?_) (fun f cdv A outer s H vs Q E hr h=>?_)
 ·obtain ⟨p,l,h,xs,os,rfl,_⟩:=h
  rfl
 obtain ⟨p,l,h,xs,os,rfl,hH,ok,hl,hT,few,q,qE⟩:=h
 have lx:xs.length = os.length:=Paired.length hT
 refine ⟨_,(d6 (A6 (S7 0 C_refuse_table (P9 fun _ _ _ z=>z) hr rfl (b7 (pv 0) (b7 (pv 1) d5 b8) b8)))
  (g6 (j8 (N8 (own:=["entry"]) (fr:=[(0,"hall")]) rfl (show CompScope ["hall","table"] (d7 (top 27)) _ _ _ from ⟨rfl,by decide +kernel,by decide +kernel,by decide +kernel,by decide +kernel⟩) (z9 K (pv 1)) (fun cl C s H ex=>⟨(o9 (i:=0) (show (["entry","hall"]:List Str).Nodup from by decide +kernel) rfl (Or.inl rfl) (Or.inr rfl)),U2,(m9 (b7 (h9 (g7 K) (m6 C_place_in hr rfl (b7 (pv 1) (b7 (h9 (g7 K) (pv 0) d4 (fun _ _=>rfl)) d5 j6) b8)) d4 (fun _ _=>rfl)) (b7 (h9 (g7 K) (m6 C_place_out hr rfl (b7 (pv 1) (b7 (h9 (g7 K) (pv 0) d4 (fun _ _=>rfl)) d5 j6) b8)) d4 (fun _ _=>rfl)) d5 j6) j6))⟩))))),?_⟩
 refine ⟨_,rfl,_,rfl,p,l,h,xs,os,rfl,hH,ok,hl,hT,few,fun hb H1 s1=>?_,fun i dx H1 hb s1 ed=>qE i dx H1 hb s1 ed⟩
 have good:=ab9 hb
 refine ⟨_,rfl,l,rfl,⟨_,s1.seq hl⟩,?_⟩
 refine af8 (xs:=xs) (fun i acc σ G=>i4 H G ∧ (∃ as:List Addr,acc = as.map V.ref ∧ as.length = i ∧ o6 G as ((os.map (aO9 h)).take i)) ∧ i ≤ xs.length ∧ ∃ v,σ = [v,some (.ref p)])
  ⟨s1,⟨[],rfl,rfl,.nil⟩,Nat.zero_le _,none,rfl⟩ (Nat.le_of_lt (m3 (by lia))) (fun i acc σ G g=>?_) (fun i acc σ G _ g=>g.1.seq hl) ?_ ?_
 ·obtain ⟨_,⟨as,rfl,la,_⟩,_⟩:=g
  rw [List.length_map,la]
  exact Nat.le_refl _
 ·rintro i x acc σ G hx ⟨sG,⟨as,rfl,la,pr⟩,_,v,rfl⟩
  have hi:=(List.getElem?_eq_some_iff.mp hx).1
  obtain ⟨o,ho,hth⟩:=p4 hT i x hx
  have eo:=ai0 (good o (List.mem_of_getElem? ho))
  have hth1:=hth.same sG
  rw [eo] at hth1
  cases hth1 with
  | @tup t _ et hpt =>
  refine ⟨_,rfl,_,rfl,t,_,_,_,rfl,rfl,SqT.of et,rfl,p,h,_,rfl,i4.seqT sG hH,ok,fun q1 hq1=>?_⟩
  have t1:=d8 hq1 (.tup [.int ((A8 o).1 / h.c),.int ((A8 o).1 % h.c)])
  have f1:=b9 (H:=G) (a:=q1) (o:=.tup [.int ((A8 o).1 / h.c),.int ((A8 o).1 % h.c)])
  generalize upd G q1 (.tup [.int ((A8 o).1 / h.c),.int ((A8 o).1 % h.c)]) = G1 at t1 f1 ⊢
  refine ⟨q1,_,_,_,rfl,rfl,SqT.of f1,rfl,?_⟩
  have sG1:=sG.trans t1
  refine ⟨_,rfl,_,rfl,t,_,_,_,rfl,rfl,SqT.of (t1 _ _ et),rfl,p,h,_,rfl,i4.seqT sG1 hH,ok,fun q2 hq2=>?_⟩
  have t2:=d8 hq2 (.tup [.int ((A8 o).2 / h.e),.int ((A8 o).2 % h.e)])
  have f2:=b9 (H:=G1) (a:=q2) (o:=.tup [.int ((A8 o).2 / h.e),.int ((A8 o).2 % h.e)])
  generalize upd G1 q2 (.tup [.int ((A8 o).2 / h.e),.int ((A8 o).2 % h.e)]) = G2 at t2 f2 ⊢
  refine ⟨q2,_,_,_,rfl,rfl,SqT.of f2,rfl,(by show 2 ≤ sizeLine; decide),fun tp htp=>?_⟩
  have t3:=d8 htp (.tup [.int ((A8 o).1 / h.c),.int ((A8 o).2 / h.e)])
  have t13:=t1.trans (t2.trans t3)
  refine ⟨sG.trans t13,⟨as ++ [tp],by rw [List.map_append]; rfl,by rw [List.length_append,la]; rfl,?_⟩,by lia,_,rfl⟩
  rw [List.take_add_one,List.getElem?_map,ho]
  exact o6.snoc (pr.mono fun a xs z=>t13 _ _ z) b9
 ·rintro acc σ G ⟨sG,⟨as,rfl,la,pr⟩,_,v,rfl⟩ r hr0
  have t1:=d8 hr0 (.lst (as.map V.ref))
  rw [List.take_of_length_le (by rw [List.length_map]; lia)] at pr
  exact q hb r as _ (sG.trans t1) b9 (pr.mono fun a xs z=>t1 _ _ z)
end
def mkO (p:Int × Int):Option (List V):=some [.int p.1,.int p.2]
def hv (h:Hall) (p:Int × Int):Int × Int:=(p.1 / h.c,p.2 / h.e)
theorem aR5 (h:Hall) (qs:List (Int × Int)):(qs.map mkO).map (aO9 h) = qs.map (hv h):=by
 rw [List.map_map]
 rfl
theorem T6 {K:PySem.W.Frag} {H:Hp}:∀ {as:List Addr} {ps:List (Int × Int)},o6 H as ps → J7 K H (as.map V.ref) (ps.map mkO)
 | _,_,.nil=>.nil
 | _,_,.cons h t=>.cons (.tup h fun x hx=>by
   rcases List.mem_cons.mp hx with rfl | z
   ·exact .int _
   ·rw [List.mem_singleton.mp z]
    exact .int _) (T6 t)
theorem ad1 {F S:Int}:∀ {ps seen:List (Int × Int)} {i:Nat},(∀ p ∈ ps,(0 ≤ p.1 ∧ p.1 < F) ∧ 0 ≤ p.2 ∧ p.2 < S) → ((seen ++ ps).map Prod.fst).Nodup → ((seen ++ ps).map Prod.snd).Nodup → o8 F S (ps.map mkO) seen i = none
 | [],_,_,_,_,_=>rfl
 | p :: ps,seen,i,hb,n1,n2=>by
  have b:=hb p (List.mem_cons_self ..)
  have e:entryB (mkO p) F S = true:=by
   show ((decide (0 ≤ p.1) && decide (p.1 ≤ F - 1)) && (decide (0 ≤ p.2) && decide (p.2 ≤ S - 1))) = true
   rw [decide_eq_true b.1.1,decide_eq_true (show p.1 ≤ F - 1 by lia),decide_eq_true b.2.1,decide_eq_true (show p.2 ≤ S - 1 by lia)]
   rfl
  have x1:¬ p.1 ∈ seen.map Prod.fst:=fun z=>by
   rw [List.map_append,List.nodup_append] at n1
   exact n1.2.2 _ z _ (List.mem_cons_self ..) rfl
  have x2:¬ p.2 ∈ seen.map Prod.snd:=fun z=>by
   rw [List.map_append,List.nodup_append] at n2
   exact n2.2.2 _ z _ (List.mem_cons_self ..) rfl
  have nb:X1 seen F S (mkO p) = false:=by
   unfold X1
   rw [e,decide_eq_false (show ¬ (A8 (mkO p)).1 ∈ seen.map Prod.fst from x1),decide_eq_false (show ¬ (A8 (mkO p)).2 ∈ seen.map Prod.snd from x2)]
   rfl
  show o8 F S (mkO p :: ps.map mkO) seen i = none
  unfold o8
  rw [if_neg (by rw [nb]; decide)]
  refine ad1 (fun q hq=>hb q (List.mem_cons_of_mem _ hq)) ?_ ?_
  ·rw [List.append_assoc]
   exact n1
  ·rw [List.append_assoc]
   exact n2
theorem X3 {α β:Type} {R:α → β → Prop} {as:List α} {ds:List β} (a0:α) (d0:β) (h:Paired R as ds):∀ (is:List Nat),(∀ i ∈ is,i < ds.length) → Paired R (is.map fun i=>as.getD i a0) (is.map fun i=>ds.getD i d0)
 | [],_=>.nil
 | i :: t,hin=>by
  refine .cons ?_ (X3 a0 d0 h t fun j hj=>hin j (List.mem_cons_of_mem _ hj))
  have hi:=hin i (List.mem_cons_self ..)
  have hl:as.length = ds.length:=Paired.length h
  have ea:as[i]? = some (as[i]'(by lia)):=List.getElem?_eq_getElem (by lia)
  obtain ⟨d,e2,hs⟩:=p4 h i _ ea
  show R (as.getD i a0) (ds.getD i d0)
  rw [show as.getD i a0 = as[i]'(by lia) by rw [List.getD,ea]; rfl,show ds.getD i d0 = d by rw [List.getD,e2]; rfl]
  exact hs
theorem ah3 {K:PySem.W.Frag} {H:Hp}:∀ {as:List Addr} {ps:List (Int × Int)},o6 H as ps → T0 K H as (ps.map fun p=>[V.int p.1,.int p.2])
 | _,_,.nil=>.nil
 | _,_,.cons h t=>.cons ⟨SqT.of h,_,_,rfl⟩ (ah3 t)
theorem ab3 {K:PySem.W.Frag} {H:Hp} {l:Addr} {as:List Addr} {ps:List (Int × Int)} {Q:VK} (el:H l = some (.lst (as.map V.ref))) (hC:o6 H as ps) (h64:ps.length < 64) (ne:(ps.map Prod.fst).Nodup)
  (q:∀ l2 as' qs,H l2 = none → o6 H as' qs → qs.Perm ps → qs.Pairwise (fun p p'=>p.1 < p'.1) → Q (.ref l2) (upd H l2 (.lst (as'.map V.ref)))):au5 K [.ref l] H Q:=by
 have la:as.length = ps.length:=Paired.length hC
 have ne0:ps.Pairwise fun p p'=>p.1 ≠ p'.1:=List.pairwise_map.mp ne
 have gd:∀ (i:Nat) p,ps[i]? = some p → ps.getD i (0,0) = p:=fun i p e=>by rw [List.getD,e]; rfl
 have uniq:∀ (i j:Nat) p p',ps[i]? = some p → ps[j]? = some p' → p.1 = p'.1 → i = j:=fun i j p p' e1 e2 hc=>by
  obtain ⟨q1,z1⟩:=List.getElem?_eq_some_iff.mp e1
  obtain ⟨q2,z2⟩:=List.getElem?_eq_some_iff.mp e2
  rcases Nat.lt_trichotomy i j with hij | hij | hij
  ·have:=(List.pairwise_iff_getElem.mp ne0) i j q1 q2 hij
   rw [z1,z2] at this
   exact absurd hc this
  ·exact hij
  ·have:=(List.pairwise_iff_getElem.mp ne0) j i q2 q1 hij
   rw [z1,z2] at this
   exact absurd hc.symm this
 refine ⟨l,as,_,fun i=>(ps.getD i (0,0)).1,rfl,SqL.of el,ah3 hC,by lia,fun i j x y hx hy=>?_,fun pq pm up l2 hl2=>?_⟩
 ·rw [List.getElem?_map] at hx hy
  obtain ⟨p,e1,rfl⟩:=Option.map_eq_some_iff.mp hx
  obtain ⟨p',e2,rfl⟩:=Option.map_eq_some_iff.mp hy
  show (if p.1 = p'.1 then (if p.2 = p'.2 then M7 [] [] else some (decide (p.2 < p'.2))) else some (decide (p.1 < p'.1))) = some (decide ((ps.getD i (0,0)).1 < (ps.getD j (0,0)).1))
  rw [gd i p e1,gd j p' e2]
  by_cases c:p.1 = p'.1
  ·obtain rfl:=uniq i j p p' e1 e2 c
   rw [e1] at e2
   cases e2
   rw [if_pos rfl,if_pos rfl,decide_eq_false (Int.lt_irrefl _)]
   rfl
  ·rw [if_neg c]
 ·rw [la] at pm up
  obtain ⟨g1,g2⟩:=au2 (xs:=ps) pm up (0,0) Prod.fst fun i _=>rfl
  have hin:∀ i ∈ pq.toList,i < ps.length:=fun i hi=>by
   have:=(Array.Perm.mem_iff pm (a:=i)).mp (by simpa using hi)
   simpa using this
  have cs:=X3 0 (0,0) hC pq.toList hin
  generalize (pq.toList.map fun i=>ps.getD i (0,0)) = qs at g1 g2 cs
  have ne':qs.Pairwise fun p p'=>p.1 ≠ p'.1:=(List.Perm.pairwise_iff (fun q=>Ne.symm q) g1).mpr ne0
  exact q l2 _ qs hl2 cs g1 ((g2.and ne').imp fun {k k'} ⟨q1,q2⟩=>by lia)
theorem aK3 {l1 l2:List (Int × Int)} (p:l1.Perm l2) (s1:l1.Pairwise fun k k'=>k.1 < k'.1) (s2:l2.Pairwise fun k k'=>k.1 < k'.1):l1 = l2:=p.eq_of_pairwise (fun a b _ _ h1 h2=>absurd h1 (by lia)) s1 s2
def a81 (H:Hp) (a:Addr) (d:Int × Int × Int):Prop:=∃ t,H t = some (.tup [.int d.2.1]) ∧ H a = some (.tup [.int d.1,.ref t,.int d.2.2])
def E4 (H:Hp) (as:List Addr) (ds:List (Int × Int × Int)):Prop:=Paired (a81 H) as ds
theorem E4.mono {H H':Hp} {as:List Addr} {ds:List (Int × Int × Int)} (s:∀ a xs,H a = some (.tup xs) → H' a = some (.tup xs)) (h:E4 H as ds):E4 H' as ds:=Paired.mapP h fun a d ⟨t,z1,z2⟩=>⟨t,s _ _ z1,s _ _ z2⟩
def aM1 (h:Hall) (sh:Int) (ns:List Int) (qs:List (Int × Int)) (i:Nat):Int × Int × Int:=((qs.getD i (0,0)).1,(qs.getD i (0,0)).2,(((u9 h sh).getD (nuL ns i).toNat 0:Nat):Int))
def F1 (h:Hall) (sh:Int) (ns:List Int) (qs:List (Int × Int)):List (Int × Int × Int):=(List.range qs.length).map (aM1 h sh ns qs)
structure Told (h:Hall) (sh:Int) (qs:List (Int × Int)) (ns:List Int):Prop where
 rel:PartRel (qs.map (hv h)) qs.length ns
 num:Num (RI 0 (qs.map (hv h))) (RI 1 (qs.map (hv h))) qs.length (nuL ns)
 len:ns.length = qs.length
 bd:∀ i,i < qs.length → 0 ≤ nuL ns i ∧ nuL ns i < ((u9 h sh).length:Nat)
 few:∀ side r:Int,side = 0 ∨ side = 1 → (((rks side (qs.map (hv h))).count r:Nat):Int) ≤ ((u9 h sh).length:Nat)
def az8 (K:PySem.W.Frag) (CT:Addr):Sp:=fun vs H Q E=>∃ (p l:Addr) (h:Hall) (as:List Addr) (ps:List (Int × Int)) (sh:Int),vs = [.ref p,.ref l,.int sh] ∧ SqT K H p (h.row.map V.int) ∧ h.Ok ∧ H l = some (.lst (as.map V.ref)) ∧ o6 H as ps ∧ TabOk h ps ∧ ps.length ≤ 59 ∧
 (∀ (r:Addr) (bs:List Addr) (qs:List (Int × Int)) (ns:List Int) (H':Hp),i4 H H' → qs.Perm ps → qs.Pairwise (fun p p'=>p.1 < p'.1) → Told h sh qs ns → H' r = some (.lst (bs.map V.ref)) → E4 H' bs (F1 h sh ns qs) → Q (.ref r) H') ∧
 ∀ (side r:Int) (qs:List (Int × Int)) (dx:Addr) (H':Hp),i4 H H' → qs.Perm ps → qs.Pairwise (fun p p'=>p.1 < p'.1) → FirstFull (qs.map (hv h)) ((u9 h sh).length:Nat) side r → H' dx = some (XdO dx (ah9 side r ((rks side (qs.map (hv h))).count r:Nat))) → E (.ref CT) (some dx) H'
section
variable {P:Program} {w:World} {K:PySem.W.Frag} {mg:Str → Option Value} {base:Heap} {C_HallError C_TooFull C_NoTable:Addr}
theorem ad8:FnScope ["hall","shut"] ["hall","shut"] (d7 (top 28)):=⟨rfl,rfl,rfl,by decide +kernel,rfl,by decide +kernel,by decide +kernel⟩
theorem aL5 (T:Txt K mg) (C_left_open:Callee P w K mg base 1 "left_open" ["hall","shut"] (al2 K)) (D:DefD K mg "open_racks" (top 28) ["hall","shut"] [.int 0]):CalleeD P w K mg base 2 "open_racks" ["hall","shut"] [.int 0] (al2 K):=by
 refine D.ok ad8 (fun vs H Q E h=>?_) (fun f cdv A outer s H vs Q E hr h=>?_)
 ·obtain ⟨a,h,sh,rfl,_⟩:=h
  rfl
 obtain ⟨a,h,sh,rfl,hH,ok,q⟩:=h
 refine ⟨_,(g6 (j8 (m6 C_left_open hr rfl (b7 (pv 0) (b7 (pv 1) d5 b8) b8)))),?_⟩
 exact ⟨_,rfl,_,rfl,a,h,sh,rfl,hH,ok,q⟩
theorem O1:FnScope ["hall","table","shut","entries","racks","numbers"] ["hall","table","shut"] (d7 (top 29)):=⟨rfl,rfl,rfl,by decide +kernel,rfl,by decide +kernel,by decide +kernel⟩
set_option maxHeartbeats 4000000 in
theorem aR2 (T:Txt K mg) (Z:TxtC K mg C_HallError C_TooFull C_NoTable) (C_refuse_table:CalleeF P w K mg base 5 "refuse_table" ["hall","table"] [] (ax1 K C_NoTable)) (C_pairs_of:CalleeF P w K mg base 6 "pairs_of" ["hall","table"] [] (af2 K C_NoTable)) (C_open_racks:CalleeD P w K mg base 2 "open_racks" ["hall","shut"] [.int 0] (al2 K)) (C_parted:CalleeF P w K mg base 4 "parted" ["pairs","ways"] [] (an0 C_TooFull)) (D:DefD K mg "at_once" (top 29) ["hall","table","shut"] [.int 0]):CalleeF P w K mg base 7 "at_once" ["hall","table","shut"] [.int 0] (az8 K C_TooFull):=by
 refine D.okF O1 (fun vs H Q E h=>?_) (fun f cdv A outer s H vs Q E hr h=>?_)
 ·obtain ⟨p,l,h,as,ps,sh,rfl,_⟩:=h
  rfl
 obtain ⟨p,l,h,as,ps,sh,rfl,hH,ok,el,prs,tok,few,q,qE⟩:=h
 have b2:=ok.m
 have la:as.length = ps.length:=Paired.length prs
 have fb:=ad1 (seen:=[]) (i:=0) tok.b tok.n1 tok.n2
 refine ⟨_,(d6 (A6 (S7 0 C_refuse_table (P9 fun _ _ _ z=>z) hr rfl (b7 (pv 0) (b7 (pv 1) d5 b8) b8)))
  (d6 (i7 (i:=3) O1.nd rfl (Or.inl rfl) (i9 (S0 K) rfl T.m_sorted boot_sorted (b7 (pv 1) d5 b8)))
  (d6 (i7 (i:=4) O1.nd rfl (Or.inr rfl) (m6 C_open_racks.all hr rfl (b7 (pv 0) (b7 (pv 2) d5 b8) b8)))
  (d6 (i7 (i:=5) O1.nd rfl (Or.inl rfl) (S7 0 C_parted (P9 fun _ _ _ z=>z) hr rfl (b7 (S7 0 C_pairs_of (P9 fun _ _ _ z=>z) hr rfl (b7 (pv 0) (b7 (pv 3) d5 b8) b8)) (b7 (i9 (u6 K) rfl T.m_len boot_len (b7 (pv 4) d5 b8)) d5 m8) m8)))
  (g6 (j8 (N8 (own:=["entry","number"]) (fr:=[(4,"racks")]) rfl (show CompScope ["hall","table","shut","entries","racks","numbers"] (d7 (top 29)) _ _ _ from ⟨rfl,by decide +kernel,by decide +kernel,by decide +kernel,by decide +kernel⟩) (aE1 false K rfl T.m_zip (b7 (pv 3) (b7 (pv 5) d5 b8) b8)) (fun cl C s H ex=>⟨(aJ3 K rfl (show (["entry","number","racks"]:List Str).Nodup from by decide +kernel) (Nm.mk (i:=0) rfl (Or.inl rfl) (Or.inr rfl)) (Nm.mk (i:=1) rfl (Or.inl rfl) (Or.inr rfl))),U2,(m9 (b7 (h9 (g7 K) (pv 0) d4 (fun _ _=>rfl)) (b7 (m9 (b7 (h9 (g7 K) (pv 0) d4 (fun _ _=>rfl)) d5 j6)) (b7 (h9 (x8 K) (pv 2) (pv 1) (fun _ _=>rfl)) d5 j6) P0) j6))⟩)))))))),?_⟩
 refine ⟨_,rfl,_,rfl,p,l,h,_,_,rfl,hH,ok,SqL.of el,T6 prs,by rw [List.length_map]; lia,fun _ H1 s1=>?_,fun i dx H1 z=>by rw [fb] at z; cases z⟩
 refine ⟨_,rfl,?_⟩
 dsimp only [V4]
 refine ab3 (s1 _ _ el) (prs.same s1) (by lia) tok.n1 fun l2 as2 qs hl2 prs2 pm srt=>?_
 have s2:=d8 hl2 (.lst (as2.map V.ref))
 have el2:=b9 (H:=H1) (a:=l2) (o:=.lst (as2.map V.ref))
 generalize upd H1 l2 (.lst (as2.map V.ref)) = H2 at s2 el2 ⊢
 have s12:=s1.trans s2
 have prq:o6 H2 as2 qs:=prs2.same s2
 have lq:qs.length = ps.length:=pm.length_eq
 have la2:as2.length = qs.length:=Paired.length prs2
 have fbq:o8 (h.i * h.c) (h.o * h.e) (qs.map mkO) [] 0 = none:=ad1 (seen:=[]) (fun p hp=>tok.b p (pm.mem_iff.mp hp)) ((pm.map Prod.fst).nodup_iff.mpr tok.n1) ((pm.map Prod.snd).nodup_iff.mpr tok.n2)
 refine ⟨_,rfl,_,rfl,p,h,sh,rfl,i4.seqT s12 hH,ok,fun rl hrl=>?_⟩
 have s3:=d8 hrl (.lst (F9 (u9 h sh)))
 have erl:=b9 (H:=H2) (a:=rl) (o:=.lst (F9 (u9 h sh)))
 generalize upd H2 rl (.lst (F9 (u9 h sh))) = H3 at s3 erl ⊢
 have s13:=s12.trans s3
 refine ⟨_,rfl,_,rfl,p,l2,h,_,_,rfl,i4.seqT s13 hH,ok,SqL.of (s3 _ _ el2),(T6 prq).same s3,by rw [List.length_map]; lia,fun _ r0 as0 H4 s4 er0 pr0=>?_,fun i dx H' z=>by rw [fbq] at z; cases z⟩
 rw [aR5] at pr0
 have s34:=s3.trans s4
 have s14:=s12.trans s34
 have erl4:=s4 _ _ erl
 have nlen:(F9 (u9 h sh)).length = (u9 h sh).length:=by unfold F9; rw [List.length_map]
 refine ⟨_,rfl,rl,_,rfl,.inl (SqL.of erl4),r0,as0,qs.map (hv h),_,rfl,by lia,er0,pr0,by rw [List.length_map]; lia,fun nl ns H5 s5 hall hnl enl lnl N bd prel=>?_,fun side r dx H5 s5 ff hdx edx=>qE side r qs dx H5 (s14.trans s5) pm srt (by rw [nlen] at ff; exact ff) edx⟩
 rw [List.length_map] at lnl N bd prel
 rw [nlen] at hall bd
 have told:Told h sh qs ns:=⟨prel,N,lnl,bd,hall⟩
 have s35:=s34.trans s5
 have s15:=s14.trans s5
 have el5:=s35 _ _ el2
 have erl5:=s5 _ _ erl4
 have pr5:o6 H5 as2 qs:=prq.same s35
 refine ⟨_,rfl,_,rfl,l2,nl,as2.map V.ref,ns.map V.int,rfl,SqL.of el5,SqL.of enl,?_⟩
 refine aK6 (b:=false) (xs:=as2.map V.ref) (ys:=ns.map V.int) (fun i acc σ G=>i4 H5 G ∧ (∃ bs:List Addr,acc = bs.map V.ref ∧ bs.length = i ∧ E4 G bs ((F1 h sh ns qs).take i)) ∧ ∃ v0 v1,σ = [v0,v1,some (.ref rl)])
  ⟨i4.refl _,⟨[],rfl,rfl,.nil⟩,none,none,rfl⟩ (by rw [List.length_map]; have:=m3 (n:=ns.length) (by lia); have:=m3 (n:=as2.length) (by lia); lia) (fun i acc σ G g=>?_) (fun i acc σ G _ _ g=>⟨SqL.of (g.1 _ _ el5),SqL.of (g.1 _ _ enl)⟩) ?_ ?_
 ·obtain ⟨_,⟨bs,rfl,lb,_⟩,_⟩:=g
  rw [List.length_map,lb]
  exact Nat.le_refl _
 ·rintro i x y acc σ G tq hx hy ⟨sG,⟨bs,rfl,lb,cb⟩,v0,v1,rfl⟩ htq
  rw [List.getElem?_map] at hx hy
  obtain ⟨t,ht,rfl⟩:=Option.map_eq_some_iff.mp hx
  obtain ⟨n,hn,rfl⟩:=Option.map_eq_some_iff.mp hy
  obtain ⟨pp,hpp,et⟩:=p4 pr5 i t ht
  have hi:=(List.getElem?_eq_some_iff.mp hpp).1
  have nue:nuL ns i = n:=by unfold nuL; rw [List.getD,hn]; rfl
  have nb:=bd i hi
  rw [nue] at nb
  have u1:=sG.trans (d8 htq (.tup [.ref t,.int n]))
  have uG:=d8 htq (.tup [.ref t,.int n])
  have etq:=b9 (H:=G) (a:=tq) (o:=.tup [.ref t,.int n])
  generalize upd G tq (.tup [.ref t,.int n]) = G1 at u1 uG etq ⊢
  refine ⟨tq,[.ref t,.int n],rfl,SqT.of etq,rfl,.ref t,[.int n],rfl,.int n,[],rfl,rfl,?_⟩
  refine ⟨_,rfl,t,_,_,_,rfl,rfl,SqT.of (u1 _ _ et),rfl,_,rfl,t,_,_,_,rfl,rfl,SqT.of (u1 _ _ et),rfl,(by show 1 ≤ sizeLine; decide),fun t1 ht1=>?_⟩
  have u2:=d8 ht1 (.tup [.int pp.2])
  have et1:=b9 (H:=G1) (a:=t1) (o:=.tup [.int pp.2])
  generalize upd G1 t1 (.tup [.int pp.2]) = G2 at u2 et1 ⊢
  have u12:=u1.trans u2
  have hat:atI (F9 (u9 h sh)) n = some (.int (((u9 h sh).getD n.toNat 0:Nat):Int)):=by
   have hl:n.toNat < (u9 h sh).length:=by lia
   have:=G9 (xs:=F9 (u9 h sh)) (j:=n.toNat) (v:=.int (((u9 h sh).getD n.toNat 0:Nat):Int)) (by
    unfold F9
    rw [List.getElem?_map,List.getElem?_eq_getElem hl,List.getD,List.getElem?_eq_getElem hl]
    rfl)
   rwa [Int.toNat_of_nonneg nb.1] at this
  refine ⟨_,rfl,_,rfl,rl,_,_,_,rfl,rfl,SqL.of (u12 _ _ erl5),hat,(by show 3 ≤ sizeLine; decide),fun tp htp=>?_⟩
  have u3:=d8 htp (.tup [.int pp.1,.ref t1,.int (((u9 h sh).getD n.toNat 0:Nat):Int)])
  have uA:=uG.trans (u2.trans u3)
  refine ⟨sG.trans uA,⟨bs ++ [tp],by rw [List.map_append]; rfl,by rw [List.length_append,lb]; rfl,?_⟩,_,_,rfl⟩
  have ce:aM1 h sh ns qs i = (pp.1,pp.2,(((u9 h sh).getD n.toNat 0:Nat):Int)):=by
   unfold aM1
   rw [nue,List.getD,hpp]
   rfl
  have stp:(F1 h sh ns qs).take (i + 1) = (F1 h sh ns qs).take i ++ [(pp.1,pp.2,(((u9 h sh).getD n.toNat 0:Nat):Int))]:=by
   rw [List.take_add_one,← ce]
   congr 1
   unfold F1
   rw [List.getElem?_map,List.getElem?_range hi]
   rfl
  rw [stp]
  have cb':E4 (upd G2 tp (.tup [.int pp.1,.ref t1,.int (((u9 h sh).getD n.toNat 0:Nat):Int)])) bs ((F1 h sh ns qs).take i):=cb.mono fun a xs z=>uA _ _ z
  exact Paired.snoc cb' ⟨t1,u3 _ _ et1,b9⟩
 ·rintro acc σ G ⟨sG,⟨bs,rfl,lb,cb⟩,v0,v1,rfl⟩ r hr0
  have mn:min (as2.map V.ref).length (ns.map V.int).length = qs.length:=by rw [List.length_map,List.length_map]; lia
  rw [mn] at lb cb
  rw [List.take_of_length_le (by unfold F1; rw [List.length_map,List.length_range]; exact Nat.le_refl _)] at cb
  have u1:=d8 hr0 (.lst (bs.map V.ref))
  exact q r bs qs ns _ (s15.trans (sG.trans u1)) pm srt told b9 (cb.mono fun a xs z=>u1 _ _ z)
end
theorem a41 (i:Nat) (x:V) (hx:([V.int 0,V.int 1]:List V)[i]? = some x):∃ side:Int,x = .int side ∧ side = (i:Int) ∧ (side = 0 ∨ side = 1):=by
 match i,hx with
 | 0,hx=>cases hx; exact ⟨0,rfl,rfl,.inl rfl⟩
 | 1,hx=>cases hx; exact ⟨1,rfl,rfl,.inr rfl⟩
theorem a88 {side:Int} (hs:side = 0 ∨ side = 1) (h:Hall) (p:Int × Int):sdI side p / sdI side (h.c,h.e) = sdI side (hv h p):=by
 rcases hs with rfl | rfl <;> rfl
theorem a67 {h:Hall} (ok:h.Ok) {side:Int} (hs:side = 0 ∨ side = 1):1 ≤ sdI side (h.c,h.e) ∧ sdI side (h.c,h.e) ≤ 12:=by
 rcases hs with rfl | rfl
 ·exact ok.c
 ·exact ok.e
theorem M5 {ps qs:List (Int × Int)} (p:qs.Perm ps) (h:Hall) (side r:Int):(rks side (qs.map (hv h))).count r = (rks side (ps.map (hv h))).count r:=by
 unfold rks
 exact ((p.map (hv h)).map (sdI side)).count_eq r
theorem FirstFull.perm {ps qs:List (Int × Int)} (p:qs.Perm ps) {h:Hall} {W s r:Int} (f:FirstFull (qs.map (hv h)) W s r):FirstFull (ps.map (hv h)) W s r :=
 ⟨f.sd,by rw [← M5 p]; exact f.full,fun r' z=>by rw [← M5 p]; exact f.least r' z,fun s' r' z1 z2=>by rw [← M5 p]; exact f.before s' r' z1 z2⟩
def ar9 (K:PySem.W.Frag):Sp:=fun vs H Q _=>∃ (p l:Addr) (h:Hall) (as:List Addr) (ps:List (Int × Int)) (W:Int),vs = [.ref p,.ref l,.int W] ∧ SqT K H p (h.row.map V.int) ∧ h.Ok ∧ 0 ≤ W ∧ SqL K H l (as.map V.ref) ∧ o6 H as ps ∧ ps.length ≤ 59 ∧ (∀ H',i4 H H' → (∀ side r:Int,side = 0 ∨ side = 1 → (((rks side (ps.map (hv h))).count r:Nat):Int) ≤ W) → Q .non H') ∧
 ∀ (side r:Int) (t:Addr) (H':Hp),i4 H H' → FirstFull (ps.map (hv h)) W side r → H' t = some (.tup [.int side,.int r,.int ((rks side (ps.map (hv h))).count r:Nat)]) → Q (.ref t) H'
section
variable {P:Program} {w:World} {K:PySem.W.Frag} {mg:Str → Option Value} {base:Heap} {C_HallError C_TooFull C_NoTable:Addr}
theorem w6:FnScope ["_law_hall_here","_law_table_here","_law_many","_law_side","_law_counts","_law_entry","_law_rack"] ["_law_hall_here","_law_table_here","_law_many"] (d7 (top 40)):=⟨rfl,rfl,rfl,by decide +kernel,rfl,by decide +kernel,by decide +kernel⟩
set_option maxHeartbeats 4000000 in
theorem aI4 (T:Txt K mg) (D:Def K mg "_law_too_full" (top 40) ["_law_hall_here","_law_table_here","_law_many"]):Callee P w K mg base 1 "_law_too_full" ["_law_hall_here","_law_table_here","_law_many"] (ar9 K):=by
 refine D.ok w6 (fun vs H Q E h=>?_) (fun f cdv A outer s H vs Q E hr h=>?_)
 ·obtain ⟨p,l,h,as,ps,W,rfl,_⟩:=h
  rfl
 obtain ⟨p,l,h,as,ps,W,rfl,hH,ok,hW0,hl,pr,few,q,q2⟩:=h
 have ln:as.length = ps.length:=Paired.length pr
 refine ⟨_,(d6 (y6 PassesOwn.never rfl (Z6 K (m9 (b7 d4 (b7 d4 d5 i0) i0))) (o9 (i:=3) w6.nd rfl (Or.inl rfl))
  (d6 (i7 (i:=4) w6.nd rfl (Or.inl rfl) V0)
  (d6 (y6 PassesOwn.never rfl (z9 K (pv 1)) (o9 (i:=5) w6.nd rfl (Or.inl rfl))
  (d6 (i7 (i:=6) w6.nd rfl (Or.inl rfl) (i6 x6 (h9 (g7 K) (pv 5) (pv 3) (fun _ _=>rfl)) (h9 (x8 K) (C4 (b7 (h9 (g7 K) (pv 0) d4 (fun _ _=>rfl)) (b7 (h9 (g7 K) (pv 0) d4 (fun _ _=>rfl)) d5 j6) j6)) (pv 3) (fun _ _=>rfl))))
  (g6 (K2 (A1 hr) (pv 4) (pv 6) (i6 A4 (P7 (A1 hr) (pv 4) (pv 6) d4 ⟨rfl,rfl,rfl,rfl⟩) d4) rfl))))
  (g6 (y6 PassesOwn.never rfl (z9 K (i9 (P4 rfl) rfl T.m_sorted boot_sorted (b7 (pv 4) d5 b8))) (o9 (i:=6) w6.nd rfl (Or.inl rfl))
  (g6 (y8 (m7 aX5 (aa0 (A1 hr) (pv 4) (pv 6) (fun _ _=>rfl)) (pv 2) (n9 _)) (g6 (j8 (m9 (b7 (pv 3) (b7 (pv 6) (b7 (aa0 (A1 hr) (pv 4) (pv 6) (fun _ _=>rfl)) d5 j6) b8) b8)))) n6)))))))
  (g6 (j8 L5))),?_⟩
 refine ⟨(by show 2 ≤ sizeLine; decide),fun t ht=>?_⟩
 have s3:=d8 ht (.tup [.int 0,.int 1])
 have et:=b9 (H:=H) (a:=t) (o:=.tup [.int 0,.int 1])
 generalize upd H t (.tup [.int 0,.int 1]) = H3 at s3 et ⊢
 refine ⟨t,rfl,⟨_,SqT.of et⟩,?_⟩
 refine aE2 (xs:=[.int 0,.int 1]) (fun j σ H'=>i4 H3 H' ∧ (∀ s r:Int,0 ≤ s → s < (j:Int) → (((rks s (ps.map (hv h))).count r:Nat):Int) ≤ W) ∧ ∃ v3 v4 v5 v6,σ = [some (.ref p),some (.ref l),some (.int W),v3,v4,v5,v6])
  ⟨fun b u z=>z,fun s r h1 h2=>by lia,none,none,none,none,rfl⟩ (fun i σ H' _ g=>SqT.of (g.1 _ _ et)) ?_ ?_
 ·rintro j x σ H' hx ⟨s4,bef,v3,v4,v5,v6,rfl⟩
  obtain ⟨side,rfl,hside,hs⟩:=a41 j x hx
  have s1:=s3.trans s4
  have sb:=a67 ok hs
  refine fun d hd=>?_
  have s5:=d8 hd (.dK [])
  have ed0:=b9 (H:=H') (a:=d) (o:=.dK [])
  generalize upd H' d (.dK []) = H5 at s5 ed0 ⊢
  have hdH:H' d = none:=hd
  refine ⟨_,rfl,l,rfl,⟨_,(s1.trans s5).seq hl⟩,?_⟩
  refine B0 (xs:=as.map V.ref) (fun i σ G=>i4 H' G ∧ (∃ kvs,G d = some (.dK kvs) ∧ V2 kvs (rks side ((ps.map (hv h)).take i))) ∧ ∃ v5 v6,σ = [some (.ref p),some (.ref l),some (.int W),some (.int side),some (.ref d),v5,v6])
   ⟨s5,⟨[],ed0,V2.nil⟩,_,_,rfl⟩ (fun i σ G _ g=>(s1.trans g.1).seq hl) ?_ ?_
  ·rintro i x σ G hx ⟨s6,⟨kvs,e1,cd⟩,v5,v6,rfl⟩
   rw [List.getElem?_map] at hx
   obtain ⟨a,ha,rfl⟩:=Option.map_eq_some_iff.mp hx
   obtain ⟨pp,hp,pa⟩:=p4 pr i a ha
   have s16:=s1.trans s6
   have pa':G a = some (.tup [.int pp.1,.int pp.2]):=s16 _ _ pa
   have hi:=(List.getElem?_eq_some_iff.mp hp).1
   have kl:kvs.length ≤ 60:=by
    obtain ⟨ns,_,_,h3,rfl⟩:=cd
    rw [rks,List.length_map,List.length_take,List.length_map] at h3
    rw [List.length_map]
    lia
   refine ⟨_,rfl,_,rfl,a,_,_,_,rfl,rfl,SqT.of pa',aD8 hs pp,_,rfl,p,_,_,_,rfl,rfl,i4.seqT s16 hH,rfl,_,rfl,p,_,_,_,rfl,rfl,i4.seqT s16 hH,rfl,(by show 2 ≤ sizeLine; decide),fun dl hdl=>?_⟩
   have s7:=d8 hdl (.lst [.int h.c,.int h.e])
   have edl:=b9 (H:=G) (a:=dl) (o:=.lst [.int h.c,.int h.e])
   have e17:=s7 _ _ e1
   generalize upd G dl (.lst [.int h.c,.int h.e]) = G7 at s7 edl e17 ⊢
   refine ⟨_,rfl,dl,_,_,_,rfl,rfl,SqL.of edl,aD8 hs (h.c,h.e),_,_,rfl,rfl,⟨by lia,by lia⟩,?_⟩
   dsimp only
   rw [a88 hs h pp]
   refine ⟨_,rfl,d,rfl,.inl ⟨_,.inl e17⟩,_,rfl,_,E3.k (k:=.inl (sdI side (hv h pp))) e17,_,_,cd.get _,rfl,_,rfl,_,rfl,d,_,rfl,S2.k (k:=.inl (sdI side (hv h pp))) e17 (m3 (by lia)),?_⟩
   refine ⟨i4.put (s6.trans s7) hdH,⟨_,b9,?_⟩,_,_,rfl⟩
   have:=cd.put (sdI side (hv h pp))
   rw [C6 (show (ps.map (hv h))[i]? = some (hv h pp) by rw [List.getElem?_map,hp]; rfl),show rks side ((ps.map (hv h)).take i ++ [hv h pp]) = rks side ((ps.map (hv h)).take i) ++ [sdI side (hv h pp)] by rw [rks,rks,List.map_append]; rfl]
   exact this
  rintro σ G ⟨s6,⟨kvs,e1,cd⟩,v5,v6,rfl⟩
  rw [List.length_map,ln,List.take_of_length_le (by rw [List.length_map]; exact Nat.le_refl _)] at cd
  obtain ⟨nsx,nd,mem,nlen,hk⟩:=id cd
  have n60:nsx.length ≤ 60:=by rw [rks,List.length_map,List.length_map] at nlen; lia
  refine ⟨_,rfl,d,kvs,nsx,rfl,.inl e1,by rw [hk,List.map_map]; rfl,by lia,fun ns' pm srt sl hsl=>?_⟩
  have s7:=d8 hsl (.lst (ns'.map V.int))
  have es:=b9 (H:=G) (a:=sl) (o:=.lst (ns'.map V.int))
  have ed7:=s7 _ _ e1
  generalize upd G sl (.lst (ns'.map V.int)) = G7 at s7 es ed7 ⊢
  have s67:=s6.trans s7
  have s17:=s1.trans s67
  have s47:=s4.trans s67
  have mem':∀ r,r ∈ ns' ↔ r ∈ rks side (ps.map (hv h)):=fun r=>by rw [pm.mem_iff]; exact mem r
  refine ⟨sl,rfl,⟨_,SqL.of es⟩,?_⟩
  refine B0 (xs:=ns'.map V.int) (fun k σ H'=>H' = G7 ∧ (∀ r ∈ ns'.take k,(((rks side (ps.map (hv h))).count r:Nat):Int) ≤ W) ∧ ∃ v6,σ = [some (.ref p),some (.ref l),some (.int W),some (.int side),some (.ref d),v5,v6])
   ⟨rfl,(fun r hr=>nomatch hr),_,rfl⟩ (fun k σ H' _ g=>by rw [g.1]; exact SqL.of es) ?_ ?_
  ·rintro k x σ G8 hx ⟨rfl,low,v6,rfl⟩
   rw [List.getElem?_map] at hx
   obtain ⟨r,hr,rfl⟩:=Option.map_eq_some_iff.mp hx
   have mr:=(mem' r).mp (List.mem_of_getElem? hr)
   have hval:=cd.val r
   rw [if_pos mr] at hval
   refine ⟨_,rfl,_,rfl,d,_,rfl,.inl ⟨kvs,.inl r,.inl ed7,rfl,hval.symm⟩,_,rfl,_,_,rfl,rfl,_,rfl,?_⟩
   refine O7 (fun c=>?_) (fun c=>?_)
   ·have c':W < (((rks side (ps.map (hv h))).count r:Nat):Int):=of_decide_eq_true c
    refine ⟨_,rfl,_,rfl,_,rfl,_,rfl,d,_,rfl,.inl ⟨kvs,.inl r,.inl ed7,rfl,hval.symm⟩,(by show 3 ≤ sizeLine; decide),fun p hp=>?_⟩
    refine q2 side r p _ (s17.trans (d8 hp _)) ⟨hs,c',fun r' hr'=>?_,fun s r' h1 h2=>bef s r' h1 (by lia)⟩ b9
    by_cases mr':r' ∈ rks side (ps.map (hv h))
    ·refine low r' ?_
     obtain ⟨i,hi,he⟩:=List.getElem_of_mem ((mem' r').mpr mr')
     have hk:=(List.getElem?_eq_some_iff.mp hr)
     by_cases z:i < k
     ·rw [List.mem_take_iff_getElem]
      exact ⟨i,by lia,he⟩
     ·by_cases y:i = k
      ·subst y
       rw [hk.2] at he
       lia
      ·have:=(List.pairwise_iff_getElem.mp srt) k i hk.1 hi (by lia)
       rw [hk.2,he] at this
       lia
    ·rw [List.count_eq_zero.mpr mr']
     exact hW0
   ·have c':¬ W < (((rks side (ps.map (hv h))).count r:Nat):Int):=fun z=>c (decide_eq_true z)
    refine ⟨rfl,fun r' hr'=>?_,_,rfl⟩
    rw [C6 hr] at hr'
    rcases List.mem_append.mp hr' with y | y
    ·exact low r' y
    ·rw [List.mem_singleton.mp y]
     lia
  ·rintro σ G8 ⟨rfl,low,v6,rfl⟩
   rw [List.length_map,List.take_length] at low
   refine ⟨s47,fun s r h1 h2=>?_,_,_,_,_,rfl⟩
   by_cases z:s = side
   ·rw [z]
    by_cases mr:r ∈ rks side (ps.map (hv h))
    ·exact low r ((mem' r).mpr mr)
    ·rw [List.count_eq_zero.mpr mr]
     exact hW0
   ·exact bef s r h1 (by lia)
 ·rintro σ H' ⟨s4,bef,v3,v4,v5,v6,rfl⟩
  exact q H' (s3.trans s4) fun side r hs=>bef side r (by lia) (by show side < 2; lia)
end
def ab7 (h:Hall) (sh:Int) (qs:List (Int × Int)) (H:Hp) (t:Addr):Prop:=(∃ (r:Addr) (bs:List Addr) (ns:List Int),H t = some (.tup [.str "calls",.ref r]) ∧ H r = some (.lst (bs.map V.ref)) ∧ E4 H bs (F1 h sh ns qs) ∧ Told h sh qs ns) ∨
 ∃ (t2:Addr) (side r:Int),H t = some (.tup [.str "full",.ref t2]) ∧ H t2 = some (.tup [.int side,.int r,.int ((rks side (qs.map (hv h))).count r:Nat)]) ∧ FirstFull (qs.map (hv h)) ((u9 h sh).length:Nat) side r
theorem ab7.same {h:Hall} {sh:Int} {qs:List (Int × Int)} {H H':Hp} {t:Addr} (s:i4 H H') (a:ab7 h sh qs H t):ab7 h sh qs H' t:=by
 rcases a with ⟨r,bs,ns,e1,e2,c,td⟩ | ⟨t2,side,r,e1,e2,ff⟩
 ·exact .inl ⟨r,bs,ns,s _ _ e1,s _ _ e2,c.mono fun a xs z=>s _ _ z,td⟩
 ·exact .inr ⟨t2,side,r,s _ _ e1,s _ _ e2,ff⟩
theorem W1 {K:PySem.W.Frag} {H:Hp}:∀ {as:List Addr} {ds:List (Int × Int × Int)},E4 H as ds → Paired (aq0 K H) (as.map V.ref) (ds.map fun d=>(d.1,[d.2.1],d.2.2))
 | _,_,.nil=>.nil
 | _,_,.cons (a:=p) ⟨t,h1,h2⟩ r=>.cons ⟨p,t,rfl,SqT.of h2,SqT.of h1⟩ (W1 r)
theorem ab7.like {K:PySem.W.Frag} {h:Hall} {sh:Int} {qs:List (Int × Int)} {H:Hp} {t t':Addr} (a:ab7 h sh qs H t) (b:ab7 h sh qs H t'):ak9 K H (.ref t) (.ref t'):=by
 rcases a with ⟨r,bs,ns,e1,e2,c,td⟩ | ⟨t2,side,r,e1,e2,ff⟩
 ·rcases b with ⟨r',bs',ns',e1',e2',c',td'⟩ | ⟨t2,side,r',e1',e2',ff⟩
  ·obtain rfl:=td.rel.one td'.rel
   exact ⟨t,t',_,r,r',rfl,rfl,SqT.of e1,SqT.of e1',.inl ⟨_,⟨r,_,rfl,SqL.of e2,W1 c⟩,⟨r',_,rfl,SqL.of e2',W1 c'⟩⟩⟩
  ·exact absurd (td.few side r' ff.sd) (by have:=ff.full; lia)
 ·rcases b with ⟨r',bs',ns',e1',e2',c',td'⟩ | ⟨t2',side',r',e1',e2',ff'⟩
  ·exact absurd (td'.few side r ff.sd) (by have:=ff.full; lia)
  ·obtain ⟨rfl,rfl⟩:=ff.one ff'
   exact ⟨t,t',_,t2,t2',rfl,rfl,SqT.of e1,SqT.of e1',.inr ⟨[side,r,((rks side (qs.map (hv h))).count r:Nat)],SqT.of e2,SqT.of e2'⟩⟩
def am9 (K:PySem.W.Frag):Sp:=fun vs H Q _=>∃ (p l:Addr) (h:Hall) (as:List Addr) (ps:List (Int × Int)) (sh:Int) (b:Bool),vs = [.ref p,.ref l,.int sh,.bl b] ∧ (b = false → sh = 0) ∧ SqT K H p (h.row.map V.int) ∧ h.Ok ∧ H l = some (.lst (as.map V.ref)) ∧ o6 H as ps ∧ TabOk h ps ∧ ps.length ≤ 59 ∧
 ∀ (t:Addr) (qs:List (Int × Int)) (H':Hp),i4 H H' → qs.Perm ps → qs.Pairwise (fun p p'=>p.1 < p'.1) → ab7 h sh qs H' t → Q (.ref t) H'
theorem W0 (as:List Addr):(as.map V.ref).all aJ5 = true:=by
 rw [List.all_eq_true]
 intro x hx
 obtain ⟨c,_,rfl⟩:=List.mem_map.mp hx
 rfl
section
variable {P:Program} {w:World} {K:PySem.W.Frag} {mg:Str → Option Value} {base:Heap} {C_HallError C_TooFull C_NoTable:Addr}
theorem u0:FnScope ["_law_hall_here","_law_table_here","_law_shut","_law_told","_law_error","_law_found","_law_handed","e"] ["_law_hall_here","_law_table_here","_law_shut","_law_told"] (d7 (top 41)):=⟨rfl,rfl,rfl,by decide +kernel,rfl,by decide +kernel,by decide +kernel⟩
set_option maxHeartbeats 4000000 in
theorem aF3 (T:Txt K mg) (Z:TxtC K mg C_HallError C_TooFull C_NoTable) (C_at_once:CalleeF P w K mg base 7 "at_once" ["hall","table","shut"] [.int 0] (az8 K C_TooFull)) (D:Def K mg "_law_answer" (top 41) ["_law_hall_here","_law_table_here","_law_shut","_law_told"]):Callee P w K mg base 8 "_law_answer" ["_law_hall_here","_law_table_here","_law_shut","_law_told"] (am9 K):=by
 refine D.ok u0 (fun vs H Q E h=>?_) (fun f cdv A outer s H vs Q E hr h=>?_)
 ·obtain ⟨p,l,h,as,ps,sh,b,rfl,_⟩:=h
  rfl
 obtain ⟨p,l,h,as,ps,sh,b,rfl,hsh,hH,ok,el,prs,tok,few,q⟩:=h
 refine ⟨_,(d6 (i7 (i:=4) u0.nd rfl (Or.inl rfl) L5)
  (d6 (i7 (i:=5) u0.nd rfl (Or.inl rfl) L5)
  (d6 (i7 (i:=6) u0.nd rfl (Or.inl rfl) (w4 (az7 K) rfl T.m_list boot_list (b7 (pv 1) d5 b8)))
  (d6 (aU9 (c:=.ref C_HallError) (i:=7) rfl Z.mg_HallError u0.nd rfl rfl rfl rfl rfl (fun pn E =>
  (g6 (y8 (C0 K (pv 3) (fun _=>rfl)) (g6 (i7 (i:=5) u0.nd rfl (Or.inl rfl) (S7 1 C_at_once ag5 hr rfl (b7 (pv 0) (b7 (pv 6) (b7 (pv 2) d5 b8) b8) b8)))) (g6 (i7 (i:=5) u0.nd rfl (Or.inl rfl) (S7 0 C_at_once ag5 hr rfl (b7 (pv 0) (b7 (pv 6) d5 b8) b8))))))) (fun ea =>
  (g6 (i7 (i:=4) u0.nd rfl (Or.inl rfl) (pv 7)))))
  (d6 (y8 (m7 (aw4 K (Room.units0 hr)) (pv 6) (pv 1) (n9 _)) (g6 (j8 (m9 (b7 W2 (b7 L5 d5 i0) i0)))) n6)
  (d6 (y8 (m7 aY5 (pv 4) L5 (n9 _)) (g6 (j8 (m9 (b7 W2 (b7 (pv 5) d5 b8) i0)))) n6)
  (d6 (y8 (L7 (C0 K (i9 (ai4 K) rfl T.m_isinstance boot_isinstance (b7 (pv 4) (b7 (aV1 (v:=.ref C_TooFull) rfl Z.mg_TooFull rfl) d5 b8) b8)) (fun _=>rfl))) (g6 (j8 (m9 (b7 W2 (b7 L5 d5 i0) i0)))) n6)
  (g6 (j8 (m9 (b7 W2 (b7 (m9 (b7 (aJ2 K (pv 4)) (b7 (aJ2 K (pv 4)) (b7 (aJ2 K (pv 4)) d5 aj1) aj1) aj1)) d5 P0) i0))))))))))),?_⟩
 refine ⟨_,rfl,l,_,rfl,.inl (SqL.of el),fun hd hhd=>?_⟩
 have s1:=d8 hhd (.lst (as.map V.ref))
 have ehd:=b9 (H:=H) (a:=hd) (o:=.lst (as.map V.ref))
 generalize upd H hd (.lst (as.map V.ref)) = H1 at s1 ehd ⊢
 refine ⟨fun σ' c0 d H'=>σ' = [some (.ref p),some (.ref l),some (.int sh),some (.bl b),some .non,some .non,some (.ref hd),none] ∧ c0 = .ref C_TooFull ∧ ∃ (dx:Addr) (side r:Int) (qs:List (Int × Int)),d = some dx ∧ i4 H1 H' ∧ qs.Perm ps ∧ qs.Pairwise (fun p p'=>p.1 < p'.1) ∧ FirstFull (qs.map (hv h)) ((u9 h sh).length:Nat) side r ∧ H' dx = some (XdO dx (ah9 side r ((rks side (qs.map (hv h))).count r:Nat))),?_,?_⟩
 ·have key:∀ {sh':Int} (Q':VK) (E':XK),sh' = sh → (∀ c0 d H',(c0 = .ref C_TooFull ∧ ∃ (dx:Addr) (side r:Int) (qs:List (Int × Int)),d = some dx ∧ i4 H1 H' ∧ qs.Perm ps ∧ qs.Pairwise (fun p p'=>p.1 < p'.1) ∧ FirstFull (qs.map (hv h)) ((u9 h sh).length:Nat) side r ∧ H' dx = some (XdO dx (ah9 side r ((rks side (qs.map (hv h))).count r:Nat)))) → E' c0 d H') → (∀ (r:Addr) (bs:List Addr) (qs:List (Int × Int)) (ns:List Int) (H':Hp),i4 H1 H' → qs.Perm ps → qs.Pairwise (fun p p'=>p.1 < p'.1) → Told h sh qs ns → H' r = some (.lst (bs.map V.ref)) → E4 H' bs (F1 h sh ns qs) → Q' (.ref r) H') → az8 K C_TooFull [.ref p,.ref hd,.int sh'] H1 Q' E':=by
   intro sh' Q' E' e hE hq
   subst e
   exact ⟨p,hd,h,as,ps,sh',rfl,i4.seqT s1 hH,ok,ehd,prs.same s1,tok,few,hq,fun side r qs dx H' s' pm srt ff ed=>hE _ _ _ ⟨rfl,dx,side,r,qs,rfl,s',pm,srt,ff,ed⟩⟩
  have fin:∀ {r:Addr} {bs:List Addr} {qs:List (Int × Int)} {ns:List Int} {H':Hp},i4 H1 H' → qs.Perm ps → qs.Pairwise (fun p p'=>p.1 < p'.1) → Told h sh qs ns → H' r = some (.lst (bs.map V.ref)) → E4 H' bs (F1 h sh ns qs) → ∀ t,H' t = none → Q (.ref t) (upd H' t (.tup [.str "calls",.ref r])):=by
   intro r bs qs ns H' s' pm srt td er cb t ht
   have u:=d8 ht (.tup [.str "calls",.ref r])
   exact q t qs _ (s1.trans (s'.trans u)) pm srt (.inl ⟨r,bs,ns,b9,u _ _ er,cb.mono fun a xs z=>u _ _ z,td⟩)
  refine ⟨_,rfl,_,rfl,?_⟩
  cases b with
  | true =>
   refine T5 ⟨_,rfl,_,rfl,_,rfl,?_⟩
   dsimp only [V4]
   refine key _ _ rfl (fun c0 d H2 hh=>⟨rfl,hh⟩) fun r bs qs ns H' s' pm srt td er cb=>?_
   exact ⟨_,rfl,_,rfl,hd,l,_,rfl,rfl,SqL.of (s' _ _ ehd),SqL.of (s' _ _ (s1 _ _ el)),W0 as,_,rfl,D9 ⟨_,rfl,rfl,_,rfl,T5 ⟨_,rfl,(by show 2 ≤ sizeLine; decide),fin s' pm srt td er cb⟩⟩⟩
  | false =>
   refine D9 ⟨_,rfl,_,rfl,?_⟩
   dsimp only [V4]
   refine key _ _ (hsh rfl).symm (fun c0 d H2 hh=>⟨rfl,hh⟩) fun r bs qs ns H' s' pm srt td er cb=>?_
   exact ⟨_,rfl,_,rfl,hd,l,_,rfl,rfl,SqL.of (s' _ _ ehd),SqL.of (s' _ _ (s1 _ _ el)),W0 as,_,rfl,D9 ⟨_,rfl,rfl,_,rfl,T5 ⟨_,rfl,(by show 2 ≤ sizeLine; decide),fin s' pm srt td er cb⟩⟩⟩
 ·rintro σ' c0 d H5 ⟨rfl,rfl,dx,side,r,qs,rfl,s5,pm,srt,ff,ed⟩
  refine ⟨rfl,Z.kh_TooFull,fun ea C hC hea=>?_⟩
  cases hC
  have s6:=d8 hea (ac5 ea C_TooFull (some dx))
  have eea:=b9 (H:=H5) (a:=ea) (o:=ac5 ea C_TooFull (some dx))
  generalize upd H5 ea (ac5 ea C_TooFull (some dx)) = H6 at s6 eea ⊢
  have s56:=s5.trans s6
  have ed6:=s6 _ _ ed
  refine ⟨_,rfl,?_⟩
  refine ⟨_,rfl,_,rfl,hd,l,_,rfl,rfl,SqL.of (s56 _ _ ehd),SqL.of (s56 _ _ (s1 _ _ el)),W0 as,_,rfl,D9 ?_⟩
  refine ⟨_,rfl,rfl,_,rfl,D9 ?_⟩
  refine ⟨_,rfl,ea,C_TooFull,some dx,_,_,true,rfl,(fun u z=>z),eea,Z.x_TooFull,Z.kx_TooFull_TooFull,true,rfl,D9 ?_⟩
  refine ⟨_,rfl,ea,C_TooFull,dx,_,.int side,rfl,eea,ed6,Z.x_TooFull,Z.n_TooFull,Z.f_TooFull_side,rfl,?_⟩
  refine ⟨_,rfl,ea,C_TooFull,dx,_,.int r,rfl,eea,ed6,Z.x_TooFull,Z.n_TooFull,Z.f_TooFull_rack,rfl,?_⟩
  refine ⟨_,rfl,ea,C_TooFull,dx,_,.int ((rks side (qs.map (hv h))).count r:Nat),rfl,eea,ed6,Z.x_TooFull,Z.n_TooFull,Z.f_TooFull_many,rfl,?_⟩
  refine ⟨(by show 3 ≤ sizeLine; decide),fun t2 ht2=>?_⟩
  have s7:=d8 ht2 (.tup [.int side,.int r,.int ((rks side (qs.map (hv h))).count r:Nat)])
  have et2:=b9 (H:=H6) (a:=t2) (o:=.tup [.int side,.int r,.int ((rks side (qs.map (hv h))).count r:Nat)])
  generalize upd H6 t2 (.tup [.int side,.int r,.int ((rks side (qs.map (hv h))).count r:Nat)]) = H7 at s7 et2 ⊢
  refine ⟨(by show 2 ≤ sizeLine; decide),fun t ht=>?_⟩
  have s8:=d8 ht (.tup [.str "full",.ref t2])
  exact q t qs _ (s1.trans (s56.trans (s7.trans s8))) pm srt (.inr ⟨t2,side,r,b9,s8 _ _ et2,ff⟩)
end
section
variable {P:Program} {w:World} {K:PySem.W.Frag} {mg:Str → Option Value} {base:Heap}
theorem ad5:FnScope ["_law_found"] ["_law_found"] (d7 (top 35)):=⟨rfl,rfl,rfl,by decide +kernel,rfl,by decide +kernel,by decide +kernel⟩
theorem aE9 (T:Txt K mg) (D:Def K mg "_law_whole" (top 35) ["_law_found"]):Callee P w K mg base 1 "_law_whole" ["_law_found"] (Z3 K):=by
 refine D.ok ad5 (fun vs H Q E h=>?_) (fun f cdv A outer s H vs Q E hr h=>?_)
 ·obtain ⟨x,rfl,_⟩:=h
  rfl
 obtain ⟨x,rfl,hp,q⟩:=h
 refine ⟨_,(g6 (j8 (am3 (i9 (x5 K) rfl T.m_isinstance boot_isinstance (b7 (pv 0) (b7 (K5 (v:=.ty "int") rfl T.m_int boot_int rfl) d5 b8) b8)) (aj7 (aQ9 (i9 (x5 K) rfl T.m_isinstance boot_isinstance (b7 (pv 0) (b7 (K5 (v:=.ty "bool") rfl T.m_bool boot_bool rfl) d5 b8) b8))))))),?_⟩
 cases hp with
 | int i =>
  refine ⟨_,rfl,_,_,_,true,rfl,.int i,X7,_,rfl,T5 ?_⟩
  exact ⟨_,rfl,_,_,_,false,rfl,.int i,U3,_,rfl,q⟩
 | @odd _ t b1 b2 ni ty h1 h2 hb =>
  have e:isInt x = false:=by
   cases x with
   | int i=>exact absurd rfl (ni i)
   | _=>rfl
  rw [e] at q
  refine ⟨_,rfl,_,_,_,b1,rfl,ty,h1,_,rfl,?_⟩
  cases b1 with
  | false=>exact D9 q
  | true =>
   have:b2 = true:=hb.resolve_left (by decide)
   subst this
   exact T5 ⟨_,rfl,_,_,_,true,rfl,ty,h2,_,rfl,q⟩
end
theorem aO0 (x y:Nat):Builtin.bitAnd (x:Int) (y:Int) = ((x &&& y:Nat):Int):=by
 rw [bitAnd_pp (Int.natCast_nonneg _) (Int.natCast_nonneg _),Int.toNat_natCast,Int.toNat_natCast]
theorem at9 {sh:Int} (h0:0 ≤ sh) (k:Nat):A5 sh k = decide (sh / 2 ^ k % 2 = 0):=by
 obtain ⟨b,rfl⟩:=Int.eq_ofNat_of_zero_le h0
 unfold A5
 have e:((b:Nat):Int) / 2 ^ k = ((b / 2 ^ k:Nat):Int):=by
  rw [Int.natCast_ediv,Int.natCast_pow]
  rfl
 rw [e,show (1:Int) = ((1:Nat):Int) from rfl,aO0,Nat.and_one_is_mod]
 exact decide_eq_decide.mpr (by lia)
def j7 (h:Hall) (sh:Int) (ns:List Int) (i:Nat):Nat:=(u9 h sh).getD (nuL ns i).toNat 0
theorem aj8 {h:Hall} {sh:Int} {qs:List (Int × Int)} {ns:List Int} (td:Told h sh qs ns) {i:Nat} (hi:i < qs.length):(u9 h sh)[(nuL ns i).toNat]? = some (j7 h sh ns i):=by
 have b:=td.bd i hi
 have hl:(nuL ns i).toNat < (u9 h sh).length:=by lia
 unfold j7
 rw [List.getD,List.getElem?_eq_getElem hl]
 rfl
theorem T9 {h:Hall} {sh:Int} {qs:List (Int × Int)} {ns:List Int} (td:Told h sh qs ns) {i j:Nat} (hi:i < qs.length) (hj:j < qs.length) (e:j7 h sh ns i = j7 h sh ns j):nuL ns i = nuL ns j:=by
 have h1:=aj8 td hi
 have h2:=aj8 td hj
 rw [← e] at h2
 have nd:(u9 h sh).Nodup:=List.nodup_range.sublist List.filter_sublist
 have b1:=td.bd i hi
 have b2:=td.bd j hj
 have:=(List.getElem?_inj (show (nuL ns i).toNat < (u9 h sh).length by lia) nd).mp (h1.trans h2.symm)
 lia
theorem ah0 {h:Hall} {sh:Int} {qs:List (Int × Int)} {ns:List Int} (td:Told h sh qs ns) {i:Nat} (hi:i < qs.length):j7 h sh ns i < h.m.toNat ∧ A5 sh (j7 h sh ns i) = true:=by
 have:=List.mem_of_getElem? (aj8 td hi)
 exact ⟨aS7 this,(List.mem_filter.mp this).2⟩
def a93 (h:Hall) (sh:Int) (ns:List Int) (qs:List (Int × Int)) (kvs:List (List Key × V)) (t:Nat):Prop:=kvs.length ≤ 2 * t ∧ ∀ (s r x:Int),s = 0 ∨ s = 1 → (p7 kvs [.inl s,.inl r,.inl x]).isSome = true → ∃ i,i < t ∧ RI s (qs.map (hv h)) i = r ∧ ((j7 h sh ns i:Nat):Int) = x
theorem av5 {s r x s' r' x':Int} (h:([.inl s,.inl r,.inl x]:List Key) = [.inl s',.inl r',.inl x']):s = s' ∧ r = r' ∧ x = x':=by
 injection h with h1 h2
 injection h2 with h2 h3
 injection h3 with h3 _
 exact ⟨Sum.inl.inj h1,Sum.inl.inj h2,Sum.inl.inj h3⟩
def af0 (K:PySem.W.Frag):Sp:=fun vs H Q _=>∃ (p r l:Addr) (h:Hall) (bs as:List Addr) (ps qs:List (Int × Int)) (ns:List Int) (sh:Int),vs = [.ref p,.ref r,.ref l,.int sh] ∧ SqT K H p (h.row.map V.int) ∧ h.Ok ∧ 0 ≤ sh ∧ H r = some (.lst (bs.map V.ref)) ∧ E4 H bs (F1 h sh ns qs) ∧ Told h sh qs ns ∧ H l = some (.lst (as.map V.ref)) ∧ o6 H as ps ∧ TabOk h ps ∧ qs.Perm ps ∧ qs.Pairwise (fun p p'=>p.1 < p'.1) ∧ ps.length ≤ 59 ∧ ∀ H',i4 H H' → Q (.bl true) H'
section
variable {P:Program} {w:World} {K:PySem.W.Frag} {mg:Str → Option Value} {base:Heap} {C_HallError C_TooFull C_NoTable:Addr}
theorem B7:FnScope ["_law_hall_here","_law_found","_law_table_here","_law_shut","_law_lines","_law_call","_law_entry","_law_front","_law_behind"] ["_law_hall_here","_law_found","_law_table_here","_law_shut"] (d7 (top 42)):=⟨rfl,rfl,rfl,by decide +kernel,rfl,by decide +kernel,by decide +kernel⟩
set_option maxHeartbeats 8000000 in
theorem aw2 (T:Txt K mg) (C__law_whole:Callee P w K mg base 1 "_law_whole" ["_law_found"] (Z3 K)) (D:Def K mg "_law_right" (top 42) ["_law_hall_here","_law_found","_law_table_here","_law_shut"]):Callee P w K mg base 2 "_law_right" ["_law_hall_here","_law_found","_law_table_here","_law_shut"] (af0 K):=by
 refine D.ok B7 (fun vs H Q E h=>?_) (fun f cdv A outer s H vs Q E hr h=>?_)
 ·obtain ⟨p,r,l,h,bs,as,ps,qs,ns,sh,rfl,_⟩:=h
  rfl
 obtain ⟨p,r,l,h,bs,as,ps,qs,ns,sh,rfl,hH,ok,sh0,er,cb,td,el,prs,tok,pm,srt,few,q⟩:=h
 have la:as.length = ps.length:=Paired.length prs
 have lq:qs.length = ps.length:=pm.length_eq
 have lb:bs.length = qs.length:=by
  have:=Paired.length cb
  unfold F1 at this
  rwa [List.length_map,List.length_range] at this
 have hm:=ok.m
 have hc:=ok.c
 have he:=ok.e
 refine ⟨_,(d6 (y8 (PW.pt (M4 (L7 (C0 K (i9 (x5 K) rfl T.m_isinstance boot_isinstance (b7 (pv 1) (b7 (K5 (v:=.ty "list") rfl T.m_list boot_list rfl) d5 b8) b8)) (fun _=>rfl))) (O9 (m7 am6 (i9 (u6 K) rfl T.m_len boot_len (b7 (pv 1) d5 b8)) (i9 (u6 K) rfl T.m_len boot_len (b7 (pv 2) d5 b8)) (n9 _))))) (g6 (j8 J6)) n6)
  (d6 (i7 (i:=4) B7.nd rfl (Or.inl rfl) U8)
  (d6 (y6 PassesOwn.never rfl (aE1 false K rfl T.m_zip (b7 (pv 1) (b7 (i9 (S0 K) rfl T.m_sorted boot_sorted (b7 (pv 2) d5 b8)) d5 m8) b8)) (aJ3 K rfl B7.nd (Nm.mk (i:=5) rfl (Or.inl rfl) (Or.inl rfl)) (Nm.mk (i:=6) rfl (Or.inl rfl) (Or.inl rfl)))
  (d6 (y8 (PW.pt (M4 (L7 (C0 K (i9 (x5 K) rfl T.m_isinstance boot_isinstance (b7 (pv 5) (b7 (K5 (v:=.ty "tuple") rfl T.m_tuple boot_tuple rfl) d5 b8) b8)) (fun _=>rfl))) (M4 (m7 am6 (i9 (u6 K) rfl T.m_len boot_len (b7 (pv 5) d5 b8)) d4 (n9 _)) (O9 (L7 (C0 K (i9 (x5 K) rfl T.m_isinstance boot_isinstance (b7 (h9 (g7 K) (pv 5) d4 (fun _ _=>rfl)) (b7 (K5 (v:=.ty "tuple") rfl T.m_tuple boot_tuple rfl) d5 b8) j6)) (fun _=>rfl))))))) (g6 (j8 J6)) n6)
  (d6 (y8 (PW.pt (M4 (L7 (C0 K (m6 C__law_whole hr rfl (b7 (h9 (g7 K) (pv 5) d4 (fun _ _=>rfl)) d5 j6)) (fun _=>rfl))) (M4 (L7 (C0 K (m6 C__law_whole hr rfl (b7 (h9 (g7 K) (pv 5) d4 (fun _ _=>rfl)) d5 j6)) (fun _=>rfl))) (O9 (m7 (aV3 K (Room.unitsT hr)) (pv 5) (m9 (b7 (h9 (g7 K) (pv 6) d4 (fun _ _=>rfl)) (b7 (m9 (b7 (h9 (g7 K) (pv 6) d4 (fun _ _=>rfl)) d5 j6)) (b7 (h9 (g7 K) (pv 5) d4 (fun _ _=>rfl)) d5 j6) P0) j6)) (n9 _)))))) (g6 (j8 J6)) n6)
  (d6 (y8 (PW.pt (M4 (m7 aX1 (h9 (g7 K) (pv 5) d4 (fun _ _=>rfl)) d4 (n9 _)) (M4 (m7 a72 (h9 (g7 K) (pv 5) d4 (fun _ _=>rfl)) (h9 (g7 K) (pv 0) d4 (fun _ _=>rfl)) (n9 _)) (M4 (m7 S1 (i6 p8 (i6 aw7 (pv 3) (h9 (g7 K) (pv 5) d4 (fun _ _=>rfl))) d4) d4 (n9 _)) (O9 (L7 (C0 K (m6 C__law_whole hr rfl (b7 (h9 (g7 K) (h9 (g7 K) (pv 5) d4 (fun _ _=>rfl)) d4 (fun _ _=>rfl)) d5 j6)) (fun _=>rfl)))))))) (g6 (j8 J6)) n6)
  (d6 (i7 (i:=7) B7.nd rfl (Or.inl rfl) (m9 (b7 d4 (b7 (i6 x6 (h9 (g7 K) (pv 6) d4 (fun _ _=>rfl)) (h9 (g7 K) (pv 0) d4 (fun _ _=>rfl))) (b7 (h9 (g7 K) (pv 5) d4 (fun _ _=>rfl)) d5 j6) r6) i0)))
  (d6 (i7 (i:=8) B7.nd rfl (Or.inl rfl) (m9 (b7 d4 (b7 (i6 x6 (h9 (g7 K) (pv 6) d4 (fun _ _=>rfl)) (h9 (g7 K) (pv 0) d4 (fun _ _=>rfl))) (b7 (h9 (g7 K) (pv 5) d4 (fun _ _=>rfl)) d5 j6) r6) i0)))
  (d6 (y8 (PW.pt (M4 (V9 (V5 (A1 hr) (pv 7) (pv 4))) (O9 (V9 (V5 (A1 hr) (pv 8) (pv 4)))))) (g6 (j8 J6)) n6)
  (d6 (K2 (A1 hr) (pv 4) (pv 7) J6 rfl)
  (g6 (K2 (A1 hr) (pv 4) (pv 8) J6 rfl))))))))))
  (g6 (j8 J6))))),?_⟩
 refine ⟨_,rfl,_,_,_,true,rfl,.lst er,ap5,true,rfl,D9 ?_⟩
 refine ⟨_,rfl,r,_,rfl,.inl (SqL.of er),_,rfl,l,_,rfl,.inl (SqL.of el),rfl,_,rfl,az6 (by simp; lia) ?_⟩
 refine fun d hd=>?_
 have s1:=d8 hd (.dT [])
 have ed:=b9 (H:=H) (a:=d) (o:=.dT [])
 generalize upd H d (.dT []) = H1 at s1 ed ⊢
 refine ⟨_,rfl,_,rfl,?_⟩
 dsimp -proj only [V4]
 refine ab3 (s1 _ _ el) (prs.same s1) (by lia) tok.n1 fun l2 as2 qs2 hl2 prs2 pm2 srt2=>?_
 obtain rfl:qs2 = qs:=aK3 (pm2.trans pm.symm) srt2 srt
 have s2':=d8 hl2 (.lst (as2.map V.ref))
 have el2:=b9 (H:=H1) (a:=l2) (o:=.lst (as2.map V.ref))
 generalize upd H1 l2 (.lst (as2.map V.ref)) = H2 at s2' el2 ⊢
 have s2:=s1.trans s2'
 have ed2:=s2' _ _ ed
 have pr2:o6 H2 as2 qs2:=prs2.same s2'
 have la2:as2.length = qs2.length:=Paired.length prs2
 have cb2:E4 H2 bs (F1 h sh ns qs2):=cb.mono fun a xs z=>s2 _ _ z
 have ndl:l2 ≠ d:=fun z=>by rw [z,ed2] at el2; cases el2
 have ndr:r ≠ d:=fun z=>by have:=s1 _ _ er; rw [z,ed] at this; cases this
 have hd2:H d = none:=hd
 refine ⟨r,l2,bs.map V.ref,as2.map V.ref,rfl,SqL.of (s2 _ _ er),SqL.of el2,?_⟩
 refine aT0 (b:=false) (xs:=bs.map V.ref) (ys:=as2.map V.ref) (fun i σ G=>O3 d H2 G ∧ (∃ kvs,G d = some (.dT kvs) ∧ a93 h sh ns qs2 kvs i) ∧ ∃ v5 v6 v7 v8,σ = [some (.ref p),some (.ref r),some (.ref l),some (.int sh),some (.ref d),v5,v6,v7,v8]) (by rw [List.length_map,List.length_map]; lia)
  ⟨fun b u _ z=>z,⟨[],ed2,Nat.zero_le _,fun s r x _ z=>nomatch z⟩,none,none,none,none,rfl⟩ (fun i σ G _ g=>⟨SqL.of (g.1 _ _ ndr (s2 _ _ er)),SqL.of (g.1 _ _ ndl el2)⟩) ?_ ?_
 ·rintro i x y σ G tz hx hy ⟨sG,⟨kvs,ek,few2,seen⟩,v5,v6,v7,v8,rfl⟩ htz
  rw [List.getElem?_map] at hx hy
  obtain ⟨ca,hca,rfl⟩:=Option.map_eq_some_iff.mp hx
  obtain ⟨ta,hta,rfl⟩:=Option.map_eq_some_iff.mp hy
  obtain ⟨pp,hpp,pa⟩:=p4 pr2 i ta hta
  obtain ⟨dd,hdd,te,c1,c2⟩:=p4 cb2 i ca hca
  have hi:=(List.getElem?_eq_some_iff.mp hpp).1
  have edd:dd = (pp.1,pp.2,((j7 h sh ns i:Nat):Int)):=by
   unfold F1 at hdd
   rw [List.getElem?_map,List.getElem?_range hi] at hdd
   have:=Option.some.inj hdd
   rw [← this]
   unfold aM1 j7
   rw [List.getD,hpp]
   rfl
  rw [edd] at c1 c2
  have r0:RI 0 (qs2.map (hv h)) i = pp.1 / h.c:=L9 (p:=hv h pp) (by rw [List.getElem?_map,hpp]; rfl)
  have r1:RI 1 (qs2.map (hv h)) i = pp.2 / h.e:=L9 (p:=hv h pp) (by rw [List.getElem?_map,hpp]; rfl)
  obtain ⟨ro1,ro2⟩:=ah0 td hi
  have tupG:∀ b xs,H2 b = some (.tup xs) → G b = some (.tup xs):=fun b xs z=>sG b _ (fun y=>by rw [y,ed2] at z; cases z) z
  have u1:=d8 htz (.tup [.ref ca,.ref ta])
  have etz:=b9 (H:=G) (a:=tz) (o:=.tup [.ref ca,.ref ta])
  have ek1:=u1 _ _ ek
  have c11:=u1 _ _ (tupG _ _ c1)
  have c21:=u1 _ _ (tupG _ _ c2)
  have pa1:=u1 _ _ (tupG _ _ pa)
  have hH1:SqT K (upd G tz (.tup [.ref ca,.ref ta])) p (h.row.map V.int):=by
   refine i4.seqT u1 ?_
   rcases i4.seqT s2 hH with (z | ⟨o,z⟩) | z
   ·exact .inl (.inl (tupG _ _ z))
   ·exact .inl (.inr ⟨o,sG _ _ (fun y=>by rw [y,ed2] at z; cases z) z⟩)
   ·exact .inr z
  have sG1:O3 d H2 (upd G tz (.tup [.ref ca,.ref ta])):=fun b u nb z=>u1 _ _ (sG b u nb z)
  generalize upd G tz (.tup [.ref ca,.ref ta]) = G1 at u1 etz ek1 c11 c21 pa1 hH1 sG1 ⊢
  have no0:p7 kvs [.inl 0,.inl (pp.1 / h.c),.inl ((j7 h sh ns i:Nat):Int)] = none:=by
   cases z:p7 kvs [.inl 0,.inl (pp.1 / h.c),.inl ((j7 h sh ns i:Nat):Int)] with
   | none=>rfl
   | some v =>
    obtain ⟨j,j1,j2,j3⟩:=seen 0 _ _ (.inl rfl) (by rw [z]; rfl)
    have:=td.num.p0 j i (by lia) hi (T9 td (by lia) hi (by lia)) (by rw [j2,r0])
    lia
  have no1:p7 kvs [.inl 1,.inl (pp.2 / h.e),.inl ((j7 h sh ns i:Nat):Int)] = none:=by
   cases z:p7 kvs [.inl 1,.inl (pp.2 / h.e),.inl ((j7 h sh ns i:Nat):Int)] with
   | none=>rfl
   | some v =>
    obtain ⟨j,j1,j2,j3⟩:=seen 1 _ _ (.inr rfl) (by rw [z]; rfl)
    have:=td.num.p1 j i (by lia) hi (T9 td (by lia) hi (by lia)) (by rw [j2,r1])
    lia
  refine ⟨tz,[.ref ca,.ref ta],rfl,SqT.of etz,rfl,.ref ca,[.ref ta],rfl,.ref ta,[],rfl,rfl,?_⟩
  refine ⟨_,rfl,_,_,_,true,rfl,.tup c21,P5,true,rfl,D9 ?_⟩
  refine ⟨_,rfl,ca,_,rfl,.inr (SqT.of c21),rfl,_,rfl,az6 (by simp) ?_⟩
  refine ⟨_,rfl,ca,_,_,_,rfl,rfl,SqT.of c21,rfl,_,_,_,true,rfl,.tup c11,P5,true,rfl,D9 ?_⟩
  refine ⟨_,rfl,ca,_,_,_,rfl,rfl,SqT.of c21,rfl,.int _,rfl,.int _,_,rfl,D9 ?_⟩
  refine ⟨_,rfl,ca,_,_,_,rfl,rfl,SqT.of c21,rfl,.int _,rfl,.int _,_,rfl,D9 ?_⟩
  refine ⟨_,rfl,_,rfl,ta,_,_,_,rfl,rfl,SqT.of pa1,rfl,_,rfl,ta,_,_,_,rfl,rfl,SqT.of pa1,rfl,(by show 1 ≤ sizeLine; decide),fun t1 ht1=>?_⟩
  have u2:=d8 ht1 (.tup [.int pp.2])
  have et1:=b9 (H:=G1) (a:=t1) (o:=.tup [.int pp.2])
  generalize upd G1 t1 (.tup [.int pp.2]) = G2 at u2 et1 ⊢
  refine ⟨_,rfl,ca,_,_,_,rfl,rfl,SqT.of (u2 _ _ c21),rfl,(by show 3 ≤ sizeLine; decide),fun t2 ht2=>?_⟩
  have u3':=d8 ht2 (.tup [.int pp.1,.ref t1,.int ((j7 h sh ns i:Nat):Int)])
  have et2:=b9 (H:=G2) (a:=t2) (o:=.tup [.int pp.1,.ref t1,.int ((j7 h sh ns i:Nat):Int)])
  have et13:=u3' _ _ et1
  have u3:=u2.trans u3'
  generalize upd G2 t2 (.tup [.int pp.1,.ref t1,.int ((j7 h sh ns i:Nat):Int)]) = G3 at u3 et2 et13 ⊢
  refine ⟨(pp.1,[pp.2],((j7 h sh ns i:Nat):Int)),(pp.1,[pp.2],((j7 h sh ns i:Nat):Int)),⟨ca,te,rfl,SqT.of (u3 _ _ c21),SqT.of (u3 _ _ c11)⟩,⟨t2,t1,rfl,SqT.of et2,SqT.of et13⟩,_,rfl,az6 (by simp) ?_⟩
  have c23:=u3 _ _ c21
  have c13:=u3 _ _ c11
  have pa3:=u3 _ _ pa1
  have hH3:=i4.seqT u3 hH1
  have ek3:=u3 _ _ ek1
  have sG3:O3 d H2 G3:=fun b u nb z=>u3 _ _ (sG1 b u nb z)
  refine ⟨_,rfl,ca,_,_,_,rfl,rfl,SqT.of c23,rfl,_,_,rfl,rfl,_,rfl,az6 (by simp) ?_⟩
  refine ⟨_,rfl,ca,_,_,_,rfl,rfl,SqT.of c23,rfl,_,rfl,p,_,_,_,rfl,rfl,hH3,rfl,_,_,rfl,rfl,_,rfl,az6 (by simp; show ((j7 h sh ns i:Nat):Int) < h.m; lia) ?_⟩
  refine ⟨_,rfl,_,rfl,ca,_,_,_,rfl,rfl,SqT.of c23,rfl,_,_,rfl,rfl,(by show (0:Int) ≤ ((j7 h sh ns i:Nat):Int); lia),_,_,rfl,rfl,(by show (0:Int) < 2; decide),rfl,_,rfl,az6 ?_ ?_⟩
  ·have:=at9 sh0 (j7 h sh ns i)
   rw [ro2] at this
   have z:=of_decide_eq_true this.symm
   intro y
   have y':sh / 2 ^ ((j7 h sh ns i:Nat):Int).toNat % 2 = 1:=V.int.inj (of_decide_eq_true y)
   rw [Int.toNat_natCast] at y'
   lia
  refine ⟨_,rfl,ca,_,_,_,rfl,rfl,SqT.of c23,rfl,te,_,_,_,rfl,rfl,SqT.of c13,rfl,.int _,rfl,.int _,_,rfl,D9 ?_⟩
  refine ⟨_,rfl,ta,_,_,_,rfl,rfl,SqT.of pa3,rfl,_,rfl,p,_,_,_,rfl,rfl,hH3,rfl,_,_,rfl,rfl,⟨by show 0 < h.c; lia,by show h.c < 1073741824; lia⟩,_,rfl,ca,_,_,_,rfl,rfl,SqT.of c23,rfl,(by show 3 ≤ sizeLine; decide),fun k1 hk1=>?_⟩
  have u4:=d8 hk1 (.tup [.int 0,.int (pp.1 / h.c),.int ((j7 h sh ns i:Nat):Int)])
  have e4:=b9 (H:=G3) (a:=k1) (o:=.tup [.int 0,.int (pp.1 / h.c),.int ((j7 h sh ns i:Nat):Int)])
  generalize upd G3 k1 (.tup [.int 0,.int (pp.1 / h.c),.int ((j7 h sh ns i:Nat):Int)]) = G4 at u4 e4 ⊢
  refine ⟨_,rfl,ta,_,_,_,rfl,rfl,SqT.of (u4 _ _ pa3),rfl,_,rfl,p,_,_,_,rfl,rfl,i4.seqT u4 hH3,rfl,_,_,rfl,rfl,⟨by show 0 < h.e; lia,by show h.e < 1073741824; lia⟩,_,rfl,ca,_,_,_,rfl,rfl,SqT.of (u4 _ _ c23),rfl,(by show 3 ≤ sizeLine; decide),fun k2 hk2=>?_⟩
  have u5:=d8 hk2 (.tup [.int 1,.int (pp.2 / h.e),.int ((j7 h sh ns i:Nat):Int)])
  have e5:=b9 (H:=G4) (a:=k2) (o:=.tup [.int 1,.int (pp.2 / h.e),.int ((j7 h sh ns i:Nat):Int)])
  have e45:=u5 _ _ e4
  have ek5:=u5 _ _ (u4 _ _ ek3)
  generalize upd G4 k2 (.tup [.int 1,.int (pp.2 / h.e),.int ((j7 h sh ns i:Nat):Int)]) = G5 at u5 e5 e45 ek5 ⊢
  have sG5:O3 d H2 G5:=fun b u nb z=>u5 _ _ (u4 _ _ (sG3 b u nb z))
  refine ⟨_,rfl,_,rfl,d,_,rfl,E3.t (k:=[.inl 0,.inl (pp.1 / h.c),.inl ((j7 h sh ns i:Nat):Int)]) ek5 e45,_,rfl,?_⟩
  rw [no0]
  refine D9 ⟨_,rfl,_,rfl,d,_,rfl,E3.t (k:=[.inl 1,.inl (pp.2 / h.e),.inl ((j7 h sh ns i:Nat):Int)]) ek5 e5,_,rfl,?_⟩
  rw [no1]
  refine D9 ?_
  refine ⟨_,rfl,_,rfl,d,_,rfl,S2.t (k:=[.inl 0,.inl (pp.1 / h.c),.inl ((j7 h sh ns i:Nat):Int)]) ek5 e45 (m3 (by lia)),?_⟩
  have nk2:k2 ≠ d:=fun z=>by rw [z,ek5] at e5; cases e5
  have e56:upd G5 d (.dT (A0 kvs [.inl 0,.inl (pp.1 / h.c),.inl ((j7 h sh ns i:Nat):Int)] (.bl true))) k2 = some (.tup [.int 1,.int (pp.2 / h.e),.int ((j7 h sh ns i:Nat):Int)]):=by rw [d9 nk2]; exact e5
  have ek6:=b9 (H:=G5) (a:=d) (o:=.dT (A0 kvs [.inl 0,.inl (pp.1 / h.c),.inl ((j7 h sh ns i:Nat):Int)] (.bl true)))
  have sG6:O3 d H2 (upd G5 d (.dT (A0 kvs [.inl 0,.inl (pp.1 / h.c),.inl ((j7 h sh ns i:Nat):Int)] (.bl true)))):=fun b u nb z=>by rw [d9 nb]; exact sG5 b u nb z
  generalize upd G5 d (.dT (A0 kvs [.inl 0,.inl (pp.1 / h.c),.inl ((j7 h sh ns i:Nat):Int)] (.bl true))) = G6 at e56 ek6 sG6 ⊢
  have pl1:(A0 kvs [.inl 0,.inl (pp.1 / h.c),.inl ((j7 h sh ns i:Nat):Int)] (V.bl true)).length ≤ kvs.length + 1:=A2 ..
  refine ⟨_,rfl,_,rfl,d,_,rfl,S2.t (k:=[.inl 1,.inl (pp.2 / h.e),.inl ((j7 h sh ns i:Nat):Int)]) ek6 e56 (m3 (by lia)),?_⟩
  refine ⟨fun b u nb z=>by rw [d9 nb]; exact sG6 b u nb z,⟨_,b9,Nat.le_trans (A2 ..) (by lia),fun s r' x hs z=>?_⟩,_,_,_,_,rfl⟩
  rw [P8,P8] at z
  by_cases y1:([.inl s,.inl r',.inl x]:List Key) = [.inl 1,.inl (pp.2 / h.e),.inl ((j7 h sh ns i:Nat):Int)]
  ·obtain ⟨rfl,rfl,rfl⟩:=av5 y1
   exact ⟨i,by lia,r1,rfl⟩
  ·rw [if_neg y1] at z
   by_cases y0:([.inl s,.inl r',.inl x]:List Key) = [.inl 0,.inl (pp.1 / h.c),.inl ((j7 h sh ns i:Nat):Int)]
   ·obtain ⟨rfl,rfl,rfl⟩:=av5 y0
    exact ⟨i,by lia,r0,rfl⟩
   ·rw [if_neg y0] at z
    obtain ⟨j,j1,j2,j3⟩:=seen s r' x hs z
    exact ⟨j,by lia,j2,j3⟩
 ·rintro σ G ⟨sG,⟨kvs,ek,seen⟩,v5,v6,v7,v8,rfl⟩
  exact q G fun b u z=>sG b u (g9 z hd) (s2 _ _ z)
end
def B5 (h:Hall) (es:List Int):List Int:=A7 (es.map fun e=>e / h.e)
def aC8 (K:PySem.W.Frag):Sp:=fun vs H Q _=>∃ (a p:Addr) (h:Hall) (es:List Int),vs = [.ref a,.ref p] ∧ SqT K H a (h.row.map V.int) ∧ h.Ok ∧ (SqT K H p (es.map V.int) ∨ SqL K H p (es.map V.int)) ∧ es.length < 64 ∧ ∀ (l:Addr) (H':Hp),i4 H H' → H l = none → H' l = some (.lst ((B5 h es).map V.int)) → Q (.ref l) H'
section
variable {P:Program} {w:World} {K:PySem.W.Frag} {mg:Str → Option Value} {base:Heap}
theorem ap4:FnScope ["hall","ends"] ["hall","ends"] (d7 (top 9)):=⟨rfl,rfl,rfl,by decide +kernel,rfl,by decide +kernel,by decide +kernel⟩
theorem aQ0 (T:Txt K mg) (C_place_out:Callee P w K mg base 1 "place_out" ["hall","end"] (N3 K Hall.e)) (D:Def K mg "racks_of" (top 9) ["hall","ends"]):Callee P w K mg base 2 "racks_of" ["hall","ends"] (aC8 K):=by
 refine D.ok ap4 (fun vs H Q E h=>?_) (fun f cdv A outer s H vs Q E hr h=>?_)
 ·obtain ⟨a,p,h,es,rfl,_⟩:=h
  rfl
 obtain ⟨a,p,h,es,rfl,hH,ok,hS,h64,q⟩:=h
 have hl:(es.map V.int).length = es.length:=List.length_map _
 have sz:(es.map V.int).length ≤ sizeLine:=by rw [hl]; exact Nat.le_of_lt (m3 (by lia))
 have fin:∀ (H':Hp),i4 H H' → ∀ l,H' l = none → aX4 K P w [.ref l] (upd H' l (.lst ((es.take (es.map V.int).length).map fun e=>V.int (e / h.e)))) fun x H1=>ar8 P w [x] H1 Q:=fun H' s1 l hl'=>by
  rw [hl,List.take_length]
  have e1:upd H' l (.lst (es.map fun e=>V.int (e / h.e))) l = some (.lst ((es.map fun e=>e / h.e).map V.int)):=by rw [b9,List.map_map]; rfl
  have s2:=s1.trans (d8 hl' (.lst (es.map fun e=>V.int (e / h.e))))
  generalize upd H' l (.lst (es.map fun e=>V.int (e / h.e))) = H2 at e1 s2 ⊢
  refine ⟨l,_,rfl,SqL.of e1,by rw [List.length_map]; lia,fun l2 hl2=>?_⟩
  refine ⟨l2,_,rfl,b9,by rw [List.length_map]; lia,fun l3 hl3=>?_⟩
  exact q l3 _ ((s2.trans (d8 hl2 _)).trans (d8 hl3 _)) ((s2.trans (d8 hl2 _)).free hl3) b9
 rcases hS with hS | hS
 ·refine ⟨_,(g6 (j8 (i9 (R7 P w rfl) rfl T.m_sorted boot_sorted (b7 (w4 (ag4 K P w rfl) rfl T.m_set boot_set (b7 (N8 (own:=["end"]) (fr:=[(0,"hall")]) rfl (show CompScope ["hall","ends"] (d7 (top 9)) _ _ _ from ⟨rfl,by decide +kernel,by decide +kernel,by decide +kernel,by decide +kernel⟩) (Z6 K (pv 1)) (fun cl C s H ex=>⟨(o9 (i:=0) (show (["end","hall"]:List Str).Nodup from by decide +kernel) rfl (Or.inl rfl) (Or.inr rfl)),U2,(h9 (g7 K) (m6 C_place_out hr rfl (b7 (pv 1) (b7 (pv 0) d5 b8) b8)) d4 (fun _ _=>rfl))⟩)) d5 Z5)) d5 m8)))),?_⟩
  refine ⟨_,rfl,p,rfl,⟨_,hS⟩,?_⟩
  refine au4 (xs:=es.map V.int) (fun i acc σ H'=>i4 H H' ∧ acc = (es.take i).map (fun e=>V.int (e / h.e)) ∧ ∃ v,σ = [v,some (.ref a)])
   ⟨i4.refl H,rfl,none,rfl⟩ sz (fun i acc σ H' g=>?_) (fun i acc σ H' _ g=>i4.seqT g.1 hS) ?_ ?_
  ·obtain ⟨_,rfl,_⟩:=g
   rw [List.length_map,List.length_take]
   lia
  ·rintro i y acc σ H' hy ⟨s1,rfl,v,rfl⟩
   rw [List.getElem?_map] at hy
   obtain ⟨e,he,rfl⟩:=Option.map_eq_some_iff.mp hy
   refine ⟨_,rfl,_,rfl,a,h,e,rfl,i4.seqT s1 hH,ok,fun r hr2=>⟨r,_,_,_,rfl,rfl,SqT.of b9,rfl,s1.trans (d8 hr2 _),?_,_,rfl⟩⟩
   rw [List.take_succ,he,List.map_append]
   rfl
  ·rintro acc σ H' ⟨s1,rfl,v,rfl⟩ l hl'
   exact fin H' s1 l hl'
 ·refine ⟨_,(g6 (j8 (i9 (R7 P w rfl) rfl T.m_sorted boot_sorted (b7 (w4 (ag4 K P w rfl) rfl T.m_set boot_set (b7 (N8 (own:=["end"]) (fr:=[(0,"hall")]) rfl (show CompScope ["hall","ends"] (d7 (top 9)) _ _ _ from ⟨rfl,by decide +kernel,by decide +kernel,by decide +kernel,by decide +kernel⟩) (z9 K (pv 1)) (fun cl C s H ex=>⟨(o9 (i:=0) (show (["end","hall"]:List Str).Nodup from by decide +kernel) rfl (Or.inl rfl) (Or.inr rfl)),U2,(h9 (g7 K) (m6 C_place_out hr rfl (b7 (pv 1) (b7 (pv 0) d5 b8) b8)) d4 (fun _ _=>rfl))⟩)) d5 Z5)) d5 m8)))),?_⟩
  refine ⟨_,rfl,p,rfl,⟨_,hS⟩,?_⟩
  refine af8 (xs:=es.map V.int) (fun i acc σ H'=>i4 H H' ∧ acc = (es.take i).map (fun e=>V.int (e / h.e)) ∧ ∃ v,σ = [v,some (.ref a)])
   ⟨i4.refl H,rfl,none,rfl⟩ sz (fun i acc σ H' g=>?_) (fun i acc σ H' _ g=>g.1.seq hS) ?_ ?_
  ·obtain ⟨_,rfl,_⟩:=g
   rw [List.length_map,List.length_take]
   lia
  ·rintro i y acc σ H' hy ⟨s1,rfl,v,rfl⟩
   rw [List.getElem?_map] at hy
   obtain ⟨e,he,rfl⟩:=Option.map_eq_some_iff.mp hy
   refine ⟨_,rfl,_,rfl,a,h,e,rfl,i4.seqT s1 hH,ok,fun r hr2=>⟨r,_,_,_,rfl,rfl,SqT.of b9,rfl,s1.trans (d8 hr2 _),?_,_,rfl⟩⟩
   rw [List.take_succ,he,List.map_append]
   rfl
  ·rintro acc σ H' ⟨s1,rfl,v,rfl⟩ l hl'
   exact fin H' s1 l hl'
end
structure Call where
 c:Int
 es:List Int
 k:Int
structure Call.In (k:Call) (h:Hall):Prop where
 c:0 ≤ k.c ∧ k.c < h.i * h.c
 rise:k.es.Pairwise (· < ·)
 es:∀ e ∈ k.es,0 ≤ e ∧ e < h.o * h.e
 some:k.es ≠ []
 few:k.es.length ≤ 9
 k:0 ≤ k.k ∧ k.k < h.m
theorem ag1 (h:Hall) (es:List Int):(B5 h es).length ≤ es.length:=by
 have:=ah7 (es.map fun e=>e / h.e)
 rw [List.length_map] at this
 exact this
def ay6 (h:Hall) (k:Call):List Int:=[0,k.c / h.c,k.c % h.c,k.k]
def aA2 (h:Hall) (k:Call) (r:Int):List Int:=[1,k.k,k.c / h.c,r]
def aI5 (h:Hall) (k:Call) (e:Int):List Int:=[2,e / h.e,k.k,e % h.e]
def F6 (h:Hall) (k:Call):List (List Int):=ay6 h k :: ((B5 h k.es).map (aA2 h k) ++ k.es.map (aI5 h k))
theorem aZ1 {a b c d:Int} (ha:0 ≤ a ∧ a < 1000) (hb:0 ≤ b ∧ b < 1000) (hc:0 ≤ c ∧ c < 1000) (hd:0 ≤ d ∧ d < 1000):([a,b,c,d]:List Int).length = 4 ∧ Few [a,b,c,d]:=⟨rfl,fun x hx=>by
 simp only [List.mem_cons,List.not_mem_nil,or_false] at hx
 rcases hx with rfl | rfl | rfl | rfl
 ·exact ha
 ·exact hb
 ·exact hc
 ·exact hd⟩
theorem ac8 {x m:Int} (d:Int) (hx:0 ≤ x ∧ x < m) (hm:m ≤ 144) (hd:1 ≤ d):0 ≤ x / d ∧ x / d < 1000:=by
 have h1:=Int.ediv_nonneg hx.1 (show 0 ≤ d by lia)
 have h2:x / d ≤ x:=Int.ediv_le_self d hx.1
 lia
theorem aD0 {x d:Int} (hd:1 ≤ d ∧ d ≤ 12):0 ≤ x % d ∧ x % d < 1000:=by
 have h1:=Int.emod_nonneg x (show d ≠ 0 by lia)
 have h2:=Int.emod_lt_of_pos x (show 0 < d by lia)
 lia
theorem aa8 {h:Hall} {k:Call} (ok:h.Ok) (hk:k.In h):∀ d ∈ F6 h k,d.length = 4 ∧ Few d:=fun d hd=>by
 have b1:=ok.ic
 have b2:=ok.oe
 have b3:=ok.m
 have b4:=ok.c
 have b5:=ok.e
 have k1:=hk.c
 have k3:=hk.k
 unfold F6 at hd
 rcases List.mem_cons.mp hd with rfl | hd
 ·exact aZ1 ⟨by decide,by decide⟩ (ac8 _ k1 b1.2 b4.1) (aD0 b4) ⟨by lia,by lia⟩
 rcases List.mem_append.mp hd with hd | hd
 ·obtain ⟨r,hr,rfl⟩:=List.mem_map.mp hd
  obtain ⟨e,he,rfl⟩:=List.mem_map.mp ((J3 _ _).mp hr)
  exact aZ1 ⟨by decide,by decide⟩ ⟨by lia,by lia⟩ (ac8 _ k1 b1.2 b4.1) (ac8 _ (hk.es e he) b2.2 b5.1)
 ·obtain ⟨e,he,rfl⟩:=List.mem_map.mp hd
  exact aZ1 ⟨by decide,by decide⟩ (ac8 _ (hk.es e he) b2.2 b5.1) ⟨by lia,by lia⟩ (aD0 b5)
def P6 (H:Hp) (as:List Addr) (ds:List (List Int)):Prop:=Paired (fun a d=>H a = some (.tup (d.map V.int))) as ds
def Bag (H:Hp) (l:Addr) (ds:List (List Int)):Prop:=∃ as:List Addr,H l = some (.lst (as.map V.ref)) ∧ P6 H as ds
theorem P6.same {H H':Hp} {as:List Addr} {ds:List (List Int)} (s:∀ b xs,H b = some (.tup xs) → H' b = some (.tup xs)) (h:P6 H as ds):P6 H' as ds:=by
 unfold P6 at h ⊢
 exact N7 h fun a d _ e=>s _ _ e
theorem Bag.push {H:Hp} {l p:Addr} {as:List Addr} {ds:List (List Int)} {d:List Int} (e:H l = some (.lst (as.map V.ref))) (h:P6 H as ds) (hp:H p = none) :
  Bag (upd (upd H p (.tup (d.map V.int))) l (.lst (as.map V.ref ++ [.ref p]))) l (ds ++ [d]):=by
 have hpl:p ≠ l:=fun z=>by rw [z,e] at hp; cases hp
 refine ⟨as ++ [p],by rw [b9,List.map_append]; rfl,Paired.snoc (P6.same (fun b xs hb=>?_) h) ?_⟩
 ·have hbl:b ≠ l:=fun z=>by rw [z,e] at hb; cases hb
  rw [d9 hbl,d9 (g9 hb hp)]
  exact hb
 ·show upd _ l _ p = _
  rw [d9 hpl,b9]
theorem P6.data {K:PySem.W.Frag} {H:Hp} {as:List Addr} {ds:List (List Int)} (h:P6 H as ds):aA1 K H as ds:=by
 unfold P6 at h
 unfold aA1
 exact N7 h fun a d _ e=>SqT.of e
def aL8 (K:PySem.W.Frag):Sp:=fun vs H Q _=>∃ (a p e:Addr) (h:Hall) (k:Call),vs = [.ref a,.ref p] ∧ SqT K H a (h.row.map V.int) ∧ h.Ok ∧ H e = some (.tup (k.es.map V.int)) ∧ H p = some (.tup [.int k.c,.ref e,.int k.k]) ∧ k.In h ∧
 ∀ (l:Addr) (as:List Addr) (ds:List (List Int)) (H':Hp),i4 H H' → H' l = some (.lst (as.map V.ref)) → P6 H' as ds → ds.Perm (F6 h k) → ds.Pairwise (fun a b=>enc a ≤ enc b) → Q (.ref l) H'
section
variable {P:Program} {w:World} {K:PySem.W.Frag} {mg:Str → Option Value} {base:Heap}
theorem aM5 {h:Hall} {k:Call} (hk:k.In h):(F6 h k).length ≤ 19:=by
 have h1:=ag1 h k.es
 have h2:=hk.few
 show ((B5 h k.es).map (aA2 h k) ++ k.es.map (aI5 h k)).length + 1 ≤ 19
 rw [List.length_append,List.length_map,List.length_map]
 lia
theorem C5:FnScope ["hall","call","k","start","bars","rack","end","goal"] ["hall","call"] (d7 (top 31)):=⟨rfl,rfl,rfl,by decide +kernel,rfl,by decide +kernel,by decide +kernel⟩
theorem ax7 (T:Txt K mg) (C_place_in:Callee P w K mg base 1 "place_in" ["hall","caller"] (N3 K Hall.c)) (C_place_out:Callee P w K mg base 1 "place_out" ["hall","end"] (N3 K Hall.e)) (C_racks_of:Callee P w K mg base 2 "racks_of" ["hall","ends"] (aC8 K)) (D:Def K mg "bars_of" (top 31) ["hall","call"]):Callee P w K mg base 3 "bars_of" ["hall","call"] (aL8 K):=by
 refine D.ok C5 (fun vs H Q E h=>?_) (fun f cdv A outer s H vs Q E hr h=>?_)
 ·obtain ⟨a,p,e,h,k,rfl,_⟩:=h
  rfl
 obtain ⟨a,p,e,h,k,rfl,hH,ok,ee,ep,hk,q⟩:=h
 have hS:SqT K H p [.int k.c,.ref e,.int k.k]:=SqT.of ep
 have hlen:=aM5 hk
 have few:=hk.few
 have rl:=ag1 h k.es
 refine ⟨_,(d6 (i7 (i:=2) C5.nd rfl (Or.inl rfl) (h9 (g7 K) (pv 1) d4 (fun _ _=>rfl)))
  (d6 (i7 (i:=3) C5.nd rfl (Or.inl rfl) (m6 C_place_in hr rfl (b7 (pv 0) (b7 (h9 (g7 K) (pv 1) d4 (fun _ _=>rfl)) d5 j6) b8)))
  (d6 (i7 (i:=4) C5.nd rfl (Or.inl rfl) (C4 (b7 (m9 (b7 d4 (b7 (h9 (g7 K) (pv 3) d4 (fun _ _=>rfl)) (b7 (h9 (g7 K) (pv 3) d4 (fun _ _=>rfl)) (b7 (pv 2) d5 b8) j6) j6) i0)) d5 P0)))
  (d6 (y6 PassesOwn.never rfl (z9 K (m6 C_racks_of hr rfl (b7 (pv 0) (b7 (h9 (g7 K) (pv 1) d4 (fun _ _=>rfl)) d5 j6) b8))) (o9 (i:=5) C5.nd rfl (Or.inl rfl))
  (g6 (A6 (K8 K PySem.F.plainAttrs_list PySem.F.slot_list_append PySem.F.type_list_append D8 (pv 4) (b7 (m9 (b7 d4 (b7 (pv 2) (b7 (h9 (g7 K) (pv 3) d4 (fun _ _=>rfl)) (b7 (pv 5) d5 b8) j6) b8) i0)) d5 P0)))))
  (d6 (y6 PassesOwn.never rfl (Z6 K (h9 (g7 K) (pv 1) d4 (fun _ _=>rfl))) (o9 (i:=6) C5.nd rfl (Or.inl rfl))
  (d6 (i7 (i:=7) C5.nd rfl (Or.inl rfl) (m6 C_place_out hr rfl (b7 (pv 0) (b7 (pv 6) d5 b8) b8)))
  (g6 (A6 (K8 K PySem.F.plainAttrs_list PySem.F.slot_list_append PySem.F.type_list_append D8 (pv 4) (b7 (m9 (b7 d4 (b7 (h9 (g7 K) (pv 7) d4 (fun _ _=>rfl)) (b7 (pv 2) (b7 (h9 (g7 K) (pv 7) d4 (fun _ _=>rfl)) d5 j6) b8) j6) i0)) d5 P0))))))
  (g6 (j8 (i9 (ae0 K) rfl T.m_sorted boot_sorted (b7 (pv 4) d5 b8))))))))),?_⟩
 refine ⟨_,rfl,p,_,_,_,rfl,rfl,hS,rfl,?_⟩
 refine ⟨_,rfl,_,rfl,p,_,_,_,rfl,rfl,hS,rfl,a,h,k.c,rfl,hH,ok,fun g hg=>?_⟩
 have eg:=b9 (H:=H) (a:=g) (o:=.tup [.int (k.c / h.c),.int (k.c % h.c)])
 have s1:=d8 hg (.tup [.int (k.c / h.c),.int (k.c % h.c)])
 generalize upd H g (.tup [.int (k.c / h.c),.int (k.c % h.c)]) = H1 at eg s1 ⊢
 have hG:SqT K H1 g [.int (k.c / h.c),.int (k.c % h.c)]:=SqT.of eg
 refine ⟨_,rfl,g,_,_,_,rfl,rfl,hG,rfl,_,rfl,g,_,_,_,rfl,rfl,hG,rfl,_,rfl,(by show 4 ≤ sizeLine; decide),fun t ht=>?_⟩
 have et:=b9 (H:=H1) (a:=t) (o:=.tup [.int 0,.int (k.c / h.c),.int (k.c % h.c),.int k.k])
 have s2:=s1.trans (d8 ht (.tup [.int 0,.int (k.c / h.c),.int (k.c % h.c),.int k.k]))
 have sg2:=d8 ht (.tup [.int 0,.int (k.c / h.c),.int (k.c % h.c),.int k.k]) _ _ eg
 generalize upd H1 t (.tup [.int 0,.int (k.c / h.c),.int (k.c % h.c),.int k.k]) = H2 at et s2 sg2 ⊢
 refine ⟨(by show 1 ≤ sizeLine; decide),fun l hl=>?_⟩
 have el:=b9 (H:=H2) (a:=l) (o:=.lst [.ref t])
 have s3:=d8 hl (.lst [.ref t])
 have bag0:Bag (upd H2 l (.lst [.ref t])) l [ay6 h k]:=⟨[t],el,.cons (s3 _ _ et) .nil⟩
 generalize upd H2 l (.lst [.ref t]) = H3 at el s3 bag0 ⊢
 have hS3:SqT K H3 p [.int k.c,.ref e,.int k.k]:=SqT.of (s3 _ _ (s2 _ _ ep))
 refine ⟨_,rfl,_,rfl,p,_,_,_,rfl,rfl,hS3,rfl,a,e,h,k.es,rfl,i4.seqT (s2.trans s3) hH,ok,.inl (SqT.of (s3 _ _ (s2 _ _ ee))),by lia,fun rl2 H4 s4 _ er=>?_⟩
 refine ⟨rl2,rfl,⟨_,SqL.of er⟩,?_⟩
 have hrl:H2 rl2 = none ∨ True:=.inr trivial
 have hne:rl2 ≠ l:=fun z=>by
  obtain ⟨as,e1,e2⟩:=bag0
  have:=s4 _ _ e1
  rw [← z,er] at this
  have hh:((B5 h k.es).map V.int) = as.map V.ref:=by
   injection this with this
   injection this
  cases e2 with
  | cons q1 q2 =>
   cases q2
   cases hr2:B5 h k.es with
   | nil=>rw [hr2] at hh; cases hh
   | cons x y=>rw [hr2] at hh; cases hh
 have bag4:Bag H4 l [ay6 h k]:=by
  obtain ⟨as,e1,e2⟩:=bag0
  exact ⟨as,s4 _ _ e1,P6.same (fun b xs hb=>s4 _ _ hb) e2⟩
 have s4':i4 H2 H4:=s3.trans s4
 have mono:∀ {H':Hp},i4 H2 H' → H' rl2 = some (.lst ((B5 h k.es).map V.int)) → SqL K H' rl2 ((B5 h k.es).map V.int):=fun _ z=>SqL.of z
 refine B0 (xs:=(B5 h k.es).map V.int) (fun i σ H'=>i4 H2 H' ∧ H' rl2 = some (.lst ((B5 h k.es).map V.int)) ∧ Bag H' l (ay6 h k :: ((B5 h k.es).take i).map (aA2 h k)) ∧ ∃ v5,σ = [some (.ref a),some (.ref p),some (.int k.k),some (.ref g),some (.ref l),v5,none,none])
  ⟨s4',er,bag4,none,rfl⟩ (fun i σ H' _ gg=>SqL.of gg.2.1) ?_ ?_
 ·rintro i x σ H' hx ⟨s5,e5,⟨as,b1,b2⟩,v5,rfl⟩
  rw [List.getElem?_map] at hx
  obtain ⟨r,hr2,rfl⟩:=Option.map_eq_some_iff.mp hx
  refine ⟨_,rfl,.inl ⟨rfl,_,SqL.of b1⟩,_,rfl,_,rfl,g,_,_,_,rfl,rfl,SqT.of (s5 _ _ sg2),rfl,_,rfl,(by show 4 ≤ sizeLine; decide),fun t2 ht2=>?_⟩
  have htl:t2 ≠ l:=fun z=>by rw [z,b1] at ht2; cases ht2
  have htr:t2 ≠ rl2:=fun z=>by rw [z,e5] at ht2; cases ht2
  have hn:=Paired.length b2
  refine ⟨l,as.map V.ref,.ref t2,rfl,rfl,by rw [d9 (Ne.symm htl)]; exact b1,m3 (by rw [List.length_map,hn,List.length_cons,List.length_map,List.length_take]; lia),?_⟩
  refine ⟨i4.put (s5.trans (d8 ht2 _)) hl,by rw [d9 hne,d9 (Ne.symm htr)]; exact e5,?_,_,rfl⟩
  have:=Bag.push (d:=aA2 h k r) b1 b2 ht2
  rw [List.take_succ,hr2,List.map_append]
  exact this
 ·rintro σ H5 ⟨s5,e5,bag5,v5,rfl⟩
  rw [List.length_map,List.take_length] at bag5
  refine ⟨_,rfl,p,_,_,_,rfl,rfl,SqT.of (s5 _ _ (s2 _ _ ep)),rfl,e,rfl,⟨_,SqT.of (s5 _ _ (s2 _ _ ee))⟩,?_⟩
  refine aE2 (xs:=k.es.map V.int) (fun i σ H'=>i4 H2 H' ∧ Bag H' l (ay6 h k :: ((B5 h k.es).map (aA2 h k) ++ (k.es.take i).map (aI5 h k))) ∧ ∃ v5 v6 v7,σ = [some (.ref a),some (.ref p),some (.int k.k),some (.ref g),some (.ref l),v5,v6,v7])
   ⟨s5,by simpa using bag5,_,_,_,rfl⟩ (fun i σ H' _ gg=>SqT.of (gg.1 _ _ (s2 _ _ ee))) ?_ ?_
  ·rintro i x σ H' hx ⟨s6,⟨as,b1,b2⟩,v5,v6,v7,rfl⟩
   rw [List.getElem?_map] at hx
   obtain ⟨y,hy,rfl⟩:=Option.map_eq_some_iff.mp hx
   refine ⟨_,rfl,_,rfl,a,h,y,rfl,i4.seqT (s2.trans s6) hH,ok,fun g2 hg2=>?_⟩
   have eg2:=b9 (H:=H') (a:=g2) (o:=.tup [.int (y / h.e),.int (y % h.e)])
   have s7:=d8 hg2 (.tup [.int (y / h.e),.int (y % h.e)])
   have c1:=s7 _ _ b1
   have c2:=P6.same (fun b xs hb=>s7 _ _ hb) b2
   generalize upd H' g2 (.tup [.int (y / h.e),.int (y % h.e)]) = H7 at eg2 s7 c1 c2 ⊢
   have hG2:SqT K H7 g2 [.int (y / h.e),.int (y % h.e)]:=SqT.of eg2
   refine ⟨_,rfl,.inl ⟨rfl,_,SqL.of c1⟩,_,rfl,g2,_,_,_,rfl,rfl,hG2,rfl,_,rfl,_,rfl,g2,_,_,_,rfl,rfl,hG2,rfl,(by show 4 ≤ sizeLine; decide),fun t2 ht2=>?_⟩
   have htl:t2 ≠ l:=fun z=>by rw [z,c1] at ht2; cases ht2
   have hn:=Paired.length c2
   refine ⟨l,as.map V.ref,.ref t2,rfl,rfl,by rw [d9 (Ne.symm htl)]; exact c1,m3 (by rw [List.length_map,hn,List.length_cons,List.length_append,List.length_map,List.length_map,List.length_take]; lia),?_⟩
   refine ⟨i4.put ((s6.trans s7).trans (d8 ht2 _)) hl,?_,_,_,_,rfl⟩
   have:=Bag.push (d:=aI5 h k y) c1 c2 ht2
   rw [List.take_succ,hy,List.map_append,← List.append_assoc]
   exact this
  ·rintro σ H6 ⟨s6,⟨as,b1,b2⟩,v5,v6,v7,rfl⟩
   rw [List.length_map,List.take_length] at b2
   have hn:=Paired.length b2
   refine ⟨_,rfl,l,as,F6 h k,4,rfl,SqL.of b1,P6.data b2,by rw [hn]; exact Nat.lt_of_le_of_lt hlen (by decide),by decide,aa8 ok hk,fun as' ds' hd pm pw l2 hl2=>?_⟩
   exact q l2 as' ds' _ ((s2.trans s6).trans (d8 hl2 _)) b9 (P6.same (fun b xs hb=>d8 hl2 _ _ _ hb) (hd _ b2)) pm pw
end
theorem aq5 {h:Hall} {k:Call} (ok:h.Ok) (hk:k.In h):(F6 h k).Pairwise (fun a b=>enc a ≤ enc b):=by
 have fw:=aa8 ok hk
 have hd:∀ {a b:Int} {r r':List Int},a :: r ∈ F6 h k → b :: r' ∈ F6 h k → a < b → enc (a :: r) ≤ enc (b :: r'):=fun {a b r r'} h1 h2 z=>by
  have f1:=fw _ h1
  have f2:=fw _ h2
  exact Int.le_of_lt (F0 (by
   have:=f1.1
   have:=f2.1
   simp only [List.length_cons] at *
   lia) f1.2.tail f2.2.tail z)
 have m0:ay6 h k ∈ F6 h k:=List.mem_cons_self
 have m1:∀ {r:Int},r ∈ B5 h k.es → aA2 h k r ∈ F6 h k:=fun {r} hr=>List.mem_cons_of_mem _ (List.mem_append_left _ (List.mem_map_of_mem hr))
 have m2:∀ {e:Int},e ∈ k.es → aI5 h k e ∈ F6 h k:=fun {e} he=>List.mem_cons_of_mem _ (List.mem_append_right _ (List.mem_map_of_mem he))
 have b5:=ok.e
 unfold F6
 rw [List.pairwise_cons,List.pairwise_append]
 refine ⟨fun b hb=>?_,?_,?_,fun b hb b' hb'=>?_⟩
 ·rcases List.mem_append.mp hb with q | q
  ·obtain ⟨r,hr,rfl⟩:=List.mem_map.mp q
   exact hd m0 (m1 hr) (by decide)
  ·obtain ⟨e,he,rfl⟩:=List.mem_map.mp q
   exact hd m0 (m2 he) (by decide)
 ·rw [List.pairwise_map]
  refine List.Pairwise.imp_of_mem (R:=(· < ·)) (fun {r r'} hr hr' z=>?_) (E5 _)
  have f1:=(fw _ (m1 hr)).2
  have f2:=(fw _ (m1 hr')).2
  unfold aA2 at f1 f2 ⊢
  refine Int.le_of_lt ?_
  refine (E7 ?_).1.mpr ((E7 ?_).1.mpr ((E7 ?_).1.mpr (F0 ?_ (fun x hx=>nomatch hx) (fun x hx=>nomatch hx) z))) <;> rfl
 ·rw [List.pairwise_map]
  refine List.Pairwise.imp_of_mem (R:=(· < ·)) (fun {e e'} he he' z=>?_) hk.rise
  have f1:=(fw _ (m2 he)).2
  have f2:=(fw _ (m2 he')).2
  unfold aI5 at f1 f2 ⊢
  refine Int.le_of_lt ?_
  refine (E7 (by rfl)).1.mpr ?_
  have q1:=Int.emod_add_mul_ediv e h.e
  have q2:=Int.emod_add_mul_ediv e' h.e
  have r1:=Int.emod_nonneg e (show h.e ≠ 0 by lia)
  have r2:=Int.emod_lt_of_pos e (show 0 < h.e by lia)
  have r3:=Int.emod_nonneg e' (show h.e ≠ 0 by lia)
  have r4:=Int.emod_lt_of_pos e' (show 0 < h.e by lia)
  have le:e / h.e ≤ e' / h.e:=Int.ediv_le_ediv (by lia) (Int.le_of_lt z)
  rcases Int.lt_or_eq_of_le le with y | y
  ·exact F0 rfl f1.tail.tail f2.tail.tail y
  ·rw [y] at q1 ⊢
   exact (E7 (by rfl)).1.mpr ((E7 (by rfl)).1.mpr (F0 (by rfl) (fun x hx=>nomatch hx) (fun x hx=>nomatch hx) (by lia)))
 ·obtain ⟨r,hr,rfl⟩:=List.mem_map.mp hb
  obtain ⟨e,he,rfl⟩:=List.mem_map.mp hb'
  exact hd (m1 hr) (m2 he) (by decide)
theorem aP0 {h:Hall} {k:Call} (ok:h.Ok) (hk:k.In h) {ds:List (List Int)} (p:ds.Perm (F6 h k)) (s:ds.Pairwise (fun a b=>enc a ≤ enc b)):ds = F6 h k :=
 aa3 (n:=4) p s (aq5 ok hk) fun d hd=>aa8 ok hk d (p.mem_iff.mp hd)
theorem av3 (h:Hall) (c e k:Int):F6 h ⟨c,[e],k⟩ = [[0,c / h.c,c % h.c,k],[1,k,c / h.c,e / h.e],[2,e / h.e,k,e % h.e]]:=by
 have:B5 h [e] = [e / h.e]:=by
  unfold B5
  show A7 [e / h.e] = _
  rfl
 unfold F6
 show ay6 h ⟨c,[e],k⟩ :: ((B5 h [e]).map _ ++ _) = _
 rw [this]
 rfl
section
variable {κ:Type} [DecidableEq κ]
def W9 (f:Nat → κ) (g:Nat → V) (n:Nat):List (κ × V):=(List.range n).map fun j=>(f j,g j)
theorem W4 (f:Nat → κ) (g:Nat → V) (n:Nat):W9 f g (n + 1) = W9 f g n ++ [(f n,g n)]:=by
 unfold W9
 rw [List.range_succ,List.map_append]
 rfl
theorem L8 {f:Nat → κ} {g:Nat → V} {k:κ}:∀ {n:Nat},(∀ j,j < n → f j ≠ k) → p7 (W9 f g n) k = none
 | 0,_=>rfl
 | n + 1,h=>by
  have ih:=L8 (g:=g) (n:=n) fun j hj=>h j (by lia)
  have h2:=L8 (f:=f) (g:=g) (k:=f n) (n:=n)
  unfold p7
  rw [W4,List.find?_append]
  unfold p7 at ih
  rw [Option.map_eq_none_iff] at ih
  rw [ih,List.find?_cons,decide_eq_false (h n (by lia))]
  rfl
theorem af9 {f:Nat → κ} {g:Nat → V} {j:Nat}:∀ {n:Nat},j < n → (∀ a b,a < n → b < n → f a = f b → a = b) → p7 (W9 f g n) (f j) = some (g j)
 | 0,hj,_=>absurd hj (Nat.not_lt_zero _)
 | n + 1,hj,inj=>by
  rw [W4,V8 _ _ _ _ (L8 fun a ha e=>absurd (inj a n (by lia) (by lia) e) (by lia))]
  by_cases e:f j = f n
  ·rw [if_pos e,inj j n hj (by lia) e]
  ·rw [if_neg e]
   have:j ≠ n:=fun z=>e (by rw [z])
   exact af9 (by lia) fun a b ha hb=>inj a b (by lia) (by lia)
theorem aK2 {f:Nat → κ} {g:Nat → V} {n:Nat} (h:∀ j,j < n → f j ≠ f n):A0 (W9 f g n) (f n) (g n) = W9 f g (n + 1):=by
 unfold A0
 rw [K0,L8 h,W4]
 rfl
theorem ao8 {f:Nat → κ} {g:Nat → V} {n:Nat}:(W9 f g n).length = n:=by
 unfold W9
 rw [List.length_map,List.length_range]
end
def K1 (h:Hall) (sh:Int) (ns:List Int) (qs:List (Int × Int)) (n:Nat):List Key :=
 if n % 3 = 0 then [.inl 0,.inl ((qs.getD (n / 3) (0,0)).1 / h.c),.inl ((qs.getD (n / 3) (0,0)).1 % h.c)]
 else if n % 3 = 1 then [.inl 1,.inl ((j7 h sh ns (n / 3):Nat):Int),.inl ((qs.getD (n / 3) (0,0)).1 / h.c)]
 else [.inl 2,.inl ((qs.getD (n / 3) (0,0)).2 / h.e),.inl ((j7 h sh ns (n / 3):Nat):Int)]
def R4 (h:Hall) (sh:Int) (ns:List Int) (qs:List (Int × Int)) (n:Nat):V :=
 if n % 3 = 0 then .int ((j7 h sh ns (n / 3):Nat):Int)
 else if n % 3 = 1 then .int ((qs.getD (n / 3) (0,0)).2 / h.e)
 else .int ((qs.getD (n / 3) (0,0)).2 % h.e)
theorem aO6 {h:Hall} {sh:Int} {ns:List Int} {qs:List (Int × Int)} (ok:h.Ok) (td:Told h sh qs ns) (srt:qs.Pairwise (fun p p'=>p.1 < p'.1)) {a b:Nat} (ha:a < 3 * qs.length) (hb:b < 3 * qs.length) (e:K1 h sh ns qs a = K1 h sh ns qs b):a = b:=by
 have la:a / 3 < qs.length:=by lia
 have lb:b / 3 < qs.length:=by lia
 have ga:∀ i,i < qs.length → ∃ q,qs[i]? = some q ∧ qs.getD i (0,0) = q:=fun i hi=>⟨qs[i],List.getElem?_eq_getElem hi,by rw [List.getD,List.getElem?_eq_getElem hi]; rfl⟩
 obtain ⟨qa,qa1,qa2⟩:=ga _ la
 obtain ⟨qb,qb1,qb2⟩:=ga _ lb
 have r0:∀ {i:Nat} {q:Int × Int},qs[i]? = some q → RI 0 (qs.map (hv h)) i = q.1 / h.c:=fun {i q} z=>L9 (p:=hv h q) (by rw [List.getElem?_map,z]; rfl)
 have r1:∀ {i:Nat} {q:Int × Int},qs[i]? = some q → RI 1 (qs.map (hv h)) i = q.2 / h.e:=fun {i q} z=>L9 (p:=hv h q) (by rw [List.getElem?_map,z]; rfl)
 have hc:=ok.c
 have k0:∀ {n:Nat},n % 3 = 0 → K1 h sh ns qs n = [.inl 0,.inl ((qs.getD (n / 3) (0,0)).1 / h.c),.inl ((qs.getD (n / 3) (0,0)).1 % h.c)]:=fun {n} z=>if_pos z
 have k1:∀ {n:Nat},n % 3 = 1 → K1 h sh ns qs n = [.inl 1,.inl ((j7 h sh ns (n / 3):Nat):Int),.inl ((qs.getD (n / 3) (0,0)).1 / h.c)]:=fun {n} z=>(if_neg (by lia)).trans (if_pos z)
 have k2:∀ {n:Nat},n % 3 = 2 → K1 h sh ns qs n = [.inl 2,.inl ((qs.getD (n / 3) (0,0)).2 / h.e),.inl ((j7 h sh ns (n / 3):Nat):Int)]:=fun {n} z=>(if_neg (by lia)).trans (if_neg (by lia))
 have am:a % 3 = 0 ∨ a % 3 = 1 ∨ a % 3 = 2:=by lia
 have bm:b % 3 = 0 ∨ b % 3 = 1 ∨ b % 3 = 2:=by lia
 rcases am with am | am | am <;> rcases bm with bm | bm | bm <;> (first | rw [k0 am] at e | rw [k1 am] at e | rw [k2 am] at e) <;> (first | rw [k0 bm] at e | rw [k1 bm] at e | rw [k2 bm] at e) <;> (try rw [qa2] at e) <;> (try rw [qb2] at e)
 all_goals obtain ⟨e1,e2,e3⟩:=av5 e
 all_goals first
  | lia
  | skip
 ·have q:qa.1 = qb.1:=by
   have x1:=Int.emod_add_mul_ediv qa.1 h.c
   have x2:=Int.emod_add_mul_ediv qb.1 h.c
   rw [e2,e3] at x1
   lia
  have:a / 3 = b / 3:=by
   obtain ⟨ia,ea⟩:=List.getElem?_eq_some_iff.mp qa1
   obtain ⟨ib,eb⟩:=List.getElem?_eq_some_iff.mp qb1
   have pw:=List.pairwise_iff_getElem.mp srt
   rcases Nat.lt_trichotomy (a / 3) (b / 3) with z | z | z
   ·have:=pw _ _ ia ib z
    rw [ea,eb] at this
    lia
   ·exact z
   ·have:=pw _ _ ib ia z
    rw [ea,eb] at this
    lia
  lia
 ·have:=td.num.p0 _ _ la lb (T9 td la lb (by lia)) (by rw [r0 qa1,r0 qb1]; exact e3)
  lia
 ·have:=td.num.p1 _ _ la lb (T9 td la lb (by lia)) (by rw [r1 qa1,r1 qb1]; exact e2)
  lia
def ar2 (K:PySem.W.Frag):Sp:=fun vs H Q _=>∃ (p r:Addr) (h:Hall) (bs:List Addr) (ps qs:List (Int × Int)) (ns:List Int) (sh:Int),vs = [.ref p,.ref r] ∧ SqT K H p (h.row.map V.int) ∧ h.Ok ∧ H r = some (.lst (bs.map V.ref)) ∧ E4 H bs (F1 h sh ns qs) ∧ Told h sh qs ns ∧ TabOk h ps ∧ qs.Perm ps ∧ qs.Pairwise (fun p p'=>p.1 < p'.1) ∧ ps.length ≤ 59 ∧ ∀ H',i4 H H' → Q (.bl true) H'
section
variable {P:Program} {w:World} {K:PySem.W.Frag} {mg:Str → Option Value} {base:Heap} {C_HallError C_TooFull C_NoTable:Addr}
theorem r9:FnScope ["_law_hall_here","_law_found","_law_bars","_law_call","_law_bar","_law_i","_law_place","_law_k","_law_j"] ["_law_hall_here","_law_found"] (d7 (top 43)):=⟨rfl,rfl,rfl,by decide +kernel,rfl,by decide +kernel,by decide +kernel⟩
set_option maxHeartbeats 8000000 in
theorem aH3 (T:Txt K mg) (C_bars_of:Callee P w K mg base 3 "bars_of" ["hall","call"] (aL8 K)) (D:Def K mg "_law_walked" (top 43) ["_law_hall_here","_law_found"]):Callee P w K mg base 4 "_law_walked" ["_law_hall_here","_law_found"] (ar2 K):=by
 refine D.ok r9 (fun vs H Q E h=>?_) (fun f cdv A outer s H vs Q E hr h=>?_)
 ·obtain ⟨p,r,h,bs,ps,qs,ns,sh,rfl,_⟩:=h
  rfl
 obtain ⟨p,r,h,bs,ps,qs,ns,sh,rfl,hH,ok,er,cb,td,tok,pm,srt,few,q⟩:=h
 have lq:qs.length = ps.length:=pm.length_eq
 have lb:bs.length = qs.length:=by
  have:=Paired.length cb
  unfold F1 at this
  rwa [List.length_map,List.length_range] at this
 have hm:=ok.m
 have hc:=ok.c
 have he:=ok.e
 have inj:=@aO6 h sh ns qs ok td srt
 have cal:∀ i ca,bs[i]? = some ca → ∃ (pp:Int × Int) (te:Addr),i < qs.length ∧ qs[i]? = some pp ∧ qs.getD i (0,0) = pp ∧ H te = some (.tup [.int pp.2]) ∧ H ca = some (.tup [.int pp.1,.ref te,.int ((j7 h sh ns i:Nat):Int)]) ∧ (0 ≤ pp.1 ∧ pp.1 < h.i * h.c) ∧ 0 ≤ pp.2 ∧ pp.2 < h.o * h.e:=fun i ca hca=>by
  obtain ⟨dd,hdd,te,c1,c2⟩:=p4 cb i ca hca
  have hi:i < qs.length:=by
   have:=(List.getElem?_eq_some_iff.mp hca).1
   lia
  have e1:qs[i]? = some qs[i]:=List.getElem?_eq_getElem hi
  have e2:qs.getD i (0,0) = qs[i]:=by rw [List.getD,e1]; rfl
  have edd:dd = (qs[i].1,qs[i].2,((j7 h sh ns i:Nat):Int)):=by
   unfold F1 at hdd
   rw [List.getElem?_map,List.getElem?_range hi] at hdd
   have:=Option.some.inj hdd
   rw [← this]
   unfold aM1 j7
   rw [e2]
  rw [edd] at c1 c2
  exact ⟨qs[i],te,hi,e1,e2,c1,c2,tok.b _ (pm.mem_iff.mp (List.getElem_mem hi))⟩
 refine ⟨_,(d6 (i7 (i:=2) r9.nd rfl (Or.inl rfl) U8)
  (d6 (y6 PassesOwn.never rfl (z9 K (pv 1)) (o9 (i:=3) r9.nd rfl (Or.inl rfl))
  (g6 (y6 PassesOwn.never rfl (z9 K (m6 C_bars_of hr rfl (b7 (pv 0) (b7 (pv 3) d5 b8) b8))) (o9 (i:=4) r9.nd rfl (Or.inl rfl))
  (d6 (y8 (V9 (V5 (A1 hr) (V3 aC2 (pv 4) Z9 (Z7 d4)) (pv 2))) (g6 (j8 J6)) n6)
  (g6 (K2 (A1 hr) (pv 2) (V3 aC2 (pv 4) Z9 (Z7 d4)) (h9 (g7 K) (pv 4) d4 (fun _ _=>rfl)) rfl))))))
  (d6 (y6 PassesOwn.never rfl (z9 K (pv 1)) (o9 (i:=3) r9.nd rfl (Or.inl rfl))
  (d6 (az5 (i9 P3 rfl T.m_divmod boot_divmod (b7 (h9 (g7 K) (pv 3) d4 (fun _ _=>rfl)) (b7 (h9 (g7 K) (pv 0) d4 (fun _ _=>rfl)) d5 j6) j6)) (aJ3 K rfl r9.nd (Nm.mk (i:=5) rfl (Or.inl rfl) (Or.inl rfl)) (Nm.mk (i:=6) rfl (Or.inl rfl) (Or.inl rfl))))
  (d6 (i7 (i:=7) r9.nd rfl (Or.inl rfl) (P7 (A1 hr) (pv 2) (m9 (b7 d4 (b7 (pv 5) (b7 (pv 6) d5 b8) b8) i0)) d4 ⟨rfl,rfl,rfl,rfl⟩))
  (d6 (i7 (i:=8) r9.nd rfl (Or.inl rfl) (P7 (A1 hr) (pv 2) (m9 (b7 d4 (b7 (pv 7) (b7 (pv 5) d5 b8) b8) i0)) d4 ⟨rfl,rfl,rfl,rfl⟩))
  (g6 (y8 (m7 am6 (i6 A4 (i6 K7 (pv 8) (h9 (g7 K) (pv 0) d4 (fun _ _=>rfl))) (P7 (A1 hr) (pv 2) (m9 (b7 d4 (b7 (pv 8) (b7 (pv 7) d5 b8) b8) i0)) d4 ⟨rfl,rfl,rfl,rfl⟩)) (h9 (g7 K) (h9 (g7 K) (pv 3) d4 (fun _ _=>rfl)) d4 (fun _ _=>rfl)) (n9 _)) (g6 (j8 J6)) n6))))))
  (g6 (j8 (ai3 S1 (i9 aw3 rfl T.m_len boot_len (b7 (pv 2) d5 b8)) (i6 K7 d4 (i9 (u6 K) rfl T.m_len boot_len (b7 (pv 1) d5 b8))) (n9 _))))))),?_⟩
 refine fun d hd=>?_
 have s1:=d8 hd (.dT [])
 have ed:=b9 (H:=H) (a:=d) (o:=.dT [])
 generalize upd H d (.dT []) = H1 at s1 ed ⊢
 refine ⟨_,rfl,r,rfl,⟨_,SqL.of (s1 _ _ er)⟩,?_⟩
 refine B0 (xs:=bs.map V.ref) (fun i σ G=>i4 H G ∧ G d = some (.dT (W9 (K1 h sh ns qs) (R4 h sh ns qs) (3 * i))) ∧ ∃ v3 v4 v5 v6 v7 v8,σ = [some (.ref p),some (.ref r),some (.ref d),v3,v4,v5,v6,v7,v8])
  ⟨s1,ed,none,none,none,none,none,none,rfl⟩ (fun i σ G _ g=>SqL.of (g.1 _ _ er)) ?_ ?_
 ·rintro i x σ G hx ⟨sG,eG,v3,v4,v5,v6,v7,v8,rfl⟩
  rw [List.getElem?_map] at hx
  obtain ⟨ca,hca,rfl⟩:=Option.map_eq_some_iff.mp hx
  obtain ⟨pp,te,hi,hpp,gpp,c1,c2,b1,b2⟩:=cal i ca hca
  obtain ⟨ro1,ro2⟩:=ah0 td hi
  have kin:Call.In ⟨pp.1,[pp.2],((j7 h sh ns i:Nat):Int)⟩ h:=⟨b1,List.pairwise_singleton _ _,fun e he=>by rw [List.mem_singleton.mp he]; exact b2,fun z=>(nomatch z),by show 1 ≤ 9; decide,⟨by show (0:Int) ≤ ((j7 h sh ns i:Nat):Int); lia,by show ((j7 h sh ns i:Nat):Int) < h.m; lia⟩⟩
  refine ⟨_,rfl,_,rfl,p,ca,te,h,⟨pp.1,[pp.2],((j7 h sh ns i:Nat):Int)⟩,rfl,i4.seqT sG hH,ok,sG _ _ c1,sG _ _ c2,kin,fun bl bas ds H3 s3 e3 tp pmb pwb=>?_⟩
  obtain rfl:=aP0 ok kin pmb pwb
  rw [av3] at tp
  refine ⟨bl,rfl,⟨_,SqL.of e3⟩,?_⟩
  have ln:=Paired.length tp
  refine B0 (xs:=bas.map V.ref) (fun j σ G'=>i4 H G' ∧ G' d = some (.dT (W9 (K1 h sh ns qs) (R4 h sh ns qs) (3 * i + j))) ∧ G' bl = some (.lst (bas.map V.ref)) ∧ P6 G' bas [[0,pp.1 / h.c,pp.1 % h.c,((j7 h sh ns i:Nat):Int)],[1,((j7 h sh ns i:Nat):Int),pp.1 / h.c,pp.2 / h.e],[2,pp.2 / h.e,((j7 h sh ns i:Nat):Int),pp.2 % h.e]] ∧ ∃ v4 v5 v6 v7 v8,σ = [some (.ref p),some (.ref r),some (.ref d),some (.ref ca),v4,v5,v6,v7,v8])
   ⟨sG.trans s3,s3 _ _ eG,e3,tp,_,_,_,_,_,rfl⟩ (fun j σ H' _ gg=>SqL.of gg.2.2.1) ?_ ?_
  ·rintro j y σ G' hy ⟨sG',eG',ebl,tp',v4,v5,v6,v7,v8,rfl⟩
   rw [List.getElem?_map] at hy
   obtain ⟨ba,hba,rfl⟩:=Option.map_eq_some_iff.mp hy
   obtain ⟨br,hbr,ebr⟩:=p4 tp' j ba hba
   have fact:∃ x0 x1 x2 x3:Int,br = [x0,x1,x2,x3] ∧ K1 h sh ns qs (3 * i + j) = [.inl x0,.inl x1,.inl x2] ∧ R4 h sh ns qs (3 * i + j) = .int x3 ∧ j < 3:=by
    have d3:∀ t,t < 3 → (3 * i + t) / 3 = i ∧ (3 * i + t) % 3 = t:=fun t ht=>⟨by lia,by lia⟩
    match j,hbr with
    | 0,hbr=>exact ⟨_,_,_,_,(Option.some.inj hbr).symm,by unfold K1; rw [(d3 0 (by decide)).1,(d3 0 (by decide)).2,gpp]; rfl,by unfold R4; rw [(d3 0 (by decide)).1,(d3 0 (by decide)).2]; rfl,by decide⟩
    | 1,hbr=>exact ⟨_,_,_,_,(Option.some.inj hbr).symm,by unfold K1; rw [(d3 1 (by decide)).1,(d3 1 (by decide)).2,gpp]; rfl,by unfold R4; rw [(d3 1 (by decide)).1,(d3 1 (by decide)).2,gpp]; rfl,by decide⟩
    | 2,hbr=>exact ⟨_,_,_,_,(Option.some.inj hbr).symm,by unfold K1; rw [(d3 2 (by decide)).1,(d3 2 (by decide)).2,gpp]; rfl,by unfold R4; rw [(d3 2 (by decide)).1,(d3 2 (by decide)).2,gpp]; rfl,by decide⟩
   obtain ⟨x0,x1,x2,x3,rfl,wk,wv,j3⟩:=fact
   have new:∀ t,t < 3 * i + j → K1 h sh ns qs t ≠ K1 h sh ns qs (3 * i + j):=fun t ht z=>absurd (inj (by lia) (by lia) z) (by lia)
   have no:=L8 (g:=R4 h sh ns qs) new
   rw [wk] at no
   have ecut:X2 ([x0,x1,x2,x3].map V.int) none (some 3) = [.int x0,.int x1,.int x2]:=rfl
   refine ⟨_,rfl,_,rfl,ba,_,rfl,ebr,fun t1 G1 u1 et1=>?_⟩
   rw [ecut] at et1
   refine ⟨_,rfl,d,_,rfl,E3.t (k:=[.inl x0,.inl x1,.inl x2]) (u1 _ _ eG') et1,_,rfl,?_⟩
   rw [no]
   refine D9 ?_
   refine ⟨_,rfl,ba,_,_,_,rfl,rfl,SqT.of (u1 _ _ ebr),rfl,_,rfl,_,rfl,_,rfl,ba,_,rfl,u1 _ _ ebr,fun t2 G2 u2 et2=>?_⟩
   rw [ecut] at et2
   have u12:=u1.trans u2
   refine ⟨d,_,rfl,S2.t (k:=[.inl x0,.inl x1,.inl x2]) (u12 _ _ eG') et2 (m3 (by rw [ao8]; lia)),?_⟩
   have ed2:=u12 _ _ eG'
   refine ⟨i4.put (sG'.trans u12) hd,?_,?_,?_,_,_,_,_,_,rfl⟩
   ·rw [b9,← wk,← wv,aK2 new]
    rfl
   ·rw [d9 fun z=>by rw [z,eG'] at ebl; cases ebl]
    exact u12 _ _ ebl
   ·exact P6.same (fun b xs z=>by rw [d9 fun y=>by rw [y,eG'] at z; cases z]; exact u12 _ _ z) tp'
  ·rintro σ G' ⟨sG',eG',ebl,tp',v4,v5,v6,v7,v8,rfl⟩
   rw [List.length_map,ln] at eG'
   exact ⟨sG',eG',_,_,_,_,_,_,rfl⟩
 ·rintro σ G ⟨sG,eG,v3,v4,v5,v6,v7,v8,rfl⟩
  rw [List.length_map,lb] at eG
  have look:=fun n (hn:n < 3 * qs.length)=>af9 (f:=K1 h sh ns qs) (g:=R4 h sh ns qs) hn fun a b ha hb z=>inj ha hb z
  refine ⟨_,rfl,r,rfl,⟨_,SqL.of (sG _ _ er)⟩,?_⟩
  refine B0 (xs:=bs.map V.ref) (fun i σ G'=>i4 G G' ∧ ∃ v3 v4 v5 v6 v7 v8,σ = [some (.ref p),some (.ref r),some (.ref d),v3,v4,v5,v6,v7,v8])
   ⟨fun b u z=>z,_,_,_,_,_,_,rfl⟩ (fun i σ G' _ g=>SqL.of (g.1 _ _ (sG _ _ er))) ?_ ?_
  ·rintro i x σ G' hx ⟨sG',v3,v4,v5,v6,v7,v8,rfl⟩
   rw [List.getElem?_map] at hx
   obtain ⟨ca,hca,rfl⟩:=Option.map_eq_some_iff.mp hx
   obtain ⟨pp,te,hi,hpp,gpp,c1,c2,b1,b2⟩:=cal i ca hca
   have g1:=sG.trans sG'
   have eG':=sG' _ _ eG
   have d3:∀ t,t < 3 → (3 * i + t) / 3 = i ∧ (3 * i + t) % 3 = t:=fun t ht=>⟨by lia,by lia⟩
   have l0:=look (3 * i + 0) (by lia)
   have l1:=look (3 * i + 1) (by lia)
   have l2:=look (3 * i + 2) (by lia)
   rw [show K1 h sh ns qs (3 * i + 0) = [.inl 0,.inl (pp.1 / h.c),.inl (pp.1 % h.c)] by unfold K1; rw [(d3 0 (by decide)).1,(d3 0 (by decide)).2,gpp]; rfl,show R4 h sh ns qs (3 * i + 0) = .int ((j7 h sh ns i:Nat):Int) by unfold R4; rw [(d3 0 (by decide)).1,(d3 0 (by decide)).2]; rfl] at l0
   rw [show K1 h sh ns qs (3 * i + 1) = [.inl 1,.inl ((j7 h sh ns i:Nat):Int),.inl (pp.1 / h.c)] by unfold K1; rw [(d3 1 (by decide)).1,(d3 1 (by decide)).2,gpp]; rfl,show R4 h sh ns qs (3 * i + 1) = .int (pp.2 / h.e) by unfold R4; rw [(d3 1 (by decide)).1,(d3 1 (by decide)).2,gpp]; rfl] at l1
   rw [show K1 h sh ns qs (3 * i + 2) = [.inl 2,.inl (pp.2 / h.e),.inl ((j7 h sh ns i:Nat):Int)] by unfold K1; rw [(d3 2 (by decide)).1,(d3 2 (by decide)).2,gpp]; rfl,show R4 h sh ns qs (3 * i + 2) = .int (pp.2 % h.e) by unfold R4; rw [(d3 2 (by decide)).1,(d3 2 (by decide)).2,gpp]; rfl] at l2
   have c11:=g1 _ _ c1
   have c21:=g1 _ _ c2
   refine ⟨_,rfl,ca,_,_,_,rfl,rfl,SqT.of c21,rfl,_,rfl,p,_,_,_,rfl,rfl,i4.seqT g1 hH,rfl,_,_,rfl,⟨by show 0 < h.c; lia,by show h.c < 1073741824; lia⟩,fun dm hdm=>?_⟩
   have u1:=d8 hdm (.tup [.int (pp.1 / h.c),.int (pp.1 % h.c)])
   have edm:=b9 (H:=G') (a:=dm) (o:=.tup [.int (pp.1 / h.c),.int (pp.1 % h.c)])
   generalize upd G' dm (.tup [.int (pp.1 / h.c),.int (pp.1 % h.c)]) = G1 at u1 edm ⊢
   refine ⟨dm,_,rfl,SqT.of edm,rfl,_,_,rfl,_,_,rfl,rfl,?_⟩
   refine ⟨_,rfl,d,rfl,.inr ⟨_,.inl (u1 _ _ eG')⟩,_,rfl,_,rfl,(by show 3 ≤ sizeLine; decide),fun k1 hk1=>?_⟩
   have u2:=u1.trans (d8 hk1 (.tup [.int 0,.int (pp.1 / h.c),.int (pp.1 % h.c)]))
   have ek1:=b9 (H:=G1) (a:=k1) (o:=.tup [.int 0,.int (pp.1 / h.c),.int (pp.1 % h.c)])
   generalize upd G1 k1 (.tup [.int 0,.int (pp.1 / h.c),.int (pp.1 % h.c)]) = G2 at u2 ek1 ⊢
   refine ⟨_,E3.t (k:=[.inl 0,.inl (pp.1 / h.c),.inl (pp.1 % h.c)]) (u2 _ _ eG') ek1,?_⟩
   rw [l0,Option.getD_some]
   refine ⟨_,rfl,d,rfl,.inr ⟨_,.inl (u2 _ _ eG')⟩,_,rfl,_,rfl,(by show 3 ≤ sizeLine; decide),fun k2 hk2=>?_⟩
   have u3:=u2.trans (d8 hk2 (.tup [.int 1,.int ((j7 h sh ns i:Nat):Int),.int (pp.1 / h.c)]))
   have ek2:=b9 (H:=G2) (a:=k2) (o:=.tup [.int 1,.int ((j7 h sh ns i:Nat):Int),.int (pp.1 / h.c)])
   generalize upd G2 k2 (.tup [.int 1,.int ((j7 h sh ns i:Nat):Int),.int (pp.1 / h.c)]) = G3 at u3 ek2 ⊢
   refine ⟨_,E3.t (k:=[.inl 1,.inl ((j7 h sh ns i:Nat):Int),.inl (pp.1 / h.c)]) (u3 _ _ eG') ek2,?_⟩
   rw [l1,Option.getD_some]
   have x1:=Int.emod_add_mul_ediv pp.2 h.e
   have x2:=Int.mul_comm h.e (pp.2 / h.e)
   have x3:=ac8 h.e b2 ok.oe.2 he.1
   refine ⟨_,rfl,_,rfl,p,_,_,_,rfl,rfl,i4.seqT (g1.trans u3) hH,rfl,_,_,rfl,rfl,.inl ⟨by show (-2 ^ 64:Int) < pp.2 / h.e; lia,by show pp.2 / h.e < 2 ^ 64; lia⟩,_,rfl,d,rfl,.inr ⟨_,.inl (u3 _ _ eG')⟩,_,rfl,_,rfl,(by show 3 ≤ sizeLine; decide),fun k3 hk3=>?_⟩
   have u4:=u3.trans (d8 hk3 (.tup [.int 2,.int (pp.2 / h.e),.int ((j7 h sh ns i:Nat):Int)]))
   have ek3:=b9 (H:=G3) (a:=k3) (o:=.tup [.int 2,.int (pp.2 / h.e),.int ((j7 h sh ns i:Nat):Int)])
   generalize upd G3 k3 (.tup [.int 2,.int (pp.2 / h.e),.int ((j7 h sh ns i:Nat):Int)]) = G4 at u4 ek3 ⊢
   refine ⟨_,E3.t (k:=[.inl 2,.inl (pp.2 / h.e),.inl ((j7 h sh ns i:Nat):Int)]) (u4 _ _ eG') ek3,?_⟩
   rw [l2,Option.getD_some]
   have e9:V.int (pp.2 / h.e * h.e + pp.2 % h.e) = .int pp.2:=by
    congr 1
    lia
   refine ⟨_,_,rfl,rfl,_,rfl,ca,_,_,_,rfl,rfl,SqT.of (u4 _ _ c21),rfl,te,_,_,_,rfl,rfl,SqT.of (u4 _ _ c11),rfl,rfl,_,rfl,aQ2 e9 ?_⟩
   exact ⟨sG'.trans u4,_,_,_,_,_,_,rfl⟩
  ·rintro σ G' ⟨sG',v3,v4,v5,v6,v7,v8,rfl⟩
   refine ⟨_,rfl,d,_,rfl,sG' _ _ eG,_,rfl,r,_,rfl,.inl (SqL.of (sG' _ _ (sG _ _ er))),_,_,rfl,rfl,.inl ⟨by decide,by decide⟩,rfl,?_⟩
   have e9:V.int (((W9 (K1 h sh ns qs) (R4 h sh ns qs) (3 * qs.length)).length:Nat):Int) = .int (3 * (((bs.map V.ref).length:Nat):Int)):=by
    rw [ao8,List.length_map,lb]
    congr 1
   have:=q G' (sG.trans sG')
   show Q (V.bl (decide (V.int (((W9 (K1 h sh ns qs) (R4 h sh ns qs) (3 * qs.length)).length:Nat):Int) = .int (3 * (((bs.map V.ref).length:Nat):Int))))) G'
   rw [decide_eq_true e9]
   exact this
end
theorem X9 {α β:Type} {R:α → β → Prop}:∀ {as:List α} {ds:List β} (i:Nat),Paired R as ds → Paired R (as.take i) (ds.take i)
 | _,_,0,_=>.nil
 | _,_,i + 1,.nil=>.nil
 | _,_,i + 1,.cons h t=>.cons h (X9 i t)
theorem X8 {α β:Type} {R:α → β → Prop}:∀ {as:List α} {ds:List β} (i:Nat),Paired R as ds → Paired R (as.drop i) (ds.drop i)
 | _,_,0,h=>h
 | _,_,i + 1,.nil=>.nil
 | _,_,i + 1,.cons h t=>X8 i t
theorem S3 {α β:Type} {R:α → β → Prop}:∀ {as as':List α} {ds ds':List β},Paired R as ds → Paired R as' ds' → Paired R (as ++ as') (ds ++ ds')
 | _,_,_,_,.nil,h=>h
 | _,_,_,_,.cons q t,h=>.cons q (S3 t h)
theorem ac9 {α β:Type} {R:α → β → Prop}:∀ {as:List α} {ds:List β},Paired R as ds → Paired R as.reverse ds.reverse
 | _,_,.nil=>.nil
 | _,_,.cons h t=>by
  rw [List.reverse_cons,List.reverse_cons]
  exact S3 (ac9 t) (.cons h .nil)
theorem a04 (xs:List V) (a:Nat):X2 xs none (some (a:Int)) = xs.take a:=by
 unfold X2
 rw [HT.sIx_none,show HT.sIx xs.length xs.length (some (a:Int)) = min a xs.length from HT.sIx_nat _ _ a,List.drop_zero,Nat.sub_zero]
 exact List.take_eq_take_iff.mpr (by lia)
theorem a05 (xs:List V) (a:Nat):X2 xs (some (a:Int)) none = xs.drop a:=by
 unfold X2
 rw [HT.sIx_none,show HT.sIx xs.length 0 (some (a:Int)) = min a xs.length from HT.sIx_nat _ _ a]
 rcases Nat.le_total a xs.length with h | h
 ·rw [Nat.min_eq_left h]
  exact List.take_of_length_le (by rw [List.length_drop]; lia)
 ·rw [Nat.min_eq_right h,List.drop_length,List.drop_eq_nil_of_le h,List.take_nil]
theorem ag7 (sh:Int) (i:Nat):F9 ((List.range (i + 1)).filter (A5 sh)) = F9 ((List.range i).filter (A5 sh)) ++ (if A5 sh i = true then [V.int (i:Int)] else []):=by
 unfold F9
 rw [List.range_succ,List.filter_append,List.map_append]
 by_cases c:A5 sh i = true
 ·rw [if_pos c]
  simp [c]
 ·rw [if_neg c]
  simp [c]
theorem TabOk.perm {h:Hall} {ps qs:List (Int × Int)} (p:qs.Perm ps) (t:TabOk h ps):TabOk h qs :=
 ⟨(p.map Prod.fst).nodup_iff.mpr t.n1,(p.map Prod.snd).nodup_iff.mpr t.n2,fun q hq=>t.b q (p.mem_iff.mp hq)⟩
section
variable {P:Program} {w:World} {K:PySem.W.Frag} {mg:Str → Option Value} {base:Heap} {C_HallError C_TooFull C_NoTable:Addr}
theorem F5:FnScope ["_law_script","_law_hall_here","_law_table_here","_law_told","_law_shut","_law_many","_law_found","_law_due","_law_cut","_law_other"] ["_law_script"] (d7 (top 44)):=⟨rfl,rfl,rfl,by decide +kernel,rfl,by decide +kernel,by decide +kernel⟩
set_option maxHeartbeats 8000000 in
theorem aY2 (T:Txt K mg) (Z:TxtC K mg C_HallError C_TooFull C_NoTable) (C__law_cell_at:Callee P w K mg base 1 "_law_cell_at" ["_law_script","_law_k"] (ax5 K)) (C__law_mixed:Callee P w K mg base 1 "_law_mixed" ["_law_cell","_law_k"] Z4) (C__law_hall:Callee P w K mg base 2 "_law_hall" ["_law_cell"] aC4) (C__law_table:Callee P w K mg base 3 "_law_table" ["_law_script","_law_hall_here","_law_start","_law_last"] (aE5 K)) (C__law_answer:Callee P w K mg base 8 "_law_answer" ["_law_hall_here","_law_table_here","_law_shut","_law_told"] (am9 K)) (C__law_too_full:Callee P w K mg base 1 "_law_too_full" ["_law_hall_here","_law_table_here","_law_many"] (ar9 K)) (C__law_right:Callee P w K mg base 2 "_law_right" ["_law_hall_here","_law_found","_law_table_here","_law_shut"] (af0 K)) (C__law_walked:Callee P w K mg base 4 "_law_walked" ["_law_hall_here","_law_found"] (ar2 K)) {f:Addr} {fd:FuncData} (F:Fun K "law" "law" (top 44) f fd):FnOk P w K mg base CX0 9 f fd ["_law_script"] (aC7 K):=by
 refine F.ok F5 (fun vs H Q E h=>?_) (fun cdv A outer s H vs Q E hr h=>?_)
 ·obtain ⟨a,ns,rfl,_⟩:=h
  rfl
 obtain ⟨a,ns,rfl,hS,h63,q⟩:=h
 refine ⟨_,(d6 (i7 (i:=1) F5.nd rfl (Or.inl rfl) (m6 C__law_hall hr rfl (b7 (m6 C__law_cell_at hr rfl (b7 (pv 0) (b7 d4 d5 i0) b8)) d5 m8)))
  (d6 (i7 (i:=2) F5.nd rfl (Or.inl rfl) (m6 C__law_table hr rfl (b7 (pv 0) (b7 (pv 1) (b7 d4 (b7 d4 d5 i0) i0) b8) b8)))
  (d6 (i7 (i:=3) F5.nd rfl (Or.inl rfl) (ai3 S1 (i6 p8 (m6 C__law_cell_at hr rfl (b7 (pv 0) (b7 d4 d5 i0) b8)) d4) d4 (n9 _)))
  (d6 (i7 (i:=4) F5.nd rfl (Or.inr rfl) d4)
  (d6 (y8 (C0 K (pv 3) (fun _=>rfl)) (d6 (i7 (i:=4) F5.nd rfl (Or.inr rfl) (i6 p8 (m6 C__law_mixed hr rfl (b7 (m6 C__law_cell_at hr rfl (b7 (pv 0) (b7 d4 d5 i0) b8)) (b7 d4 d5 i0) m8)) (i6 aP4 d4 (h9 (g7 K) (pv 1) d4 (fun _ _=>rfl)))))
  (g6 (y8 (m7 S1 (i6 p8 (m6 C__law_cell_at hr rfl (b7 (pv 0) (b7 d4 d5 i0) b8)) d4) d4 (n9 _)) (g6 (i7 (i:=4) F5.nd rfl (Or.inr rfl) (i6 p8 (i9 aa4 rfl T.m_abs boot_abs (b7 (m6 C__law_cell_at hr rfl (b7 (pv 0) (b7 d4 d5 i0) b8)) d5 m8)) (i6 aP4 d4 (h9 (g7 K) (pv 1) d4 (fun _ _=>rfl)))))) n6))) n6)
  (d6 (i7 (i:=5) F5.nd rfl (Or.inl rfl) (i9 (u6 K) rfl T.m_len boot_len (b7 (N8 (own:=["_law_k"]) (fr:=[(4,"_law_shut")]) rfl (show CompScope ["_law_script","_law_hall_here","_law_table_here","_law_told","_law_shut","_law_many","_law_found","_law_due","_law_cut","_law_other"] (d7 (top 44)) _ _ _ from ⟨rfl,by decide +kernel,by decide +kernel,by decide +kernel,by decide +kernel⟩) (J4 rfl T.m_range (b7 (h9 (g7 K) (pv 1) d4 (fun _ _=>rfl)) d5 j6)) (fun cl C s H ex=>⟨(o9 (i:=0) (show (["_law_k","_law_shut"]:List Str).Nodup from by decide +kernel) rfl (Or.inl rfl) (Or.inr rfl)),(aB0 (m7 S1 (i6 p8 (i6 aw7 (pv 1) (pv 0)) d4) d4 (n9 _))),(pv 0)⟩)) d5 Z5)))
  (d6 (i7 (i:=6) F5.nd rfl (Or.inl rfl) (m6 C__law_answer hr rfl (b7 (pv 1) (b7 (pv 2) (b7 (pv 4) (b7 (pv 3) d5 b8) b8) b8) b8)))
  (d6 (i7 (i:=7) F5.nd rfl (Or.inl rfl) (m6 C__law_too_full hr rfl (b7 (pv 1) (b7 (pv 2) (b7 (pv 5) d5 b8) b8) b8)))
  (d6 (i7 (i:=8) F5.nd rfl (Or.inl rfl) (i6 p8 (m6 C__law_cell_at hr rfl (b7 (pv 0) (b7 d4 d5 i0) b8)) (i6 A4 (i9 (u6 K) rfl T.m_len boot_len (b7 (pv 2) d5 b8)) d4)))
  (d6 (y6 PassesOwn.never rfl (z9 K (C4 (b7 (i6 a49 (V3 (ao5 K) (pv 2) (Z7 (pv 8)) Z9) (V3 (ao5 K) (pv 2) Z9 (Z7 (pv 8)))) (b7 (w4 (Y4 K rfl) rfl T.m_list boot_list (b7 (w4 (Z1 K) rfl T.m_reversed boot_reversed (b7 (pv 2) d5 b8)) d5 m8)) d5 m8) r6))) (o9 (i:=9) F5.nd rfl (Or.inl rfl))
  (g6 (y8 (m7 (aG1 K (Room.units9 hr)) (m6 C__law_answer hr rfl (b7 (pv 1) (b7 (pv 9) (b7 (pv 4) (b7 (pv 3) d5 b8) b8) b8) b8)) (pv 6) (n9 _)) (g6 (j8 J6)) n6)))
  (d6 (y8 (m7 am5 (pv 7) L5 (n9 _)) (g6 (j8 (ai3 (aG8 K (Room.units9 hr)) (pv 6) (m9 (b7 W2 (b7 (pv 7) d5 b8) i0)) (n9 _)))) n6)
  (d6 (y8 (PW.pt (M4 (m7 am6 (h9 (g7 K) (pv 6) d4 (fun _ _=>rfl)) W2 (n9 _)) (O9 (L7 (C0 K (m6 C__law_right hr rfl (b7 (pv 1) (b7 (h9 (g7 K) (pv 6) d4 (fun _ _=>rfl)) (b7 (pv 2) (b7 (pv 4) d5 b8) b8) j6) b8)) (fun _=>rfl)))))) (g6 (j8 J6)) n6)
  (g6 (j8 (m6 C__law_walked hr rfl (b7 (pv 1) (b7 (h9 (g7 K) (pv 6) d4 (fun _ _=>rfl)) d5 j6) b8)))))))))))))))),?_⟩
 refine ⟨_,rfl,a,ns,0,rfl,hS,_,rfl,fun p h H1 ok s1 ep=>?_⟩
 have hm:=ok.m
 refine ⟨_,rfl,_,rfl,a,p,ns,h,63,rfl,s1.seq hS,h63,SqT.of ep,ok,by decide,by decide,fun r as ps H2 s2' hr2 er prs tok pl=>?_⟩
 have s2:=s1.trans s2'
 have ep2:=s2' _ _ ep
 have la:as.length = ps.length:=Paired.length prs
 have hpow:(0:Int) < 1 * 2 ^ h.m.toNat:=by
  rw [Int.one_mul]
  exact Int.pow_pos (by decide)
 have cpow:a79 1 h.m:=⟨by lia,by lia,by decide⟩
 refine ⟨_,rfl,a,ns,2,rfl,s2.seq hS,_,_,rfl,rfl,(by show (0:Int) < 3; decide),rfl,?_⟩
 generalize decide (V.int ((fun i j:Int=>i % j) (cell ns 2) 3) = V.int 0) = b
 dsimp only [U6,aJ6]
 refine ak1 (fun σ' G=>G = H2 ∧ σ' = [some (.ref a),some (.ref p),some (.ref r),some (.bl b),some (.int 0),none,none,none,none,none]) (fun R rest=>rest _ _ ⟨rfl,rfl⟩) ?_
 rintro _ H2 ⟨rfl,rfl⟩
 refine ak1 (fun σ' G=>G = H2 ∧ ∃ sh:Int,0 ≤ sh ∧ (b = false → sh = 0) ∧ σ' = [some (.ref a),some (.ref p),some (.ref r),some (.bl b),some (.int sh),none,none,none,none,none]) (fun R rest=>?_) ?_
 ·refine ⟨_,rfl,_,rfl,?_⟩
  cases b with
  | false=>exact D9 (rest _ _ ⟨rfl,0,by decide,fun _=>rfl,rfl⟩)
  | true =>
   refine T5 ⟨_,rfl,a,ns,3,rfl,s2.seq hS,_,3,rfl,by decide,fun v v0 v1=>⟨_,rfl,p,_,_,_,rfl,rfl,SqT.of ep2,rfl,_,_,rfl,rfl,cpow,_,_,rfl,rfl,hpow,?_⟩⟩
   refine ⟨_,rfl,a,ns,0,rfl,s2.seq hS,_,_,rfl,rfl,(by show (0:Int) < 2; decide),rfl,_,rfl,O7 (fun z=>?_) (fun z=>?_)⟩
   ·exact ⟨_,rfl,a,ns,3,rfl,s2.seq hS,_,rfl,_,rfl,p,_,_,_,rfl,rfl,SqT.of ep2,rfl,_,_,rfl,rfl,cpow,_,_,rfl,rfl,hpow,rest _ _ ⟨rfl,_,Int.emod_nonneg _ (Int.ne_of_gt hpow),fun z=>(nomatch z),rfl⟩⟩
   ·exact rest _ _ ⟨rfl,_,Int.emod_nonneg _ (Int.ne_of_gt hpow),fun z=>(nomatch z),rfl⟩
 rintro σ' G ⟨rfl,sh,sh0,hb,rfl⟩
 refine ⟨_,rfl,p,_,_,_,rfl,rfl,SqT.of ep2,rfl,_,rfl,by show -(2 ^ 62) ≤ h.m; lia,by show h.m < 2 ^ 62; lia,?_⟩
 refine ac3 (fun i acc σ H'=>H' = G ∧ acc = F9 ((List.range i).filter (A5 sh)) ∧ ∃ v,σ = [v,some (.int sh)])
  ⟨rfl,rfl,none,rfl⟩ (by show h.m.toNat ≤ 16777216; lia) (fun i acc σ H' g=>?_) ?_ ?_
 ·obtain ⟨_,rfl,_⟩:=g
  unfold F9
  rw [List.length_map]
  have:=List.length_filter_le (A5 sh) (List.range i)
  rw [List.length_range] at this
  exact this
 ·rintro i acc σ H' hi ⟨rfl,rfl,v,rfl⟩
  rw [Int.zero_add]
  have om:=at9 sh0 i
  refine ⟨_,rfl,_,rfl,_,_,rfl,rfl,(by show (0:Int) ≤ (i:Int); lia),_,_,rfl,rfl,(by show (0:Int) < 2; decide),rfl,_,rfl,?_⟩
  refine O7 (fun c=>?_) (fun c=>?_)
  ·have c':sh / 2 ^ (i:Int).toNat % 2 = 0:=V.int.inj (of_decide_eq_true c)
   rw [Int.toNat_natCast] at c'
   refine ⟨_,rfl,rfl,?_,_,rfl⟩
   rw [ag7,om,decide_eq_true c']
   rfl
  ·have c':¬ sh / 2 ^ (i:Int).toNat % 2 = 0:=fun z=>c (decide_eq_true (congrArg V.int z))
   rw [Int.toNat_natCast] at c'
   refine ⟨rfl,?_,_,rfl⟩
   rw [ag7,om,decide_eq_false c']
   simp
 rintro acc σ H' ⟨rfl,rfl,v,rfl⟩ ol hol
 have s3:=d8 hol (.lst (F9 ((List.range h.m.toNat).filter (A5 sh))))
 have eol:=b9 (H:=H') (a:=ol) (o:=.lst (F9 ((List.range h.m.toNat).filter (A5 sh))))
 generalize upd H' ol (.lst (F9 ((List.range h.m.toNat).filter (A5 sh)))) = H3 at s3 eol ⊢
 have eN:(F9 ((List.range h.m.toNat).filter (A5 sh))).length = (u9 h sh).length:=by
  unfold F9 u9
  rw [List.length_map]
 refine ⟨ol,_,rfl,.inl (SqL.of eol),?_⟩
 rw [eN]
 have s23:=s2.trans s3
 have ep3:=s3 _ _ ep2
 have er3:=s3 _ _ er
 have prs3:o6 H3 as ps:=prs.same s3
 refine ⟨_,rfl,_,rfl,_,rfl,_,rfl,p,r,h,as,ps,sh,b,rfl,hb,SqT.of ep3,ok,er3,prs3,tok,pl,fun t qs H4 s4 pm srt ans=>?_⟩
 have s24:=s23.trans s4
 have ep4:=s4 _ _ ep3
 have er4:=s4 _ _ er3
 have prs4:o6 H4 as ps:=prs3.same s4
 dsimp only [U6,aJ6]
 refine ak1 (fun σ' G=>i4 H4 G ∧ ∃ vd:V,σ' = [some (.ref a),some (.ref p),some (.ref r),some (.bl b),some (.int sh),some (.int ((u9 h sh).length:Nat)),some (.ref t),some vd,none,none] ∧ ((vd = .non ∧ ∀ side r:Int,side = 0 ∨ side = 1 → (((rks side (ps.map (hv h))).count r:Nat):Int) ≤ ((u9 h sh).length:Nat)) ∨ ∃ (t2:Addr) (side r:Int),vd = .ref t2 ∧ FirstFull (ps.map (hv h)) ((u9 h sh).length:Nat) side r ∧ G t2 = some (.tup [.int side,.int r,.int ((rks side (ps.map (hv h))).count r:Nat)]))) (fun R rest=>?_) ?_
 ·refine ⟨_,rfl,_,rfl,_,rfl,p,r,h,as,ps,_,rfl,SqT.of ep4,ok,by lia,SqL.of er4,prs4,pl,fun H5 s5 few=>?_,fun side rk t2 H5 s5 ff et2=>?_⟩
  ·exact rest _ _ ⟨s5,_,rfl,.inl ⟨rfl,few⟩⟩
  ·exact rest _ _ ⟨s5,_,rfl,.inr ⟨t2,side,rk,rfl,ff,et2⟩⟩
 rintro σ' H5 ⟨s5,vd,rfl,due⟩
 have s25:=s24.trans s5
 have ep5:=s5 _ _ ep4
 have er5:=s5 _ _ er4
 have prs5:o6 H5 as ps:=prs4.same s5
 have ans5:=ans.same s5
 refine ⟨_,rfl,a,ns,5,rfl,s25.seq hS,_,rfl,r,_,rfl,.inl (SqL.of er5),_,_,rfl,rfl,_,_,rfl,rfl,(by show (0:Int) < (((as.map V.ref).length:Nat):Int) + 1; lia),?_⟩
 obtain ⟨c,hc⟩:=Int.eq_ofNat_of_zero_le (Int.emod_nonneg (cell ns 5) (show (((as.map V.ref).length:Nat):Int) + 1 ≠ 0 by lia))
 dsimp -proj only
 rw [hc]
 refine ⟨_,rfl,_,rfl,_,rfl,r,_,rfl,SqL.of er5,fun l1 hl1=>?_⟩
 rw [a05]
 have u1:=d8 hl1 (.lst ((as.map V.ref).drop c))
 have el1:=b9 (H:=H5) (a:=l1) (o:=.lst ((as.map V.ref).drop c))
 generalize upd H5 l1 (.lst ((as.map V.ref).drop c)) = G1 at u1 el1 ⊢
 refine ⟨_,rfl,_,rfl,_,rfl,r,_,rfl,SqL.of (u1 _ _ er5),fun l2 hl2=>?_⟩
 rw [a04]
 have u2':=d8 hl2 (.lst ((as.map V.ref).take c))
 have el2:=b9 (H:=G1) (a:=l2) (o:=.lst ((as.map V.ref).take c))
 have el12:=u2' _ _ el1
 have u2:=u1.trans u2'
 generalize upd G1 l2 (.lst ((as.map V.ref).take c)) = G2 at u2 el2 el12 ⊢
 refine ⟨l1,l2,_,_,rfl,rfl,el12,el2,Nat.le_of_lt (m3 (by rw [List.length_drop,List.length_take,List.length_map]; lia)),fun l3 hl3=>?_⟩
 have u3':=d8 hl3 (.lst ((as.map V.ref).drop c ++ (as.map V.ref).take c))
 have el3:=b9 (H:=G2) (a:=l3) (o:=.lst ((as.map V.ref).drop c ++ (as.map V.ref).take c))
 have u3:=u2.trans u3'
 generalize upd G2 l3 (.lst ((as.map V.ref).drop c ++ (as.map V.ref).take c)) = G3 at u3 el3 ⊢
 refine ⟨_,rfl,r,_,rfl,SqL.of (u3 _ _ er5),fun l4 hl4=>?_⟩
 have nl4:r ≠ l4:=g9 (u3 _ _ er5) hl4
 refine ⟨l4,r,_,rfl,b9,SqL.of (by rw [d9 nl4]; exact u3 _ _ er5),nl4,fun l5 hl5=>?_⟩
 have u4:i4 G3 (upd (upd (upd G3 l4 (ai8 l4 r (as.map V.ref).length)) l4 Y2) l5 (.lst (as.map V.ref).reverse)):=i4.put (i4.put (d8 hl4 _) hl4) ((d8 hl4 _).free hl5)
 have el5:=b9 (H:=upd (upd G3 l4 (ai8 l4 r (as.map V.ref).length)) l4 Y2) (a:=l5) (o:=.lst (as.map V.ref).reverse)
 generalize upd (upd (upd G3 l4 (ai8 l4 r (as.map V.ref).length)) l4 Y2) l5 (.lst (as.map V.ref).reverse) = G4 at u4 el5 ⊢
 refine ⟨(by show 2 ≤ sizeLine; decide),fun lo hlo=>?_⟩
 have u5':=d8 hlo (.lst [.ref l3,.ref l5])
 have elo:=b9 (H:=G4) (a:=lo) (o:=.lst [.ref l3,.ref l5])
 have u5:=u3.trans (u4.trans u5')
 have el35:=u5' _ _ (u4 _ _ el3)
 have el55:=u5' _ _ el5
 generalize upd G4 lo (.lst [.ref l3,.ref l5]) = H6 at u5 elo el35 el55 ⊢
 have s26:=s25.trans u5
 have ep6:=u5 _ _ ep5
 have er6:=u5 _ _ er5
 have prs6:o6 H6 as ps:=prs5.same u5
 have ans6:=ans5.same u5
 have others:∀ (i:Nat) (x:V),([V.ref l3,V.ref l5]:List V)[i]? = some x → ∃ (o:Addr) (as':List Addr) (ps':List (Int × Int)),x = .ref o ∧ H6 o = some (.lst (as'.map V.ref)) ∧ o6 H6 as' ps' ∧ ps'.Perm ps:=fun i x hx=>by
  match i,hx with
  | 0,hx =>
   cases hx
   refine ⟨l3,as.drop c ++ as.take c,ps.drop c ++ ps.take c,rfl,by rw [List.map_append,List.map_drop,List.map_take]; exact el35,S3 (X8 c prs6) (X9 c prs6),?_⟩
   have:=List.perm_append_comm (l₁:=ps.drop c) (l₂:=ps.take c)
   rwa [List.take_append_drop] at this
  | 1,hx =>
   cases hx
   exact ⟨l5,as.reverse,ps.reverse,rfl,by rw [List.map_reverse]; exact el55,ac9 prs6,List.reverse_perm _⟩
 refine ⟨lo,rfl,⟨_,SqL.of elo⟩,?_⟩
 refine B0 (xs:=[.ref l3,.ref l5]) (fun i σ G=>i4 H6 G ∧ ∃ v9,σ = [some (.ref a),some (.ref p),some (.ref r),some (.bl b),some (.int sh),some (.int ((u9 h sh).length:Nat)),some (.ref t),some vd,some (.int (c:Int)),v9])
  ⟨i4.refl _,none,rfl⟩ (fun i σ G _ g=>SqL.of (g.1 _ _ elo)) ?_ ?_
 ·rintro i x σ G hx ⟨sG,v9,rfl⟩
  obtain ⟨o,as',ps',rfl,eo,prs',pm'⟩:=others i x hx
  refine ⟨_,rfl,_,rfl,_,rfl,_,rfl,p,o,h,as',ps',sh,b,rfl,hb,SqT.of (sG _ _ ep6),ok,sG _ _ eo,prs'.same sG,tok.perm pm',by rw [pm'.length_eq]; exact pl,fun t' qs' G' s' pm2 srt2 ans'=>?_⟩
  obtain rfl:qs' = qs:=aK3 (pm2.trans (pm'.trans pm.symm)) srt2 srt
  exact ⟨_,rfl,ans'.like (ans6.same (sG.trans s')),_,rfl,D9 ⟨sG.trans s',_,rfl⟩⟩
 rintro σ G ⟨sG,v9,rfl⟩
 have ep7:=sG _ _ ep6
 have er7:=sG _ _ er6
 have prs7:o6 G as ps:=prs6.same sG
 have ans7:=ans6.same sG
 refine ⟨_,rfl,rfl,_,rfl,?_⟩
 rcases due with ⟨rfl,few⟩ | ⟨t2,side,rk,rfl,ff,et2⟩
 ·refine aQ2 rfl ?_
  rcases ans7 with ⟨rr,bs,nn,e1,e2,cb,td⟩ | ⟨t3,side,rk,e1,e2,ff⟩
  ·refine ⟨_,rfl,t,_,_,_,rfl,rfl,SqT.of e1,rfl,rfl,_,rfl,aQ2 rfl ?_⟩
   refine ⟨_,rfl,_,rfl,t,_,_,_,rfl,rfl,SqT.of e1,rfl,_,rfl,_,rfl,p,rr,r,h,bs,as,ps,qs,nn,sh,rfl,SqT.of ep7,ok,sh0,e2,cb,td,er7,prs7,tok,pm,srt,pl,fun G2 s8=>?_⟩
   refine ⟨true,rfl,D9 ?_⟩
   exact ⟨_,rfl,_,rfl,t,_,_,_,rfl,rfl,SqT.of (s8 _ _ e1),rfl,p,rr,h,bs,ps,qs,nn,sh,rfl,SqT.of (s8 _ _ ep7),ok,s8 _ _ e2,cb.mono fun a xs z=>s8 _ _ z,td,tok,pm,srt,pl,fun G3 _=>q G3⟩
  ·have:=few side rk ff.sd
   rw [← M5 pm] at this
   exact absurd this (by have:=ff.full; lia)
 ·refine T5 ?_
  refine ⟨_,rfl,_,rfl,(by show 2 ≤ sizeLine; decide),fun tt htt=>⟨?_,q _⟩⟩
  have u8:=d8 htt (.tup [.str "full",.ref t2])
  rcases ans7 with ⟨rr,bs,nn,e1,e2,cb,td⟩ | ⟨t3,side',rk',e1,e2,ff'⟩
  ·have:=td.few side rk ff.sd
   rw [M5 pm] at this
   exact absurd this (by have:=ff.full; lia)
  ·obtain ⟨rfl,rfl⟩:=(ff'.perm pm).one ff
   have e3:=u8 _ _ e2
   rw [M5 pm] at e3
   exact ⟨t,tt,_,t3,t2,rfl,rfl,SqT.of (u8 _ _ e1),SqT.of b9,.inr ⟨[side',rk',((rks side' (ps.map (hv h))).count rk':Nat)],SqT.of e3,SqT.of (u8 _ _ (sG _ _ (u5 _ _ et2)))⟩⟩
end
section
variable {l:PySem.W.OpenLaw} {w:World} {K:PySem.W.Frag} {h:Heap} {mg:Str → Option Value}
theorem p5 {x:Str} {st:Stmt} {ps:List Str} {f:Addr} {oc:Value} {od an:Option Addr} {sl:Array (Option Value)} {kV dc pm cd ct:Value} (X:K.In h) (G:h.Ns mainGlobals mg) (a:PySem.W.nsIn K mainGlobals x = some (some (.ref f)))
  (l:K.lookup f = some ⟨oc,od,.func (PySem.W.fnOf x x (j0 st) (i8 st) (d7 st) .none kV dc pm an cd ct),sl⟩) (c:PySem.W.codeIn K cd x = true) (k:PySem.W.keepIn K (.ref f) = true)
  (b:∀ us:List Value,us.length = ps.length → bindArgs (PySem.W.fnOf x x (j0 st) (i8 st) (d7 st) .none kV dc pm an cd ct) ⟨us,[]⟩ = pure (ps.zip us)):Def K mg x st ps :=
 ⟨f,_,aN1 l c k,.all b,PySem.W.mg_of X G a⟩
theorem aY9 {fa f1 f2 f3 f4 f5 f6 f7 f8 f9 f10 f11 f12 f13 f14 f15 f16 f17 f18 f19 f20 f21 f22 f23 f24 f25 f26 f27 f28 f29 f30 f31 f32 f33  C_HallError C_TooFull C_NoTable fm_TooFull___init__ fm_NoTable___init__:Addr} (X:K.In h) (G:h.Ns mainGlobals mg) (hfa:mg "law" = some (.ref fa))
  {od1 an1 od2 an2 od3 an3 od4 an4 od5 an5 od6 an6 od7 an7 od8 an8 od9 an9 od10 an10 od11 an11 od12 an12 od13 an13 od14 an14 od15 an15 od16 an16 od17 an17 od18 an18 od19 an19 od20 an20 od21 an21 od22 an22 od23 an23 od24 an24 od25 an25 od26 an26 od27 an27 od28 an28 od29 an29 od30 an30 od31 an31 od32 an32 od33 an33:Option Addr} {sl1 sl2 sl3 sl4 sl5 sl6 sl7 sl8 sl9 sl10 sl11 sl12 sl13 sl14 sl15 sl16 sl17 sl18 sl19 sl20 sl21 sl22 sl23 sl24 sl25 sl26 sl27 sl28 sl29 sl30 sl31 sl32 sl33:Array (Option Value)} {oc1 kV1 dc1 pm1 cd1 ct1 oc2 kV2 dc2 pm2 cd2 ct2 oc3 kV3 dc3 pm3 cd3 ct3 oc4 kV4 dc4 pm4 cd4 ct4 oc5 kV5 dc5 pm5 cd5 ct5 oc6 kV6 dc6 pm6 cd6 ct6 oc7 kV7 dc7 pm7 cd7 ct7 oc8 kV8 dc8 pm8 cd8 ct8 oc9 kV9 dc9 pm9 cd9 ct9 oc10 kV10 dc10 pm10 cd10 ct10 oc11 kV11 dc11 pm11 cd11 ct11 oc12 kV12 dc12 pm12 cd12 ct12 oc13 kV13 dc13 pm13 cd13 ct13 oc14 kV14 dc14 pm14 cd14 ct14 oc15 kV15 dc15 pm15 cd15 ct15 oc16 kV16 dc16 pm16 cd16 ct16 oc17 kV17 dc17 pm17 cd17 ct17 oc18 kV18 dc18 pm18 cd18 ct18 oc19 kV19 dc19 pm19 cd19 ct19 oc20 kV20 dc20 pm20 cd20 ct20 oc21 kV21 dc21 pm21 cd21 ct21 oc22 kV22 dc22 pm22 cd22 ct22 oc23 kV23 dc23 pm23 cd23 ct23 oc24 kV24 dc24 pm24 cd24 ct24 oc25 kV25 dc25 pm25 cd25 ct25 oc26 kV26 dc26 pm26 cd26 ct26 oc27 kV27 dc27 pm27 cd27 ct27 oc28 kV28 dc28 pm28 cd28 ct28 oc29 kV29 dc29 pm29 cd29 ct29 oc30 kV30 dc30 pm30 cd30 ct30 oc31 kV31 dc31 pm31 cd31 ct31 oc32 kV32 dc32 pm32 cd32 ct32 oc33 kV33 dc33 pm33 cd33 ct33:Value}
  {dv19:Addr} {odv19:Option Addr} {slv19:Array (Option Value)} {nv19:Nat} {td19_0:Tok}
  {dv20:Addr} {odv20:Option Addr} {slv20:Array (Option Value)} {nv20:Nat} {td20_0:Tok}
  (a1:PySem.W.nsIn K mainGlobals "is_number" = some (some (.ref f1))) (l1:K.lookup f1 = some ⟨oc1,od1,.func (PySem.W.fnOf "is_number" "is_number" (j0 (top 5)) (i8 (top 5)) (d7 (top 5)) .none kV1 dc1 pm1 an1 cd1 ct1),sl1⟩) (c1:PySem.W.codeIn K cd1 "is_number" = true) (k1:PySem.W.keepIn K (.ref f1) = true)
  (a2:PySem.W.nsIn K mainGlobals "is_whole" = some (some (.ref f2))) (l2:K.lookup f2 = some ⟨oc2,od2,.func (PySem.W.fnOf "is_whole" "is_whole" (j0 (top 6)) (i8 (top 6)) (d7 (top 6)) .none kV2 dc2 pm2 an2 cd2 ct2),sl2⟩) (c2:PySem.W.codeIn K cd2 "is_whole" = true) (k2:PySem.W.keepIn K (.ref f2) = true)
  (a3:PySem.W.nsIn K mainGlobals "place_in" = some (some (.ref f3))) (l3:K.lookup f3 = some ⟨oc3,od3,.func (PySem.W.fnOf "place_in" "place_in" (j0 (top 7)) (i8 (top 7)) (d7 (top 7)) .none kV3 dc3 pm3 an3 cd3 ct3),sl3⟩) (c3:PySem.W.codeIn K cd3 "place_in" = true) (k3:PySem.W.keepIn K (.ref f3) = true)
  (a4:PySem.W.nsIn K mainGlobals "place_out" = some (some (.ref f4))) (l4:K.lookup f4 = some ⟨oc4,od4,.func (PySem.W.fnOf "place_out" "place_out" (j0 (top 8)) (i8 (top 8)) (d7 (top 8)) .none kV4 dc4 pm4 an4 cd4 ct4),sl4⟩) (c4:PySem.W.codeIn K cd4 "place_out" = true) (k4:PySem.W.keepIn K (.ref f4) = true)
  (a5:PySem.W.nsIn K mainGlobals "racks_of" = some (some (.ref f5))) (l5:K.lookup f5 = some ⟨oc5,od5,.func (PySem.W.fnOf "racks_of" "racks_of" (j0 (top 9)) (i8 (top 9)) (d7 (top 9)) .none kV5 dc5 pm5 an5 cd5 ct5),sl5⟩) (c5:PySem.W.codeIn K cd5 "racks_of" = true) (k5:PySem.W.keepIn K (.ref f5) = true)
  (a6:PySem.W.nsIn K mainGlobals "is_entry" = some (some (.ref f6))) (l6:K.lookup f6 = some ⟨oc6,od6,.func (PySem.W.fnOf "is_entry" "is_entry" (j0 (top 11)) (i8 (top 11)) (d7 (top 11)) .none kV6 dc6 pm6 an6 cd6 ct6),sl6⟩) (c6:PySem.W.codeIn K cd6 "is_entry" = true) (k6:PySem.W.keepIn K (.ref f6) = true)
  (a7:PySem.W.nsIn K mainGlobals "first_wrong" = some (some (.ref f7))) (l7:K.lookup f7 = some ⟨oc7,od7,.func (PySem.W.fnOf "first_wrong" "first_wrong" (j0 (top 12)) (i8 (top 12)) (d7 (top 12)) .none kV7 dc7 pm7 an7 cd7 ct7),sl7⟩) (c7:PySem.W.codeIn K cd7 "first_wrong" = true) (k7:PySem.W.keepIn K (.ref f7) = true)
  (a8:PySem.W.nsIn K mainGlobals "left_open" = some (some (.ref f8))) (l8:K.lookup f8 = some ⟨oc8,od8,.func (PySem.W.fnOf "left_open" "left_open" (j0 (top 14)) (i8 (top 14)) (d7 (top 14)) .none kV8 dc8 pm8 an8 cd8 ct8),sl8⟩) (c8:PySem.W.codeIn K cd8 "left_open" = true) (k8:PySem.W.keepIn K (.ref f8) = true)
  (a9:PySem.W.nsIn K mainGlobals "side_weights" = some (some (.ref f9))) (l9:K.lookup f9 = some ⟨oc9,od9,.func (PySem.W.fnOf "side_weights" "side_weights" (j0 (top 16)) (i8 (top 16)) (d7 (top 16)) .none kV9 dc9 pm9 an9 cd9 ct9),sl9⟩) (c9:PySem.W.codeIn K cd9 "side_weights" = true) (k9:PySem.W.keepIn K (.ref f9) = true)
  (a10:PySem.W.nsIn K mainGlobals "refuse_full" = some (some (.ref f10))) (l10:K.lookup f10 = some ⟨oc10,od10,.func (PySem.W.fnOf "refuse_full" "refuse_full" (j0 (top 18)) (i8 (top 18)) (d7 (top 18)) .none kV10 dc10 pm10 an10 cd10 ct10),sl10⟩) (c10:PySem.W.codeIn K cd10 "refuse_full" = true) (k10:PySem.W.keepIn K (.ref f10) = true)
  (a11:PySem.W.nsIn K mainGlobals "take" = some (some (.ref f11))) (l11:K.lookup f11 = some ⟨oc11,od11,.func (PySem.W.fnOf "take" "take" (j0 (top 19)) (i8 (top 19)) (d7 (top 19)) .none kV11 dc11 pm11 an11 cd11 ct11),sl11⟩) (c11:PySem.W.codeIn K cd11 "take" = true) (k11:PySem.W.keepIn K (.ref f11) = true)
  (a12:PySem.W.nsIn K mainGlobals "leave" = some (some (.ref f12))) (l12:K.lookup f12 = some ⟨oc12,od12,.func (PySem.W.fnOf "leave" "leave" (j0 (top 20)) (i8 (top 20)) (d7 (top 20)) .none kV12 dc12 pm12 an12 cd12 ct12),sl12⟩) (c12:PySem.W.codeIn K cd12 "leave" = true) (k12:PySem.W.keepIn K (.ref f12) = true)
  (a13:PySem.W.nsIn K mainGlobals "first_left" = some (some (.ref f13))) (l13:K.lookup f13 = some ⟨oc13,od13,.func (PySem.W.fnOf "first_left" "first_left" (j0 (top 21)) (i8 (top 21)) (d7 (top 21)) .none kV13 dc13 pm13 an13 cd13 ct13),sl13⟩) (c13:PySem.W.codeIn K cd13 "first_left" = true) (k13:PySem.W.keepIn K (.ref f13) = true)
  (a14:PySem.W.nsIn K mainGlobals "chain_along" = some (some (.ref f14))) (l14:K.lookup f14 = some ⟨oc14,od14,.func (PySem.W.fnOf "chain_along" "chain_along" (j0 (top 22)) (i8 (top 22)) (d7 (top 22)) .none kV14 dc14 pm14 an14 cd14 ct14),sl14⟩) (c14:PySem.W.codeIn K cd14 "chain_along" = true) (k14:PySem.W.keepIn K (.ref f14) = true)
  (a15:PySem.W.nsIn K mainGlobals "exchange" = some (some (.ref f15))) (l15:K.lookup f15 = some ⟨oc15,od15,.func (PySem.W.fnOf "exchange" "exchange" (j0 (top 23)) (i8 (top 23)) (d7 (top 23)) .none kV15 dc15 pm15 an15 cd15 ct15),sl15⟩) (c15:PySem.W.codeIn K cd15 "exchange" = true) (k15:PySem.W.keepIn K (.ref f15) = true)
  (a16:PySem.W.nsIn K mainGlobals "parted" = some (some (.ref f16))) (l16:K.lookup f16 = some ⟨oc16,od16,.func (PySem.W.fnOf "parted" "parted" (j0 (top 24)) (i8 (top 24)) (d7 (top 24)) .none kV16 dc16 pm16 an16 cd16 ct16),sl16⟩) (c16:PySem.W.codeIn K cd16 "parted" = true) (k16:PySem.W.keepIn K (.ref f16) = true)
  (a17:PySem.W.nsIn K mainGlobals "refuse_table" = some (some (.ref f17))) (l17:K.lookup f17 = some ⟨oc17,od17,.func (PySem.W.fnOf "refuse_table" "refuse_table" (j0 (top 26)) (i8 (top 26)) (d7 (top 26)) .none kV17 dc17 pm17 an17 cd17 ct17),sl17⟩) (c17:PySem.W.codeIn K cd17 "refuse_table" = true) (k17:PySem.W.keepIn K (.ref f17) = true)
  (a18:PySem.W.nsIn K mainGlobals "pairs_of" = some (some (.ref f18))) (l18:K.lookup f18 = some ⟨oc18,od18,.func (PySem.W.fnOf "pairs_of" "pairs_of" (j0 (top 27)) (i8 (top 27)) (d7 (top 27)) .none kV18 dc18 pm18 an18 cd18 ct18),sl18⟩) (c18:PySem.W.codeIn K cd18 "pairs_of" = true) (k18:PySem.W.keepIn K (.ref f18) = true)
  (dl19:K.lookup dv19 = some ⟨.type "tuple",odv19,.seq #[.int 0 td19_0] nv19,slv19⟩)
  (a19:PySem.W.nsIn K mainGlobals "open_racks" = some (some (.ref f19))) (l19:K.lookup f19 = some ⟨oc19,od19,.func (PySem.W.fnOf "open_racks" "open_racks" (j0 (top 28)) (i8 (top 28)) (d7 (top 28)) (.ref dv19) kV19 dc19 pm19 an19 cd19 ct19),sl19⟩) (c19:PySem.W.codeIn K cd19 "open_racks" = true) (k19:PySem.W.keepIn K (.ref f19) = true)
  (dl20:K.lookup dv20 = some ⟨.type "tuple",odv20,.seq #[.int 0 td20_0] nv20,slv20⟩)
  (a20:PySem.W.nsIn K mainGlobals "at_once" = some (some (.ref f20))) (l20:K.lookup f20 = some ⟨oc20,od20,.func (PySem.W.fnOf "at_once" "at_once" (j0 (top 29)) (i8 (top 29)) (d7 (top 29)) (.ref dv20) kV20 dc20 pm20 an20 cd20 ct20),sl20⟩) (c20:PySem.W.codeIn K cd20 "at_once" = true) (k20:PySem.W.keepIn K (.ref f20) = true)
  (a21:PySem.W.nsIn K mainGlobals "bars_of" = some (some (.ref f21))) (l21:K.lookup f21 = some ⟨oc21,od21,.func (PySem.W.fnOf "bars_of" "bars_of" (j0 (top 31)) (i8 (top 31)) (d7 (top 31)) .none kV21 dc21 pm21 an21 cd21 ct21),sl21⟩) (c21:PySem.W.codeIn K cd21 "bars_of" = true) (k21:PySem.W.keepIn K (.ref f21) = true)
  (a22:PySem.W.nsIn K mainGlobals "_law_cell_at" = some (some (.ref f22))) (l22:K.lookup f22 = some ⟨oc22,od22,.func (PySem.W.fnOf "_law_cell_at" "_law_cell_at" (j0 (top 33)) (i8 (top 33)) (d7 (top 33)) .none kV22 dc22 pm22 an22 cd22 ct22),sl22⟩) (c22:PySem.W.codeIn K cd22 "_law_cell_at" = true) (k22:PySem.W.keepIn K (.ref f22) = true)
  (a23:PySem.W.nsIn K mainGlobals "_law_mixed" = some (some (.ref f23))) (l23:K.lookup f23 = some ⟨oc23,od23,.func (PySem.W.fnOf "_law_mixed" "_law_mixed" (j0 (top 34)) (i8 (top 34)) (d7 (top 34)) .none kV23 dc23 pm23 an23 cd23 ct23),sl23⟩) (c23:PySem.W.codeIn K cd23 "_law_mixed" = true) (k23:PySem.W.keepIn K (.ref f23) = true)
  (a24:PySem.W.nsIn K mainGlobals "_law_whole" = some (some (.ref f24))) (l24:K.lookup f24 = some ⟨oc24,od24,.func (PySem.W.fnOf "_law_whole" "_law_whole" (j0 (top 35)) (i8 (top 35)) (d7 (top 35)) .none kV24 dc24 pm24 an24 cd24 ct24),sl24⟩) (c24:PySem.W.codeIn K cd24 "_law_whole" = true) (k24:PySem.W.keepIn K (.ref f24) = true)
  (a25:PySem.W.nsIn K mainGlobals "_law_digit" = some (some (.ref f25))) (l25:K.lookup f25 = some ⟨oc25,od25,.func (PySem.W.fnOf "_law_digit" "_law_digit" (j0 (top 36)) (i8 (top 36)) (d7 (top 36)) .none kV25 dc25 pm25 an25 cd25 ct25),sl25⟩) (c25:PySem.W.codeIn K cd25 "_law_digit" = true) (k25:PySem.W.keepIn K (.ref f25) = true)
  (a26:PySem.W.nsIn K mainGlobals "_law_hall" = some (some (.ref f26))) (l26:K.lookup f26 = some ⟨oc26,od26,.func (PySem.W.fnOf "_law_hall" "_law_hall" (j0 (top 37)) (i8 (top 37)) (d7 (top 37)) .none kV26 dc26 pm26 an26 cd26 ct26),sl26⟩) (c26:PySem.W.codeIn K cd26 "_law_hall" = true) (k26:PySem.W.keepIn K (.ref f26) = true)
  (a27:PySem.W.nsIn K mainGlobals "_law_free_table" = some (some (.ref f27))) (l27:K.lookup f27 = some ⟨oc27,od27,.func (PySem.W.fnOf "_law_free_table" "_law_free_table" (j0 (top 38)) (i8 (top 38)) (d7 (top 38)) .none kV27 dc27 pm27 an27 cd27 ct27),sl27⟩) (c27:PySem.W.codeIn K cd27 "_law_free_table" = true) (k27:PySem.W.keepIn K (.ref f27) = true)
  (a28:PySem.W.nsIn K mainGlobals "_law_table" = some (some (.ref f28))) (l28:K.lookup f28 = some ⟨oc28,od28,.func (PySem.W.fnOf "_law_table" "_law_table" (j0 (top 39)) (i8 (top 39)) (d7 (top 39)) .none kV28 dc28 pm28 an28 cd28 ct28),sl28⟩) (c28:PySem.W.codeIn K cd28 "_law_table" = true) (k28:PySem.W.keepIn K (.ref f28) = true)
  (a29:PySem.W.nsIn K mainGlobals "_law_too_full" = some (some (.ref f29))) (l29:K.lookup f29 = some ⟨oc29,od29,.func (PySem.W.fnOf "_law_too_full" "_law_too_full" (j0 (top 40)) (i8 (top 40)) (d7 (top 40)) .none kV29 dc29 pm29 an29 cd29 ct29),sl29⟩) (c29:PySem.W.codeIn K cd29 "_law_too_full" = true) (k29:PySem.W.keepIn K (.ref f29) = true)
  (a30:PySem.W.nsIn K mainGlobals "_law_answer" = some (some (.ref f30))) (l30:K.lookup f30 = some ⟨oc30,od30,.func (PySem.W.fnOf "_law_answer" "_law_answer" (j0 (top 41)) (i8 (top 41)) (d7 (top 41)) .none kV30 dc30 pm30 an30 cd30 ct30),sl30⟩) (c30:PySem.W.codeIn K cd30 "_law_answer" = true) (k30:PySem.W.keepIn K (.ref f30) = true)
  (a31:PySem.W.nsIn K mainGlobals "_law_right" = some (some (.ref f31))) (l31:K.lookup f31 = some ⟨oc31,od31,.func (PySem.W.fnOf "_law_right" "_law_right" (j0 (top 42)) (i8 (top 42)) (d7 (top 42)) .none kV31 dc31 pm31 an31 cd31 ct31),sl31⟩) (c31:PySem.W.codeIn K cd31 "_law_right" = true) (k31:PySem.W.keepIn K (.ref f31) = true)
  (a32:PySem.W.nsIn K mainGlobals "_law_walked" = some (some (.ref f32))) (l32:K.lookup f32 = some ⟨oc32,od32,.func (PySem.W.fnOf "_law_walked" "_law_walked" (j0 (top 43)) (i8 (top 43)) (d7 (top 43)) .none kV32 dc32 pm32 an32 cd32 ct32),sl32⟩) (c32:PySem.W.codeIn K cd32 "_law_walked" = true) (k32:PySem.W.keepIn K (.ref f32) = true)
  (a33:PySem.W.nsIn K mainGlobals "law" = some (some (.ref f33))) (l33:K.lookup f33 = some ⟨oc33,od33,.func (PySem.W.fnOf "law" "law" (j0 (top 44)) (i8 (top 44)) (d7 (top 44)) .none kV33 dc33 pm33 an33 cd33 ct33),sl33⟩) (c33:PySem.W.codeIn K cd33 "law" = true) (k33:PySem.W.keepIn K (.ref f33) = true)
  (q_HallError_at:PySem.W.nsIn K mainGlobals "HallError" = some (some (.ref C_HallError)))
  (q_TooFull_at:PySem.W.nsIn K mainGlobals "TooFull" = some (some (.ref C_TooFull)))
  (q_NoTable_at:PySem.W.nsIn K mainGlobals "NoTable" = some (some (.ref C_NoTable)))
  (q_HallError_ic:PySem.W.isClsIn K C_HallError = true) (q_HallError_ty:PySem.W.typeIn K (.ref C_HallError) = some (.type "type"))
  (q_TooFull_ic:PySem.W.isClsIn K C_TooFull = true) (q_TooFull_ty:PySem.W.typeIn K (.ref C_TooFull) = some (.type "type"))
  (q_NoTable_ic:PySem.W.isClsIn K C_NoTable = true) (q_NoTable_ty:PySem.W.typeIn K (.ref C_NoTable) = some (.type "type"))
  (q_hb:PySem.W.subIn K (.ref C_HallError) (.type "BaseException") = some true) (q_gt:PySem.W.specialIn K (.builtin "object.__class__") "__get__" = some (some (.builtin "getset_descriptor.__get__"))) (q_tk:PySem.W.takesIn K (.builtin "object.__class__") = some true)
  (q_TooFull_sa:PySem.W.findIn K (.ref C_TooFull) "__setattr__" = some (some (.builtin "object.__setattr__")))
  (q_TooFull_f_side:PySem.W.findIn K (.ref C_TooFull) "side" = some none)
  (q_TooFull_f_rack:PySem.W.findIn K (.ref C_TooFull) "rack" = some none)
  (q_TooFull_f_many:PySem.W.findIn K (.ref C_TooFull) "many" = some none)
  (q_TooFull_ga:PySem.W.findIn K (.ref C_TooFull) "__getattribute__" = some (some (.builtin "BaseException.__getattribute__"))) (q_TooFull_gn:PySem.W.findIn K (.ref C_TooFull) "__getattr__" = some none) (q_TooFull_cl:PySem.W.findIn K (.ref C_TooFull) "__class__" = some (some (.builtin "object.__class__"))) (q_TooFull_mo:PySem.W.mroIn K C_TooFull (.type "object") = some true) (q_TooFull_mb:PySem.W.mroIn K C_TooFull (.type "BaseException") = some true) (q_TooFull_sv:PySem.W.subIn K (.ref C_TooFull) (.type "ValueError") = some true)
  (q_TooFull_s_HallError:PySem.W.subIn K (.ref C_TooFull) (.ref C_HallError) = some true)
  (q_TooFull_s_TooFull:PySem.W.subIn K (.ref C_TooFull) (.ref C_TooFull) = some true)
  (q_TooFull_s_NoTable:PySem.W.subIn K (.ref C_TooFull) (.ref C_NoTable) = some false)
  (q_NoTable_sa:PySem.W.findIn K (.ref C_NoTable) "__setattr__" = some (some (.builtin "object.__setattr__")))
  (q_NoTable_f_place:PySem.W.findIn K (.ref C_NoTable) "place" = some none)
  (q_NoTable_ga:PySem.W.findIn K (.ref C_NoTable) "__getattribute__" = some (some (.builtin "BaseException.__getattribute__"))) (q_NoTable_gn:PySem.W.findIn K (.ref C_NoTable) "__getattr__" = some none) (q_NoTable_cl:PySem.W.findIn K (.ref C_NoTable) "__class__" = some (some (.builtin "object.__class__"))) (q_NoTable_mo:PySem.W.mroIn K C_NoTable (.type "object") = some true) (q_NoTable_mb:PySem.W.mroIn K C_NoTable (.type "BaseException") = some true) (q_NoTable_sv:PySem.W.subIn K (.ref C_NoTable) (.type "ValueError") = some true)
  (q_NoTable_s_HallError:PySem.W.subIn K (.ref C_NoTable) (.ref C_HallError) = some true)
  (q_NoTable_s_TooFull:PySem.W.subIn K (.ref C_NoTable) (.ref C_TooFull) = some false)
  (q_NoTable_s_NoTable:PySem.W.subIn K (.ref C_NoTable) (.ref C_NoTable) = some true)
  {odm_TooFull___init__ anm_TooFull___init__:Option Addr} {slm_TooFull___init__:Array (Option Value)} {ocm_TooFull___init__ kvm_TooFull___init__ dcm_TooFull___init__ pmm_TooFull___init__ ctm_TooFull___init__ cdm_TooFull___init__:Value}
  (q_TooFull___init___a:PySem.W.findIn K (.ref C_TooFull) "__init__" = some (some (.ref fm_TooFull___init__))) (q_TooFull___init___i:PySem.W.isFn K (.ref fm_TooFull___init__) = true) (q_TooFull___init___l:K.lookup fm_TooFull___init__ = some ⟨ocm_TooFull___init__,odm_TooFull___init__,.func (PySem.W.fnOf "__init__" "TooFull.__init__" (j0 (B9 (top 2) 0)) (i8 (B9 (top 2) 0)) (d7 (B9 (top 2) 0)) .none kvm_TooFull___init__ dcm_TooFull___init__ pmm_TooFull___init__ anm_TooFull___init__ cdm_TooFull___init__ ctm_TooFull___init__),slm_TooFull___init__⟩) (q_TooFull___init___c:PySem.W.codeIn K cdm_TooFull___init__ "TooFull.__init__" = true) (q_TooFull___init___k:PySem.W.keepIn K (.ref fm_TooFull___init__) = true)
  {odm_NoTable___init__ anm_NoTable___init__:Option Addr} {slm_NoTable___init__:Array (Option Value)} {ocm_NoTable___init__ kvm_NoTable___init__ dcm_NoTable___init__ pmm_NoTable___init__ ctm_NoTable___init__ cdm_NoTable___init__:Value}
  (q_NoTable___init___a:PySem.W.findIn K (.ref C_NoTable) "__init__" = some (some (.ref fm_NoTable___init__))) (q_NoTable___init___i:PySem.W.isFn K (.ref fm_NoTable___init__) = true) (q_NoTable___init___l:K.lookup fm_NoTable___init__ = some ⟨ocm_NoTable___init__,odm_NoTable___init__,.func (PySem.W.fnOf "__init__" "NoTable.__init__" (j0 (B9 (top 3) 0)) (i8 (B9 (top 3) 0)) (d7 (B9 (top 3) 0)) .none kvm_NoTable___init__ dcm_NoTable___init__ pmm_NoTable___init__ anm_NoTable___init__ cdm_NoTable___init__ ctm_NoTable___init__),slm_NoTable___init__⟩) (q_NoTable___init___c:PySem.W.codeIn K cdm_NoTable___init__ "NoTable.__init__" = true) (q_NoTable___init___k:PySem.W.keepIn K (.ref fm_NoTable___init__) = true)
  (q_TooFull_xi:T3 K C_TooFull fm_TooFull___init__ = true)
  (q_NoTable_xi:T3 K C_NoTable fm_NoTable___init__ = true)
  (z_len:PySem.W.nsIn K mainGlobals "len" = some none) (z_isinstance:PySem.W.nsIn K mainGlobals "isinstance" = some none) (z_int:PySem.W.nsIn K mainGlobals "int" = some none) (z_bool:PySem.W.nsIn K mainGlobals "bool" = some none) (z_tuple:PySem.W.nsIn K mainGlobals "tuple" = some none) (z_list:PySem.W.nsIn K mainGlobals "list" = some none) (z_range:PySem.W.nsIn K mainGlobals "range" = some none) (z_abs:PySem.W.nsIn K mainGlobals "abs" = some none) (z_min:PySem.W.nsIn K mainGlobals "min" = some none) (z_max:PySem.W.nsIn K mainGlobals "max" = some none) (z_sorted:PySem.W.nsIn K mainGlobals "sorted" = some none) (z_zip:PySem.W.nsIn K mainGlobals "zip" = some none) (z_enumerate:PySem.W.nsIn K mainGlobals "enumerate" = some none) (z_divmod:PySem.W.nsIn K mainGlobals "divmod" = some none) (z_set:PySem.W.nsIn K mainGlobals "set" = some none) (z_reversed:PySem.W.nsIn K mainGlobals "reversed" = some none) (z_ValueError:PySem.W.nsIn K mainGlobals "ValueError" = some none) :
  ∃ fd:FuncData,(∀ (s:Shared) (v:Value),BindsTo s fd ⟨[v],[]⟩ [("_law_script",v)]) ∧ ∀ base:Heap,K.In base → base.Ns mainGlobals mg → FnOk l.prog w K mg base CX0 9 fa fd ["_law_script"] (aC7 K):=by
 have e:=hfa.symm.trans (PySem.W.mg_of X G a33)
 cases e
 have T:Txt K mg:=⟨PySem.W.mg_none_of X G z_len,PySem.W.mg_none_of X G z_isinstance,PySem.W.mg_none_of X G z_int,PySem.W.mg_none_of X G z_bool,PySem.W.mg_none_of X G z_tuple,PySem.W.mg_none_of X G z_list,PySem.W.mg_none_of X G z_range,PySem.W.mg_none_of X G z_abs,PySem.W.mg_none_of X G z_min,PySem.W.mg_none_of X G z_max,PySem.W.mg_none_of X G z_sorted,PySem.W.mg_none_of X G z_zip,PySem.W.mg_none_of X G z_enumerate,PySem.W.mg_none_of X G z_divmod,PySem.W.mg_none_of X G z_set,PySem.W.mg_none_of X G z_reversed,PySem.W.mg_none_of X G z_ValueError⟩
 have Z:TxtC K mg C_HallError C_TooFull C_NoTable:=⟨PySem.W.mg_of X G q_HallError_at,PySem.W.mg_of X G q_TooFull_at,PySem.W.mg_of X G q_NoTable_at,⟨_,PySem.W.mg_of X G q_TooFull_at,q_TooFull_xi,q_TooFull___init___a⟩,aB9 q_TooFull_xi q_TooFull_sa,⟨q_TooFull_ga,q_TooFull_gn,q_TooFull_cl,q_gt,q_tk,q_TooFull_mo,q_TooFull_mb,q_TooFull_ic⟩,aB2 q_TooFull_sv,aB4 q_HallError_ic q_HallError_ty q_TooFull_s_HallError q_hb,aa1 q_HallError_ic q_HallError_ty q_TooFull_s_HallError,aa1 q_TooFull_ic q_TooFull_ty q_TooFull_s_TooFull,aE6 q_NoTable_ic q_NoTable_ty q_TooFull_s_NoTable q_TooFull_s_TooFull,q_TooFull_f_side,q_TooFull_f_rack,q_TooFull_f_many,⟨_,PySem.W.mg_of X G q_NoTable_at,q_NoTable_xi,q_NoTable___init___a⟩,aB9 q_NoTable_xi q_NoTable_sa,⟨q_NoTable_ga,q_NoTable_gn,q_NoTable_cl,q_gt,q_tk,q_NoTable_mo,q_NoTable_mb,q_NoTable_ic⟩,aB2 q_NoTable_sv,aB4 q_HallError_ic q_HallError_ty q_NoTable_s_HallError q_hb,aa1 q_HallError_ic q_HallError_ty q_NoTable_s_HallError,aE6 q_TooFull_ic q_TooFull_ty q_NoTable_s_TooFull q_NoTable_s_NoTable,aa1 q_NoTable_ic q_NoTable_ty q_NoTable_s_NoTable,q_NoTable_f_place⟩
 have D_TooFull___init__:DefM K C_TooFull "__init__" "TooFull.__init__" (B9 (top 2) 0) ["self","side","rack","many"] [] noKw:=⟨fm_TooFull___init__,_,⟨⟨_,_,_,_,_,_,_,_,_,_,rfl,q_TooFull___init___l,q_TooFull___init___c⟩⟩,⟨q_TooFull___init___a,q_TooFull___init___i,q_TooFull___init___k⟩,trivial,fun m hm=>match m,hm with | 0,_=>⟨[],.nil,.all fun us hl=>match us,hl with | [_,_,_,_],_=>rfl⟩ | _ + 1,h=>absurd h (by simp)⟩
 have D_NoTable___init__:DefM K C_NoTable "__init__" "NoTable.__init__" (B9 (top 3) 0) ["self","place"] [] noKw:=⟨fm_NoTable___init__,_,⟨⟨_,_,_,_,_,_,_,_,_,_,rfl,q_NoTable___init___l,q_NoTable___init___c⟩⟩,⟨q_NoTable___init___a,q_NoTable___init___i,q_NoTable___init___k⟩,trivial,fun m hm=>match m,hm with | 0,_=>⟨[],.nil,.all fun us hl=>match us,hl with | [_,_],_=>rfl⟩ | _ + 1,h=>absurd h (by simp)⟩
 have D_is_number:Def K mg "is_number" (top 5) ["thing"]:=p5 X G a1 l1 c1 k1 fun us hl=>match us,hl with | [_],_=>rfl
 have D_is_whole:Def K mg "is_whole" (top 6) ["thing","least","most"]:=p5 X G a2 l2 c2 k2 fun us hl=>match us,hl with | [_,_,_],_=>rfl
 have D_place_in:Def K mg "place_in" (top 7) ["hall","caller"]:=p5 X G a3 l3 c3 k3 fun us hl=>match us,hl with | [_,_],_=>rfl
 have D_place_out:Def K mg "place_out" (top 8) ["hall","end"]:=p5 X G a4 l4 c4 k4 fun us hl=>match us,hl with | [_,_],_=>rfl
 have D_racks_of:Def K mg "racks_of" (top 9) ["hall","ends"]:=p5 X G a5 l5 c5 k5 fun us hl=>match us,hl with | [_,_],_=>rfl
 have D_is_entry:Def K mg "is_entry" (top 11) ["thing","firsts","seconds"]:=p5 X G a6 l6 c6 k6 fun us hl=>match us,hl with | [_,_,_],_=>rfl
 have D_first_wrong:Def K mg "first_wrong" (top 12) ["things","firsts","seconds"]:=p5 X G a7 l7 c7 k7 fun us hl=>match us,hl with | [_,_,_],_=>rfl
 have D_left_open:Def K mg "left_open" (top 14) ["hall","shut"]:=p5 X G a8 l8 c8 k8 fun us hl=>match us,hl with | [_,_],_=>rfl
 have D_side_weights:Def K mg "side_weights" (top 16) ["pairs","side"]:=p5 X G a9 l9 c9 k9 fun us hl=>match us,hl with | [_,_],_=>rfl
 have D_refuse_full:Def K mg "refuse_full" (top 18) ["pairs","ways"]:=p5 X G a10 l10 c10 k10 fun us hl=>match us,hl with | [_,_],_=>rfl
 have D_take:Def K mg "take" (top 19) ["taken","place","pair","number"]:=p5 X G a11 l11 c11 k11 fun us hl=>match us,hl with | [_,_,_,_],_=>rfl
 have D_leave:Def K mg "leave" (top 20) ["taken","pair","number"]:=p5 X G a12 l12 c12 k12 fun us hl=>match us,hl with | [_,_,_],_=>rfl
 have D_first_left:Def K mg "first_left" (top 21) ["places","rack"]:=p5 X G a13 l13 c13 k13 fun us hl=>match us,hl with | [_,_],_=>rfl
 have D_chain_along:Def K mg "chain_along" (top 22) ["pairs","taken","rack","a","b"]:=p5 X G a14 l14 c14 k14 fun us hl=>match us,hl with | [_,_,_,_,_],_=>rfl
 have D_exchange:Def K mg "exchange" (top 23) ["pairs","taken","numbers","chain","a","b"]:=p5 X G a15 l15 c15 k15 fun us hl=>match us,hl with | [_,_,_,_,_,_],_=>rfl
 have D_parted:Def K mg "parted" (top 24) ["pairs","ways"]:=p5 X G a16 l16 c16 k16 fun us hl=>match us,hl with | [_,_],_=>rfl
 have D_refuse_table:Def K mg "refuse_table" (top 26) ["hall","table"]:=p5 X G a17 l17 c17 k17 fun us hl=>match us,hl with | [_,_],_=>rfl
 have D_pairs_of:Def K mg "pairs_of" (top 27) ["hall","table"]:=p5 X G a18 l18 c18 k18 fun us hl=>match us,hl with | [_,_],_=>rfl
 have D_open_racks:DefD K mg "open_racks" (top 28) ["hall","shut"] [.int 0]:=⟨f19,_,⟨_,_,_,_,_,_,_,_,_,_,rfl,l19,c19⟩,k19,fun m hm=>match m,hm with | 0,_=>⟨[.int 0 td19_0],(.cons ⟨_,rfl⟩ .nil),fun s us X hl=>match us,(show us.length = 1 from by simpa using hl) with | [_],_=>BindsTo.of_defaults rfl (X _ _ dl19) rfl rfl rfl⟩ | 1,_=>⟨[],.nil,fun s us X hl=>match us,(show us.length = 2 from by simpa using hl) with | [_,_],_=>BindsTo.of_defaults rfl (X _ _ dl19) rfl rfl rfl⟩ | _ + 2,h=>absurd h (by simp),PySem.W.mg_of X G a19⟩
 have D_at_once:DefD K mg "at_once" (top 29) ["hall","table","shut"] [.int 0]:=⟨f20,_,⟨_,_,_,_,_,_,_,_,_,_,rfl,l20,c20⟩,k20,fun m hm=>match m,hm with | 0,_=>⟨[.int 0 td20_0],(.cons ⟨_,rfl⟩ .nil),fun s us X hl=>match us,(show us.length = 2 from by simpa using hl) with | [_,_],_=>BindsTo.of_defaults rfl (X _ _ dl20) rfl rfl rfl⟩ | 1,_=>⟨[],.nil,fun s us X hl=>match us,(show us.length = 3 from by simpa using hl) with | [_,_,_],_=>BindsTo.of_defaults rfl (X _ _ dl20) rfl rfl rfl⟩ | _ + 2,h=>absurd h (by simp),PySem.W.mg_of X G a20⟩
 have D_bars_of:Def K mg "bars_of" (top 31) ["hall","call"]:=p5 X G a21 l21 c21 k21 fun us hl=>match us,hl with | [_,_],_=>rfl
 have D__law_cell_at:Def K mg "_law_cell_at" (top 33) ["_law_script","_law_k"]:=p5 X G a22 l22 c22 k22 fun us hl=>match us,hl with | [_,_],_=>rfl
 have D__law_mixed:Def K mg "_law_mixed" (top 34) ["_law_cell","_law_k"]:=p5 X G a23 l23 c23 k23 fun us hl=>match us,hl with | [_,_],_=>rfl
 have D__law_whole:Def K mg "_law_whole" (top 35) ["_law_found"]:=p5 X G a24 l24 c24 k24 fun us hl=>match us,hl with | [_],_=>rfl
 have D__law_digit:Def K mg "_law_digit" (top 36) ["_law_left","_law_many"]:=p5 X G a25 l25 c25 k25 fun us hl=>match us,hl with | [_,_],_=>rfl
 have D__law_hall:Def K mg "_law_hall" (top 37) ["_law_cell"]:=p5 X G a26 l26 c26 k26 fun us hl=>match us,hl with | [_],_=>rfl
 have D__law_free_table:Def K mg "_law_free_table" (top 38) ["_law_hall_here","_law_left","_law_most"]:=p5 X G a27 l27 c27 k27 fun us hl=>match us,hl with | [_,_,_],_=>rfl
 have D__law_table:Def K mg "_law_table" (top 39) ["_law_script","_law_hall_here","_law_start","_law_last"]:=p5 X G a28 l28 c28 k28 fun us hl=>match us,hl with | [_,_,_,_],_=>rfl
 have D__law_too_full:Def K mg "_law_too_full" (top 40) ["_law_hall_here","_law_table_here","_law_many"]:=p5 X G a29 l29 c29 k29 fun us hl=>match us,hl with | [_,_,_],_=>rfl
 have D__law_answer:Def K mg "_law_answer" (top 41) ["_law_hall_here","_law_table_here","_law_shut","_law_told"]:=p5 X G a30 l30 c30 k30 fun us hl=>match us,hl with | [_,_,_,_],_=>rfl
 have D__law_right:Def K mg "_law_right" (top 42) ["_law_hall_here","_law_found","_law_table_here","_law_shut"]:=p5 X G a31 l31 c31 k31 fun us hl=>match us,hl with | [_,_,_,_],_=>rfl
 have D__law_walked:Def K mg "_law_walked" (top 43) ["_law_hall_here","_law_found"]:=p5 X G a32 l32 c32 k32 fun us hl=>match us,hl with | [_,_],_=>rfl
 have F:=aN1 (st:=top 44) l33 c33 k33
 refine ⟨PySem.W.fnOf "law" "law" (j0 (top 44)) (i8 (top 44)) (d7 (top 44)) .none kV33 dc33 pm33 an33 cd33 ct33,fun s v=>.of_eq rfl,fun base _ _=>?_⟩
 have C_cell:=aT7 (P:=l.prog) (w:=w) (base:=base) T D__law_cell_at
 have C_mix:=aJ1 (P:=l.prog) (w:=w) (base:=base) T D__law_mixed
 have C_dig:=aQ1 (P:=l.prog) (w:=w) (base:=base) T D__law_digit
 have C_isn:=aj4 (P:=l.prog) (w:=w) (base:=base) T D_is_number
 have C_isw:=ao0 T C_isn D_is_whole
 have C_fw:=aQ3 T (at8 T C_isw D_is_entry) D_first_wrong
 have C_rt:=aW5 T Z C_fw (aI1 T Z D_NoTable___init__) D_refuse_table
 have C_pi:=at3 (P:=l.prog) (w:=w) (base:=base) T D_place_in
 have C_pu:=aj2 (P:=l.prog) (w:=w) (base:=base) T D_place_out
 have C_po:=ax4 T Z C_rt C_pi C_pu D_pairs_of
 have C_tk:=aV0 (P:=l.prog) (w:=w) (base:=base) T D_take
 have C_rf:=aH8 (P:=l.prog) (w:=w) (base:=base) T Z (aW7 T D_side_weights) (aV6 T Z D_TooFull___init__) D_refuse_full
 have C_pd:=aH6 T Z C_rf (aV9 T D_first_left) (aP6 T D_chain_along) (aT1 T C_tk (aK5 T D_leave) D_exchange) C_tk D_parted
 have C_on:=aR2 T Z C_rt C_po (aL5 T (aT8 T D_left_open) D_open_racks) C_pd D_at_once
 have C_lw:=aE9 (P:=l.prog) (w:=w) (base:=base) T D__law_whole
 have C_br:=ax7 T C_pi C_pu (aQ0 T C_pu D_racks_of) D_bars_of
 exact aY2 T Z C_cell C_mix (aP9 T C_mix C_dig D__law_hall) (aL2 T C_cell C_mix (aM6 T C_dig D__law_free_table) D__law_table) (aF3 T Z C_on D__law_answer) (aI4 T D__law_too_full) (aw2 T C_lw D__law_right) (aH3 T C_br D__law_walked) F
end
theorem walk {l:PySem.W.OpenLaw} {q:Program} {loose:List Str} {XP:(Str → Option Value) → Heap → Prop} {YP:World → Heap → Prop} {d:DefRec} {K:Params → PySem.W.Frag} (hn:l.most = some 63) (hdf:d.params.defaults = [])
  (hY:∀ (w:World) (h:Heap),YP w h → (K w.params).In h)
  (F:∀ (w:World) (mg:Str → Option Value) (fa:Addr) (h:Heap),(K w.params).In h → h.Ns mainGlobals mg → mg d.name = some (.ref fa) →
   ∃ fd:FuncData,(∀ (s:Shared) (u:Value),BindsTo s fd ⟨[u],[]⟩ [("_law_script",u)]) ∧ ∀ base:Heap,(K w.params).In base → base.Ns mainGlobals mg → FnOk l.prog w (K w.params) mg base CX0 9 fa fd ["_law_script"] (aC7 (K w.params))) :
  PySem.W.WalkO q loose XP YP l.row.toRowW d [] (fun f vs=>PySem.call f vs) :=
 L2.aR6 (n:=63) (k:=9) (x:="_law_script") (CX:=fun _=>CX0) (sp:=fun w=>aC7 (K w.params)) hn (by decide) hdf ⟨rfl,by decide,by decide⟩ hY F (fun _ _ a ns hl _ hS=>⟨a,ns,rfl,hS,hl,fun _=>rfl⟩) fun _ _ _ _ _ z=>z
end My
open PySem PySem.W PyProof.Rows
set_option maxRecDepth 100000 in
set_option maxHeartbeats 0 in
theorem PySem.Challenge.cw_crossracks_k45_whole_at_once_holds : PySem.Challenge.rw_crossracks_k45_whole_at_once.Holds := by
 w_on; o_law; k_head; (case hw=>w_witness2)
 k_fill
 refine My.walk (l:=PySem.Challenge.rw_crossracks_k45_whole_at_once) rfl rfl (fun w h Y=>PySem.W.kIn_of Y) ?F
 case F =>
  intro w mg fa h KX G hmg
  refine' My.aY9 KX G hmg ?a1 ?l1 ?c1 ?k1 ?a2 ?l2 ?c2 ?k2 ?a3 ?l3 ?c3 ?k3 ?a4 ?l4 ?c4 ?k4 ?a5 ?l5 ?c5 ?k5 ?a6 ?l6 ?c6 ?k6 ?a7 ?l7 ?c7 ?k7 ?a8 ?l8 ?c8 ?k8 ?a9 ?l9 ?c9 ?k9 ?a10 ?l10 ?c10 ?k10 ?a11 ?l11 ?c11 ?k11 ?a12 ?l12 ?c12 ?k12 ?a13 ?l13 ?c13 ?k13 ?a14 ?l14 ?c14 ?k14 ?a15 ?l15 ?c15 ?k15 ?a16 ?l16 ?c16 ?k16 ?a17 ?l17 ?c17 ?k17 ?a18 ?l18 ?c18 ?k18 ?dl19 ?a19 ?l19 ?c19 ?k19 ?dl20 ?a20 ?l20 ?c20 ?k20 ?a21 ?l21 ?c21 ?k21 ?a22 ?l22 ?c22 ?k22 ?a23 ?l23 ?c23 ?k23 ?a24 ?l24 ?c24 ?k24 ?a25 ?l25 ?c25 ?k25 ?a26 ?l26 ?c26 ?k26 ?a27 ?l27 ?c27 ?k27 ?a28 ?l28 ?c28 ?k28 ?a29 ?l29 ?c29 ?k29 ?a30 ?l30 ?c30 ?k30 ?a31 ?l31 ?c31 ?k31 ?a32 ?l32 ?c32 ?k32 ?a33 ?l33 ?c33 ?k33   ?q_HallError_at ?q_TooFull_at ?q_NoTable_at ?q_HallError_ic ?q_HallError_ty ?q_TooFull_ic ?q_TooFull_ty ?q_NoTable_ic ?q_NoTable_ty ?q_hb ?q_gt ?q_tk ?q_TooFull_sa ?q_TooFull_f_side ?q_TooFull_f_rack ?q_TooFull_f_many ?q_TooFull_ga ?q_TooFull_gn ?q_TooFull_cl ?q_TooFull_mo ?q_TooFull_mb ?q_TooFull_sv ?q_TooFull_s_HallError ?q_TooFull_s_TooFull ?q_TooFull_s_NoTable ?q_NoTable_sa ?q_NoTable_f_place ?q_NoTable_ga ?q_NoTable_gn ?q_NoTable_cl ?q_NoTable_mo ?q_NoTable_mb ?q_NoTable_sv ?q_NoTable_s_HallError ?q_NoTable_s_TooFull ?q_NoTable_s_NoTable ?q_TooFull___init___a ?q_TooFull___init___i ?q_TooFull___init___l ?q_TooFull___init___c ?q_TooFull___init___k ?q_NoTable___init___a ?q_NoTable___init___i ?q_NoTable___init___l ?q_NoTable___init___c ?q_NoTable___init___k ?q_TooFull_xi ?q_NoTable_xi ?z_len ?z_isinstance ?z_int ?z_bool ?z_tuple ?z_list ?z_range ?z_abs ?z_min ?z_max ?z_sorted ?z_zip ?z_enumerate ?z_divmod ?z_set ?z_reversed ?z_ValueError
  (case a1=>k_is); (case l1=>k_is); (case c1=>k_is); (case k1=>k_is)
  (case a2=>k_is); (case l2=>k_is); (case c2=>k_is); (case k2=>k_is)
  (case a3=>k_is); (case l3=>k_is); (case c3=>k_is); (case k3=>k_is)
  (case a4=>k_is); (case l4=>k_is); (case c4=>k_is); (case k4=>k_is)
  (case a5=>k_is); (case l5=>k_is); (case c5=>k_is); (case k5=>k_is)
  (case a6=>k_is); (case l6=>k_is); (case c6=>k_is); (case k6=>k_is)
  (case a7=>k_is); (case l7=>k_is); (case c7=>k_is); (case k7=>k_is)
  (case a8=>k_is); (case l8=>k_is); (case c8=>k_is); (case k8=>k_is)
  (case a9=>k_is); (case l9=>k_is); (case c9=>k_is); (case k9=>k_is)
  (case a10=>k_is); (case l10=>k_is); (case c10=>k_is); (case k10=>k_is)
  (case a11=>k_is); (case l11=>k_is); (case c11=>k_is); (case k11=>k_is)
  (case a12=>k_is); (case l12=>k_is); (case c12=>k_is); (case k12=>k_is)
  (case a13=>k_is); (case l13=>k_is); (case c13=>k_is); (case k13=>k_is)
  (case a14=>k_is); (case l14=>k_is); (case c14=>k_is); (case k14=>k_is)
  (case a15=>k_is); (case l15=>k_is); (case c15=>k_is); (case k15=>k_is)
  (case a16=>k_is); (case l16=>k_is); (case c16=>k_is); (case k16=>k_is)
  (case a17=>k_is); (case l17=>k_is); (case c17=>k_is); (case k17=>k_is)
  (case a18=>k_is); (case l18=>k_is); (case c18=>k_is); (case k18=>k_is)
  (case a19=>k_is); (case l19=>k_is); (case dl19=>k_is); (case c19=>k_is); (case k19=>k_is)
  (case a20=>k_is); (case l20=>k_is); (case dl20=>k_is); (case c20=>k_is); (case k20=>k_is)
  (case a21=>k_is); (case l21=>k_is); (case c21=>k_is); (case k21=>k_is)
  (case a22=>k_is); (case l22=>k_is); (case c22=>k_is); (case k22=>k_is)
  (case a23=>k_is); (case l23=>k_is); (case c23=>k_is); (case k23=>k_is)
  (case a24=>k_is); (case l24=>k_is); (case c24=>k_is); (case k24=>k_is)
  (case a25=>k_is); (case l25=>k_is); (case c25=>k_is); (case k25=>k_is)
  (case a26=>k_is); (case l26=>k_is); (case c26=>k_is); (case k26=>k_is)
  (case a27=>k_is); (case l27=>k_is); (case c27=>k_is); (case k27=>k_is)
  (case a28=>k_is); (case l28=>k_is); (case c28=>k_is); (case k28=>k_is)
  (case a29=>k_is); (case l29=>k_is); (case c29=>k_is); (case k29=>k_is)
  (case a30=>k_is); (case l30=>k_is); (case c30=>k_is); (case k30=>k_is)
  (case a31=>k_is); (case l31=>k_is); (case c31=>k_is); (case k31=>k_is)
  (case a32=>k_is); (case l32=>k_is); (case c32=>k_is); (case k32=>k_is)
  (case a33=>k_is); (case l33=>k_is); (case c33=>k_is); (case k33=>k_is)
  (case q_HallError_at=>k_is)
  (case q_TooFull_at=>k_is)
  (case q_NoTable_at=>k_is)
  (case q_HallError_ic=>k_is)
  (case q_HallError_ty=>k_is)
  (case q_TooFull_ic=>k_is)
  (case q_TooFull_ty=>k_is)
  (case q_NoTable_ic=>k_is)
  (case q_NoTable_ty=>k_is)
  (case q_hb=>k_is)
  (case q_gt=>k_is)
  (case q_tk=>k_is)
  (case q_TooFull_sa=>k_is)
  (case q_TooFull_f_side=>k_is)
  (case q_TooFull_f_rack=>k_is)
  (case q_TooFull_f_many=>k_is)
  (case q_TooFull_ga=>k_is)
  (case q_TooFull_gn=>k_is)
  (case q_TooFull_cl=>k_is)
  (case q_TooFull_mo=>k_is)
  (case q_TooFull_mb=>k_is)
  (case q_TooFull_sv=>k_is)
  (case q_TooFull_s_HallError=>k_is)
  (case q_TooFull_s_TooFull=>k_is)
  (case q_TooFull_s_NoTable=>k_is)
  (case q_NoTable_sa=>k_is)
  (case q_NoTable_f_place=>k_is)
  (case q_NoTable_ga=>k_is)
  (case q_NoTable_gn=>k_is)
  (case q_NoTable_cl=>k_is)
  (case q_NoTable_mo=>k_is)
  (case q_NoTable_mb=>k_is)
  (case q_NoTable_sv=>k_is)
  (case q_NoTable_s_HallError=>k_is)
  (case q_NoTable_s_TooFull=>k_is)
  (case q_NoTable_s_NoTable=>k_is)
  (case q_TooFull___init___a=>k_is)
  (case q_TooFull___init___i=>k_is)
  (case q_TooFull___init___l=>k_is)
  (case q_TooFull___init___c=>k_is)
  (case q_TooFull___init___k=>k_is)
  (case q_NoTable___init___a=>k_is)
  (case q_NoTable___init___i=>k_is)
  (case q_NoTable___init___l=>k_is)
  (case q_NoTable___init___c=>k_is)
  (case q_NoTable___init___k=>k_is)
  (case q_TooFull_xi=>kernel_rfl)
  (case q_NoTable_xi=>kernel_rfl)
  (case z_len=>k_is)
  (case z_isinstance=>k_is)
  (case z_int=>k_is)
  (case z_bool=>k_is)
  (case z_tuple=>k_is)
  (case z_list=>k_is)
  (case z_range=>k_is)
  (case z_abs=>k_is)
  (case z_min=>k_is)
  (case z_max=>k_is)
  (case z_sorted=>k_is)
  (case z_zip=>k_is)
  (case z_enumerate=>k_is)
  (case z_divmod=>k_is)
  (case z_set=>k_is)
  (case z_reversed=>k_is)
  (case z_ValueError=>k_is)
